import PyProof.Rows.All
import Wide.All
import OpenK.AllK
import Wide.FinOn
import Lean
import PyProof.EqAt
import PyProof.EqKinds
import PyProof.TupleCall
import PyProof.NeKinds
import PyProof.ConsumeWalk
import PyProof.ZipIter
import PyProof.EnumMake
import PyProof.EnumFor
import PyProof.StrWalks
import PyProof.ListStr
import PyProof.SliceStr2
import PyProof.StrBlockI
import PyProof.Rows.StrWeight2
import PyProof.Rows.ZipGen
import PyProof.Rows.StrIndexOr
import PyProof.Draws
import PyProof.RaisesStr
import PyProof.Rows.StrCountLaw
import PyProof.SumWalk
import PyProof.ReprRoads
import PyProof.ReprLen
import PyProof.CallFns
import PyProof.SumAny
import PySem.Challenge.RW_wordrules_k58_plan_texts
set_option Elab.async false
set_option linter.all false
set_option maxRecDepth 100000
namespace L2
open PySem PySem.Spec PyProof.Rows
abbrev Key:=Sum Int Str
def jT:Key→Value→Bool
 | .inl k,v=>Value.isInt k v
 | .inr x,v=>Value.isStrOf x v
def Hy (w:World):Key→Int
 | .inl k=>hashInt k
 | .inr x=>hashStr w x
theorem bG:∀ {k:Key} {v:Value},jT k v=true→(∃ i t,k=Sum.inl i∧v=Value.int i t)∨(∃ x t,k=Sum.inr x∧v=Value.str x t)
 | .inl i,v,h=>by
  obtain ⟨t,e⟩:=Value.isInt_shape (k:=i) (v:=v) h
  exact .inl ⟨i,t,rfl,e⟩
 | .inr x,v,h=>by
  obtain ⟨t,e⟩:=Value.isStrOf_shape (x:=x) (v:=v) h
  exact .inr ⟨x,t,rfl,e⟩
theorem sf (i:Int) (t:Tok):jT (.inl i) (.int i t)=true:=by simp [jT,Value.isInt]
theorem se (x:Str) (t:Tok):jT (.inr x) (.str x t)=true:=by simp [jT,Value.isStrOf]
theorem sd (a b:Int):decide ((Sum.inl a:Key)=Sum.inl b)=(a == b):=by
 by_cases e:a=b
 ·subst e; simp
 ·have h:¬ (Sum.inl a:Key)=Sum.inl b:=fun q=>e (Sum.inl.inj q)
  rw [decide_eq_false h]
  exact (beq_eq_false_iff_ne.mpr e).symm
theorem r6 (a b:Str):decide ((Sum.inr a:Key)=Sum.inr b)=decide (a=b):=by
 by_cases e:a=b
 ·subst e; simp
 ·have h:¬ (Sum.inr a:Key)=Sum.inr b:=fun q=>e (Sum.inr.inj q)
  rw [decide_eq_false h,decide_eq_false e]
theorem r9 (a:Int) (b:Str):decide ((Sum.inl a:Key)=Sum.inr b)=false:=decide_eq_false (fun q=>nomatch q)
theorem r8 (a:Str) (b:Int):decide ((Sum.inr a:Key)=Sum.inl b)=false:=decide_eq_false (fun q=>nomatch q)
def bx (prog:Program) (w:World):PySem.KeyKind prog w Key where
 is:=jT
 hash:=Hy w
 inj:=fun v a b ha hb=>by
  rcases bG ha with ⟨i,t,rfl,rfl⟩ | ⟨x,t,rfl,rfl⟩
  ·rcases bG hb with ⟨j,u,rfl,e⟩ | ⟨y,u,rfl,e⟩
   ·injection e with e1 _; rw [e1]
   ·exact nomatch e
  ·rcases bG hb with ⟨j,u,rfl,e⟩ | ⟨y,u,rfl,e⟩
   ·exact nomatch e
   ·injection e with e1 _; rw [e1]
 byValue:=fun k v h=>by
  rcases bG h with ⟨i,t,rfl,rfl⟩ | ⟨x,t,rfl,rfl⟩ <;> rfl
 pyHash:=fun hv h=>by
  rcases bG hv with ⟨i,t,rfl,rfl⟩ | ⟨x,t,rfl,rfl⟩
  ·exact wpAny_pyHash_int h
  ·exact wpAny_pyHash_str h
 eqBool:=fun hu hv h=>by
  rcases bG hu with ⟨i,t,rfl,rfl⟩ | ⟨x,t,rfl,rfl⟩
  ·rcases bG hv with ⟨j,u,rfl,rfl⟩ | ⟨y,u,rfl,rfl⟩
   ·rw [sd] at h; exact wpAny_eqBool_int h
   ·rw [r9] at h; exact SeqAt.EqAt.int_str i t y u _ _ _ _ h
  ·rcases bG hv with ⟨j,u,rfl,rfl⟩ | ⟨y,u,rfl,rfl⟩
   ·rw [r8] at h; exact SeqAt.EqAt.str_int x t j u _ _ _ _ h
   ·rw [r6] at h; exact wpAny_eqBool_str h
 «strs»:=fun k x t v h=>by
  rcases bG h with ⟨i,u,rfl,e⟩ | ⟨y,u,rfl,e⟩
  ·exact nomatch e
  ·injection e with e1 _
   subst e1
   cases v <;> rfl
theorem oZ (prog:Program) (w:World) (i:Int) (t:Tok):(bx prog w).is (.inl i) (.int i t)=true:=sf i t
theorem oY (prog:Program) (w:World) (x:Str) (t:Tok):(bx prog w).is (.inr x) (.str x t)=true:=se x t
end L2
namespace L2
open PySem PySem.Spec PyProof.Rows
inductive V where
 | non | bl (b:Bool) | int (i:Int) | str (x:Str) | byt (b:Array UInt8) | flt (b:UInt64) | ref (a:Addr) | ty (n:String)
 deriving DecidableEq
def RelV:V→Value→Prop
 | .non,u=>u=Value.none
 | .bl b,u=>u=Value.bool b
 | .int i,u=>∃ t,u=Value.int i t
 | .str x,u=>∃ t,u=Value.str x t
 | .byt b,u=>∃ t,u=Value.bytes b t
 | .flt b,u=>∃ t,u=Value.float b t
 | .ref a,u=>u=Value.ref a
 | .ty n,u=>u=Value.type n
abbrev Vals:List V→List Value→Prop:=Paired RelV
theorem Vals.length {xs:List V} {us:List Value} (r:Vals xs us):xs.length=us.length:=Paired.length r
theorem Vals.get:∀ {xs:List V} {us:List Value} {i:Nat} {x:V},Vals xs us→xs[i]?=some x→∃ u,us[i]?=some u∧RelV x u
 | _,_,_,_,.nil,e=>by simp at e
 | _,_,0,_,.cons r _,e=>by simp at e; subst e; exact ⟨_,rfl,r⟩
 | _,_,i+1,x,.cons _ t,e=>by
  obtain ⟨u,h1,h2⟩:=Vals.get (i:=i) (x:=x) t (by simpa using e)
  exact ⟨u,by simpa using h1,h2⟩
theorem Vals.set {x:V} {u:Value} (r:RelV x u):∀ {xs:List V} {us:List Value} (i:Nat),Vals xs us→Vals (xs.set i x) (us.set i u)
 | _,_,_,.nil=>.nil
 | _,_,0,.cons _ t=>.cons r t
 | _,_,i+1,.cons q t=>.cons q (Vals.set r i t)
theorem Vals.append:∀ {xs ys:List V} {us ws:List Value},Vals xs us→Vals ys ws→Vals (xs++ys) (us++ws)
 | _,_,_,_,.nil,s=>s
 | _,_,_,_,.cons r t,s=>.cons r (Vals.append t s)
theorem Vals.take:∀ {xs:List V} {us:List Value} (n:Nat),Vals xs us→Vals (xs.take n) (us.take n)
 | _,_,0,_=>.nil
 | _,_,_+1,.nil=>.nil
 | _,_,n+1,.cons r t=>.cons r (Vals.take n t)
theorem Vals.drop:∀ {xs:List V} {us:List Value} (n:Nat),Vals xs us→Vals (xs.drop n) (us.drop n)
 | _,_,0,r=>r
 | _,_,_+1,.nil=>.nil
 | _,_,n+1,.cons _ t=>Vals.drop n t
def RelO:Option V→Option Value→Prop
 | some v,some u=>RelV v u
 | none,none=>True
 | _,_=>False
def KV {κ:Type}:List (κ × V)→List (κ × Value)→Prop:=Paired fun (p:κ × V) (q:κ × Value)=>p.1=q.1∧RelV p.2 q.2
def kV:Key→V
 | .inl i=>.int i
 | .inr x=>.str x
inductive HO where
 | lst (xs:List V)
 | tup (xs:List V)
 | dK (kvs:List (Key × V)) | dT (kvs:List (List Key × V))
 | set (S:Int→Bool) (n:Nat)
 | ins (C dx:Addr) (fs:List (Str × V))
 | own (x:Addr)
 | xd (fs:List (Str × V))
 | met (f x:Addr)
 | rng (lo hi:Int)
 | frz (o:Obj) (u:HO)
 | tbl (ps:Array Value)
 | ext (φ:Heap→Prop)
abbrev Hp:=Addr→Option HO
def upd (H:Hp) (a:Addr) (o:HO):Hp:=fun b=>if b=a then some o else H b
theorem aG {H:Hp} {a:Addr} {o:HO}:upd H a o a=some o:=by unfold upd; rw [if_pos rfl]
theorem aK {H:Hp} {a b:Addr} {o:HO} (h:b≠a):upd H a o b=H b:=by unfold upd; rw [if_neg h]
theorem GO {H:Hp} {a b:Addr} {o u:HO} (h:H a=some o) (h':H b=some u) (d:o≠u):a≠b:=by
 intro e; subst e; rw [h] at h'; exact d (Option.some.inj h')
theorem bF {H:Hp} {a b:Addr} {o:HO} (h:H a=some o) (h':H b=none):a≠b:=by
 intro e; subst e; rw [h] at h'; cases h'
def IsTupN (h:Heap) (a:Addr) (its:Array Value):Prop:=∃ o,h.get? a=some o∧o.cls=.type "tuple"∧∃ n,o.data=.seq its n∧o.dict=none
theorem IsTupN.tup {h:Heap} {a:Addr} {its:Array Value} (x:IsTupN h a its):IsTup h a its:=by
 obtain ⟨o,h1,h2,n,h3,_⟩:=x
 exact ⟨o,h1,h2,n,h3⟩
theorem IsTupN.lt {h:Heap} {a:Addr} {its:Array Value} (x:IsTupN h a its):a < h.objs.size:=Heap.lt_size x.choose_spec.1
theorem IsTupN.new (h:Heap) (its:Array Value):IsTupN (h.push { cls:=.type "tuple",data:=.seq its }) h.objs.size its:=⟨_,Heap.get?_push_size _ rfl,rfl,_,rfl,rfl⟩
section
variable (P:Program) (w:World)
def ObjOk (H:Hp) (h:Heap) (a:Addr):HO→Prop
 | .lst xs=>xs.length≤sizeLine∧∃ (its:List Value) (n:Nat),Vals xs its∧h.get? a=some { cls:=.type "list",data:=.seq its.toArray n }
 | .tup xs=>xs.length≤sizeLine∧∃ its:List Value,Vals xs its∧IsTupN h a its.toArray
 | .dK kvs=>kvs.length≤sizeLine∧(a == sysModules)=false∧∃ vs,KV kvs vs∧h.DictOf (bx P w) a vs
 | .dT kvs=>kvs.length≤sizeLine∧(a == sysModules)=false∧∃ xs:List (List Key × Addr × Value),
   Paired (fun (p:List Key × V) (q:List Key × Addr × Value)=>p.1=q.1∧H q.2.1=some (.tup (p.1.map kV))∧RelV p.2 q.2.2) kvs xs ∧
   ∃ o es ep,h.get? a=some o∧o.ExactDict∧o.data=.dict es ep∧es.toList=xs.map (entryOfKey (tupleKind (bx P w)))∧(xs.map (·.1)).Nodup
 | .set S n=>h.SetOf (intKind P w) a S n
 | .ins C dx fs=>H dx=some (.own a)∧fs.length≤1000∧dx≠a∧h.get? a=some (PySem.W.instObj C dx) ∧
   ∃ mA,h.Ns1 dx mA∧(∀ f,RelO (fs.lookup f) (mA f))∧PySem.Within mA (fs.map (·.1))
 | .own _=>∃ o,h.get? a=some o
 | .xd fs=>∃ mA,h.Ns1 a mA∧∀ f,RelO (fs.lookup f) (mA f)
 | .rng lo hi=>∃ t u v,h.get? a=some { cls:=.type "range",data:=.fields #[.int lo t,.int hi u,.int 1 v] }
 | .frz o u=>h.get? a=some o∧ObjOk H h a u
 | .tbl ps=>h.get? a=some { cls:=.none,data:=.fields ps }
 | .met f x=>h.get? a=some (PySem.W.methodObj (.ref f) (.ref x))
 | .ext φ=>φ h∧(∃ o,h.get? a=some o)∧∀ h1 h2:Heap,φ h1→(∀ o,h1.get? a=some o→h2.get? a=some o)→φ h2
def HOk (H:Hp) (h:Heap):Prop:=∀ a o,H a=some o→ObjOk P w H h a o
end
section
variable {P:Program} {w:World} {H H':Hp} {h h':Heap} {a:Addr} {o:HO}
theorem ObjOk.lt (x:ObjOk P w H h a o):a < h.objs.size:=by
 cases o with
 | lst xs=>obtain ⟨_,_,_,_,e⟩:=x; exact Heap.lt_size e
 | tup xs=>obtain ⟨_,_,_,p⟩:=x; exact p.lt
 | dK kvs=>obtain ⟨_,_,_,_,o,_,_,e,_⟩:=x; exact Heap.lt_size e
 | dT kvs=>obtain ⟨_,_,_,_,o,_,_,e,_⟩:=x; exact Heap.lt_size e
 | set S n=>obtain ⟨o,_,_,_,e,_⟩:=x; exact Heap.lt_size e
 | ins C dx fs=>obtain ⟨_,_,_,e,_⟩:=x; exact Heap.lt_size e
 | own y=>obtain ⟨_,e⟩:=x; exact Heap.lt_size e
 | xd fs=>obtain ⟨_,⟨_,_,_,e,_⟩,_⟩:=x; exact Heap.lt_size e
 | rng lo hi=>obtain ⟨_,_,_,e⟩:=x; exact Heap.lt_size e
 | frz ob u=>obtain ⟨e,_⟩:=x; exact Heap.lt_size e
 | tbl ps=>exact Heap.lt_size (show h.get? a=some _ from x)
 | met f y=>exact Heap.lt_size (show h.get? a=some _ from x)
 | ext φ=>obtain ⟨_,⟨_,e⟩,_⟩:=x; exact Heap.lt_size e
theorem Paired.mapP {α β:Type} {F G:α→β→Prop}:∀ {l₁:List α} {l₂:List β},Paired F l₁ l₂→(∀ a b,F a b→G a b)→Paired G l₁ l₂
 | _,_,.nil,_=>.nil
 | _,_,.cons r t,f=>.cons (f _ _ r) (Paired.mapP t f)
theorem ObjOk.stay (x:ObjOk P w H h a o) (k:∀ b u,(b=a∨H b=some (.own a))→h.get? b=some u→h'.get? b=some u)
  (ho:∀ b,H b=some (.own a)→H' b=some (.own a)) (ht:∀ b xs,H b=some (.tup xs)→H' b=some (.tup xs)):ObjOk P w H' h' a o:=by
 induction o with
 | lst xs=>obtain ⟨z,its,n,r,e⟩:=x; exact ⟨z,its,n,r,k _ _ (.inl rfl) e⟩
 | tup xs=>obtain ⟨z,its,r,ob,e,c⟩:=x; exact ⟨z,its,r,ob,k _ _ (.inl rfl) e,c⟩
 | dK kvs=>obtain ⟨z,y,vs,r,ob,es,ep,e,c⟩:=x; exact ⟨z,y,vs,r,ob,es,ep,k _ _ (.inl rfl) e,c⟩
 | dT kvs =>
  obtain ⟨z,y,xs,r,ob,es,ep,e,c⟩:=x
  exact ⟨z,y,xs,Paired.mapP r fun p q z=>⟨z.1,ht _ _ z.2.1,z.2.2⟩,ob,es,ep,k _ _ (.inl rfl) e,c⟩
 | set S n=>obtain ⟨ob,es,ep,t,e,c⟩:=x; exact ⟨ob,es,ep,t,k _ _ (.inl rfl) e,c⟩
 | ins C dx fs =>
  obtain ⟨d,z,ne,e,mA,⟨od,es,ep,e2,c⟩,r⟩:=x
  exact ⟨ho _ d,z,ne,k _ _ (.inl rfl) e,mA,⟨od,es,ep,k _ _ (.inr d) e2,c⟩,r⟩
 | own y=>obtain ⟨ob,e⟩:=x; exact ⟨ob,k _ _ (.inl rfl) e⟩
 | xd fs=>obtain ⟨mA,⟨od,es,ep,e,c⟩,r⟩:=x; exact ⟨mA,⟨od,es,ep,k _ _ (.inl rfl) e,c⟩,r⟩
 | rng lo hi=>obtain ⟨t,u,v,e⟩:=x; exact ⟨t,u,v,k _ _ (.inl rfl) e⟩
 | frz ob u ih=>obtain ⟨e,q⟩:=x; exact ⟨k _ _ (.inl rfl) e,ih q⟩
 | tbl ps =>
  have e:h.get? a=some { cls:=.none,data:=.fields ps }:=x
  show h'.get? a=some { cls:=.none,data:=.fields ps }
  exact k a _ (.inl rfl) e
 | met f y =>
  have e:h.get? a=some (PySem.W.methodObj (.ref f) (.ref y)):=x
  show h'.get? a=some (PySem.W.methodObj (.ref f) (.ref y))
  exact k a _ (.inl rfl) e
 | ext φ=>obtain ⟨p,⟨o,e⟩,st⟩:=x; exact ⟨st _ _ p fun o q=>k _ _ (.inl rfl) q,⟨o,k _ _ (.inl rfl) e⟩,st⟩
theorem HOk.lt (x:HOk P w H h) (e:H a=some o):a < h.objs.size:=(x a o e).lt
theorem HOk.fresh (x:HOk P w H h) (e:h.objs.size≤a):H a=none:=by
 cases q:H a with
 | none=>rfl
 | some u=>exact absurd (Nat.lt_of_lt_of_le (x.lt q) e) (Nat.lt_irrefl _)
theorem HOk.kept (x:HOk P w H h) (k:∀ b u,h.get? b=some u→h'.get? b=some u):HOk P w H h':=fun a o e =>
 (x a o e).stay (fun b u _ q=>k b u q) (fun _ q=>q) fun _ _ q=>q
theorem HOk.laid (x:HOk P w H h) (k:∀ b u,h.get? b=some u→h'.get? b=some u) (hp:h.objs.size≤a) (new:ObjOk P w (upd H a o) h' a o):HOk P w (upd H a o) h':=fun b u e=>by
 have hn:=x.fresh hp
 by_cases hb:b=a
 ·subst hb; rw [aG] at e; cases e; exact new
 ·rw [aK hb] at e
  exact (x b u e).stay (fun c v _ q=>k c v q) (fun c q=>by rw [aK (bF q hn)]; exact q) fun c xs q=>by rw [aK (bF q hn)]; exact q
end
def Rd (H:Hp) (a:Addr) (u:HO):Prop:=H a=some u∨∃ o,H a=some (.frz o u)
theorem Rd.ok {P:Program} {w:World} {H:Hp} {h:Heap} {a:Addr} {u:HO} (r:Rd H a u) (x:HOk P w H h):ObjOk P w H h a u:=by
 rcases r with r | ⟨o,r⟩
 ·exact x a u r
 ·obtain ⟨_,q⟩:=x a _ r
  exact q
def Mut:Option HO→Prop
 | some (.lst _)=>True
 | some (.dK _)=>True
 | some (.dT _)=>True
 | some (.set _ _)=>True
 | some (.ins _ _ _)=>True
 | some (.ext _)=>True
 | _=>False
section
variable {P:Program} {w:World} {H:Hp} {h h':Heap} {x e:Addr} {o':HO}
theorem HOk.write (ok:HOk P w H h) (mu:Mut (H x)) (he:e=x∨H e=some (.own x)) (k:∀ b u,b≠e→h.get? b=some u→h'.get? b=some u) (heo:∃ u,h'.get? e=some u)
  (new:ObjOk P w (upd H x o') h' x o'):HOk P w (upd H x o') h':=fun b u q=>by
 have nown:∀ c y,H c=some (.own y)→c≠x:=fun c y r z=>by subst z; rw [r] at mu; exact mu
 have ntup:∀ c xs,H c=some (.tup xs)→c≠x:=fun c xs r z=>by subst z; rw [r] at mu; exact mu
 by_cases hb:b=x
 ·subst hb; rw [aG] at q; cases q; exact new
 ·rw [aK hb] at q
  by_cases hbe:b=e
  ·have q':H b=some (.own x):=by
    rcases he with z | z
    ·exact absurd (hbe.trans z) hb
    ·rw [hbe]; exact z
   rw [q] at q'; cases q'
   obtain ⟨v,hv⟩:=heo
   exact ⟨v,by rw [hbe]; exact hv⟩
  ·refine (ok b u q).stay (fun c v hc r=>k c v ?_ r) (fun c r=>by rw [aK (nown c b r)]; exact r) fun c xs r=>by rw [aK (ntup c xs r)]; exact r
   rcases hc with rfl | hc
   ·exact hbe
   ·rintro rfl
    rcases he with z | z
    ·exact nown c b hc z
    ·rw [hc] at z; cases z; exact hb rfl
end
structure Un (fs ex:List Addr) (H H':Hp) (h h':Heap):Prop where
 keep:∀ b o,h.get? b=some o→H b=none→b ∉ fs→b ∉ ex→h'.get? b=some o
 slot:∀ b o,h.get? b=some o→H b=none→b∈fs→b ∉ ex→∃ sl,h'.get? b=some { o with slots:=sl }
 free:∀ b o,h.get? b=some o→H b=none→b ∉ ex→H' b=none
 there:∀ b o,h.get? b=some o→b ∉ ex→∃ o',h'.get? b=some o'
 tups:∀ b xs,H b=some (.tup xs)→H' b=some (.tup xs)
 frzs:∀ b o u,H b=some (.frz o u)→H' b=some (.frz o u)
 tbls:∀ b ps,H b=some (.tbl ps)→∃ more,H' b=some (.tbl (ps++more))
section
variable {fs fs' ex ex':List Addr} {H H1 H2:Hp} {h h1 h2 h':Heap} {a x e:Addr} {o:HO}
theorem Un.any (u:Un fs ex H H1 h h1) {b:Addr} {ob:Obj} (q:h.get? b=some ob) (n:H b=none) (hx:b ∉ ex):∃ sl,h1.get? b=some { ob with slots:=sl }:=by
 by_cases hb:b∈fs
 ·exact u.slot b ob q n hb hx
 ·exact ⟨ob.slots,u.keep b ob q n hb hx⟩
theorem Un.trans (a:Un fs ex H H1 h h1) (b:Un fs ex H1 H2 h1 h2):Un fs ex H H2 h h2 where
 keep:=fun c ob q n hc hx=>b.keep c ob (a.keep c ob q n hc hx) (a.free c ob q n hx) hc hx
 slot:=fun c ob q n hc hx=>by
  obtain ⟨sl,e1⟩:=a.slot c ob q n hc hx
  obtain ⟨sl',e2⟩:=b.slot c _ e1 (a.free c ob q n hx) hc hx
  exact ⟨sl',e2⟩
 free:=fun c ob q n hx=>by
  obtain ⟨o',e1⟩:=a.there c ob q hx
  exact b.free c o' e1 (a.free c ob q n hx) hx
 there:=fun c ob q hx=>by
  obtain ⟨o',e1⟩:=a.there c ob q hx
  exact b.there c o' e1 hx
 tups:=fun c xs q=>b.tups c xs (a.tups c xs q)
 frzs:=fun c ob xs q=>b.frzs c ob xs (a.frzs c ob xs q)
 tbls:=fun c ps q=>by
  obtain ⟨m1,e1⟩:=a.tbls c ps q
  obtain ⟨m2,e2⟩:=b.tbls c _ e1
  exact ⟨m1++m2,by rw [e2,Array.append_assoc]⟩
theorem Un.kept (k:∀ b u,h.get? b=some u→h'.get? b=some u):Un fs ex H H h h' :=
 ⟨fun b ob q _ _ _=>k b ob q,fun b ob q _ _ _=>⟨ob.slots,k b ob q⟩,fun _ _ _ n _=>n,fun b ob q _=>⟨ob,k b ob q⟩,fun _ _ q=>q,fun _ _ _ q=>q,fun _ ps q=>⟨#[],by rw [q]; simp⟩⟩
theorem Un.refl:Un fs ex H H h h:=Un.kept fun _ _ q=>q
theorem Un.laid (k:∀ b u,h.get? b=some u→h'.get? b=some u) (hp:h.objs.size≤a) (hn:H a=none):Un fs ex H (upd H a o) h h' where
 keep:=fun b u q _ _ _=>k b u q
 slot:=fun b u q _ _ _=>⟨u.slots,k b u q⟩
 free:=fun b u q n _=>by rw [aK (Nat.ne_of_lt (Nat.lt_of_lt_of_le (Heap.lt_size q) hp))]; exact n
 there:=fun b u q _=>⟨u,k b u q⟩
 tups:=fun b xs q=>by rw [aK (bF q hn)]; exact q
 frzs:=fun b u xs q=>by rw [aK (bF q hn)]; exact q
 tbls:=fun b ps q=>⟨#[],by rw [aK (bF q hn),q]; simp⟩
theorem Un.write (mu:Mut (H x)) (he:e=x∨H e=some (.own x)) (k:∀ b u,b≠e→h.get? b=some u→h'.get? b=some u) (heo:∃ u,h'.get? e=some u):Un fs ex H (upd H x o) h h':=by
 have hx:∀ b,H b=none→b≠x:=fun b n z=>by subst z; rw [n] at mu; exact mu
 have hb:∀ b,H b=none→b≠e:=fun b n z=>by
  subst z
  rcases he with r | r
  ·exact hx b n r
  ·rw [n] at r; cases r
 have hm:∀ b u,H b=some u→¬ Mut (some u)→b≠x:=fun b u q nm z=>by subst z; rw [q] at mu; exact nm mu
 refine ⟨fun b u q n _ _=>k b u (hb b n) q,fun b u q n _ _=>⟨u.slots,k b u (hb b n) q⟩,fun b u q n _=>by rw [aK (hx b n)]; exact n,fun b u q _=>?_,
  fun b xs q=>by rw [aK (hm b _ q fun z=>z)]; exact q,fun b u xs q=>by rw [aK (hm b _ q fun z=>z)]; exact q,fun b ps q=>⟨#[],by rw [aK (hm b _ q fun z=>z),q]; simp⟩⟩
 by_cases hbe:b=e
 ·subst hbe; exact heo
 ·exact ⟨u,k b u hbe q⟩
end
def trk (h:Heap) (H:Hp):List Addr:=(List.range h.objs.size).filter fun a=>(H a).isSome
def iF (h:Heap) (H:Hp):Heap:=PySem.W.hideAll h (trk h H)
theorem su (h:Heap) (H:Hp):(iF h H).objs.size=h.objs.size:=PySem.W.hideAll_size _ _
theorem uw {h:Heap} {H:Hp} {b:Addr} {o:Obj} (e:h.get? b=some o) (n:H b=none):(iF h H).get? b=some o :=
 PySem.W.hideAll_get _ e fun hm=>by
  have q:(H b).isSome=true:=(List.mem_filter.mp hm).2
  rw [n] at q; simp at q
theorem Bd {h:Heap} {H:Hp} {b:Addr} {o:Obj} (e:(iF h H).get? b=some o):h.get? b=some o∧H b=none:=by
 have e':h.get? b=some o:=PySem.W.of_hideAll (trk h H) e
 refine ⟨e',?_⟩
 cases q:H b with
 | none=>rfl
 | some x =>
  have hm:b∈trk h H:=List.mem_filter.mpr ⟨List.mem_range.mpr (Heap.lt_size e'),by simp [q]⟩
  have z:(iF h H).get? b=none:=PySem.W.hideAll_none (trk h H) hm
  rw [z] at e; cases e
def Cm (g h:Heap) (L:Addr):List (Addr × Obj):=(List.range h.objs.size).filterMap fun a=>if a=L∨(g.get? a).isSome=true then none else (h.get? a).map fun o=>(a,o)
def rest (g h:Heap) (L d:Addr):List (Addr × Obj):=(Cm g h L).filter fun p=>decide (p.1≠d)
end L2
namespace L2
open PySem PySem.Spec PyProof.Rows
structure Mod (K:PySem.W.Frag) (mg:Str→Option Value) (base:Heap):Prop where
 kin:K.In base
 glob:base.Ns mainGlobals mg
 blt:∃ mb,base.Ns builtinsNs mb∧∀ x:Str,x≠"__name__"→mb x=bootBuiltins x
 nolimit:base.NoLimit
structure Cx where
 prog:Program
 w:World
 K:PySem.W.Frag
 mg:Str→Option Value
 base:Heap
 A:Around
 N:List Str
 s₀:Shared
 H₀:Hp
 env:Env
 outer:List Env
 stack:List Env
 ex:List Addr
 fn:Str→Bool
 calm:Bool
 pn:List (Addr × Obj)
 xe:Value→Shared→Prop
def frs (l:List Env):List Addr:=l.filterMap (·.frame)
abbrev Cx.fs (X:Cx):List Addr:=frs X.outer
def Vis (sc:Scope) (x:Str):Prop:=sc.names.lookup x=some .local∨sc.names.lookup x=some .cell∨sc.names.lookup x=some .free
def Loc (sc:Scope) (x:Str):Prop:=sc.names.lookup x=some .local∨sc.names.lookup x=some .cell
def HN (env:Env) (h:Heap) (m:Str→Option Value) (x:Str) (u:Value):Prop :=
 (env.kindOf x=some .local∧m x=some u)∨((env.kindOf x=some .cell∨env.kindOf x=some .free)∧∃ c,env.cells.lookup x=some c∧h.IsCell c (some u))
structure Cx.Ok (X:Cx):Prop where
 mod:Mod X.K X.mg X.base
 kind:X.env.scope.kind=.function
 glob:X.env.globals=mainGlobals
 blt:X.env.builtins=builtinsNs
 above:X.s₀.heap.objs.size≤X.env.locals
 inj:∀ x y c,X.env.cells.lookup x=some c→X.env.cells.lookup y=some c→x=y
 has:∀ x,(X.env.kindOf x=some .cell∨X.env.kindOf x=some .free)→∃ c,X.env.cells.lookup x=some c
 cab:∀ x c,X.fn x=true→X.env.cells.lookup x=some c→X.s₀.heap.objs.size≤c
 hd:X.calm=true→X.A.handled=none
 frames:X.A.frames=some X.stack
 stk:X.stack=X.outer∨(X.stack=X.env :: X.outer∧X.env.frame=some X.env.locals)
 exf:∀ b∈X.ex,b≠X.env.locals∧∀ x c,X.env.cells.lookup x=some c→c≠b
 bs:∀ b o,X.base.get? b=some o→X.s₀.heap.get? b=some o∧X.H₀ b=none
 bsz:X.base.objs.size≤X.s₀.heap.objs.size
 noex:∀ b o,X.base.get? b=some o→b ∉ X.ex
 exfs:∀ b∈X.ex,b ∉ X.fs
 funs:X.s₀.heap.FunFrames X.base X.outer
 frf:∀ b∈X.fs,X.H₀ b=none
structure Inv (X:Cx) (pins:List (Addr × Obj)) (σ:List (Option V)) (H:Hp) (s:Shared):Prop where
 ok:X.Ok
 os:s.os=X.s₀.os
 bare:AllBare s.gens
 base:Un X.fs X.ex X.H₀ H X.s₀.heap s.heap
 loc:∃ m,s.heap.Ns X.env.locals m∧∀ (i:Nat) (x:Str) (v:V),X.N[i]?=some x→σ[i]?=some (some v)→Vis X.env.scope x→∃ u,RelV v u∧HN X.env s.heap m x u
 cell:∀ x c,X.env.cells.lookup x=some c→∃ v,s.heap.IsCell c v
 free:H X.env.locals=none
 freeC:∀ x c,X.env.cells.lookup x=some c→H c=none
 pin:∀ p∈X.pn++pins,s.heap.get? p.1=some p.2∧H p.1=none∧p.1≠X.env.locals∧p.1 ∉ X.fs∧∀ v,p.2.data≠.cell v
 hok:HOk X.prog X.w H s.heap
 len:σ.length=X.N.length
section
variable {X:Cx} {pins:List (Addr × Obj)} {σ:List (Option V)} {H H':Hp} {s:Shared} {h':Heap}
theorem Cx.Ok.nofr (ok:X.Ok) {b:Addr} {o:Obj} (e:X.base.get? b=some o):b ∉ X.fs:=fun hb=>by
 have:=(ok.funs.mem hb).1
 rw [e] at this; cases this
theorem Inv.bs (I:Inv X pins σ H s):∀ b o,X.base.get? b=some o→s.heap.get? b=some o∧H b=none:=fun b o e =>
 ⟨I.base.keep b o (I.ok.bs b o e).1 (I.ok.bs b o e).2 (I.ok.nofr e) (I.ok.noex b o e),I.base.free b o (I.ok.bs b o e).1 (I.ok.bs b o e).2 (I.ok.noex b o e)⟩
theorem Inv.bk (I:Inv X pins σ H s):∀ b o,X.base.get? b=some o→s.heap.get? b=some o:=fun b o e=>(I.bs b o e).1
theorem Inv.mod (I:Inv X pins σ H s):Mod X.K X.mg X.base:=I.ok.mod
theorem Inv.kIn (I:Inv X pins σ H s):X.K.In s.heap:=I.ok.mod.kin.keeps I.bk
theorem Inv.lt (I:Inv X pins σ H s):X.env.locals < s.heap.objs.size:=let ⟨_,hn,_⟩:=I.loc; hn.lt
theorem Inv.sz (I:Inv X pins σ H s):X.s₀.heap.objs.size≤s.heap.objs.size:=Nat.le_trans I.ok.above (Nat.le_of_lt I.lt)
theorem Inv.nofs (I:Inv X pins σ H s) {a:Addr} (h:s.heap.objs.size≤a):a ∉ X.fs:=fun hb=>by
 obtain ⟨_,o,ho,_⟩:=I.ok.funs.mem hb
 exact absurd (Nat.lt_of_lt_of_le (Heap.lt_size ho) (Nat.le_trans I.sz h)) (Nat.lt_irrefl _)
theorem Inv.cne (I:Inv X pins σ H s):∀ x c,X.env.cells.lookup x=some c→c≠X.env.locals:=fun x c e z=>by
 obtain ⟨v,o,ho,hd⟩:=I.cell x c e
 obtain ⟨m,⟨o',es,ep,ho',hd',_⟩,_⟩:=I.loc
 rw [z,ho'] at ho; cases ho; rw [hd'] at hd; cases hd
theorem Inv.funs (I:Inv X pins σ H s):s.heap.FunFrames X.base X.outer:=by
 have all:∀ (l:List Env),(∀ b∈frs l,b∈X.fs)→X.s₀.heap.FunFrames X.base l→s.heap.FunFrames X.base l:=by
  intro l
  induction l with
  | nil=>intro _ _; trivial
  | cons env r ih =>
   intro hs hl
   obtain ⟨hk,⟨L,o,hf,hn,ho,hd⟩,hr⟩:=hl
   have hL:L∈X.fs:=hs L (by unfold frs; rw [List.filterMap_cons,hf]; exact List.mem_cons_self)
   obtain ⟨sl,e⟩:=I.base.slot L o ho (I.ok.frf L hL) hL fun z=>I.ok.exfs L z hL
   exact ⟨hk,⟨L,_,hf,hn,e,hd⟩,ih (fun b hb=>hs b (by unfold frs; rw [List.filterMap_cons,hf]; exact List.mem_cons_of_mem _ hb)) hr⟩
 exact all X.outer (fun _ hb=>hb) I.ok.funs
theorem Inv.stack (I:Inv X pins σ H s):s.heap.FunFrames X.base X.stack:=by
 rcases I.ok.stk with e | ⟨e,hf⟩
 ·rw [e]; exact I.funs
 ·rw [e]
  obtain ⟨m,hn,_⟩:=I.loc
  refine .cons (by rw [I.ok.kind]; decide) hf hn ?_ I.funs
  exact Heap.get?_none_of_le (Nat.le_trans I.ok.bsz I.ok.above)
theorem Inv.stkSub (I:Inv X pins σ H s):∀ b∈frs X.stack,b∈X.env.locals :: X.fs:=fun b hb=>by
 rcases I.ok.stk with e | ⟨e,hf⟩
 ·rw [e] at hb; exact List.mem_cons_of_mem _ hb
 ·rw [e] at hb
  unfold frs at hb
  rw [List.filterMap_cons,hf] at hb
  exact hb
theorem Inv.stkFree (I:Inv X pins σ H s):∀ b∈frs X.stack,H b=none:=fun b hb=>by
 rcases List.mem_cons.mp (I.stkSub b hb) with e | hb
 ·rw [e]; exact I.free
 ·obtain ⟨_,o,ho,_⟩:=I.ok.funs.mem hb
  exact I.base.free b o ho (I.ok.frf b hb) fun z=>I.ok.exfs b z hb
theorem Inv.step {g':Array GenState} {t':Nat} {d':Drawn} {ch:List Addr} (I:Inv X pins σ H s)
  (hch:∀ b∈ch,(b∈X.ex∨X.s₀.heap.objs.size≤b)∧b≠X.env.locals∧(∀ x c,X.env.cells.lookup x=some c→c≠b)∧∀ p∈X.pn++pins,p.1≠b)
  (keep:∀ b o,b≠X.env.locals→b ∉ X.fs→b ∉ ch→s.heap.get? b=some o→H b=none→h'.get? b=some o)
  (slot:∀ b o,b≠X.env.locals→b∈X.fs→b ∉ ch→s.heap.get? b=some o→H b=none→∃ sl,h'.get? b=some { o with slots:=sl }) (free:∀ b o,b ∉ ch→s.heap.get? b=some o→H b=none→H' b=none)
  (there:∀ b o,b ∉ ch→s.heap.get? b=some o→∃ o',h'.get? b=some o')
  (tups:∀ b xs,H b=some (.tup xs)→H' b=some (.tup xs)) (frzs:∀ b o u,H b=some (.frz o u)→H' b=some (.frz o u)) (tbls:∀ b ps,H b=some (.tbl ps)→∃ more,H' b=some (.tbl (ps++more)))
  (ns:∀ m,s.heap.Ns X.env.locals m→h'.Ns X.env.locals m) (hok:HOk X.prog X.w H' h') (hg:AllBare g') :
  Inv X pins σ H' { s with heap:=h',gens:=g',drawn:=d',toks:=t' }:=by
 have neL:∀ b o,X.s₀.heap.get? b=some o→b≠X.env.locals:=fun b o e=>Nat.ne_of_lt (Nat.lt_of_lt_of_le (Heap.lt_size e) I.ok.above)
 have neC:∀ b o,X.s₀.heap.get? b=some o→b ∉ X.ex→b ∉ ch:=fun b o e hx hb=>by
  rcases (hch b hb).1 with z | z
  ·exact hx z
  ·exact absurd (Nat.lt_of_lt_of_le (Heap.lt_size e) z) (Nat.lt_irrefl _)
 have cellK:∀ x c,X.env.cells.lookup x=some c→∀ v,s.heap.IsCell c v→h'.IsCell c v:=fun x c e v ⟨o,ho,hd⟩=>by
  have nch:c ∉ ch:=fun z=>(hch c z).2.2.1 x c e rfl
  by_cases hc:c∈X.fs
  ·obtain ⟨sl,q⟩:=slot c o (I.cne x c e) hc nch ho (I.freeC x c e)
   exact ⟨_,q,hd⟩
  ·exact ⟨o,keep c o (I.cne x c e) hc nch ho (I.freeC x c e),hd⟩
 refine ⟨I.ok,I.os,hg,⟨fun b o e n hb hx=>?_,fun b o e n hb hx=>?_,fun b o e n hx=>?_,fun b o e hx=>?_,fun b xs e=>tups b xs (I.base.tups b xs e),fun b o xs e=>frzs b o xs (I.base.frzs b o xs e),fun b ps e=>?_⟩,?_,fun x c e=>?_,?_,fun x c e=>?_,fun p hp=>?_,hok,I.len⟩
 ·exact keep b o (neL b o e) hb (neC b o e hx) (I.base.keep b o e n hb hx) (I.base.free b o e n hx)
 ·obtain ⟨sl,e1⟩:=I.base.slot b o e n hb hx
  obtain ⟨sl',e2⟩:=slot b _ (neL b o e) hb (neC b o e hx) e1 (I.base.free b o e n hx)
  exact ⟨sl',e2⟩
 ·obtain ⟨o',e1⟩:=I.base.there b o e hx
  exact free b o' (neC b o e hx) e1 (I.base.free b o e n hx)
 ·obtain ⟨o',e1⟩:=I.base.there b o e hx
  exact there b o' (neC b o e hx) e1
 ·obtain ⟨m1,e1⟩:=I.base.tbls b ps e
  obtain ⟨m2,e2⟩:=tbls b _ e1
  exact ⟨m1++m2,by rw [e2,Array.append_assoc]⟩
 ·obtain ⟨m,hn,hl⟩:=I.loc
  refine ⟨m,ns m hn,fun i x v e1 e2 e3=>?_⟩
  obtain ⟨u,r,l⟩:=hl i x v e1 e2 e3
  refine ⟨u,r,?_⟩
  rcases l with l | ⟨k,c,e,z⟩
  ·exact .inl l
  ·exact .inr ⟨k,c,e,cellK x c e _ z⟩
 ·obtain ⟨v,z⟩:=I.cell x c e
  exact ⟨v,cellK x c e v z⟩
 ·obtain ⟨m,⟨o,_,_,ho,_⟩,_⟩:=I.loc
  exact free _ o (fun z=>(hch _ z).2.1 rfl) ho I.free
 ·obtain ⟨v,o,ho,hd⟩:=I.cell x c e
  exact free c o (fun z=>(hch c z).2.2.1 x c e rfl) ho (I.freeC x c e)
 ·obtain ⟨e,n,ne,nf,d⟩:=I.pin p hp
  have nch:p.1 ∉ ch:=fun z=>(hch p.1 z).2.2.2 p hp rfl
  exact ⟨keep p.1 p.2 ne nf nch e n,free p.1 p.2 nch e n,ne,nf,d⟩
theorem Inv.un {t':Nat} (I:Inv X pins σ H s) (u:Un X.fs [] H H' s.heap h') (hok:HOk X.prog X.w H' h'):Inv X pins σ H' { s with heap:=h',toks:=t' }:=by
 obtain ⟨m,⟨o,es,ep,ho,r⟩,_⟩:=id I.loc
 obtain ⟨sl,hL⟩:=u.any ho I.free (by simp)
 exact I.step (g':=s.gens) (d':=s.drawn) (ch:=[]) (fun _ z=>nomatch z) (fun b o _ hb _ e n=>u.keep b o e n hb (by simp)) (fun b o _ hb _ e n=>u.slot b o e n hb (by simp)) (fun b o _ e n=>u.free b o e n (by simp)) (fun b o _ e=>u.there b o e (by simp)) u.tups u.frzs u.tbls (fun m' hm=>by
  obtain ⟨o',es',ep',ho',r'⟩:=hm
  rw [ho] at ho'; cases ho'
  exact ⟨_,es',ep',hL,r'⟩) hok I.bare
theorem Inv.call {g':Array GenState} {t':Nat} {d':Drawn} {ch:List Addr} (I:Inv X pins σ H s) (u:Un (frs X.stack) ch H H' s.heap h') (hok:HOk X.prog X.w H' h') (hg:AllBare g')
  (hch:∀ b∈ch,(b∈X.ex∨X.s₀.heap.objs.size≤b)∧b≠X.env.locals∧(∀ x c,X.env.cells.lookup x=some c→c≠b)∧∀ p∈X.pn++pins,p.1≠b) :
  Inv X pins σ H' { s with heap:=h',gens:=g',drawn:=d',toks:=t' }:=by
 obtain ⟨m,⟨o,es,ep,ho,r⟩,_⟩:=id I.loc
 obtain ⟨sl,hL⟩:=u.any ho I.free fun z=>(hch _ z).2.1 rfl
 exact I.step (ch:=ch) hch (fun b o hL hb hc e n=>u.keep b o e n (fun z=>(List.mem_cons.mp (I.stkSub b z)).elim hL hb) hc) (fun b o _ _ hc e n=>u.any e n hc) (fun b o hc e n=>u.free b o e n hc) (fun b o hc e=>u.there b o e hc) u.tups u.frzs u.tbls (fun m' hm=>by
  obtain ⟨o',es',ep',ho',r'⟩:=hm
  rw [ho] at ho'; cases ho'
  exact ⟨_,es',ep',hL,r'⟩) hok hg
theorem Inv.turned {t':Nat} {it:Addr} (I:Inv X pins σ H s) (k:∀ b o,b≠it→s.heap.get? b=some o→h'.get? b=some o) (hn:H it=none) (hL:it≠X.env.locals)
  (h1:it∈X.ex∨X.s₀.heap.objs.size≤it) (h2:∀ x c,X.env.cells.lookup x=some c→c≠it) (h3:∀ p∈X.pn++pins,p.1≠it):Inv X pins σ H { s with heap:=h',toks:=t' }:=by
 have nit:∀ b u,H b=some u→b≠it:=fun b u e z=>by rw [z,hn] at e; cases e
 refine I.step (g':=s.gens) (d':=s.drawn) (ch:=[it]) (fun b hb=>?_) (fun b o _ _ hc e _=>k b o (fun z=>hc (by simp [z])) e) (fun b o _ _ hc e _=>⟨o.slots,k b o (fun z=>hc (by simp [z])) e⟩) (fun _ _ _ _ n=>n)
  (fun b o hc e=>⟨o,k b o (fun z=>hc (by simp [z])) e⟩) (fun _ _ e=>e) (fun _ _ _ e=>e) (fun b ps e=>⟨#[],by rw [e]; simp⟩) (fun m hm=>?_) (fun b u e=>?_) I.bare
 ·have e:b=it:=by simpa using hb
  subst e
  exact ⟨h1,hL,h2,h3⟩
 ·obtain ⟨o,es,ep,ho,r⟩:=hm
  exact ⟨o,es,ep,k _ o (Ne.symm hL) ho,r⟩
 ·refine (I.hok b u e).stay (fun c v hc q=>k c v ?_ q) (fun _ q=>q) fun _ _ q=>q
  rcases hc with z | z
  ·rw [z]; exact nit b u e
  ·exact nit c _ z
theorem Inv.tok (I:Inv X pins σ H s) (t:Nat):Inv X pins σ H { s with toks:=t }:=I.un (h':=s.heap) (t':=t) Un.refl I.hok
theorem Inv.kept {t':Nat} (I:Inv X pins σ H s) (k:∀ b u,s.heap.get? b=some u→h'.get? b=some u):Inv X pins σ H { s with heap:=h',toks:=t' }:=I.un (Un.kept k) (I.hok.kept k)
theorem Inv.laid {a:Addr} {o:HO} {t':Nat} (I:Inv X pins σ H s) (k:∀ b u,s.heap.get? b=some u→h'.get? b=some u) (hp:s.heap.objs.size≤a) (new:ObjOk X.prog X.w (upd H a o) h' a o) :
  Inv X pins σ (upd H a o) { s with heap:=h',toks:=t' }:=I.un (Un.laid k hp (I.hok.fresh hp)) (I.hok.laid k hp new)
theorem Inv.write {x e:Addr} {o:HO} {t':Nat} (I:Inv X pins σ H s) (mu:Mut (H x)) (he:e=x∨H e=some (.own x)) (k:∀ b u,b≠e→s.heap.get? b=some u→h'.get? b=some u) (heo:∃ u,h'.get? e=some u)
  (new:ObjOk X.prog X.w (upd H x o) h' x o):Inv X pins σ (upd H x o) { s with heap:=h',toks:=t' }:=I.un (Un.write mu he k heo) (I.hok.write mu he k heo new)
theorem Inv.pins_of {pins':List (Addr × Obj)} (I:Inv X pins σ H s) (h:∀ p∈pins',s.heap.get? p.1=some p.2∧H p.1=none∧p.1≠X.env.locals∧p.1 ∉ X.fs∧∀ v,p.2.data≠.cell v):Inv X pins' σ H s :=
 ⟨I.ok,I.os,I.bare,I.base,I.loc,I.cell,I.free,I.freeC,fun p hp=>(List.mem_append.mp hp).elim (fun z=>I.pin p (List.mem_append_left _ z)) (h p),I.hok,I.len⟩
theorem nK {N:List Str} (hN:N.Nodup) {i j:Nat} {x:Str} (a:N[i]?=some x) (b:N[j]?=some x):i=j:=by
 obtain ⟨h1,e1⟩:=List.getElem?_eq_some_iff.mp a
 obtain ⟨h2,e2⟩:=List.getElem?_eq_some_iff.mp b
 exact (List.getElem_inj hN).mp (e1.trans e2.symm)
theorem mt {M:Model} {A:Around} {E:Value→Shared→Prop} {i:Nat} {x:Str} {v:V} {u:Value} {Q:Unit→Shared→Prop} (I:Inv X pins σ H s) (hN:X.N.Nodup) (hi:X.N[i]?=some x) (hx:Loc X.env.scope x) (r:RelV v u)
  (h:∀ s',Inv X pins (σ.set i (some v)) H s'→(∃ a,Heap.SameBut a s.heap s'.heap∧(a=X.env.locals∨X.env.cells.lookup x=some a))→Q () s') (hf:X.fn x=true∨X.env.scope.names.lookup x=some .local:=by first | exact .inl rfl | exact .inr rfl | assumption):wpAny M A (storeName X.env x u) Q E s:=by
 obtain ⟨m,hn,hl⟩:=id I.loc
 have hcls:(X.env.scope.kind == .class || (X.env.scope.kind == .module && X.env.locals != X.env.globals))=false:=by rw [I.ok.kind]; rfl
 have hiσ:i < σ.length:=by rw [I.len]; exact (List.getElem?_eq_some_iff.mp hi).1
 have cne:=I.cne
 have tracked:∀ {a:Addr} {h':Heap},(∃ o,s.heap.get? a=some o∧H a=none)→Heap.SameBut a s.heap h'→HOk X.prog X.w H h':=fun {a h'} ha hs b ob e=>by
  obtain ⟨_,_,hfree⟩:=ha
  refine (I.hok b ob e).stay (fun c w' hc q=>(hs.2 c ?_).trans q) (fun _ q=>q) fun _ _ q=>q
  rintro rfl
  rcases hc with rfl | hc
  ·rw [hfree] at e; cases e
  ·rw [hfree] at hc; cases hc
 rcases hx with hk | hk
 ·refine wpAny_storeName_local hk hn (fun h' hn' hs=>?_) hcls
  obtain ⟨oL,_,_,hoL,_⟩:=id hn
  refine h _ ⟨I.ok,I.os,I.bare,⟨fun b o e n hb hx=>?_,fun b o e n hb hx=>?_,I.base.free,fun b o e hx=>?_,I.base.tups,I.base.frzs,I.base.tbls⟩,⟨_,hn',fun j y v' e1 e2 e3=>?_⟩,fun y c e=>?_,I.free,I.freeC,fun p hp=>?_,tracked ⟨oL,hoL,I.free⟩ hs,by simpa using I.len⟩ ⟨_,hs,.inl rfl⟩
  ·exact (hs.2 b (Nat.ne_of_lt (Nat.lt_of_lt_of_le (Heap.lt_size e) I.ok.above))).trans (I.base.keep b o e n hb hx)
  ·obtain ⟨sl,e1⟩:=I.base.slot b o e n hb hx
   exact ⟨sl,(hs.2 b (Nat.ne_of_lt (Nat.lt_of_lt_of_le (Heap.lt_size e) I.ok.above))).trans e1⟩
  ·obtain ⟨o',e1⟩:=I.base.there b o e hx
   exact ⟨o',(hs.2 b (Nat.ne_of_lt (Nat.lt_of_lt_of_le (Heap.lt_size e) I.ok.above))).trans e1⟩
  ·by_cases hj:j=i
   ·subst hj
    rw [hi] at e1; cases e1
    rw [List.getElem?_set_self hiσ] at e2
    cases e2
    exact ⟨u,r,.inl ⟨hk,by simp⟩⟩
   ·rw [List.getElem?_set_ne (Ne.symm hj)] at e2
    obtain ⟨u',r',q⟩:=hl j y v' e1 e2 e3
    refine ⟨u',r',?_⟩
    rcases q with ⟨k,e⟩ | ⟨k,c,e,z⟩
    ·refine .inl ⟨k,?_⟩
     have:y≠x:=fun e=>hj (nK hN e1 (e ▸ hi))
     simp [this,e]
    ·exact .inr ⟨k,c,e,z.sameBut hs (cne y c e)⟩
  ·obtain ⟨w',z⟩:=I.cell y c e
   exact ⟨w',z.sameBut hs (cne y c e)⟩
  ·obtain ⟨e,n,ne,nf,d⟩:=I.pin p hp
   exact ⟨(hs.2 p.1 ne).trans e,n,ne,nf,d⟩
 ·have hfn:X.fn x=true:=by
   rcases hf with z | z
   ·exact z
   ·rw [z] at hk; cases hk
  obtain ⟨c,hc⟩:=I.ok.has x (.inl hk)
  obtain ⟨w',z⟩:=I.cell x c hc
  refine wpAny_storeName_cell I.ok.kind hk hc z (fun h' hc' hs=>?_)
  obtain ⟨oc,hoc,hocd⟩:=id z
  refine h { s with heap:=h' } ⟨I.ok,I.os,I.bare,⟨fun b o e n hb hx=>?_,fun b o e n hb hx=>?_,I.base.free,fun b o e hx=>?_,I.base.tups,I.base.frzs,I.base.tbls⟩,⟨m,hn.sameBut hs (Ne.symm (cne x c hc)),fun j y v' e1 e2 e3=>?_⟩,fun y c' e=>?_,I.free,I.freeC,fun p hp=>?_,tracked ⟨oc,hoc,I.freeC x c hc⟩ hs,by simpa using I.len⟩ ⟨c,hs,.inr hc⟩
  ·exact (hs.2 b (Nat.ne_of_lt (Nat.lt_of_lt_of_le (Heap.lt_size e) (I.ok.cab x c hfn hc)))).trans (I.base.keep b o e n hb hx)
  ·obtain ⟨sl,e1⟩:=I.base.slot b o e n hb hx
   exact ⟨sl,(hs.2 b (Nat.ne_of_lt (Nat.lt_of_lt_of_le (Heap.lt_size e) (I.ok.cab x c hfn hc)))).trans e1⟩
  ·obtain ⟨o',e1⟩:=I.base.there b o e hx
   exact ⟨o',(hs.2 b (Nat.ne_of_lt (Nat.lt_of_lt_of_le (Heap.lt_size e) (I.ok.cab x c hfn hc)))).trans e1⟩
  ·by_cases hj:j=i
   ·subst hj
    rw [hi] at e1; cases e1
    rw [List.getElem?_set_self hiσ] at e2
    cases e2
    exact ⟨u,r,.inr ⟨.inl hk,c,hc,hc'⟩⟩
   ·rw [List.getElem?_set_ne (Ne.symm hj)] at e2
    obtain ⟨u',r',q⟩:=hl j y v' e1 e2 e3
    refine ⟨u',r',?_⟩
    rcases q with q | ⟨k,c',e,z'⟩
    ·exact .inl q
    ·refine .inr ⟨k,c',e,z'.sameBut hs ?_⟩
     rintro rfl
     exact hj (nK hN e1 (I.ok.inj _ _ _ e hc ▸ hi))
  ·by_cases hcc:c'=c
   ·subst hcc; exact ⟨_,hc'⟩
   ·obtain ⟨w2,z2⟩:=I.cell y c' e
    exact ⟨w2,z2.sameBut hs hcc⟩
  ·obtain ⟨e,n,ne,nf,d⟩:=I.pin p hp
   refine ⟨(hs.2 p.1 ?_).trans e,n,ne,nf,d⟩
   intro q
   rw [q,hoc] at e
   have q':oc=p.2:=Option.some.inj e
   exact d w' (by rw [← q']; exact hocd)
theorem nv {M:Model} {A:Around} {E:Value→Shared→Prop} {i:Nat} {x:Str} {v:V} {u:Value} {Q:Unit→Shared→Prop} (I:Inv X pins σ H s) (hN:X.N.Nodup) (hi:X.N[i]?=some x) (hx:Loc X.env.scope x) (r:RelV v u)
  (h:∀ s',Inv X pins (σ.set i (some v)) H s'→Q () s') (hf:X.fn x=true∨X.env.scope.names.lookup x=some .local:=by first | exact .inl rfl | exact .inr rfl | assumption):wpAny M A (storeName X.env x u) Q E s :=
 mt I hN hi hx r (fun s' I' _=>h s' I') hf
theorem Inv.call' {s':Shared} {ch:List Addr} (I:Inv X pins σ H s) (ho:s'.os=s.os) (u:Un (frs X.stack) ch H H' s.heap s'.heap) (hok:HOk X.prog X.w H' s'.heap) (hg:AllBare s'.gens)
  (hch:∀ b∈ch,(b∈X.ex∨X.s₀.heap.objs.size≤b)∧b≠X.env.locals∧(∀ x c,X.env.cells.lookup x=some c→c≠b)∧∀ p∈X.pn++pins,p.1≠b):Inv X pins σ H' s':=by
 obtain ⟨h',g',d',t',o'⟩:=s'
 have e:o'=s.os:=ho
 subst e
 exact I.call (g':=g') (t':=t') (d':=d') u hok hg hch
end
abbrev XK:=Value→Option Addr→Hp→Prop
abbrev St:=List (Option V)
abbrev VK:=V→Hp→Prop
abbrev TE:=St→Hp→VK→Prop
abbrev TT:=St→Hp→(Bool→Hp→Prop)→Prop
abbrev TA:=St→Hp→(List V→Hp→Prop)→Prop
structure Ends where
 nx:St→Hp→Prop
 rt:VK
 bk:St→Hp→Prop:=fun _ _=>False
 ct:St→Hp→Prop:=fun _ _=>False
abbrev TS:=Ends→St→Hp→Prop
def EP (X:Cx) (pins:List (Addr × Obj)) (σ:St) (Q:VK) (u:Value) (s':Shared):Prop:=∃ v H',Inv X pins σ H' s'∧RelV v u∧Q v H'
def TP (X:Cx) (pins:List (Addr × Obj)) (σ:St) (Q:Bool→Hp→Prop) (b:Bool) (s':Shared):Prop:=∃ H',Inv X pins σ H' s'∧Q b H'
def AP (X:Cx) (pins:List (Addr × Obj)) (σ:St) (Q:List V→Hp→Prop) (us:List Value) (s':Shared):Prop:=∃ vs H',Inv X pins σ H' s'∧Vals vs us∧Q vs H'
def SP (X:Cx) (pins:List (Addr × Obj)) (D:Ends) (f:Flow) (s':Shared):Prop :=
 match f with
 | .next=>∃ σ' H',Inv X pins σ' H' s'∧D.nx σ' H'
 | .brk=>∃ σ' H',Inv X pins σ' H' s'∧D.bk σ' H'
 | .cont=>∃ σ' H',Inv X pins σ' H' s'∧D.ct σ' H'
 | .ret u=>∃ v σ' H',Inv X pins σ' H' s'∧RelV v u∧D.rt v H'
def PE (X:Cx) (e:Expr) (t:TE):Prop :=
 ∀ (pins:List (Addr × Obj)) (s:Shared) (σ:St) (H:Hp) (Q:VK),Inv X pins σ H s→t σ H Q→wpAny (model X.prog X.w) X.A (eval e X.env) (EP X pins σ Q) X.xe s
def PT (X:Cx) (e:Expr) (t:TT):Prop :=
 ∀ (pins:List (Addr × Obj)) (s:Shared) (σ:St) (H:Hp) (Q:Bool→Hp→Prop),Inv X pins σ H s→t σ H Q→wpAny (model X.prog X.w) X.A (isTrue e X.env (eval e X.env)) (TP X pins σ Q) X.xe s
def PW (X:Cx) (e:Expr) (t:TT):Prop :=
 ∀ (whole:Sem Value) (pins:List (Addr × Obj)) (s:Shared) (σ:St) (H:Hp) (Q:Bool→Hp→Prop),Inv X pins σ H s→t σ H Q→wpAny (model X.prog X.w) X.A (isTrue e X.env whole) (TP X pins σ Q) X.xe s
theorem PW.pt {X:Cx} {e:Expr} {t:TT} (h:PW X e t):PT X e t:=h _
def PA (X:Cx) (es:List Expr) (t:TA):Prop :=
 ∀ (pos:Pos) (pins:List (Addr × Obj)) (s:Shared) (σ:St) (H:Hp) (Q:List V→Hp→Prop),Inv X pins σ H s→t σ H Q→wpAny (model X.prog X.w) X.A (spliced (backTo pos (starEach es X.env))) (AP X pins σ Q) X.xe s
def PS (X:Cx) (st:Stmt) (t:TS):Prop :=
 ∀ (pins:List (Addr × Obj)) (s:Shared) (σ:St) (H:Hp) (D:Ends),Inv X pins σ H s→t D σ H→wpAny (model X.prog X.w) X.A (exec st X.env) (SP X pins D) X.xe s
def PSs (X:Cx) (st:List Stmt) (t:TS):Prop :=
 ∀ (pins:List (Addr × Obj)) (s:Shared) (σ:St) (H:Hp) (D:Ends),Inv X pins σ H s→t D σ H→wpAny (model X.prog X.w) X.A (execs st X.env) (SP X pins D) X.xe s
theorem thn {α:Type} {t:Sem α} {Q Q':α→Shared→Prop} {M:Model} {A:Around} {E:Value→Shared→Prop} {s:Shared} (h:wpAny M A t Q E s) (hQ:∀ a s,Q a s→Q' a s):wpAny M A t Q' E s:=wpAny_mono h hQ fun _ _ x=>x
end L2
namespace L2
open PySem PySem.Spec PyProof.Rows
section
variable {X:Cx}
def gO (i:Nat):TE:=fun σ H Q=>∃ v,σ[i]?=some (some v)∧Q v H
def tC (v:V):TE:=fun _ H Q=>Q v H
theorem e7 {i:Nat} {x:Str} {pos:Pos} (hN:X.N[i]?=some x) (hv:Vis X.env.scope x) (hd:(x == ("__debug__" : Str))=false:=by decide) (hcd:(x == ("__classdict__" : Str))=false:=by decide):PE X (.Name x pos) (gO i):=by
 intro pins s σ H Q I h
 obtain ⟨v,e,h⟩:=h
 obtain ⟨m,hn,hl⟩:=I.loc
 obtain ⟨u,r,l⟩:=hl i x v hN e hv
 have fin:EP X pins σ Q u s:=⟨v,H,I,r,h⟩
 rcases l with ⟨hk,hm⟩ | ⟨hk,c,hc,hcell⟩
 ·exact wpAny_Name (wpAny_loadName_local I.ok.kind hk hn hm fin) hd
 ·rcases hk with hk | hk
  ·exact wpAny_Name (wpAny_loadName_cell I.ok.kind hk hc hcell fin) hd
  ·exact wpAny_Name (wpAny_loadName_free I.ok.kind hk hc hcell fin hcd) hd
theorem pe_int {i j pos}:PE X (.Constant (.int i) j pos) (tC (.int i)):=fun _ _ _ H _ I h=>wpAny_Constant_int ⟨.int i,H,I.tok _,⟨_,rfl⟩,h⟩
theorem pe_bl {b j pos}:PE X (.Constant (.bool b) j pos) (tC (.bl b)):=fun _ _ _ H _ I h=>Constant_bool ⟨.bl b,H,I,rfl,h⟩
theorem pe_non {j pos}:PE X (.Constant .none j pos) (tC .non):=fun _ _ _ H _ I h=>Constant_none ⟨.non,H,I,rfl,h⟩
theorem pe_str {x j pos}:PE X (.Constant (.str x) j pos) (tC (.str x)):=fun _ _ _ H _ I h=>Calls.Constant_str ⟨.str x,H,I.tok _,⟨_,rfl⟩,h⟩
def Gl (X:Cx) (x:Str):Prop:=X.env.kindOf x=some .globalImplicit
theorem pB {E:Value→Shared→Prop} {pins:List (Addr × Obj)} {s:Shared} {σ:St} {H:Hp} {x:Str} {u:Value} {pos:Pos} {Q:Value→Shared→Prop} (I:Inv X pins σ H s) (hg:Gl X x) (hm:X.mg x=some u) (h:Q u s)
  (hd:(x == ("__debug__" : Str))=false:=by decide):wpAny (model X.prog X.w) X.A (eval (.Name x pos) X.env) Q E s :=
 Calls.Name_function_global I.ok.kind hg (Calls.loadGlobal_global (by rw [I.ok.glob]; exact I.mod.glob.keeps I.bk) hm h) hd
theorem jo {E:Value→Shared→Prop} {pins:List (Addr × Obj)} {s:Shared} {σ:St} {H:Hp} {x:Str} {u:Value} {pos:Pos} {Q:Value→Shared→Prop} (I:Inv X pins σ H s) (hg:Gl X x) (hm:X.mg x=none) (hv:bootBuiltins x=some u) (h:Q u s)
  (hn:x≠"__name__":=by decide) (hd:(x == ("__debug__" : Str))=false:=by decide):wpAny (model X.prog X.w) X.A (eval (.Name x pos) X.env) Q E s:=by
 obtain ⟨mb,h1,h2⟩:=I.mod.blt
 exact Calls.Name_function_global I.ok.kind hg (Calls.loadGlobal_builtin (by rw [I.ok.glob]; exact I.mod.glob.keeps I.bk) hm (by rw [I.ok.blt]; exact h1.keeps I.bk) ((h2 x hn).trans hv) h) hd
theorem pk {x:Str} {v:V} {u:Value} {pos:Pos} (hg:Gl X x) (hm:X.mg x=some u) (r:RelV v u) (hd:(x == ("__debug__" : Str))=false:=by decide):PE X (.Name x pos) (tC v) :=
 fun _ _ _ H _ I h=>pB I hg hm ⟨v,H,I,r,h⟩ hd
theorem lV {x:Str} {v:V} {u:Value} {pos:Pos} (hg:Gl X x) (hm:X.mg x=none) (hv:bootBuiltins x=some u) (r:RelV v u) (hn:x≠"__name__":=by decide) (hd:(x == ("__debug__" : Str))=false:=by decide):PE X (.Name x pos) (tC v) :=
 fun _ _ _ H _ I h=>jo I hg hm hv ⟨v,H,I,r,h⟩ hn hd
variable {a b:Expr} {ta tb:TE} {pos:Pos}
def PC (X:Cx) (op:CmpOp) (a b:Expr) (t:TE):Prop :=
 ∀ (pins:List (Addr × Obj)) (s:Shared) (σ:St) (H:Hp) (Q:VK),Inv X pins σ H s→t σ H Q →
  wpAny (model X.prog X.w) X.A (eval a X.env) (fun v s₁=>wpAny (model X.prog X.w) X.A (eval b X.env) (fun u s₂=>wpAny (model X.prog X.w) X.A (compareOp op v u) (EP X pins σ Q) X.xe s₂) X.xe s₁) X.xe s
def tB (t:TE):TT:=fun σ H Q=>t σ H fun x H1=>∃ c,x=.bl c∧Q c H1
theorem Ey {e:Expr} {t:TE} (h:PE X e t) (he:∀ whole,isTrue e X.env whole=(do let v ← whole; standAt e.pos; holding [v] (truthy v)):=by intro _; rfl):PT X e (tB t):=by
 intro pins s σ H Q I hw
 refine isTrue_plain (thn (h pins s σ H _ I hw) fun v s1 ⟨x,H1,I1,r1,q1⟩=>?_) (he _)
 obtain ⟨d,rfl,q⟩:=q1
 cases r1
 exact wpAny_truthy_bool ⟨H1,I1,q⟩
variable {tA tB':TT} {rest:List Expr}
def Eh (t u:TT):TT:=fun σ H Q=>t σ H fun c H1=>if c=true then u σ H1 Q else Q false H1
def tOr (t u:TT):TT:=fun σ H Q=>t σ H fun c H1=>if c=true then Q true H1 else u σ H1 Q
def Ec (t:TT):TT:=fun σ H Q=>t σ H fun c H1=>Q (!c) H1
theorem AT (ha:PT X a tA):PW X (.BoolOp .And [a] pos) tA:=by
 intro wh pins s σ H Q I h
 refine isTrue_and (thn (ha pins s σ H Q I h) fun c s1 e=>?_)
 cases c with
 | true=>exact isTrue_and_nil e
 | false=>exact e
theorem Ew (ha:PT X a tA):PW X (.BoolOp .Or [a] pos) tA:=by
 intro wh pins s σ H Q I h
 refine isTrue_or (thn (ha pins s σ H Q I h) fun c s1 e=>?_)
 cases c with
 | false=>exact isTrue_or_nil e
 | true=>exact e
theorem Ex (ha:PT X a tA) (hb:PW X (.BoolOp .And (b :: rest) pos) tB'):PW X (.BoolOp .And (a :: b :: rest) pos) (Eh tA tB'):=by
 intro wh pins s σ H Q I h
 refine isTrue_and (thn (ha pins s σ H _ I h) fun c s1 ⟨H1,I1,q1⟩=>?_)
 cases c with
 | true=>exact hb wh pins s1 σ H1 Q I1 q1
 | false=>exact ⟨H1,I1,q1⟩
theorem GD (ha:PT X a tA) (hb:PW X (.BoolOp .Or (b :: rest) pos) tB'):PW X (.BoolOp .Or (a :: b :: rest) pos) (tOr tA tB'):=by
 intro wh pins s σ H Q I h
 refine isTrue_or (thn (ha pins s σ H _ I h) fun c s1 ⟨H1,I1,q1⟩=>?_)
 cases c with
 | true=>exact ⟨H1,I1,q1⟩
 | false=>exact hb wh pins s1 σ H1 Q I1 q1
theorem Ez (ha:PT X a tA):PT X (.UnaryOp .Not a pos) (Ec tA):=by
 intro pins s σ H Q I h
 exact isTrue_not (ha pins s σ H (fun c H1=>Q (!c) H1) I h)
def Aj (ta tb:TE):TE:=fun σ H Q=>ta σ H fun x H1=>∃ c,x=.bl c∧if c=true then tb σ H1 Q else Q (.bl false) H1
def Eb (ta tb:TE):TE:=fun σ H Q=>ta σ H fun x H1=>∃ c,x=.bl c∧if c=true then Q (.bl true) H1 else tb σ H1 Q
def Ae (ta:TE):TE:=fun σ H Q=>ta σ H fun x H1=>∃ c,x=.bl c∧Q (.bl (!c)) H1
theorem EE {op} {t:TE} (h:PE X a t):PE X (.BoolOp op [a] pos) t:=fun pins s σ H Q I hw=>BoolOp_one (h pins s σ H Q I hw)
theorem EH (ha:PE X a ta) (hb:PE X (.BoolOp .And (b :: rest) pos) tb):PE X (.BoolOp .And (a :: b :: rest) pos) (Aj ta tb):=by
 intro pins s σ H Q I h
 refine BoolOp_and (thn (ha pins s σ H _ I h) fun v s1 ⟨x,H1,I1,r1,q1⟩=>?_)
 obtain ⟨c,rfl,q1⟩:=q1
 cases r1
 refine wpAny_truthy_bool ?_
 cases c with
 | true=>exact hb pins s1 σ H1 Q I1 q1
 | false=>exact ⟨.bl false,H1,I1,rfl,q1⟩
theorem GG (ha:PE X a ta) (hb:PE X (.BoolOp .Or (b :: rest) pos) tb):PE X (.BoolOp .Or (a :: b :: rest) pos) (Eb ta tb):=by
 intro pins s σ H Q I h
 refine BoolOp_or (thn (ha pins s σ H _ I h) fun v s1 ⟨x,H1,I1,r1,q1⟩=>?_)
 obtain ⟨c,rfl,q1⟩:=q1
 cases r1
 refine wpAny_truthy_bool ?_
 cases c with
 | false=>exact hb pins s1 σ H1 Q I1 q1
 | true=>exact ⟨.bl true,H1,I1,rfl,q1⟩
theorem EF (ha:PE X a ta):PE X (.UnaryOp .Not a pos) (Ae ta):=by
 intro pins s σ H Q I h
 refine UnaryOp_ (thn (ha pins s σ H _ I h) fun v s1 ⟨x,H1,I1,r1,q1⟩=>?_)
 obtain ⟨c,rfl,q1⟩:=q1
 cases r1
 exact not_of (wpAny_truthy_bool ⟨.bl (!c),H1,I1,rfl,q1⟩)
end
end L2
namespace L2
open PySem PySem.Spec PyProof.Rows
def SqL (K:PySem.W.Frag) (H:Hp) (a:Addr) (xs:List V):Prop :=
 Rd H a (.lst xs) ∨
  ∃ (o:Obj) (its:Array Value) (n:Nat),K.lookup a=some o∧o.cls=.type "list"∧o.dict=none∧o.data=.seq its n∧its.size≤sizeLine∧Vals xs its.toList
def SqT (K:PySem.W.Frag) (H:Hp) (a:Addr) (xs:List V):Prop :=
 Rd H a (.tup xs) ∨
  ∃ (o:Obj) (its:Array Value) (n:Nat),K.lookup a=some o∧o.cls=.type "tuple"∧o.data=.seq its n∧its.size≤sizeLine∧Vals xs its.toList
def HK:Value→Option V
 | .none=>some .non
 | .bool b=>some (.bl b)
 | .int i _=>some (.int i)
 | .str x _=>some (.str x)
 | .bytes b _=>some (.byt b)
 | .float b _=>some (.flt b)
 | .ref a=>some (.ref a)
 | .type n=>some (.ty n)
 | _=>none
theorem RelV.abs {x:V} {u:Value} (r:RelV x u):HK u=some x:=by
 cases x with
 | non=>cases r; rfl
 | bl _=>cases r; rfl
 | int _=>obtain ⟨t,rfl⟩:=r; rfl
 | str _=>obtain ⟨t,rfl⟩:=r; rfl
 | byt _=>obtain ⟨t,rfl⟩:=r; rfl
 | flt _=>obtain ⟨t,rfl⟩:=r; rfl
 | ref _=>cases r; rfl
 | ty _=>cases r; rfl
theorem RelV.inj {x y:V} {u:Value} (r:RelV x u) (q:RelV y u):x=y:=Option.some.inj (r.abs.symm.trans q.abs)
theorem Vals.inj:∀ {xs ys:List V} {us:List Value},Vals xs us→Vals ys us→xs=ys
 | _,_,_,.nil,.nil=>rfl
 | _,_,_,.cons r t,.cons r' t'=>by rw [r.inj r',Vals.inj t t']
section
variable {X:Cx} {pins:List (Addr × Obj)} {σ:St} {H:Hp} {s:Shared} {a:Addr} {xs ys:List V}
theorem SqL.of {K:PySem.W.Frag} (h:H a=some (.lst xs)):SqL K H a xs:=.inl (.inl h)
theorem SqT.of {K:PySem.W.Frag} (h:H a=some (.tup xs)):SqT K H a xs:=.inl (.inl h)
theorem Inv.list (I:Inv X pins σ H s) (h:SqL X.K H a xs):∃ its:List Value,Vals xs its∧PlainL s.heap a its.toArray∧xs.length≤sizeLine:=by
 rcases h with h | ⟨o,its,n,hk,hc,hd,hs,hz,r⟩
 ·obtain ⟨z,its,n,r,e⟩:=h.ok I.hok
  exact ⟨its,r,⟨_,n,e,rfl,rfl,rfl⟩,z⟩
 ·refine ⟨its.toList,r,⟨o,n,I.kIn a o hk,hc,hd,by simpa using hs⟩,?_⟩
  have e:=r.length
  simp only [Array.length_toList] at e
  omega
theorem Inv.tuple (I:Inv X pins σ H s) (h:SqT X.K H a xs):∃ its:List Value,Vals xs its∧IsTup s.heap a its.toArray∧xs.length≤sizeLine:=by
 rcases h with h | ⟨o,its,n,hk,hc,hs,hz,r⟩
 ·obtain ⟨z,its,r,p⟩:=h.ok I.hok
  exact ⟨its,r,p.tup,z⟩
 ·refine ⟨its.toList,r,⟨o,I.kIn a o hk,hc,n,by simpa using hs⟩,?_⟩
  have e:=r.length
  simp only [Array.length_toList] at e
  omega
theorem Inv.list_inj (I:Inv X pins σ H s) (h:SqL X.K H a xs) (h':SqL X.K H a ys):xs=ys:=by
 obtain ⟨its,r,⟨o,n,e,_,_,d⟩,_⟩:=I.list h
 obtain ⟨its',r',⟨o',n',e',_,_,d'⟩,_⟩:=I.list h'
 rw [e] at e'; cases e'
 rw [d] at d'
 injection d' with d1 _
 have:its=its':=by simpa using congrArg Array.toList d1
 subst this
 exact r.inj r'
theorem Inv.tuple_inj (I:Inv X pins σ H s) (h:SqT X.K H a xs) (h':SqT X.K H a ys):xs=ys:=by
 obtain ⟨its,r,⟨o,e,_,n,d⟩,_⟩:=I.tuple h
 obtain ⟨its',r',⟨o',e',_,n',d'⟩,_⟩:=I.tuple h'
 rw [e] at e'; cases e'
 rw [d] at d'
 injection d' with d1 _
 have:its=its':=by simpa using congrArg Array.toList d1
 subst this
 exact r.inj r'
end
abbrev Cx.wish (X:Cx) (E:Value→Shared→Prop):Cx:={ X with xe:=E }
abbrev Cx.nox (X:Cx):Cx:=X.wish fun _ _=>False
theorem Cx.Ok.wish {X:Cx} (ok:X.Ok) (E:Value→Shared→Prop):(X.wish E).Ok :=
 ⟨ok.mod,ok.kind,ok.glob,ok.blt,ok.above,ok.inj,ok.has,ok.cab,ok.hd,ok.frames,ok.stk,ok.exf,ok.bs,ok.bsz,ok.noex,ok.exfs,ok.funs,ok.frf⟩
theorem Cx.Ok.unwish {X:Cx} {E:Value→Shared→Prop} (ok:(X.wish E).Ok):X.Ok :=
 ⟨ok.mod,ok.kind,ok.glob,ok.blt,ok.above,ok.inj,ok.has,ok.cab,ok.hd,ok.frames,ok.stk,ok.exf,ok.bs,ok.bsz,ok.noex,ok.exfs,ok.funs,ok.frf⟩
section
variable {X:Cx} {pins:List (Addr × Obj)} {σ:St} {H:Hp} {s:Shared} {E:Value→Shared→Prop}
theorem Inv.wish (I:Inv X pins σ H s) (E:Value→Shared→Prop):Inv (X.wish E) pins σ H s:=⟨I.ok.wish E,I.os,I.bare,I.base,I.loc,I.cell,I.free,I.freeC,I.pin,I.hok,I.len⟩
theorem Inv.unwish (I:Inv (X.wish E) pins σ H s):Inv X pins σ H s:=⟨I.ok.unwish,I.os,I.bare,I.base,I.loc,I.cell,I.free,I.freeC,I.pin,I.hok,I.len⟩
theorem SP.unwish {D:Ends} {f:Flow} {s':Shared} (h:SP (X.wish E) pins D f s'):SP X pins D f s':=by
 cases f with
 | next=>obtain ⟨σ',H',I,q⟩:=h; exact ⟨σ',H',I.unwish,q⟩
 | brk=>obtain ⟨σ',H',I,q⟩:=h; exact ⟨σ',H',I.unwish,q⟩
 | cont=>obtain ⟨σ',H',I,q⟩:=h; exact ⟨σ',H',I.unwish,q⟩
 | ret u=>obtain ⟨v,σ',H',I,r,q⟩:=h; exact ⟨v,σ',H',I.unwish,r,q⟩
theorem PSs.nox {st:List Stmt} {t:TS} (h:PSs X.nox st t):PSs X st t:=fun pins s σ H D I hw =>
 wpAny_mono (h pins s σ H D (I.wish _) hw) (fun _ _ q=>q.unwish) fun _ _ z=>False.elim z
end
section
variable {X:Cx} {st:Stmt} {rest:List Stmt} {t u:TS} {e:Expr} {te:TE} {pos:Pos}
def Af:TS:=fun D σ H=>D.nx σ H
def D9 (t u:TS):TS:=fun D σ H=>t { D with nx:=u D } σ H
theorem pss_nil:PSs X [] Af:=fun _ _ σ H _ I h=>wpAny_execs_nil ⟨σ,H,I,h⟩
theorem tQ (h1:PS X st t) (h2:PSs X rest u):PSs X (st :: rest) (D9 t u):=by
 intro pins s σ H D I h
 refine wpAny_execs_cons (thn (h1 pins s σ H { D with nx:=u D } I h) fun f s1 q=>?_)
 cases f with
 | next =>
  obtain ⟨σ',H',I',q⟩:=q
  exact h2 pins s1 σ' H' D I' q
 | ret v=>exact q
 | brk=>exact q
 | cont=>exact q
theorem AW (h1:PS X st t):PSs X [st] t:=by
 intro pins s σ H D I h
 refine wpAny_execs_cons (thn (h1 pins s σ H D I h) fun f s1 q=>?_)
 cases f with
 | next=>exact wpAny_execs_nil q
 | ret v=>exact q
 | brk=>exact q
 | cont=>exact q
theorem Inv.quiet {pins:List (Addr × Obj)} {σ:St} {H:Hp} {s:Shared} (I:Inv X pins σ H s):interactive X.env=false:=by simp [interactive,I.ok.kind]
def Ag (te:TE):TS:=fun D σ H=>te σ H fun _ H1=>D.nx σ H1
theorem AX (he:PE X e te) (hs:swapsWith e none pos.line X.env=pure false:=by rfl):PS X (.Expr e pos) (Ag te):=by
 intro pins s σ H D I h
 exact wpAny_Expr_any (thn (he pins s σ H _ I h) fun v s1 ⟨x,H1,I1,r1,q1⟩=>⟨σ,H1,I1,q1⟩) I.quiet hs
def Ea (te:TE):TS:=fun D σ H=>te σ H D.rt
theorem EB (he:PE X e te):PS X (.Return (some e) pos) (Ea te):=by
 intro pins s σ H D I h
 exact wpAny_Return_some (thn (he pins s σ H _ I h) fun v s1 ⟨x,H1,I1,r1,q1⟩=>⟨x,σ,H1,I1,r1,q1⟩)
def Ee (c:TT) (t u:TS):TS:=fun D σ H=>c σ H fun b H1=>if b=true then t D σ H1 else u D σ H1
theorem GE {c:Expr} {a b:List Stmt} {tc:TT} (hc:PT X c tc) (ha:PSs X a t) (hb:PSs X b u):PS X (.If c a b pos) (Ee tc t u):=by
 intro pins s σ H D I h
 refine wpAny_If (thn (hc pins s σ H _ I h) fun d s1 ⟨H1,I1,q1⟩=>?_)
 cases d with
 | true=>exact ha pins s1 σ H1 D I1 q1
 | false=>exact hb pins s1 σ H1 D I1 q1
def rA:TS:=fun _ _ _=>False
theorem ps_never:PS X st rA:=fun _ _ _ _ _ _ h=>h.elim
end
abbrev TG:=V→St→Hp→(St→Hp→Prop)→Prop
abbrev TGs:=List V→St→Hp→(St→Hp→Prop)→Prop
def PG (X:Cx) (target:Expr) (t:TG):Prop :=
 ∀ (pins:List (Addr × Obj)) (s:Shared) (σ:St) (H:Hp) (v:V) (u:Value) (Q:St→Hp→Prop),Inv X pins σ H s→RelV v u→t v σ H Q →
  wpAny (model X.prog X.w) X.A (assign target X.env u) (fun _ s'=>∃ σ' H',Inv X pins σ' H' s'∧Q σ' H') X.xe s
def PGs (X:Cx) (ts:List Expr) (t:TGs):Prop :=
 ∀ (pins:List (Addr × Obj)) (s:Shared) (σ:St) (H:Hp) (vs:List V) (us:List Value) (Q:St→Hp→Prop),Inv X pins σ H s→Vals vs us→t vs σ H Q →
  wpAny (model X.prog X.w) X.A (assignInOrder ((assignEach ts X.env).map (·.2)) us) (fun _ s'=>∃ σ' H',Inv X pins σ' H' s'∧Q σ' H') X.xe s
section
variable {X:Cx} {pos:Pos}
def k9 (i:Nat):TG:=fun v σ H Q=>Q (σ.set i (some v)) H
theorem A6 {i:Nat} {x:Str} (hN:X.N.Nodup) (hi:X.N[i]?=some x) (hx:Loc X.env.scope x) (hf:X.fn x=true∨X.env.scope.names.lookup x=some .local:=by first | exact .inl rfl | exact .inr rfl | assumption):PG X (.Name x pos) (k9 i):=by
 intro pins s σ H v u Q I r h
 exact wpAny_assign_Name (nv I hN hi hx r (fun s' I'=>⟨_,H,I',h⟩) hf)
def Fq:TGs:=fun vs σ H Q=>vs=[]∧Q σ H
def AB (t:TG) (u:TGs):TGs:=fun vs σ H Q=>∃ v r,vs=v :: r∧t v σ H fun σ' H'=>u r σ' H' Q
theorem pgs_nil:PGs X [] Fq:=by
 intro pins s σ H vs us Q I r h
 obtain ⟨e,h⟩:=h
 subst e
 cases r
 exact assignInOrder_nil ⟨σ,H,I,h⟩
theorem tW {e:Expr} {es:List Expr} {t:TG} {u:TGs} (h1:PG X e t) (h2:PGs X es u)
  (hs:(assignEach (e :: es) X.env).map (·.2)=assign e X.env :: (assignEach es X.env).map (·.2):=by rfl):PGs X (e :: es) (AB t u):=by
 intro pins s σ H vs us Q I r h
 obtain ⟨v,vr,e1,h⟩:=h
 subst e1
 cases r with
 | cons r rr =>
  rw [hs]
  refine assignInOrder_cons (thn (h1 pins s σ H _ _ _ I r h) fun _ s1 ⟨σ1,H1,I1,q1⟩=>?_)
  exact h2 pins s1 σ1 H1 _ _ Q I1 rr q1
def Fp (K:PySem.W.Frag) (n:Nat) (t:TGs):TG:=fun v σ H Q=>∃ a xs,v=.ref a∧SqT K H a xs∧xs.length=n∧t xs σ H Q
theorem ED {es:List Expr} {k:Nat} {t:TGs} {n:Nat} (hc:X.calm=true) (h:PGs X es t)
  (hn:(assignEach es X.env).length=n:=by rfl) (hst:(assignEach es X.env).findIdx? (·.1)=none:=by rfl):PG X (.Tuple es k pos) (Fp X.K n t):=by
 intro pins s σ H v u Q I r hw
 obtain ⟨a,xs,e1,hq,hl,hw⟩:=hw
 subst e1
 cases r
 obtain ⟨its,rv,ht,hz⟩:=I.tuple hq
 refine assign_Tuple_tuple (I.ok.hd hc) ht (by simp [hn,← hl,rv.length]) hst fun h' hx=>?_
 have I1:Inv X pins σ H { s with heap:=h' }:=I.kept (t':=s.toks) fun b o e=>hx b o (Nat.ne_of_lt (Heap.lt_size e)) e
 exact h pins _ σ H xs _ Q I1 (by simpa using rv) hw
def tJ (te:TE) (g:TG):TS:=fun D σ H=>te σ H fun x H1=>g x σ H1 D.nx
theorem EA {i:Nat} {x:Str} {e:Expr} {te:TE} {pos':Pos} (hN:X.N.Nodup) (hi:X.N[i]?=some x) (hx:Loc X.env.scope x) (he:PE X e te) (hs:swapsWith e (some (.Name x pos')) pos.line X.env=pure false:=by rfl) (hf:X.fn x=true∨X.env.scope.names.lookup x=some .local:=by first | exact .inl rfl | exact .inr rfl | assumption) :
  PS X (.Assign [.Name x pos'] e pos) (tJ te (k9 i)):=by
 intro pins s σ H D I h
 refine wpAny_Assign_Name (thn (he pins s σ H _ I h) fun v s1 ⟨y,H1,I1,r1,q1⟩=>?_) hs
 exact nv I1 hN hi hx r1 (fun s2 I2=>⟨_,H1,I2,q1⟩) hf
end
section
variable {X:Cx} {pos:Pos}
def rz (c:TT) (tb:TS):TS:=fun D σ H=>∃ W:Nat→St→Hp→Prop,(∃ m,W m σ H)∧∀ m σ H,W m σ H →
 c σ H fun b H1=>if b=true then ∃ N:St→Hp→Prop,(∀ σ' H',N σ' H'→∃ m',m' < m∧W m' σ' H')∧tb { D with nx:=N,ct:=N,bk:=D.nx } σ H1 else D.nx σ H1
theorem tR {c:Expr} {body:List Stmt} {tc:TT} {tb:TS} (hp:PassesOwn (model X.prog X.w) X.A X.env X.xe) (hc:PT X c tc) (hb:PSs X body tb):PS X (.While c body [] pos) (rz tc tb):=by
 intro pins s σ H D I h
 obtain ⟨W,⟨m0,w0⟩,turn⟩:=h
 refine wpAny_While (codeAny_whileLoop (fun n s'=>∃ σ' H',Inv X pins σ' H' s'∧W n σ' H') ?_ m0 ⟨σ,H,I,w0⟩)
 rintro n s1 ⟨σ1,H1,I1,w1⟩
 refine wpAny_passesOwn hp (thn (hc pins s1 σ1 H1 _ I1 (turn n σ1 H1 w1)) fun b s2 ⟨H2,I2,q2⟩=>?_)
 cases b with
 | true =>
  obtain ⟨N,hN,q2⟩:=q2
  rw [if_pos rfl]
  refine wpAny_passesOwn hp (thn (hb pins s2 σ1 H2 _ I2 q2) fun f s3 q3=>?_)
  cases f with
  | next =>
   obtain ⟨σ3,H3,I3,n3⟩:=q3
   obtain ⟨m',hm,w3⟩:=hN σ3 H3 n3
   exact ⟨m',hm,σ3,H3,I3,w3⟩
  | cont =>
   obtain ⟨σ3,H3,I3,n3⟩:=q3
   obtain ⟨m',hm,w3⟩:=hN σ3 H3 n3
   exact ⟨m',hm,σ3,H3,I3,w3⟩
  | brk=>exact q3
  | ret v=>exact q3
 | false =>
  rw [if_neg Bool.false_ne_true]
  exact wpAny_execs_nil ⟨σ1,H2,I2,q2⟩
end
structure It where
 go:Nat→Hp→Prop
 yld:Nat→Hp→V→Hp→Prop
 stop:Nat→Hp→Prop
def fH (X:Cx) (pins:List (Addr × Obj)) (H:Hp) (b:Addr):Prop :=
 H b=none∧b≠X.env.locals∧b ∉ X.fs∧(b∈X.ex∨X.s₀.heap.objs.size≤b)∧(∀ x c,X.env.cells.lookup x=some c→c≠b)∧∀ p∈X.pn++pins,p.1≠b
theorem Inv.fpOk {X:Cx} {pins:List (Addr × Obj)} {σ:St} {H H':Hp} {s:Shared} {b:Addr} (I:Inv X pins σ H s) (hb:s.heap.objs.size≤b) (hn:H' b=none):fH X pins H' b:=by
 refine ⟨hn,Nat.ne_of_gt (Nat.lt_of_lt_of_le I.lt hb),I.nofs hb,.inr (Nat.le_trans I.sz hb),fun x c e z=>?_,fun p hp z=>?_⟩
 ·obtain ⟨v,q⟩:=I.cell x c e
  exact absurd (Nat.lt_of_lt_of_le q.lt (by rw [z]; exact hb)) (Nat.lt_irrefl _)
 ·exact absurd (Nat.lt_of_lt_of_le (Heap.lt_size (I.pin p hp).1) (by rw [z]; exact hb)) (Nat.lt_irrefl _)
structure Turn (P:Program) (w:World) (K:PySem.W.Frag) (tg:Expr) (J:It) (fp:List Addr) (it:Addr) (tn:Nat→Heap→Prop):Prop where
 mem:it∈fp
 obj:∀ i h,tn i h→∀ b∈fp,∃ o,h.get? b=some o∧∀ v,o.data≠.cell v
 keep:∀ i h h',tn i h→(∀ b∈fp,∀ o,h.get? b=some o→h'.get? b=some o)→tn i h'
 item:∀ (X:Cx),X.prog=P→X.w=w→X.K=K→X.calm=true→∀ (i:Nat) (pins:List (Addr × Obj)) (s:Shared) (σ:St) (H:Hp) (E:Value→Shared→Prop),Inv X pins σ H s→(∀ b∈fp,fH X pins H b)→tn i s.heap→J.go i H →
  wpAny (model P w) X.A (pyNext (.ref it)) (fun r s1=>∃ u,r=some u ∧
   wpAny (model P w) X.A (letOwnedTupleGo tg (.ref it) u) (fun _ s2=>∃ x H',Inv X pins σ H' s2∧RelV x u∧J.yld i H x H'∧tn (i+1) s2.heap∧∀ b∈fp,H' b=none) E s1) E s
 done:∀ (X:Cx),X.prog=P→X.w=w→X.K=K→X.calm=true→∀ (i:Nat) (pins:List (Addr × Obj)) (s:Shared) (σ:St) (H:Hp) (E:Value→Shared→Prop),Inv X pins σ H s→(∀ b∈fp,fH X pins H b)→tn i s.heap→J.stop i H →
  wpAny (model P w) X.A (pyNext (.ref it)) (fun r s1=>r=none∧Inv X pins σ H s1) E s
 self:∀ (A:Around) (i:Nat) (s:Shared) (Q:Value→Shared→Prop) (E:Value→Shared→Prop),tn i s.heap→Q (.ref it) s→wpAny (model P w) A (pyIter (.ref it)) Q E s
abbrev TI:=St→Hp→(It→Hp→Prop)→Prop
def PIE (X:Cx) (pins:List (Addr × Obj)) (σ:St) (tg:Expr) (R:It→Hp→Prop) (itv:Value) (s2:Shared):Prop :=
 ∃ (it:Addr) (fp:List Addr) (tn:Nat→Heap→Prop) (J:It) (H':Hp),itv=.ref it∧Inv X pins σ H' s2∧Turn X.prog X.w X.K tg J fp it tn∧tn 0 s2.heap∧(∀ b∈fp,fH X pins H' b)∧R J H'
def PI (X:Cx) (tg iter:Expr) (wi:TI):Prop :=
 ∀ (pins:List (Addr × Obj)) (s:Shared) (σ:St) (H:Hp) (R:It→Hp→Prop),Inv X pins σ H s→wi σ H R →
  wpAny (model X.prog X.w) X.A (eval iter X.env) (fun v s1=>wpAny (model X.prog X.w) X.A (pyIter v) (PIE X pins σ tg R) X.xe s1) X.xe s
theorem nj {M:Model} {A:Around} {E:Value→Shared→Prop} {s:Shared} {tg:Expr} {it:Addr} {u:Value} {o:Obj} {n:String} {vs:Array Value} {Q:Unit→Shared→Prop} (ho:s.heap.get? it=some o) (hc:o.cls=.type n) (hd:o.data=.fields vs)
  (hn:["enumerate", "zip", "dict_itemiterator", "dict_reverseitemiterator", "odict_iterator", "itertools.zip_longest", "itertools.pairwise"].contains n=false) (hQ:Q () s):wpAny M A (letOwnedTupleGo tg (.ref it) u) Q E s:=by
 unfold letOwnedTupleGo
 cases tg <;> first
  | exact wpAny_pure hQ
  | (cases u <;> first
    | exact wpAny_pure hQ
    | (refine wpAny_bind (wpAny_load ho ?_)
       rw [hc,hd]
       show wpAny M A (if (["enumerate", "zip", "dict_itemiterator", "dict_reverseitemiterator", "odict_iterator", "itertools.zip_longest", "itertools.pairwise"].contains n && vs[0]? == some (rawInt _))=true then _ else _) Q E s
       rw [if_neg (by intro h; rw [hn,Bool.false_and] at h; cases h)]
       exact wpAny_pure hQ))
def Itl (K:PySem.W.Frag) (a:Addr):It :=
 ⟨fun i H=>∃ xs x,SqL K H a xs∧xs[i]?=some x,fun i H x H'=>H'=H∧∀ xs,SqL K H a xs→xs[i]?=some x,fun i H=>∃ xs,SqL K H a xs∧xs.length≤i⟩
def Itt (K:PySem.W.Frag) (a:Addr):It :=
 ⟨fun i H=>∃ xs x,SqT K H a xs∧xs[i]?=some x,fun i H x H'=>H'=H∧∀ xs,SqT K H a xs→xs[i]?=some x,fun i H=>∃ xs,SqT K H a xs∧xs.length≤i⟩
def Itr (lo:Int) (n:Nat):It:=⟨fun i _=>i < n,fun i H x H'=>H'=H∧x=.int (lo+i),fun i _=>n≤i⟩
theorem ro {P:Program} {w:World} {K:PySem.W.Frag} {tg:Expr} (a it:Addr):Turn P w K tg (Itl K a) [it] it (fun i h=>h.IsListIter it a i) where
 mem:=by simp
 obj:=fun i h st b hb=>by
  have e:b=it:=by simpa using hb
  subst e
  obtain ⟨o,e,c,d⟩:=st
  exact ⟨o,e,fun v z=>by rw [d] at z; cases z⟩
 keep:=fun i h h' st k=>st.at fun o e=>k it (by simp) o e
 item:=by
  intro X hP hw hK hc i pins s σ H E I hf st hg
  subst hP hw hK
  obtain ⟨xs,x,hq,hx⟩:=hg
  obtain ⟨its,rv,p,hz⟩:=I.list hq
  obtain ⟨u,hu,ru⟩:=rv.get hx
  obtain ⟨f0,f1,f2,f3,f4,f5⟩:=hf it (by simp)
  refine wpAny_pyNext_list_item st p.isList (x:=u) (by simpa using hu) fun h' st' sb=>?_
  have I1:Inv X pins σ H { s with heap:=h' }:=I.turned (t':=s.toks) (fun b o hb e=>(sb.2 b hb).trans e) f0 f1 f3 f4 f5
  obtain ⟨o,e,c,d⟩:=id st'
  exact ⟨u,rfl,nj (s:={ s with heap:=h' }) e c d (by decide) ⟨x,H,I1,ru,⟨rfl,fun ys hy=>by rw [I.list_inj hy hq]; exact hx⟩,st',fun b hb=>(hf b hb).1⟩⟩
 done:=by
  intro X hP hw hK hc i pins s σ H E I hf st hg
  subst hP hw hK
  obtain ⟨xs,hq,hx⟩:=hg
  obtain ⟨its,rv,p,hz⟩:=I.list hq
  obtain ⟨f0,f1,f2,f3,f4,f5⟩:=hf it (by simp)
  have hl:=rv.length
  exact wpAny_pyNext_list_end (I.ok.hd hc) st p.isList (by simp; omega) fun h' eb=>⟨rfl,I.turned (t':=s.toks) (fun b o hb e=>eb b o hb e) f0 f1 f3 f4 f5⟩
 self:=fun _ _ _ _ _ st h=>wpAny_pyIter_listiter st h
theorem pW {P:Program} {w:World} {K:PySem.W.Frag} {tg:Expr} (a it:Addr):Turn P w K tg (Itt K a) [it] it (fun i h=>h.IsTupleIter it a i) where
 mem:=by simp
 obj:=fun i h st b hb=>by
  have e:b=it:=by simpa using hb
  subst e
  obtain ⟨o,e,c,d⟩:=st
  exact ⟨o,e,fun v z=>by rw [d] at z; cases z⟩
 keep:=fun i h h' st k=>st.at fun o e=>k it (by simp) o e
 item:=by
  intro X hP hw hK hc i pins s σ H E I hf st hg
  subst hP hw hK
  obtain ⟨xs,x,hq,hx⟩:=hg
  obtain ⟨its,rv,p,hz⟩:=I.tuple hq
  obtain ⟨u,hu,ru⟩:=rv.get hx
  obtain ⟨f0,f1,f2,f3,f4,f5⟩:=hf it (by simp)
  refine wpAny_pyNext_tuple_item st (show s.heap.IsTuple a its.toArray from p) (x:=u) (by simpa using hu) fun h' st' sb=>?_
  have I1:Inv X pins σ H { s with heap:=h' }:=I.turned (t':=s.toks) (fun b o hb e=>(sb.2 b hb).trans e) f0 f1 f3 f4 f5
  obtain ⟨o,e,c,d⟩:=id st'
  exact ⟨u,rfl,nj (s:={ s with heap:=h' }) e c d (by decide) ⟨x,H,I1,ru,⟨rfl,fun ys hy=>by rw [I.tuple_inj hy hq]; exact hx⟩,st',fun b hb=>(hf b hb).1⟩⟩
 done:=by
  intro X hP hw hK hc i pins s σ H E I hf st hg
  subst hP hw hK
  obtain ⟨xs,hq,hx⟩:=hg
  obtain ⟨its,rv,p,hz⟩:=I.tuple hq
  obtain ⟨f0,f1,f2,f3,f4,f5⟩:=hf it (by simp)
  have hl:=rv.length
  exact wpAny_pyNext_tuple_end (I.ok.hd hc) st (show s.heap.IsTuple a its.toArray from p) (by simp; omega) fun h' eb=>⟨rfl,I.turned (t':=s.toks) (fun b o hb e=>eb b o hb e) f0 f1 f3 f4 f5⟩
 self:=fun _ _ _ _ _ st h=>wpAny_pyIter_tupleiter st h
theorem pX {P:Program} {w:World} {K:PySem.W.Frag} {tg:Expr} (it:Addr) (lo:Int) (n:Nat):Turn P w K tg (Itr lo n) [it] it (fun i h=>IsRangeIter h it (lo+(i:Nat) * 1) ((n:Int) - (i:Nat)) 1) where
 mem:=by simp
 obj:=fun i h st b hb=>by
  have e:b=it:=by simpa using hb
  subst e
  exact ⟨_,st,fun v z=>by
   have z':Data.fields _=Data.cell v:=z
   cases z'⟩
 keep:=fun i h h' st k=>k it (by simp) _ st
 item:=by
  intro X hP hw hK hc i pins s σ H E I hf st hg
  subst hP hw hK
  obtain ⟨f0,f1,f2,f3,f4,f5⟩:=hf it (by simp)
  have W:=Walks.range (prog:=X.prog) (w:=X.w) (I.ok.hd hc) it lo 1 n
  refine W.item i s _ _ hg st fun v h' tk hv st' kk=>?_
  obtain ⟨t,rfl⟩:=hv
  have I1:Inv X pins σ H { s with heap:=h',toks:=tk }:=I.turned (fun b o hb e=>kk b o (by simpa using hb) e) f0 f1 f3 f4 f5
  refine ⟨_,rfl,nj (s:={ s with heap:=h',toks:=tk }) (n:="range_iterator") st' rfl rfl (by decide) ⟨.int (lo+i),H,I1,⟨t,?_⟩,⟨rfl,rfl⟩,st',fun b hb=>(hf b hb).1⟩⟩
  rw [Int.mul_one]
 done:=by
  intro X hP hw hK hc i pins s σ H E I hf st hg
  subst hP hw hK
  obtain ⟨f0,f1,f2,f3,f4,f5⟩:=hf it (by simp)
  exact wpAny_pyNext_range_end (I.ok.hd hc) st (by have:n≤i:=hg; omega) fun h' eb=>⟨rfl,I.turned (t':=s.toks) (fun b o hb e=>eb b o hb e) f0 f1 f3 f4 f5⟩
 self:=fun _ _ _ _ _ st h=>wpAny_pyIter_rangeiter st h
end L2
namespace L2
open PySem PySem.Spec PyProof.Rows
section
variable {X:Cx} {tg:Expr}
theorem tO {pins:List (Addr × Obj)} {σ:St} {H:Hp} {s:Shared} {R:It→Hp→Prop} {E:Value→Shared→Prop} {lo hi:Int} {t u v:Tok} {tk:Nat} (I:Inv X pins σ H s) (h1:-(2 ^ 62)≤lo) (h2:lo < 2 ^ 62) (h3:-(2 ^ 62)≤hi) (h4:hi < 2 ^ 62)
  (q:R (Itr lo (hi - lo).toNat) H):wpAny (model X.prog X.w) X.A (pyIter (.ref s.heap.objs.size)) (PIE X pins σ tg R) E { s with heap:=s.heap.push { cls:=.type "range",data:=.fields #[.int lo t,.int hi u,.int 1 v] },toks:=tk }:=by
 refine wpAny_pyIter_range (IsRange.new ..) (small_one h1 h2 h3 h4) ?_
 have I1:Inv X pins σ H { s with heap:=s.heap.push { cls:=.type "range",data:=.fields #[.int lo t,.int hi u,.int 1 v] },toks:=tk }:=I.kept fun b o e=>Heap.get?_push_of_some _ e
 refine ⟨(s.heap.push { cls:=.type "range",data:=.fields #[.int lo t,.int hi u,.int 1 v] }).objs.size,[(s.heap.push { cls:=.type "range",data:=.fields #[.int lo t,.int hi u,.int 1 v] }).objs.size],_,_,H,rfl,
  I1.kept (t':=tk) fun b o e=>Heap.get?_push_of_some _ e,pX _ lo (hi - lo).toNat,?_,fun b hb=>?_,q⟩
 ·have e1:lo+((0:Nat):Int) * 1=lo:=by simp
  have e2:(((hi - lo).toNat:Nat):Int) - ((0:Nat):Int)=Builtin.Range.rangeSize lo hi 1:=by rw [rangeSize_one]; split <;> omega
  show IsRangeIter _ _ (lo+((0:Nat):Int) * 1) ((((hi - lo).toNat:Nat):Int) - ((0:Nat):Int)) 1
  rw [e1,e2]
  exact Heap.get?_push_size _ rfl
 ·have e:b=(s.heap.push { cls:=.type "range",data:=.fields #[.int lo t,.int hi u,.int 1 v] }).objs.size:=by simpa using hb
  subst e
  exact I1.fpOk (Nat.le_refl _) (I1.hok.fresh (Nat.le_refl _))
def GV (ta:TA):TI:=fun σ H R=>ta σ H fun vs H1=>∃ j:Int,vs=[.int j]∧-(2 ^ 62)≤j∧j < 2 ^ 62∧R (Itr 0 j.toNat) H1
theorem rH {a:Expr} {ta:TA} {p pos:Pos} (hg:Gl X "range") (hm:X.mg "range"=none) (ha:PA X [a] ta) (hs:starEach [a] X.env=[(false,eval a X.env)]:=by rfl):PI X tg (.Call (.Name "range" p) [a] [] pos) (GV ta):=by
 intro pins s σ H R I h
 refine Call_ (jo I hg hm boot_range (PyProof.Rows.callWith_type1 (thn (ha pos pins s σ H _ I h) fun us s1 ⟨vs,H1,I1,r1,q1⟩=>?_) hs rfl))
 obtain ⟨j,e,q1,q2,q⟩:=q1
 subst e
 cases r1 with
 | cons r rr =>
  cases rr
  obtain ⟨t,rfl⟩:=r
  exact call_range_1 (tO I1 (by omega) (by omega) q1 q2 (by simpa using q))
def Ef (wi:TI) (g:TG) (tb:TS):TS:=fun D σ H=>wi σ H fun J H1=>∃ W:Nat→Nat→St→Hp→Prop,(∃ m,W 0 m σ H1)∧∀ i m σ H,W i m σ H →
 (J.stop i H∧D.nx σ H)∨(J.go i H∧∃ N:St→Hp→Prop,(∀ σ' H',N σ' H'→∃ m',m' < m∧W (i+1) m' σ' H')∧∀ x H',J.yld i H x H'→g x σ H' fun σ2 H2=>tb { D with nx:=N,ct:=N,bk:=D.nx } σ2 H2)
def jh (fp:List Addr) (h:Heap):List (Addr × Obj):=fp.filterMap fun b=>(h.get? b).map fun o=>(b,o)
theorem fN {fp:List Addr} {h:Heap} {b:Addr} {o:Obj} (hb:b∈fp) (e:h.get? b=some o):(b,o)∈jh fp h:=List.mem_filterMap.mpr ⟨b,hb,by rw [e]; rfl⟩
theorem rQ {fp:List Addr} {h:Heap} {p:Addr × Obj} (hp:p∈jh fp h):p.1∈fp∧h.get? p.1=some p.2:=by
 obtain ⟨b,hb,e⟩:=List.mem_filterMap.mp hp
 cases q:h.get? b with
 | none=>rw [q] at e; cases e
 | some o =>
  rw [q] at e
  have e':(b,o)=p:=Option.some.inj e
  subst e'
  exact ⟨hb,q⟩
theorem Inv.pinned {pins:List (Addr × Obj)} {σ:St} {H:Hp} {s:Shared} {fp:List Addr} (I:Inv X pins σ H s) (hf:∀ b∈fp,fH X pins H b) (ho:∀ b∈fp,∃ o,s.heap.get? b=some o∧∀ v,o.data≠.cell v):Inv X (pins++jh fp s.heap) σ H s :=
 I.pins_of fun p hp=>(List.mem_append.mp hp).elim (fun z=>I.pin p (List.mem_append_right _ z)) fun z=>by
  obtain ⟨hb,e⟩:=rQ z
  obtain ⟨f0,f1,f2,_⟩:=hf p.1 hb
  obtain ⟨o,e',d⟩:=ho p.1 hb
  rw [e] at e'; cases e'
  exact ⟨e,f0,f1,f2,d⟩
theorem Inv.unpinned {pins pl:List (Addr × Obj)} {σ:St} {H:Hp} {s:Shared} (I:Inv X (pins++pl) σ H s):Inv X pins σ H s:=I.pins_of fun p hp=>I.pin p (List.mem_append_right _ (List.mem_append_left _ hp))
theorem EC {iter:Expr} {body:List Stmt} {wi:TI} {g:TG} {tb:TS} {pos:Pos} (hp:PassesOwn (model X.prog X.w) X.A X.env X.xe) (hc:X.calm=true) (hi:PI X tg iter wi) (hg:PG X tg g) (hb:PSs X body tb)
  (hs:∀ x,foldedSetIterable iter X.env x=pure x:=by intro _; rfl):PS X (.For tg iter body [] pos) (Ef wi g tb):=by
 intro pins s σ H D I h
 refine wpAny_For (thn (hi pins s σ H _ I h) fun v s1 h1=>thn h1 fun itv s2 h2=>?_) hs
 obtain ⟨it,fp,tn,J,H2,e,I2,T,st2,f2,W,⟨m0,w0⟩,turn⟩:=h2
 subst e
 have stat:∀ {H':Hp},(∀ b∈fp,H' b=none)→∀ b∈fp,fH X pins H' b:=fun hn b hb=>⟨hn b hb,(f2 b hb).2⟩
 refine codeAny_forLoop_any (fun n s'=>∃ i σ' H',Inv X pins σ' H' s'∧tn i s'.heap∧(∀ b∈fp,H' b=none)∧W i n σ' H') ?_ m0 ⟨0,σ,H2,I2,st2,fun b hb=>(f2 b hb).1,w0⟩
 rintro n s3 ⟨i,σ3,H3,I3,st3,fr3,w3⟩
 rcases turn i n σ3 H3 w3 with ⟨stop,qn⟩ | ⟨go,N,hN,step⟩
 ·refine wpAny_passesOwn hp (thn (T.done X rfl rfl rfl hc i pins s3 σ3 H3 X.xe I3 (stat fr3) st3 stop) fun r s4 ⟨hr,I4⟩=>?_)
  subst hr
  exact wpAny_execs_nil ⟨σ3,H3,I4,qn⟩
 ·refine wpAny_passesOwn hp (thn (T.item X rfl rfl rfl hc i pins s3 σ3 H3 X.xe I3 (stat fr3) st3 go) fun r s4 ⟨u,hr,h4⟩=>?_)
  subst hr
  refine wpAny_passesOwn hp (thn h4 fun _ s5 ⟨x,H5,I5,r5,y5,st5,fr5⟩=>?_)
  have I5':=I5.pinned (stat fr5) (T.obj _ _ st5)
  refine wpAny_passesOwn hp (thn (hg _ s5 σ3 H5 x u _ I5' r5 (step x H5 y5)) fun _ s6 ⟨σ6,H6,I6,q6⟩=>?_)
  refine wpAny_passesOwn hp (thn (hb _ s6 σ6 H6 _ I6 q6) fun f s7 q7=>?_)
  have again:∀ {σ7:St} {H7:Hp},Inv X (pins++jh fp s5.heap) σ7 H7 s7→N σ7 H7→∃ m,m < n∧∃ i σ' H',Inv X pins σ' H' s7∧tn i s7.heap∧(∀ b∈fp,H' b=none)∧W i m σ' H':=fun {σ7 H7} I7 n7=>by
   obtain ⟨m',hm,w7⟩:=hN σ7 H7 n7
   refine ⟨m',hm,i+1,σ7,H7,I7.unpinned,T.keep _ _ _ st5 fun b hb o e=>(I7.pin (b,o) (List.mem_append_right _ (List.mem_append_right _ (fN hb e)))).1,fun b hb=>?_,w7⟩
   obtain ⟨o,e,d⟩:=T.obj _ _ st5 b hb
   exact (I7.pin (b,o) (List.mem_append_right _ (List.mem_append_right _ (fN hb e)))).2.1
  cases f with
  | next=>obtain ⟨σ7,H7,I7,n7⟩:=q7; exact again I7 n7
  | cont=>obtain ⟨σ7,H7,I7,n7⟩:=q7; exact again I7 n7
  | brk=>obtain ⟨σ7,H7,I7,q7⟩:=q7; exact ⟨σ7,H7,I7.unpinned,q7⟩
  | ret v=>obtain ⟨x7,σ7,H7,I7,r7,q7⟩:=q7; exact ⟨x7,σ7,H7,I7.unpinned,r7,q7⟩
end
end L2
namespace L2
open PySem PySem.Spec PyProof.Rows
abbrev R2:=V→V→Hp→VK→Prop
def OpR (X:Cx) (f:Value→Value→Sem Value) (r:R2):Prop :=
 ∀ (pins:List (Addr × Obj)) (s:Shared) (σ:St) (H:Hp) (x y:V) (v u:Value) (Q:VK),Inv X pins σ H s→RelV x v→RelV y u→r x y H Q →
  wpAny (model X.prog X.w) X.A (f v u) (EP X pins σ Q) X.xe s
def UnR (X:Cx) (f:Value→Sem Value) (r:V→Hp→VK→Prop):Prop :=
 ∀ (pins:List (Addr × Obj)) (s:Shared) (σ:St) (H:Hp) (x:V) (v:Value) (Q:VK),Inv X pins σ H s→RelV x v→r x H Q →
  wpAny (model X.prog X.w) X.A (f v) (EP X pins σ Q) X.xe s
def CallR (X:Cx) (f:Value) (r:List V→Hp→VK→Prop):Prop :=
 ∀ (pins:List (Addr × Obj)) (s:Shared) (σ:St) (H:Hp) (xs:List V) (us:List Value) (Q:VK),Inv X pins σ H s→Vals xs us→r xs H Q →
  wpAny (model X.prog X.w) X.A (call f us) (EP X pins σ Q) X.xe s
def HM (X:Cx) (r:V→Hp→(Bool→Hp→Prop)→Prop):Prop :=
 ∀ (pins:List (Addr × Obj)) (s:Shared) (σ:St) (H:Hp) (x:V) (v:Value) (Q:Bool→Hp→Prop),Inv X pins σ H s→RelV x v→r x H Q →
  wpAny (model X.prog X.w) X.A (truthy v) (TP X pins σ Q) X.xe s
def tOp (r:R2) (ta tb:TE):TE:=fun σ H Q=>ta σ H fun x H1=>tb σ H1 fun y H2=>r x y H2 Q
def tUn (r:V→Hp→VK→Prop) (ta:TE):TE:=fun σ H Q=>ta σ H fun x H1=>r x H1 Q
def rI (C:Int→Int→Prop) (g:Int→Int→V):R2:=fun x y H Q=>∃ i j,x=.int i∧y=.int j∧C i j∧Q (g i j) H
def rI0 (g:Int→Int→V):R2:=fun x y H Q=>∃ i j,x=.int i∧y=.int j∧Q (g i j) H
def rU (g:Int→V):V→Hp→VK→Prop:=fun x H Q=>∃ i,x=.int i∧Q (g i) H
section
variable {X:Cx} {a b c:Expr} {ta tb tc:TE} {pos:Pos}
theorem u3 (ha:PE X a ta) (hb:PE X b tb) {pins:List (Addr × Obj)} {s:Shared} {σ:St} {H:Hp} {R:V→V→Hp→Prop} (I:Inv X pins σ H s)
  (h:ta σ H fun x H1=>tb σ H1 fun y H2=>R x y H2) {Q:Value→Shared→Prop} {f:Value→Value→Sem Value}
  (hf:∀ v u s2 x y H2,Inv X pins σ H2 s2→RelV x v→RelV y u→R x y H2→wpAny (model X.prog X.w) X.A (f v u) Q X.xe s2) :
  wpAny (model X.prog X.w) X.A (eval a X.env) (fun v s₁=>wpAny (model X.prog X.w) X.A (eval b X.env) (fun u s₂=>wpAny (model X.prog X.w) X.A (f v u) Q X.xe s₂) X.xe s₁) X.xe s:=by
 refine thn (ha pins s σ H _ I h) fun v s1 ⟨x,H1,I1,r1,q1⟩=>?_
 refine thn (hb pins s1 σ H1 _ I1 q1) fun u s2 ⟨y,H2,I2,r2,q2⟩=>?_
 exact hf v u s2 x y H2 I2 r1 r2 q2
theorem GH {op:Operator} {r:R2} (ho:OpR X (binaryOp op) r) (ha:PE X a ta) (hb:PE X b tb):PE X (.BinOp a op b pos) (tOp r ta tb):=by
 intro pins s σ H Q I h
 exact wpAny_BinOp (u3 ha hb I h fun v u s2 x y H2 I2 rx ry q=>ho pins s2 σ H2 x y v u Q I2 rx ry q)
theorem GF {op:UnaryOp} {r:V→Hp→VK→Prop} (ho:UnR X (unaryOp op) r) (ha:PE X a ta):PE X (.UnaryOp op a pos) (tUn r ta):=by
 intro pins s σ H Q I h
 exact UnaryOp_ (thn (ha pins s σ H _ I h) fun v s1 ⟨x,H1,I1,r1,q1⟩=>ho pins s1 σ H1 x v Q I1 r1 q1)
theorem opI {f:Value→Value→Sem Value} {C:Int→Int→Prop} {g:Int→Int→Int}
  (rule:∀ (i j:Int) (t u:Tok) (s:Shared) (Q:Value→Shared→Prop) (E:Value→Shared→Prop),C i j→Q (.int (g i j) s.toks) { s with toks:=s.toks+1 }→wpAny (model X.prog X.w) X.A (f (.int i t) (.int j u)) Q E s) :
  OpR X f (rI C fun i j=>.int (g i j)):=by
 intro pins s σ H x y v u Q I rx ry h
 obtain ⟨i,j,rfl,rfl,hc,q⟩:=h
 obtain ⟨t,rfl⟩:=rx
 obtain ⟨t',rfl⟩:=ry
 exact rule i j t t' s _ _ hc ⟨.int (g i j),H,I.tok _,⟨_,rfl⟩,q⟩
theorem EK {f:Value→Value→Sem Value} {g:Int→Int→Int}
  (rule:∀ (i j:Int) (t u:Tok) (s:Shared) (Q:Value→Shared→Prop) (E:Value→Shared→Prop),Q (.int (g i j) s.toks) { s with toks:=s.toks+1 }→wpAny (model X.prog X.w) X.A (f (.int i t) (.int j u)) Q E s) :
  OpR X f (rI0 fun i j=>.int (g i j)):=by
 intro pins s σ H x y v u Q I rx ry h
 obtain ⟨i,j,rfl,rfl,q⟩:=h
 obtain ⟨t,rfl⟩:=rx
 obtain ⟨t',rfl⟩:=ry
 exact rule i j t t' s _ _ ⟨.int (g i j),H,I.tok _,⟨_,rfl⟩,q⟩
theorem qc {f:Value→Value→Sem Value} {g:Int→Int→Bool}
  (rule:∀ (i j:Int) (t u:Tok) (s:Shared) (Q:Value→Shared→Prop) (E:Value→Shared→Prop),Q (.bool (g i j)) s→wpAny (model X.prog X.w) X.A (f (.int i t) (.int j u)) Q E s) :
  OpR X f (rI0 fun i j=>.bl (g i j)):=by
 intro pins s σ H x y v u Q I rx ry h
 obtain ⟨i,j,rfl,rfl,q⟩:=h
 obtain ⟨t,rfl⟩:=rx
 obtain ⟨t',rfl⟩:=ry
 exact rule i j t t' s _ _ ⟨.bl (g i j),H,I,rfl,q⟩
def fI (i j:Int):Prop:=0 < j∧j < 1073741824
def gk (i j:Int):Prop:=0≤j∧j≤1000000∧i.natAbs < 2 ^ 64
def CMul (i j:Int):Prop:=(-(2 ^ 64) < i∧i < 2 ^ 64)∨(-(2 ^ 64) < j∧j < 2 ^ 64)
theorem CMul.ok {i j:Int} (h:CMul i j):IntMulOk i j:=by
 rcases h with ⟨h1,h2⟩ | ⟨h1,h2⟩
 ·exact .of_left (intBits_le_64 h1 h2)
 ·exact .of_right (intBits_le_64 h1 h2)
theorem op_add:OpR X (binaryOp .Add) (rI0 fun i j=>.int (i+j)):=EK fun _ _ _ _ _ _ _ q=>add_int q
theorem op_sub:OpR X (binaryOp .Sub) (rI0 fun i j=>.int (i - j)):=EK fun _ _ _ _ _ _ _ q=>sub_int q
theorem op_mul:OpR X (binaryOp .Mult) (rI CMul fun i j=>.int (i * j)):=opI fun _ _ _ _ _ _ _ hc q=>mul_int q hc.ok
theorem op_fdiv:OpR X (binaryOp .FloorDiv) (rI fI fun i j=>.int (i / j)):=opI fun i j _ _ _ _ _ hc q=>by
 have h1:(0:Int) < j:=hc.1
 have h2:j < 1073741824:=hc.2
 exact floordiv_int (by omega) (by rw [Int.fdiv_eq_ediv_of_nonneg i (by omega)]; exact q) (.inl (PyProof.noPylong_small (by omega)))
theorem op_mod:OpR X (binaryOp .Mod) (rI (fun _ j=>0 < j) fun i j=>.int (i % j)):=opI fun i j _ _ _ _ _ hc q=>by
 have h1:(0:Int) < j:=hc
 exact mod_int' (by omega) (by rw [Int.fmod_eq_emod_of_nonneg i (by omega)]; exact q)
theorem op_pow:OpR X (binaryOp .Pow) (rI gk fun i j=>.int (i ^ j.toNat)):=opI fun _ _ _ _ _ _ _ hc q=>pow_int_small hc.1 hc.2.1 hc.2.2 q
theorem unI {f:Value→Sem Value} {g:Int→Int}
  (rule:∀ (i:Int) (t:Tok) (s:Shared) (Q:Value→Shared→Prop) (E:Value→Shared→Prop),Q (.int (g i) s.toks) { s with toks:=s.toks+1 }→wpAny (model X.prog X.w) X.A (f (.int i t)) Q E s) :
  UnR X f (rU fun i=>.int (g i)):=by
 intro pins s σ H x v Q I rx h
 obtain ⟨i,rfl,q⟩:=h
 obtain ⟨t,rfl⟩:=rx
 exact rule i t s _ _ ⟨.int (g i),H,I.tok _,⟨_,rfl⟩,q⟩
theorem un_neg:UnR X (unaryOp .USub) (rU fun i=>.int (-i)):=unI fun _ _ _ _ _ q=>neg_int q
end
section
variable {X:Cx} {a b c:Expr} {ta tb tc:TE} {pos:Pos}
theorem FJ {pins:List (Addr × Obj)} {σ:St} {H:Hp} {s:Shared} {Q:VK} {k k':Bool} (I:Inv X pins σ H s) (q:Q (.bl k) H) (e:k=k'):EP X pins σ Q (.bool k') s:=by
 subst e
 exact ⟨.bl k,H,I,rfl,q⟩
theorem op_lt:OpR X (compareOp .Lt) (rI0 fun i j=>.bl (decide (i < j))):=qc fun _ _ _ _ _ _ _ q=>lt_int q
theorem op_le:OpR X (compareOp .LtE) (rI0 fun i j=>.bl (decide (i≤j))):=qc fun _ _ _ _ _ _ _ q=>le_int q
theorem op_gt:OpR X (compareOp .Gt) (rI0 fun i j=>.bl (decide (j < i))):=qc fun _ _ _ _ _ _ _ q=>gt_int q
theorem op_ge:OpR X (compareOp .GtE) (rI0 fun i j=>.bl (decide (j≤i))):=qc fun _ _ _ _ _ _ _ q=>ge_int q
theorem op_isN:OpR X (compareOp .Is) (fun x y H Q=>y=.non∧Q (.bl (decide (x=.non))) H):=by
 intro pins s σ H x y v u Q I rx ry h
 obtain ⟨rfl,q⟩:=h
 cases ry
 refine is_none_gen (FJ I q ?_)
 cases x <;> first
  | (cases rx; rfl)
  | (obtain ⟨t,rfl⟩:=rx; rfl)
theorem aU (b:Expr) {op:CmpOp} (h:op≠.In:=by decide) (h2:op≠.NotIn:=by decide):behindInMarks op b=false:=by
 have e1:(op == CmpOp.In)=false:=by cases op <;> first | rfl | exact absurd rfl h
 have e2:(op == CmpOp.NotIn)=false:=by cases op <;> first | rfl | exact absurd rfl h2
 cases b <;> simp [behindInMarks,e1,e2]
theorem Ba {op:CmpOp} {r:R2} (ho:OpR X (compareOp op) r) (ha:PE X a ta) (hb:PE X b tb) (hm:behindInMarks op b=false):PE X (.Compare a [op] [b] pos) (tOp r ta tb):=by
 intro pins s σ H Q I h
 exact wpAny_Compare1 (u3 ha hb I h fun v u s2 x y H2 I2 rx ry q=>ho pins s2 σ H2 x y v u Q I2 rx ry q) hm
def Ad (t:TE):TT:=fun σ H Q=>t σ H fun x H'=>∃ k,x=.bl k∧Q k H'
theorem AV {op:CmpOp} {r:R2} (ho:OpR X (compareOp op) r) (ha:PE X a ta) (hb:PE X b tb) (hm:behindInMarks op b=false):PT X (.Compare a [op] [b] pos) (Ad (tOp r ta tb)):=by
 intro pins s σ H Q I h
 refine wpAny_isTrue_Compare1 (thn (ha pins s σ H _ I h) fun v s1 ⟨x,H1,I1,r1,q1⟩=>thn (hb pins s1 σ H1 _ I1 q1) fun u s2 ⟨y,H2,I2,r2,q2⟩ =>
  thn (ho pins s2 σ H2 x y v u _ I2 r1 r2 q2) fun c s3 ⟨z,H3,I3,r3,k,e,q3⟩=>?_) hm
 subst e
 cases r3
 exact wpAny_truthy_bool ⟨H3,I3,q3⟩
def nu (r r':R2) (ta tb tc:TE):TE:=fun σ H Q=>ta σ H fun x H1=>tb σ H1 fun y H2=>r x y H2 fun z H3=>∃ k,z=.bl k ∧
 (if k=true then tc σ H3 fun w' H4=>r' y w' H4 Q else Q (.bl false) H3)
theorem tY {op op':CmpOp} {r r':R2} (ho:OpR X (compareOp op) r) (ho':OpR X (compareOp op') r') (ha:PE X a ta) (hb:PE X b tb) (hc:PE X c tc)
  (hm:lastMarks [op,op'] [b,c]=false:=by with_unfolding_all rfl):PE X (.Compare a [op,op'] [b,c] pos) (nu r r' ta tb tc):=by
 intro pins s σ H Q I h
 refine Compare_chain (thn (ha pins s σ H _ I h) fun v s1 ⟨x,H1,I1,r1,q1⟩=>chain_link (thn (hb pins s1 σ H1 _ I1 q1) fun u s2 ⟨y,H2,I2,r2,q2⟩ =>
  thn (ho pins s2 σ H2 x y v u _ I2 r1 r2 q2) fun d s3 ⟨z,H3,I3,r3,k,e,q3⟩=>?_)) hm
 subst e
 cases r3
 refine wpAny_truthy_bool ?_
 cases k with
 | false=>exact ite_ff ⟨.bl false,H3,I3,rfl,q3⟩
 | true=>exact ite_tt (chain_last (thn (hc pins s3 σ H3 _ I3 q3) fun w' s4 ⟨z',H4,I4,r4,q4⟩=>ho' pins s4 σ H4 y z' u w' Q I4 r2 r4 q4))
theorem tP {op op':CmpOp} {r r':R2} (ho:OpR X (compareOp op) r) (ho':OpR X (compareOp op') r') (ha:PE X a ta) (hb:PE X b tb) (hc:PE X c tc)
  (hm:lastMarks [op,op'] [b,c]=false:=by with_unfolding_all rfl):PT X (.Compare a [op,op'] [b,c] pos) (Ad (nu r r' ta tb tc)):=by
 intro pins s σ H Q I h
 refine isTrue_chain (thn (ha pins s σ H _ I h) fun v s1 ⟨x,H1,I1,r1,q1⟩=>test_link (thn (hb pins s1 σ H1 _ I1 q1) fun u s2 ⟨y,H2,I2,r2,q2⟩ =>
  thn (ho pins s2 σ H2 x y v u _ I2 r1 r2 q2) fun d s3 ⟨z,H3,I3,r3,k,e,q3⟩=>?_)) hm
 subst e
 cases r3
 refine wpAny_truthy_bool ?_
 cases k with
 | false =>
  obtain ⟨k',e',q'⟩:=q3
  cases e'
  exact ite_ff ⟨H3,I3,q'⟩
 | true =>
  refine ite_tt (test_last (thn (hc pins s3 σ H3 _ I3 q3) fun w' s4 ⟨z',H4,I4,r4,q4⟩=>thn (ho' pins s4 σ H4 y z' u w' _ I4 r2 r4 q4) fun d' s5 ⟨z2,H5,I5,r5,k2,e2,q5⟩=>?_))
  subst e2
  cases r5
  exact wpAny_truthy_bool ⟨H5,I5,q5⟩
def HL (K:PySem.W.Frag) (x:V) (H:Hp) (k:Bool):Prop :=
 match x with
 | .non=>k=false
 | .bl b=>k=b
 | .int i=>k=(i != 0)
 | .str y=>y.length≤sizeLine∧k=((y.length:Int) != 0)
 | .byt y=>y.size≤sizeLine∧k=((y.size:Int) != 0)
 | .ref p=>(∃ xs,SqL K H p xs∧k=!xs.isEmpty)∨(∃ xs,SqT K H p xs∧k=!xs.isEmpty)∨∃ kvs,H p=some (.dK kvs)∧k=!kvs.isEmpty
 | _=>False
theorem jm:(sizeLine:Nat) < 2 ^ 63:=by rw [sizeLine_eq]; decide
theorem qb:OpR X (binaryOp .Add) (fun x y H Q=>∃ i j,x=.str i∧y=.str j∧i.length+j.length≤sizeLine∧Q (.str (i++j)) H):=by
 intro pins s σ H x y v u Q I rx ry h
 obtain ⟨i,j,rfl,rfl,hz,q⟩:=h
 obtain ⟨t,rfl⟩:=rx
 obtain ⟨t',rfl⟩:=ry
 exact add_str (fun t' tk=>⟨.str (i++j),H,I.tok _,⟨_,rfl⟩,q⟩) hz
theorem bU {x:V} {us:List Value} (r:Vals [x] us):∃ u,us=[u]∧RelV x u:=by
 cases r with
 | cons r1 r2=>cases r2; exact ⟨_,rfl,r1⟩
theorem na {x y:V} {us:List Value} (r:Vals [x,y] us):∃ u w',us=[u,w']∧RelV x u∧RelV y w':=by
 cases r with
 | cons r1 r2 =>
  cases r2 with
  | cons r3 r4=>cases r4; exact ⟨_,_,rfl,r1,r3⟩
theorem call_abs:CallR X (.builtin "abs") (fun xs H Q=>∃ i,xs=[.int i]∧Q (.int (if i < 0 then -i else i)) H):=by
 intro pins s σ H xs us Q I r h
 obtain ⟨i,rfl,q⟩:=h
 obtain ⟨u,rfl,t,rfl⟩:=bU r
 exact call_abs_int fun u tk=>⟨.int (if i < 0 then -i else i),H,I.tok _,⟨_,rfl⟩,q⟩
theorem sZ (hc:X.calm=true):CallR X (.builtin "max") (fun xs H Q=>∃ i j,xs=[.int i,.int j]∧Q (.int (if j > i then j else i)) H):=by
 intro pins s σ H xs us Q I r h
 obtain ⟨i,j,rfl,q⟩:=h
 obtain ⟨u,w',rfl,⟨t,rfl⟩,⟨t',rfl⟩⟩:=na r
 refine max_two_ints (I.ok.hd hc) fun h' tk k=>⟨_,H,I.kept k,?_,q⟩
 by_cases hj:j > i
 ·rw [if_pos hj,if_pos hj]; exact ⟨_,rfl⟩
 ·rw [if_neg hj,if_neg hj]; exact ⟨_,rfl⟩
theorem sY (hc:X.calm=true):CallR X (.builtin "min") (fun xs H Q=>∃ i j,xs=[.int i,.int j]∧Q (.int (if j < i then j else i)) H):=by
 intro pins s σ H xs us Q I r h
 obtain ⟨i,j,rfl,q⟩:=h
 obtain ⟨u,w',rfl,⟨t,rfl⟩,⟨t',rfl⟩⟩:=na r
 refine min_two_ints (I.ok.hd hc) fun h' tk k=>⟨_,H,I.kept k,?_,q⟩
 by_cases hj:j < i
 ·rw [if_pos hj,if_pos hj]; exact ⟨_,rfl⟩
 ·rw [if_neg hj,if_neg hj]; exact ⟨_,rfl⟩
theorem call_str_int:CallR X (.type "str") (fun xs H Q=>∃ i,xs=[.int i]∧i.natAbs.log2 < 1920∧Q (.str (toString i)) H):=by
 intro pins s σ H xs us Q I r h
 obtain ⟨i,rfl,hz,q⟩:=h
 obtain ⟨u,rfl,t,rfl⟩:=bU r
 exact PySem.P.str_of_int hz ⟨.str _,H,I.tok _,⟨_,rfl⟩,q⟩
def Gr (K:PySem.W.Frag) (x:V) (H:Hp) (n:Nat):Prop :=
 match x with
 | .str y=>y.length≤sizeLine∧n=y.length
 | .byt y=>y.size≤sizeLine∧n=y.size
 | .ref p=>(∃ xs,SqL K H p xs∧n=xs.length)∨∃ xs,SqT K H p xs∧n=xs.length
 | _=>False
theorem uX:CallR X (.builtin "len") (fun xs H Q=>∃ x n,xs=[x]∧Gr X.K x H n∧Q (.int n) H):=by
 intro pins s σ H xs us Q I r h
 obtain ⟨x,n,rfl,e,q⟩:=h
 obtain ⟨u,rfl,rx⟩:=bU r
 have hl:=jm
 have hs:sizeLine=16777216:=sizeLine_eq
 cases x with
 | str y =>
  obtain ⟨t,rfl⟩:=rx
  obtain ⟨hy,e'⟩:y.length≤sizeLine∧n=y.length:=e
  subst e'
  exact len_str (by omega) ⟨.int _,H,I.tok _,⟨_,rfl⟩,q⟩
 | byt y =>
  obtain ⟨t,rfl⟩:=rx
  obtain ⟨hy,e'⟩:y.size≤sizeLine∧n=y.size:=e
  subst e'
  exact PySem.W.len_bytes (by omega) ⟨.int _,H,I.tok _,⟨_,rfl⟩,q⟩
 | ref p =>
  cases rx
  have e':(∃ xs,SqL X.K H p xs∧n=xs.length)∨∃ xs,SqT X.K H p xs∧n=xs.length:=e
  rcases e' with ⟨xs,hx,e'⟩ | ⟨xs,hx,e'⟩
  ·subst e'
   obtain ⟨its,r',pl,hz⟩:=I.list hx
   have hlen:=r'.length
   exact Calls.call_len_list pl.isList (by simp only [List.size_toArray]; omega) ⟨.int xs.length,H,I.tok _,⟨_,by simp only [List.size_toArray]; rw [hlen]⟩,q⟩
  ·subst e'
   obtain ⟨its,r',pl,hz⟩:=I.tuple hx
   have hlen:=r'.length
   exact len_tuple pl (by simp only [List.size_toArray]; omega) ⟨.int xs.length,H,I.tok _,⟨_,by simp only [List.size_toArray]; rw [hlen]⟩,q⟩
 | _=>exact (show False from e).elim
end
end L2
namespace L2
open PySem PySem.Spec PyProof.Rows
structure ObjM (h:Heap) (x dx C:Addr) (mA:Str→Option Value):Prop where
 obj:h.get? x=some (PySem.W.instObj C dx)
 ns:h.Ns1 dx mA
 ne:dx≠x
theorem rT {h:Heap} {dx:Addr} {mA:Str→Option Value} (n:h.Ns1 dx mA):∃ od,h.get? dx=some od∧∀ name,PySem.W.lookIn name od=some (mA name):=by
 obtain ⟨o,es,ep,ho,hd,hk,_,hm⟩:=n
 refine ⟨o,ho,fun name=>?_⟩
 have e:=hm name
 unfold nsFind findBy at e
 rw [← Array.find?_toList] at e
 unfold PySem.W.lookIn
 rw [hd]
 dsimp only
 split
 ·rename_i y q
  rw [q] at e
  exact congrArg some e
 ·rename_i q
  rw [q] at e
  have a:es.toList.any (·.refKey)=false:=by
   rw [List.any_eq_false]
   intro y hy
   obtain ⟨z,t,hkey⟩:=hk y (Array.mem_toList_iff.mp hy)
   simp [DictEntry.refKey,hkey]
  have a':¬ es.toList.any (·.refKey)=true:=by rw [a]; exact Bool.false_ne_true
  rw [if_neg a']
  exact congrArg some e
theorem ObjM.look {h:Heap} {x dx C:Addr} {mA:Str→Option Value} (I:ObjM h x dx C mA):∃ od,PySem.W.InstAt h x (PySem.W.instObj C dx) C (some od)∧∀ name,PySem.W.lookIn name od=some (mA name) :=
 let ⟨od,ho,hl⟩:=rT I.ns
 ⟨od,⟨I.obj,rfl,rfl,ho⟩,hl⟩
section
variable {prog:Program} {w:World} {A:Around} {E:Value→Shared→Prop} {s:Shared} {K:PySem.W.Frag} {x dx C f:Addr} {mA:Str→Option Value} {name:Str} {v:Value}
end
theorem RelO.some_of {v:V} {o:Option Value} (r:RelO (some v) o):∃ u,o=some u∧RelV v u:=by
 cases o with
 | none=>exact (show False from r).elim
 | some u=>exact ⟨u,rfl,r⟩
section
variable {P:Program} {w:World} {H H':Hp} {h h':Heap} {a C dx:Addr} {fs fs':List (Str × V)}
theorem Bs (hok:HOk P w H h) (e:H a=some (.ins C dx fs)):∃ mA,ObjM h a dx C mA∧(∀ f,RelO (fs.lookup f) (mA f))∧PySem.Within mA (fs.map (·.1))∧fs.length≤1000∧H dx=some (.own a):=by
 obtain ⟨d,z,ne,ob,mA,n,r,q⟩:=(show ObjOk P w H h a (.ins C dx fs) from hok a _ e)
 exact ⟨mA,⟨ob,n,ne⟩,r,q,z,d⟩
end
structure Cls (K:PySem.W.Frag) (C:Addr):Prop where
 pg:PySem.W.plainGet K C Str.empty=true
 hd:PySem.W.hasDictIn K C=true
 po:PySem.W.plainOver K C=true
 sa:PySem.W.findIn K (.ref C) "__setattr__"=some (some (.builtin "object.__setattr__"))
theorem Cls.get {K:PySem.W.Frag} {C:Addr} (c:Cls K C) (f:Str):PySem.W.plainGet K C f=true:=c.pg
section
variable {X:Cx} {pins:List (Addr × Obj)} {σ:St} {H:Hp} {s:Shared} {a C dx:Addr} {fs:List (Str × V)} {f:Str} {v:V} {A:Around} {E:Value→Shared→Prop}
end
section
variable {X:Cx} {o e value:Expr} {f:Str} {pos pos' tpos:Pos} {ta tv:TE}
end
section
variable {X:Cx} {pins:List (Addr × Obj)} {σ:St} {H:Hp} {s:Shared} {A:Around} {E:Value→Shared→Prop} {Q:Value→Shared→Prop} {c:Value} {b:Bool}
inductive TyOf (K:PySem.W.Frag) (H:Hp):V→Value→Prop where
 | non:TyOf K H .non (.type "NoneType")
 | bl (x:Bool):TyOf K H (.bl x) (.type "bool")
 | int (i:Int):TyOf K H (.int i) (.type "int")
 | str (x:Str):TyOf K H (.str x) (.type "str")
 | flt (x:UInt64):TyOf K H (.flt x) (.type "float")
 | lst {a:Addr} {xs:List V} (e:H a=some (.lst xs)):TyOf K H (.ref a) (.type "list")
 | frz {a:Addr} {o:Obj} {xs:List V} (e:H a=some (.frz o (.lst xs))):TyOf K H (.ref a) (.type "list")
 | tup {a:Addr} {xs:List V} (e:H a=some (.tup xs)):TyOf K H (.ref a) (.type "tuple")
 | dK {a:Addr} {kvs:List (Key × V)} (e:H a=some (.dK kvs)):TyOf K H (.ref a) (.type "dict")
 | dT {a:Addr} {kvs:List (List Key × V)} (e:H a=some (.dT kvs)):TyOf K H (.ref a) (.type "dict")
 | ins {a C dx:Addr} {fs:List (Str × V)} (e:H a=some (.ins C dx fs)) (cl:Cls K C) (ha:PySem.W.findIn K (.ref C) "__class__"=some (some (.builtin "object.__class__")))
   (hn:PySem.W.specialIn K (.builtin "object.__class__") "__get__"=some (some (.builtin "getset_descriptor.__get__"))) (htk:PySem.W.takesIn K (.builtin "object.__class__")=some true)
   (hm:PySem.W.mroIn K C (.type "object")=some true):TyOf K H (.ref a) (.ref C)
theorem so {x:V} {u t:Value} (I:Inv X pins σ H s) (rx:RelV x u) (ty:TyOf X.K H x t) (e:PySem.W.kitOne X.K t c=some b) (h:∀ tk,Q (.bool b) { s with toks:=tk }) :
  wpAny (model X.prog X.w) A (call (.builtin "isinstance") [u,c]) Q E s:=by
 cases ty with
 | non=>cases (show u=Value.none from rx); exact PySem.W.kia_one PySem.W.kitx_none I.kIn True.intro e (fun z=>nomatch z) h
 | bl y=>cases (show u=Value.bool y from rx); exact PySem.W.kia_one PySem.W.kitx_bool I.kIn True.intro e (fun z=>nomatch z) h
 | int i=>obtain ⟨t,q⟩:=(show ∃ t,u=Value.int i t from rx); cases q; exact PySem.W.kia_one PySem.W.kitx_int I.kIn True.intro e (fun z=>nomatch z) h
 | str y=>obtain ⟨t,q⟩:=(show ∃ t,u=Value.str y t from rx); cases q; exact PySem.W.kia_one PySem.W.kitx_str I.kIn True.intro e (fun z=>nomatch z) h
 | flt y=>obtain ⟨t,q⟩:=(show ∃ t,u=Value.float y t from rx); cases q; exact PySem.W.kia_one PySem.W.kitx_float I.kIn True.intro e (fun z=>nomatch z) h
 | @lst a xs ea =>
  cases (show u=Value.ref a from rx)
  obtain ⟨_,_,n,_,h1⟩:=(show ObjOk X.prog X.w H s.heap a (.lst xs) from I.hok a _ ea)
  exact PySem.W.kia_one PySem.W.kitx_list I.kIn ⟨_,h1,rfl⟩ e (fun z=>nomatch z) h
 | @frz a ob xs ea =>
  cases (show u=Value.ref a from rx)
  obtain ⟨_,_,_,n,_,h1⟩:=(show ObjOk X.prog X.w H s.heap a (.frz ob (.lst xs)) from I.hok a _ ea)
  exact PySem.W.kia_one PySem.W.kitx_list I.kIn ⟨_,h1,rfl⟩ e (fun z=>nomatch z) h
 | @tup a xs ea =>
  cases (show u=Value.ref a from rx)
  obtain ⟨_,_,_,p⟩:=(show ObjOk X.prog X.w H s.heap a (.tup xs) from I.hok a _ ea)
  obtain ⟨o,h1,h2,_⟩:=p
  exact PySem.W.kia_one PySem.W.kitx_tuple I.kIn ⟨o,h1,h2⟩ e (fun z=>nomatch z) h
 | @dK a kvs ea =>
  cases (show u=Value.ref a from rx)
  obtain ⟨_,_,vs,_,p⟩:=(show ObjOk X.prog X.w H s.heap a (.dK kvs) from I.hok a _ ea)
  obtain ⟨o,es,ep,h1,h2,_⟩:=p
  exact PySem.W.kia_one PySem.W.kitx_dict I.kIn ⟨o,h1,h2.1⟩ e (fun z=>nomatch z) h
 | @dT a kvs ea =>
  cases (show u=Value.ref a from rx)
  obtain ⟨_,_,xs,_,o,es,ep,h1,h2,_⟩:=(show ObjOk X.prog X.w H s.heap a (.dT kvs) from I.hok a _ ea)
  exact PySem.W.kia_one PySem.W.kitx_dict I.kIn ⟨o,h1,h2.1⟩ e (fun z=>nomatch z) h
 | @ins a C dx fs ea cl ha hn htk hm =>
  cases (show u=Value.ref a from rx)
  obtain ⟨mA,O,_⟩:=Bs I.hok ea
  obtain ⟨od,J,_⟩:=O.look
  exact PySem.W.kia_one (PySem.W.kitx_own (cl.get _) cl.hd ha hn htk hm) I.kIn J e (fun z=>nomatch z) h
end
end L2
namespace L2
open PySem PySem.Spec PyProof.Rows
structure Room (k:Nat) (A:Around):Prop where
 hd:A.handled=none
 dp:A.depth+3 * k+5 < recursionLimit
 un:A.units+16 * k+200 < cLine
 gd:A.guards=some []
theorem Room.mono {j k:Nat} {A:Around} (r:Room k A) (h:j≤k):Room j A:=⟨r.hd,by have:=r.dp; omega,by have:=r.un; omega,r.gd⟩
theorem Room.deeper {k:Nat} {A:Around} (r:Room (k+1) A) (env:Env):Room k (A.deeper env) :=
 ⟨r.hd,by have:=r.dp; show A.depth+1+3 * k+5 < _; omega,by have:=r.un; show A.units+3+16 * k+200 < _; omega,r.gd⟩
theorem Room.depth {k:Nat} {A:Around} (r:Room k A):A.depth < recursionLimit:=by have:=r.dp; omega
theorem Room.units {k:Nat} {A:Around} (r:Room k A):A.units+64 < cLine:=by have:=r.un; omega
def nr:TA:=fun _ H Q=>Q [] H
def jO (ta:TE) (tr:TA):TA:=fun σ H Q=>ta σ H fun x H1=>tr σ H1 fun xs H2=>Q (x :: xs) H2
section
variable {X:Cx} {e:Expr} {es:List Expr} {te:TE} {t:TA} {pos:Pos}
theorem pa_nil:PA X [] nr:=fun _ _ _ _ H Q I h=>Calls.spliced_nil ⟨[],H,I,.nil,h⟩
theorem bK (ha:PE X e te) (hr:PA X es t) (hs:starEach (e :: es) X.env=(false,eval e X.env) :: starEach es X.env:=by rfl):PA X (e :: es) (jO te t):=by
 intro pos pins s σ H Q I h
 rw [hs]
 show wpAny _ _ (spliced ((false,eval e X.env) :: backTo pos (starEach es X.env))) _ _ s
 refine Calls.spliced_cons (thn (ha pins s σ H _ I h) fun u s1 ⟨x,H1,I1,r1,q1⟩=>?_)
 exact thn (hr pos pins s1 σ H1 _ I1 q1) fun us s2 ⟨xs,H2,I2,r2,q2⟩=>⟨x :: xs,H2,I2,.cons r1 r2,q2⟩
def D8 (t:TA):TE:=fun σ H Q=>t σ H fun xs H1=>xs.length≤sizeLine∧∀ p,H1 p=none→Q (.ref p) (upd H1 p (.tup xs))
def Ed (t:TA):TE:=fun σ H Q=>t σ H fun xs H1=>xs.length≤sizeLine∧∀ p,H1 p=none→Q (.ref p) (upd H1 p (.lst xs))
theorem rJ {x1} (h:PA X es t):PE X (.Tuple es x1 pos) (D8 t):=by
 intro pins s σ H Q I hq
 refine wpAny_Tuple_spliced (thn (h pos pins s σ H _ I hq) fun us s1 ⟨xs,H1,I1,r,z,q⟩=>⟨by rw [← r.length]; exact z,?_⟩)
 have hf:H1 s1.heap.objs.size=none:=I1.hok.fresh (Nat.le_refl _)
 refine ⟨.ref s1.heap.objs.size,upd H1 s1.heap.objs.size (.tup xs),I1.laid (t':=s1.toks) (fun b u e=>Heap.get?_push_of_some _ e) (Nat.le_refl _) ?_,rfl,q _ hf⟩
 exact ⟨z,us,r,⟨_,Heap.get?_push_size _ rfl,rfl,_,rfl,rfl⟩⟩
theorem EG (h:PA X es t):PE X (.List es pos) (Ed t):=by
 intro pins s σ H Q I hq
 refine wpAny_List_spliced (thn (h pos pins s σ H _ I hq) fun us s1 ⟨xs,H1,I1,r,z,q⟩=>⟨by rw [← r.length]; exact z,?_⟩)
 have hf:H1 s1.heap.objs.size=none:=I1.hok.fresh (Nat.le_refl _)
 refine ⟨.ref s1.heap.objs.size,upd H1 s1.heap.objs.size (.lst xs),I1.laid (t':=s1.toks) (fun b u e=>Heap.get?_push_of_some _ e) (Nat.le_refl _) ?_,rfl,q _ hf⟩
 exact ⟨z,us,0,r,Heap.get?_push_size _ rfl⟩
end
abbrev Sp:=List V→Hp→VK→XK→Prop
abbrev CXT:=List Env→Hp→Shared→XK→Value→Shared→Prop
structure Env0 (P:Program) (w:World) (K:PySem.W.Frag) (mg:Str→Option Value) (base:Heap) (A:Around) (outer:List Env) (s:Shared) (H:Hp):Prop where
 frames:A.frames=some outer
 mod:Mod K mg base
 bs:∀ b o,base.get? b=some o→s.heap.get? b=some o∧H b=none
 bsz:base.objs.size≤s.heap.objs.size
 funs:s.heap.FunFrames base outer
 frf:∀ b∈frs outer,H b=none
 hok:HOk P w H s.heap
 bare:AllBare s.gens
def CE (outer:List Env) (P:Program) (w:World) (H:Hp) (s:Shared) (Q:VK) (u:Value) (s':Shared):Prop :=
 ∃ v H',s'.os=s.os∧AllBare s'.gens∧Un (frs outer) [] H H' s.heap s'.heap∧HOk P w H' s'.heap∧RelV v u∧Q v H'
def CR (CX:CXT) (outer:List Env) (P:Program) (w:World) (H:Hp) (s:Shared) (Q:VK) (E:XK) (r:Result) (s':Shared):Prop :=
 match r with
 | .ok (.ret u)=>CE outer P w H s Q u s'
 | .ok _=>False
 | .error e=>CX outer H s E e s'
structure FnOk (P:Program) (w:World) (K:PySem.W.Frag) (mg:Str→Option Value) (base:Heap) (CX:CXT) (k:Nat) (f:Addr) (fd:FuncData) (ps:List Str) (sp:Sp):Prop where
 len:∀ vs H Q E,sp vs H Q E→vs.length=ps.length
 run:∀ (A:Around) (outer:List Env) (s:Shared) (H:Hp) (args:Args) (us:List Value) (vs:List V) (Q:VK) (E:XK),Room k A→Env0 P w K mg base A outer s H→BindsTo s fd args (ps.zip us)→Vals vs us→sp vs H Q E →
  codeAny (model P w) A (.call (.ref f) args) (CR CX outer P w H s Q E) s
theorem FnOk.mono {P:Program} {w:World} {K:PySem.W.Frag} {mg:Str→Option Value} {base:Heap} {CX:CXT} {j k:Nat} {f:Addr} {fd:FuncData} {ps:List Str} {sp:Sp} (F:FnOk P w K mg base CX j f fd ps sp) (h:j≤k) :
  FnOk P w K mg base CX k f fd ps sp:=⟨F.len,fun A outer s H args us vs Q E hr=>F.run A outer s H args us vs Q E (hr.mono h)⟩
theorem FnOk.imp {P:Program} {w:World} {K:PySem.W.Frag} {mg:Str→Option Value} {base:Heap} {CX:CXT} {k:Nat} {f:Addr} {fd:FuncData} {ps:List Str} {sp sp':Sp} (F:FnOk P w K mg base CX k f fd ps sp)
  (h:∀ vs H Q E,sp' vs H Q E→sp vs H Q E):FnOk P w K mg base CX k f fd ps sp' :=
 ⟨fun vs H Q E q=>F.len vs H Q E (h _ _ _ _ q),fun A outer s H args us vs Q E hr he hb hv hs=>F.run A outer s H args us vs Q E hr he hb hv (h _ _ _ _ hs)⟩
section
variable {X:Cx} {pins:List (Addr × Obj)} {σ:St} {H:Hp} {s s':Shared}
theorem Inv.env0 (I:Inv X pins σ H s):Env0 X.prog X.w X.K X.mg X.base X.A X.stack s H :=
 ⟨I.ok.frames,I.ok.mod,I.bs,Nat.le_trans I.ok.bsz I.sz,I.stack,I.stkFree,I.hok,I.bare⟩
theorem Inv.after {Q:VK} {u:Value} (I:Inv X pins σ H s) (h:CE X.stack X.prog X.w H s Q u s'):EP X pins σ Q u s':=by
 obtain ⟨v,H',os,bare,un,hok,r,q⟩:=h
 obtain ⟨hh,g,d,t,os'⟩:=s'
 obtain rfl:os'=s.os:=os
 exact ⟨v,H',I.call (h':=hh) (g':=g) (d':=d) (t':=t) (ch:=[]) un hok bare (fun b z=>absurd z (by simp)),r,q⟩
end
def p0 (sp:Sp) (dvs:List V) (E:XK) (t:TA):TE:=fun σ H Q=>t σ H fun vs H1=>sp (vs++dvs) H1 Q E
def Binds (K:PySem.W.Frag) (fd:FuncData) (ps:List Str) (ds:List Value):Prop :=
 ∀ (s:Shared) (us:List Value),K.In s.heap→(us++ds).length=ps.length→BindsTo s fd ⟨us,[]⟩ (ps.zip (us++ds))
theorem Binds.all {K:PySem.W.Frag} {fd:FuncData} {ps:List Str} (h:∀ us:List Value,us.length=ps.length→bindArgs fd ⟨us,[]⟩=pure (ps.zip us)):Binds K fd ps []:=fun s us _ hl=>by
 rw [List.append_nil] at hl ⊢
 exact .of_eq (h us hl)
def oH (CX:CXT) (X:Cx) (E:XK):Prop:=∀ (pins:List (Addr × Obj)) (σ:St) (H:Hp) (s:Shared) (e:Value) (s':Shared),Inv X pins σ H s→CX X.stack H s E e s'→X.xe e s'
section
variable {X:Cx} {CX:CXT} {k:Nat} {f C:Addr} {fd:FuncData} {ps:List Str} {sp:Sp} {dvs:List V} {ds:List Value} {E:XK} {x m:Str} {p pos apos:Pos} {e o:Expr} {es:List Expr} {ta:TE} {t:TA}
theorem Eo {pins:List (Addr × Obj)} {σ:St} {H:Hp} {s:Shared} {Q:VK} {us:List Value} {vs:List V} (F:FnOk X.prog X.w X.K X.mg X.base CX k f fd ps sp) (hr:Room k X.A) (hb:Binds X.K fd ps ds) (hd:Vals dvs ds) (hx:oH CX X E)
  (I:Inv X pins σ H s) (r:Vals vs us) (h:sp (vs++dvs) H Q E):wpAny (model X.prog X.w) X.A (call (.ref f) us) (EP X pins σ Q) X.xe s:=by
 have r2:Vals (vs++dvs) (us++ds):=r.append hd
 have hl:(us++ds).length=ps.length:=by rw [← r2.length]; exact F.len _ _ _ _ h
 refine wpAny_call (codeAny_mono (F.run X.A X.stack s H ⟨us,[]⟩ (us++ds) (vs++dvs) Q E hr I.env0 (hb s us I.kIn hl) r2 h) fun r s' hq=>?_)
 cases r with
 | error e=>exact hx pins σ H s e s' I hq
 | ok fl =>
  cases fl with
  | ret u=>exact I.after hq
  | next=>exact False.elim hq
  | brk=>exact False.elim hq
  | cont=>exact False.elim hq
theorem Bb (F:FnOk X.prog X.w X.K X.mg X.base CX k f fd ps sp) (hr:Room k X.A) (hg:Gl X x) (hm:X.mg x=some (.ref f)) (hk:PySem.W.keepIn X.K (.ref f)=true) (hb:Binds X.K fd ps ds) (hd:Vals dvs ds) (hx:oH CX X E)
  (ha:PA X (e :: es) t) (hdb:(x == ("__debug__" : Str))=false:=by decide) (he:starEach (e :: es) X.env=(false,eval e X.env) :: starEach es X.env:=by rfl) (hpl:(backTo pos (starEach es X.env)).any (·.1)=false:=by rfl) :
  PE X (.Call (.Name x p) (e :: es) [] pos) (p0 sp dvs E t):=by
 intro pins s σ H Q I h
 refine wpAny_Call_Name_kw (pB I hg hm ?_ hdb)
 refine PySem.W.callWith_K (h₀:=X.base) I.ok.mod.kin hk (thn (ha pos pins s σ H _ I h) fun us s1 ⟨vs,H1,I1,r,q⟩=>⟨I1.kIn,?_⟩) he hpl
 exact Eo F hr hb hd hx I1 r q
end
section
variable {X:Cx} {CX:CXT} {k:Nat} {f C:Addr} {fd:FuncData} {ps ks:List Str} {sp:Sp} {E:XK} {x m:Str} {p pos apos kpos:Pos} {e o:Expr} {es:List Expr} {kws:List Keyword} {te ta:TE} {t tk:TA} {nm:Option Str}
variable {g:List Value→List Value→List Value} {gV:List V→List V→List V}
end
structure FnScope (N P:List Str) (sc:Scope):Prop where
 kind:sc.kind=.function
 co:sc.isCoroutine=false
 gen:sc.isGenerator=false
 nd:N.Nodup
 pre:N.take P.length=P
 par:∀ x∈P,sc.names.lookup x=some .local∨sc.names.lookup x=some .cell
 nofree:∀ y∈sc.names,y.2≠.free
theorem mO {kindOf:Str→Option NameKind} {x:Str}:∀ {binds:List (Str × Value)} {m:Str→Option Value},(∀ v,(x,v) ∉ binds)→bindL kindOf binds m x=m x
 | [],_,_=>rfl
 | (n,v) :: r,m,h=>by
  unfold bindL
  rw [mO fun w hw=>h w (List.mem_cons_of_mem _ hw)]
  split
  ·have:x≠n:=by rintro rfl; exact h v List.mem_cons_self
   simp [this]
  ·rfl
theorem mQ {kindOf:Str→Option NameKind} {x:Str}:∀ {binds:List (Str × Value)} {m:Str→Option Value},(∀ v,(x,v) ∉ binds)→bindC kindOf binds m x=m x
 | [],_,_=>rfl
 | (n,v) :: r,m,h=>by
  unfold bindC
  rw [mQ fun w hw=>h w (List.mem_cons_of_mem _ hw)]
  split
  ·rfl
  ·have:x≠n:=by rintro rfl; exact h v List.mem_cons_self
   simp [this]
theorem mP {kindOf:Str→Option NameKind} {x:Str} {v:Value}:∀ {P:List Str} {vs:List Value} {i:Nat} {m:Str→Option Value},P.Nodup→P[i]?=some x→vs[i]?=some v→kindOf x=some .local →
  bindL kindOf (P.zip vs) m x=some v
 | [],_,_,_,_,h,_,_=>by simp at h
 | _ :: _,[],_,_,_,_,h,_=>by simp at h
 | p :: P,w :: vs,0,m,nd,h1,h2,hk=>by
  simp at h1 h2; subst h1; subst h2
  show bindL kindOf ((p,w) :: P.zip vs) m p=_
  unfold bindL
  rw [mO fun v hv=>(List.nodup_cons.mp nd).1 (List.of_mem_zip hv).1,if_pos hk]
  simp
 | p :: P,w :: vs,i+1,m,nd,h1,h2,hk=>by
  show bindL kindOf ((p,w) :: P.zip vs) m x=_
  unfold bindL
  exact mP (i:=i) (List.nodup_cons.mp nd).2 (by simpa using h1) (by simpa using h2) hk
theorem mR {kindOf:Str→Option NameKind} {x:Str} {v:Value}:∀ {P:List Str} {vs:List Value} {i:Nat} {m:Str→Option Value},P.Nodup→P[i]?=some x→vs[i]?=some v→kindOf x≠some .local →
  bindC kindOf (P.zip vs) m x=some v
 | [],_,_,_,_,h,_,_=>by simp at h
 | _ :: _,[],_,_,_,_,h,_=>by simp at h
 | p :: P,w :: vs,0,m,nd,h1,h2,hk=>by
  simp at h1 h2; subst h1; subst h2
  show bindC kindOf ((p,w) :: P.zip vs) m p=_
  unfold bindC
  rw [mQ fun v hv=>(List.nodup_cons.mp nd).1 (List.of_mem_zip hv).1,if_neg hk]
  simp
 | p :: P,w :: vs,i+1,m,nd,h1,h2,hk=>by
  show bindC kindOf ((p,w) :: P.zip vs) m x=_
  unfold bindC
  exact mR (i:=i) (List.nodup_cons.mp nd).2 (by simpa using h1) (by simpa using h2) hk
def cK (N:List Str) (vs:List V):St:=vs.map some++List.replicate (N.length - vs.length) none
def kz (CX:CXT) (P:Program) (w:World) (K:PySem.W.Frag) (mg:Str→Option Value) (base:Heap) (N:List Str) (qual:Str) (scope:Scope) (f:Addr) (cd:Value) (A:Around) (outer:List Env) (s:Shared) (H:Hp) (E:XK):Cx where
 prog:=P
 w:=w
 K:=K
 mg:=mg
 base:=base
 A:=A.deeper (envOfC qual scope s.heap.objs.size f cd)
 N:=N
 s₀:=s
 H₀:=H
 env:=envOfC qual scope s.heap.objs.size f cd
 outer:=outer
 stack:=envOfC qual scope s.heap.objs.size f cd :: outer
 ex:=[]
 calm:=true
 fn:=fun _=>true
 pn:=[]
 xe:=fun e s'=>wpAny (model P w) (A.deeper (envOfC qual scope s.heap.objs.size f cd)) (leaving (envOfC qual scope s.heap.objs.size f cd) e) (fun _ s''=>CX outer H s E e s'') (fun e' s''=>CX outer H s E e' s'') s'
theorem oB {sc:Scope} {n:Nat} {x:Str} (h:sc.names.lookup x=some .cell):∃ c,(cellsFrom n sc.names []).lookup x=some c:=by
 have q:=PySem.W.cellsFrom_some sc.names n [] (.inl h)
 exact Option.isSome_iff_exists.mp q
theorem sr {CX:CXT} {P:Program} {w:World} {K:PySem.W.Frag} {mg:Str→Option Value} {base:Heap} {N ps:List Str} {qual:Str} {scope:Scope} {f:Addr} {cd:Value} {A:Around} {outer:List Env} {s s1:Shared} {H:Hp} {E:XK} {us:List Value} {vs:List V}
  (S:FnScope N ps scope) (hd:A.handled=none) (e0:Env0 P w K mg base A outer s H) (hl:vs.length=ps.length) (r:Vals vs us)
  (x:InCallC s s.heap.objs.size (bindL (envOfC qual scope s.heap.objs.size f cd).kindOf (ps.zip us) fun _=>none) (cellsFrom (s.heap.objs.size+1) scope.names []) (bindC (envOfC qual scope s.heap.objs.size f cd).kindOf (ps.zip us) fun _=>none) s1) :
  Inv (kz CX P w K mg base N qual scope f cd A outer s H E) [] (cK N vs) H s1:=by
 have hpl:ps.length≤N.length:=by have:=congrArg List.length S.pre; rw [List.length_take] at this; omega
 obtain ⟨h1,tk,rfl,hk⟩:=x.done
 have noA:∀ b:Addr,b ∉ (kz CX P w K mg base N qual scope f cd A outer s H E).ex:=fun b z=>absurd (show b∈([]:List Addr) from z) (by simp)
 refine ⟨⟨e0.mod,S.kind,rfl,rfl,Nat.le_refl _,fun y z c h1 h2=>?_,fun y hy=>?_,fun y c _ h=>?_,fun _=>hd,Around.frames_deeper e0.frames,.inr ⟨rfl,rfl⟩,fun b z=>absurd z (noA b),e0.bs,e0.bsz,fun b _ _=>noA b,fun b z=>absurd z (noA b),e0.funs,e0.frf⟩,
  rfl,e0.bare,Un.kept hk,⟨_,x.toInCall.ns,fun i y v h1 h2 h3=>?_⟩,fun y c h=>⟨_,x.cell y c h⟩,e0.hok.fresh (Nat.le_refl _),fun y c h=>?_,fun p hp=>absurd (show p∈([]:List (Addr × Obj)) from hp) (by simp),e0.hok.kept hk,?_⟩
 ·exact name_of_addr x.apart (PySem.mem_of_lookup h1) (PySem.mem_of_lookup h2)
 ·have hy:scope.names.lookup y=some .cell∨scope.names.lookup y=some .free:=hy
  rcases hy with hy | hy
  ·exact oB hy
  ·exact absurd rfl (S.nofree _ (PySem.mem_of_lookup hy))
 ·exact Nat.le_of_lt (x.above y c (PySem.mem_of_lookup h))
 ·have hi:i < vs.length:=by
   unfold cK at h2
   by_cases hi:i < vs.length
   ·exact hi
   ·rw [List.getElem?_append_right (by simpa using hi)] at h2
    rw [List.getElem?_replicate] at h2
    split at h2 <;> cases h2
  have ha:vs[i]?=some v:=by
   unfold cK at h2
   rw [List.getElem?_append_left (by simpa using hi),List.getElem?_map] at h2
   cases e:vs[i]? with
   | none=>rw [e] at h2; cases h2
   | some a=>rw [e] at h2; cases h2; rfl
  obtain ⟨u,hu,rv⟩:=r.get ha
  have hp:ps[i]?=some y:=by
   rw [← S.pre,List.getElem?_take_of_lt (by omega)]; exact h1
  have ndP:ps.Nodup:=by rw [← S.pre]; exact S.nd.sublist (List.take_sublist _ _)
  refine ⟨u,rv,?_⟩
  rcases S.par y (List.mem_of_getElem? hp) with k | k
  ·exact .inl ⟨k,mP ndP hp hu k⟩
  ·obtain ⟨c,e⟩:=oB (n:=s.heap.objs.size+1) k
   refine .inr ⟨.inl k,c,e,?_⟩
   have q:=x.cell y c e
   rw [mR ndP hp hu (by show scope.names.lookup y≠_; rw [k]; decide)] at q
   exact q
 ·exact e0.hok.fresh (Nat.le_of_lt (x.above y c (PySem.mem_of_lookup h)))
 ·unfold cK
  show _=N.length
  rw [List.length_append,List.length_map,List.length_replicate]
  omega
theorem G3 {CX:CXT} {P:Program} {w:World} {K:PySem.W.Frag} {mg:Str→Option Value} {base:Heap} {k:Nat} {f:Addr} {name qual:Str} {params:Arguments} {body:List Stmt} {scope:Scope} {dV kV doc pm cdv ct oc:Value} {an od:Option Addr}
  {osl:Array (Option Value)} {N ps:List Str} {sp:Sp} (lk:K.lookup f=some ⟨oc,od,.func (PySem.W.fnOf name qual params body scope dV kV doc pm an cdv ct),osl⟩) (hcd:PySem.W.codeIn K cdv qual=true) (S:FnScope N ps scope)
  (len:∀ vs H Q E,sp vs H Q E→vs.length=ps.length)
  (hbody:∀ (A:Around) (outer:List Env) (s:Shared) (H:Hp) (vs:List V) (Q:VK) (E:XK),Room k (A.deeper (envOfC qual scope s.heap.objs.size f cdv))→sp vs H Q E →
   ∃ t,PSs (kz CX P w K mg base N qual scope f cdv A outer s H E) body t∧t { nx:=fun _ H'=>Q .non H',rt:=Q } (cK N vs) H) :
  FnOk P w K mg base CX (k+1) f (PySem.W.fnOf name qual params body scope dV kV doc pm an cdv ct) ps sp:=by
 refine ⟨len,fun A outer s H args us vs Q E hr e0 hb r hsp=>?_⟩
 have hl:=len _ _ _ _ hsp
 have KX:K.In s.heap:=e0.mod.kin.keeps fun b o e=>(e0.bs b o e).1
 have lim:s.heap.NoLimit:=e0.mod.nolimit.keeps fun b o e=>(e0.bs b o e).1
 have hkind:∀ y∈ps.zip us,scope.names.lookup y.1=some .local∨(scope.names.lookup y.1=some .cell∧((cellsFrom (s.heap.objs.size+1) scope.names []).lookup y.1).isSome=true):=fun ⟨n,v⟩ hy=>by
  rcases S.par n (List.of_mem_zip hy).1 with q | q
  ·exact .inl q
  ·exact .inr ⟨q,PySem.W.cellsFrom_some _ _ _ (.inl q)⟩
 refine codeAny_call_function hr.depth (KX _ _ lk) rfl S.co S.gen rfl (PySem.W.codeRec_of KX hcd) (hb _ _ _ _ ?_)
 refine wpAny_newFunctionEnv_cells S.kind hkind fun env he s1 x=>?_
 subst he
 refine ⟨lim.keeps x.toInCall.keep,codeAny_func ?_⟩
 obtain ⟨t,ht,hq⟩:=hbody A outer s H vs Q E (hr.deeper _) hsp
 have I:Inv (kz CX P w K mg base N qual scope f cdv A outer s H E) [] (cK N vs) H s1:=sr S hr.hd e0 hl r x
 refine wpAny_mono (ht [] s1 (cK N vs) H _ I hq) (fun fl s' hs=>?_) fun e s' hs=>hs
 have fin:∀ {σ':St} {H':Hp} {v:V} {u:Value},Inv (kz CX P w K mg base N qual scope f cdv A outer s H E) [] σ' H' s'→RelV v u→Q v H'→CE outer P w H s Q u s' :=
  fun {σ' H' v u} J rv q=>⟨v,H',J.os,J.bare,J.base,J.hok,rv,q⟩
 cases fl with
 | ret u =>
  obtain ⟨v,σ',H',J,rv,q⟩:=hs
  exact fin J rv q
 | next =>
  obtain ⟨σ',H',J,q⟩:=hs
  exact fin (v:=V.non) (u:=Value.none) J rfl q
 | brk =>
  obtain ⟨_,_,_,q⟩:=hs
  exact False.elim q
 | cont =>
  obtain ⟨_,_,_,q⟩:=hs
  exact False.elim q
end L2
namespace L2
open PySem PySem.Spec PyProof.Rows
section
variable {X:Cx} {x:Str} {p pos:Pos} {e:Expr} {es:List Expr} {t:TA} {id T:String} {r:List V→Hp→VK→Prop}
def tCB (r:List V→Hp→VK→Prop) (t:TA):TE:=fun σ H Q=>t σ H fun vs H1=>r vs H1 Q
theorem ix (hc:CallR X (.builtin id) r) (hg:Gl X x) (hm:X.mg x=none) (hv:bootBuiltins x=some (.builtin id)) (ha:PA X (e :: es) t) (hn:x≠"__name__":=by decide) (hdb:(x == ("__debug__" : Str))=false:=by decide)
  (he:starEach (e :: es) X.env=(false,eval e X.env) :: starEach es X.env:=by rfl) (hpl:(backTo pos (starEach es X.env)).any (·.1)=false:=by rfl):PE X (.Call (.Name x p) (e :: es) [] pos) (tCB r t):=by
 intro pins s σ H Q I h
 refine wpAny_Call_Name_kw (jo I hg hm hv ?_ hn hdb)
 exact PyProof.Rows.callWith_builtin1 (thn (ha pos pins s σ H _ I h) fun us s1 ⟨vs,H1,I1,r1,q1⟩=>hc pins s1 σ H1 vs us Q I1 r1 q1) he hpl
theorem my (hc:CallR X (.type T) r) (hg:Gl X x) (hm:X.mg x=none) (hv:bootBuiltins x=some (.type T)) (ha:PA X (e :: es) t) (hn:x≠"__name__":=by decide) (hdb:(x == ("__debug__" : Str))=false:=by decide)
  (he:starEach (e :: es) X.env=(false,eval e X.env) :: starEach es X.env:=by rfl) (hpl:(backTo pos (starEach es X.env)).any (·.1)=false:=by rfl):PE X (.Call (.Name x p) (e :: es) [] pos) (tCB r t):=by
 intro pins s σ H Q I h
 refine wpAny_Call_Name_kw (jo I hg hm hv ?_ hn hdb)
 exact PyProof.Rows.callWith_type1 (thn (ha pos pins s σ H _ I h) fun us s1 ⟨vs,H1,I1,r1,q1⟩=>hc pins s1 σ H1 vs us Q I1 r1 q1) he hpl
end
end L2
namespace HT
open PySem PyProof.Rows
section
open PySem.SeqAt
open PySem.AutoSeq1 (wpAny_loadPart')
open PySem.MeetsSeq PySem.MeetsSeq2 PySem.MeetsSeq3
end
section
variable {prog:Program} {w:World} {A:Around} {E:Value→Shared→Prop} {s:Shared}
def sIx (n d:Nat):Option Int→Nat
 | none=>d
 | some v=>if v < 0 then (v+(n:Int)).toNat else min v.toNat n
theorem sIx_none (n d:Nat):sIx n d none=d:=rfl
theorem sIx_nat (n d k:Nat):sIx n d (some (k:Int))=min k n:=by
 show (if (k:Int) < 0 then ((k:Int)+(n:Int)).toNat else min (k:Int).toNat n)=min k n
 rw [if_neg (by omega),Int.toNat_natCast]
theorem rC (n d:Nat) (hd:d≤n) (o:Option Int):sIx n d o≤n:=by
 cases o with
 | none=>exact hd
 | some v =>
  show (if v < 0 then (v+(n:Int)).toNat else min v.toNat n)≤n
  by_cases hv:v < 0
  ·rw [if_pos hv]; omega
  ·rw [if_neg hv]; exact Nat.min_le_right _ _
theorem pP (v:Int) (n d:Nat):(if v < 0 then max (v+(n:Int)) 0 else min v (n:Int))=((sIx n d (some v):Nat):Int):=by
 show (if v < 0 then max (v+(n:Int)) 0 else min v (n:Int))=(((if v < 0 then (v+(n:Int)).toNat else min v.toNat n):Nat):Int)
 by_cases hv:v < 0
 ·simp only [if_pos hv]; omega
 ·simp only [if_neg hv]; omega
theorem qW (lo hi:Option Int) (n:Nat):Builtin.Slice.sliceAdjust lo hi 1 (n:Int)=(((sIx n 0 lo:Nat):Int),((sIx n n hi:Nat):Int)):=by
 have h1:¬ ((1:Int) < 0):=by omega
 unfold Builtin.Slice.sliceAdjust
 simp only [h1,if_false]
 refine Prod.ext ?_ ?_
 ·cases lo with
  | none=>rfl
  | some v=>exact pP v n 0
 ·cases hi with
  | none=>rfl
  | some v=>exact pP v n n
theorem qa (i j:Nat):Builtin.Slice.slicePlaces (i:Int) (j:Int) 1=j - i:=by
 unfold Builtin.Slice.slicePlaces
 have h1:(1:Int) > 0:=by omega
 simp only [h1,if_true,Int.ediv_one]
 split <;> omega
theorem kQ {v:Value} {o:Option Int} {Q:Option Int→Shared→Prop} (p:IsPart v o) (h:Q o s):wpAny (model prog w) A (Builtin.Slice.slicePartIndex v) Q E s:=by
 cases p with
 | none=>exact slicePart_none h
 | int i t=>exact slicePart_int h
theorem ga {sl:Addr} {vl vu:Value} {lo hi:Option Int} {n:Nat} {Q:Int × Int × Nat→Shared→Prop} (hs:s.heap.IsSliceOf sl vl vu .none) (pl:IsPart vl lo) (pu:IsPart vu hi)
  (h:Q (((sIx n 0 lo:Nat):Int),1,sIx n n hi - sIx n 0 lo) s):wpAny (model prog w) A (Builtin.Slice.sliceApplied (.ref sl) (pure (n:Int))) Q E s:=by
 obtain ⟨os,hos,hcs,hds⟩:=id hs
 unfold Builtin.Slice.sliceApplied Builtin.Slice.sliceFields
 refine wpAny_bind (wpAny_bind (wpAny_field hos hds (x:=vl) rfl (wpAny_bind (wpAny_field hos hds (x:=vu) rfl (wpAny_bind (wpAny_field hos hds (x:=.none) rfl (wpAny_pure ?_)))))))
 refine wpAny_bind (slicePart_none ?_)
 show wpAny _ _ (if ((1:Int) == 0)=true then _ else _) _ _ s
 rw [if_neg (by decide)]
 refine wpAny_bind (kQ pl (wpAny_bind (kQ pu (wpAny_bind (wpAny_pure ?_)))))
 show wpAny _ _ (match Builtin.Slice.sliceAdjust lo hi 1 (n:Int) with | (lo,hi)=>pure (lo,(1:Int),Builtin.Slice.slicePlaces lo hi 1)) _ _ s
 rw [qW lo hi n]
 show wpAny _ _ (pure (((sIx n 0 lo:Nat):Int),(1:Int),Builtin.Slice.slicePlaces ((sIx n 0 lo:Nat):Int) ((sIx n n hi:Nat):Int) 1)) _ _ s
 rw [qa]
 exact wpAny_pure h
theorem tU (xs:Array Value) (i k:Nat):((List.range k).filterMap fun (m:Nat)=>xs[((i:Int)+(m:Int) * 1).toNat]?).toArray=((xs.toList.drop i).take k).toArray:=by
 have e:(fun (m:Nat)=>xs[((i:Int)+(m:Int) * 1).toNat]?)=fun m=>xs[i+m]?:=by
  funext m
  have:((i:Int)+(m:Int) * 1).toNat=i+m:=by omega
  rw [this]
 rw [e]
 have:=pick_run xs i k
 rw [List.filterMap_map] at this
 have e2:((fun x=>xs[x]?) ∘ fun x=>i+x)=fun m=>xs[i+m]?:=rfl
 rw [e2] at this
 rw [this]
theorem getItem_tuple_cut {t sl:Addr} {items:Array Value} {vl vu:Value} {lo hi:Option Int} {Q:Value→Shared→Prop} (ht:IsTup s.heap t items) (hs:s.heap.IsSliceOf sl vl vu .none) (pl:IsPart vl lo) (pu:IsPart vu hi)
  (hw:¬ (sIx items.size 0 lo=0∧sIx items.size items.size hi=items.size))
  (h:Q (.ref s.heap.objs.size) { s with heap:=s.heap.push { cls:=.type "tuple",data:=.seq ((items.toList.drop (sIx items.size 0 lo)).take (sIx items.size items.size hi - sIx items.size 0 lo)).toArray } })
  (hsz:items.size≤sizeLine):wpAny (model prog w) A (getItem (.ref t) (.ref sl)) Q E s:=by
 have htake:sizeOk (.seq ((items.toList.drop (sIx items.size 0 lo)).take (sIx items.size items.size hi - sIx items.size 0 lo)).toArray):=by
  show ((items.toList.drop (sIx items.size 0 lo)).take (sIx items.size items.size hi - sIx items.size 0 lo)).toArray.size≤sizeLine
  rw [List.size_toArray,List.length_take,List.length_drop,Array.length_toList]
  omega
 have hj:sIx items.size items.size hi≤items.size:=rC _ _ (Nat.le_refl _) hi
 obtain ⟨os,hos,hcs,hds⟩:=id hs
 have hTs:s.TypeIs (.ref sl) "slice":=⟨os,hos,hcs⟩
 unfold getItem
 try with_reducible refine wpAny_holding ?_
 first | refine wpAny_bind (wpAny_pure ?_) | skip
 refine wpAny_bind (wpAny_sequenceKey ht.typeIs (by decide) ?_)
 refine wpAny_bind (wpAny_callSpecial?_slot (name:=Str.ofString "__getitem__") ht.typeIs PyProof.Rows.slot_tuple_getitem
  (wpAny_call_entry PyProof.Rows.slot_tuple_getitem ht.typeIs entry_tuple_getitem ?_ (args_tuple_getitem _ _)))
 show wpAny _ _ (Builtin.Tuple.tupleItemsOf (.ref t) >>= _) _ _ s
 refine wpAny_bind (tupleItemsOf_ ht ?_)
 refine wpAny_bind (wpAny_typeOf hTs ?_)
 rw [if_pos (by decide)]
 refine wpAny_bind (ga hs pl pu ?_)
 have hno:¬ ((((sIx items.size 0 lo:Nat):Int) == 0 && (1:Int) == 1 && (sIx items.size items.size hi - sIx items.size 0 lo) == items.size)=true):=by
  intro q
  rw [Bool.and_eq_true,Bool.and_eq_true] at q
  have q1:((sIx items.size 0 lo:Nat):Int)=0:=eq_of_beq q.1.1
  have q2:sIx items.size items.size hi - sIx items.size 0 lo=items.size:=eq_of_beq q.2
  exact hw ⟨by omega,by omega⟩
 show wpAny _ _ (if (((sIx items.size 0 lo:Nat):Int) == 0 && (1:Int) == 1 && (sIx items.size items.size hi - sIx items.size 0 lo) == items.size)=true then _ else _) _ _ s
 rw [if_neg hno,tU]
 first
  | exact wpAny_bind (m:=Builtin.Tuple.tupleExact _) (wpAny_newObj_type (wpAny_pure ⟨_,rfl,wpAny_pure h⟩) htake)
  | exact wpAny_bind (m:=Builtin.Tuple.tupleExact _) (wpAny_newObj_type (wpAny_bind (wpAny_pure (wpAny_pure ⟨_,rfl,wpAny_pure h⟩))) htake)
  | exact wpAny_bind (wpAny_bind (m:=Builtin.Tuple.tupleExact _) (wpAny_newObj_type (wpAny_pure (wpAny_pure ⟨_,rfl,wpAny_pure h⟩)) htake))
  | exact wpAny_bind (wpAny_bind (m:=Builtin.Tuple.tupleExact _) (wpAny_newObj_type (wpAny_pure ⟨_,rfl,wpAny_pure h⟩) htake))
end
end HT
namespace L2
open PySem PySem.Spec PyProof.Rows
abbrev TO:=St→Hp→(Option Int→Hp→Prop)→Prop
def PO (X:Cx) (e:Option Expr) (t:TO):Prop :=
 ∀ (pins:List (Addr × Obj)) (s:Shared) (σ:St) (H:Hp) (Q:Option Int→Hp→Prop),Inv X pins σ H s→t σ H Q →
  wpAny (model X.prog X.w) X.A (evalPart e X.env) (fun u s'=>∃ o H',Inv X pins σ H' s'∧IsPart u o∧Q o H') X.xe s
def AK:TO:=fun _ H Q=>Q none H
def Gv (t:TE):TO:=fun σ H Q=>t σ H fun x H1=>∃ i,x=.int i∧Q (some i) H1
section
variable {X:Cx} {e:Expr} {te:TE} {lo hi:Option Expr} {tl th:TO} {pos p2:Pos}
theorem po_none:PO X none AK:=by
 intro pins s σ H Q I h
 rw [evalPart_none]
 exact wpAny_pure ⟨none,H,I,.none,h⟩
theorem A3 (h:PE X e te):PO X (some e) (Gv te):=by
 intro pins s σ H Q I hw
 rw [evalPart_some]
 refine thn (h pins s σ H _ I hw) fun u s1 ⟨x,H1,I1,r1,q1⟩=>?_
 obtain ⟨i,rfl,q⟩:=q1
 obtain ⟨t,rfl⟩:=r1
 exact ⟨some i,H1,I1,.int i t,q⟩
def SlR (X:Cx) (r:V→Option Int→Option Int→Hp→VK→Prop):Prop :=
 ∀ (pins:List (Addr × Obj)) (s:Shared) (σ:St) (H:Hp) (x:V) (v vl vu:Value) (lo hi:Option Int) (sl:Addr) (Q:VK),Inv X pins σ H s→RelV x v→s.heap.IsSliceOf sl vl vu .none→IsPart vl lo→IsPart vu hi→r x lo hi H Q →
  ∃ T id,typeLookup (.type T) "__getitem__"=pure (some (.builtin id))∧s.TypeIs v T∧wpAny (model X.prog X.w) X.A (getItem v (.ref sl)) (EP X pins σ Q) X.xe s
def tSl (r:V→Option Int→Option Int→Hp→VK→Prop) (te:TE) (tl th:TO):TE:=fun σ H Q=>te σ H fun x H1=>tl σ H1 fun l H2=>th σ H2 fun u H3=>r x l u H3 Q
theorem tX {r:V→Option Int→Option Int→Hp→VK→Prop} (hr:SlR X r) (he:PE X e te) (hl:PO X lo tl) (hu:PO X hi th):PE X (.Subscript e (.Slice lo hi none p2) pos) (tSl r te tl th):=by
 intro pins s σ H Q I h
 refine Subscript_ (thn (he pins s σ H _ I h) fun v s1 ⟨x,H1,I1,r1,q1⟩=>?_)
 refine wpAny_Slice (thn (hl pins s1 σ H1 _ I1 q1) fun vl s2 ⟨l,H2,I2,pl,q2⟩=>thn (hu pins s2 σ H2 _ I2 q2) fun vu s3 ⟨u,H3,I3,pu,q3⟩=>?_)
 rw [evalPart_none]
 refine wpAny_pure ?_
 have I4:Inv X pins σ H3 { s3 with heap:=s3.heap.push { cls:=.type "slice",data:=.fields #[vl,vu,.none] } }:=I3.kept (t':=s3.toks) fun b ob q=>Heap.get?_push_of_some _ q
 obtain ⟨T,id,hT,ht,hg⟩:=hr pins { s3 with heap:=s3.heap.push { cls:=.type "slice",data:=.fields #[vl,vu,.none] } } σ H3 x v vl vu l u s3.heap.objs.size Q I4 r1 (Heap.IsSliceOf.new ..) pl pu q3
 show wpAny (model X.prog X.w) X.A (subscriptTail e (.Slice lo hi none p2) v (.ref s3.heap.objs.size)) (EP X pins σ Q) X.xe { s3 with heap:=s3.heap.push { cls:=.type "slice",data:=.fields #[vl,vu,.none] } }
 exact tail_any (ops:=[.ref s3.heap.objs.size,v]) ht hT hg (by with_unfolding_all rfl)
def gX (xs:List V) (lo hi:Option Int):List V:=(xs.drop (HT.sIx xs.length 0 lo)).take (HT.sIx xs.length xs.length hi - HT.sIx xs.length 0 lo)
theorem ka (xs:List V) (lo hi:Option Int):(gX xs lo hi).length≤xs.length:=by
 unfold gX
 rw [List.length_take,List.length_drop]
 omega
def Er (K:PySem.W.Frag):V→Option Int→Option Int→Hp→VK→Prop:=fun x lo hi H Q=>∃ a xs,x=.ref a∧SqT K H a xs ∧
 ¬ (HT.sIx xs.length 0 lo=0∧HT.sIx xs.length xs.length hi=xs.length)∧∀ p,H p=none→Q (.ref p) (upd H p (.tup (gX xs lo hi)))
theorem Ek:SlR X (Er X.K):=by
 intro pins s σ H x v vl vu lo hi sl Q I rx hs pl pu h
 obtain ⟨a,xs,rfl,hx,hw,q⟩:=h
 cases rx
 obtain ⟨its,r,ht,hz⟩:=I.tuple hx
 have hlen:its.toArray.size=xs.length:=by rw [List.size_toArray]; exact r.length.symm
 refine ⟨"tuple",_,PyProof.Rows.slot_tuple_getitem.lookup,ht.typeIs,?_⟩
 refine HT.getItem_tuple_cut ht hs pl pu (by rw [hlen]; exact hw) ?_ (by rw [hlen]; exact hz)
 rw [hlen]
 refine ⟨.ref s.heap.objs.size,_,I.laid (t':=s.toks) (o:=.tup (gX xs lo hi)) (fun b ob q=>Heap.get?_push_of_some _ q) (Nat.le_refl _) ?_,rfl,q _ (I.hok.fresh (Nat.le_refl _))⟩
 exact ⟨Nat.le_trans (ka xs lo hi) hz,_,(r.drop (HT.sIx xs.length 0 lo)).take (HT.sIx xs.length xs.length hi - HT.sIx xs.length 0 lo),IsTupN.new _ _⟩
end
end L2
namespace L2
open PySem PySem.Spec PyProof.Rows
def ixN (n:Nat) (i:Int):Option Nat:=if 0≤i then (if i < n then some i.toNat else none) else if -(n:Int)≤i then some (i+n).toNat else none
def atI {α:Type} (xs:List α) (i:Int):Option α:=(ixN xs.length i).bind fun j=>xs[j]?
theorem Bo {n:Nat} {i:Int} {j:Nat} (h:ixN n i=some j):seqIndex? i n=some j∧j < n∧-(n:Int)≤i∧i < n:=by
 unfold ixN at h
 by_cases h0:0≤i
 ·rw [if_pos h0] at h
  by_cases h1:i < n
  ·rw [if_pos h1] at h
   have e:i.toNat=j:=Option.some.inj h
   exact ⟨by rw [seqIndex_of h0 h1,e],by omega,by omega,h1⟩
  ·rw [if_neg h1] at h; cases h
 ·rw [if_neg h0] at h
  by_cases h1:-(n:Int)≤i
  ·rw [if_pos h1] at h
   have e:(i+n).toNat=j:=Option.some.inj h
   exact ⟨by rw [seqIndex_neg (by omega) h1,e],by omega,h1,by omega⟩
  ·rw [if_neg h1] at h; cases h
theorem mi {α:Type} {xs:List α} {i:Int} {v:α} (h:atI xs i=some v):∃ j,seqIndex? i xs.length=some j∧xs[j]?=some v∧j < xs.length∧-(xs.length:Int)≤i∧i < xs.length:=by
 unfold atI at h
 cases e:ixN xs.length i with
 | none=>rw [e] at h; cases h
 | some j =>
  rw [e] at h
  obtain ⟨h1,h2,h3,h4⟩:=Bo e
  exact ⟨j,h1,h,h2,h3,h4⟩
def io (b:Expr):Prop:=∀ o i,subscripted b false o i=operate [o,i] (getItem o i)
def IxR (X:Cx) (r:R2):Prop :=
 ∀ (value slice:Expr) (pins:List (Addr × Obj)) (s:Shared) (σ:St) (H:Hp) (x y:V) (v u:Value) (Q:VK),Inv X pins σ H s→RelV x v→RelV y u→r x y H Q →
  subscripted slice false v u=operate [v,u] (getItem v u)→wpAny (model X.prog X.w) X.A (subscriptTail value slice v u) (EP X pins σ Q) X.xe s
def MtR (X:Cx) (id:String) (r:V→List V→Hp→VK→Prop):Prop :=
 ∀ (pins:List (Addr × Obj)) (s:Shared) (σ:St) (H:Hp) (x:V) (xs:List V) (v:Value) (us:List Value) (Q:VK),Inv X pins σ H s→RelV x v→Vals xs us→r x xs H Q →
  wpAny (model X.prog X.w) X.A (call (.builtin id) (v :: us)) (EP X pins σ Q) X.xe s
section
variable {X:Cx} {a b:Expr} {ta tb:TE} {pos:Pos}
theorem IxR.or {r r':R2} (h:IxR X r) (h':IxR X r'):IxR X (fun x y H Q=>r x y H Q∨r' x y H Q):=by
 intro value slice pins s σ H x y v u Q I rx ry q hs
 rcases q with q | q
 ·exact h value slice pins s σ H x y v u Q I rx ry q hs
 ·exact h' value slice pins s σ H x y v u Q I rx ry q hs
theorem Ao {r:R2} (hr:IxR X r) (ha:PE X a ta) (hb:PE X b tb) (hs:io b):PE X (.Subscript a b pos) (tOp r ta tb):=by
 intro pins s σ H Q I h
 exact Subscript_ (u3 ha hb I h fun v u s2 x y H2 I2 rx ry q=>hr a b pins s2 σ H2 x y v u Q I2 rx ry q (hs _ _))
def p9 (K:PySem.W.Frag):R2:=fun x y H Q=>∃ p xs i v,x=.ref p∧y=.int i∧SqL K H p xs∧atI xs i=some v∧Q v H
def Eu (K:PySem.W.Frag):R2:=fun x y H Q=>∃ p xs i v,x=.ref p∧y=.int i∧SqT K H p xs∧atI xs i=some v∧Q v H
def Ev:R2:=fun x y H Q=>∃ z i c,x=.str z∧y=.int i∧z.length≤sizeLine∧atI z.cps.toList i=some c∧Q (.str ⟨#[c]⟩) H
theorem ix_list:IxR X (p9 X.K):=by
 intro value slice pins s σ H x y v u Q I rx ry h hs
 obtain ⟨p,xs,i,z,rfl,rfl,hq,he,q⟩:=h
 cases rx
 obtain ⟨t,rfl⟩:=ry
 obtain ⟨its,r,pl,hz⟩:=I.list hq
 obtain ⟨j,h1,h2,h3,h4,h5⟩:=mi he
 obtain ⟨w,ew,rw'⟩:=r.get h2
 have hl:=r.length
 have hn:=jm
 have fin:EP X pins σ Q w s:=⟨z,H,I,rw',q⟩
 by_cases h0:0≤i
 ·have hj:i.toNat=j:=by
   rw [seqIndex_of h0 h5] at h1
   exact Option.some.inj h1
  exact item_listR pl.isList h0 (by omega) (by rw [hj]; simpa using ew) fin hs
 ·have hj:(i+(its.toArray.size:Int)).toNat=j:=by
   rw [seqIndex_neg (by omega) h4] at h1
   rw [List.size_toArray,← hl]
   exact Option.some.inj h1
  exact subscriptTail_builtinR (x:=w) pl.isList.typeIs slot_list_getitem.lookup
   (wpAny_getItem_list_neg (Q:=fun r s'=>r=w∧EP X pins σ Q r s') pl.isList (by omega) (by rw [List.size_toArray] <;> omega) (by omega) (by rw [hj]; simpa using ew) ⟨rfl,fin⟩) hs
theorem ix_tup:IxR X (Eu X.K):=by
 intro value slice pins s σ H x y v u Q I rx ry h hs
 obtain ⟨p,xs,i,z,rfl,rfl,hq,he,q⟩:=h
 cases rx
 obtain ⟨t,rfl⟩:=ry
 obtain ⟨its,r,pl,hz⟩:=I.tuple hq
 obtain ⟨j,h1,h2,h3,h4,h5⟩:=mi he
 obtain ⟨w,ew,rw'⟩:=r.get h2
 have hl:=r.length
 have hn:=jm
 have fin:EP X pins σ Q w s:=⟨z,H,I,rw',q⟩
 exact subscriptTail_builtinR (x:=w) pl.typeIs slot_tuple_getitem.lookup
  (getItem_tuple (j:=j) (Q:=fun r s'=>r=w∧EP X pins σ Q r s') pl (by omega) (by omega) (by rw [List.size_toArray,← hl]; exact h1) (by simpa using ew) ⟨rfl,fin⟩) hs
theorem ix_str:IxR X Ev:=by
 intro value slice pins s σ H x y v u Q I rx ry h hs
 obtain ⟨z,i,c,rfl,rfl,hz,he,q⟩:=h
 obtain ⟨t,rfl⟩:=rx
 obtain ⟨t',rfl⟩:=ry
 obtain ⟨j,h1,h2,h3,h4,h5⟩:=mi he
 have hl:z.cps.toList.length=z.length:=by simp [Str.length]
 rw [hl] at h1 h4 h5
 have hn:=jm
 exact tail_any (typeIs_str s z t) slot_str_getitem.lookup (getItem_str (c:=c) (by
  have e1:decide (i < -(2 ^ 63:Int))=false:=decide_eq_false (by omega)
  have e2:decide (i ≥ 2 ^ 63)=false:=decide_eq_false (by omega)
  rw [e1,e2,Bool.or_false]) (by rw [h1]; simpa using h2) ⟨.str ⟨#[c]⟩,H,I.tok _,⟨_,rfl⟩,q⟩) hs
def rIx (K:PySem.W.Frag):R2:=fun x y H Q=>p9 K x y H Q∨Eu K x y H Q∨Ev x y H Q
theorem ix_seq:IxR X (rIx X.K):=ix_list.or (ix_tup.or ix_str)
theorem nw (lo hi:Option Int) (n:Nat):(sliceBounds lo hi none n).1=((HT.sIx n 0 lo:Nat):Int)∧(sliceBounds lo hi none n).2.1=((HT.sIx n n hi:Nat):Int)∧(sliceBounds lo hi none n).2.2=1:=by
 refine ⟨?_,?_,rfl⟩
 ·cases lo with
  | none=>simp [sliceBounds,HT.sIx]
  | some i =>
   simp only [sliceBounds,HT.sIx,Option.getD_none,show (1:Int) > 0 by decide,if_true]
   by_cases h:i < 0
   ·simp only [h,if_true] <;> omega
   ·simp only [h,if_false] <;> omega
 ·cases hi with
  | none=>simp [sliceBounds,HT.sIx]
  | some i =>
   simp only [sliceBounds,HT.sIx,Option.getD_none,show (1:Int) > 0 by decide,if_true]
   by_cases h:i < 0
   ·simp only [h,if_true] <;> omega
   ·simp only [h,if_false] <;> omega
theorem m4 (its:List Value) (lo hi:Option Int):slicePick its.toArray lo hi none=((its.drop (HT.sIx its.length 0 lo)).take (HT.sIx its.length its.length hi - HT.sIx its.length 0 lo)).toArray:=by
 obtain ⟨h1,h2,h3⟩:=nw lo hi its.toArray.size
 unfold slicePick
 rw [h1,h2,h3]
 simp only [sliceRange_one,pick_run,List.size_toArray] <;> rfl
def Es (K:PySem.W.Frag):V→Option Int→Option Int→Hp→VK→Prop:=fun x lo hi H Q=>∃ a xs,x=.ref a∧SqL K H a xs∧∀ p,H p=none→Q (.ref p) (upd H p (.lst (gX xs lo hi)))
theorem AO:SlR X (Es X.K):=by
 intro pins s σ H x v vl vu lo hi sl Q I rx hs pl pu h
 obtain ⟨a,xs,rfl,hx,q⟩:=h
 cases rx
 obtain ⟨its,r,ht,hz⟩:=I.list hx
 have hlen:=r.length
 refine ⟨"list",_,slot_list_getitem.lookup,ht.isList.typeIs,?_⟩
 refine wpAny_getItem_list_slice ht.isList hs pl pu .none (by simp) ?_ (by rw [List.size_toArray] <;> omega)
 rw [m4,← hlen]
 refine ⟨.ref s.heap.objs.size,_,I.laid (t':=s.toks) (o:=.lst (gX xs lo hi)) (fun b ob q=>Heap.get?_push_of_some _ q) (Nat.le_refl _) ?_,rfl,q _ (I.hok.fresh (Nat.le_refl _))⟩
 exact ⟨Nat.le_trans (ka xs lo hi) hz,_,0,(r.drop (HT.sIx xs.length 0 lo)).take (HT.sIx xs.length xs.length hi - HT.sIx xs.length 0 lo),Heap.get?_push_size _ rfl⟩
theorem oD:CallR X (.type "list") (fun xs H Q=>∃ p ys,xs=[.ref p]∧(SqL X.K H p ys∨SqT X.K H p ys)∧∀ l,H l=none→Q (.ref l) (upd H l (.lst ys))):=by
 intro pins s σ H xs us Q I r h
 obtain ⟨p,ys,rfl,hq,q⟩:=h
 obtain ⟨u,rfl,rx⟩:=bU r
 cases rx
 have fin:∀ (its:List Value),Vals ys its→ys.length≤sizeLine→∀ (h':Heap) (c':Nat),(∀ b o',s.heap.get? b=some o'→h'.get? b=some o') →
   h'.get? s.heap.objs.size=some { cls:=.type "list",dict:=none,data:=.seq its.toArray c',slots:=#[] }→EP X pins σ Q (.ref s.heap.objs.size) { s with heap:=h' }:=fun its r' hz h' c' kp e =>
  ⟨.ref s.heap.objs.size,_,I.laid (t':=s.toks) kp (Nat.le_refl _) (show ObjOk X.prog X.w _ h' _ (.lst ys) from ⟨hz,its,c',r',e⟩),rfl,q _ (I.hok.fresh (Nat.le_refl _))⟩
 rcases hq with hq | hq
 ·obtain ⟨its,r',pl,hz⟩:=I.list hq
  have hlen:=r'.length
  obtain ⟨o,ho,hc,n,hd⟩:=pl.isList
  exact call_list_seq p (.inl rfl) ho hc hd (fun h' c' kp e=>fin its r' hz h' c' kp e) (by simp only [List.size_toArray] <;> omega)
 ·obtain ⟨its,r',pl,hz⟩:=I.tuple hq
  have hlen:=r'.length
  obtain ⟨o,ho,hc,n,hd⟩:=pl
  exact call_list_seq p (.inr rfl) ho hc hd (fun h' c' kp e=>fin its r' hz h' c' kp e) (by simp only [List.size_toArray] <;> omega)
theorem m7:CallR X (.type "tuple") (fun xs H Q=>∃ p ys,xs=[.ref p]∧((SqL X.K H p ys∧∀ l,H l=none→Q (.ref l) (upd H l (.tup ys)))∨(SqT X.K H p ys∧Q (.ref p) H))):=by
 intro pins s σ H xs us Q I r h
 obtain ⟨p,ys,rfl,h⟩:=h
 obtain ⟨u,rfl,rx⟩:=bU r
 cases rx
 rcases h with ⟨hq,q⟩ | ⟨hq,q⟩
 ·obtain ⟨its,r',pl,hz⟩:=I.list hq
  have hlen:=r'.length
  refine call_tuple_list pl.isList (fun h' kp=>?_) (by simp only [List.size_toArray] <;> omega)
  have I1:Inv X pins σ H { s with heap:=h' }:=I.kept (t':=s.toks) kp
  have I2:Inv X pins σ (upd H h'.objs.size (.tup ys)) { s with heap:=h'.push { cls:=.type "tuple",data:=.seq its.toArray } } :=
   I1.laid (t':=s.toks) (fun b o e=>Heap.get?_push_of_some _ e) (Nat.le_refl _) (show ObjOk X.prog X.w _ _ _ (.tup ys) from ⟨hz,its,r',IsTupN.new _ _⟩)
  exact ⟨.ref h'.objs.size,_,I2,rfl,q _ (I1.hok.fresh (Nat.le_refl _))⟩
 ·obtain ⟨its,r',pl,hz⟩:=I.tuple hq
  exact call_tuple_same pl ⟨.ref p,H,I,rfl,q⟩
def tyV (K:PySem.W.Frag) (T:String) (x:V) (H:Hp):Prop:=match x with
 | .str _=>T="str"
 | .int _=>T="int"
 | .ref p=>(T="list"∧∃ xs,SqL K H p xs)∨(T="tuple"∧∃ o,K.lookup p=some o∧o.cls=.type "tuple"∧o.dict=none) ∨
   (T="dict"∧((∃ kvs,H p=some (.dK kvs))∨∃ kvs,H p=some (.dT kvs)))∨(T="set"∧∃ S n,H p=some (.set S n))
 | _=>False
theorem D7 {pins:List (Addr × Obj)} {σ:St} {H:Hp} {s:Shared} {T:String} {x:V} {v:Value} (I:Inv X pins σ H s) (r:RelV x v) (ty:tyV X.K T x H) :
  s.TypeIs v T∧∀ a,v=.ref a→∃ ob,s.heap.get? a=some ob∧ob.dict=none:=by
 cases x with
 | str z =>
  obtain ⟨t,rfl⟩:=r
  cases (show T="str" from ty)
  exact ⟨typeIs_str s z t,fun _ e=>nomatch e⟩
 | int i =>
  obtain ⟨t,rfl⟩:=r
  cases (show T="int" from ty)
  exact ⟨typeIs_int s i t,fun _ e=>nomatch e⟩
 | ref p =>
  cases r
  rcases ty with ⟨rfl,xs,hq⟩ | ⟨rfl,o,hk,hc,hd⟩ | ⟨rfl,hk⟩ | ⟨rfl,S,n,hk⟩
  ·obtain ⟨its,_,pl,_⟩:=I.list hq
   refine ⟨pl.isList.typeIs,fun a e=>?_⟩
   cases e
   obtain ⟨o,n,e,c,hd,_⟩:=pl
   exact ⟨o,e,hd⟩
  ·refine ⟨⟨o,I.kIn p o hk,hc⟩,fun a e=>?_⟩
   cases e
   exact ⟨o,I.kIn _ o hk,hd⟩
  ·have z:∃ o,s.heap.get? p=some o∧o.ExactDict:=by
    rcases hk with ⟨kvs,hk⟩ | ⟨kvs,hk⟩
    ·obtain ⟨_,_,_,_,o,_,_,e,ex,_⟩:=I.hok p _ hk
     exact ⟨o,e,ex⟩
    ·obtain ⟨_,_,_,_,o,_,_,e,ex,_⟩:=I.hok p _ hk
     exact ⟨o,e,ex⟩
   obtain ⟨o,e,ex⟩:=z
   refine ⟨⟨o,e,ex.1⟩,fun a e2=>?_⟩
   cases e2
   exact ⟨o,e,ex.2.1⟩
  ·obtain ⟨o,_,_,_,e,ex,_⟩:=I.hok p _ hk
   refine ⟨⟨o,e,ex.1⟩,fun a e2=>?_⟩
   cases e2
   exact ⟨o,e,ex.2.1⟩
 | _=>exact False.elim ty
def tBM (K:PySem.W.Frag) (T:String) (r:V→List V→Hp→VK→Prop) (to:TE) (t:TA):TE:=fun σ H Q=>to σ H fun x H1=>tyV K T x H1∧t σ H1 fun xs H2=>r x xs H2 Q
variable {o e:Expr} {es:List Expr} {to:TE} {t:TA} {name:Str} {apos cpos:Pos} {T id:String} {r:V→List V→Hp→VK→Prop}
theorem ng (pa:PlainAttrs T) (slot:Slot T name id) (hty:typeOf (.builtin id)=pure (.type "method_descriptor")) (hm:MtR X id r) (ho:PE X o to) (ha:PA X (e :: es) t)
  (hbase:attributeBase o name X.env (eval o X.env)=eval o X.env:=by rfl)
  (hfew:((backTo cpos (starEach (e :: es) X.env)).all (fun x=>!x.1) && (backToKw cpos (keywordEach [] X.env)).all (fun x=>x.1.isSome)
   && decide ((e :: es).length+([]:List Keyword).length+(if ([]:List Keyword).isEmpty then 0 else 1) < 30))=true:=by rfl)
  (hline:(apos.endLine == cpos.line)=true:=by rfl) (hs:starEach (e :: es) X.env=(false,eval e X.env) :: starEach es X.env:=by rfl) (hplain:(backTo cpos (starEach es X.env)).any (·.1)=false:=by rfl) :
  PE X (.Call (.Attribute o name apos) (e :: es) [] cpos) (tBM X.K T r to t):=by
 intro pins s σ H Q I h
 refine wpAny_Call_method_late hbase hfew hline rfl (thn (ho pins s σ H _ I h) fun v s1 ⟨x,H1,I1,r1,ty,q1⟩=>?_)
 obtain ⟨h1,h2⟩:=D7 I1 r1 ty
 refine ⟨T,id,pa,slot,hty,h1,h2,?_⟩
 have hA:=ha cpos pins s1 σ H1 _ I1 q1
 rw [hs] at hA ⊢
 refine Calls.callWith_builtin (by show (false || (backTo cpos (starEach es X.env)).any (·.1))=false; rw [hplain] <;> rfl) (Calls.evalArgs_plain ?_)
 exact thn hA fun us s2 ⟨vs,H2,I2,r2,q2⟩=>hm pins s2 σ H2 x vs v us Q I2 r1 r2 q2
end
end L2
namespace L2
open PySem PySem.Spec PyProof.Rows
def MtM (X:Cx) (id:String) (r:V→List V→Hp→VK→Prop):Prop :=
 ∀ (pins:List (Addr × Obj)) (s:Shared) (σ:St) (H:Hp) (x:V) (xs:List V) (v:Value) (us:List Value) (Q:VK),Inv X pins σ H s→RelV x v→Vals xs us→r x xs H Q →
  wpAny (model X.prog X.w) X.A (call (.builtin id) (v :: us)) (EP X pins σ Q) X.xe s
theorem Vals.one:∀ {x:V} {us:List Value},Vals [x] us→∃ u,us=[u]∧RelV x u
 | _,_,.cons r .nil=>⟨_,rfl,r⟩
theorem Vals.two {x y:V} {us:List Value} (h:Vals [x,y] us):∃ u v,us=[u,v]∧RelV x u∧RelV y v:=by
 cases h with
 | cons r t =>
  cases t with
  | cons q n =>
   cases n
   exact ⟨_,_,rfl,r,q⟩
theorem Vals.eraseIdx:∀ {xs:List V} {us:List Value} (i:Nat),Vals xs us→Vals (xs.eraseIdx i) (us.eraseIdx i)
 | _,_,_,.nil=>.nil
 | _,_,0,.cons _ t=>t
 | _,_,i+1,.cons r t=>.cons r (Vals.eraseIdx i t)
theorem mF {α:Type}:∀ (l:List α) (i:Nat),(l.eraseIdx i).length≤l.length
 | [],_=>Nat.le_refl _
 | _ :: _,0=>Nat.le_succ _
 | _ :: r,i+1=>Nat.succ_le_succ (mF r i)
section
variable {X:Cx} {pins:List (Addr × Obj)} {σ:St} {H:Hp} {s:Shared} {l b:Addr} {xs ys zs:List V}
theorem Inv.lset {its its':List Value} {n:Nat} {f:Array Value→Array Value} {t':Nat} (I:Inv X pins σ H s) (hH:H l=some (.lst xs))
  (e:s.heap.get? l=some { cls:=.type "list",data:=.seq its.toArray n }) (hf:f its.toArray=its'.toArray) (hv:Vals ys its') (hz:ys.length≤sizeLine) :
  Inv X pins σ (upd H l (.lst ys)) { s with heap:=s.heap.update l (Obj.mapSeq f),toks:=t' }:=by
 have q:=PySem.IsL.update e f
 rw [hf] at q
 refine I.write (x:=l) (e:=l) (by rw [hH]; exact trivial) (.inl rfl) (fun b' u hb hu=>(Heap.get?_update_other s.heap (Obj.mapSeq f) (Ne.symm hb)).trans hu) ⟨_,q⟩ ?_
 exact ⟨hz,its',_,hv,q⟩
theorem Inv.lnew {its:List Value} {t':Nat} (I:Inv X pins σ H s) (hv:Vals ys its) (hz:ys.length≤sizeLine) :
  Inv X pins σ (upd H s.heap.objs.size (.lst ys)) { s with heap:=s.heap.push { cls:=.type "list",data:=.seq its.toArray },toks:=t' } :=
 I.laid (fun _ _ q=>Heap.get?_push_of_some _ q) (Nat.le_refl _) ⟨hz,its,0,hv,Heap.get?_push_size _ rfl⟩
theorem Inv.fresh (I:Inv X pins σ H s):H s.heap.objs.size=none:=I.hok.fresh (Nat.le_refl _)
theorem Inv.lstM (I:Inv X pins σ H s) (hH:H l=some (.lst xs)):xs.length≤sizeLine∧∃ (its:List Value) (n:Nat),Vals xs its∧xs.length=its.length∧s.heap.get? l=some { cls:=.type "list",data:=.seq its.toArray n }:=by
 obtain ⟨z,its,n,r,e⟩:=I.hok l _ hH
 exact ⟨z,its,n,r,r.length,e⟩
theorem t7 {n:Nat} (h:n≤sizeLine):Builtin.List.listTooLong n=false:=by
 unfold Builtin.List.listTooLong
 exact decide_eq_false (by omega)
end
section
variable {X:Cx}
def pj:V→List V→Hp→VK→Prop:=fun x vs H Q=>∃ l xs y,x=.ref l∧vs=[y]∧H l=some (.lst xs)∧xs.length < sizeLine∧Q .non (upd H l (.lst (xs++[y])))
theorem mC:MtM X "list.append" pj:=by
 intro pins s σ H x vs v us Q I rx rv h
 obtain ⟨l,xs,y,rfl,rfl,hH,hz,q⟩:=h
 cases rx
 obtain ⟨u,rfl,ru⟩:=rv.one
 obtain ⟨z,its,n,r,hl,e⟩:=I.lstM hH
 refine call_meets F.slot_list_append ⟨_,e,rfl⟩ F.entry_list_append (F.args_list_append_2 _ _) (PySem.list_append l its.toArray n u (by rw [List.size_toArray]; omega)) ⟨e,?_⟩
 refine ⟨.non,_,I.lset (its':=its++[u]) hH e (by simp) (r.append (.cons ru .nil)) ?_,rfl,q⟩
 rw [List.length_append,List.length_singleton]
 omega
def rF:V→List V→Hp→VK→Prop:=fun x vs H Q=>∃ l xs i k y,x=.ref l∧vs=[.int i]∧H l=some (.lst xs)∧-(2 ^ 63)≤i∧i < 2 ^ 63∧seqIndex? i xs.length=some k∧xs[k]?=some y∧Q y (upd H l (.lst (xs.eraseIdx k)))
theorem ua:MtM X "list.pop" rF:=by
 intro pins s σ H x vs v us Q I rx rv h
 obtain ⟨l,xs,i,k,y,rfl,rfl,hH,h1,h2,hk,hy,q⟩:=h
 cases rx
 obtain ⟨u,rfl,ru⟩:=rv.one
 obtain ⟨t,rfl⟩:=ru
 obtain ⟨z,its,n,r,hl,e⟩:=I.lstM hH
 obtain ⟨w,hw,rw'⟩:=r.get hy
 refine call_meets F.slot_list_pop ⟨_,e,rfl⟩ F.entry_list_pop (F.args_list_pop_2 _ _)
  (MeetsSeq.list_pop_at l its.toArray n i t k w (fitsIndex_both h1 h2) (by rw [List.size_toArray,← hl]; exact hk) (by rw [← Array.getElem?_toList]; exact hw) (by rw [List.size_toArray]; omega)) ⟨e,?_⟩
 refine ⟨y,_,I.lset (its':=its.eraseIdx k) hH e ?_ (r.eraseIdx k) ?_,rw',q⟩
 ·show its.toArray.eraseIdxIfInBounds k=(its.eraseIdx k).toArray
  rw [List.eraseIdxIfInBounds_toArray]
 ·have:=mF xs k
  omega
end
section
variable {prog:Program} {w:World} {A:Around} {E:Value→Shared→Prop} {s:Shared}
end
section
variable {X:Cx}
end
end L2
namespace Att
open PySem PySem.W PySem.Calls PyProof.Rows
theorem k8 {P:Params} {h:Heap}:∀ (ns:List Int) (vs:List Value),WellAll P h vs (ns.map WData.int)→IntsAre vs ns:=by
 intro ns
 induction ns with
 | nil =>
  intro vs w
  rw [List.map_nil] at w
  cases w
  exact .nil
 | cons n ns ih =>
  intro vs w
  rw [List.map_cons] at w
  cases w with
  | cons a b =>
   cases a
   exact .cons _ _ (ih _ b)
theorem rB {l:OpenLaw} {n:Nat} (hn:l.most=some n) {P:Params} {h:Heap} {args:List WData} {vals:List Value}
  (hpre:l.row.toRowW.claim.pre args=true) (hwl:WellAll P h vals args) :
  ∃ a vs ns,vals=[Value.ref a]∧args=[WData.list (ns.map WData.int)]∧h.get? a=some { cls:=.type "list",data:=.seq vs.toArray }∧IntsAre vs ns∧ns.length≤n:=by
 have hsh:WShape.hasAll [] args [.list .int]=true:=(pre_splitW hpre).1
 have hc:l.pre.holds [] { args:=args }=true:=(pre_splitW hpre).2
 obtain ⟨d,r,rfl,h1,h2⟩:=hasAllW_cons hsh
 obtain rfl:=hasAllW_nil h2
 obtain ⟨xs,rfl,h3⟩:=hasW_list h1
 obtain ⟨ns,rfl⟩:=items_int h3
 have hlen:ns.length≤n:=by
  unfold OpenLaw.pre at hc
  have h4:(WTm.not (.lt (.lit (.int (n:Int))) (.len (.arg 0)))).holds [] { args:=[.list (ns.map .int)] }=true:=by
   have h4:=(holds_andW hc).1
   rw [hn] at h4
   exact h4
  have h5:=condW_of h4 (w_not (w_lt w_lit (w_len_list (w_arg rfl))))
  rw [List.length_map] at h5
  refine Nat.le_of_not_lt fun q=>?_
  have q':(n:Int) < ((ns.length:Nat):Int):=by omega
  first
   | (rw [decide_eq_true q'] at h5; exact absurd h5 (by decide))
   | (simp at h5; omega)
 cases hwl with
 | cons w1 w2 =>
  cases w2
  cases w1 with
  | list ho hall=>exact ⟨_,_,ns,rfl,rfl,ho,k8 ns _ hall,hlen⟩
theorem rG (l:OpenLaw) (args:List WData):l.row.toRowW.claim.post args (.bool true) args=true :=
 postW_of (r:=l.row.toRowW) (X:=(true == true))
  (show WShape.has [] (.bool true) .bool=true by first | rfl | decide | simp [WShape.has,WShape.arms,WShape.armsAll])
  (show (WTm.eq .res (.lit (.bool true))).value [] { args:=args,res:=some (.bool true),after:=args }=some (.bool (true == true)) from w_eq_bool (w_res rfl) w_lit) rfl
theorem attach_call {l:OpenLaw} {n:Nat} {q:Program} {loose:List Str} {XP:(Str→Option Value)→Heap→Prop} {YP:World→Heap→Prop} {d:DefRec}
  (hn:l.most=some n) (hdf:d.params.defaults=[])
  (call:∀ (w:World) (s₀ s₁:Shared) (mg mb:Str→Option Value) (fa:Addr) (o:Obj) (pm cd doc:Value) (a:Addr) (vs:List Value) (ns:List Int),
   Ground q loose [] XP w s₀ mg mb s₁.heap→YP w s₁.heap →
   s₁.heap.get? fa=some o→o.data=.func (docDef d.name d.params d.body d.scope pm cd doc)→s₁.heap.CodeRec cd d.name→mg d.name=some (.ref fa) →
   s₁.heap.get? a=some { cls:=.type "list",data:=.seq vs.toArray }→IntsAre vs ns→ns.length≤n→s₁.gens=#[] →
   codeAny (model l.prog w) callerA (.call (.ref fa) ⟨[.ref a],[]⟩) (fun r s'=>r=.ok (.ret (.bool true))∧OldK s₁.heap s'.heap∧s'.os=s₁.os∧AllBare s'.gens) s₁) :
  WalkO q loose XP YP l.row.toRowW d [] (fun f vs=>PySem.call f vs):=by
 intro w s₀ s₁ mg mb G Y fa o pm cd doc dV kV ho hd hcd hD hmg hg args vals as hpre hlay hrd hwl hlo
 obtain rfl:dV=.none:=Dflts.none hD hdf
 obtain rfl:kV=.none:=Dflts.noKw hD
 obtain ⟨a,vs,ns,rfl,rfl,hobj,hints,hlen⟩:=rB hn hpre hwl
 refine enter_call (codeAny_mono (call w s₀ s₁ mg mb fa o pm cd doc a vs ns G Y ho (fd_plain hd) hcd hmg hobj hints hlen hg) fun r s' hq=>?_)
 obtain ⟨rfl,h2,h3,h4⟩:=hq
 exact ⟨.inl ⟨.bool true,.bool true,[],rfl,fun _=>rfl,.bool true,rG l _,fun _=>⟨List.Pairwise.nil,fun _ hm=>(nomatch hm)⟩⟩,h2,h3,h4⟩
section
variable {prog:Program} {w:World} {A:Around} {E:Value→Shared→Prop} {s:Shared} {K:Frag}
end
end Att
namespace L2
open PySem PySem.Spec PyProof.Rows
theorem ms:∀ {vs:List Value} {ns:List Int},IntsAre vs ns→Vals (ns.map V.int) vs
 | _,_,.nil=>.nil
 | _,_,.cons n t h=>.cons ⟨t,rfl⟩ (ms h)
def u6 (H:Hp):Prop:=∀ b,H b=none∨∃ o xs,H b=some (.frz o (.lst xs))
theorem ue {P:Program} {w:World} {K:PySem.W.Frag} {mg mb:Str→Option Value} {CX:CXT} {k:Nat} {fa a:Addr} {fd:FuncData} {x:Str} {sp:Sp} {s₁:Shared} {vs:List Value} {ns:List Int}
  (KX:K.In s₁.heap) (hns:s₁.heap.Ns mainGlobals mg) (hb:s₁.heap.Ns builtinsNs mb) (hbb:∀ x:Str,x≠"__name__"→mb x=bootBuiltins x) (hlim:s₁.heap.NoLimit) (hg:s₁.gens=#[])
  (ha:s₁.heap.get? a=some { cls:=.type "list",data:=.seq vs.toArray }) (hi:IntsAre vs ns) (hl:ns.length≤sizeLine) (hr:Room k callerA)
  (F:∀ base:Heap,K.In base→base.Ns mainGlobals mg→FnOk P w K mg base CX k fa fd [x] sp) (hbind:∀ (s:Shared) (u:Value),BindsTo s fd ⟨[u],[]⟩ [(x,u)])
  (hsp:∀ H:Hp,u6 H→SqL K H a (ns.map V.int)→sp [.ref a] H (fun v _=>v=.bl true) fun _ _ _=>False)
  (hCX:∀ H e s',CX [] H s₁ (fun _ _ _=>False) e s'→False) :
  codeAny (model P w) callerA (.call (.ref fa) ⟨[.ref a],[]⟩) (fun r s'=>r=.ok (.ret (.bool true))∧OldK s₁.heap s'.heap∧s'.os=s₁.os∧AllBare s'.gens) s₁:=by
 have rv:=ms hi
 have lenV:=hi.length
 have core:∀ H:Hp,u6 H→SqL K H a (ns.map V.int)→HOk P w H s₁.heap→(∀ b,H b≠none→b=a)→(H a≠none→K.lookup a=none) →
   codeAny (model P w) callerA (.call (.ref fa) ⟨[.ref a],[]⟩) (fun r s'=>r=.ok (.ret (.bool true))∧OldK s₁.heap s'.heap∧s'.os=s₁.os∧AllBare s'.gens) s₁:=by
  intro H hO hS hok hA hK
  have base_of:∀ {b:Addr} {o:Obj},s₁.heap.get? b=some o→H b=none→(iF s₁.heap H).get? b=some o:=fun e n=>uw e n
  have noA:∀ {b:Addr} {o:Obj} {es:Array DictEntry} {ep:Nat},s₁.heap.get? b=some o→o.data=.dict es ep→H b=none:=fun {b o es ep} e d=>by
   cases q:H b with
   | none=>rfl
   | some u =>
    have e':b=a:=hA b (by rw [q]; simp)
    subst e'
    rw [ha] at e; cases e
    have d':Data.seq vs.toArray _=Data.dict es ep:=d
    cases d'
  have nsK:∀ {b:Addr} {m:Str→Option Value},s₁.heap.Ns b m→(iF s₁.heap H).Ns b m:=fun {b m} ⟨o,es,ep,e,d,r⟩=>⟨o,es,ep,base_of e (noA e d),d,r⟩
  have hKb:K.In (iF s₁.heap H):=fun b o e=>base_of (KX b o e) (by
   cases q:H b with
   | none=>rfl
   | some u =>
    have e':b=a:=hA b (by rw [q]; simp)
    subst e'
    rw [hK (by rw [q]; simp)] at e; cases e)
  have hM:Mod K mg (iF s₁.heap H):=⟨hKb,nsK hns,⟨mb,nsK hb,hbb⟩,let ⟨mc,h1,h2⟩:=hlim; ⟨mc,nsK h1,h2⟩⟩
  have e0:Env0 P w K mg (iF s₁.heap H) callerA [] s₁ H:=⟨rfl,hM,fun b o e=>Bd e,Nat.le_of_eq (su _ _),trivial,fun b hb=>absurd (show b∈([]:List Addr) from hb) (by simp),hok,.of_eq hg⟩
  refine codeAny_mono ((F _ hKb (nsK hns)).run callerA [] s₁ H ⟨[.ref a],[]⟩ [.ref a] [.ref a] _ _ hr e0 (hbind s₁ (.ref a)) (.cons rfl .nil) (hsp H hO hS)) fun r s' h=>?_
  cases r with
  | error e=>exact (hCX H e s' h).elim
  | ok fl =>
   cases fl with
   | next=>exact False.elim h
   | brk=>exact False.elim h
   | cont=>exact False.elim h
   | ret u =>
    obtain ⟨v,H',os,bare,un,hok',r',q⟩:=h
    have q':v=.bl true:=q
    subst q'
    obtain rfl:u=Value.bool true:=r'
    refine ⟨rfl,OldK.of_keep fun b o e=>?_,os,bare⟩
    cases q:H b with
    | none=>exact un.keep b o e q (by intro z; exact absurd (show b∈([]:List Addr) from z) (by simp)) (by simp)
    | some u =>
     rcases hO b with z | ⟨ob,xs,z⟩
     ·rw [q] at z; cases z
     ·have z2:=un.frzs b ob _ z
      obtain ⟨e1,_⟩:=hok b _ z
      obtain ⟨e2,_⟩:=hok' b _ z2
      rw [e] at e1; cases e1
      exact e2
 cases hk:K.lookup a with
 | some o =>
  have e:=KX a o hk
  rw [ha] at e
  cases e
  refine core (fun _=>none) (fun _=>.inl rfl) (.inr ⟨_,vs.toArray,_,hk,rfl,rfl,rfl,by rw [List.size_toArray,lenV]; exact hl,by simpa using rv⟩) (fun b u z=>by have z':(none:Option HO)=some u:=z; cases z') (fun b z=>absurd rfl z) fun z=>absurd rfl z
 | none =>
  refine core (fun b=>if b=a then some (.frz { cls:=.type "list",data:=.seq vs.toArray } (.lst (ns.map V.int))) else none) (fun b=>?_) (.inl (.inr ⟨{ cls:=.type "list",data:=.seq vs.toArray },if_pos rfl⟩)) (fun b u z=>?_) (fun b z=>?_) fun _=>hk
  ·by_cases hb:b=a
   ·exact .inr ⟨_,_,if_pos hb⟩
   ·exact .inl (if_neg hb)
  ·by_cases hb:b=a
   ·have z':=(if_pos hb).symm.trans z
    cases z'
    subst hb
    exact ⟨ha,by rw [List.length_map]; exact hl,vs,_,rv,ha⟩
   ·have z':=(if_neg hb).symm.trans z
    cases z'
  ·by_cases hb:b=a
   ·exact hb
   ·exact absurd (if_neg hb) z
end L2
namespace L2
open PySem PySem.Spec PyProof.Rows
theorem walk_of {l:PySem.W.OpenLaw} {n k:Nat} {q:Program} {loose:List Str} {XP:(Str→Option Value)→Heap→Prop} {YP:World→Heap→Prop} {d:DefRec} {K:Params→PySem.W.Frag} {CX:World→CXT} {sp:World→Sp} {x:Str}
  (hn:l.most=some n) (hn2:n≤sizeLine) (hdf:d.params.defaults=[]) (hr:Room k callerA)
  (hY:∀ (w:World) (h:Heap),YP w h→(K w.params).In h)
  (F:∀ (w:World) (mg:Str→Option Value) (fa:Addr) (h:Heap),(K w.params).In h→h.Ns mainGlobals mg→mg d.name=some (.ref fa) →
   ∃ fd:FuncData,(∀ (s:Shared) (u:Value),BindsTo s fd ⟨[u],[]⟩ [(x,u)]) ∧
    ∀ base:Heap,(K w.params).In base→base.Ns mainGlobals mg→FnOk l.prog w (K w.params) mg base (CX w) k fa fd [x] (sp w))
  (hsp:∀ (w:World) (H:Hp) (a:Addr) (ns:List Int),ns.length≤n→u6 H→SqL (K w.params) H a (ns.map V.int)→sp w [.ref a] H (fun v _=>v=.bl true) fun _ _ _=>False)
  (hCX:∀ (w:World) (H:Hp) (s:Shared) (e:Value) (s':Shared),CX w [] H s (fun _ _ _=>False) e s'→False) :
  PySem.W.WalkO q loose XP YP l.row.toRowW d [] (fun f vs=>PySem.call f vs):=by
 refine Att.attach_call hn hdf fun w s₀ s₁ mg mb fa o pm cd doc a vs ns G Y ho hd hcd hmg hobj hints hlen hg=>?_
 have KX:=hY w _ Y
 obtain ⟨fd,hb,hF⟩:=F w mg fa _ KX G.T.g hmg
 exact ue KX G.T.g G.T.b G.T.builtins G.T.nolimit hg hobj hints (Nat.le_trans hlen hn2) hr hF hb (fun H hO hS=>hsp w H a ns hlen hO hS) fun H e s'=>hCX w H s₁ e s'
end L2
namespace L2
open PySem PySem.Spec PyProof.Rows
def cR (s:Stmt):Arguments:=match s with
 | .FunctionDef _ a _ _ _ _ _ _ _ _=>a
 | _=>{ posonlyargs:=[],args:=[],vararg:=none,kwonlyargs:=[],kw_defaults:=[],kwarg:=none,defaults:=[] }
def cb (s:Stmt):List Stmt:=match s with
 | .FunctionDef _ _ b _ _ _ _ _ _ _=>b
 | _=>[]
def am (s:Stmt):Scope:=match s with
 | .FunctionDef _ _ _ _ _ _ sc _ _ _=>sc
 | _=>{ kind:=.function,names:=[],isGenerator:=false,isCoroutine:=false }
abbrev CX0:CXT:=fun _ _ _ _ _ _=>False
abbrev E0:XK:=fun _ _ _=>False
theorem GI {X:Cx}:oH CX0 X E0:=fun _ _ _ _ _ _ _ h=>h.elim
structure Fun (K:PySem.W.Frag) (x qual:Str) (st:Stmt) (f:Addr) (fd:FuncData):Prop where
 ex:∃ (oc:Value) (od:Option Addr) (kV doc pm:Value) (an:Option Addr) (cdv ct:Value) (osl:Array (Option Value)),
  fd=PySem.W.fnOf x qual (cR st) (cb st) (am st) .none kV doc pm an cdv ct∧K.lookup f=some ⟨oc,od,.func fd,osl⟩∧PySem.W.codeIn K cdv qual=true
 kp:PySem.W.keepIn K (.ref f)=true
section
variable {P:Program} {w:World} {K:PySem.W.Frag} {mg:Str→Option Value} {base:Heap}
theorem Fun.ok {x qual:Str} {st:Stmt} {f:Addr} {fd:FuncData} {N ps:List Str} {k:Nat} {sp:Sp} (F:Fun K x qual st f fd) (S:FnScope N ps (am st)) (len:∀ vs H Q E,sp vs H Q E→vs.length=ps.length)
  (hbody:∀ (cdv:Value) (A:Around) (outer:List Env) (s:Shared) (H:Hp) (vs:List V) (Q:VK) (E:XK),Room k (A.deeper (envOfC qual (am st) s.heap.objs.size f cdv))→sp vs H Q E →
   ∃ t,PSs (kz CX0 P w K mg base N qual (am st) f cdv A outer s H E).nox (cb st) t∧t { nx:=fun _ H'=>Q .non H',rt:=Q } (cK N vs) H):FnOk P w K mg base CX0 (k+1) f fd ps sp:=by
 obtain ⟨oc,od,kV,doc,pm,an,cdv,ct,osl,rfl,lk,hcd⟩:=F.ex
 refine G3 lk hcd S len fun A outer s H vs Q E hr hsp=>?_
 obtain ⟨t,h,q⟩:=hbody cdv A outer s H vs Q E hr hsp
 exact ⟨t,h.nox,q⟩
theorem Fun.binds {x qual:Str} {st:Stmt} {f:Addr} {fd:FuncData} {ps:List Str} (F:Fun K x qual st f fd)
  (h:∀ (kV doc pm:Value) (an:Option Addr) (cdv ct:Value) (us:List Value),us.length=ps.length→bindArgs (PySem.W.fnOf x qual (cR st) (cb st) (am st) .none kV doc pm an cdv ct) ⟨us,[]⟩=pure (ps.zip us)):Binds K fd ps []:=by
 obtain ⟨oc,od,kV,doc,pm,an,cdv,ct,osl,rfl,lk,hcd⟩:=F.ex
 exact .all (h kV doc pm an cdv ct)
theorem oh {x qual:Str} {st:Stmt} {f:Addr} {oc:Value} {od an:Option Addr} {osl:Array (Option Value)} {kV doc pm cdv ct:Value} (l:K.lookup f=some ⟨oc,od,.func (PySem.W.fnOf x qual (cR st) (cb st) (am st) .none kV doc pm an cdv ct),osl⟩)
  (c:PySem.W.codeIn K cdv qual=true) (k:PySem.W.keepIn K (.ref f)=true):Fun K x qual st f (PySem.W.fnOf x qual (cR st) (cb st) (am st) .none kV doc pm an cdv ct):=⟨⟨oc,od,kV,doc,pm,an,cdv,ct,osl,rfl,l,c⟩,k⟩
end
theorem gD {A:Around} {k:Nat} (hr:Room k A):A.units+1 < cLine:=Nat.lt_of_le_of_lt (Nat.add_le_add_left (by decide:1≤64) _) hr.units
section
variable {X:Cx}
end
def Gp (H H':Hp):Prop:=∀ b o,H b=some o→H' b=some o
end L2
namespace L2
open PySem PySem.Spec PyProof.Rows
section
variable {κ:Type} [DecidableEq κ]
def dz (kvs:List (κ × V)) (k:κ):Option V:=(kvs.find? fun kv=>decide (kv.1=k)).map (·.2)
def cf (kvs:List (κ × V)) (k:κ) (v:V):List (κ × V) :=
 if (kvs.any fun kv=>decide (kv.1=k))=true then kvs.map (fun kv=>if kv.1=k then (kv.1,v) else kv) else kvs++[(k,v)]
theorem iq {p:κ × V} {r:List (κ × V)} {k:κ} (e:p.1=k):dz (p :: r) k=some p.2:=by simp [dz,List.find?_cons,e]
theorem ir {p:κ × V} {r:List (κ × V)} {k:κ} (e:¬ p.1=k):dz (p :: r) k=dz r k:=by simp [dz,List.find?_cons,e]
theorem nq (k:κ):∀ kvs:List (κ × V),(kvs.any fun kv=>decide (kv.1=k))=(dz kvs k).isSome
 | []=>rfl
 | p :: r=>by
  rw [List.any_cons]
  by_cases e:p.1=k
  ·simp only [iq e,decide_eq_true e,Bool.true_or,Option.isSome_some]
  ·rw [ir e,decide_eq_false e,Bool.false_or]; exact nq k r
theorem gS (kvs:List (κ × V)) (k:κ) (v:V):(cf kvs k v).length≤kvs.length+1:=by
 unfold cf
 split
 ·rw [List.length_map]; omega
 ·rw [List.length_append,List.length_cons,List.length_nil]; omega
theorem RelO.isSome_eq {o:Option V} {u:Option Value} (r:RelO o u):o.isSome=u.isSome:=by
 cases o with
 | none=>cases u with
  | none=>rfl
  | some _=>exact (show False from r).elim
 | some _=>cases u with
  | none=>exact (show False from r).elim
  | some _=>rfl
theorem KV.val {kvs:List (κ × V)} {vs:List (κ × Value)} (r:KV kvs vs) (k:κ):RelO (dz kvs k) (valueAt vs k):=by
 unfold KV at r
 induction r with
 | nil=>exact True.intro
 | @cons p q ps qs h t ih =>
  obtain ⟨h1,h2⟩:=h
  by_cases e:p.1=k
  ·have e':q.1=k:=h1.symm.trans e
   have b:valueAt (q :: qs) k=some q.2:=by simp [valueAt,List.find?_cons,e']
   rw [iq e,b]; exact h2
  ·have e':¬ q.1=k:=fun z=>e (h1.trans z)
   have b:valueAt (q :: qs) k=valueAt qs k:=by simp [valueAt,List.find?_cons,e']
   rw [ir e,b]; exact ih
theorem KV.any {kvs:List (κ × V)} {vs:List (κ × Value)} (r:KV kvs vs) (k:κ):(kvs.any fun kv=>decide (kv.1=k))=vs.any fun kv=>decide (kv.1=k):=by
 unfold KV at r
 induction r with
 | nil=>rfl
 | cons h t ih=>rw [List.any_cons,List.any_cons,ih,h.1]
theorem KV.repl {kvs:List (κ × V)} {vs:List (κ × Value)} (r:KV kvs vs) (k:κ) {y:V} {u:Value} (ry:RelV y u) :
  KV (kvs.map fun kv=>if kv.1=k then (kv.1,y) else kv) (vs.map fun kv=>if kv.1=k then (kv.1,u) else kv):=by
 unfold KV at r ⊢
 induction r with
 | nil=>exact .nil
 | @cons p q ps qs h t ih =>
  rw [List.map_cons,List.map_cons]
  refine .cons ?_ ih
  obtain ⟨h1,h2⟩:=h
  by_cases e:p.1=k
  ·rw [if_pos e,if_pos (h1.symm.trans e)]; exact ⟨h1,ry⟩
  ·rw [if_neg e,if_neg (fun z=>e (h1.trans z))]; exact ⟨h1,h2⟩
theorem KV.put {kvs:List (κ × V)} {vs:List (κ × Value)} (r:KV kvs vs) (k:κ) {y:V} {u:Value} (ry:RelV y u):KV (cf kvs k y) (stored vs k u):=by
 unfold cf stored
 rw [r.any k]
 by_cases e:(vs.any fun kv=>decide (kv.1=k))=true
 ·rw [if_pos e,if_pos e]; exact r.repl k ry
 ·rw [if_neg e,if_neg e]; exact Paired.snoc r ⟨rfl,ry⟩
theorem KV.length {kvs:List (κ × V)} {vs:List (κ × Value)} (r:KV kvs vs):kvs.length=vs.length:=Paired.length r
end
theorem ni {P:Program} {w:World} {k:Key} {u:Value} (r:RelV (kV k) u):(bx P w).is k u=true:=by
 cases k with
 | inl i=>obtain ⟨t,e⟩:=(show ∃ t,u=Value.int i t from r); subst e; exact oZ P w i t
 | inr x=>obtain ⟨t,e⟩:=(show ∃ t,u=Value.str x t from r); subst e; exact oY P w x t
theorem EV {a b:Key} (e:kV a=kV b):a=b:=by
 cases a with
 | inl i=>cases b with
  | inl j=>have e':V.int i=V.int j:=e; injection e' with e'; rw [e']
  | inr y=>exact nomatch (show V.int i=V.str y from e)
 | inr x=>cases b with
  | inl j=>exact nomatch (show V.str x=V.int j from e)
  | inr y=>have e':V.str x=V.str y:=e; injection e' with e'; rw [e']
theorem mH {P:Program} {w:World}:∀ {ks:List Key} {us:List Value},Vals (ks.map kV) us→ItemsAre (bx P w) ks us
 | [],_,r=>by rw [List.map_nil] at r; cases r; exact .nil
 | k :: ks,_,r=>by
  rw [List.map_cons] at r
  cases r with
  | cons h t=>exact .cons (ni h) (mH t)
abbrev KT (H:Hp):List (List Key × V)→List (List Key × Addr × Value)→Prop:=Paired fun p q=>p.1=q.1∧H q.2.1=some (.tup (p.1.map kV))∧RelV p.2 q.2.2
theorem KT.val {H:Hp} {kvs:List (List Key × V)} {xs:List (List Key × Addr × Value)} (r:KT H kvs xs) (k:List Key):RelO (dz kvs k) ((atKey xs k).map (·.2)):=by
 induction r with
 | nil=>exact True.intro
 | @cons p q ps qs h t ih =>
  obtain ⟨h1,_,h2⟩:=h
  by_cases e:p.1=k
  ·have e':q.1=k:=h1.symm.trans e
   have b:atKey (q :: qs) k=some q.2:=by simp [atKey,List.find?_cons,e']
   rw [iq e,b]; exact h2
  ·have e':¬ q.1=k:=fun z=>e (h1.trans z)
   have b:atKey (q :: qs) k=atKey qs k:=by simp [atKey,List.find?_cons,e']
   rw [ir e,b]; exact ih
theorem KT.repl {H:Hp} {kvs:List (List Key × V)} {xs:List (List Key × Addr × Value)} (r:KT H kvs xs) (k:List Key) {y:V} {u:Value} (ry:RelV y u) :
  KT H (kvs.map fun kv=>if kv.1=k then (kv.1,y) else kv) (xs.map (putAt k u)):=by
 induction r with
 | nil=>exact .nil
 | @cons p q ps qs h t ih =>
  rw [List.map_cons,List.map_cons]
  refine .cons ?_ ih
  obtain ⟨h1,h2,h3⟩:=h
  unfold putAt
  by_cases e:p.1=k
  ·rw [if_pos e,if_pos (h1.symm.trans e)]; exact ⟨h1,h2,ry⟩
  ·rw [if_neg e,if_neg (fun z=>e (h1.trans z))]; exact ⟨h1,h2,h3⟩
theorem KT.put {H:Hp} {kvs:List (List Key × V)} {xs:List (List Key × Addr × Value)} (r:KT H kvs xs) (k:List Key) {b:Addr} {y:V} {u:Value} (hb:H b=some (.tup (k.map kV))) (ry:RelV y u) :
  KT H (cf kvs k y) (storedH xs k b u):=by
 have e:(kvs.any fun kv=>decide (kv.1=k))=(atKey xs k).isSome:=by
  rw [nq,(r.val k).isSome_eq,Option.isSome_map]
 unfold cf storedH
 rw [e]
 by_cases q:(atKey xs k).isSome=true
 ·rw [if_pos q,if_pos q]; exact r.repl k ry
 ·rw [if_neg q,if_neg q]; exact Paired.snoc r ⟨rfl,hb,ry⟩
theorem KT.keeps {H H':Hp} {kvs:List (List Key × V)} {xs:List (List Key × Addr × Value)} (r:KT H kvs xs) (ht:∀ b ys,H b=some (.tup ys)→H' b=some (.tup ys)):KT H' kvs xs :=
 Paired.mapP r fun _ _ z=>⟨z.1,ht _ _ z.2.1,z.2.2⟩
section
variable {P:Program} {w:World} {H:Hp} {h:Heap} {a:Addr}
theorem Am {u:HO} (ok:HOk P w H h) (e:Rd H a u):ObjOk P w H h a u:=e.ok ok
theorem qQ {kvs:List (Key × V)} (ok:HOk P w H h) (e:Rd H a (.dK kvs)):kvs.length≤sizeLine∧(a == sysModules)=false∧∃ vs,KV kvs vs∧h.DictOf (bx P w) a vs :=
 show ObjOk P w H h a (.dK kvs) from Am ok e
theorem lq {kvs:List (Key × V)} (ok:HOk P w H h) (e:H a=some (.dK kvs)):kvs.length≤sizeLine∧(a == sysModules)=false∧∃ vs,KV kvs vs∧h.DictOf (bx P w) a vs:=qQ ok (.inl e)
theorem nS {ks:List Key} (ok:HOk P w H h) (e:H a=some (.tup (ks.map kV))):(tupleKind (bx P w)).is h ks a:=by
 obtain ⟨_,its,r,o,h1,h2,n,h3⟩:=(show ObjOk P w H h a (.tup (ks.map kV)) from ok a _ e)
 exact ⟨o,its.toArray,n,h1,h2,h3.1,by simpa using mH r⟩
theorem qP {kvs:List (List Key × V)} (ok:HOk P w H h) (e:Rd H a (.dT kvs)):kvs.length≤sizeLine∧(a == sysModules)=false ∧
  ∃ xs,KT H kvs xs∧h.DictOfH (tupleKind (bx P w)) a xs:=by
 obtain ⟨z,y,xs,r,o,es,ep,h1,h2,h3,h4,h5⟩:=(show ObjOk P w H h a (.dT kvs) from Am ok e)
 refine ⟨z,y,xs,r,o,es,ep,h1,h2,h3,h4,fun x hx=>?_,h5⟩
 have all:∀ {l:List (List Key × V)} {m:List (List Key × Addr × Value)},KT H l m→∀ x∈m,(tupleKind (bx P w)).is h x.1 x.2.1:=by
  intro l m q
  induction q with
  | nil=>intro x hx; exact nomatch hx
  | @cons p q ps qs hq t ih =>
   intro x hx
   rcases List.mem_cons.mp hx with e | hx
   ·subst e
    exact nS ok (by rw [← hq.1]; exact hq.2.1)
   ·exact ih x hx
 exact all r x hx
theorem Hm {kvs:List (List Key × V)} (ok:HOk P w H h) (e:H a=some (.dT kvs)):kvs.length≤sizeLine∧(a == sysModules)=false ∧
  ∃ xs,KT H kvs xs∧h.DictOfH (tupleKind (bx P w)) a xs:=qP ok (.inl e)
end
def DGet (H:Hp) (a:Addr) (y:V) (r:Option V):Prop :=
 (∃ kvs k,Rd H a (.dK kvs)∧y=kV k∧r=dz kvs k)∨∃ kvs k b,Rd H a (.dT kvs)∧y=.ref b∧H b=some (.tup (k.map kV))∧r=dz kvs k
def DPut (H:Hp) (a:Addr) (y v:V) (H':Hp):Prop :=
 (∃ kvs k,H a=some (.dK kvs)∧y=kV k∧kvs.length < sizeLine∧H'=upd H a (.dK (cf kvs k v))) ∨
 ∃ kvs k b,H a=some (.dT kvs)∧y=.ref b∧H b=some (.tup (k.map kV))∧kvs.length < sizeLine∧H'=upd H a (.dT (cf kvs k v))
theorem DGet.k {H:Hp} {a:Addr} {kvs:List (Key × V)} {k:Key} (e:H a=some (.dK kvs)):DGet H a (kV k) (dz kvs k):=.inl ⟨kvs,k,.inl e,rfl,rfl⟩
theorem DPut.k {H:Hp} {a:Addr} {kvs:List (Key × V)} {k:Key} {v:V} (e:H a=some (.dK kvs)) (hl:kvs.length < sizeLine):DPut H a (kV k) v (upd H a (.dK (cf kvs k v))):=.inl ⟨kvs,k,e,rfl,hl,rfl⟩
section
variable {X:Cx} {pins:List (Addr × Obj)} {σ:St} {H:Hp} {s:Shared} {a:Addr} {y v:V} {u r:Value} {o:Option V} {A:Around} {E:Value→Shared→Prop}
theorem Inv.big (I:Inv X pins σ H s):sysModules < s.heap.objs.size:=by
 have h:mainGlobals < s.heap.objs.size:=(I.mod.glob.keeps I.bk).lt
 exact Nat.lt_trans (by decide) h
theorem sU {Q:Value→Shared→Prop} (hu:A.units+1 < cLine) (I:Inv X pins σ H s) (g:DGet H a y (some v)) (ry:RelV y u) (h:∀ w' s',Inv X pins σ H s'→RelV v w'→Q w' s') :
  wpAny (model X.prog X.w) A (getItem (.ref a) u) Q E s:=by
 rcases g with ⟨kvs,k,e,ey,l⟩ | ⟨kvs,k,b,e,ey,eb,l⟩
 ·subst ey
  obtain ⟨z,hd,vs,rel,dd⟩:=qQ I.hok e
  obtain ⟨w',hw,rw'⟩:=RelO.some_of (v:=v) (o:=valueAt vs k) (by rw [l]; exact rel.val k)
  exact wpAny_getItem_of (ni ry) dd.mapOf hw (h w' _ (I.tok _) rw')
 ·subst ey
  cases (show u=Value.ref b from ry)
  obtain ⟨z,hd,xs,rel,dd⟩:=qP I.hok e
  obtain ⟨w',hw,rw'⟩:=RelO.some_of (v:=v) (o:=(atKey xs k).map (·.2)) (by rw [l]; exact rel.val k)
  obtain ⟨p,hp,hp2⟩:=Option.map_eq_some_iff.mp hw
  refine wpAny_getItem_heap (tupleKind_room_in1 hu) (nS I.hok eb) dd hp ?_
  rw [hp2]
  exact h w' _ (I.tok _) rw'
theorem me {h':Heap} {t':Nat} {ob:HO} (I:Inv X pins σ H s) (mu:Mut (H a)) (hs:Heap.SameBut a s.heap h') (he:∃ q,h'.get? a=some q) (new:ObjOk X.prog X.w (upd H a ob) h' a ob) :
  Inv X pins σ (upd H a ob) { s with heap:=h',toks:=t' } :=
 I.write (x:=a) (e:=a) mu (.inl rfl) (fun b q hb z=>(hs.2 b hb).trans z) he new
theorem sS {P:Program} {w:World} {H':Hp} {h':Heap} {kvs:List (Key × V)} {vs:List (Key × Value)} (z:kvs.length≤sizeLine) (hd:(a == sysModules)=false) (rel:KV kvs vs) (dd:h'.DictOf (bx P w) a vs) :
  ObjOk P w H' h' a (.dK kvs):=⟨z,hd,vs,rel,dd⟩
theorem sT {H':Hp} {Q:Unit→Shared→Prop} (hu:A.units+1 < cLine) (I:Inv X pins σ H s) (g:DPut H a y v H') (ry:RelV y u) (rv:RelV v r) (h:∀ s',Inv X pins σ H' s'→Q () s') :
  wpAny (model X.prog X.w) A (setItem (.ref a) u r) Q E s:=by
 rcases g with ⟨kvs,k,e,ey,l,eH⟩ | ⟨kvs,k,b,e,ey,eb,l,eH⟩
 ·subst ey eH
  obtain ⟨z,hd,vs,rel,dd⟩:=lq I.hok e
  have hz:vs.length≤sizeLine:=by rw [← rel.length]; exact z
  have hl:(cf kvs k v).length≤sizeLine:=by have:=gS kvs k v; omega
  refine wpAny_setItem_pairs (hsz:=hz) (ni ry) dd fun h' dd' hs=>h _ ?_
  have he:∃ q,h'.get? a=some q:=let ⟨q,_,_,hq,_⟩:=dd'; ⟨q,hq⟩
  exact me I (by rw [e]; exact True.intro) hs he (sS hl hd (rel.put k rv) dd')
 ·subst ey eH
  cases (show u=Value.ref b from ry)
  obtain ⟨z,hd,xs,rel,dd⟩:=Hm I.hok e
  have hz:xs.length≤sizeLine:=by rw [← Paired.length rel]; exact z
  have hl:(cf kvs k v).length≤sizeLine:=by have:=gS kvs k v; omega
  refine wpAny_setItem_heap (hsz:=hz) (tupleKind_room_in1 hu) (nS I.hok eb) dd fun h' dd' hs=>h _ ?_
  obtain ⟨q,es,ep,hq,h2,h3,h4,_,h5⟩:=dd'
  refine me I (by rw [e]; exact True.intro) hs ⟨q,hq⟩ ⟨hl,hd,_,(rel.put k eb rv).keeps fun c ys ec=>?_,q,es,ep,hq,h2,h3,h4,h5⟩
  rw [aK (GO ec e (fun z=>nomatch z))]
  exact ec
end
section
variable {X:Cx} {pins:List (Addr × Obj)} {σ:St} {H:Hp} {s:Shared} {a:Addr} {kvs:List (Key × V)} {k:Key} {u:Value} {A:Around} {E:Value→Shared→Prop}
end
def qZ (i:Expr):Prop:=∀ ov iv,subscripted i false ov iv=operate [ov,iv] (getItem ov iv)
theorem AL {prog:Program} {w:World} {A:Around} {E:Value→Shared→Prop} {s:Shared} {env:Env} {value slice:Expr} {pos:Pos} {T id:String} {Q:Value→Shared→Prop}
  (hl:typeLookup (.type T) "__getitem__"=pure (some (.builtin id))) (hs:qZ slice)
  (h:wpAny (model prog w) A (eval value env) (fun o s₁=>wpAny (model prog w) A (eval slice env) (fun i s₂=>s₂.TypeIs o T∧wpAny (model prog w) A (getItem o i) Q E s₂) E s₁) E s) :
  wpAny (model prog w) A (eval (.Subscript value slice pos) env) Q E s:=by
 refine Subscript_ (wpAny_mono h (fun o s₁ h₁=>wpAny_mono h₁ (fun i s₂ h₂=>?_) fun _ _ x=>x) fun _ _ x=>x)
 obtain ⟨hT,h₂⟩:=h₂
 unfold subscriptTail
 refine wpAny_bind ?_
 rw [getitemInPython_of_ne hT.not_modules]
 refine wpAny_bind (wpAny_specialOf hT hl ?_)
 have fin:wpAny (model prog w) A (subscripted slice false o i) (fun r s₃=>wpAny (model prog w) A (letTemporaryGo value o r >>= fun _=>pure r) Q E s₃) E s₂:=by
  rw [hs o i]
  exact wpAny_operating (wpAny_mono h₂ (fun r s₃ h₃=>wpAny_bind (wpAny_letTemporaryGo (wpAny_pure h₃))) fun _ _ x=>x)
 first
  | exact wpAny_pure (wpAny_bind fin)
  | exact wpAny_bind (wpAny_pure (wpAny_bind fin))
  | exact wpAny_bind fin
theorem o9 {X:Cx} {pins:List (Addr × Obj)} {σ:St} {H:Hp} {s:Shared} {a:Addr} {y:V} {o:Option V} (I:Inv X pins σ H s) (g:DGet H a y o):s.TypeIs (.ref a) "dict":=by
 rcases g with ⟨kvs,k,e,_,_⟩ | ⟨kvs,k,b,e,_,_,_⟩
 ·obtain ⟨_,_,vs,_,dd⟩:=qQ I.hok e
  exact dd.typeIs
 ·obtain ⟨_,_,xs,_,dd⟩:=qP I.hok e
  exact dd.typeIs
def Ai (td ty:TE):TE:=fun σ H Q=>td σ H fun x H1=>ty σ H1 fun y H2=>∃ a v,x=.ref a∧DGet H2 a y (some v)∧Q v H2
def Al (td ty tv:TE):TS:=fun D σ H=>tv σ H fun v H1=>td σ H1 fun x H2=>ty σ H2 fun y H3=>∃ a H4,x=.ref a∧DPut H3 a y v H4∧D.nx σ H4
section
variable {X:Cx} {o i e value:Expr} {pos pos' tpos:Pos} {td ty tv:TE}
theorem A9 (hu:X.A.units+1 < cLine) (ho:PE X o td) (hi:PE X i ty) (hs:qZ i):PE X (.Subscript o i pos) (Ai td ty):=by
 intro pins s σ H Q I h
 refine AL PySem.F.slot_dict_getitem.lookup hs (thn (ho pins s σ H _ I h) fun u s1 ⟨x,H1,I1,rx,q1⟩=>thn (hi pins s1 σ H1 _ I1 q1) fun iv s2 ⟨y,H2,I2,ry,a,v,ex,g,q2⟩=>?_)
 subst ex
 obtain rfl:u=Value.ref a:=rx
 exact ⟨o9 I2 g,sU hu I2 g ry fun w' s3 I3 rw'=>⟨v,H2,I3,rw',q2⟩⟩
theorem AY (hu:X.A.units+1 < cLine) (ho:PE X o td) (hi:PE X i ty) (hv:PE X value tv) (hs:swapsWith value (some (.Subscript o i pos')) pos.line X.env=pure false) :
  PS X (.Assign [.Subscript o i pos'] value pos) (Al td ty tv):=by
 intro pins s σ H D I h
 refine wpAny_Assign_Subscript (thn (hv pins s σ H _ I h) fun r s1 ⟨v,H1,I1,rv,q1⟩=>thn (ho pins s1 σ H1 _ I1 q1) fun u s2 ⟨x,H2,I2,rx,q2⟩=>thn (hi pins s2 σ H2 _ I2 q2) fun iv s3 ⟨y,H3,I3,ry,a,H4,ex,g,q3⟩=>?_) hs
 subst ex
 obtain rfl:u=Value.ref a:=rx
 exact sT hu I3 g ry rv fun s4 I4=>⟨σ,H4,I4,q3⟩
end
theorem uV {P:Program} {w:World} {H:Hp} (h:Heap) (hb:sysModules < h.objs.size):ObjOk P w H (h.push { cls:=.type "dict",data:=.dict #[] }) h.objs.size (.dK []) :=
 ⟨Nat.zero_le _,beq_eq_false_iff_ne.mpr (Ne.symm (Nat.ne_of_lt hb)),[],.nil,Heap.DictOf.new h⟩
section
variable {X:Cx} {pos:Pos}
end
def kL:List (TE × TE)→St→Hp→(List (V × V)→Hp→Prop)→Prop
 | [],_,H,Q=>Q [] H
 | (tk,tv) :: r,σ,H,Q=>tk σ H fun x H1=>tv σ H1 fun y H2=>kL r σ H2 fun ps H3=>Q ((x,y) :: ps) H3
abbrev VV:List (V × V)→List (Value × Value)→Prop:=Paired fun p q=>RelV p.1 q.1∧RelV p.2 q.2
def PPs (X:Cx) (pos:Pos) (keys:List (Option Expr)) (values:List Expr) (trs:List (TE × TE)):Prop :=
 ∀ (pins:List (Addr × Obj)) (s:Shared) (σ:St) (H:Hp) (Q:List (V × V)→Hp→Prop),Inv X pins σ H s→kL trs σ H Q →
  wpAny (model X.prog X.w) X.A (evalPairs (pairTrees keys values X.env pos)) (fun vs s'=>∃ ps H',Inv X pins σ H' s'∧VV ps vs∧Q ps H') X.xe s
theorem AZ {X:Cx} {pos:Pos}:PPs X pos [] [] []:=fun pins s σ H Q I h=>pairTrees_nil_walk ⟨[],H,I,.nil,h⟩
theorem tS {X:Cx} {pos:Pos} {k v:Expr} {ks:List (Option Expr)} {vs:List Expr} {tk tv:TE} {trs:List (TE × TE)} (hk:PE X k tk) (hv:PE X v tv) (hr:PPs X pos ks vs trs) :
  PPs X pos (some k :: ks) (v :: vs) ((tk,tv) :: trs):=fun pins s σ H Q I h =>
 pairTrees_cons_walk (thn (hk pins s σ H _ I h) fun u s1 ⟨x,H1,I1,rx,q1⟩=>thn (hv pins s1 σ H1 _ I1 q1) fun w2 s2 ⟨y,H2,I2,ry,q2⟩ =>
  thn (hr pins s2 σ H2 _ I2 q2) fun ws s3 ⟨ps,H3,I3,rel,q3⟩=>⟨(x,y) :: ps,H3,I3,.cons ⟨rx,ry⟩ rel,q3⟩)
def e8 (kvs more:List (Key × V)):List (Key × V):=more.foldl (fun acc kv=>cf acc kv.1 kv.2) kvs
theorem KV.merge:∀ {more:List (Key × V)} {rs:List (Key × Value)} {kvs:List (Key × V)} {vs:List (Key × Value)},KV more rs→KV kvs vs→KV (e8 kvs more) (merged vs rs):=by
 intro more rs kvs vs r
 unfold KV at r
 induction r generalizing kvs vs with
 | nil=>intro q; exact q
 | @cons p q ps qs h t ih =>
  intro r0
  have e:KV (cf kvs p.1 p.2) (stored vs q.1 q.2):=by
   have:=r0.put p.1 h.2
   rw [← h.1]; exact this
  exact ih e
theorem i8:∀ (more kvs:List (Key × V)),(e8 kvs more).length≤kvs.length+more.length
 | [],kvs=>by show kvs.length≤kvs.length+0; omega
 | p :: r,kvs=>by
  have h1:=i8 r (cf kvs p.1 p.2)
  have h2:=gS kvs p.1 p.2
  show (e8 (cf kvs p.1 p.2) r).length≤_
  rw [List.length_cons]; omega
theorem ly {P:Program} {w:World}:∀ {kvs:List (Key × V)} {ws:List (Value × Value)},VV (kvs.map fun kv=>(kV kv.1,kv.2)) ws→∃ rs,Carries (bx P w) ws rs∧KV kvs rs
 | [],_,r=>by rw [List.map_nil] at r; cases r; exact ⟨[],True.intro,.nil⟩
 | p :: kvs,_,r=>by
  rw [List.map_cons] at r
  cases r with
  | @cons a b as bs h t =>
   obtain ⟨rs,c,q⟩:=ly (P:=P) (w:=w) t
   obtain ⟨b1,b2⟩:=b
   exact ⟨(p.1,b2) :: rs,⟨ni h.1,rfl,c⟩,.cons ⟨rfl,h.2⟩ q⟩
def Ah (trs:List (TE × TE)):TE:=fun σ H Q=>∀ p,H p=none→kL trs σ (upd H p (.dK [])) fun ps H2=>H2 p=some (.dK [])∧∃ kvs:List (Key × V),ps=kvs.map (fun kv=>(kV kv.1,kv.2))∧kvs.length≤15∧Q (.ref p) (upd H2 p (.dK (e8 [] kvs)))
theorem A8 {X:Cx} {pos:Pos} {keys:List (Option Expr)} {values:List Expr} {trs:List (TE × TE)} (h:PPs X pos keys values trs) (hall:keys.all (·.isSome)=true) (hl:keys.length=values.length) (h0:keys≠[])
  (h15:keys.length≤15):PE X (.Dict keys values pos) (Ah trs):=by
 intro pins s σ H Q I q
 have hn:=I.hok.fresh (Nat.le_refl s.heap.objs.size)
 have I1:=I.laid (a:=s.heap.objs.size) (o:=.dK []) (h':=s.heap.push { cls:=.type "dict",data:=.dict #[] }) (t':=s.toks) (fun _ _ q=>Heap.get?_push_of_some _ q) (Nat.le_refl _) (uV s.heap I.big)
 refine wpAny_Dict_walk (knd:=bx X.prog X.w) hall hl h0 h15 (thn (h pins _ σ _ _ I1 (q _ hn)) fun ws s2 ⟨ps,H2,I2,rel,e,kvs,ep,lk,q2⟩=>?_)
 subst ep
 obtain ⟨rs,c,rk⟩:=ly (P:=X.prog) (w:=X.w) rel
 obtain ⟨z,hd,vs0,r0,dd⟩:=lq I2.hok e
 cases r0
 refine ⟨rs,c,dd,fun h' dd' hs=>⟨.ref s.heap.objs.size,_,?_,rfl,q2⟩⟩
 have hz:(e8 [] kvs).length≤sizeLine:=by
  have h1:=i8 kvs []
  rw [List.length_nil] at h1
  rw [sizeLine_eq]; omega
 have he:∃ q,h'.get? s.heap.objs.size=some q:=let ⟨q,_,_,hq,_⟩:=dd'; ⟨q,hq⟩
 exact me I2 (by rw [e]; exact True.intro) hs he (sS hz hd (rk.merge .nil) dd')
section
variable {X:Cx} {pins:List (Addr × Obj)} {σ:St} {H:Hp} {s:Shared} {a:Addr} {y d:V} {u r:Value} {o:Option V} {A:Around} {E:Value→Shared→Prop}
end
section
variable {X:Cx} {o e f:Expr} {apos cpos:Pos} {td ty tx:TE}
end
section
variable {X:Cx} {pins:List (Addr × Obj)} {σ:St} {H:Hp} {s:Shared} {a:Addr} {kvs:List (Key × V)} {A:Around} {E:Value→Shared→Prop}
end
section
variable {X:Cx} {pins:List (Addr × Obj)} {σ:St} {H:Hp} {s:Shared} {a:Addr} {y:V} {u:Value} {A:Around} {E:Value→Shared→Prop}
end
end L2
namespace L2
open PySem PySem.Spec PyProof.Rows
section
variable {X:Cx}
end
section
variable {κ:Type} [DecidableEq κ]
end
end L2
set_option maxHeartbeats 4000000
namespace L2
open PySem PySem.Spec PyProof.Rows
theorem BP {α β:Type} {l:List α} {f:α→β→Sem (ForInStep β)} {g:β→α→β} (h:∀ x∈l,∀ c,f x c=pure (.yield (g c x))):∀ c,forIn l c f=pure (l.foldl g c):=by
 induction l with
 | nil=>intro c; rfl
 | cons x l ih =>
  intro c
  rw [List.forIn_cons,h x List.mem_cons_self,pure_bind]
  exact ih (fun y hy=>h y (List.mem_cons_of_mem _ hy)) (g c x)
def dk (env:Env) (acc:List (Str × Addr)) (x:Str × NameKind):List (Str × Addr) :=
 if x.2 == NameKind.free then (x.1,(env.cells.lookup x.1).getD 0) :: acc else acc
def cG (env:Env) (names:List (Str × NameKind)):List (Str × Addr):=names.foldl (dk env) []
theorem lu {scope:Scope} {env:Env} (h:∀ y∈scope.names,y.2=.free→∃ c,env.cells.lookup y.1=some c):closureFor scope env=pure (cG env scope.names):=by
 simp only [closureFor]
 rw [BP (g:=dk env) (fun x hx c=>by
  obtain ⟨n,kind⟩:=x
  by_cases hk:kind=.free
  ·obtain ⟨a,e⟩:=h _ hx hk
   subst hk
   have e':env.cells.lookup n=some a:=e
   simp [cellOf,dk,e']
  ·have hb:(kind == NameKind.free)=false:=by simpa using hk
   simp [dk,hb])]
 rfl
theorem lw {env:Env}:∀ (names:List (Str × NameKind)) (acc:List (Str × Addr)) (p:Str × Addr),
  p∈names.foldl (dk env) acc→p∈acc∨((p.1,NameKind.free)∈names∧p.2=(env.cells.lookup p.1).getD 0)
 | [],_,_,h=>.inl h
 | (n,k) :: r,acc,p,h=>by
  rw [List.foldl_cons] at h
  rcases lw r _ p h with q | ⟨q,e⟩
  ·unfold dk at q
   by_cases hk:(k == NameKind.free)=true
   ·rw [if_pos hk] at q
    rcases List.mem_cons.mp q with z | z
    ·subst z
     have hk':k=NameKind.free:=by simpa using hk
     subst hk'
     exact .inr ⟨List.mem_cons_self,rfl⟩
    ·exact .inl z
   ·rw [if_neg hk] at q
    exact .inl q
  ·exact .inr ⟨List.mem_cons_of_mem _ q,e⟩
theorem kb {env:Env}:∀ (names:List (Str × NameKind)) (acc:List (Str × Addr)) (p:Str × Addr),p∈acc→p∈names.foldl (dk env) acc
 | [],_,_,h=>h
 | x :: r,acc,p,h=>by
  rw [List.foldl_cons]
  refine kb r _ p ?_
  unfold dk
  split
  ·exact List.mem_cons_of_mem _ h
  ·exact h
theorem lx {env:Env} {n:Str}:∀ (names:List (Str × NameKind)) (acc:List (Str × Addr)),(n,NameKind.free)∈names→∃ c,(n,c)∈names.foldl (dk env) acc
 | (m,k) :: r,acc,h=>by
  rw [List.foldl_cons]
  rcases List.mem_cons.mp h with e | e
  ·cases e
   exact ⟨(env.cells.lookup n).getD 0,kb r _ _ (by unfold dk; rw [if_pos (show (((n,NameKind.free):Str × NameKind).2 == NameKind.free)=true from rfl)]; exact List.mem_cons_self)⟩
  ·exact lx r _ e
theorem fw {α:Type}:∀ {l:List (Str × α)} {n:Str} {c:α},(n,c)∈l→∃ c',l.lookup n=some c'
 | (m,d) :: r,n,c,h=>by
  rw [List.lookup_cons]
  cases hb:n == m with
  | true=>exact ⟨d,rfl⟩
  | false =>
   rcases List.mem_cons.mp h with e | e
   ·cases e
    simp at hb
   ·exact fw e
theorem oA {env:Env} {names:List (Str × NameKind)} {n:Str} (h:(n,NameKind.free)∈names):∃ c,(cG env names).lookup n=some c :=
 let ⟨_,e⟩:=lx (env:=env) names [] h
 fw e
theorem mM {env:Env} {names:List (Str × NameKind)} {n:Str} {c:Addr} (h:∀ y∈names,y.2=.free→∃ c,env.cells.lookup y.1=some c) (e:(cG env names).lookup n=some c):env.cells.lookup n=some c:=by
 rcases lw names [] (n,c) (PySem.mem_of_lookup e) with q | ⟨q,z⟩
 ·simp at q
 ·obtain ⟨a,ea⟩:=h _ q rfl
  have z':c=(env.cells.lookup n).getD 0:=z
  have ea':env.cells.lookup n=some a:=ea
  rw [ea'] at z'
  rw [ea',z']
  rfl
theorem iw {env:Env}:∀ {names:List (Str × NameKind)} {x:Str} {k:NameKind},
  (names.map fun (n,k)=>if (k == NameKind.free && env.scope.kind == .function && env.kindOf n == some .cell) then (n,NameKind.cell) else (n,k)).lookup x=some k →
  names.lookup x=some k∨(names.lookup x=some .free∧k=.cell)
 | [],_,_,h=>by simp at h
 | (n,k0) :: r,x,k,h=>by
  rw [List.map_cons] at h
  cases hx:x == n with
  | true =>
   rcases Bool.eq_false_or_eq_true (k0 == NameKind.free && env.scope.kind == .function && env.kindOf n == some .cell) with hc | hc
   ·simp only [hc,if_true,List.lookup_cons,hx] at h
    have hk:k0=.free:=by
     simp only [Bool.and_eq_true,beq_iff_eq] at hc
     exact hc.1.1
    refine .inr ⟨?_,?_⟩
    ·simp only [List.lookup_cons,hx,hk]
    ·exact (Option.some.inj h).symm
   ·simp only [hc,Bool.false_eq_true,if_false,List.lookup_cons,hx] at h
    refine .inl ?_
    simp only [List.lookup_cons,hx]
    exact h
  | false =>
   have h':(r.map fun (n,k)=>if (k == NameKind.free && env.scope.kind == .function && env.kindOf n == some .cell) then (n,NameKind.cell) else (n,k)).lookup x=some k:=by
    rcases Bool.eq_false_or_eq_true (k0 == NameKind.free && env.scope.kind == .function && env.kindOf n == some .cell) with hc | hc
    ·simp only [hc,if_true,List.lookup_cons,hx] at h
     exact h
    ·simp only [hc,Bool.false_eq_true,if_false,List.lookup_cons,hx] at h
     exact h
   simp only [List.lookup_cons,hx]
   exact iw h'
theorem kT {env:Env}:∀ {names:List (Str × NameKind)} {x:Str},names.lookup x=some .free →
  (names.map fun (n,k)=>if (k == NameKind.free && env.scope.kind == .function && env.kindOf n == some .cell) then (n,NameKind.cell) else (n,k)).lookup x=some .cell ∨
  (names.map fun (n,k)=>if (k == NameKind.free && env.scope.kind == .function && env.kindOf n == some .cell) then (n,NameKind.cell) else (n,k)).lookup x=some .free
 | [],_,h=>by simp at h
 | (n,k0) :: r,x,h=>by
  rw [List.map_cons]
  cases hx:x == n with
  | true =>
   simp only [List.lookup_cons,hx] at h
   rcases Bool.eq_false_or_eq_true (k0 == NameKind.free && env.scope.kind == .function && env.kindOf n == some .cell) with hc | hc
   ·refine .inl ?_
    simp only [hc,if_true,List.lookup_cons,hx]
   ·refine .inr ?_
    simp only [hc,Bool.false_eq_true,if_false,List.lookup_cons,hx]
    exact h
  | false =>
   simp only [List.lookup_cons,hx] at h
   have ih:=kT (env:=env) h
   rcases Bool.eq_false_or_eq_true (k0 == NameKind.free && env.scope.kind == .function && env.kindOf n == some .cell) with hc | hc
   ·simp only [hc,if_true,List.lookup_cons,hx]
    exact ih
   ·simp only [hc,Bool.false_eq_true,if_false,List.lookup_cons,hx]
    exact ih
def dw (js:List (Option Nat)) (σ:St):St:=js.map fun j=>match j with
 | some j=>(σ[j]?).join
 | none=>none
end L2
namespace L2
open PySem PySem.Spec PyProof.Rows
def PTs (X:Cx) (ifs:List Expr) (tt:TT):Prop :=
 ∀ (pins:List (Addr × Obj)) (s:Shared) (σ:St) (H:Hp) (Q:Bool→Hp→Prop),Inv X pins σ H s→tt σ H Q →
  wpAny (model X.prog X.w) X.A (forIn ifs true fun c r=>if r=true then do let ok ← isTrue c X.env (eval c X.env); pure (ForInStep.yield ok) else pure (ForInStep.yield r)) (TP X pins σ Q) X.xe s
def Hq:TT:=fun _ H Q=>Q true H
theorem pts_nil {X:Cx}:PTs X [] Hq:=fun _ _ _ H _ I h=>wpAny_tests_nil ⟨H,I,h⟩
theorem AU {X:Cx} {c:Expr} {tc:TT} (hc:PT X c tc):PTs X [c] tc:=fun pins s σ H Q I h=>wpAny_tests_one (hc pins s σ H Q I h)
def ES (g:TG) (tt:TT) (te:TE) (D:Addr) (x:V) (τ:St) (H:Hp) (N:St→Hp→Prop):Prop :=
 g x τ H fun τ4 H4=>tt τ4 H4 fun b H5=>if b=true then te τ4 H5 fun v H6=>∃ xs,H6 D=some (.lst xs)∧xs.length < sizeLine∧N τ4 (upd H6 D (.lst (xs++[v]))) else N τ4 H5
def Ar (J:It) (g:TG) (tt:TT) (te:TE) (σ0:St) (H1:Hp) (D:Addr) (Q:VK):Prop :=
 ∃ W:Nat→Nat→St→Hp→Prop,(∃ m,W 0 m σ0 (upd H1 D (.lst []))) ∧
  ∀ i m τ H2,W i m τ H2→(J.stop i H2∧Q (.ref D) H2)∨(J.go i H2∧∃ N:St→Hp→Prop,(∀ τ' H',N τ' H'→∃ m',m' < m∧W (i+1) m' τ' H')∧∀ x H3,J.yld i H2 x H3→ES g tt te D x τ H3 N)
def tLC (wi:TI) (g:TG) (tt:TT) (te:TE) (js:List (Option Nat)):TE:=fun σ H Q =>
 wi σ H fun J H1=>∀ D,H1 D=none→Ar J g tt te (dw js σ) H1 D Q
theorem thF {α:Type} {t:Sem α} {Q Q':α→Shared→Prop} {M:Model} {A:Around} {E:Value→Shared→Prop} {s:Shared} (h:wpAny M A t Q (fun _ _=>False) s) (hQ:∀ a s,Q a s→Q' a s):wpAny M A t Q' E s :=
 wpAny_mono h hQ fun _ _ x=>x.elim
section
variable {X:Cx} {elt tg iter:Expr} {ifs:List Expr} {scope:Scope} {pos:Pos} {ns:List Str} {js:List (Option Nat)} {wi:TI} {g:TG} {tt:TT} {te:TE}
end
end L2
namespace L2
open PySem PySem.Spec PyProof.Rows
section
variable {X:Cx}
theorem qV:∀ (bs:List Bool),(List.range bs.length).all (fun i=>bs.getD i true)=bs.all id:=fun bs=>by
 rw [Bool.eq_iff_iff,List.all_eq_true,List.all_eq_true]
 constructor
 ·intro h b hb
  obtain ⟨i,hi,e⟩:=List.mem_iff_getElem.mp hb
  have q:=h i (List.mem_range.mpr hi)
  rw [List.getD_eq_getElem?_getD,List.getElem?_eq_getElem hi,e] at q
  exact q
 ·intro h i hi
  have hi':=List.mem_range.mp hi
  rw [List.getD_eq_getElem?_getD,List.getElem?_eq_getElem hi']
  exact h _ (List.getElem_mem hi')
theorem uZ (hc:X.calm=true):CallR X (.builtin "all") (fun xs H Q=>∃ (p:Addr) (bs:List Bool),xs=[.ref p]∧SqL X.K H p (bs.map V.bl)∧Q (.bl (bs.all id)) H):=by
 intro pins s σ H xs us Q I r h
 obtain ⟨p,bs,rfl,hp,q⟩:=h
 obtain ⟨u,rfl,ru⟩:=bU r
 cases ru
 obtain ⟨its,rv,pl,hz⟩:=I.list hp
 have hl:its.length=bs.length:=by rw [← rv.length,List.length_map]
 have hlt:p < s.heap.objs.size:=by
  obtain ⟨o,n,e,_⟩:=id pl
  exact Heap.lt_size e
 refine call_all_walk (wpAny_pyIter_list pl.isList ?_)
 refine ⟨s.heap.objs.size,[s.heap.objs.size,p],[s.heap.objs.size],its.toArray.size,fun i v=>its.toArray[i]?=some v,_,fun i=>bs.getD i true,rfl,Walks.list (A:=X.A.in1) (show X.A.in1.handled=none from I.ok.hd hc) s.heap.objs.size p (Nat.ne_of_lt hlt) its.toArray,?_,?_,?_⟩
 ·exact ⟨⟨_,Heap.get?_push_size _ rfl,rfl,rfl⟩,pl.isList.push _⟩
 ·intro i v s' Q' E' hv hq
  have hv':its[i]?=some v:=by simpa using hv
  have hi:i < bs.length:=by
   rw [← hl]
   exact (List.getElem?_eq_some_iff.mp hv').1
  obtain ⟨u,hu,ru⟩:=rv.get (i:=i) (x:=V.bl bs[i]) (by rw [List.getElem?_map,List.getElem?_eq_getElem hi]; rfl)
  rw [hu] at hv'
  cases hv'
  cases ru
  have e:bs.getD i true=bs[i]:=by rw [List.getD_eq_getElem?_getD,List.getElem?_eq_getElem hi]; rfl
  have hq':Q' (bs.getD i true) s':=hq
  rw [e] at hq'
  exact wpAny_truthy_bool hq'
 ·intro h' tk hk
  have e:(List.range its.toArray.size).all (fun i=>bs.getD i true)=bs.all id:=by
   rw [← qV bs,List.size_toArray,hl]
  rw [e]
  refine ⟨.bl (bs.all id),H,I.kept (t':=tk) fun b o z=>hk b o ?_ (Heap.get?_push_of_some _ z),rfl,q⟩
  intro z'
  have z'':b=s.heap.objs.size:=by simpa using z'
  exact Nat.ne_of_lt (Heap.lt_size z) z''
theorem uY:CallR X (.builtin "isinstance") (fun xs H Q=>∃ x t n b,xs=[x,.ty n]∧TyOf X.K H x t∧PySem.W.kitOne X.K t (.type n)=some b∧Q (.bl b) H):=by
 intro pins s σ H xs us Q I r h
 obtain ⟨x,t,n,b,rfl,ty,e,q⟩:=h
 obtain ⟨u,w',rfl,r1,r2⟩:=na r
 cases r2
 exact so I r1 ty e fun tk=>⟨.bl b,H,I.tok _,rfl,q⟩
end
section
open PySem.SeqAt
variable {X:Cx} {pins:List (Addr × Obj)} {σ:St} {H:Hp} {s:Shared}
end
section
variable {X:Cx}
theorem Inv.turnedLaid {pins:List (Addr × Obj)} {σ:St} {H:Hp} {s:Shared} {h':Heap} {t':Nat} {fp:List Addr} {p:Addr} {o:HO} (I:Inv X pins σ H s) (f:∀ b∈fp,fH X pins H b) (hp:s.heap.objs.size≤p)
  (k:∀ b ob,b ∉ fp→s.heap.get? b=some ob→h'.get? b=some ob) (th:∀ b∈fp,∃ ob,h'.get? b=some ob) (new:ObjOk X.prog X.w (upd H p o) h' p o):Inv X pins σ (upd H p o) { s with heap:=h',toks:=t' }:=by
 have hn:H p=none:=I.hok.fresh hp
 have ne:∀ b ob,s.heap.get? b=some ob→b≠p:=fun b ob e=>Nat.ne_of_lt (Nat.lt_of_lt_of_le (Heap.lt_size e) hp)
 have nf:∀ b u,H b=some u→b ∉ fp:=fun b u e z=>by rw [(f b z).1] at e; cases e
 refine I.step (g':=s.gens) (d':=s.drawn) (ch:=fp) (fun b hb=>⟨(f b hb).2.2.2.1,(f b hb).2.1,(f b hb).2.2.2.2.1,(f b hb).2.2.2.2.2⟩) (fun b ob _ _ hc e _=>k b ob hc e) (fun b ob _ _ hc e _=>⟨ob.slots,k b ob hc e⟩)
  (fun b ob _ e n=>by rw [aK (ne b ob e)]; exact n) (fun b ob hc e=>⟨ob,k b ob hc e⟩) (fun b xs e=>by rw [aK (bF e hn)]; exact e) (fun b ob u e=>by rw [aK (bF e hn)]; exact e)
  (fun b ps e=>⟨#[],by rw [aK (bF e hn),e]; simp⟩) (fun m hm=>?_) (fun b u e=>?_) I.bare
 ·obtain ⟨ob,es,ep,ho,r⟩:=hm
  exact ⟨ob,es,ep,k _ ob (fun z=>(f _ z).2.1 rfl) ho,r⟩
 ·by_cases hb:b=p
  ·subst hb
   rw [aG] at e
   cases e
   exact new
  ·rw [aK hb] at e
   refine (I.hok b u e).stay (fun c v hc q=>k c v ?_ q) (fun c q=>by rw [aK (bF q hn)]; exact q) fun c xs q=>by rw [aK (bF q hn)]; exact q
   rcases hc with z | z
   ·rw [z]; exact nf b u e
   ·exact nf c _ z
end
end L2
namespace L2
open PySem PySem.Spec PyProof.Rows
def Kn (P:Program) (w:World) (K:PySem.W.Frag) (mg:Str→Option Value) (base:Heap) (k:Nat) (x:Str) (ps:List Str) (sp:Sp):Prop :=
 ∃ f fd,FnOk P w K mg base CX0 k f fd ps sp∧mg x=some (.ref f)∧PySem.W.keepIn K (.ref f)=true∧Binds K fd ps []
theorem Kn.mono {P:Program} {w:World} {K:PySem.W.Frag} {mg:Str→Option Value} {base:Heap} {j k:Nat} {x:Str} {ps:List Str} {sp:Sp} (G:Kn P w K mg base j x ps sp) (h:j≤k):Kn P w K mg base k x ps sp :=
 let ⟨f,fd,a,b,c,d⟩:=G
 ⟨f,fd,a.mono h,b,c,d⟩
section
variable {X:Cx} {k:Nat} {x:Str} {ps:List Str} {sp:Sp} {p pos:Pos} {e:Expr} {es:List Expr} {t:TA}
theorem Ap (G:Kn X.prog X.w X.K X.mg X.base k x ps sp) (hr:Room k X.A) (hg:Gl X x) (ha:PA X (e :: es) t) (hdb:(x == ("__debug__" : Str))=false:=by decide)
  (he:starEach (e :: es) X.env=(false,eval e X.env) :: starEach es X.env:=by rfl) (hpl:(backTo pos (starEach es X.env)).any (·.1)=false:=by rfl) :
  PE X (.Call (.Name x p) (e :: es) [] pos) (p0 sp [] E0 t):=by
 obtain ⟨f,fd,F,hm,hk,hb⟩:=G
 exact Bb F hr hg hm hk hb .nil GI ha hdb he hpl
end
def Hr (K:PySem.W.Frag):List V→Hp→VK→Prop:=fun xs H Q=>∃ x n,xs=[x]∧Gr K x H n∧Q (.int n) H
def AR (K:PySem.W.Frag):List V→Hp→VK→Prop:=fun xs H Q=>∃ p ys,xs=[.ref p]∧(SqL K H p ys∨SqT K H p ys)∧∀ l,H l=none→Q (.ref l) (upd H l (.lst ys))
def Ep (K:PySem.W.Frag):List V→Hp→VK→Prop:=fun xs H Q=>∃ p ys,xs=[.ref p]∧((SqL K H p ys∧∀ l,H l=none→Q (.ref l) (upd H l (.tup ys)))∨(SqT K H p ys∧Q (.ref p) H))
def Ht (K:PySem.W.Frag):List V→Hp→VK→Prop:=fun xs H Q=>∃ (p:Addr) (bs:List Bool),xs=[.ref p]∧SqL K H p (bs.map V.bl)∧Q (.bl (bs.all id)) H
section
variable {X:Cx} {K:PySem.W.Frag}
theorem HB (hK:X.K=K):CallR X (.builtin "len") (Hr K):=by subst hK; exact uX
theorem Bn (hK:X.K=K):CallR X (.type "list") (AR K):=by subst hK; exact oD
theorem EW (hK:X.K=K):CallR X (.type "tuple") (Ep K):=by subst hK; exact m7
theorem HE (hK:X.K=K) (hc:X.calm=true):CallR X (.builtin "all") (Ht K):=by subst hK; exact uZ hc
theorem HC (hK:X.K=K):IxR X (p9 K):=by subst hK; exact ix_list
theorem HA (hK:X.K=K):SlR X (Es K):=by subst hK; exact AO
theorem Hz (hK:X.K=K):SlR X (Er K):=by subst hK; exact Ek
variable {tg l:Expr} {tl:TE} {es:List Expr} {t:TGs} {n k:Nat} {pos p p2 cpos apos:Pos}
end
end L2
namespace L2
open PySem PySem.Spec PyProof.Rows
def sgn (c:Nat):V:=.str ⟨#[c]⟩
def Its (z:Str):It:=⟨fun i _=>i < z.cps.size,fun i H x H'=>H'=H∧∃ c,z.cps[i]?=some c∧x=sgn c,fun i _=>z.cps.size≤i⟩
theorem tI {P:Program} {w:World} {K:PySem.W.Frag} {tg:Expr} (it:Addr) (z:Str) (t:Tok) (ty:String) (hty:ty="str_ascii_iterator"∨ty="str_iterator") :
  Turn P w K tg (Its z) [it] it (fun i h=>h.IsStrIter it ty z t i) where
 mem:=by simp
 obj:=fun i h st b hb=>by
  have e:b=it:=by simpa using hb
  subst e
  obtain ⟨o,e,c,d⟩:=st
  exact ⟨o,e,fun v q=>by rw [d] at q; cases q⟩
 keep:=fun i h h' st k=>let ⟨o,e,r⟩:=st; ⟨o,k it (by simp) o e,r⟩
 item:=by
  intro X hP hw hK hc i pins s σ H E I hf st hg
  subst hP hw hK
  obtain ⟨f0,f1,f2,f3,f4,f5⟩:=hf it (by simp)
  have W:Walks X.prog X.w X.A it [it] [it] z.cps.size (SignAt z) (fun i h=>h.IsStrIter it ty z t i):=by
   rcases hty with rfl | rfl
   ·exact Walks.strAscii (I.ok.hd hc) it z t
   ·exact Walks.strWide (I.ok.hd hc) it z t
  refine W.item i s _ _ hg st fun v h' tk hv st' kk=>?_
  obtain ⟨c,u,hcv,rfl⟩:=hv
  have I1:Inv X pins σ H { s with heap:=h',toks:=tk }:=I.turned (fun b o hb e=>kk b o (by simpa using hb) e) f0 f1 f3 f4 f5
  obtain ⟨o,e,ec,ed⟩:=id st'
  refine ⟨_,rfl,nj (s:={ s with heap:=h',toks:=tk }) (n:=ty) e ec ed (by rcases hty with rfl | rfl <;> decide) ⟨sgn c,H,I1,⟨u,rfl⟩,⟨rfl,c,hcv,rfl⟩,st',fun b hb=>(hf b hb).1⟩⟩
 done:=by
  intro X hP hw hK hc i pins s σ H E I hf st hg
  subst hP hw hK
  obtain ⟨f0,f1,f2,f3,f4,f5⟩:=hf it (by simp)
  have hle:z.cps.size≤i:=hg
  rcases hty with rfl | rfl
  ·exact wpAny_pyNext_ascii_end (I.ok.hd hc) st (by simpa using hle) fun h' he=>⟨rfl,I.turned (t':=s.toks) (fun b o hb e=>he b o hb e) f0 f1 f3 f4 f5⟩
  ·exact wpAny_pyNext_wide_end (I.ok.hd hc) st (by simpa using hle) fun h' he=>⟨rfl,I.turned (t':=s.toks) (fun b o hb e=>he b o hb e) f0 f1 f3 f4 f5⟩
 self:=fun A i s Q E st h=>by
  rcases hty with rfl | rfl
  ·exact wpAny_pyIter_striter_ascii st h
  ·exact wpAny_pyIter_striter_wide st h
section
variable {X:Cx} {tg:Expr} {K:PySem.W.Frag}
def cL (z:Str):List V:=z.cps.toList.map sgn
theorem j7:∀ {xs:List V} {us:List Value},xs.length=us.length→(∀ (i:Nat) x u,xs[i]?=some x→us[i]?=some u→RelV x u)→Vals xs us
 | [],[],_,_=>.nil
 | [],_ :: _,h,_=>by cases h
 | _ :: _,[],h,_=>by cases h
 | x :: xs,u :: us,h,f=>.cons (f 0 x u rfl rfl) (j7 (Nat.succ.inj h) fun i y v a b=>f (i+1) y v (by simpa using a) (by simpa using b))
theorem mh (hc:X.calm=true):CallR X (.type "list") (fun xs H Q=>∃ z,xs=[.str z]∧z.cps.size≤sizeLine∧∀ l,H l=none→Q (.ref l) (upd H l (.lst (cL z)))):=by
 intro pins s σ H xs us Q I r h
 obtain ⟨z,rfl,hz,q⟩:=h
 obtain ⟨u,rfl,t,rfl⟩:=bU r
 refine call_list_str (I.ok.hd hc) z t (fun h' tk acc c' hk ho hi=>?_) hz
 have hl:(cL z).length=acc.toList.length:=by
  unfold cL
  rw [List.length_map,Array.length_toList,Array.length_toList,hi.1]
 have rv:Vals (cL z) acc.toList:=j7 hl fun i x v a b=>by
  obtain ⟨c,tk',hcv,rfl⟩:=hi.2 i v (by simpa using b)
  unfold cL at a
  rw [List.getElem?_map] at a
  have e:z.cps.toList[i]?=some c:=by simpa using hcv
  rw [e] at a
  cases a
  exact ⟨_,rfl⟩
 refine ⟨.ref s.heap.objs.size,_,I.laid (t':=tk) (o:=.lst (cL z)) hk (Nat.le_refl _) ⟨?_,acc.toList,c',rv,by simpa using ho⟩,rfl,q _ I.fresh⟩
 unfold cL
 rw [List.length_map,Array.length_toList]
 exact hz
theorem kO {ys:List Str}:∀ {us:List Value},Vals (ys.map V.str) us→StrsAre us ys:=by
 induction ys with
 | nil=>intro us r; cases r; exact .nil
 | cons y ys ih =>
  intro us r
  cases r with
  | cons r1 r2 =>
   obtain ⟨t,e⟩:=r1
   subst e
   exact .cons y t (ih r2)
def An (K:PySem.W.Frag):V→List V→Hp→VK→Prop:=fun x xs H Q=>∃ sep ys p,x=.str sep∧xs=[.ref p]∧(SqL K H p (ys.map V.str)∨SqT K H p (ys.map V.str))∧sep.length≤16∧(ys.map (·.length)).sum+ys.length≤1048576∧Q (.str (Txt.join sep ys)) H
theorem dJ (hK:X.K=K):MtR X "str.join" (An K):=by
 subst hK
 intro pins s σ H x xs v us Q I rx rs h
 obtain ⟨sep,ys,p,rfl,rfl,hp,hs,hw,q⟩:=h
 obtain ⟨t,rfl⟩:=rx
 obtain ⟨u,rfl,ru⟩:=bU rs
 cases ru
 rcases hp with hp | hp
 ·obtain ⟨its,rv,pl,_⟩:=I.list hp
  exact join_listW pl.isList (by simpa using kO rv) hs hw fun t' k=>⟨.str _,H,I.tok k,⟨_,rfl⟩,q⟩
 ·obtain ⟨its,rv,pl,_⟩:=I.tuple hp
  exact join_tupleW pl (by simpa using kO rv) hs hw fun t' k=>⟨.str _,H,I.tok k,⟨_,rfl⟩,q⟩
def HJ (xs:List Nat) (lo hi:Option Int):List Nat:=(xs.drop (HT.sIx xs.length 0 lo)).take (HT.sIx xs.length xs.length hi - HT.sIx xs.length 0 lo)
theorem rC (n d:Nat) (v:Option Int) (h:d≤n):HT.sIx n d v≤n:=by
 cases v with
 | none=>exact h
 | some i =>
  unfold HT.sIx
  dsimp only
  split <;> omega
end
end L2
namespace L2
open PySem PySem.Spec PyProof.Rows
section
variable {l l':List Addr} {H H':Hp} {a b:Addr} {o:HO}
end
section
variable {K:PySem.W.Frag}
end
end L2
namespace L2
open PySem PySem.Spec PyProof.Rows
section
variable {X:Cx} {tg:Expr} {K:PySem.W.Frag}
theorem Inv.turnedMany {pins:List (Addr × Obj)} {σ:St} {H:Hp} {s:Shared} {h':Heap} {t':Nat} {fp:List Addr} (I:Inv X pins σ H s) (f:∀ b∈fp,fH X pins H b)
  (k:∀ b ob,b ∉ fp→s.heap.get? b=some ob→h'.get? b=some ob):Inv X pins σ H { s with heap:=h',toks:=t' }:=by
 have nf:∀ b u,H b=some u→b ∉ fp:=fun b u e z=>by rw [(f b z).1] at e; cases e
 refine I.step (g':=s.gens) (d':=s.drawn) (ch:=fp) (fun b hb=>⟨(f b hb).2.2.2.1,(f b hb).2.1,(f b hb).2.2.2.2.1,(f b hb).2.2.2.2.2⟩) (fun b ob _ _ hc e _=>k b ob hc e) (fun b ob _ _ hc e _=>⟨ob.slots,k b ob hc e⟩)
  (fun _ _ _ _ n=>n) (fun b ob hc e=>⟨ob,k b ob hc e⟩) (fun _ _ e=>e) (fun _ _ _ e=>e) (fun b ps e=>⟨#[],by rw [e]; simp⟩) (fun m hm=>?_) (fun b u e=>?_) I.bare
 ·obtain ⟨ob,es,ep,ho,r⟩:=hm
  exact ⟨ob,es,ep,k _ ob (fun z=>(f _ z).2.1 rfl) ho,r⟩
 ·refine (I.hok b u e).stay (fun c v hc q=>k c v ?_ q) (fun _ q=>q) fun _ _ q=>q
  rcases hc with z | z
  ·rw [z]; exact nf b u e
  ·exact nf c _ z
end
section
variable {prog:Program} {w:World} {A:Around} {E:Value→Shared→Prop} {s:Shared}
end
section
variable {X:Cx} {tg:Expr} {K:PySem.W.Frag}
end
end L2
namespace L2
open PySem PySem.Spec PyProof.Rows
abbrev li (z:Str):List Nat:=z.cps.toList
def mk1 (c:Nat):Str:=⟨#[c]⟩
def ofL (l:List Nat):Str:=⟨l.toArray⟩
theorem rW (l:List Nat):li (ofL l)=l:=rfl
theorem rR (z:Str):ofL (li z)=z:=rfl
theorem EQ {a b:Str} (h:li a=li b):a=b:=by rw [← rR a,← rR b,h]
theorem nQ (z:Str):z.length=(li z).length:=rfl
theorem rY (a b:Str):li (a++b)=li a++li b:=by
 show (a.cps++b.cps).toList=_
 rw [Array.toList_append]
def emp:Str:=""
def cat (ks:List Str):Str:=Txt.join emp ks
def aM (ks:List Str):List Nat:=(ks.map li).flatten
theorem Gm (ks:List Str):li (cat ks)=aM ks:=by
 unfold cat Txt.join aM
 rw [StrLaws.glued_eq_join]
 induction ks with
 | nil=>rfl
 | cons x r ih =>
  cases r with
  | nil =>
   show li x=_
   simp
  | cons y r =>
   show li (x++emp++Str.join emp (y :: r))=_
   rw [rY,rY,ih]
   show li x++[]++_=li x++((y :: r).map li).flatten
   rw [List.append_nil]
theorem oE (cs:List Nat):aM (cs.map mk1)=cs:=by
 unfold aM
 rw [List.map_map]
 induction cs with
 | nil=>rfl
 | cons c r ih =>
  rw [List.map_cons,List.flatten_cons,ih]
  rfl
theorem mS (ks:List Str) (x:Str):aM (ks++[x])=aM ks++li x:=by
 unfold aM
 rw [List.map_append,List.flatten_append]
 simp
theorem oF (ks:List Str):(ks.map (·.length)).sum=(aM ks).length:=by
 unfold aM
 rw [List.length_flatten,List.map_map]
 rfl
def Sub (x z:List Nat):Prop:=∀ c∈x,c∈z
theorem gL {α β:Type} (f:α→β):∀ (ys:List α) (k:Nat),(ys.map f).eraseIdx k=(ys.eraseIdx k).map f
 | [],_=>rfl
 | _ :: _,0=>rfl
 | y :: ys,k+1=>by
  show f y :: (ys.map f).eraseIdx k=f y :: (ys.eraseIdx k).map f
  rw [gL f ys k]
theorem Em {n:Nat} {i:Int} (h0:0≤i) (h1:i < (n:Int)):seqIndex? i n=some i.toNat:=PySem.seqIndex_of h0 h1
end L2
namespace L2
open PySem PySem.Spec PyProof.Rows
section
variable {prog:Program} {w:World} {A:Around} {E:Value→Shared→Prop} {s:Shared}
structure ZApart (z TI TO i1 i2:Addr):Prop where
 TIz:TI≠z
 TOz:TO≠z
 i1z:i1≠z
 i2z:i2≠z
 TITO:TI≠TO
 TIi1:TI≠i1
 TIi2:TI≠i2
 TOi1:TO≠i1
 TOi2:TO≠i2
 i12:i1≠i2
end
section
variable {prog:Program} {w:World} {A:Around} {E:Value→Shared→Prop} {s:Shared}
end
theorem pT (n:Nat):ZApart (n+4) (n+2) (n+3) n (n+1):=⟨(by show (n+2:Nat)≠(n+4:Nat); omega),(by show (n+3:Nat)≠(n+4:Nat); omega),(by show (n:Nat)≠(n+4:Nat); omega),(by show (n+1:Nat)≠(n+4:Nat); omega),(by show (n+2:Nat)≠(n+3:Nat); omega),(by show (n+2:Nat)≠(n:Nat); omega),(by show (n+2:Nat)≠(n+1:Nat); omega),(by show (n+3:Nat)≠(n:Nat); omega),(by show (n+3:Nat)≠(n+1:Nat); omega),(by show (n:Nat)≠(n+1:Nat); omega)⟩
section
variable {X:Cx} {K:PySem.W.Frag}
def pi:V→List V→Hp→VK→Prop:=fun x xs H Q=>∃ z y,x=.str z∧xs=[.str y]∧Q (.bl (Txt.startswith z y)) H
theorem gB:MtR X "str.startswith" pi:=by
 intro pins s σ H x xs v us Q I rx rs h
 obtain ⟨z,y,rfl,rfl,q⟩:=h
 obtain ⟨t,rfl⟩:=rx
 obtain ⟨u,rfl,ru⟩:=bU rs
 obtain ⟨t2,rfl⟩:=ru
 exact SC.startswith ⟨.bl _,H,I,rfl,q⟩
def df (z y:Str):Bool:=!(Builtin.Str.occurrences z y 0 z.length 1).isEmpty
def Hs (neg:Bool):R2:=fun x y H Q=>∃ a b,x=.str a∧y=.str b∧Q (.bl (if neg then !df b a else df b a)) H
theorem op_inS:OpR X (compareOp .In) (Hs false):=by
 intro pins s σ H x y v u Q I rx ry h
 obtain ⟨a,b,rfl,rfl,q⟩:=h
 obtain ⟨t,rfl⟩:=rx
 obtain ⟨t2,rfl⟩:=ry
 exact PySem.P.in_str ⟨.bl _,H,I,rfl,q⟩
end
section
open PySem.SeqAt
end
end L2
namespace L2
open PySem PySem.Spec PyProof.Rows
theorem du:∀ (names:List (Str × NameKind)) (n:Nat) (acc:List (Str × Addr)),cellsFrom n names acc=cellsFrom n names []++acc
 | [],_,_=>rfl
 | (x,k) :: r,n,acc=>by
  unfold cellsFrom
  split
  ·rw [du r (n+1) ((x,n) :: acc),du r (n+1) [(x,n)],List.append_assoc]
   rfl
  ·exact du r n acc
theorem fA:∀ (names:List (Str × NameKind)) (n:Nat) (acc:List (Str × Addr)) {x:Str} {c:Addr},(x,c)∈cellsFrom n names acc→(x,c)∈acc∨(x,NameKind.cell)∈names
 | [],_,_,_,_,h=>.inl h
 | (y,k) :: r,n,acc,x,c,h=>by
  unfold cellsFrom at h
  split at h
  ·rename_i hk
   rcases fA r _ _ h with h | h
   ·rcases List.mem_cons.mp h with e | e
    ·have hk':k=.cell:=by simpa using hk
     have e':=(Prod.mk.inj e).1
     rw [e',← hk']
     exact .inr List.mem_cons_self
    ·exact .inl e
   ·exact .inr (List.mem_cons_of_mem _ h)
  ·rcases fA r _ _ h with h | h
   ·exact .inl h
   ·exact .inr (List.mem_cons_of_mem _ h)
theorem eJ:∀ (names:List (Str × NameKind)) (n:Nat) (acc:List (Str × Addr)) {p:Str × Addr},p∈acc→p∈cellsFrom n names acc
 | [],_,_,_,h=>h
 | (y,k) :: r,n,acc,p,h=>by
  unfold cellsFrom
  split
  ·exact eJ r _ _ (List.mem_cons_of_mem _ h)
  ·exact eJ r _ _ h
theorem fB:∀ (names:List (Str × NameKind)) (n:Nat) (acc:List (Str × Addr)) {x:Str},(x,NameKind.cell)∈names→∃ c,(x,c)∈cellsFrom n names acc
 | [],_,_,_,h=>by simp at h
 | (y,k) :: r,n,acc,x,h=>by
  unfold cellsFrom
  rcases List.mem_cons.mp h with e | e
  ·cases e
   rw [if_pos (by rfl)]
   exact ⟨n,eJ r _ _ List.mem_cons_self⟩
  ·split
   ·exact fB r _ _ e
   ·exact fB r _ _ e
theorem nO {α:Type}:∀ {a b:List (Str × α)} {x:Str} {c:α},(a++b).lookup x=some c→a.lookup x=some c∨(a.lookup x=none∧b.lookup x=some c)
 | [],_,_,_,h=>.inr ⟨rfl,h⟩
 | (n,v) :: r,b,x,c,h=>by
  rw [List.cons_append,List.lookup_cons] at h
  rw [List.lookup_cons]
  cases e:x == n with
  | true=>rw [e] at h; exact .inl h
  | false=>rw [e] at h; exact nO h
theorem jl {α:Type}:∀ {a b:List (Str × α)} {x:Str} {c:α},a.lookup x=some c→(a++b).lookup x=some c
 | [],_,_,_,h=>by simp at h
 | (n,v) :: r,b,x,c,h=>by
  rw [List.cons_append,List.lookup_cons]
  rw [List.lookup_cons] at h
  cases e:x == n with
  | true=>rw [e] at h; exact h
  | false=>rw [e] at h; exact jl h
theorem iC {α:Type}:∀ {a b:List (Str × α)} {x:Str} {c:α},a.lookup x=none→b.lookup x=some c→(a++b).lookup x=some c
 | [],_,_,_,_,h=>h
 | (n,v) :: r,b,x,c,hn,h=>by
  rw [List.cons_append,List.lookup_cons]
  rw [List.lookup_cons] at hn
  cases e:x == n with
  | true=>rw [e] at hn; cases hn
  | false=>rw [e] at hn; exact iC hn h
abbrev aD (X:Cx) (scope:Scope) (ns:List Str) (C:Addr) (cl:List (Str × Addr)) (s₀:Shared) (H₀:Hp) (fp:List Addr):Cx :=
 { X with N:=ns,s₀:=s₀,H₀:=H₀,env:=compEnvC scope cl C X.env,outer:=X.stack,ex:=fp,fn:=fun x=>scope.names.lookup x == some NameKind.cell,pn:=[],xe:=fun _ _=>False }
structure BlkOkC (X:Cx) (scope:Scope) (ns:List Str) (js:List (Option Nat)):Prop where
 kind:scope.kind=.function
 uniq:∀ y∈scope.names,y.2=.cell→scope.names.lookup y.1=some .cell
 names:∀ y∈scope.names,y.2=.local→scope.names.lookup y.1=some .local
 free:∀ y∈scope.names,y.2=.free→X.env.kindOf y.1=some .cell∨X.env.kindOf y.1=some .free
 nd:ns.Nodup
 len:js.length=ns.length
 out:∀ (i:Nat) (x:Str) (j:Nat),ns[i]?=some x→js[i]?=some (some j)→X.N[j]?=some x∧scope.names.lookup x=some .free
def pQ (N:List Str) (sc scope:Scope) (ns:List Str) (js:List (Option Nat)):Bool :=
 decide (scope.kind=.function) && scope.names.all (fun y=>decide (y.2=.cell→scope.names.lookup y.1=some .cell)) && scope.names.all (fun y=>decide (y.2=.local→scope.names.lookup y.1=some .local)) &&
 scope.names.all (fun y=>decide (y.2=.free→sc.names.lookup y.1=some .cell∨sc.names.lookup y.1=some .free)) && decide ns.Nodup && decide (js.length=ns.length) &&
 (List.range ns.length).all (fun i=>match js[i]?,ns[i]? with
  | some (some j),some x=>decide (N[j]?=some x) && decide (scope.names.lookup x=some .free)
  | _,_=>true)
theorem Ci {N:List Str} {scope:Scope} {ns:List Str} {js:List (Option Nat)} (h7:∀ i < ns.length,(match js[i]?,ns[i]? with
  | some (some j),some x=>decide (N[j]?=some x) && decide (scope.names.lookup x=some .free)
  | _,_=>true)=true) {i:Nat} {x:Str} {j:Nat} (e1:ns[i]?=some x) (e2:js[i]?=some (some j)):N[j]?=some x∧scope.names.lookup x=some .free:=by
 have q:=h7 i (List.getElem?_eq_some_iff.mp e1).1
 rw [e1,e2] at q
 simpa using q
theorem BlkOkC.of {X:Cx} {scope:Scope} {ns:List Str} {js:List (Option Nat)} {N0:List Str} {sc0:Scope} (hN:X.N=N0) (hS:X.env.scope=sc0) (h:pQ N0 sc0 scope ns js=true):BlkOkC X scope ns js:=by
 unfold pQ at h
 simp only [Bool.and_eq_true,List.all_eq_true,decide_eq_true_eq,List.mem_range] at h
 obtain ⟨⟨⟨⟨⟨⟨h1,h2⟩,h3⟩,h4⟩,h5⟩,h6⟩,h7⟩:=h
 refine ⟨h1,fun y hy=>h2 y hy,fun y hy=>h3 y hy,fun y hy hk=>?_,h5,h6,fun i x j e1 e2=>?_⟩
 ·have q:=h4 y hy hk
  rw [← hS] at q
  exact q
 ·rw [hN]
  exact Ci h7 e1 e2
section
variable {M:Model} {A:Around} {E:Value→Shared→Prop} {s:Shared}
theorem gt {scope:Scope} {globals:Addr} {closure:List (Str × Addr)} {qual:Str} {outer:Env} {builtins:Addr} {Q:Env→Shared→Prop}
  (hQ:Q (newEnv scope s.heap.objs.size globals (cellsFrom (s.heap.objs.size+1) scope.names closure) qual none .none (some outer) builtins) { s with heap:=pushCells (s.heap.push { cls:=.type "dict",data:=.dict #[] }) scope.names }) :
  wpAny M A (newFunctionEnv scope globals closure [] qual none .none (some outer) builtins) Q E s:=by
 simp only [newFunctionEnv,Option.isSome_some,if_true]
 refine wpAny_bind (wpAny_alloc ?_)
 refine wpAny_bind (wpAny_layCells _ (fun name kind cells=>by cases hkc:kind == NameKind.cell <;> simp [hkc]) _ _ _ _ ?_)
 rw [show ({ s with heap:=s.heap.push { cls:=.type "dict",data:=.dict #[] } }:Shared).heap.objs.size=s.heap.objs.size+1 from Heap.size_push ..]
 rw [List.forIn_nil]
 exact wpAny_bind (wpAny_pure (wpAny_pure hQ))
end
section
variable {X:Cx} {elt tg iter:Expr} {ifs:List Expr} {scope:Scope} {pos:Pos} {ns:List Str} {js:List (Option Nat)} {wi:TI} {g:TG} {tt:TT} {te:TE}
theorem u0 {pins:List (Addr × Obj)} {s3:Shared} {σ:St} {H3:Hp} {fp:List Addr} {h₁:Heap} {tk:Nat} (B:BlkOkC X scope ns js) (I3:Inv X pins σ H3 s3)
  (f3:∀ b∈fp,fH X pins H3 b) (lt3:∀ b∈fp,b < s3.heap.objs.size) (hns:h₁.Ns s3.heap.objs.size (fun _=>none)) (old:∀ b u,s3.heap.get? b=some u→h₁.get? b=some u)
  (cok:CellsOk h₁ (s3.heap.objs.size+1) (cellsFrom (s3.heap.objs.size+1) scope.names [])) :
  Inv (aD X scope ns s3.heap.objs.size (cellsFrom (s3.heap.objs.size+1) scope.names (cG X.env scope.names)) s3 H3 fp) [] (dw js σ) H3 { s3 with heap:=h₁,toks:=tk }:=by
 rw [du]
 have hmem:∀ {x:Str} {c:Addr},(x,c)∈cellsFrom (s3.heap.objs.size+1) scope.names []→scope.names.lookup x=some .cell:=fun {x c} h=>by
  rcases fA _ _ _ h with h | h
  ·simp at h
  ·exact B.uniq _ h rfl
 have hhas:∀ {x:Str},scope.names.lookup x=some .cell→∃ c,(cellsFrom (s3.heap.objs.size+1) scope.names []).lookup x=some c:=fun {x} h=>by
  obtain ⟨c,hc⟩:=fB scope.names (s3.heap.objs.size+1) [] (PySem.mem_of_lookup h)
  exact fw hc
 generalize cellsFrom (s3.heap.objs.size+1) scope.names []=CS at cok hmem hhas
 have has:∀ y∈scope.names,y.2=.free→∃ c,X.env.cells.lookup y.1=some c:=fun y hy hk=>I3.ok.has y.1 (B.free y hy hk)
 have look:∀ {n:Str} {c:Addr},(CS++cG X.env scope.names).lookup n=some c→(CS.lookup n=some c∧h₁.IsCell c none∧s3.heap.objs.size+1≤c)∨(CS.lookup n=none∧X.env.cells.lookup n=some c∧c < s3.heap.objs.size):=fun {n c} e=>by
  rcases nO e with e | ⟨e1,e2⟩
  ·exact .inl ⟨e,cok.empty n c (PySem.mem_of_lookup e)⟩
  ·have e3:=mM has e2
   obtain ⟨v,hv⟩:=I3.cell n c e3
   exact .inr ⟨e1,e3,hv.lt⟩
 refine ⟨⟨I3.ok.mod,B.kind,I3.ok.glob,I3.ok.blt,Nat.le_refl _,fun y z c h1 h2=>?_,fun y hy=>?_,fun y c hf h=>?_,I3.ok.hd,I3.ok.frames,.inl rfl,fun b hb=>?_,I3.bs,Nat.le_trans I3.ok.bsz I3.sz,
   fun b o e hb=>?_,fun b hb z=>?_,I3.stack,I3.stkFree⟩,
  rfl,I3.bare,Un.kept old,⟨_,hns,fun i x v h1 h2 h3=>?_⟩,fun y c h=>?_,I3.fresh,fun y c h=>?_,fun p hp=>absurd (show p∈([]:List (Addr × Obj)) from hp) (by simp),I3.hok.kept old,?_⟩
 ·rcases look h1 with ⟨a1,_,a3⟩ | ⟨_,a2,a3⟩ <;> rcases look h2 with ⟨b1,_,b3⟩ | ⟨_,b2,b3⟩
  ·exact name_of_addr cok.apart (PySem.mem_of_lookup a1) (PySem.mem_of_lookup b1)
  ·exact absurd (Nat.lt_of_lt_of_le (Nat.lt_of_lt_of_le b3 (Nat.le_succ _)) a3) (Nat.lt_irrefl _)
  ·exact absurd (Nat.lt_of_lt_of_le (Nat.lt_of_lt_of_le a3 (Nat.le_succ _)) b3) (Nat.lt_irrefl _)
  ·exact I3.ok.inj y z c a2 b2
 ·have hf:scope.names.lookup y=some .cell∨scope.names.lookup y=some .free:=by
   rcases hy with hy | hy
   ·rcases iw (env:=X.env) hy with q | q
    ·exact .inl q
    ·exact .inr q.1
   ·rcases iw (env:=X.env) hy with q | q
    ·exact .inr q
    ·exact .inr q.1
  show ∃ c,(CS++cG X.env scope.names).lookup y=some c
  rcases hf with hf | hf
  ·obtain ⟨c,hc⟩:=hhas hf
   exact ⟨c,jl hc⟩
  ·obtain ⟨c,hc⟩:=oA (env:=X.env) (PySem.mem_of_lookup hf)
   cases e:CS.lookup y with
   | none=>exact ⟨c,iC e hc⟩
   | some d=>exact ⟨d,jl e⟩
 ·rcases look h with ⟨_,_,a3⟩ | ⟨a1,_,_⟩
  ·show s3.heap.objs.size≤c
   omega
  ·have hf':(scope.names.lookup y == some NameKind.cell)=true:=hf
   obtain ⟨d,hd⟩:=hhas (by simpa using hf')
   rw [a1] at hd
   cases hd
 ·refine ⟨Nat.ne_of_lt (lt3 b hb),fun x c e=>?_⟩
  rcases look e with ⟨_,_,a3⟩ | ⟨_,a2,_⟩
  ·have:=lt3 b hb
   intro z
   subst z
   exact Nat.lt_irrefl _ (Nat.lt_of_lt_of_le (Nat.lt_of_lt_of_le this (Nat.le_succ _)) a3)
  ·exact (f3 b hb).2.2.2.2.1 x c a2
 ·rcases (f3 b hb).2.2.2.1 with z | z
  ·exact I3.ok.noex b o e z
  ·exact absurd (Nat.lt_of_lt_of_le (Nat.lt_of_lt_of_le (Heap.lt_size e) I3.ok.bsz) z) (Nat.lt_irrefl _)
 ·rcases List.mem_cons.mp (I3.stkSub b z) with q | q
  ·exact (f3 b hb).2.1 q
  ·exact (f3 b hb).2.2.1 q
 ·have h2':(js.map fun j=>match j with | some j=>(σ[j]?).join | none=>none)[i]?=some (some v):=h2
  rw [List.getElem?_map] at h2'
  obtain ⟨j,hj,hσ⟩:∃ j,js[i]?=some (some j)∧σ[j]?=some (some v):=by
   cases e:js[i]? with
   | none=>rw [e] at h2'; simp at h2'
   | some oj =>
    rw [e] at h2'
    cases oj with
    | none=>simp at h2'
    | some j =>
     refine ⟨j,rfl,?_⟩
     have q:(σ[j]?).join=some v:=by simpa using h2'
     cases e2:σ[j]? with
     | none=>rw [e2] at q; simp at q
     | some ov =>
      rw [e2] at q
      simp at q
      rw [q]
  obtain ⟨hN,hfr⟩:=B.out i x j h1 hj
  have hf:=B.free (x,.free) (PySem.mem_of_lookup hfr) rfl
  have hf':X.env.kindOf x=some .cell∨X.env.kindOf x=some .free:=hf
  obtain ⟨m,hn,hl⟩:=I3.loc
  obtain ⟨u,r,l⟩:=hl j x v hN hσ (by
   rcases hf' with z | z
   ·exact .inr (.inl z)
   ·exact .inr (.inr z))
  refine ⟨u,r,?_⟩
  rcases l with ⟨hk,_⟩ | ⟨hk,c,hc,hcell⟩
  ·rcases hf' with z | z
   ·rw [z] at hk; cases hk
   ·rw [z] at hk; cases hk
  ·obtain ⟨c',hc'⟩:=oA (env:=X.env) (PySem.mem_of_lookup hfr)
   have e':=mM has hc'
   rw [hc] at e'
   cases e'
   obtain ⟨o,ho,hd⟩:=hcell
   have hno:CS.lookup x=none:=by
    cases e:CS.lookup x with
    | none=>rfl
    | some d =>
     have q:=hmem (PySem.mem_of_lookup e)
     rw [hfr] at q
     cases q
   exact .inr ⟨kT (env:=X.env) hfr,c,iC hno hc',⟨o,old c o ho,hd⟩⟩
 ·rcases look h with ⟨_,a2,_⟩ | ⟨_,a2,_⟩
  ·exact ⟨_,a2⟩
  ·obtain ⟨v,o,ho,hd⟩:=I3.cell y c a2
   exact ⟨v,o,old c o ho,hd⟩
 ·rcases look h with ⟨_,_,a3⟩ | ⟨_,a2,_⟩
  ·exact I3.hok.fresh (by omega)
  ·exact I3.freeC y c a2
 ·show (js.map _).length=ns.length
  rw [List.length_map]
  exact B.len
theorem nR {pins:List (Addr × Obj)} {s2:Shared} {σ:St} {H2:Hp} {Qv:VK} {J:It} {fp:List Addr} {it:Addr} {tn:Nat→Heap→Prop} {RR:Value→Addr→Result→Shared→Prop}
  (B:BlkOkC X scope ns js) (hc:X.calm=true) (I2:Inv X pins σ H2 s2) (T:Turn X.prog X.w X.K tg J fp it tn) (st2:tn 0 s2.heap) (f2:∀ b∈fp,fH X pins H2 b)
  (hg:∀ C cl s₀ H₀ fp,PG (aD X scope ns C cl s₀ H₀ fp) tg g) (ht:∀ C cl s₀ H₀ fp,PTs (aD X scope ns C cl s₀ H₀ fp) ifs tt) (he:∀ C cl s₀ H₀ fp,PE (aD X scope ns C cl s₀ H₀ fp) elt te)
  (hw:∀ D,H2 D=none→Ar J g tt te (dw js σ) H2 D Qv)
  (hRR:∀ D C s' H',Inv X pins σ H' s'→Qv (.ref D) H'→(∃ m,s'.heap.Ns C m)→H' C=none→C≠X.env.locals→X.s₀.heap.objs.size≤C→(∀ x c,X.env.cells.lookup x=some c→c≠C)→(∀ p∈X.pn++pins,p.1≠C)→RR (.ref D) C (.ok .next) s') :
  wpAny (model X.prog X.w) X.A (newList []) (fun acc s₃=>wpAny (model X.prog X.w) X.A (newFunctionEnv scope X.env.globals (cG X.env scope.names) [] X.env.qual none .none (some X.env)) (fun cenv s₄ =>
   codeAny (model X.prog X.w) X.A (.compStart (.ListComp elt [⟨tg,iter,ifs,0⟩] scope pos) 0 (.ref it) acc { cenv with scope:=relabel scope X.env }) (RR acc cenv.locals) s₄) X.xe s₃) X.xe s2:=by
 refine wpAny_newObj_type (gt ?_)
 dsimp only
 have I3:Inv X pins σ (upd H2 s2.heap.objs.size (.lst [])) { s2 with heap:=s2.heap.push { cls:=.type "list",data:=.seq ([]:List Value).toArray },toks:=s2.toks }:=I2.lnew .nil (Nat.zero_le _)
 generalize hs3:({ s2 with heap:=s2.heap.push { cls:=.type "list",data:=.seq ([]:List Value).toArray },toks:=s2.toks }:Shared)=s3 at I3
 have e3:s3.heap=s2.heap.push { cls:=.type "list",data:=.seq ([]:List Value).toArray }:=by rw [← hs3]
 have k3:∀ b u,s2.heap.get? b=some u→s3.heap.get? b=some u:=fun b u e=>by rw [e3]; exact Heap.get?_push_of_some _ e
 have sz3:s3.heap.objs.size=s2.heap.objs.size+1:=by rw [e3,Heap.size_push]
 have hD:H2 s2.heap.objs.size=none:=I2.fresh
 obtain ⟨h₁,hh₁⟩:∃ h₁,h₁=pushCells (s3.heap.push { cls:=.type "dict",data:=.dict #[] }) scope.names:=⟨_,rfl⟩
 have old:∀ b u,s3.heap.get? b=some u→h₁.get? b=some u:=fun b u e=>by
  rw [hh₁]
  exact pushCells_keeps _ _ b u (Heap.get?_push_of_some _ e)
 have hns:h₁.Ns s3.heap.objs.size (fun _=>none):=by
  rw [hh₁]
  exact (Heap.Ns.new s3.heap (.type "dict")).keeps (pushCells_keeps _ _)
 have cok:CellsOk h₁ (s3.heap.objs.size+1) (cellsFrom (s3.heap.objs.size+1) scope.names []):=by
  have q:=cellsFrom_ok scope.names (s3.heap.push { cls:=.type "dict",data:=.dict #[] }) (s3.heap.objs.size+1) [] ⟨fun _ _ hm=>(nomatch hm),List.Pairwise.nil⟩ (by rw [Heap.size_push]; exact Nat.le_refl _)
  rw [Heap.size_push,← hh₁] at q
  exact q
 have obj2:∀ b∈fp,b < s2.heap.objs.size:=fun b hb=>let ⟨o,e,_⟩:=T.obj 0 _ st2 b hb; Heap.lt_size e
 have f3:∀ b∈fp,fH X pins (upd H2 s2.heap.objs.size (.lst [])) b:=fun b hb=>⟨by rw [aK (Nat.ne_of_lt (obj2 b hb))]; exact (f2 b hb).1,(f2 b hb).2⟩
 have lt3:∀ b∈fp,b < s3.heap.objs.size:=fun b hb=>by rw [sz3]; exact Nat.lt_succ_of_lt (obj2 b hb)
 obtain ⟨W,⟨m0,w0⟩,turn⟩:=hw _ hD
 have J0:=fun tk=>u0 (tk:=tk) B I3 f3 lt3 hns old cok
 have has:∀ y∈scope.names,y.2=.free→∃ c,X.env.cells.lookup y.1=some c:=fun y hy hk=>I2.ok.has y.1 (B.free y hy hk)
 have stat:∀ {H':Hp},(∀ b∈fp,H' b=none)→∀ b∈fp,fH (aD X scope ns s3.heap.objs.size (cellsFrom (s3.heap.objs.size+1) scope.names (cG X.env scope.names)) s3 (upd H2 s2.heap.objs.size (.lst [])) fp) [] H' b:=fun hn b hb =>
  ⟨hn b hb,Nat.ne_of_lt (lt3 b hb),(J0 0).ok.exfs b hb,.inl hb,fun x c e=>(J0 0).ok.exf b hb |>.2 x c e,fun p hp=>absurd (show p∈([]:List (Addr × Obj)) from hp) (by simp)⟩
 have fin:∀ {τ:St} {H':Hp} {s':Shared},Inv (aD X scope ns s3.heap.objs.size (cellsFrom (s3.heap.objs.size+1) scope.names (cG X.env scope.names)) s3 (upd H2 s2.heap.objs.size (.lst [])) fp) [] τ H' s'→Qv (.ref s2.heap.objs.size) H'→RR (.ref s2.heap.objs.size) s3.heap.objs.size (.ok .next) s':=fun {τ H' s'} I6 q=>by
  have u1:Un (frs X.stack) fp H2 (upd H2 s2.heap.objs.size (.lst [])) s2.heap s3.heap:=Un.laid k3 (Nat.le_refl _) hD
  have os3:s3.os=s2.os:=by rw [← hs3]
  have I7:Inv X pins σ H' s':=I2.call' (ch:=fp) (I6.os.trans os3) (u1.trans I6.base) I6.hok I6.bare fun b hb=>⟨(f2 b hb).2.2.2.1,(f2 b hb).2.1,(f2 b hb).2.2.2.2.1,(f2 b hb).2.2.2.2.2⟩
  have le2:s2.heap.objs.size≤s3.heap.objs.size:=by rw [sz3]; exact Nat.le_succ _
  refine hRR _ _ s' H' I7 q ?_ I6.free (Nat.ne_of_gt (Nat.lt_of_lt_of_le I2.lt le2)) (Nat.le_trans I2.sz le2) (fun x c e z=>?_) fun p hp z=>?_
  ·obtain ⟨m,hn,_⟩:=I6.loc
   exact ⟨m,hn⟩
  ·obtain ⟨v,hv⟩:=I2.cell x c e
   exact absurd (Nat.lt_of_lt_of_le hv.lt (by rw [z]; exact le2)) (Nat.lt_irrefl _)
  ·exact absurd (Nat.lt_of_lt_of_le (Heap.lt_size (I2.pin p hp).1) (by rw [z]; exact le2)) (Nat.lt_irrefl _)
 rw [← e3,← hh₁]
 have loop:∀ tk,codeAny (model X.prog X.w) X.A (.compLoop (.ListComp elt [⟨tg,iter,ifs,0⟩] scope pos) 0 (.ref it) (.ref s2.heap.objs.size) (compEnvC scope (cellsFrom (s3.heap.objs.size+1) scope.names (cG X.env scope.names)) s3.heap.objs.size X.env))
   (RR (.ref s2.heap.objs.size) s3.heap.objs.size) { s3 with heap:=h₁,toks:=tk }:=fun tk=>by
  refine codeAny_loop rfl (fun n s'=>∃ i τ H',Inv (aD X scope ns s3.heap.objs.size (cellsFrom (s3.heap.objs.size+1) scope.names (cG X.env scope.names)) s3 (upd H2 s2.heap.objs.size (.lst [])) fp) [] τ H' s'∧tn i s'.heap∧(∀ b∈fp,H' b=none)∧W i n τ H') (fun n s5 hI=>?_) m0
   ⟨0,_,_,J0 tk,T.keep _ _ _ st2 fun b _ o e=>old b o (k3 b o e),fun b hb=>(f3 b hb).1,w0⟩
  obtain ⟨i,τ,H5,I5,st5,fr5,w5⟩:=hI
  show wpAny _ X.A ((compTurn (.ListComp elt [⟨tg,iter,ifs,0⟩] scope pos) 0 (.ref it) (.ref s2.heap.objs.size) (compEnvC scope (cellsFrom (s3.heap.objs.size+1) scope.names (cG X.env scope.names)) s3.heap.objs.size X.env)).onRaise (fun x=>do noteFrame x (compEnvC scope (cellsFrom (s3.heap.objs.size+1) scope.names (cG X.env scope.names)) s3.heap.objs.size X.env); theTreesLotGoes x)) _ _ s5
  refine wpAny_noted ?_
  rw [compTurn_list]
  refine wpAny_bind (wpAny_standAt (wpAny_bind ?_))
  rcases turn i n τ H5 w5 with ⟨stop,qn⟩ | ⟨go,N,hN,step⟩
  ·refine thn (T.done (aD X scope ns s3.heap.objs.size (cellsFrom (s3.heap.objs.size+1) scope.names (cG X.env scope.names)) s3 (upd H2 s2.heap.objs.size (.lst [])) fp) rfl rfl rfl hc i [] s5 τ H5 _ I5 (stat fr5) st5 stop) fun r s6 ⟨hr,I6⟩=>?_
   subst hr
   exact wpAny_pure (fin I6 qn)
  ·refine thn (T.item (aD X scope ns s3.heap.objs.size (cellsFrom (s3.heap.objs.size+1) scope.names (cG X.env scope.names)) s3 (upd H2 s2.heap.objs.size (.lst [])) fp) rfl rfl rfl hc i [] s5 τ H5 _ I5 (stat fr5) st5 go) fun r s6 ⟨u,hr,h6⟩=>?_
   subst hr
   dsimp only
   refine wpAny_bind (thn h6 fun _ s7 ⟨x,H7,I7,r7,y7,st7,fr7⟩=>?_)
   have I7':=I7.pinned (stat fr7) (T.obj _ _ st7)
   have back:∀ {τ9:St} {H9:Hp} {s9:Shared},Inv (aD X scope ns s3.heap.objs.size (cellsFrom (s3.heap.objs.size+1) scope.names (cG X.env scope.names)) s3 (upd H2 s2.heap.objs.size (.lst [])) fp) ([]++jh fp s7.heap) τ9 H9 s9 →
     Inv (aD X scope ns s3.heap.objs.size (cellsFrom (s3.heap.objs.size+1) scope.names (cG X.env scope.names)) s3 (upd H2 s2.heap.objs.size (.lst [])) fp) [] τ9 H9 s9∧tn (i+1) s9.heap∧∀ b∈fp,H9 b=none:=fun {τ9 H9 s9} I9=>by
    refine ⟨I9.unpinned,T.keep _ _ _ st7 fun b hb o e=>(I9.pin (b,o) (List.mem_append_right _ (List.mem_append_right _ (fN hb e)))).1,fun b hb=>?_⟩
    obtain ⟨o,e,d⟩:=T.obj _ _ st7 b hb
    exact (I9.pin (b,o) (List.mem_append_right _ (List.mem_append_right _ (fN hb e)))).2.1
   refine wpAny_bind (thF (hg _ _ _ _ _ _ s7 τ H7 x u _ I7' r7 (step x H7 y7)) fun _ s8 ⟨τ8,H8,I8,q8⟩=>?_)
   refine wpAny_bind (thF (ht _ _ _ _ _ _ s8 τ8 H8 _ I8 q8) fun b s9 ⟨H9,I9,q9⟩=>?_)
   cases b with
   | false =>
    rw [if_neg Bool.false_ne_true] at q9
    obtain ⟨m',hm,w9⟩:=hN _ _ q9
    obtain ⟨a1,a2,a3⟩:=back I9
    exact wpAny_pure ⟨rfl,m',hm,i+1,τ8,H9,a1,a2,a3,w9⟩
   | true =>
    rw [if_pos rfl] at q9
    refine wpAny_bind (wpAny_bind (thF (he _ _ _ _ _ _ s9 τ8 H9 _ I9 q9) fun v s10 ⟨y,H10,I10,r10,q10⟩=>?_))
    obtain ⟨xs,hx,hz,n10⟩:=q10
    obtain ⟨m',hm,w10⟩:=hN _ _ n10
    refine wpAny_bind (thF (mC _ s10 τ8 H10 (.ref s2.heap.objs.size) [y] (.ref s2.heap.objs.size) [v] (fun _ H11=>W (i+1) m' τ8 H11) I10 rfl (.cons r10 .nil) ⟨_,xs,y,rfl,rfl,hx,hz,w10⟩) fun _ s11 ⟨_,H11,I11,_,q11⟩=>?_)
    obtain ⟨a1,a2,a3⟩:=back I11
    exact wpAny_pure (wpAny_pure ⟨rfl,m',hm,i+1,τ8,H11,a1,a2,a3,q11⟩)
 have hst1:tn 0 h₁:=T.keep _ _ _ st2 fun b _ o e=>old b o (k3 b o e)
 subst hs3
 exact codeAny_compStart_list (loop _) (T.self _ 0 _ _ _ hst1 (loop _))
theorem rK (B:BlkOkC X scope ns js) (hc:X.calm=true) (hi:PI X tg iter wi)
  (hg:∀ C cl s₀ H₀ fp,PG (aD X scope ns C cl s₀ H₀ fp) tg g) (ht:∀ C cl s₀ H₀ fp,PTs (aD X scope ns C cl s₀ H₀ fp) ifs tt) (he:∀ C cl s₀ H₀ fp,PE (aD X scope ns C cl s₀ H₀ fp) elt te)
  (hs:∀ x,foldedSetIterable iter X.env x=pure x:=by intro _; rfl):PE X (.ListComp elt [⟨tg,iter,ifs,0⟩] scope pos) (tLC wi g tt te js):=by
 intro pins s σ H Q I h
 rw [eval_ListComp]
 have hclos:=lu (scope:=scope) (env:=X.env) (fun y hy hk=>I.ok.has y.1 (B.free y hy hk))
 refine wpAny_comprehension_free (use:=none) rfl hs hclos B.kind B.names (thn (hi pins s σ H _ I h) fun v s1 h1=>thn h1 fun itv s2 h2=>?_)
 obtain ⟨it,fp,tn,J,H2,e,I2,T,st2,f2,hw⟩:=h2
 subst e
 refine nR (RR:=fun acc C=>compPost (model X.prog X.w) X.A X.xe none (EP X pins σ Q) acc C) B hc I2 T st2 f2 hg ht he hw ?_
 intro D C s' H' I' q hm c0 c1 c2 c3 c4
 obtain ⟨m,hn⟩:=hm
 exact ⟨m,hn,fun h' hs'=>⟨.ref D,H',I'.turned (t':=s'.toks) (fun b o hb e=>(hs'.2 b hb).trans e) c0 c1 (.inr c2) c3 c4,rfl,q⟩⟩
theorem mx {i:Nat} {x:Str} {spos pos':Pos} (hN:X.N.Nodup) (hi':X.N[i]?=some x) (hx:X.env.scope.names.lookup x=some .local) (B:BlkOkC X scope ns js) (hc:X.calm=true) (hi:PI X tg iter wi)
  (hg:∀ C cl s₀ H₀ fp,PG (aD X scope ns C cl s₀ H₀ fp) tg g) (ht:∀ C cl s₀ H₀ fp,PTs (aD X scope ns C cl s₀ H₀ fp) ifs tt) (he:∀ C cl s₀ H₀ fp,PE (aD X scope ns C cl s₀ H₀ fp) elt te)
  (hsw:swapsWith (.ListComp elt [⟨tg,iter,ifs,0⟩] scope pos) (some (.Name x pos')) spos.line X.env=pure true:=by rfl)
  (hs:∀ x,foldedSetIterable iter X.env x=pure x:=by intro _; rfl):PS X (.Assign [.Name x pos'] (.ListComp elt [⟨tg,iter,ifs,0⟩] scope pos) spos) (tJ (tLC wi g tt te js) (k9 i)):=by
 intro pins s σ H D I h
 rw [exec_Assign_Name_used _ _ _ _ hsw]
 have hclos:=lu (scope:=scope) (env:=X.env) (fun y hy hk=>I.ok.has y.1 (B.free y hy hk))
 refine wpAny_bind (wpAny_standAt (wpAny_bind ?_))
 show wpAny _ X.A (do let _ ← comprehension (.ListComp elt [⟨tg,iter,ifs,0⟩] scope pos) scope X.env _ (newList []) false (eval iter X.env) (some (assign (.Name x pos') X.env))) _ _ s
 refine wpAny_bind (wpAny_mono (wpAny_comprehension_free (use:=some (assign (.Name x pos') X.env)) (Q:=fun _ s'=>SP X pins D .next s') rfl hs hclos B.kind B.names
  (thn (hi pins s σ H _ I h) fun v s1 h1=>thn h1 fun itv s2 h2=>?_)) (fun _ s' hq=>wpAny_pure (wpAny_pure hq)) fun _ _ e=>e)
 obtain ⟨it,fp,tn,J,H2,e,I2,T,st2,f2,hw⟩:=h2
 subst e
 refine nR (RR:=fun acc C=>compPost (model X.prog X.w) X.A X.xe (some (assign (.Name x pos') X.env)) (fun _ s'=>SP X pins D .next s') acc C) B hc I2 T st2 f2 hg ht he hw ?_
 intro D' C s' H' I' q hm c0 c1 c2 c3 c4
 obtain ⟨m,hn⟩:=hm
 show wpAny _ X.A (assign (.Name x pos') X.env (.ref D')) _ _ _
 refine wpAny_assign_Name (mt (v:=.ref D') I' hN hi' (.inl hx) rfl (fun s4 I4 ⟨a,hsb,ha⟩=>?_) (.inr hx))
 have ne:C≠a:=by
  rcases ha with z | z
  ·rw [z]; exact c1
  ·exact (c3 x a z).symm
 exact ⟨m,hn.sameBut hsb ne,fun h' hs'=>⟨_,H',I4.turned (t':=s4.toks) (fun b o hb e=>(hs'.2 b hb).trans e) c0 c1 (.inr c2) c3 c4,q⟩⟩
end
end L2
namespace L2
open PySem PySem.Spec PyProof.Rows
section
variable {X:Cx} {K:PySem.W.Frag}
end
end L2
namespace L2
open PySem PySem.Spec PyProof.Rows
mutual
def DV (H:Hp):V→PyData→Prop
 | v,.none=>v=.non
 | v,.bool b=>v=.bl b
 | v,.int i=>v=.int i
 | v,.str x=>v=.str x
 | v,.list ds=>∃ a xs,v=.ref a∧H a=some (.lst xs)∧DVs H xs ds
 | v,.tuple ds=>∃ a xs,v=.ref a∧H a=some (.tup xs)∧DVs H xs ds
 | _,.dict _=>False
def DVs (H:Hp):List V→List PyData→Prop
 | vs,[]=>vs=[]
 | vs,d :: ds=>∃ v r,vs=v :: r∧DV H v d∧DVs H r ds
end
mutual
theorem DV.same {H H':Hp} (s:Gp H H'):∀ {v:V} (d:PyData),DV H v d→DV H' v d
 | _,.none,h=>by simpa [DV] using h
 | _,.bool _,h=>by simpa [DV] using h
 | _,.int _,h=>by simpa [DV] using h
 | _,.str _,h=>by simpa [DV] using h
 | _,.list ds,h=>by
  unfold DV at h ⊢
  obtain ⟨a,xs,e,h1,h2⟩:=h
  exact ⟨a,xs,e,s _ _ h1,DVs.same s ds h2⟩
 | _,.tuple ds,h=>by
  unfold DV at h ⊢
  obtain ⟨a,xs,e,h1,h2⟩:=h
  exact ⟨a,xs,e,s _ _ h1,DVs.same s ds h2⟩
 | _,.dict _,h=>by
  unfold DV at h
  exact h.elim
theorem DVs.same {H H':Hp} (s:Gp H H'):∀ {vs:List V} (ds:List PyData),DVs H vs ds→DVs H' vs ds
 | _,[],h=>by
  unfold DVs at h ⊢
  exact h
 | _,d :: ds,h=>by
  unfold DVs at h ⊢
  obtain ⟨v,r,e,h1,h2⟩:=h
  exact ⟨v,r,e,DV.same s d h1,DVs.same s ds h2⟩
end
section
variable {X:Cx} {pins:List (Addr × Obj)} {σ:St} {H:Hp} {s:Shared}
mutual
theorem DV.reads (I:Inv X pins σ H s):∀ {v:V} {u:Value} (d:PyData),DV H v d→RelV v u→∃ as,Reads s.heap u d as
 | _,_,.none,h,r=>by
  unfold DV at h
  subst h
  cases r
  exact ⟨_,.none⟩
 | _,_,.bool b,h,r=>by
  unfold DV at h
  subst h
  cases r
  exact ⟨_,.bool _⟩
 | _,_,.int i,h,r=>by
  unfold DV at h
  subst h
  obtain ⟨t,rfl⟩:=r
  exact ⟨_,.int _ _⟩
 | _,_,.str x,h,r=>by
  unfold DV at h
  subst h
  obtain ⟨t,rfl⟩:=r
  exact ⟨_,.str _ _⟩
 | _,_,.list ds,h,r=>by
  unfold DV at h
  obtain ⟨a,xs,rfl,h1,h2⟩:=h
  cases r
  obtain ⟨its,rv,⟨o,n,e1,e2,_,e3⟩,_⟩:=I.list (SqL.of h1)
  obtain ⟨as,ra⟩:=DVs.reads I ds h2 rv
  exact ⟨_,.list e1 e2 e3 (by simpa using ra)⟩
 | _,_,.tuple ds,h,r=>by
  unfold DV at h
  obtain ⟨a,xs,rfl,h1,h2⟩:=h
  cases r
  obtain ⟨its,rv,⟨o,e1,e2,n,e3⟩,_⟩:=I.tuple (SqT.of h1)
  obtain ⟨as,ra⟩:=DVs.reads I ds h2 rv
  exact ⟨_,.tuple e1 e2 e3 (by simpa using ra)⟩
 | _,_,.dict _,h,_=>by
  unfold DV at h
  exact h.elim
theorem DVs.reads (I:Inv X pins σ H s):∀ {vs:List V} {us:List Value} (ds:List PyData),DVs H vs ds→Vals vs us→∃ as,ReadsAll s.heap us ds as
 | _,_,[],h,r=>by
  unfold DVs at h
  subst h
  cases r
  exact ⟨_,.nil⟩
 | _,_,d :: ds,h,r=>by
  unfold DVs at h
  obtain ⟨v,t,rfl,h1,h2⟩:=h
  cases r with
  | cons ru rr =>
   obtain ⟨as,a1⟩:=DV.reads I d h1 ru
   obtain ⟨bs,a2⟩:=DVs.reads I ds h2 rr
   exact ⟨_,.cons a1 a2⟩
end
end
mutual
theorem mL {H:Hp}:∀ {v:V} (d:PyData),DV H v d→d.hasDict=false
 | _,.none,_=>by simp only [PyData.hasDict]
 | _,.bool _,_=>by simp only [PyData.hasDict]
 | _,.int _,_=>by simp only [PyData.hasDict]
 | _,.str _,_=>by simp only [PyData.hasDict]
 | _,.list ds,h=>by
  unfold DV at h
  obtain ⟨a,xs,e,h1,h2⟩:=h
  simp only [PyData.hasDict]
  exact iI ds h2
 | _,.tuple ds,h=>by
  unfold DV at h
  obtain ⟨a,xs,e,h1,h2⟩:=h
  simp only [PyData.hasDict]
  exact iI ds h2
 | _,.dict _,h=>by
  unfold DV at h
  exact h.elim
theorem iI {H:Hp}:∀ {vs:List V} (ds:List PyData),DVs H vs ds→PyData.hasDictAll ds=false
 | _,[],_=>by simp only [PyData.hasDictAll]
 | _,d :: ds,h=>by
  unfold DVs at h
  obtain ⟨v,r,e,h1,h2⟩:=h
  simp only [PyData.hasDictAll,mL d h1,iI ds h2,Bool.or_self]
end
section
variable {X:Cx}
def Gy:List V→Hp→VK→Prop:=fun xs H Q=>∃ x d,xs=[x]∧DV H x d∧d.showable=true∧d.depth≤60∧d.shown.length≤sizeLine∧Q (.str d.shown) H
theorem sX (hg:X.A.guards=some []) (hu:X.A.units+64 < cLine):CallR X (.builtin "repr") Gy:=by
 intro pins s σ H xs us Q I r h
 obtain ⟨x,d,rfl,hd,hsh,hdp,hsz,q⟩:=h
 obtain ⟨u,rfl,ru⟩:=bU r
 have nd:=mL d hd
 obtain ⟨as,rd⟩:=DV.reads I d hd ru
 cases d with
 | none =>
  unfold DV at hd
  subst hd
  cases ru
  have e:(PyData.none).shown=("None" : Str):=PyData.shown_none
  rw [e] at q
  exact P.repr_of_none ⟨.str _,H,I.tok _,⟨_,rfl⟩,q⟩
 | bool b =>
  unfold DV at hd
  subst hd
  cases ru
  have e:(PyData.bool b).shown=(if b then "True" else "False" : Str):=PyData.shown_bool b
  rw [e] at q
  exact P.repr_of_bool ⟨.str (if b then "True" else "False"),H,I.tok _,⟨_,rfl⟩,q⟩
 | int i =>
  unfold DV at hd
  subst hd
  obtain ⟨t,rfl⟩:=ru
  have e:(PyData.int i).shown=((toString i:String):Str):=PyData.shown_int i
  rw [e] at q
  have hl:i.natAbs.log2 < 1920:=by simpa [PyData.showable] using hsh
  exact P.repr_of_int hl ⟨.str _,H,I.tok _,⟨_,rfl⟩,q⟩
 | str y =>
  unfold DV at hd
  subst hd
  obtain ⟨t,rfl⟩:=ru
  have e:(PyData.str y).shown=reprText y:=PyData.shown_str y
  rw [e] at q hsz
  exact P.repr_of_str ⟨.str _,H,I.tok _,⟨_,rfl⟩,q⟩ hsz
 | list ds =>
  have hd':=hd
  unfold DV at hd'
  obtain ⟨a,ys,rfl,_,_⟩:=hd'
  cases ru
  exact repr_of_reads' rd hsh (PyData.noDict_hsm nd) hg (by omega) (fun _ _ e=>e) (fun h' u tk hk=>⟨.str _,H,I.kept (t':=tk) hk,⟨_,rfl⟩,q⟩) hsz
 | tuple ds =>
  have hd':=hd
  unfold DV at hd'
  obtain ⟨a,ys,rfl,_,_⟩:=hd'
  cases ru
  exact repr_of_reads' rd hsh (PyData.noDict_hsm nd) hg (by omega) (fun _ _ e=>e) (fun h' u tk hk=>⟨.str _,H,I.kept (t':=tk) hk,⟨_,rfl⟩,q⟩) hsz
 | dict _ =>
  unfold DV at hd
  exact hd.elim
end
end L2
namespace L2
open PySem PySem.Spec PyProof.Rows
section
variable {prog:Program} {w:World} {A:Around} {E:Value→Shared→Prop} {s:Shared}
theorem pY {jt tu:Addr} {n:Nat} {vals:Array Value} {y:Value} {R:Value→Shared→Prop} (a1:s.heap.IsTupleIter jt tu n) (a2:s.heap.IsTuple tu vals) (a3:vals[n]?=some y)
  (q:∀ g,g.IsTupleIter jt tu (n+1)→Heap.SameBut jt s.heap g→R y { s with heap:=g }):wpAny (model prog w) A (Builtin.SmallTypes.nextOf (.ref jt)) R E s:=by
 obtain ⟨ob,b1,b2,b3⟩:=id a1
 obtain ⟨ot,c1,_,m,c2⟩:=a2
 unfold Builtin.SmallTypes.nextOf
 refine wpAny_bind (wpAny_callSpecial?_slot (name:=Str.ofString "__next__") a1.typeIs F.slot_tuple_iterator_next (wpAny_call_entry F.slot_tuple_iterator_next a1.typeIs F.entry_tuple_iterator_next ?_ (F.args_tuple_iterator_next_1 _)))
 show wpAny _ _ (field (.ref jt) 0 >>= _) _ _ s
 refine wpAny_bind (wpAny_field b1 b3 (x:=.ref tu) rfl ?_)
 show wpAny _ _ (if (Value.ref tu == Value.none)=true then _ else _) _ _ s
 rw [if_neg (show ¬ ((Value.ref tu == Value.none)=true) from Bool.false_ne_true)]
 show wpAny _ _ (field (.ref jt) 1 >>= _) _ _ s
 refine wpAny_bind (wpAny_field b1 b3 (x:=.int n 0) rfl ?_)
 show wpAny _ _ (seqItems? (.ref tu) >>= _) _ _ s
 refine wpAny_bind (wpAny_seqItems c1 c2 ?_)
 simp only [Int.toNat_natCast,a3]
 refine wpAny_bind (wpAny_setField b1 b3 (by simp) (wpAny_pure ⟨y,rfl,wpAny_pure (q _ ?_ (Heap.SameBut.update ..))⟩))
 refine ⟨_,Heap.get?_update_self _ b1 (Obj.isFreed_of_fields (Obj.data_mapFields b3 _)),(Obj.cls_mapFields ..).trans b2,?_⟩
 rw [Obj.data_mapFields b3]
 simp [rawInt]
theorem rq {jt tu:Addr} {n:Nat} {vals:Array Value} {R:Value→Shared→Prop} (hh:A.handled=none) (a1:s.heap.IsTupleIter jt tu n) (a2:s.heap.IsTuple tu vals) (a3:vals[n]?=none)
  (q:∀ g e,Heap.ExtBut jt s.heap g→(∃ o,g.get? e=some o∧o.cls=.type "StopIteration")→E (.ref e) { s with heap:=g }):wpAny (model prog w) A (Builtin.SmallTypes.nextOf (.ref jt)) R E s:=by
 obtain ⟨ob,b1,b2,b3⟩:=id a1
 obtain ⟨ot,c1,_,m,c2⟩:=a2
 unfold Builtin.SmallTypes.nextOf
 refine wpAny_bind (wpAny_callSpecial?_slot (name:=Str.ofString "__next__") a1.typeIs F.slot_tuple_iterator_next (wpAny_call_entry F.slot_tuple_iterator_next a1.typeIs F.entry_tuple_iterator_next ?_ (F.args_tuple_iterator_next_1 _)))
 show wpAny _ _ (field (.ref jt) 0 >>= _) _ _ s
 refine wpAny_bind (wpAny_field b1 b3 (x:=.ref tu) rfl ?_)
 show wpAny _ _ (if (Value.ref tu == Value.none)=true then _ else _) _ _ s
 rw [if_neg (show ¬ ((Value.ref tu == Value.none)=true) from Bool.false_ne_true)]
 show wpAny _ _ (field (.ref jt) 1 >>= _) _ _ s
 refine wpAny_bind (wpAny_field b1 b3 (x:=.int n 0) rfl ?_)
 show wpAny _ _ (seqItems? (.ref tu) >>= _) _ _ s
 refine wpAny_bind (wpAny_seqItems c1 c2 ?_)
 simp only [Int.toNat_natCast,a3]
 refine wpAny_bind (wpAny_rule (wpAny_bind (wpAny_setField b1 b3 (by simp) ?_)))
 show wpAny _ _ (newExc (.type "StopIteration") [] >>= _) _ _ _
 refine wpAny_bind ?_
 simp only [newExc,newTuple]
 refine wpAny_bind (wpAny_newObj_type ?_ (by show (0:Nat)≤_; exact Nat.zero_le _))
 refine wpAny_bind (m:=firstArgMember _ _) (wpAny_of_eq (a:=Value.none) (by first | rfl | (simp only [firstArgMember]; rfl)) ?_)
 refine wpAny_newObj_type ?_
 simp only [raiseNew]
 refine wpAny_bind (wpAny_handled ?_)
 first | rw [show A.in1.handled=none from hh] | rw [hh]
 refine wpAny_bind (wpAny_pure (wpAny_throw ?_))
 exact q _ _ (((Heap.SameBut.update ..).extBut.push _).push _) ⟨_,Heap.get?_push_size _ rfl,rfl⟩
theorem fj (hh:A.handled=none) (jt tu:Addr) (hne:tu≠jt) (vals:Array Value):Draws prog w A jt [jt,tu] vals.size (fun i v=>vals[i]?=some v) (fun i h=>h.IsTupleIter jt tu i∧h.IsTuple tu vals) where
 live:=fun _ _ st=>let ⟨o,ho,_⟩:=st.1; ⟨o,ho⟩
 frame:=fun _ _ _ st hk=>⟨st.1.at fun o e=>hk jt (by simp) o e,let ⟨o,ho,r⟩:=st.2; ⟨o,hk tu (by simp) o ho,r⟩⟩
 item:=fun i s Q E hi st hQ=>by
  refine pY st.1 st.2 (y:=vals[i]) (by simp [hi]) fun g st' sb=>?_
  exact hQ _ g s.toks (by simp [hi]) ⟨st',let ⟨o,ho,r⟩:=st.2; ⟨o,sb.extBut _ _ hne ho,r⟩⟩ sb
 done:=fun s Q E st hE=>rq hh st.1 st.2 (by simp) hE
end
end L2
namespace L2
open PySem PySem.Spec PyProof.Rows
section
variable {prog:Program} {w:World} {A:Around} {E:Value→Shared→Prop} {s:Shared}
end
section
variable {X:Cx} {K:PySem.W.Frag}
end
end L2
namespace L2
open PySem PySem.Spec PyProof.Rows
section
open PySem.SeqAt
end
end L2
namespace L2
open PySem PySem.Spec PyProof.Rows
def Rp (H:Hp) (v:V) (txt:Str):Prop:=(∃ d,DV H v d∧d.showable=true∧d.depth≤60∧d.shown.length≤sizeLine∧txt=d.shown)∨∃ a,v=.ref a∧H a=some (.dK [])∧txt=("{}" : Str)
section
variable {X:Cx}
def Et:List V→Hp→VK→Prop:=fun xs H Q=>∃ x txt,xs=[x]∧Rp H x txt∧Q (.str txt) H
theorem qU (hg:X.A.guards=some []) (hu:X.A.units+64 < cLine):CallR X (.builtin "repr") Et:=by
 intro pins s σ H xs us Q I r h
 obtain ⟨x,txt,rfl,hd,q⟩:=h
 rcases hd with ⟨d,h1,h2,h3,h4,rfl⟩ | ⟨a,rfl,ha,rfl⟩
 ·exact sX hg hu pins s σ H _ us Q I r ⟨x,d,rfl,h1,h2,h3,h4,q⟩
 ·obtain ⟨u,rfl,ru⟩:=bU r
  cases ru
  obtain ⟨_,hsys,vs,kv,dd⟩:=lq I.hok ha
  have hv:vs=[]:=by
   have e:=KV.length kv
   exact List.length_eq_zero_iff.mp e.symm
  subst hv
  have rd:Reads s.heap (.ref a) (.dict []) (a :: []++[]):=by
   obtain ⟨o,es,n,g1,g2,g3,_,g5,_⟩:=dd
   have h0:es.toList=[]:=by
    generalize es.toList=L at g5
    cases g5
    rfl
   refine .dict g1 g2.1 g3 ?_ ?_
   ·rw [h0]
    exact .nil
   ·rw [h0]
    exact .nil
  have e:(PyData.dict []).shown=("{}" : Str):=by decide +kernel
  refine repr_of_reads' rd (by decide +kernel) (fun _ hm=>?_) hg (by show X.A.units+(1+1) < cLine; omega) (fun _ _ e=>e) (fun h' u tk hk=>⟨.str _,H,I.kept (t':=tk) hk,⟨_,rfl⟩,?_⟩) (by rw [e]; decide)
  ·have hm':sysModules=a:=by simpa using hm
   rw [← hm'] at hsys
   simp at hsys
  ·rw [e]
   exact q
end
end L2
namespace L2
open PySem PySem.Spec PyProof.Rows
abbrev D:=PyData
abbrev En:=List (Option D)
abbrev AS:=Addr→Prop
def dn:Nat→Nat
 | 0=>0
 | 1=>0
 | 2=>1
 | n+3=>n+3
theorem ma:∀ {a b:Nat},a≤b→dn a≤dn b
 | 0,_,_=>Nat.zero_le _
 | 1,_,_=>Nat.zero_le _
 | 2,2,_=>Nat.le_refl _
 | 2,b+3,_=>by show 1≤b+3; omega
 | a+3,b+3,h=>h
 | a+3,0,h=>by omega
 | a+3,1,h=>by omega
 | a+3,2,h=>by omega
 | 2,0,h=>by omega
 | 2,1,h=>by omega
def kD:Key→D
 | .inl i=>.int i
 | .inr x=>.str x
def FzL (K:PySem.W.Frag) (O:AS) (H:Hp) (a:Addr) (vs:List V):Prop:=(Rd H a (.lst vs)∧¬ O a)∨∀ H',SqL K H' a vs
def FzT (K:PySem.W.Frag) (O:AS) (H:Hp) (a:Addr) (vs:List V):Prop:=H a=some (.tup vs)∧¬ O a
theorem FzL.sq {K:PySem.W.Frag} {O:AS} {H:Hp} {a:Addr} {vs:List V} (h:FzL K O H a vs):SqL K H a vs:=h.elim (fun h=>.inl h.1) fun h=>h H
theorem FzT.sq {K:PySem.W.Frag} {O:AS} {H:Hp} {a:Addr} {vs:List V} (h:FzT K O H a vs):SqT K H a vs:=SqT.of h.1
mutual
def Ow (K:PySem.W.Frag) (O:AS) (H:Hp):D→Nat→V→AS→Prop
 | .none,_,v,_=>v=.non
 | .bool b,_,v,_=>v=.bl b
 | .int i,_,v,_=>v=.int i
 | .str x,_,v,_=>v=.str x
 | .tuple ts,d,v,F=>∃ a vs,v=.ref a∧((d=0∧FzT K O H a vs∧Ows K O H ts 0 vs F)∨(d≠0∧H a=some (.tup vs)∧F a∧∃ F':AS,(∀ b,F' b→F b∧b≠a)∧Ows K O H ts (dn d) vs F'))
 | .list ts,d,v,F=>∃ a vs,v=.ref a∧((d=0∧FzL K O H a vs∧Ows K O H ts 0 vs F)∨(d≠0∧H a=some (.lst vs)∧F a∧∃ F':AS,(∀ b,F' b→F b∧b≠a)∧Ows K O H ts (dn d) vs F'))
 | .dict ks,d,v,F=>∃ a vs,v=.ref a∧((d=0∧H a=some (.dK vs)∧¬ O a∧Owd K O H ks 0 vs F)∨(d≠0∧H a=some (.dK vs)∧F a∧∃ F':AS,(∀ b,F' b→F b∧b≠a)∧Owd K O H ks (dn d) vs F'))
def Ows (K:PySem.W.Frag) (O:AS) (H:Hp):List D→Nat→List V→AS→Prop
 | [],_,vs,_=>vs=[]
 | t :: ts,d,vs,F=>∃ v r,∃ F1 F2:AS,vs=v :: r∧(∀ b,F1 b→F b)∧(∀ b,F2 b→F b)∧(∀ b,F1 b→¬ F2 b)∧Ow K O H t d v F1∧Ows K O H ts d r F2
def Owd (K:PySem.W.Frag) (O:AS) (H:Hp):List (D × D)→Nat→List (Key × V)→AS→Prop
 | [],_,vs,_=>vs=[]
 | (k,t) :: ts,d,vs,F=>∃ q v r,∃ F1 F2:AS,vs=(q,v) :: r∧k=kD q∧(∀ b,F1 b→F b)∧(∀ b,F2 b→F b)∧(∀ b,F1 b→¬ F2 b)∧Ow K O H t d v F1∧Owd K O H ts d r F2
end
section
variable {K:PySem.W.Frag} {O O':AS} {H H':Hp}
theorem Rd.mv {a:Addr} {u:HO} (hk:∀ o,H a=some o→H' a=some o) (h:Rd H a u):Rd H' a u:=by
 rcases h with h | ⟨o,h⟩
 ·exact .inl (hk _ h)
 ·exact .inr ⟨o,hk _ h⟩
theorem Rd.there {a:Addr} {u:HO} (h:Rd H a u):H a≠none:=by
 rcases h with h | ⟨o,h⟩ <;> rw [h] <;> exact fun z=>nomatch z
structure Mv (O O':AS) (G:AS) (H H':Hp):Prop where
 k:∀ a o,H a=some o→(¬ O a∨G a)→H' a=some o
 o:∀ a,O' a→O a∨H a=none
theorem FzL.mv {G:AS} {a:Addr} {vs:List V} (m:Mv O O' G H H') (h:FzL K O H a vs):FzL K O' H' a vs:=by
 rcases h with ⟨h,n⟩ | h
 ·refine .inl ⟨h.mv fun o e=>m.k _ _ e (.inl n),fun z=>?_⟩
  rcases m.o _ z with z | z
  ·exact n z
  ·exact h.there z
 ·exact .inr h
theorem FzT.mv {G:AS} {a:Addr} {vs:List V} (m:Mv O O' G H H') (h:FzT K O H a vs):FzT K O' H' a vs:=by
 obtain ⟨h,n⟩:=h
 refine ⟨m.k _ _ h (.inl n),fun z=>?_⟩
 rcases m.o _ z with z | z
 ·exact n z
 ·rw [h] at z; cases z
mutual
theorem Ow.mv {G:AS} (m:Mv O O' G H H'):∀ (t:D) {d:Nat} {v:V} {F:AS},(∀ b,F b→G b)→Ow K O H t d v F→Ow K O' H' t d v F
 | .none,_,_,_,_,h=>h
 | .bool _,_,_,_,_,h=>h
 | .int _,_,_,_,_,h=>h
 | .str _,_,_,_,_,h=>h
 | .tuple ts,_,_,_,g,h=>by
  obtain ⟨a,vs,e,⟨h0,h1,h2⟩ | ⟨h0,h1,h2,F',hf,h3⟩⟩:=h
  ·exact ⟨a,vs,e,.inl ⟨h0,h1.mv m,Ows.mv m ts g h2⟩⟩
  ·exact ⟨a,vs,e,.inr ⟨h0,m.k _ _ h1 (.inr (g _ h2)),h2,F',hf,Ows.mv m ts (fun b hb=>g _ (hf b hb).1) h3⟩⟩
 | .list ts,_,_,_,g,h=>by
  obtain ⟨a,vs,e,⟨h0,h1,h2⟩ | ⟨h0,h1,h2,F',hf,h3⟩⟩:=h
  ·exact ⟨a,vs,e,.inl ⟨h0,h1.mv m,Ows.mv m ts g h2⟩⟩
  ·exact ⟨a,vs,e,.inr ⟨h0,m.k _ _ h1 (.inr (g _ h2)),h2,F',hf,Ows.mv m ts (fun b hb=>g _ (hf b hb).1) h3⟩⟩
 | .dict ks,_,_,_,g,h=>by
  obtain ⟨a,vs,e,⟨h0,h1,hn,h2⟩ | ⟨h0,h1,h2,F',hf,h3⟩⟩:=h
  ·refine ⟨a,vs,e,.inl ⟨h0,m.k _ _ h1 (.inl hn),fun z=>?_,Owd.mv m ks g h2⟩⟩
   rcases m.o _ z with z | z
   ·exact hn z
   ·rw [h1] at z; cases z
  ·exact ⟨a,vs,e,.inr ⟨h0,m.k _ _ h1 (.inr (g _ h2)),h2,F',hf,Owd.mv m ks (fun b hb=>g _ (hf b hb).1) h3⟩⟩
theorem Ows.mv {G:AS} (m:Mv O O' G H H'):∀ (ts:List D) {d:Nat} {vs:List V} {F:AS},(∀ b,F b→G b)→Ows K O H ts d vs F→Ows K O' H' ts d vs F
 | [],_,_,_,_,h=>h
 | t :: ts,_,_,_,g,h=>by
  obtain ⟨v,r,F1,F2,e,h1,h2,h3,h4,h5⟩:=h
  exact ⟨v,r,F1,F2,e,h1,h2,h3,Ow.mv m t (fun b hb=>g _ (h1 b hb)) h4,Ows.mv m ts (fun b hb=>g _ (h2 b hb)) h5⟩
theorem Owd.mv {G:AS} (m:Mv O O' G H H'):∀ (ts:List (D × D)) {d:Nat} {vs:List (Key × V)} {F:AS},(∀ b,F b→G b)→Owd K O H ts d vs F→Owd K O' H' ts d vs F
 | [],_,_,_,_,h=>h
 | (k,t) :: ts,_,_,_,g,h=>by
  obtain ⟨q,v,r,F1,F2,e,e2,h1,h2,h3,h4,h5⟩:=h
  exact ⟨q,v,r,F1,F2,e,e2,h1,h2,h3,Ow.mv m t (fun b hb=>g _ (h1 b hb)) h4,Owd.mv m ts (fun b hb=>g _ (h2 b hb)) h5⟩
end
theorem FzL.sub {a:Addr} {vs:List V} (ho:∀ a,O' a→O a) (h:FzL K O H a vs):FzL K O' H a vs:=h.imp (fun h=>⟨h.1,fun z=>h.2 (ho _ z)⟩) id
theorem FzT.sub {a:Addr} {vs:List V} (ho:∀ a,O' a→O a) (h:FzT K O H a vs):FzT K O' H a vs:=⟨h.1,fun z=>h.2 (ho _ z)⟩
mutual
theorem Ow.cut:∀ (t:D) {d d':Nat} {v:V} {F:AS},d'≤d→Ow K O H t d v F→∃ F':AS,(∀ b,F' b→F b)∧∀ O':AS,(∀ a,O' a→O a)→(∀ a,F a→O' a→F' a)→Ow K O' H t d' v F'
 | .none,_,_,_,F,_,h=>⟨F,fun _ z=>z,fun _ _ _=>h⟩
 | .bool _,_,_,_,F,_,h=>⟨F,fun _ z=>z,fun _ _ _=>h⟩
 | .int _,_,_,_,F,_,h=>⟨F,fun _ z=>z,fun _ _ _=>h⟩
 | .str _,_,_,_,F,_,h=>⟨F,fun _ z=>z,fun _ _ _=>h⟩
 | .tuple ts,d,d',_,F,hd,h=>by
  obtain ⟨a,vs,e,⟨h0,h1,h2⟩ | ⟨h0,h1,h2,G,hg,h3⟩⟩:=h
  ·subst h0
   have e0:d'=0:=by omega
   subst e0
   obtain ⟨F',s1,s2⟩:=Ows.cut ts (Nat.le_refl _) h2
   exact ⟨F',s1,fun O' ho hx=>⟨a,vs,e,.inl ⟨rfl,h1.sub ho,s2 O' ho hx⟩⟩⟩
  ·by_cases e0:d'=0
   ·subst e0
    obtain ⟨F',s1,s2⟩:=Ows.cut ts (Nat.zero_le _) h3
    refine ⟨F',fun b hb=>(hg _ (s1 b hb)).1,fun O' ho hx=>⟨a,vs,e,.inl ⟨rfl,⟨h1,fun z=>(hg _ (s1 _ (hx _ h2 z))).2 rfl⟩,s2 O' ho fun b hb=>hx b (hg b hb).1⟩⟩⟩
   ·obtain ⟨F',s1,s2⟩:=Ows.cut ts (ma hd) h3
    refine ⟨fun b=>b=a∨F' b,fun b hb=>hb.elim (fun z=>z ▸ h2) fun z=>(hg _ (s1 b z)).1,fun O' ho hx=>⟨a,vs,e,.inr ⟨e0,h1,.inl rfl,F',fun b hb=>⟨.inr hb,(hg _ (s1 b hb)).2⟩,s2 O' ho fun b hb hz=>?_⟩⟩⟩
    exact (hx b (hg b hb).1 hz).elim (fun z=>absurd z (hg b hb).2) id
 | .list ts,d,d',_,F,hd,h=>by
  obtain ⟨a,vs,e,⟨h0,h1,h2⟩ | ⟨h0,h1,h2,G,hg,h3⟩⟩:=h
  ·subst h0
   have e0:d'=0:=by omega
   subst e0
   obtain ⟨F',s1,s2⟩:=Ows.cut ts (Nat.le_refl _) h2
   exact ⟨F',s1,fun O' ho hx=>⟨a,vs,e,.inl ⟨rfl,h1.sub ho,s2 O' ho hx⟩⟩⟩
  ·by_cases e0:d'=0
   ·subst e0
    obtain ⟨F',s1,s2⟩:=Ows.cut ts (Nat.zero_le _) h3
    refine ⟨F',fun b hb=>(hg _ (s1 b hb)).1,fun O' ho hx=>⟨a,vs,e,.inl ⟨rfl,.inl ⟨.inl h1,fun z=>(hg _ (s1 _ (hx _ h2 z))).2 rfl⟩,s2 O' ho fun b hb=>hx b (hg b hb).1⟩⟩⟩
   ·obtain ⟨F',s1,s2⟩:=Ows.cut ts (ma hd) h3
    refine ⟨fun b=>b=a∨F' b,fun b hb=>hb.elim (fun z=>z ▸ h2) fun z=>(hg _ (s1 b z)).1,fun O' ho hx=>⟨a,vs,e,.inr ⟨e0,h1,.inl rfl,F',fun b hb=>⟨.inr hb,(hg _ (s1 b hb)).2⟩,s2 O' ho fun b hb hz=>?_⟩⟩⟩
    exact (hx b (hg b hb).1 hz).elim (fun z=>absurd z (hg b hb).2) id
 | .dict ts,d,d',_,F,hd,h=>by
  obtain ⟨a,vs,e,⟨h0,h1,hn,h2⟩ | ⟨h0,h1,h2,G,hg,h3⟩⟩:=h
  ·subst h0
   have e0:d'=0:=by omega
   subst e0
   obtain ⟨F',s1,s2⟩:=Owd.cut ts (Nat.le_refl _) h2
   exact ⟨F',s1,fun O' ho hx=>⟨a,vs,e,.inl ⟨rfl,h1,fun z=>hn (ho _ z),s2 O' ho hx⟩⟩⟩
  ·by_cases e0:d'=0
   ·subst e0
    obtain ⟨F',s1,s2⟩:=Owd.cut ts (Nat.zero_le _) h3
    refine ⟨F',fun b hb=>(hg _ (s1 b hb)).1,fun O' ho hx=>⟨a,vs,e,.inl ⟨rfl,h1,fun z=>(hg _ (s1 _ (hx _ h2 z))).2 rfl,s2 O' ho fun b hb=>hx b (hg b hb).1⟩⟩⟩
   ·obtain ⟨F',s1,s2⟩:=Owd.cut ts (ma hd) h3
    refine ⟨fun b=>b=a∨F' b,fun b hb=>hb.elim (fun z=>z ▸ h2) fun z=>(hg _ (s1 b z)).1,fun O' ho hx=>⟨a,vs,e,.inr ⟨e0,h1,.inl rfl,F',fun b hb=>⟨.inr hb,(hg _ (s1 b hb)).2⟩,s2 O' ho fun b hb hz=>?_⟩⟩⟩
    exact (hx b (hg b hb).1 hz).elim (fun z=>absurd z (hg b hb).2) id
theorem Ows.cut:∀ (ts:List D) {d d':Nat} {vs:List V} {F:AS},d'≤d→Ows K O H ts d vs F→∃ F':AS,(∀ b,F' b→F b)∧∀ O':AS,(∀ a,O' a→O a)→(∀ a,F a→O' a→F' a)→Ows K O' H ts d' vs F'
 | [],_,_,_,F,_,h=>⟨F,fun _ z=>z,fun _ _ _=>h⟩
 | t :: ts,_,_,_,F,hd,h=>by
  obtain ⟨v,r,F1,F2,e,h1,h2,h3,h4,h5⟩:=h
  obtain ⟨G1,a1,a2⟩:=Ow.cut t hd h4
  obtain ⟨G2,b1,b2⟩:=Ows.cut ts hd h5
  refine ⟨fun b=>G1 b∨G2 b,fun b hb=>hb.elim (fun z=>h1 _ (a1 _ z)) fun z=>h2 _ (b1 _ z),fun O' ho hx=>⟨v,r,G1,G2,e,fun b=>.inl,fun b=>.inr,fun b z1 z2=>h3 b (a1 b z1) (b1 b z2),a2 O' ho fun b hb hz=>?_,b2 O' ho fun b hb hz=>?_⟩⟩
  ·exact (hx b (h1 b hb) hz).elim id fun z=>absurd (b1 b z) (h3 b hb)
  ·exact (hx b (h2 b hb) hz).elim (fun z=>absurd hb (h3 b (a1 b z))) id
theorem Owd.cut:∀ (ts:List (D × D)) {d d':Nat} {vs:List (Key × V)} {F:AS},d'≤d→Owd K O H ts d vs F→∃ F':AS,(∀ b,F' b→F b)∧∀ O':AS,(∀ a,O' a→O a)→(∀ a,F a→O' a→F' a)→Owd K O' H ts d' vs F'
 | [],_,_,_,F,_,h=>⟨F,fun _ z=>z,fun _ _ _=>h⟩
 | (k,t) :: ts,_,_,_,F,hd,h=>by
  obtain ⟨q,v,r,F1,F2,e,e2,h1,h2,h3,h4,h5⟩:=h
  obtain ⟨G1,a1,a2⟩:=Ow.cut t hd h4
  obtain ⟨G2,b1,b2⟩:=Owd.cut ts hd h5
  refine ⟨fun b=>G1 b∨G2 b,fun b hb=>hb.elim (fun z=>h1 _ (a1 _ z)) fun z=>h2 _ (b1 _ z),fun O' ho hx=>⟨q,v,r,G1,G2,e,e2,fun b=>.inl,fun b=>.inr,fun b z1 z2=>h3 b (a1 b z1) (b1 b z2),a2 O' ho fun b hb hz=>?_,b2 O' ho fun b hb hz=>?_⟩⟩
  ·exact (hx b (h1 b hb) hz).elim id fun z=>absurd (b1 b z) (h3 b hb)
  ·exact (hx b (h2 b hb) hz).elim (fun z=>absurd hb (h3 b (a1 b z))) id
end
mutual
theorem Ow.grow (ho:∀ a,O' a→O a):∀ (t:D) {d:Nat} {v:V} {F F':AS},(∀ b,F b→F' b)→Ow K O H t d v F→Ow K O' H t d v F'
 | .none,_,_,_,_,_,h=>h
 | .bool _,_,_,_,_,_,h=>h
 | .int _,_,_,_,_,_,h=>h
 | .str _,_,_,_,_,_,h=>h
 | .tuple ts,_,_,_,_,hf,h=>by
  obtain ⟨a,vs,e,⟨h0,h1,h2⟩ | ⟨h0,h1,h2,G,hg,h3⟩⟩:=h
  ·exact ⟨a,vs,e,.inl ⟨h0,h1.sub ho,Ows.grow ho ts hf h2⟩⟩
  ·exact ⟨a,vs,e,.inr ⟨h0,h1,hf _ h2,G,fun b hb=>⟨hf _ (hg b hb).1,(hg b hb).2⟩,Ows.grow ho ts (fun _ z=>z) h3⟩⟩
 | .list ts,_,_,_,_,hf,h=>by
  obtain ⟨a,vs,e,⟨h0,h1,h2⟩ | ⟨h0,h1,h2,G,hg,h3⟩⟩:=h
  ·exact ⟨a,vs,e,.inl ⟨h0,h1.sub ho,Ows.grow ho ts hf h2⟩⟩
  ·exact ⟨a,vs,e,.inr ⟨h0,h1,hf _ h2,G,fun b hb=>⟨hf _ (hg b hb).1,(hg b hb).2⟩,Ows.grow ho ts (fun _ z=>z) h3⟩⟩
 | .dict ts,_,_,_,_,hf,h=>by
  obtain ⟨a,vs,e,⟨h0,h1,hn,h2⟩ | ⟨h0,h1,h2,G,hg,h3⟩⟩:=h
  ·exact ⟨a,vs,e,.inl ⟨h0,h1,fun z=>hn (ho _ z),Owd.grow ho ts hf h2⟩⟩
  ·exact ⟨a,vs,e,.inr ⟨h0,h1,hf _ h2,G,fun b hb=>⟨hf _ (hg b hb).1,(hg b hb).2⟩,Owd.grow ho ts (fun _ z=>z) h3⟩⟩
theorem Ows.grow (ho:∀ a,O' a→O a):∀ (ts:List D) {d:Nat} {vs:List V} {F F':AS},(∀ b,F b→F' b)→Ows K O H ts d vs F→Ows K O' H ts d vs F'
 | [],_,_,_,_,_,h=>h
 | t :: ts,_,_,_,_,hf,h=>by
  obtain ⟨v,r,F1,F2,e,h1,h2,h3,h4,h5⟩:=h
  exact ⟨v,r,F1,F2,e,fun b z=>hf _ (h1 b z),fun b z=>hf _ (h2 b z),h3,Ow.grow ho t (fun _ z=>z) h4,Ows.grow ho ts (fun _ z=>z) h5⟩
theorem Owd.grow (ho:∀ a,O' a→O a):∀ (ts:List (D × D)) {d:Nat} {vs:List (Key × V)} {F F':AS},(∀ b,F b→F' b)→Owd K O H ts d vs F→Owd K O' H ts d vs F'
 | [],_,_,_,_,_,h=>h
 | (k,t) :: ts,_,_,_,_,hf,h=>by
  obtain ⟨q,v,r,F1,F2,e,e2,h1,h2,h3,h4,h5⟩:=h
  exact ⟨q,v,r,F1,F2,e,e2,fun b z=>hf _ (h1 b z),fun b z=>hf _ (h2 b z),h3,Ow.grow ho t (fun _ z=>z) h4,Owd.grow ho ts (fun _ z=>z) h5⟩
end
mutual
theorem Ow.full:∀ (t:D) {d:Nat} {v:V} {F:AS},Ow K O H t (d+3) v F→Ow K O' H t (d+3) v F
 | .none,_,_,_,h=>h
 | .bool _,_,_,_,h=>h
 | .int _,_,_,_,h=>h
 | .str _,_,_,_,h=>h
 | .tuple ts,_,_,_,h=>by
  obtain ⟨a,vs,e,⟨h0,h1,h2⟩ | ⟨h0,h1,h2,G,hg,h3⟩⟩:=h
  ·cases h0
  ·exact ⟨a,vs,e,.inr ⟨h0,h1,h2,G,hg,Ows.full ts h3⟩⟩
 | .list ts,_,_,_,h=>by
  obtain ⟨a,vs,e,⟨h0,h1,h2⟩ | ⟨h0,h1,h2,G,hg,h3⟩⟩:=h
  ·cases h0
  ·exact ⟨a,vs,e,.inr ⟨h0,h1,h2,G,hg,Ows.full ts h3⟩⟩
 | .dict ts,_,_,_,h=>by
  obtain ⟨a,vs,e,⟨h0,h1,hn,h2⟩ | ⟨h0,h1,h2,G,hg,h3⟩⟩:=h
  ·cases h0
  ·exact ⟨a,vs,e,.inr ⟨h0,h1,h2,G,hg,Owd.full ts h3⟩⟩
theorem Ows.full:∀ (ts:List D) {d:Nat} {vs:List V} {F:AS},Ows K O H ts (d+3) vs F→Ows K O' H ts (d+3) vs F
 | [],_,_,_,h=>h
 | t :: ts,_,_,_,h=>by
  obtain ⟨v,r,F1,F2,e,h1,h2,h3,h4,h5⟩:=h
  exact ⟨v,r,F1,F2,e,h1,h2,h3,Ow.full t h4,Ows.full ts h5⟩
theorem Owd.full:∀ (ts:List (D × D)) {d:Nat} {vs:List (Key × V)} {F:AS},Owd K O H ts (d+3) vs F→Owd K O' H ts (d+3) vs F
 | [],_,_,_,h=>h
 | (k,t) :: ts,_,_,_,h=>by
  obtain ⟨q,v,r,F1,F2,e,e2,h1,h2,h3,h4,h5⟩:=h
  exact ⟨q,v,r,F1,F2,e,e2,h1,h2,h3,Ow.full t h4,Owd.full ts h5⟩
end
mutual
theorem Ow.any0:∀ (t:D) {v:V} {F F':AS},Ow K O H t 0 v F→Ow K O H t 0 v F'
 | .none,_,_,_,h=>h
 | .bool _,_,_,_,h=>h
 | .int _,_,_,_,h=>h
 | .str _,_,_,_,h=>h
 | .tuple ts,_,_,_,h=>by
  obtain ⟨a,vs,e,⟨h0,h1,h2⟩ | ⟨h0,_⟩⟩:=h
  ·exact ⟨a,vs,e,.inl ⟨rfl,h1,Ows.any0 ts h2⟩⟩
  ·exact absurd rfl h0
 | .list ts,_,_,_,h=>by
  obtain ⟨a,vs,e,⟨h0,h1,h2⟩ | ⟨h0,_⟩⟩:=h
  ·exact ⟨a,vs,e,.inl ⟨rfl,h1,Ows.any0 ts h2⟩⟩
  ·exact absurd rfl h0
 | .dict ts,_,_,_,h=>by
  obtain ⟨a,vs,e,⟨h0,h1,hn,h2⟩ | ⟨h0,_⟩⟩:=h
  ·exact ⟨a,vs,e,.inl ⟨rfl,h1,hn,Owd.any0 ts h2⟩⟩
  ·exact absurd rfl h0
theorem Ows.any0:∀ (ts:List D) {vs:List V} {F F':AS},Ows K O H ts 0 vs F→Ows K O H ts 0 vs F'
 | [],_,_,_,h=>h
 | t :: ts,_,_,_,h=>by
  obtain ⟨v,r,F1,F2,e,_,_,_,h4,h5⟩:=h
  exact ⟨v,r,fun _=>False,fun _=>False,e,fun _ z=>z.elim,fun _ z=>z.elim,fun _ z=>z.elim,Ow.any0 t h4,Ows.any0 ts h5⟩
theorem Owd.any0:∀ (ts:List (D × D)) {vs:List (Key × V)} {F F':AS},Owd K O H ts 0 vs F→Owd K O H ts 0 vs F'
 | [],_,_,_,h=>h
 | (k,t) :: ts,_,_,_,h=>by
  obtain ⟨q,v,r,F1,F2,e,e2,_,_,_,h4,h5⟩:=h
  exact ⟨q,v,r,fun _=>False,fun _=>False,e,e2,fun _ z=>z.elim,fun _ z=>z.elim,fun _ z=>z.elim,Ow.any0 t h4,Owd.any0 ts h5⟩
end
theorem Ow.fz {t:D} {d:Nat} {v:V} {F F2:AS} (ho:∀ a,O' a→O a) (hn:∀ a,F a→¬ O' a) (h:Ow K O H t d v F):Ow K O' H t 0 v F2:=by
 obtain ⟨F',s1,s2⟩:=Ow.cut t (Nat.zero_le d) h
 exact Ow.any0 t (s2 O' ho fun a z1 z2=>absurd z2 (hn a z1))
end
def U (A B:AS):AS:=fun a=>A a∨B a
def Own (R:Nat→AS) (Ox:AS):AS:=fun a=>(∃ i,R i a)∨Ox a
theorem eX {A B:AS} (h:∀ a,A a↔B a):A=B:=funext fun a=>propext (h a)
structure EnvOk (K:PySem.W.Frag) (ds:List Nat) (Ox:AS) (H:Hp) (σ:St) (en:En) (R:Nat→AS):Prop where
 at_:∀ (i:Nat) (t:D),en[i]?=some (some t)→∃ v d,σ[i]?=some (some v)∧ds[i]?=some d∧Ow K (Own R Ox) H t d v (R i)
 dj:∀ i j a,R i a→R j a→i=j
 dx:∀ i a,R i a→¬ Ox a
 dom:∀ a,Own R Ox a→∃ o,H a=some o
 l1:en.length=σ.length
 l2:ds.length=σ.length
structure Post (K:PySem.W.Frag) (p:Bool) (ds':List Nat) (Ox:AS) (σ:St) (H:Hp) (en:En) (R:Nat→AS) (en':En) (H':Hp) (R':Nat→AS) (F:AS):Prop where
 env:EnvOk K ds' (U F Ox) H' σ en' R'
 fx:∀ a,F a→¬ Ox a
 keep:∀ a o,H a=some o→(∀ i,¬ R i a)→H' a=some o
 own:∀ a,(F a∨∃ i,R' i a)→(∃ i,R i a)∨H a=none
 dom:∀ a o,H a=some o→∃ o',H' a=some o'
 pure:p=true→en'=en∧R'=R∧∀ a o,H a=some o→H' a=some o
section
variable {K:PySem.W.Frag} {p p1 p2:Bool} {ds ds1 ds2 ds':List Nat} {Ox Ox':AS} {H H':Hp} {σ:St} {en en' en1 en2:En} {R R':Nat→AS} {d d1 d2:Nat} {t1 t2:D}
theorem EnvOk.grow (e:EnvOk K ds Ox H σ en R) (hk:∀ a o,H a=some o→H' a=some o) {F:AS} (hf:∀ a,F a→H a=none∧∃ o,H' a=some o):EnvOk K ds (U F Ox) H' σ en R:=by
 have fo:∀ a,F a→¬ Own R Ox a:=fun a z z2=>by
  obtain ⟨o,q⟩:=e.dom a z2
  rw [(hf a z).1] at q
  cases q
 refine ⟨fun i t h=>?_,e.dj,fun i a h z=>?_,fun a h=>?_,e.l1,e.l2⟩
 ·obtain ⟨v,d,h1,h2,h3⟩:=e.at_ i t h
  refine ⟨v,d,h1,h2,Ow.mv (G:=R i) ⟨fun a o q _=>hk a o q,fun a z=>?_⟩ t (fun _ z=>z) h3⟩
  rcases z with z | z | z
  ·exact .inl (.inl z)
  ·exact .inr (hf a z).1
  ·exact .inl (.inr z)
 ·rcases z with z | z
  ·exact fo a z (.inl ⟨i,h⟩)
  ·exact e.dx i a h z
 ·rcases h with h | h | h
  ·obtain ⟨o,q⟩:=e.dom a (.inl h)
   exact ⟨o,hk a o q⟩
  ·exact (hf a h).2
  ·obtain ⟨o,q⟩:=e.dom a (.inr h)
   exact ⟨o,hk a o q⟩
theorem EnvOk.fewer (e:EnvOk K ds Ox H σ en R) (h:∀ a,Ox' a→Ox a):EnvOk K ds Ox' H σ en R:=by
 refine ⟨fun i t q=>?_,e.dj,fun i a z1 z2=>e.dx i a z1 (h a z2),fun a z=>e.dom a (z.imp id (h a)),e.l1,e.l2⟩
 obtain ⟨v,d,h1,h2,h3⟩:=e.at_ i t q
 exact ⟨v,d,h1,h2,Ow.grow (fun a z=>z.imp id (h a)) t (fun _ z=>z) h3⟩
def tF (K:PySem.W.Frag) (p:Bool) (ds ds':List Nat) (d:Nat) (f:En→Option (D × En)):TE:=fun σ H Q =>
 ∃ Ox en R t en',EnvOk K ds Ox H σ en R∧f en=some (t,en')∧∀ v H' R' F,Post K p ds' Ox σ H en R en' H' R' F→Ow K (Own R' (U F Ox)) H' t d v F→Q v H'
theorem Post.refl (e:EnvOk K ds Ox H σ en R):Post K p ds Ox σ H en R en H R (fun _=>False):=by
 have eq:U (fun _=>False) Ox=Ox:=eX fun a=>⟨fun z=>z.elim (fun z=>z.elim) id,.inr⟩
 exact ⟨eq.symm ▸ e,fun _ z=>z.elim,fun _ _ q _=>q,fun a z=>z.elim (fun z=>z.elim) .inl,fun a o q=>⟨o,q⟩,fun _=>⟨rfl,rfl,fun _ _ q=>q⟩⟩
theorem Post.new (e:EnvOk K ds Ox H σ en R) (hk:∀ a o,H a=some o→H' a=some o) {F:AS} (hf:∀ a,F a→H a=none∧∃ o,H' a=some o):Post K p ds Ox σ H en R en H' R F:=by
 refine ⟨e.grow hk hf,fun a z z2=>?_,fun a o q _=>hk a o q,fun a z=>z.elim (fun z=>.inr (hf a z).1) .inl,fun a o q=>⟨o,hk a o q⟩,fun _=>⟨rfl,rfl,hk⟩⟩
 obtain ⟨o,q⟩:=e.dom a (.inr z2)
 rw [(hf a z).1] at q
 cases q
theorem Post.trans {H1 H2:Hp} {R1 R2:Nat→AS} {F1 F2:AS} (P1:Post K p1 ds1 Ox σ H en R en1 H1 R1 F1) (P2:Post K p2 ds2 (U F1 Ox) σ H1 en1 R1 en2 H2 R2 F2) :
  Post K (p1 && p2) ds2 Ox σ H en R en2 H2 R2 (U F1 F2):=by
 have eq:U F2 (U F1 Ox)=U (U F1 F2) Ox:=eX fun a=>by unfold U; exact ⟨fun z=>by rcases z with z | z | z; exact .inl (.inr z); exact .inl (.inl z); exact .inr z,fun z=>by rcases z with (z | z) | z; exact .inr (.inl z); exact .inl z; exact .inr (.inr z)⟩
 have n1:∀ a,H1 a=none→H a=none:=fun a z=>by
  cases q:H a with
  | none=>rfl
  | some o =>
   obtain ⟨o',q'⟩:=P1.dom a o q
   rw [z] at q'
   cases q'
 refine ⟨eq ▸ P2.env,fun a z z2=>?_,fun a o q n=>?_,fun a z=>?_,fun a o q=>?_,fun hp=>?_⟩
 ·rcases z with z | z
  ·exact P1.fx a z z2
  ·exact P2.fx a z (.inr z2)
 ·refine P2.keep a o (P1.keep a o q n) fun i z=>?_
  rcases P1.own a (.inr ⟨i,z⟩) with ⟨j,z⟩ | z
  ·exact n j z
  ·rw [q] at z; cases z
 ·rcases z with (z | z) | z
  ·exact P1.own a (.inl z)
  ·rcases P2.own a (.inl z) with z | z
   ·exact P1.own a (.inr z)
   ·exact .inr (n1 a z)
  ·rcases P2.own a (.inr z) with z | z
   ·exact P1.own a (.inr z)
   ·exact .inr (n1 a z)
 ·obtain ⟨o',q'⟩:=P1.dom a o q
  exact P2.dom a o' q'
 ·have h1:p1=true:=by cases p1 <;> simp_all
  have h2:p2=true:=by cases p2 <;> simp_all
  obtain ⟨a1,a2,a3⟩:=P1.pure h1
  obtain ⟨b1,b2,b3⟩:=P2.pure h2
  exact ⟨b1.trans a1,b2.trans a2,fun a o q=>b3 a o (a3 a o q)⟩
theorem Ow.over {H1 H2:Hp} {R1 R2:Nat→AS} {F1 F2:AS} {t:D} {v:V} (P1:EnvOk K ds1 (U F1 Ox) H1 σ en1 R1) (P2:Post K p2 ds2 (U F1 Ox) σ H1 en1 R1 en2 H2 R2 F2) (h:Ow K (Own R1 (U F1 Ox)) H1 t d v F1) :
  Ow K (Own R2 (U (U F1 F2) Ox)) H2 t d v F1:=by
 refine Ow.mv (G:=F1) ⟨fun a o q z=>P2.keep a o q fun i zi=>?_,fun a z=>?_⟩ t (fun _ z=>z) h
 ·rcases z with z | z
  ·exact z (.inl ⟨i,zi⟩)
  ·exact P1.dx i a zi (.inl z)
 ·rcases z with z | (z | z) | z
  ·rcases P2.own a (.inr z) with z | z
   ·exact .inl (.inl z)
   ·exact .inr z
  ·exact .inl (.inr (.inl z))
  ·rcases P2.own a (.inl z) with z | z
   ·exact .inl (.inl z)
   ·exact .inr z
  ·exact .inl (.inr (.inr z))
theorem jA {F1 F2:AS}:U F2 (U F1 Ox)=U (U F1 F2) Ox:=eX fun a=>by unfold U; exact ⟨fun z=>by rcases z with z | z | z; exact .inl (.inr z); exact .inl (.inl z); exact .inr z,fun z=>by rcases z with (z | z) | z; exact .inr (.inl z); exact .inl z; exact .inr (.inr z)⟩
theorem two {f g:En→Option (D × En)} {Q:V→V→Hp→Prop} (e:EnvOk K ds Ox H σ en R) (h1:f en=some (t1,en1)) (h2:g en1=some (t2,en2))
  (k:∀ x y H2 R2 F1 F2,Post K (p1 && p2) ds2 Ox σ H en R en2 H2 R2 (U F1 F2)→Ow K (Own R2 (U (U F1 F2) Ox)) H2 t1 d1 x F1→Ow K (Own R2 (U (U F1 F2) Ox)) H2 t2 d2 y F2→Q x y H2) :
  tF K p1 ds ds1 d1 f σ H fun x H1=>tF K p2 ds1 ds2 d2 g σ H1 fun y H2=>Q x y H2:=by
 refine ⟨Ox,en,R,t1,en1,e,h1,fun x H1 R1 F1 P1 o1=>?_⟩
 refine ⟨U F1 Ox,en1,R1,t2,en2,P1.env,h2,fun y H2 R2 F2 P2 o2=>?_⟩
 exact k x y H2 R2 F1 F2 (P1.trans P2) (Ow.over P1.env P2 o1) (jA ▸ o2)
end
end L2
namespace L2
open PySem PySem.Spec PyProof.Rows
abbrev ME:=En→Option (D × En)
abbrev MT:=En→Option (Bool × En)
abbrev MA:=En→Option (List (D ⊕ Nat) × En)
def af (i:Nat):ME:=fun en=>(en[i]?).join.map fun t=>(t,en)
def eMv (i:Nat):ME:=fun en=>(en[i]?).join.map fun t=>(t,en.set i none)
def eC (t:D):ME:=fun en=>some (t,en)
def e1 (g:D→Option D) (f:ME):ME:=fun en=>(f en).bind fun r=>(g r.1).map fun t=>(t,r.2)
def e2 (g:D→D→Option D) (f1 f2:ME):ME:=fun en=>(f1 en).bind fun r=>(f2 r.2).bind fun q=>(g r.1 q.1).map fun t=>(t,q.2)
def fy (f g:ME):ME:=fun en=>(f en).bind fun r=>match r.1 with
 | .bool true=>g r.2
 | .bool false=>some (.bool false,r.2)
 | _=>none
def eOr (f g:ME):ME:=fun en=>(f en).bind fun r=>match r.1 with
 | .bool true=>some (.bool true,r.2)
 | .bool false=>g r.2
 | _=>none
def kx (f:ME):ME:=fun en=>(f en).bind fun r=>match r.1 with
 | .bool b=>some (.bool (!b),r.2)
 | _=>none
def eIf (c:MT) (f g:ME):ME:=fun en=>(c en).bind fun r=>if r.1 then f r.2 else g r.2
def tV (f:ME):MT:=fun en=>(f en).bind fun r=>match r.1 with
 | .bool b=>some (b,r.2)
 | _=>none
def fC (f g:MT):MT:=fun en=>(f en).bind fun r=>if r.1 then g r.2 else some (false,r.2)
def bOr (f g:MT):MT:=fun en=>(f en).bind fun r=>if r.1 then some (true,r.2) else g r.2
def ck (f:MT):MT:=fun en=>(f en).map fun r=>(!r.1,r.2)
def ag:MA:=fun en=>some ([],en)
def ae (f:ME) (r:MA):MA:=fun en=>(f en).bind fun x=>(r x.2).map fun y=>(.inl x.1 :: y.1,y.2)
def bt (i:Nat) (r:MA):MA:=fun en=>(en[i]?).join.bind fun _=>(r en).map fun y=>(.inr i :: y.1,y.2)
def vals:List (D ⊕ Nat)→Option (List D)
 | []=>some []
 | .inl t :: r=>(vals r).map (t :: ·)
 | .inr _ :: _=>none
def eN (g:List D→Option D) (fa:MA):ME:=fun en=>(fa en).bind fun r=>(vals r.1).bind fun ts=>(g ts).map fun t=>(t,r.2)
def NewTo (H H':Hp) (F:AS):Prop:=(∀ a o,H a=some o→H' a=some o)∧∀ a,F a→H a=none∧∃ o,H' a=some o
def NoA:AS:=fun _=>False
theorem fE {A:AS}:U NoA A=A:=eX fun a=>⟨fun z=>z.elim (fun z=>z.elim) id,.inr⟩
def rF1 (K:PySem.W.Frag) (g:D→Option D) (d:Nat):V→Hp→VK→Prop:=fun x H Q=>∃ (O:AS) (a t:D),Ow K O H a 0 x NoA∧(∀ a,O a→∃ o,H a=some o)∧g a=some t∧∀ v H' F,NewTo H H' F→Ow K (U F O) H' t d v F→Q v H'
def rF2 (K:PySem.W.Frag) (g:D→D→Option D) (d:Nat):R2:=fun x y H Q=>∃ (O:AS) (a b t:D),Ow K O H a 0 x NoA∧Ow K O H b 0 y NoA∧(∀ a,O a→∃ o,H a=some o)∧g a b=some t∧∀ v H' F,NewTo H H' F→Ow K (U F O) H' t d v F→Q v H'
def rFn (K:PySem.W.Frag) (g:List D→Option D) (d:Nat):List V→Hp→VK→Prop:=fun xs H Q=>∃ (O:AS) (ts:List D) (t:D),Ows K O H ts 0 xs NoA∧(∀ a,O a→∃ o,H a=some o)∧g ts=some t∧∀ v H' F,NewTo H H' F→Ow K (U F O) H' t d v F→Q v H'
section
variable {K:PySem.W.Frag} {p p1 p2:Bool} {ds ds0 ds1 ds2 ds':List Nat} {Ox Ox':AS} {H H':Hp} {σ:St} {en en' en1 en2:En} {R R':Nat→AS} {d d' d1 d2:Nat} {t t1 t2:D} {Q:VK} {f f1 f2 fa fb:ME}
theorem jY {F:AS}:U F (Own R Ox)=Own R (U F Ox):=eX fun a=>by
 unfold U Own
 exact ⟨fun z=>by rcases z with z | z | z; exact .inr (.inl z); exact .inl z; exact .inr (.inr z),fun z=>by rcases z with z | z | z; exact .inr (.inl z); exact .inl z; exact .inr (.inr z)⟩
theorem Post.fin {H1:Hp} {F0 F:AS} (P:Post K p ds' Ox σ H en R en' H1 R' F0) (n:NewTo H1 H' F):Post K p ds' Ox σ H en R en' H' R' F:=by
 have e:=P.env.fewer (Ox':=Ox) fun a z=>.inr z
 have n1:∀ a,H1 a=none→H a=none:=fun a z=>by
  cases q:H a with
  | none=>rfl
  | some o =>
   obtain ⟨o',q'⟩:=P.dom a o q
   rw [z] at q'
   cases q'
 refine ⟨e.grow n.1 n.2,fun a z z2=>?_,fun a o q nn=>n.1 a o (P.keep a o q nn),fun a z=>?_,fun a o q=>?_,fun hp=>?_⟩
 ·obtain ⟨o,q⟩:=e.dom a (.inr z2)
  rw [(n.2 a z).1] at q
  cases q
 ·rcases z with z | z
  ·exact .inr (n1 a (n.2 a z).1)
  ·exact P.own a (.inr z)
 ·obtain ⟨o',q'⟩:=P.dom a o q
  exact ⟨o',n.1 a o' q'⟩
 ·obtain ⟨a1,a2,a3⟩:=P.pure hp
  exact ⟨a1,a2,fun a o q=>n.1 a o (a3 a o q)⟩
theorem Post.less {F F':AS} (P:Post K p ds' Ox σ H en R en' H' R' F) (h:∀ a,F' a→F a):Post K p ds' Ox σ H en R en' H' R' F' :=
 ⟨P.env.fewer fun a z=>z.imp (h a) id,fun a z=>P.fx a (h a z),P.keep,fun a z=>P.own a (z.imp (h a) id),P.dom,P.pure⟩
theorem Ow.letgo {F F0:AS} {v:V} (P:Post K p ds' Ox σ H en R en' H' R' F0) (hf:∀ a,F a→F0 a) (h:Ow K (Own R' (U F0 Ox)) H' t d v F):Ow K (Own R' Ox) H' t 0 v NoA:=by
 refine Ow.fz (fun a z=>z.imp id .inr) (fun a z z2=>?_) h
 rcases z2 with ⟨i,z2⟩ | z2
 ·exact P.env.dx i a z2 (.inl (hf a z))
 ·exact P.fx a (hf a z) z2
theorem Post.doms {F0:AS} (P:Post K p ds' Ox σ H en R en' H' R' F0):∀ a,Own R' Ox a→∃ o,H' a=some o:=fun a z=>P.env.dom a (z.imp id .inr)
theorem Hd (hd:ds[i]?=some 0) (h:tF K true ds ds 0 (af i) σ H Q):gO i σ H Q:=by
 obtain ⟨Ox,en,R,t,en',e,hf,k⟩:=h
 unfold af at hf
 cases q:en[i]? with
 | none=>rw [q] at hf; cases hf
 | some o =>
  rw [q] at hf
  cases o with
  | none=>cases hf
  | some t' =>
   cases hf
   obtain ⟨v,d,h1,h2,h3⟩:=e.at_ i t q
   rw [hd] at h2
   cases h2
   exact ⟨v,h1,k v H R NoA (Post.refl e) (by rw [fE]; exact Ow.any0 t h3)⟩
theorem f_c {v:V} (hv:∀ K O H F,Ow K O H t 3 v F) (h:tF K true ds ds 3 (eC t) σ H Q):tC v σ H Q:=by
 obtain ⟨Ox,en,R,t',en',e,hf,k⟩:=h
 cases hf
 exact k v H R NoA (Post.refl e) (hv _ _ _ _)
theorem Hf (hd:d'≤d) (h:tF K p ds ds' d' f σ H Q):tF K p ds ds' d f σ H Q:=by
 obtain ⟨Ox,en,R,t,en',e,hf,k⟩:=h
 refine ⟨Ox,en,R,t,en',e,hf,fun v H' R' F P o=>?_⟩
 obtain ⟨F',s1,s2⟩:=Ow.cut t hd o
 refine k v H' R' F' (P.less s1) (s2 _ (fun a z=>z.imp id fun z=>z.imp (s1 a) id) fun a z z2=>?_)
 rcases z2 with ⟨i,z2⟩ | z2 | z2
 ·exact absurd (.inl z) (P.env.dx i a z2)
 ·exact z2
 ·exact absurd z2 (P.fx a z)
theorem gK (hp:p'=true→p=true) (h:tF K p' ds ds' d f σ H Q):tF K p ds ds' d f σ H Q:=by
 obtain ⟨Ox,en,R,t,en',e,hf,k⟩:=h
 exact ⟨Ox,en,R,t,en',e,hf,fun v H' R' F P o=>k v H' R' F ⟨P.env,P.fx,P.keep,P.own,P.dom,fun z=>P.pure (hp z)⟩ o⟩
theorem EnvOk.cut (e:EnvOk K ds Ox H σ en R) (hl:ds0.length=ds.length) (hd:∀ (i:Nat) a b,ds0[i]?=some a→ds[i]?=some b→a≤b):∃ R',(∀ i a,R' i a→R i a)∧EnvOk K ds0 Ox H σ en R':=by
 have ch:∀ i,∃ F':AS,(∀ b,F' b→R i b)∧∀ t v d0,en[i]?=some (some t)→σ[i]?=some (some v)→ds0[i]?=some d0→∀ O':AS,(∀ a,O' a→Own R Ox a)→(∀ a,R i a→O' a→F' a)→Ow K O' H t d0 v F':=fun i=>by
  by_cases h:∃ t,en[i]?=some (some t)
  ·obtain ⟨t,ht⟩:=h
   obtain ⟨v,d,h1,h2,h3⟩:=e.at_ i t ht
   cases q:ds0[i]? with
   | none=>exact ⟨NoA,fun _ z=>z.elim,fun _ _ _ _ _ z=>nomatch z⟩
   | some d0 =>
    obtain ⟨F',s1,s2⟩:=Ow.cut t (hd i d0 d q h2) h3
    refine ⟨F',s1,fun t' v' d0' h1' h2' h3' O'=>?_⟩
    rw [ht] at h1'; cases h1'
    rw [h1] at h2'; cases h2'
    cases h3'
    exact s2 O'
  ·exact ⟨NoA,fun _ z=>z.elim,fun t _ _ ht=>absurd ⟨t,ht⟩ h⟩
 refine ⟨fun i=>(ch i).choose,fun i=>(ch i).choose_spec.1,fun i t ht=>?_,fun i j a z1 z2=>e.dj i j a ((ch i).choose_spec.1 a z1) ((ch j).choose_spec.1 a z2),fun i a z=>e.dx i a ((ch i).choose_spec.1 a z),fun a z=>e.dom a (z.imp (fun ⟨i,z⟩=>⟨i,(ch i).choose_spec.1 a z⟩) id),e.l1,hl.trans e.l2⟩
 obtain ⟨v,d,h1,h2,h3⟩:=e.at_ i t ht
 have hi:i < ds0.length:=by rw [hl]; exact (List.getElem?_eq_some_iff.mp h2).1
 refine ⟨v,ds0[i],h1,List.getElem?_eq_getElem hi,(ch i).choose_spec.2 t v _ ht h1 (List.getElem?_eq_getElem hi) _ (fun a z=>z.imp (fun ⟨j,z⟩=>⟨j,(ch j).choose_spec.1 a z⟩) id) fun a z z2=>?_⟩
 rcases z2 with ⟨j,z2⟩ | z2
 ·have:=e.dj i j a z ((ch j).choose_spec.1 a z2)
  subst this
  exact z2
 ·exact absurd z2 (e.dx i a z)
def leD:List Nat→List Nat→Bool
 | [],[]=>true
 | a :: r,b :: s=>decide (a≤b) && leD r s
 | _,_=>false
theorem cN:∀ {a b:List Nat},leD a b=true→a.length=b.length∧∀ (i:Nat) x y,a[i]?=some x→b[i]?=some y→x≤y
 | [],[],_=>⟨rfl,fun i x y h=>by simp at h⟩
 | a :: r,b :: s,h=>by
  unfold leD at h
  rw [Bool.and_eq_true] at h
  obtain ⟨h1,h2⟩:=h
  obtain ⟨h3,h4⟩:=cN h2
  refine ⟨by rw [List.length_cons,List.length_cons,h3],fun i x y e1 e2=>?_⟩
  cases i with
  | zero=>cases e1; cases e2; exact of_decide_eq_true h1
  | succ i=>exact h4 i x y e1 e2
 | [],_ :: _,h=>nomatch h
 | _ :: _,[],h=>nomatch h
theorem HH (hd:leD ds0 ds=true) (h:tF K false ds ds' d f σ H Q):tF K p ds0 ds' d f σ H Q:=by
 obtain ⟨Ox,en,R,t,en',e,hf,k⟩:=h
 obtain ⟨R1,s1,e1⟩:=e.cut (cN hd).1 (cN hd).2
 refine ⟨Ox,en,R1,t,en',e1,hf,fun v H' R' F P o=>k v H' R' F ⟨P.env,P.fx,fun a o q n=>P.keep a o q fun i z=>n i (s1 i a z),fun a z=>(P.own a z).imp (fun ⟨i,z⟩=>⟨i,s1 i a z⟩) id,P.dom,fun z=>nomatch z⟩ o⟩
theorem AD (hd:leD ds0 ds=true) (h:tF K true ds ds 3 f σ H Q):tF K true ds0 ds0 3 f σ H Q:=by
 obtain ⟨Ox,en,R,t,en',e,hf,k⟩:=h
 obtain ⟨R1,s1,e1⟩:=e.cut (cN hd).1 (cN hd).2
 refine ⟨Ox,en,R1,t,en',e1,hf,fun v H' R' F P o=>?_⟩
 obtain ⟨a1,a2,a3⟩:=P.pure rfl
 subst a1 a2
 have nf:∀ a,F a→H a=none:=fun a z=>by
  rcases P.own a (.inl z) with ⟨i,z2⟩ | z2
  ·exact absurd (.inl z) (P.env.dx i a z2)
  ·exact z2
 have nt:NewTo H H' F:=⟨a3,fun a z=>⟨nf a z,P.env.dom a (.inr (.inl z))⟩⟩
 exact k v H' R F (Post.new e nt.1 nt.2) (Ow.full t o)
theorem Hg {g:D→Option D} (h:tF K p ds ds1 d (e1 g f) σ H Q):tUn (rF1 K g d) (tF K p ds ds1 d1 f) σ H Q:=by
 obtain ⟨Ox,en,R,t,en',e,hf,k⟩:=h
 unfold e1 at hf
 obtain ⟨⟨t1,en1⟩,h1,hf⟩:=Option.bind_eq_some_iff.mp hf
 obtain ⟨t',h3,hf⟩:=Option.map_eq_some_iff.mp hf
 cases hf
 refine ⟨Ox,en,R,t1,en1,e,h1,fun v H' R' F P o=>?_⟩
 refine ⟨Own R' Ox,t1,t,Ow.letgo P (fun _ z=>z) o,P.doms,h3,fun v2 H2 F2 n o2=>k v2 H2 R' F2 (P.fin n) (jY ▸ o2)⟩
theorem nk {g:D→D→Option D} (h:tF K (p1 && p2) ds ds2 d (e2 g f1 f2) σ H Q):tOp (rF2 K g d) (tF K p1 ds ds1 d1 f1) (tF K p2 ds1 ds2 d2 f2) σ H Q:=by
 obtain ⟨Ox,en,R,t,en',e,hf,k⟩:=h
 unfold e2 at hf
 obtain ⟨⟨t1,en1⟩,h1,hf⟩:=Option.bind_eq_some_iff.mp hf
 obtain ⟨⟨t2,en2⟩,h2,hf⟩:=Option.bind_eq_some_iff.mp hf
 obtain ⟨t',h3,hf⟩:=Option.map_eq_some_iff.mp hf
 cases hf
 refine two e h1 h2 fun x y H2 R2 F1 F2 P o1 o2=>?_
 exact ⟨Own R2 Ox,t1,t2,t,Ow.letgo P (fun _=>.inl) o1,Ow.letgo P (fun _=>.inr) o2,P.doms,h3,fun v2 H3 F3 n o3=>k v2 H3 R2 F3 (P.fin n) (jY ▸ o3)⟩
theorem Post.after {H1:Hp} {R1 R2:Nat→AS} {F1 F:AS} (P1:Post K p1 ds1 Ox σ H en R en1 H1 R1 F1) (P2:Post K p2 ds2 Ox σ H1 en1 R1 en2 H' R2 F):Post K (p1 && p2) ds2 Ox σ H en R en2 H' R2 F:=by
 have P1':=P1.less (F':=NoA) fun _ z=>z.elim
 have P2':Post K p2 ds2 (U NoA Ox) σ H1 en1 R1 en2 H' R2 F:=by rw [fE]; exact P2
 have:=P1'.trans P2'
 rw [fE] at this
 exact this
theorem Post.env0 {F:AS} (P:Post K p ds' Ox σ H en R en' H' R' F):EnvOk K ds' Ox H' σ en' R':=P.env.fewer fun a z=>.inr z
theorem Hl (h:tF K (p1 && p2) ds ds1 d (fy f1 f2) σ H Q):Aj (tF K p1 ds ds1 d1 f1) (tF K p2 ds1 ds1 d f2) σ H Q:=by
 obtain ⟨Ox,en,R,t,en',e,hf,k⟩:=h
 unfold fy at hf
 obtain ⟨⟨t1,en1⟩,h1,hf⟩:=Option.bind_eq_some_iff.mp hf
 refine ⟨Ox,en,R,t1,en1,e,h1,fun v H1 R1 F1 P1 o1=>?_⟩
 cases t1 with
 | bool b =>
  have ev:v=.bl b:=o1
  refine ⟨b,ev,?_⟩
  cases b with
  | true =>
   rw [if_pos rfl]
   exact ⟨Ox,en1,R1,t,en',P1.env0,hf,fun v2 H2 R2 F2 P2 o2=>k v2 H2 R2 F2 (P1.after P2) o2⟩
  | false =>
   cases hf
   rw [if_neg Bool.false_ne_true]
   refine k _ H1 R1 NoA ?_ rfl
   have:=(P1.less (F':=NoA) fun _ z=>z.elim)
   exact ⟨this.env,this.fx,this.keep,this.own,this.dom,fun hp=>this.pure (by cases p1 <;> simp_all)⟩
 | _=>cases hf
theorem HG (h:tF K (p1 && p2) ds ds1 d (eOr f1 f2) σ H Q):Eb (tF K p1 ds ds1 d1 f1) (tF K p2 ds1 ds1 d f2) σ H Q:=by
 obtain ⟨Ox,en,R,t,en',e,hf,k⟩:=h
 unfold eOr at hf
 obtain ⟨⟨t1,en1⟩,h1,hf⟩:=Option.bind_eq_some_iff.mp hf
 refine ⟨Ox,en,R,t1,en1,e,h1,fun v H1 R1 F1 P1 o1=>?_⟩
 cases t1 with
 | bool b =>
  have ev:v=.bl b:=o1
  refine ⟨b,ev,?_⟩
  cases b with
  | false =>
   rw [if_neg Bool.false_ne_true]
   exact ⟨Ox,en1,R1,t,en',P1.env0,hf,fun v2 H2 R2 F2 P2 o2=>k v2 H2 R2 F2 (P1.after P2) o2⟩
  | true =>
   cases hf
   rw [if_pos rfl]
   refine k _ H1 R1 NoA ?_ rfl
   have:=(P1.less (F':=NoA) fun _ z=>z.elim)
   exact ⟨this.env,this.fx,this.keep,this.own,this.dom,fun hp=>this.pure (by cases p1 <;> simp_all)⟩
 | _=>cases hf
theorem Hh (h:tF K p ds ds1 3 (kx f) σ H Q):Ae (tF K p ds ds1 d1 f) σ H Q:=by
 obtain ⟨Ox,en,R,t,en',e,hf,k⟩:=h
 unfold kx at hf
 obtain ⟨⟨t1,en1⟩,h1,hf⟩:=Option.bind_eq_some_iff.mp hf
 refine ⟨Ox,en,R,t1,en1,e,h1,fun v H1 R1 F1 P1 o1=>?_⟩
 cases t1 with
 | bool b =>
  cases hf
  exact ⟨b,o1,k _ H1 R1 NoA (P1.less fun _ z=>z.elim) rfl⟩
 | _=>cases hf
def tFT (K:PySem.W.Frag) (p:Bool) (ds ds':List Nat) (f:MT):TT:=fun σ H Q =>
 ∃ Ox en R b en',EnvOk K ds Ox H σ en R∧f en=some (b,en')∧∀ H' R',Post K p ds' Ox σ H en R en' H' R' NoA→Q b H'
variable {c c1 c2:MT} {QT:Bool→Hp→Prop}
theorem oi (h:tFT K p ds ds' (tV f) σ H QT):tB (tF K p ds ds' d f) σ H QT:=by
 obtain ⟨Ox,en,R,b,en',e,hf,k⟩:=h
 unfold tV at hf
 obtain ⟨⟨t1,en1⟩,h1,hf⟩:=Option.bind_eq_some_iff.mp hf
 refine ⟨Ox,en,R,t1,en1,e,h1,fun v H1 R1 F1 P1 o1=>?_⟩
 cases t1 with
 | bool b =>
  cases hf
  exact ⟨_,o1,k H1 R1 (P1.less fun _ z=>z.elim)⟩
 | _=>cases hf
theorem Fw (h:tFT K (p1 && p2) ds ds1 (fC c1 c2) σ H QT):Eh (tFT K p1 ds ds1 c1) (tFT K p2 ds1 ds1 c2) σ H QT:=by
 obtain ⟨Ox,en,R,b,en',e,hf,k⟩:=h
 unfold fC at hf
 obtain ⟨⟨b1,en1⟩,h1,hf⟩:=Option.bind_eq_some_iff.mp hf
 refine ⟨Ox,en,R,b1,en1,e,h1,fun H1 R1 P1=>?_⟩
 cases b1 with
 | true =>
  rw [if_pos rfl]
  exact ⟨Ox,en1,R1,b,en',P1.env0,hf,fun H2 R2 P2=>k H2 R2 (P1.after P2)⟩
 | false =>
  cases hf
  rw [if_neg Bool.false_ne_true]
  exact k H1 R1 ⟨P1.env,P1.fx,P1.keep,P1.own,P1.dom,fun hp=>P1.pure (by cases p1 <;> simp_all)⟩
theorem GY (h:tFT K (p1 && p2) ds ds1 (bOr c1 c2) σ H QT):tOr (tFT K p1 ds ds1 c1) (tFT K p2 ds1 ds1 c2) σ H QT:=by
 obtain ⟨Ox,en,R,b,en',e,hf,k⟩:=h
 unfold bOr at hf
 obtain ⟨⟨b1,en1⟩,h1,hf⟩:=Option.bind_eq_some_iff.mp hf
 refine ⟨Ox,en,R,b1,en1,e,h1,fun H1 R1 P1=>?_⟩
 cases b1 with
 | false =>
  rw [if_neg Bool.false_ne_true]
  exact ⟨Ox,en1,R1,b,en',P1.env0,hf,fun H2 R2 P2=>k H2 R2 (P1.after P2)⟩
 | true =>
  cases hf
  rw [if_pos rfl]
  exact k H1 R1 ⟨P1.env,P1.fx,P1.keep,P1.own,P1.dom,fun hp=>P1.pure (by cases p1 <;> simp_all)⟩
theorem Fu (h:tFT K p ds ds1 (ck c) σ H QT):Ec (tFT K p ds ds1 c) σ H QT:=by
 obtain ⟨Ox,en,R,b,en',e,hf,k⟩:=h
 unfold ck at hf
 obtain ⟨⟨b1,en1⟩,h1,hf⟩:=Option.map_eq_some_iff.mp hf
 cases hf
 exact ⟨Ox,en,R,b1,_,e,h1,fun H1 R1 P1=>k H1 R1 P1⟩
theorem Fv (hd:leD ds0 ds=true) (h:tFT K true ds ds c σ H QT):tFT K true ds0 ds0 c σ H QT:=by
 obtain ⟨Ox,en,R,t,en',e,hf,k⟩:=h
 obtain ⟨R1,s1,e1⟩:=e.cut (cN hd).1 (cN hd).2
 refine ⟨Ox,en,R1,t,en',e1,hf,fun H' R' P=>?_⟩
 obtain ⟨a1,a2,a3⟩:=P.pure rfl
 subst a1 a2
 exact k H' R (Post.new e a3 fun _ z=>z.elim)
end
end L2
namespace L2
open PySem PySem.Spec PyProof.Rows
abbrev Sh:=List (Nat ⊕ Nat)
def OwA (K:PySem.W.Frag) (O:AS) (H:Hp) (σ:St):List (D ⊕ Nat)→Sh→List V→AS→Prop
 | [],ds,vs,_=>ds=[]∧vs=[]
 | .inl t :: as,ds,vs,F=>∃ v r d dr,∃ F1 F2:AS,vs=v :: r∧ds=.inl d :: dr∧(∀ b,F1 b→F b)∧(∀ b,F2 b→F b)∧(∀ b,F1 b→¬ F2 b)∧Ow K O H t d v F1∧OwA K O H σ as dr r F2
 | .inr i :: as,ds,vs,F=>∃ v r dr,vs=v :: r∧ds=.inr i :: dr∧σ[i]?=some (some v)∧OwA K O H σ as dr r F
def tFA (K:PySem.W.Frag) (p:Bool) (ds ds':List Nat) (sh:Sh) (f:MA):TA:=fun σ H Q =>
 ∃ Ox en R as en',EnvOk K ds Ox H σ en R∧f en=some (as,en')∧∀ vs H' R' F,Post K p ds' Ox σ H en R en' H' R' F→OwA K (Own R' (U F Ox)) H' σ as sh vs F→Q vs H'
def bI (fa:MA):ME:=fun en=>(fa en).bind fun r=>(vals r.1).bind fun ts=>if ts.length≤sizeLine then some (.list ts,r.2) else none
def bS (fa:MA):ME:=fun en=>(fa en).bind fun r=>(vals r.1).bind fun ts=>if ts.length≤sizeLine then some (.tuple ts,r.2) else none
section
variable {K:PySem.W.Frag} {p p1 p2:Bool} {ds ds0 ds1 ds2 ds':List Nat} {Ox Ox' O O':AS} {H H':Hp} {σ:St} {en en' en1 en2:En} {R R':Nat→AS} {d d' d1 d2:Nat} {t t1 t2:D} {Q:VK} {f f1 f2:ME} {fa:MA} {sh:Sh} {QA:List V→Hp→Prop} {i:Nat}
theorem Gc (h:tFA K true ds ds [] ag σ H QA):nr σ H QA:=by
 obtain ⟨Ox,en,R,as,en',e,hf,k⟩:=h
 cases hf
 exact k [] H R NoA (Post.refl e) ⟨rfl,rfl⟩
theorem Cc (h:tFA K (p1 && p2) ds ds2 (.inl d :: sh) (ae f fa) σ H QA):jO (tF K p1 ds ds1 d f) (tFA K p2 ds1 ds2 sh fa) σ H QA:=by
 obtain ⟨Ox,en,R,as,en',e,hf,k⟩:=h
 unfold ae at hf
 obtain ⟨⟨t1,en1⟩,h1,hf⟩:=Option.bind_eq_some_iff.mp hf
 obtain ⟨⟨as2,en2⟩,h2,hf⟩:=Option.map_eq_some_iff.mp hf
 cases hf
 refine ⟨Ox,en,R,t1,en1,e,h1,fun x H1 R1 F1 P1 o1=>?_⟩
 refine ⟨U F1 Ox,en1,R1,as2,en2,P1.env,h2,fun vs H2 R2 F2 P2 o2=>?_⟩
 refine k (x :: vs) H2 R2 (U F1 F2) (P1.trans P2) ⟨x,vs,d,sh,F1,F2,rfl,rfl,fun _=>.inl,fun _=>.inr,fun b z1 z2=>P2.fx b z2 (.inl z1),Ow.over P1.env P2 o1,?_⟩
 rw [← jA]
 exact o2
theorem Ca (h:tFA K p ds ds2 (.inr i :: sh) (bt i fa) σ H QA):jO (gO i) (tFA K p ds ds2 sh fa) σ H QA:=by
 obtain ⟨Ox,en,R,as,en',e,hf,k⟩:=h
 unfold bt at hf
 obtain ⟨t0,h0,hf⟩:=Option.bind_eq_some_iff.mp hf
 obtain ⟨⟨as2,en2⟩,h2,hf⟩:=Option.map_eq_some_iff.mp hf
 cases hf
 have q:en[i]?=some (some t0):=by
  cases q:en[i]? with
  | none=>rw [q] at h0; cases h0
  | some o=>rw [q] at h0; exact congrArg some h0
 obtain ⟨v,d,h1,_⟩:=e.at_ i t0 q
 exact ⟨v,h1,Ox,en,R,as2,en2,e,h2,fun vs H2 R2 F2 P2 o2=>k (v :: vs) H2 R2 F2 P2 ⟨v,vs,sh,rfl,rfl,h1,o2⟩⟩
def bV (c:Nat):Sh→Bool
 | []=>true
 | .inl d :: r=>decide (c≤d) && bV c r
 | .inr _ :: _=>false
theorem OwA.ows:∀ {as:List (D ⊕ Nat)} {sh:Sh} {vs:List V} {F:AS} {ts:List D} {c:Nat},bV c sh=true→vals as=some ts→OwA K O H σ as sh vs F →
  ∃ F':AS,(∀ b,F' b→F b)∧∀ O':AS,(∀ a,O' a→O a)→(∀ a,F a→O' a→F' a)→Ows K O' H ts c vs F'
 | [],_,_,F,ts,c,_,hv,h=>by
  cases hv
  exact ⟨F,fun _ z=>z,fun _ _ _=>h.2⟩
 | .inl t :: as,_,_,F,ts,c,hs,hv,h=>by
  obtain ⟨v,r,d,dr,F1,F2,e1,e2,s1,s2,s3,h1,h2⟩:=h
  subst e1 e2
  unfold vals at hv
  obtain ⟨ts',hv',e⟩:=Option.map_eq_some_iff.mp hv
  subst e
  unfold bV at hs
  rw [Bool.and_eq_true] at hs
  obtain ⟨G1,a1,a2⟩:=Ow.cut t (of_decide_eq_true hs.1) h1
  obtain ⟨G2,b1,b2⟩:=OwA.ows hs.2 hv' h2
  refine ⟨fun b=>G1 b∨G2 b,fun b hb=>hb.elim (fun z=>s1 _ (a1 _ z)) fun z=>s2 _ (b1 _ z),fun O' ho hx=>⟨v,r,G1,G2,rfl,fun b=>.inl,fun b=>.inr,fun b z1 z2=>s3 b (a1 b z1) (b1 b z2),a2 O' ho fun b hb hz=>?_,b2 O' ho fun b hb hz=>?_⟩⟩
  ·exact (hx b (s1 b hb) hz).elim id fun z=>absurd (b1 b z) (s3 b hb)
  ·exact (hx b (s2 b hb) hz).elim (fun z=>absurd hb (s3 b (a1 b z))) id
 | .inr i :: as,_,_,F,ts,c,_,hv,_=>by cases hv
theorem OwA.len:∀ {as:List (D ⊕ Nat)} {sh:Sh} {vs:List V} {F:AS},OwA K O H σ as sh vs F→vs.length=as.length
 | [],_,_,_,h=>by rw [h.2]; rfl
 | .inl t :: as,_,_,_,h=>by
  obtain ⟨v,r,d,dr,F1,F2,e1,e2,s1,s2,s3,h1,h2⟩:=h
  rw [e1,List.length_cons,List.length_cons,h2.len]
 | .inr i :: as,_,_,_,h=>by
  obtain ⟨v,r,dr,e1,e2,e3,h2⟩:=h
  rw [e1,List.length_cons,List.length_cons,h2.len]
theorem kg:∀ {as:List (D ⊕ Nat)} {ts:List D},vals as=some ts→ts.length=as.length
 | [],_,h=>by cases h; rfl
 | .inl t :: as,_,h=>by
  unfold vals at h
  obtain ⟨ts',hv',e⟩:=Option.map_eq_some_iff.mp h
  subst e
  rw [List.length_cons,List.length_cons,kg hv']
 | .inr _ :: _,_,h=>by cases h
theorem sN {g:List D→Option D} (hs:bV 0 sh=true) (h:tF K p ds ds1 d (eN g fa) σ H Q):tCB (rFn K g d) (tFA K p ds ds1 sh fa) σ H Q:=by
 obtain ⟨Ox,en,R,t,en',e,hf,k⟩:=h
 unfold eN at hf
 obtain ⟨⟨as,en1⟩,h1,hf⟩:=Option.bind_eq_some_iff.mp hf
 obtain ⟨ts,h2,hf⟩:=Option.bind_eq_some_iff.mp hf
 obtain ⟨t',h3,hf⟩:=Option.map_eq_some_iff.mp hf
 cases hf
 refine ⟨Ox,en,R,as,en1,e,h1,fun vs H1 R1 F P o=>?_⟩
 obtain ⟨F',s1,s2⟩:=OwA.ows hs h2 o
 have o2:Ows K (Own R1 Ox) H1 ts 0 vs F':=s2 _ (fun a z=>z.imp id .inr) fun a z z2=>by
  rcases z2 with ⟨i,z2⟩ | z2
  ·exact absurd (.inl z) (P.env.dx i a z2)
  ·exact absurd z2 (P.fx a z)
 exact ⟨Own R1 Ox,ts,t,Ows.any0 ts o2,P.doms,h3,fun v2 H2 F2 n o2=>k v2 H2 R1 F2 (P.fin n) (jY ▸ o2)⟩
theorem Post.add {H1:Hp} {F G:AS} (P:Post K p ds' Ox σ H en R en' H1 R' F) (n:NewTo H1 H' G):Post K p ds' Ox σ H en R en' H' R' (U F G):=by
 have P2:Post K true ds' (U F Ox) σ H1 en' R' en' H' R' G:=Post.new P.env n.1 n.2
 have:=P.trans P2
 rw [Bool.and_true] at this
 exact this
theorem bw {l:Addr} {o:HO} (hl:H l=none):NewTo H (upd H l o) (fun b=>b=l):=by
 refine ⟨fun a u q=>?_,fun a z=>?_⟩
 ·rw [aK]
  ·exact q
  ·intro z
   subst z
   rw [hl] at q
   cases q
 ·subst z
  exact ⟨hl,_,aG⟩
theorem Hi {c:Nat} (hs:bV c sh=true) (hd:dn d=c) (hz:d≠0) (h:tF K p ds ds1 d (bI fa) σ H Q):Ed (tFA K p ds ds1 sh fa) σ H Q:=by
 obtain ⟨Ox,en,R,t,en',e,hf,k⟩:=h
 unfold bI at hf
 obtain ⟨⟨as,en1⟩,h1,hf⟩:=Option.bind_eq_some_iff.mp hf
 obtain ⟨ts,h2,hf⟩:=Option.bind_eq_some_iff.mp hf
 by_cases hlen:ts.length≤sizeLine
 case neg=>rw [if_neg hlen] at hf; cases hf
 rw [if_pos hlen] at hf
 cases hf
 refine ⟨Ox,en,R,as,en1,e,h1,fun vs H1 R1 F P o=>⟨?_,fun l hl=>?_⟩⟩
 ·rw [o.len,← kg h2]; exact hlen
 obtain ⟨F',s1,s2⟩:=OwA.ows hs h2 o
 have o2:=s2 (Own R1 (U F' Ox)) (fun a z=>z.imp id fun z=>z.imp (s1 a) id) fun a z z2=>by
  rcases z2 with ⟨i,z2⟩ | z2 | z2
  ·exact absurd (.inl z) (P.env.dx i a z2)
  ·exact z2
  ·exact absurd z2 (P.fx a z)
 have P':=(P.less s1).add (bw (o:=.lst vs) hl)
 have nl:∀ a,F' a→a≠l:=fun a z z2=>by
  subst z2
  obtain ⟨o',q⟩:=P.env.dom a (.inr (.inl (s1 a z)))
  rw [hl] at q
  cases q
 refine k (.ref l) (upd H1 l (.lst vs)) R1 _ P' ⟨l,vs,rfl,.inr ⟨hz,aG,.inr rfl,F',fun b z=>⟨.inl z,nl b z⟩,?_⟩⟩
 rw [hd]
 refine Ows.mv (G:=F') ⟨fun a o q _=>(bw (o:=.lst vs) hl).1 a o q,fun a z=>?_⟩ ts (fun _ z=>z) o2
 rcases z with z | (z | z) | z
 ·exact .inl (.inl z)
 ·exact .inl (.inr (.inl z))
 ·exact .inr (by rw [show a=l from z]; exact hl)
 ·exact .inl (.inr (.inr z))
theorem He {c:Nat} (hs:bV c sh=true) (hd:dn d=c) (h:tF K p ds ds1 d (bS fa) σ H Q):D8 (tFA K p ds ds1 sh fa) σ H Q:=by
 obtain ⟨Ox,en,R,t,en',e,hf,k⟩:=h
 unfold bS at hf
 obtain ⟨⟨as,en1⟩,h1,hf⟩:=Option.bind_eq_some_iff.mp hf
 obtain ⟨ts,h2,hf⟩:=Option.bind_eq_some_iff.mp hf
 by_cases hlen:ts.length≤sizeLine
 case neg=>rw [if_neg hlen] at hf; cases hf
 rw [if_pos hlen] at hf
 cases hf
 refine ⟨Ox,en,R,as,en1,e,h1,fun vs H1 R1 F P o=>⟨?_,fun l hl=>?_⟩⟩
 ·rw [o.len,← kg h2]; exact hlen
 obtain ⟨F',s1,s2⟩:=OwA.ows hs h2 o
 have o2:=s2 (Own R1 (U F' Ox)) (fun a z=>z.imp id fun z=>z.imp (s1 a) id) fun a z z2=>by
  rcases z2 with ⟨i,z2⟩ | z2 | z2
  ·exact absurd (.inl z) (P.env.dx i a z2)
  ·exact z2
  ·exact absurd z2 (P.fx a z)
 have nl:∀ a,Own R1 (U F' Ox) a→a≠l:=fun a z z2=>by
  subst z2
  obtain ⟨o',q⟩:=P.env.dom a (z.imp id fun z=>z.imp (s1 a) id)
  rw [hl] at q
  cases q
 by_cases hz:d=0
 ·subst hz
  have P':=(P.less s1).add (G:=NoA) (H':=upd H1 l (.tup vs)) ⟨(bw (o:=.tup vs) hl).1,fun _ z=>z.elim⟩
  have eq:U F' NoA=F':=eX fun a=>⟨fun z=>z.elim id fun z=>z.elim,.inl⟩
  rw [eq] at P'
  refine k (.ref l) (upd H1 l (.tup vs)) R1 _ P' ⟨l,vs,rfl,.inl ⟨rfl,⟨aG,fun z=>nl l z rfl⟩,?_⟩⟩
  have hc:c=0:=hd.symm
  subst hc
  exact Ows.mv (G:=F') ⟨fun a o q _=>(bw (o:=.tup vs) hl).1 a o q,fun a z=>.inl z⟩ ts (fun _ z=>z) o2
 ·have P':=(P.less s1).add (bw (o:=.tup vs) hl)
  refine k (.ref l) (upd H1 l (.tup vs)) R1 _ P' ⟨l,vs,rfl,.inr ⟨hz,aG,.inr rfl,F',fun b z=>⟨.inl z,nl b (.inr (.inl z))⟩,?_⟩⟩
  rw [hd]
  refine Ows.mv (G:=F') ⟨fun a o q _=>(bw (o:=.tup vs) hl).1 a o q,fun a z=>?_⟩ ts (fun _ z=>z) o2
  rcases z with z | (z | z) | z
  ·exact .inl (.inl z)
  ·exact .inl (.inr (.inl z))
  ·exact .inr (by rw [show a=l from z]; exact hl)
  ·exact .inl (.inr (.inr z))
end
def spF (K:PySem.W.Frag) (dps:List Nat) (dr:Nat) (F:List D→Option (D × En)):Sp:=fun vs H Q _ =>
 ∃ Ox ts R r outs,EnvOk K dps Ox H (vs.map some) (ts.map some) R∧F ts=some (r,outs) ∧
  ∀ v H' R' Fr,Post K false dps Ox (vs.map some) H (ts.map some) R outs H' R' Fr→Ow K (Own R' (U Fr Ox)) H' r dr v Fr→Q v H'
def c9:List (D ⊕ Nat)→En→Option (List D)
 | [],_=>some []
 | .inl t :: r,en=>(c9 r en).map (t :: ·)
 | .inr i :: r,en=>(en[i]?).join.bind fun t=>(c9 r en).map (t :: ·)
def wb:List (D ⊕ Nat)→En→En→En
 | .inr i :: r,o :: outs,en=>wb r outs (en.set i o)
 | .inl _ :: r,_ :: outs,en=>wb r outs en
 | _,_,en=>en
def ay (F:List D→Option (D × En)) (fa:MA):ME:=fun en=>(fa en).bind fun r=>(c9 r.1 r.2).bind fun ts=>(F ts).map fun q=>(q.1,wb r.1 q.2 r.2)
def ia:Sh→List Nat
 | []=>[]
 | .inl _ :: r=>ia r
 | .inr i :: r=>i :: ia r
def eW (ds:List Nat):Sh→List Nat→Bool
 | [],[]=>true
 | .inl d :: r,q :: s=>decide (d=q) && eW ds r s
 | .inr i :: r,q :: s=>decide (ds[i]?=some q) && (decide (i ∉ ia r) && eW ds r s)
 | _,_=>false
def ic:Sh→Bool
 | []=>true
 | .inl _ :: r=>ic r
 | .inr _ :: _=>false
section
variable {K:PySem.W.Frag} {p p1 p2:Bool} {ds ds0 ds1 ds2 ds' dps:List Nat} {Ox Ox' O O':AS} {H H':Hp} {σ:St} {en en' en1 en2:En} {R R':Nat→AS} {d d' d1 d2 dr:Nat} {t t1 t2:D} {Q:VK} {f f1 f2:ME} {fa:MA} {sh:Sh} {QA:List V→Hp→Prop} {i:Nat}
theorem OwA.parts:∀ {as:List (D ⊕ Nat)} {sh:Sh} {vs:List V} {F:AS},OwA K O H σ as sh vs F →
  ∃ Rp:Nat→AS,(∀ (j:Nat) t,as[j]?=some (.inl t)→∃ v d,vs[j]?=some v∧sh[j]?=some (.inl d)∧Ow K O H t d v (Rp j))∧(∀ (j i:Nat),as[j]?=some (.inr i)→∃ v,vs[j]?=some v∧sh[j]?=some (.inr i)∧σ[i]?=some (some v)) ∧
   (∀ j a,Rp j a→F a)∧(∀ j j' a,Rp j a→Rp j' a→j=j')
 | [],sh,vs,F,h=>⟨fun _=>NoA,fun j t z=>by simp at z,fun j i z=>by simp at z,fun _ _ z=>z.elim,fun _ _ _ z=>z.elim⟩
 | .inl t :: as,sh,vs,F,h=>by
  obtain ⟨v,r,d,dr,F1,F2,e1,e2,s1,s2,s3,h1,h2⟩:=h
  subst e1 e2
  obtain ⟨Rp,a1,a2,a3,a4⟩:=h2.parts
  refine ⟨fun j=>match j with | 0=>F1 | j+1=>Rp j,fun j u hj=>?_,fun j i hj=>?_,fun j a z=>?_,fun j j' a z z'=>?_⟩
  ·cases j with
   | zero =>
    have:t=u:=by simpa using hj
    subst this
    exact ⟨v,d,rfl,rfl,h1⟩
   | succ j=>exact a1 j u (by simpa using hj)
  ·cases j with
   | zero=>simp at hj
   | succ j=>exact a2 j i (by simpa using hj)
  ·cases j with
   | zero=>exact s1 a z
   | succ j=>exact s2 a (a3 j a z)
  ·cases j with
   | zero =>
    cases j' with
    | zero=>rfl
    | succ j'=>exact absurd (a3 j' a z') (s3 a z)
   | succ j =>
    cases j' with
    | zero=>exact absurd (a3 j a z) (s3 a z')
    | succ j'=>rw [a4 j j' a z z']
 | .inr i :: as,sh,vs,F,h=>by
  obtain ⟨v,r,dr,e1,e2,e3,h2⟩:=h
  subst e1 e2
  obtain ⟨Rp,a1,a2,a3,a4⟩:=h2.parts
  refine ⟨fun j=>match j with | 0=>NoA | j+1=>Rp j,fun j u hj=>?_,fun j i' hj=>?_,fun j a z=>?_,fun j j' a z z'=>?_⟩
  ·cases j with
   | zero=>simp at hj
   | succ j=>exact a1 j u (by simpa using hj)
  ·cases j with
   | zero =>
    have:i=i':=by simpa using hj
    subst this
    exact ⟨v,rfl,rfl,e3⟩
   | succ j=>exact a2 j i' (by simpa using hj)
  ·cases j with
   | zero=>exact z.elim
   | succ j=>exact a3 j a z
  ·cases j with
   | zero=>exact z.elim
   | succ j =>
    cases j' with
    | zero=>exact z'.elim
    | succ j'=>rw [a4 j j' a z z']
theorem kB:∀ {as:List (D ⊕ Nat)} {en:En} {ts:List D},c9 as en=some ts→ts.length=as.length∧∀ (j:Nat) t,ts[j]?=some t→as[j]?=some (.inl t)∨∃ i,as[j]?=some (.inr i)∧en[i]?=some (some t)
 | [],_,_,h=>by cases h; exact ⟨rfl,fun j t z=>by simp at z⟩
 | .inl t :: as,en,_,h=>by
  unfold c9 at h
  obtain ⟨ts',h',e⟩:=Option.map_eq_some_iff.mp h
  subst e
  obtain ⟨l,g⟩:=kB h'
  refine ⟨by rw [List.length_cons,List.length_cons,l],fun j u z=>?_⟩
  cases j with
  | zero=>simp at z; subst z; exact .inl rfl
  | succ j=>exact g j u (by simpa using z)
 | .inr i :: as,en,_,h=>by
  unfold c9 at h
  obtain ⟨t,ht,h⟩:=Option.bind_eq_some_iff.mp h
  obtain ⟨ts',h',e⟩:=Option.map_eq_some_iff.mp h
  subst e
  obtain ⟨l,g⟩:=kB h'
  refine ⟨by rw [List.length_cons,List.length_cons,l],fun j u z=>?_⟩
  cases j with
  | zero =>
   simp at z
   subst z
   refine .inr ⟨i,rfl,?_⟩
   cases q:en[i]? with
   | none=>rw [q] at ht; cases ht
   | some o=>rw [q] at ht; exact congrArg some ht
  | succ j=>exact g j u (by simpa using z)
theorem jy:∀ {sh:Sh} {dps:List Nat},eW ds sh dps=true→sh.length=dps.length∧(∀ (j d:Nat),sh[j]?=some (.inl d)→dps[j]?=some d)∧(∀ (j i:Nat),sh[j]?=some (.inr i)→∃ q,dps[j]?=some q∧ds[i]?=some q) ∧
   (∀ (j j' i:Nat),sh[j]?=some (.inr i)→sh[j']?=some (.inr i)→j=j')
 | [],[],_=>⟨rfl,fun j d z=>by simp at z,fun j d z=>by simp at z,fun j j' d z=>by simp at z⟩
 | .inl d :: r,q :: s,h=>by
  unfold eW at h
  rw [Bool.and_eq_true] at h
  obtain ⟨h1,h2⟩:=h
  have h1':=of_decide_eq_true h1
  subst h1'
  obtain ⟨l,a,b,c⟩:=jy h2
  refine ⟨by rw [List.length_cons,List.length_cons,l],fun j u z=>?_,fun j i z=>?_,fun j j' i z z'=>?_⟩
  ·cases j with
   | zero=>simp at z; subst z; rfl
   | succ j=>exact a j u (by simpa using z)
  ·cases j with
   | zero=>simp at z
   | succ j=>exact b j i (by simpa using z)
  ·cases j with
   | zero=>simp at z
   | succ j =>
    cases j' with
    | zero=>simp at z'
    | succ j'=>rw [c j j' i (by simpa using z) (by simpa using z')]
 | .inr i0 :: r,q :: s,h=>by
  unfold eW at h
  rw [Bool.and_eq_true,Bool.and_eq_true] at h
  obtain ⟨h1,h2,h3⟩:=h
  have h1':=of_decide_eq_true h1
  have h2':=of_decide_eq_true h2
  obtain ⟨l,a,b,c⟩:=jy h3
  have mem:∀ {r:Sh} {j i:Nat},r[j]?=some (.inr i)→i∈ia r:=fun {r}=>by
   induction r with
   | nil=>intro j i z; simp at z
   | cons x r ih =>
    intro j i z
    cases j with
    | zero =>
     simp at z
     subst z
     unfold ia
     exact List.mem_cons_self
    | succ j =>
     have:=ih (j:=j) (i:=i) (by simpa using z)
     cases x with
     | inl _=>exact this
     | inr _=>exact List.mem_cons_of_mem _ this
  refine ⟨by rw [List.length_cons,List.length_cons,l],fun j u z=>?_,fun j i z=>?_,fun j j' i z z'=>?_⟩
  ·cases j with
   | zero=>simp at z
   | succ j=>exact a j u (by simpa using z)
  ·cases j with
   | zero=>simp at z; subst z; exact ⟨q,rfl,h1'⟩
   | succ j=>exact b j i (by simpa using z)
  ·cases j with
   | zero =>
    simp at z
    subst z
    cases j' with
    | zero=>rfl
    | succ j'=>exact absurd (mem (by simpa using z')) h2'
   | succ j =>
    cases j' with
    | zero =>
     simp at z'
     subst z'
     exact absurd (mem (by simpa using z)) h2'
    | succ j'=>rw [c j j' i (by simpa using z) (by simpa using z')]
 | [],_ :: _,h=>nomatch h
 | .inl _ :: _,[],h=>nomatch h
 | .inr _ :: _,[],h=>nomatch h
theorem no:∀ (as:List (D ⊕ Nat)) (outs en:En),(wb as outs en).length=en.length
 | [],_,_=>by unfold wb; rfl
 | .inl _ :: as,[],_=>by unfold wb; rfl
 | .inr _ :: as,[],_=>by unfold wb; rfl
 | .inl _ :: as,o :: outs,en=>by unfold wb; exact no as outs en
 | .inr i :: as,o :: outs,en=>by unfold wb; rw [no as outs _,List.length_set]
theorem jd:∀ (as:List (D ⊕ Nat)) (outs en:En) (i:Nat),(∀ j:Nat,as[j]?≠some (.inr i))→(wb as outs en)[i]?=en[i]?
 | [],_,_,_,_=>by unfold wb; rfl
 | .inl _ :: as,[],_,_,_=>by unfold wb; rfl
 | .inr _ :: as,[],_,_,_=>by unfold wb; rfl
 | .inl _ :: as,o :: outs,en,i,h=>by unfold wb; exact jd as outs en i fun j=>h (j+1)
 | .inr k :: as,o :: outs,en,i,h=>by
  unfold wb
  rw [jd as outs _ i fun j=>h (j+1),List.getElem?_set_ne]
  intro e
  subst e
  exact h 0 rfl
theorem pU:∀ (as:List (D ⊕ Nat)) (outs en:En) (i j:Nat),as[j]?=some (.inr i)→(∀ j':Nat,as[j']?=some (.inr i)→j'=j)→outs.length=as.length→i < en.length→(wb as outs en)[i]?=outs[j]?
 | [],_,_,_,_,h,_,_,_=>by simp at h
 | .inl _ :: as,[],_,_,_,_,_,h,_=>by simp at h
 | .inr _ :: as,[],_,_,_,_,_,h,_=>by simp at h
 | .inl _ :: as,o :: outs,en,i,j,h,u,l,b=>by
  unfold wb
  cases j with
  | zero=>simp at h
  | succ j=>exact pU as outs en i j (by simpa using h) (fun j' z=>by have:=u (j'+1) (by simpa using z); omega) (by simpa using l) b
 | .inr k :: as,o :: outs,en,i,j,h,u,l,b=>by
  unfold wb
  cases j with
  | zero =>
   have e:k=i:=by simpa using h
   subst e
   rw [jd as outs _ k fun j' z=>by have:=u (j'+1) (by simpa using z); omega]
   rw [List.getElem?_set_self b]
   rfl
  | succ j=>exact pU as outs _ i j (by simpa using h) (fun j' z=>by have:=u (j'+1) (by simpa using z); omega) (by simpa using l) (by rw [List.length_set]; exact b)
end
end L2
namespace L2
open PySem PySem.Spec PyProof.Rows
section
variable {K:PySem.W.Frag} {p p1 p2:Bool} {ds ds0 ds1 ds2 ds' dps:List Nat} {Ox Ox' O O':AS} {H H':Hp} {σ:St} {en en' en1 en2:En} {R R':Nat→AS} {d d' d1 d2 dr:Nat} {t t1 t2:D} {Q:VK} {f f1 f2:ME} {fa:MA} {sh:Sh} {QA:List V→Hp→Prop} {i:Nat}
theorem OwA.shl:∀ {as:List (D ⊕ Nat)} {sh:Sh} {vs:List V} {F:AS},OwA K O H σ as sh vs F→sh.length=as.length
 | [],_,_,_,h=>by rw [h.1]; rfl
 | .inl t :: as,_,_,_,h=>by
  obtain ⟨v,r,d,dr,F1,F2,e1,e2,s1,s2,s3,h1,h2⟩:=h
  rw [e2,List.length_cons,List.length_cons,h2.shl]
 | .inr i :: as,_,_,_,h=>by
  obtain ⟨v,r,dr,e1,e2,e3,h2⟩:=h
  rw [e2,List.length_cons,List.length_cons,h2.shl]
theorem kW:∀ {sh:Sh},ic sh=true→∀ (j i:Nat),sh[j]?≠some (.inr i)
 | [],_,j,i,z=>by simp at z
 | .inl _ :: r,h,j,i,z=>by
  cases j with
  | zero=>simp at z
  | succ j=>exact kW (sh:=r) h j i (by simpa using z)
 | .inr _ :: r,h,_,_,_=>nomatch h
theorem Gf {E:XK} {F:List D→Option (D × En)} (hc:eW ds1 sh dps=true) (h:tF K (p && ic sh) ds ds1 dr (ay F fa) σ H Q):p0 (spF K dps dr F) [] E (tFA K p ds ds1 sh fa) σ H Q:=by
 obtain ⟨Ox,en,R,t,en',e,hf,k⟩:=h
 unfold ay at hf
 obtain ⟨⟨as,en1⟩,h1,hf⟩:=Option.bind_eq_some_iff.mp hf
 obtain ⟨ts,h2,hf⟩:=Option.bind_eq_some_iff.mp hf
 obtain ⟨⟨r,outs⟩,h3,hf⟩:=Option.map_eq_some_iff.mp hf
 cases hf
 refine ⟨Ox,en,R,as,en1,e,h1,fun vs H1 R1 F0 P o=>?_⟩
 obtain ⟨cl,c1,c2,c3⟩:=jy hc
 obtain ⟨Rp,a1,a2,a3,a4⟩:=o.parts
 obtain ⟨tl,tg⟩:=kB h2
 have ol:=o.len
 have asl:∀ (j i:Nat),as[j]?=some (.inr i)→sh[j]?=some (.inr i):=fun j i z=>(a2 j i z).choose_spec.2.1
 have asr:∀ (j i:Nat),sh[j]?=some (.inr i)→as[j]?=some (.inr i):=fun j i z=>by
  cases q:as[j]? with
  | none =>
   have e1:as.length≤j:=List.getElem?_eq_none_iff.mp q
   have e2:j < sh.length:=(List.getElem?_eq_some_iff.mp z).1
   have:=o.shl
   omega
  | some x =>
   cases x with
   | inl t =>
    obtain ⟨_,_,_,e2,_⟩:=a1 j t q
    rw [z] at e2; cases e2
   | inr i' =>
    have:=asl j i' q
    rw [z] at this
    cases this
    rfl
 let Rq:Nat→AS:=fun j=>match sh[j]? with | some (.inr i)=>R1 i | _=>Rp j
 have rq1:∀ j i:Nat,sh[j]?=some (.inr i)→Rq j=R1 i:=fun j i z=>by show (match sh[j]? with | some (.inr i)=>R1 i | _=>Rp j)=R1 i; rw [z]
 have rq2:∀ j:Nat,(∀ i:Nat,sh[j]?≠some (.inr i))→Rq j=Rp j:=fun j z=>by
  show (match sh[j]? with | some (.inr i)=>R1 i | _=>Rp j)=Rp j
  split
  ·next i q=>exact absurd q (z i)
  ·rfl
 have rqc:∀ (j:Nat) a,Rq j a→(∃ i,sh[j]?=some (.inr i)∧R1 i a)∨Rp j a:=fun j a z=>by
  by_cases q:∃ i,sh[j]?=some (.inr i)
  ·obtain ⟨i,q⟩:=q
   rw [rq1 j i q] at z
   exact .inl ⟨i,q,z⟩
  ·rw [rq2 j fun i z=>q ⟨i,z⟩] at z
   exact .inr z
 let Oxp:AS:=fun a=>Ox a∨∃ i,R1 i a∧∀ j:Nat,sh[j]?≠some (.inr i)
 have sub:∀ a,Own Rq Oxp a→Own R1 (U F0 Ox) a:=fun a z=>by
  rcases z with ⟨j,z⟩ | z | ⟨i,z,_⟩
  ·rcases rqc j a z with ⟨i,_,z⟩ | z
   ·exact .inl ⟨i,z⟩
   ·exact .inr (.inl (a3 j a z))
  ·exact .inr (.inr z)
  ·exact .inl ⟨i,z⟩
 have ec:EnvOk K dps Oxp H1 (vs.map some) (ts.map some) Rq:=by
  refine ⟨fun j u hu=>?_,fun j j' a z z'=>?_,fun j a z z2=>?_,fun a z=>P.env.dom a (sub a z),by rw [List.length_map,List.length_map,tl,ol],?_⟩
  ·rw [List.getElem?_map] at hu
   obtain ⟨u',hu,eu⟩:=Option.map_eq_some_iff.mp hu
   cases eu
   rcases tg j u hu with q | ⟨i,q,qe⟩
   ·obtain ⟨v,d,b1,b2,b3⟩:=a1 j u q
    refine ⟨v,d,by rw [List.getElem?_map,b1]; rfl,c1 j d b2,?_⟩
    rw [rq2 j fun i z=>by rw [b2] at z; cases z]
    exact Ow.grow sub u (fun _ z=>z) b3
   ·obtain ⟨v,b1,b2,b3⟩:=a2 j i q
    obtain ⟨v',d,g1,g2,g3⟩:=P.env.at_ i u qe
    rw [b3] at g1
    cases g1
    obtain ⟨qd,q1,q2⟩:=c2 j i b2
    rw [g2] at q2
    cases q2
    refine ⟨v,d,by rw [List.getElem?_map,b1]; rfl,q1,?_⟩
    rw [rq1 j i b2]
    exact Ow.grow sub u (fun _ z=>z) g3
  ·rcases rqc j a z with ⟨i,q,z⟩ | z <;> rcases rqc j' a z' with ⟨i',q',z'⟩ | z'
   ·have:=P.env.dj i i' a z z'
    subst this
    exact c3 j j' i q q'
   ·exact absurd (.inl (a3 j' a z')) (P.env.dx i a z)
   ·exact absurd (.inl (a3 j a z)) (P.env.dx i' a z')
   ·exact a4 j j' a z z'
  ·rcases rqc j a z with ⟨i,q,z⟩ | z
   ·rcases z2 with z2 | ⟨i',z2,n⟩
    ·exact P.env.dx i a z (.inr z2)
    ·have:=P.env.dj i i' a z z2
     subst this
     exact n j q
   ·rcases z2 with z2 | ⟨i',z2,n⟩
    ·exact P.fx a (a3 j a z) z2
    ·exact P.env.dx i' a z2 (.inl (a3 j a z))
  ·have:=o.shl
   rw [List.length_map]
   omega
 rw [List.append_nil]
 refine ⟨Oxp,ts,Rq,r,outs,ec,h3,fun v H2 R2 Fr Pc oc=>?_⟩
 have outl:outs.length=as.length:=by rw [Pc.env.l1,List.length_map]; exact ol
 classical
 let R3:Nat→AS:=fun i=>if q:∃ j:Nat,sh[j]?=some (.inr i) then R2 q.choose else R1 i
 have r31:∀ (i j:Nat),sh[j]?=some (.inr i)→R3 i=R2 j:=fun i j z=>by
  have q:∃ j:Nat,sh[j]?=some (.inr i):=⟨j,z⟩
  have:q.choose=j:=c3 _ _ i q.choose_spec z
  show (if q:∃ j:Nat,sh[j]?=some (.inr i) then R2 q.choose else R1 i)=R2 j
  rw [dif_pos q,this]
 have r32:∀ i:Nat,(∀ j:Nat,sh[j]?≠some (.inr i))→R3 i=R1 i:=fun i z=>by
  show (if q:∃ j:Nat,sh[j]?=some (.inr i) then R2 q.choose else R1 i)=R1 i
  rw [dif_neg fun ⟨j,q⟩=>z j q]
 have r3c:∀ (i:Nat) a,R3 i a→(∃ j:Nat,sh[j]?=some (.inr i)∧R2 j a)∨((∀ j:Nat,sh[j]?≠some (.inr i))∧R1 i a):=fun i a z=>by
  by_cases q:∃ j:Nat,sh[j]?=some (.inr i)
  ·obtain ⟨j,q⟩:=q
   rw [r31 i j q] at z
   exact .inl ⟨j,q,z⟩
  ·rw [r32 i fun j z=>q ⟨j,z⟩] at z
   exact .inr ⟨fun j z=>q ⟨j,z⟩,z⟩
 have sub3:∀ a,Own R3 (U Fr Ox) a→Own R2 (U Fr Oxp) a:=fun a z=>by
  rcases z with ⟨i,z⟩ | z | z
  ·rcases r3c i a z with ⟨j,_,z⟩ | ⟨n,z⟩
   ·exact .inl ⟨j,z⟩
   ·exact .inr (.inr (.inr ⟨i,z,n⟩))
  ·exact .inr (.inl z)
  ·exact .inr (.inr (.inl z))
 have back:∀ a,(Fr a∨∃ j,R2 j a)→Own R1 (U F0 Ox) a∨H1 a=none:=fun a z=>by
  rcases Pc.own a z with ⟨j,z⟩ | z
  ·exact .inl (sub a (.inl ⟨j,z⟩))
  ·exact .inr z
 have back2:∀ a,(Fr a∨∃ j,R2 j a)→(F0 a∨∃ i,R1 i a)∨H1 a=none:=fun a z=>by
  rcases Pc.own a z with ⟨j,z⟩ | z
  ·rcases rqc j a z with ⟨i,_,z⟩ | z
   ·exact .inl (.inr ⟨i,z⟩)
   ·exact .inl (.inl (a3 j a z))
  ·exact .inr z
 have n1:∀ a,H1 a=none→H a=none:=fun a z=>by
  cases q:H a with
  | none=>rfl
  | some o =>
   obtain ⟨o',q'⟩:=P.dom a o q
   rw [z] at q'
   cases q'
 have rqsub:∀ j a,Rq j a→Own R1 (U F0 Ox) a:=fun j a z=>sub a (.inl ⟨j,z⟩)
 have env3:EnvOk K ds1 (U Fr Ox) H2 σ (wb as outs en1) R3:=by
  refine ⟨fun i u hu=>?_,fun i i' a z z'=>?_,fun i a z z2=>?_,fun a z=>Pc.env.dom a (sub3 a z),by rw [no]; exact P.env.l1,P.env.l2⟩
  ·by_cases q:∃ j:Nat,as[j]?=some (.inr i)
   ·obtain ⟨j,q⟩:=q
    obtain ⟨v,b1,b2,b3⟩:=a2 j i q
    have hil:i < en1.length:=by rw [P.env.l1]; exact (List.getElem?_eq_some_iff.mp b3).1
    rw [pU as outs en1 i j q (fun j' z=>c3 j' j i (asl j' i z) b2) outl hil] at hu
    obtain ⟨v',d,g1,g2,g3⟩:=Pc.env.at_ j u hu
    rw [List.getElem?_map,b1] at g1
    cases g1
    obtain ⟨qd,q1,q2⟩:=c2 j i b2
    rw [g2] at q1
    cases q1
    refine ⟨v,d,b3,q2,?_⟩
    rw [r31 i j b2]
    exact Ow.grow sub3 u (fun _ z=>z) g3
   ·rw [jd as outs en1 i fun j z=>q ⟨j,z⟩] at hu
    have ns:∀ j:Nat,sh[j]?≠some (.inr i):=fun j z=>q ⟨j,asr j i z⟩
    obtain ⟨v,d,g1,g2,g3⟩:=P.env.at_ i u hu
    refine ⟨v,d,g1,g2,?_⟩
    rw [r32 i ns]
    refine Ow.mv (G:=R1 i) ⟨fun a o q z=>Pc.keep a o q fun j zj=>?_,fun a z=>?_⟩ u (fun _ z=>z) g3
    ·rcases z with z | z
     ·exact z (rqsub j a zj)
     ·rcases rqc j a zj with ⟨i',q',z'⟩ | z'
      ·have:=P.env.dj i i' a z z'
       subst this
       exact ns j q'
      ·exact P.env.dx i a z (.inl (a3 j a z'))
    ·rcases z with ⟨i',z⟩ | z | z
     ·rcases r3c i' a z with ⟨j,_,z⟩ | ⟨n,z⟩
      ·exact back a (.inr ⟨j,z⟩)
      ·exact .inl (.inl ⟨i',z⟩)
     ·exact back a (.inl z)
     ·exact .inl (.inr (.inr z))
  ·rcases r3c i a z with ⟨j,q,z⟩ | ⟨n,z⟩ <;> rcases r3c i' a z' with ⟨j',q',z'⟩ | ⟨n',z'⟩
   ·have:=Pc.env.dj j j' a z z'
    subst this
    rw [q] at q'
    cases q'
    rfl
   ·exact absurd (.inr (.inr ⟨i',z',n'⟩)) (Pc.env.dx j a z)
   ·exact absurd (.inr (.inr ⟨i,z,n⟩)) (Pc.env.dx j' a z')
   ·exact P.env.dj i i' a z z'
  ·rcases r3c i a z with ⟨j,q,z⟩ | ⟨n,z⟩
   ·exact Pc.env.dx j a z (z2.imp id .inl)
   ·rcases z2 with z2 | z2
    ·exact Pc.fx a z2 (.inr ⟨i,z,n⟩)
    ·exact P.env.dx i a z (.inr z2)
 refine k v H2 R3 Fr ⟨env3,fun a z z2=>Pc.fx a z (.inl z2),fun a o q n=>?_,fun a z=>?_,fun a o q=>?_,fun hp=>?_⟩ (Ow.grow sub3 r (fun _ z=>z) oc)
 ·refine Pc.keep a o (P.keep a o q n) fun j z=>?_
  have nn:∀ i,¬ R1 i a:=fun i z=>by
   rcases P.own a (.inr ⟨i,z⟩) with ⟨i',z⟩ | z
   ·exact n i' z
   ·rw [q] at z; cases z
  rcases rqc j a z with ⟨i,_,z⟩ | z
  ·exact nn i z
  ·rcases P.own a (.inl (a3 j a z)) with ⟨i',z⟩ | z
   ·exact n i' z
   ·rw [q] at z; cases z
 ·have:(F0 a∨∃ i,R1 i a)∨H1 a=none:=by
   rcases z with z | ⟨i,z⟩
   ·exact back2 a (.inl z)
   ·rcases r3c i a z with ⟨j,_,z⟩ | ⟨n,z⟩
    ·exact back2 a (.inr ⟨j,z⟩)
    ·exact .inl (.inr ⟨i,z⟩)
  rcases this with z | z
  ·exact P.own a z
  ·exact .inr (n1 a z)
 ·obtain ⟨o',q'⟩:=P.dom a o q
  exact Pc.dom a o' q'
 ·obtain ⟨hp1,hp2⟩:=(Bool.and_eq_true _ _ ▸ hp:p=true∧ic sh=true)
  obtain ⟨b1,b2,b3⟩:=P.pure hp1
  have ns:=kW hp2
  refine ⟨?_,?_,fun a o q=>?_⟩
  ·show wb as outs en1=en
   rw [← b1]
   refine List.ext_getElem? fun i=>?_
   exact jd as outs en1 i fun j z=>ns j i (asl j i z)
  ·rw [← b2]
   funext i
   exact r32 i fun j=>ns j i
  ·refine Pc.keep a o (b3 a o q) fun j z=>?_
   rcases rqc j a z with ⟨i,z,_⟩ | z
   ·exact ns j i z
   ·have zf:=a3 j a z
    rcases P.own a (.inl zf) with ⟨i,z2⟩ | z2
    ·rw [← b2] at z2
     exact P.env.dx i a z2 (.inl zf)
    ·rw [q] at z2; cases z2
end
end L2
namespace L2
open PySem PySem.Spec PyProof.Rows
inductive Fl where
 | nx (en:En) | rt (t:D) (en:En) | ct (en:En)
abbrev MS:=En→Option Fl
structure Jd where
 lk:List Nat
 dsr:List Nat
 dr:Nat
 dsl:List Nat
structure PostS (K:PySem.W.Frag) (lk:List Nat) (ds':List Nat) (Ox:AS) (σ:St) (H:Hp) (R:Nat→AS) (σ':St) (en':En) (H':Hp) (R':Nat→AS) (F:AS):Prop where
 env:EnvOk K ds' (U F Ox) H' σ' en' R'
 fx:∀ a,F a→¬ Ox a
 keep:∀ a o,H a=some o→(∀ i,¬ R i a)→H' a=some o
 own:∀ a,(F a∨∃ i,R' i a)→(∃ i,R i a)∨H a=none
 dom:∀ a o,H a=some o→∃ o',H' a=some o'
 lk:∀ j∈lk,σ'[j]?=σ[j]?
def tFS (K:PySem.W.Frag) (J:Jd) (ds ds':List Nat) (f:MS):TS:=fun D σ H =>
 ∃ Ox en R fl,EnvOk K ds Ox H σ en R∧f en=some fl∧match fl with
  | .nx en'=>∀ σ' H' R',PostS K J.lk ds' Ox σ H R σ' en' H' R' NoA→D.nx σ' H'
  | .ct en'=>∀ σ' H' R',PostS K J.lk J.dsl Ox σ H R σ' en' H' R' NoA→D.ct σ' H'
  | .rt t en'=>∀ v σ' H' R' F,PostS K J.lk J.dsr Ox σ H R σ' en' H' R' F→Ow K (Own R' (U F Ox)) H' t J.dr v F→D.rt v H'
def ao (f g:MS):MS:=fun en=>(f en).bind fun fl=>match fl with
 | .nx en1=>g en1
 | .rt t en1=>some (.rt t en1)
 | .ct en1=>some (.ct en1)
def aA (i:Nat) (f:ME):MS:=fun en=>(f en).map fun r=>.nx (r.2.set i (some r.1))
def dA (f:ME):MS:=fun en=>(f en).map fun r=>.nx r.2
def aE (f:ME):MS:=fun en=>(f en).map fun r=>.rt r.1 r.2
def HY:MS:=fun en=>some (.rt .none en)
def bh:MS:=fun en=>some (.nx en)
def HZ:MS:=fun en=>some (.ct en)
def dP:MS:=fun _=>none
def sIf (c:MT) (f g:MS):MS:=fun en=>(c en).bind fun r=>if r.1 then f r.2 else g r.2
section
variable {K:PySem.W.Frag} {p p1 p2:Bool} {J:Jd} {lk:List Nat} {ds ds0 ds1 ds2 ds':List Nat} {Ox Ox' O O':AS} {H H':Hp} {σ σ':St} {en en' en1 en2:En} {R R':Nat→AS} {d d' d1 d2 dr:Nat} {t t1 t2:D} {f f1 f2:ME} {c:MT} {m m1 m2:MS} {i:Nat} {D:Ends}
theorem PostS.refl (e:EnvOk K ds Ox H σ en R):PostS K lk ds Ox σ H R σ en H R NoA :=
 ⟨by rw [fE]; exact e,fun _ z=>z.elim,fun _ _ q _=>q,fun a z=>z.elim (fun z=>z.elim) .inl,fun a o q=>⟨o,q⟩,fun _ _=>rfl⟩
theorem PostS.env0 {F:AS} (P:PostS K lk ds' Ox σ H R σ' en' H' R' F):EnvOk K ds' Ox H' σ' en' R':=P.env.fewer fun a z=>.inr z
theorem PostS.less {F F':AS} (P:PostS K lk ds' Ox σ H R σ' en' H' R' F) (h:∀ a,F' a→F a):PostS K lk ds' Ox σ H R σ' en' H' R' F' :=
 ⟨P.env.fewer fun a z=>z.imp (h a) id,fun a z=>P.fx a (h a z),P.keep,fun a z=>P.own a (z.imp (h a) id),P.dom,P.lk⟩
theorem PostS.after {σ1 σ2:St} {H1:Hp} {R1 R2:Nat→AS} {F:AS} (P1:PostS K lk ds1 Ox σ H R σ1 en1 H1 R1 NoA) (P2:PostS K lk ds2 Ox σ1 H1 R1 σ2 en2 H' R2 F):PostS K lk ds2 Ox σ H R σ2 en2 H' R2 F:=by
 have n1:∀ a,H1 a=none→H a=none:=fun a z=>by
  cases q:H a with
  | none=>rfl
  | some o =>
   obtain ⟨o',q'⟩:=P1.dom a o q
   rw [z] at q'
   cases q'
 refine ⟨P2.env,P2.fx,fun a o q n=>?_,fun a z=>?_,fun a o q=>?_,fun j hj=>(P2.lk j hj).trans (P1.lk j hj)⟩
 ·refine P2.keep a o (P1.keep a o q n) fun i z=>?_
  rcases P1.own a (.inr ⟨i,z⟩) with ⟨j,z⟩ | z
  ·exact n j z
  ·rw [q] at z; cases z
 ·rcases P2.own a z with z | z
  ·exact P1.own a (.inr z)
  ·exact .inr (n1 a z)
 ·obtain ⟨o',q'⟩:=P1.dom a o q
  exact P2.dom a o' q'
theorem Post.s {F:AS} (P:Post K p ds' Ox σ H en R en' H' R' F):PostS K lk ds' Ox σ H R σ en' H' R' F:=⟨P.env,P.fx,P.keep,P.own,P.dom,fun _ _=>rfl⟩
theorem PostS.cut {F:AS} (P:PostS K lk ds1 Ox σ H R σ' en' H' R' F) (hd:leD ds2 ds1=true):∃ R2,(∀ i a,R2 i a→R' i a)∧PostS K lk ds2 Ox σ H R σ' en' H' R2 F:=by
 obtain ⟨R2,s1,e2⟩:=P.env.cut (cN hd).1 (cN hd).2
 exact ⟨R2,s1,e2,P.fx,P.keep,fun a z=>P.own a (z.imp id fun ⟨i,z⟩=>⟨i,s1 i a z⟩),P.dom,P.lk⟩
theorem Fz (h:tFS K J ds ds bh D σ H):Af D σ H:=by
 obtain ⟨Ox,en,R,fl,e,hf,k⟩:=h
 cases hf
 exact k σ H R (PostS.refl e)
theorem Fx (h:tFS K J ds ds2 (ao m1 m2) D σ H):D9 (tFS K J ds ds1 m1) (tFS K J ds1 ds2 m2) D σ H:=by
 obtain ⟨Ox,en,R,fl,e,hf,k⟩:=h
 unfold ao at hf
 obtain ⟨fl1,h1,hf⟩:=Option.bind_eq_some_iff.mp hf
 refine ⟨Ox,en,R,fl1,e,h1,?_⟩
 cases fl1 with
 | nx en1 =>
  intro σ1 H1 R1 P1
  refine ⟨Ox,en1,R1,fl,P1.env0,hf,?_⟩
  cases fl with
  | nx en2=>exact fun σ2 H2 R2 P2=>k σ2 H2 R2 (P1.after P2)
  | ct en2=>exact fun σ2 H2 R2 P2=>k σ2 H2 R2 (P1.after P2)
  | rt t en2=>exact fun v σ2 H2 R2 F P2 o=>k v σ2 H2 R2 F (P1.after P2) o
 | ct en1=>cases hf; exact k
 | rt t en1=>cases hf; exact k
theorem sB (hd:leD ds1 ds2=true) (h:tFS K J ds ds1 m D σ H):tFS K J ds ds2 m D σ H:=by
 obtain ⟨Ox,en,R,fl,e,hf,k⟩:=h
 refine ⟨Ox,en,R,fl,e,hf,?_⟩
 cases fl with
 | nx en2 =>
  intro σ2 H2 R2 P2
  obtain ⟨R3,_,P3⟩:=P2.cut hd
  exact k σ2 H2 R3 P3
 | ct en2=>exact k
 | rt t en2=>exact k
theorem FB (h:tFS K J ds ds1 (dA f) D σ H):Ag (tF K p ds ds1 d f) D σ H:=by
 obtain ⟨Ox,en,R,fl,e,hf,k⟩:=h
 unfold dA at hf
 obtain ⟨⟨t,en1⟩,h1,hf⟩:=Option.map_eq_some_iff.mp hf
 cases hf
 exact ⟨Ox,en,R,t,en1,e,h1,fun v H1 R1 F P o=>k σ H1 R1 (P.s.less fun _ z=>z.elim)⟩
theorem Fy (hd:leD J.dsr ds1=true) (h:tFS K J ds ds' (aE f) D σ H):Ea (tF K p ds ds1 J.dr f) D σ H:=by
 obtain ⟨Ox,en,R,fl,e,hf,k⟩:=h
 unfold aE at hf
 obtain ⟨⟨t,en1⟩,h1,hf⟩:=Option.map_eq_some_iff.mp hf
 cases hf
 refine ⟨Ox,en,R,t,en1,e,h1,fun v H1 R1 F P o=>?_⟩
 obtain ⟨R2,s1,P2⟩:=(P.s (lk:=J.lk)).cut hd
 exact k v σ H1 R2 F P2 (Ow.grow (fun a z=>z.imp (fun ⟨i,z⟩=>⟨i,s1 i a z⟩) id) t (fun _ z=>z) o)
theorem uA (h:tFS K J ds ds' dP D σ H):rA D σ H:=by
 obtain ⟨Ox,en,R,fl,e,hf,k⟩:=h
 cases hf
theorem GZ (h:tFS K J ds ds2 (sIf c m1 m2) D σ H):Ee (tFT K p ds ds1 c) (tFS K J ds1 ds2 m1) (tFS K J ds1 ds2 m2) D σ H:=by
 obtain ⟨Ox,en,R,fl,e,hf,k⟩:=h
 unfold sIf at hf
 obtain ⟨⟨b,en1⟩,h1,hf⟩:=Option.bind_eq_some_iff.mp hf
 refine ⟨Ox,en,R,b,en1,e,h1,fun H1 R1 P1=>?_⟩
 have fin:∀ m,m en1=some fl→tFS K J ds1 ds2 m D σ H1:=fun m hm=>by
  refine ⟨Ox,en1,R1,fl,P1.env0,hm,?_⟩
  cases fl with
  | nx en2=>exact fun σ2 H2 R2 P2=>k σ2 H2 R2 (P1.s.after P2)
  | ct en2=>exact fun σ2 H2 R2 P2=>k σ2 H2 R2 (P1.s.after P2)
  | rt t en2=>exact fun v σ2 H2 R2 F P2 o=>k v σ2 H2 R2 F (P1.s.after P2) o
 cases b with
 | true=>exact fin m1 hf
 | false=>exact fin m2 hf
theorem PostS.store {F:AS} {v:V} (P:Post K p ds1 Ox σ H en R en1 H' R' F) (o:Ow K (Own R' (U F Ox)) H' t d v F) (hi:i < ds1.length) (hl:i ∉ lk) :
  PostS K lk (ds1.set i d) Ox σ H R (σ.set i (some v)) (en1.set i (some t)) H' (fun j=>if j=i then F else R' j) NoA:=by
 have l1:=P.env.l1
 have l2:=P.env.l2
 have sub:∀ a,Own (fun j=>if j=i then F else R' j) Ox a→Own R' (U F Ox) a:=fun a z=>by
  rcases z with ⟨j,z⟩ | z
  ·by_cases hj:j=i
   ·rw [if_pos hj] at z; exact .inr (.inl z)
   ·rw [if_neg hj] at z; exact .inl ⟨j,z⟩
  ·exact .inr (.inr z)
 refine ⟨?_,fun _ z=>z.elim,P.keep,fun a z=>?_,P.dom,fun j hj=>?_⟩
 ·rw [fE]
  refine ⟨fun j u hu=>?_,fun j j' a z z'=>?_,fun j a z z2=>?_,fun a z=>P.env.dom a (sub a z),by rw [List.length_set,List.length_set]; exact l1,by rw [List.length_set,List.length_set]; exact l2⟩
  ·by_cases hj:j=i
   ·subst hj
    rw [List.getElem?_set_self (by omega)] at hu
    cases hu
    refine ⟨v,d,List.getElem?_set_self (by omega),List.getElem?_set_self hi,?_⟩
    rw [if_pos rfl]
    exact Ow.grow sub t (fun _ z=>z) o
   ·rw [List.getElem?_set_ne (Ne.symm hj)] at hu
    obtain ⟨v',d',g1,g2,g3⟩:=P.env.at_ j u hu
    refine ⟨v',d',by rw [List.getElem?_set_ne (Ne.symm hj)]; exact g1,by rw [List.getElem?_set_ne (Ne.symm hj)]; exact g2,?_⟩
    rw [if_neg hj]
    exact Ow.grow sub u (fun _ z=>z) g3
  ·by_cases hj:j=i <;> by_cases hj':j'=i
   ·rw [hj,hj']
   ·rw [if_pos hj] at z; rw [if_neg hj'] at z'
    exact absurd (.inl z) (P.env.dx j' a z')
   ·rw [if_neg hj] at z; rw [if_pos hj'] at z'
    exact absurd (.inl z') (P.env.dx j a z)
   ·rw [if_neg hj] at z; rw [if_neg hj'] at z'
    exact P.env.dj j j' a z z'
  ·by_cases hj:j=i
   ·rw [if_pos hj] at z
    exact P.fx a z z2
   ·rw [if_neg hj] at z
    exact P.env.dx j a z (.inr z2)
 ·rcases z with z | ⟨j,z⟩
  ·exact z.elim
  ·by_cases hj:j=i
   ·rw [if_pos hj] at z; exact P.own a (.inl z)
   ·rw [if_neg hj] at z; exact P.own a (.inr ⟨j,z⟩)
 ·rw [List.getElem?_set_ne]
  intro z
  subst z
  exact hl hj
theorem om (hi:i < ds1.length) (hl:i ∉ J.lk) (h:tFS K J ds (ds1.set i d) (aA i f) D σ H):tJ (tF K p ds ds1 d f) (k9 i) D σ H:=by
 obtain ⟨Ox,en,R,fl,e,hf,k⟩:=h
 unfold aA at hf
 obtain ⟨⟨t,en1⟩,h1,hf⟩:=Option.map_eq_some_iff.mp hf
 cases hf
 exact ⟨Ox,en,R,t,en1,e,h1,fun v H1 R1 F P o=>k _ H1 _ (PostS.store P o hi hl)⟩
abbrev MG:=PyData→En→Option En
def tFG (K:PySem.W.Frag) (lk:List Nat) (ds ds':List Nat) (g:MG):TG:=fun v σ H Q =>
 ∃ Ox en R t en',EnvOk K ds Ox H σ en R∧Ow K (Own R Ox) H t 0 v NoA∧g t en=some en'∧∀ σ' R',PostS K lk ds' Ox σ H R σ' en' H R' NoA→(∀ j∈lk,R' j=R j)→Q σ' H
def fq (K:PySem.W.Frag) (lk:List Nat) (ds ds':List Nat) (g:List PyData→En→Option En):TGs:=fun vs σ H Q =>
 ∃ Ox en R ts en',EnvOk K ds Ox H σ en R∧Ows K (Own R Ox) H ts 0 vs NoA∧g ts en=some en'∧∀ σ' R',PostS K lk ds' Ox σ H R σ' en' H R' NoA→(∀ j∈lk,R' j=R j)→Q σ' H
def gN (i:Nat):MG:=fun t en=>some (en.set i (some t))
def gs0:List PyData→En→Option En:=fun ts en=>match ts with
 | []=>some en
 | _=>none
def gsC (g:MG) (r:List PyData→En→Option En):List PyData→En→Option En:=fun ts en=>match ts with
 | t :: ts=>(g t en).bind fun en1=>r ts en1
 | []=>none
def gT (g:List PyData→En→Option En):MG:=fun t en=>match t with
 | .tuple ts=>g ts en
 | _=>none
variable {g g1:MG} {gs:List PyData→En→Option En} {v:V} {vs:List V} {QS:St→Hp→Prop}
theorem B2 (hi:i < ds.length) (hl:i ∉ lk) (h:tFG K lk ds (ds.set i 0) (gN i) v σ H QS):k9 i v σ H QS:=by
 obtain ⟨Ox,en,R,t,en',e,o,hf,k⟩:=h
 cases hf
 exact k _ _ (PostS.store (p:=true) (Post.refl e) (by rw [show (fun _=>False:AS)=NoA from rfl,fE]; exact o) hi hl) fun j hj=>if_neg (fun (z:j=i)=>hl (by rw [← z]; exact hj))
theorem B0 (h:fq K lk ds ds gs0 vs σ H QS):Fq vs σ H QS:=by
 obtain ⟨Ox,en,R,ts,en',e,o,hf,k⟩:=h
 cases ts with
 | nil=>cases hf; exact ⟨o,k σ R (PostS.refl e) fun _ _=>rfl⟩
 | cons t ts=>cases hf
theorem uH (h:fq K lk ds ds2 (gsC g gs) vs σ H QS):AB (tFG K lk ds ds1 g) (fq K lk ds1 ds2 gs) vs σ H QS:=by
 obtain ⟨Ox,en,R,ts,en',e,o,hf,k⟩:=h
 cases ts with
 | nil=>cases hf
 | cons t ts =>
  obtain ⟨en1,h1,h2⟩:=Option.bind_eq_some_iff.mp hf
  obtain ⟨v,r,F1,F2,e1,s1,s2,s3,o1,o2⟩:=o
  refine ⟨v,r,e1,Ox,en,R,t,en1,e,Ow.any0 t o1,h1,fun σ1 R1 P1 r1=>?_⟩
  refine ⟨Ox,en1,R1,ts,en',P1.env0,Ows.any0 ts (Ows.mv (G:=NoA) ⟨fun a o q _=>q,fun a z=>?_⟩ ts (F:=NoA) (fun _ z=>z) (Ows.any0 ts o2)),h2,fun σ2 R2 P2 r2=>k σ2 R2 (P1.after P2) fun j hj=>(r2 j hj).trans (r1 j hj)⟩
  rcases z with z | z
  ·exact (P1.own a (.inr z)).imp .inl id
  ·exact .inl (.inr z)
theorem FM {n:Nat} (hn:∀ ts en,(∃ en',gs ts en=some en')→ts.length=n) (h:tFG K lk ds ds1 (gT gs) v σ H QS):Fp K n (fq K lk ds ds1 gs) v σ H QS:=by
 obtain ⟨Ox,en,R,t,en',e,o,hf,k⟩:=h
 cases t with
 | tuple ts =>
  have hf':gs ts en=some en':=hf
  obtain ⟨a,vs,e1,⟨_,h1,h2⟩ | ⟨z,_⟩⟩:=o
  ·refine ⟨a,vs,e1,h1.sq,?_,Ox,en,R,ts,en',e,h2,hf',k⟩
   rw [← hn ts en ⟨en',hf'⟩]
   have:∀ {ts:List PyData} {vs:List V} {F:AS},Ows K (Own R Ox) H ts 0 vs F→vs.length=ts.length:=fun {ts}=>by
    induction ts with
    | nil=>intro vs F h; rw [show vs=[] from h]; rfl
    | cons t ts ih =>
     intro vs F h
     obtain ⟨v,r,F1,F2,e,h1,h2,h3,h4,h5⟩:=h
     rw [e,List.length_cons,List.length_cons,ih h5]
   exact this h2
  ·exact absurd rfl z
 | _=>cases hf
abbrev MI:=En→Option (List PyData × En)
def mn (K:PySem.W.Frag) (O:AS) (H0:Hp) (J:It) (ts:List PyData):Prop :=
 ∀ (i:Nat) (H:Hp) (O1:AS),(∀ a o,H0 a=some o→¬ O a→H a=some o)→(∀ a,O1 a→O a∨H0 a=none)→(∀ a,O1 a→∃ o,H a=some o) →
  (∀ t,ts[i]?=some t→J.go i H∧∀ x H1,J.yld i H x H1→(∀ a o,H a=some o→H1 a=some o)∧Ow K O1 H1 t 0 x NoA)∧(ts.length=i→J.stop i H)
def tFI (K:PySem.W.Frag) (p:Bool) (ds ds':List Nat) (f:MI):TI:=fun σ H RJ =>
 ∃ Ox en R ts en',EnvOk K ds Ox H σ en R∧f en=some (ts,en')∧∀ J H' R',Post K p ds' Ox σ H en R en' H' R' NoA→mn K (Own R' Ox) H' J ts→RJ J H'
def dB (g:MG) (b:MS):List PyData→En→Option Fl
 | [],en=>some (.nx en)
 | t :: ts,en=>(g t en).bind fun en1=>(b en1).bind fun fl=>match fl with
  | .nx en2=>dB g b ts en2
  | .ct en2=>dB g b ts en2
  | .rt r en2=>some (.rt r en2)
def fu (fi:MI) (g:MG) (b:MS):MS:=fun en=>(fi en).bind fun r=>dB g b r.1 r.2
theorem FA {fi:MI} (h:tFS K J ds ds1 (fu fi g m) D σ H):Ef (tFI K p ds ds1 fi) (tFG K J.lk ds1 ds2 g) (tFS K { J with dsl:=ds1 } ds2 ds1 m) D σ H:=by
 obtain ⟨Ox,en,R,fl,e,hf,k⟩:=h
 unfold fu at hf
 obtain ⟨⟨ts,en1⟩,h1,hf⟩:=Option.bind_eq_some_iff.mp hf
 refine ⟨Ox,en,R,ts,en1,e,h1,fun Jt H1 R1 P1 wk=>?_⟩
 refine ⟨fun i n σ' H'=>∃ en' R',n=ts.length - i∧i≤ts.length∧PostS K J.lk ds1 Ox σ H1 R1 σ' en' H' R' NoA∧dB g m (ts.drop i) en'=some fl,⟨_,en1,R1,rfl,Nat.zero_le _,PostS.refl P1.env0,hf⟩,?_⟩
 rintro i n σ2 H2 ⟨en2,R2,rfl,hi,P2,hr⟩
 obtain ⟨w1,w2⟩:=wk i H2 (Own R2 Ox) (fun a o q z=>P2.keep a o q fun j zj=>z (.inl ⟨j,zj⟩)) (fun a z=>by
  rcases z with z | z
  ·exact (P2.own a (.inr z)).imp .inl id
  ·exact .inl (.inr z)) fun a z=>P2.env0.dom a z
 by_cases hlt:i < ts.length
 ·obtain ⟨go,yl⟩:=w1 ts[i] (List.getElem?_eq_getElem hlt)
  have hd:ts.drop i=ts[i] :: ts.drop (i+1):=List.drop_eq_getElem_cons hlt
  rw [hd] at hr
  obtain ⟨en3,h3,hr⟩:=Option.bind_eq_some_iff.mp hr
  obtain ⟨fl2,h4,hr⟩:=Option.bind_eq_some_iff.mp hr
  refine .inr ⟨go,fun σ' H'=>∃ en' R',PostS K J.lk ds1 Ox σ H1 R1 σ' en' H' R' NoA∧dB g m (ts.drop (i+1)) en'=some fl,fun σ' H' ⟨en',R',P',h'⟩=>⟨ts.length - (i+1),by omega,en',R',rfl,hlt,P',h'⟩,fun x H3 y=>?_⟩
  obtain ⟨gr,ox⟩:=yl x H3 y
  have P3:Post K true ds1 Ox σ2 H2 en2 R2 en2 H3 R2 NoA:=Post.new P2.env0 gr fun _ z=>z.elim
  refine ⟨Ox,en2,R2,ts[i],en3,P3.env0,ox,h3,fun σ4 R4 P4 _=>?_⟩
  have P4':=(P2.after P3.s).after P4
  refine ⟨Ox,en3,R4,fl2,P4.env0,h4,?_⟩
  cases fl2 with
  | nx en5=>exact fun σ5 H5 R5 P5=>⟨en5,R5,P4'.after P5,hr⟩
  | ct en5=>exact fun σ5 H5 R5 P5=>⟨en5,R5,P4'.after P5,hr⟩
  | rt t en5 =>
   cases hr
   exact fun v σ5 H5 R5 F P5 o=>k v σ5 H5 R5 F (P1.s.after (P4'.after P5)) o
 ·have e2:i=ts.length:=by omega
  subst e2
  rw [List.drop_length] at hr
  cases hr
  exact .inl ⟨w2 rfl,k σ2 H2 R2 (P1.s.after P2)⟩
def whN (c:MT) (b:MS):Nat→En→Option Fl
 | 0,_=>none
 | n+1,en=>(c en).bind fun r=>if r.1 then (b r.2).bind fun fl=>match fl with
   | .nx en2=>whN c b n en2
   | .ct en2=>whN c b n en2
   | .rt t en2=>some (.rt t en2)
  else some (.nx r.2)
open Classical in
noncomputable def bW (c:MT) (b:MS):MS:=fun en=>if h:∃ n fl,whN c b n en=some fl then some h.choose_spec.choose else none
theorem gQ {b:MS} {fl:Fl} (h:bW c b en=some fl):∃ n,whN c b n en=some fl:=by
 unfold bW at h
 split at h
 ·next q =>
  cases h
  exact ⟨q.choose,q.choose_spec.choose_spec⟩
 ·cases h
theorem uz (h:tFS K J ds ds1 (bW c m) D σ H):rz (tFT K p ds ds1 c) (tFS K { J with dsl:=ds } ds1 ds m) D σ H:=by
 obtain ⟨Ox,en,R,fl,e,hf,k⟩:=h
 obtain ⟨n0,hn⟩:=gQ hf
 refine ⟨fun n σ' H'=>∃ en' R',PostS K J.lk ds Ox σ H R σ' en' H' R' NoA∧whN c m n en'=some fl,⟨n0,en,R,PostS.refl e,hn⟩,?_⟩
 rintro n σ2 H2 ⟨en2,R2,P2,hr⟩
 cases n with
 | zero=>cases hr
 | succ n =>
  unfold whN at hr
  obtain ⟨⟨b,en3⟩,h3,hr⟩:=Option.bind_eq_some_iff.mp hr
  refine ⟨Ox,en2,R2,b,en3,P2.env0,h3,fun H3 R3 P3=>?_⟩
  cases b with
  | false =>
   cases hr
   rw [if_neg Bool.false_ne_true]
   exact k σ2 H3 R3 (P2.after P3.s)
  | true =>
   rw [if_pos rfl] at hr ⊢
   obtain ⟨fl2,h4,hr⟩:=Option.bind_eq_some_iff.mp hr
   refine ⟨fun σ' H'=>∃ en' R',PostS K J.lk ds Ox σ H R σ' en' H' R' NoA∧whN c m n en'=some fl,fun σ' H' q=>⟨n,Nat.lt_succ_self _,q⟩,Ox,en3,R3,fl2,P3.env0,h4,?_⟩
   have P3':=P2.after (P3.s (lk:=J.lk))
   cases fl2 with
   | nx en5=>exact fun σ5 H5 R5 P5=>⟨en5,R5,P3'.after P5,hr⟩
   | ct en5=>exact fun σ5 H5 R5 P5=>⟨en5,R5,P3'.after P5,hr⟩
   | rt t en5 =>
    cases hr
    exact fun v σ5 H5 R5 F P5 o=>k v σ5 H5 R5 F (P3'.after P5) o
end
end L2
namespace L2
open PySem PySem.Spec PyProof.Rows
def lcF (g:MG) (c:MT) (f:ME):List D→List D→En→Option (List D × En)
 | [],acc,en=>some (acc,en)
 | t :: ts,acc,en=>(g t en).bind fun en1=>(c en1).bind fun r=>if r.1 then (f r.2).bind fun q=>if acc.length < sizeLine then lcF g c f ts (acc++[q.1]) q.2 else none else lcF g c f ts acc r.2
def cB (js:List (Option Nat)) (en:En):En:=js.map fun j=>match j with
 | some j=>(en[j]?).join
 | none=>none
def wbB:List (Option Nat)→En→En→En
 | some j :: js,o :: r,en=>wbB js r (en.set j o)
 | none :: js,_ :: r,en=>wbB js r en
 | _,_,en=>en
def eLC (q:Bool) (fi:MI) (g:MG) (c:MT) (f:ME) (js:List (Option Nat)):ME:=fun en=>(fi en).bind fun r=>(lcF g c f r.1 [] (cB js r.2)).map fun z=>(.list z.1,if q then r.2 else wbB js z.2 r.2)
def dW (ds:List Nat):List (Option Nat)→List Nat→Bool
 | [],[]=>true
 | some j :: js,d :: r=>decide (ds[j]?=some d) && (decide (some j ∉ js) && dW ds js r)
 | none :: js,_ :: r=>dW ds js r
 | _,_=>false
section
variable {K:PySem.W.Frag} {p p1 p2 q:Bool} {lk:List Nat} {ds ds0 ds1 ds2 ds' dsi:List Nat} {Ox Ox' O O':AS} {H H':Hp} {σ σ':St} {en en' en1 en2:En} {R R':Nat→AS} {d d' d1 d2 dr:Nat} {t t1 t2:D} {Q:VK} {f f1 f2:ME} {c:MT} {g:MG} {fi:MI} {i:Nat} {js:List (Option Nat)}
theorem kA:∀ {js:List (Option Nat)} {dsi:List Nat},dW ds js dsi=true→dsi.length=js.length∧(∀ (k j:Nat),js[k]?=some (some j)→∃ d,dsi[k]?=some d∧ds[j]?=some d)∧(∀ (k k' j:Nat),js[k]?=some (some j)→js[k']?=some (some j)→k=k')
 | [],[],_=>⟨rfl,fun k j z=>by simp at z,fun k k' j z=>by simp at z⟩
 | some j0 :: js,d :: r,h=>by
  unfold dW at h
  rw [Bool.and_eq_true,Bool.and_eq_true] at h
  obtain ⟨h1,h2,h3⟩:=h
  obtain ⟨a,b,c⟩:=kA h3
  have n:=of_decide_eq_true h2
  refine ⟨by rw [List.length_cons,List.length_cons,a],fun k j z=>?_,fun k k' j z z'=>?_⟩
  ·cases k with
   | zero=>simp at z; subst z; exact ⟨d,rfl,of_decide_eq_true h1⟩
   | succ k=>exact b k j (by simpa using z)
  ·cases k with
   | zero =>
    simp at z
    subst z
    cases k' with
    | zero=>rfl
    | succ k'=>exact absurd (List.mem_of_getElem? (by simpa using z':js[k']?=some (some j0))) n
   | succ k =>
    cases k' with
    | zero =>
     simp at z'
     subst z'
     exact absurd (List.mem_of_getElem? (by simpa using z:js[k]?=some (some j0))) n
    | succ k'=>rw [c k k' j (by simpa using z) (by simpa using z')]
 | none :: js,d :: r,h=>by
  unfold dW at h
  obtain ⟨a,b,c⟩:=kA h
  refine ⟨by rw [List.length_cons,List.length_cons,a],fun k j z=>?_,fun k k' j z z'=>?_⟩
  ·cases k with
   | zero=>simp at z
   | succ k=>exact b k j (by simpa using z)
  ·cases k with
   | zero=>simp at z
   | succ k =>
    cases k' with
    | zero=>simp at z'
    | succ k'=>rw [c k k' j (by simpa using z) (by simpa using z')]
 | [],_ :: _,h=>nomatch h
 | some _ :: _,[],h=>nomatch h
 | none :: _,[],h=>nomatch h
theorem lP:∀ (js:List (Option Nat)) (r en:En),(wbB js r en).length=en.length
 | [],_,_=>by unfold wbB; rfl
 | some _ :: _,[],_=>by unfold wbB; rfl
 | none :: _,[],_=>by unfold wbB; rfl
 | some j :: js,o :: r,en=>by unfold wbB; rw [lP js r _,List.length_set]
 | none :: js,o :: r,en=>by unfold wbB; exact lP js r _
theorem jN:∀ (js:List (Option Nat)) (r en:En) (i:Nat),(∀ k:Nat,js[k]?≠some (some i))→(wbB js r en)[i]?=en[i]?
 | [],_,_,_,_=>by unfold wbB; rfl
 | some _ :: _,[],_,_,_=>by unfold wbB; rfl
 | none :: _,[],_,_,_=>by unfold wbB; rfl
 | none :: js,o :: r,en,i,h=>by unfold wbB; exact jN js r en i fun j=>h (j+1)
 | some k :: js,o :: r,en,i,h=>by
  unfold wbB
  rw [jN js r _ i fun j=>h (j+1),List.getElem?_set_ne]
  intro e
  subst e
  exact h 0 rfl
theorem np:∀ (js:List (Option Nat)) (r en:En) (i k:Nat),js[k]?=some (some i)→(∀ k':Nat,js[k']?=some (some i)→k'=k)→r.length=js.length→i < en.length→(wbB js r en)[i]?=r[k]?
 | [],_,_,_,_,h,_,_,_=>by simp at h
 | some _ :: js,[],_,_,_,_,_,h,_=>by simp at h
 | none :: js,[],_,_,_,_,_,h,_=>by simp at h
 | none :: js,o :: r,en,i,k,h,u,l,b=>by
  unfold wbB
  cases k with
  | zero=>simp at h
  | succ k=>exact np js r en i k (by simpa using h) (fun j' z=>by have:=u (j'+1) (by simpa using z); omega) (by simpa using l) b
 | some j :: js,o :: r,en,i,k,h,u,l,b=>by
  unfold wbB
  cases k with
  | zero =>
   have e:j=i:=by simpa using h
   subst e
   rw [jN js r _ j fun j' z=>by have:=u (j'+1) (by simpa using z); omega]
   rw [List.getElem?_set_self b]
   rfl
  | succ k=>exact np js r _ i k (by simpa using h) (fun j' z=>by have:=u (j'+1) (by simpa using z); omega) (by simpa using l) (by rw [List.length_set]; exact b)
theorem Ows.snoc:∀ {ts:List D} {vs:List V} {F1 F2:AS} {v:V},Ows K O H ts d vs F1→Ow K O H t d v F2→(∀ b,F1 b→¬ F2 b)→Ows K O H (ts++[t]) d (vs++[v]) (U F1 F2)
 | [],vs,F1,F2,v,h,h2,_=>by
  have e:vs=[]:=h
  subst e
  exact ⟨v,[],F2,NoA,rfl,fun _ z=>.inr z,fun _ z=>z.elim,fun _ _ z=>z.elim,h2,rfl⟩
 | u :: ts,vs,F1,F2,v,h,h2,hd=>by
  obtain ⟨w,r,G1,G2,e,s1,s2,s3,h4,h5⟩:=h
  subst e
  refine ⟨w,r++[v],G1,U G2 F2,rfl,fun b z=>.inl (s1 b z),fun b z=>z.imp (s2 b) id,fun b z z2=>?_,h4,Ows.snoc h5 h2 fun b z=>hd b (s2 b z)⟩
  rcases z2 with z2 | z2
  ·exact s3 b z z2
  ·exact hd b (s1 b z) z2
theorem Ows.len:∀ {ts:List D} {vs:List V} {F:AS},Ows K O H ts d vs F→vs.length=ts.length
 | [],_,_,h=>by rw [show _=[] from h]; rfl
 | t :: ts,_,_,h=>by
  obtain ⟨v,r,F1,F2,e,h1,h2,h3,h4,h5⟩:=h
  rw [e,List.length_cons,List.length_cons,h5.len]
def dU:List (Option Nat)→Nat→List Nat
 | [],_=>[]
 | some _ :: r,n=>n :: dU r (n+1)
 | none :: r,n=>dU r (n+1)
theorem iB:∀ {js:List (Option Nat)} {n k j:Nat},js[k]?=some (some j)→n+k∈dU js n
 | [],n,k,j,h=>by simp at h
 | some x :: r,n,k,j,h=>by
  unfold dU
  cases k with
  | zero=>exact List.mem_cons_self
  | succ k =>
   refine List.mem_cons_of_mem _ ?_
   have:=iB (n:=n+1) (k:=k) (j:=j) (by simpa using h)
   rw [show n+(k+1)=n+1+k by omega]
   exact this
 | none :: r,n,k,j,h=>by
  unfold dU
  cases k with
  | zero=>simp at h
  | succ k =>
   have:=iB (n:=n+1) (k:=k) (j:=j) (by simpa using h)
   rw [show n+(k+1)=n+1+k by omega]
   exact this
def oC (js:List (Option Nat)) (R1:Nat→AS):Nat→AS:=fun k=>match js[k]? with
 | some (some j)=>R1 j
 | _=>NoA
theorem Ck {R1:Nat→AS} {k j:Nat} (h:js[k]?=some (some j)):oC js R1 k=R1 j:=by unfold oC; rw [h]
theorem Cj {R1:Nat→AS} {k:Nat} {a:Addr} (h:oC js R1 k a):∃ j,js[k]?=some (some j)∧R1 j a:=by
 unfold oC at h
 cases q:js[k]? with
 | none=>rw [q] at h; exact h.elim
 | some o =>
  rw [q] at h
  cases o with
  | none=>exact h.elim
  | some j=>exact ⟨j,rfl,h⟩
theorem qM {cd:Nat} (hc:dW ds1 js dsi=true) (hd:dn d=cd) (hz:d≠0) (hl:lk=dU js 0) (h:tF K (p && q) ds ds1 d (eLC q fi g c f js) σ H Q) :
  tLC (tFI K p ds ds1 fi) (tFG K lk dsi dsi g) (tFT K q dsi dsi c) (tF K q dsi dsi cd f) js σ H Q:=by
 obtain ⟨Ox,en,R,t,en',e,hf,k⟩:=h
 unfold eLC at hf
 obtain ⟨⟨ts,en1⟩,h1,hf⟩:=Option.bind_eq_some_iff.mp hf
 obtain ⟨⟨fin,enf⟩,h2,hf⟩:=Option.map_eq_some_iff.mp hf
 cases hf
 obtain ⟨cl,c1,c2⟩:=kA hc
 refine ⟨Ox,en,R,ts,en1,e,h1,fun J H1 R1 P1 wk D hD=>?_⟩
 have E1:=P1.env0
 generalize hRI:oC js R1=RI
 have ri1:∀ k j:Nat,js[k]?=some (some j)→RI k=R1 j:=fun k j z=>by rw [← hRI]; exact Ck z
 have ric:∀ (k:Nat) a,RI k a→∃ j,js[k]?=some (some j)∧R1 j a:=fun k a z=>by rw [← hRI] at z; exact Cj z
 let OxI:AS:=fun a=>Ox a∨a=D∨∃ i,R1 i a∧∀ k:Nat,js[k]?≠some (some i)
 have nD:∀ a,Own R1 Ox a→a≠D:=fun a z z2=>by
  subst z2
  obtain ⟨o,q⟩:=E1.dom a z
  rw [hD] at q
  cases q
 have lI:(cB js en1).length=js.length:=by unfold cB; rw [List.length_map]
 have lS:(dw js σ).length=js.length:=by unfold dw; rw [List.length_map]
 have getE:∀ (k:Nat) t,(cB js en1)[k]?=some (some t)→∃ j,js[k]?=some (some j)∧en1[j]?=some (some t):=fun k t z=>by
  unfold cB at z
  rw [List.getElem?_map] at z
  obtain ⟨oj,h1,h2⟩:=Option.map_eq_some_iff.mp z
  cases oj with
  | none=>cases h2
  | some j =>
   refine ⟨j,h1,?_⟩
   have h2':(en1[j]?).join=some t:=h2
   cases q:en1[j]? with
   | none=>rw [q] at h2'; cases h2'
   | some o=>rw [q] at h2'; exact congrArg some h2'
 have getS:∀ (k j:Nat) v,js[k]?=some (some j)→σ[j]?=some (some v)→(dw js σ)[k]?=some (some v):=fun k j v z1 z2=>by
  unfold dw
  rw [List.getElem?_map,z1]
  show some ((σ[j]?).join)=_
  rw [z2]
  rfl
 have u2:∀ a o,H1 a=some o→upd H1 D (.lst []) a=some o:=fun a o q=>(bw (o:=.lst []) hD).1 a o q
 have EI:EnvOk K dsi OxI (upd H1 D (.lst [])) (dw js σ) (cB js en1) RI:=by
  refine ⟨fun k t hk=>?_,fun k k' a z z'=>?_,fun k a z z2=>?_,fun a z=>?_,by rw [lI,lS],by rw [cl,lS]⟩
  ·obtain ⟨j,hj,ht⟩:=getE k t hk
   obtain ⟨v,d,g1,g2,g3⟩:=E1.at_ j t ht
   obtain ⟨d',q1,q2⟩:=c1 k j hj
   rw [g2] at q2
   cases q2
   refine ⟨v,d,getS k j v hj g1,q1,?_⟩
   rw [ri1 k j hj]
   refine Ow.mv (G:=R1 j) ⟨fun a o q _=>u2 a o q,fun a z=>?_⟩ t (fun _ z=>z) g3
   rcases z with ⟨k',z⟩ | z | z | ⟨i,z,_⟩
   ·obtain ⟨j',_,z⟩:=ric k' a z
    exact .inl (.inl ⟨j',z⟩)
   ·exact .inl (.inr z)
   ·exact .inr (z ▸ hD)
   ·exact .inl (.inl ⟨i,z⟩)
  ·obtain ⟨j,hj,z⟩:=ric k a z
   obtain ⟨j',hj',z'⟩:=ric k' a z'
   have:=E1.dj j j' a z z'
   subst this
   exact c2 k k' j hj hj'
  ·obtain ⟨j,hj,z⟩:=ric k a z
   rcases z2 with z2 | z2 | ⟨i,z2,n⟩
   ·exact E1.dx j a z z2
   ·exact nD a (.inl ⟨j,z⟩) z2
   ·have:=E1.dj j i a z z2
    subst this
    exact n k hj
  ·rcases z with ⟨k,z⟩ | z | z | ⟨i,z,_⟩
   ·obtain ⟨j,hj,z⟩:=ric k a z
    obtain ⟨o,q⟩:=E1.dom a (.inl ⟨j,z⟩)
    exact ⟨o,u2 a o q⟩
   ·obtain ⟨o,q⟩:=E1.dom a (.inr z)
    exact ⟨o,u2 a o q⟩
   ·subst z
    exact ⟨_,aG⟩
   ·obtain ⟨o,q⟩:=E1.dom a (.inl ⟨i,z⟩)
    exact ⟨o,u2 a o q⟩
 refine ⟨fun i n τ H'=>∃ eni RI' acc vs Fa,n=ts.length - i∧i≤ts.length∧PostS K lk dsi OxI (dw js σ) H1 RI τ eni H' RI' Fa∧H' D=some (.lst vs)∧Ows K (Own RI' (U Fa OxI)) H' acc cd vs Fa∧lcF g c f (ts.drop i) acc eni=some (fin,enf) ∧
   (q=true→(∀ k j:Nat,js[k]?=some (some j)→RI' k=RI k)∧(∀ a o,H1 a=some o→H' a=some o)),
  ⟨_,cB js en1,RI,[],[],NoA,rfl,Nat.zero_le _,⟨by rw [fE]; exact EI,fun _ z=>z.elim,fun a o q _=>u2 a o q,fun a z=>z.elim (fun z=>z.elim) .inl,fun a o q=>⟨o,u2 a o q⟩,fun _ _=>rfl⟩,aG,rfl,h2,fun _=>⟨fun _ _ _=>rfl,u2⟩⟩,?_⟩
 rintro i n τ H2 ⟨eni,RI2,acc,vs,Fa,rfl,hi,P2,hDl,oacc,hr,pu⟩
 have jf:∀ a,Own RI2 (U Fa OxI) a→Own R1 Ox a∨H1 a=none:=fun a z=>by
  rcases z with z | z | z | z | ⟨i,z,_⟩
  ·rcases P2.own a (.inr z) with ⟨k,z⟩ | z
   ·obtain ⟨j,_,z⟩:=ric k a z
    exact .inl (.inl ⟨j,z⟩)
   ·exact .inr z
  ·rcases P2.own a (.inl z) with ⟨k,z⟩ | z
   ·obtain ⟨j,_,z⟩:=ric k a z
    exact .inl (.inl ⟨j,z⟩)
   ·exact .inr z
  ·exact .inl (.inr z)
  ·exact .inr (z ▸ hD)
  ·exact .inl (.inl ⟨i,z⟩)
 obtain ⟨w1,w2⟩:=wk i H2 (Own RI2 (U Fa OxI)) (fun a o q z=>P2.keep a o q fun k zk=>by
  obtain ⟨j,_,zj⟩:=ric k a zk
  exact z (.inl ⟨j,zj⟩)) jf fun a z=>P2.env.dom a z
 have DO:OxI D:=.inr (.inl rfl)
 by_cases hlt:i < ts.length
 ·obtain ⟨go,yl⟩:=w1 ts[i] (List.getElem?_eq_getElem hlt)
  rw [List.drop_eq_getElem_cons hlt] at hr
  obtain ⟨en3,h3,hr⟩:=Option.bind_eq_some_iff.mp hr
  obtain ⟨⟨b,en4⟩,h4,hr⟩:=Option.bind_eq_some_iff.mp hr
  refine .inr ⟨go,fun τ' H'=>∃ eni RI' acc vs Fa,PostS K lk dsi OxI (dw js σ) H1 RI τ' eni H' RI' Fa∧H' D=some (.lst vs)∧Ows K (Own RI' (U Fa OxI)) H' acc cd vs Fa∧lcF g c f (ts.drop (i+1)) acc eni=some (fin,enf)∧(q=true→(∀ k j:Nat,js[k]?=some (some j)→RI' k=RI k)∧(∀ a o,H1 a=some o→H' a=some o)),
   fun τ' H' ⟨eni,RI',acc,vs,Fa,P',x1,x2,x3,x4⟩=>⟨_,by omega,eni,RI',acc,vs,Fa,rfl,hlt,P',x1,x2,x3,x4⟩,fun x H3 y=>?_⟩
  obtain ⟨gr,ox⟩:=yl x H3 y
  have P3:Post K true dsi (U Fa OxI) τ H2 eni RI2 eni H3 RI2 NoA:=Post.new P2.env gr fun _ z=>z.elim
  have chain:∀ {τ5 en5 H5 RI5 F5},PostS K lk dsi (U Fa OxI) τ H2 RI2 τ5 en5 H5 RI5 F5→PostS K lk dsi OxI (dw js σ) H1 RI τ5 en5 H5 RI5 (U Fa F5):=fun {τ5 en5 H5 RI5 F5} P5=>by
   have n1:∀ a,H2 a=none→H1 a=none:=fun a z=>by
    cases q:H1 a with
    | none=>rfl
    | some o =>
     obtain ⟨o',q'⟩:=P2.dom a o q
     rw [z] at q'
     cases q'
   refine ⟨jA ▸ P5.env,fun a z z2=>?_,fun a o q n=>?_,fun a z=>?_,fun a o q=>?_,fun j hj=>(P5.lk j hj).trans (P2.lk j hj)⟩
   ·rcases z with z | z
    ·exact P2.fx a z z2
    ·exact P5.fx a z (.inr z2)
   ·refine P5.keep a o (P2.keep a o q n) fun i z=>?_
    rcases P2.own a (.inr ⟨i,z⟩) with ⟨j,z⟩ | z
    ·exact n j z
    ·rw [q] at z; cases z
   ·rcases z with (z | z) | z
    ·exact P2.own a (.inl z)
    ·rcases P5.own a (.inl z) with z | z
     ·exact P2.own a (.inr z)
     ·exact .inr (n1 a z)
    ·rcases P5.own a (.inr z) with z | z
     ·exact P2.own a (.inr z)
     ·exact .inr (n1 a z)
   ·obtain ⟨o',q'⟩:=P2.dom a o q
    exact P5.dom a o' q'
  have carry:∀ {τ5 en5 H5 RI5 F5},PostS K lk dsi (U Fa OxI) τ H2 RI2 τ5 en5 H5 RI5 F5→Ows K (Own RI5 (U (U Fa F5) OxI)) H5 acc cd vs Fa:=fun {τ5 en5 H5 RI5 F5} P5=>by
   refine Ows.mv (G:=Fa) ⟨fun a o q z=>P5.keep a o q fun i zi=>?_,fun a z=>?_⟩ acc (fun _ z=>z) oacc
   ·rcases z with z | z
    ·exact z (.inl ⟨i,zi⟩)
    ·exact P2.env.dx i a zi (.inl z)
   ·rcases z with z | (z | z) | z
    ·exact (P5.own a (.inr z)).imp .inl id
    ·exact .inl (.inr (.inl z))
    ·exact (P5.own a (.inl z)).imp .inl id
    ·exact .inl (.inr (.inr z))
  have UFN:U Fa NoA=Fa:=eX fun a=>⟨fun z=>z.elim id fun z=>z.elim,.inl⟩
  refine ⟨U Fa OxI,eni,RI2,ts[i],en3,P3.env0,ox,h3,fun τ4 R4 P4 r4=>?_⟩
  have P4':=(P3.s (lk:=lk)).after P4
  refine ⟨U Fa OxI,en3,R4,b,en4,P4.env0,h4,fun H5 R5 P5=>?_⟩
  have P5':=P4'.after (P5.s (lk:=lk))
  have pu5:q=true→(∀ k j:Nat,js[k]?=some (some j)→R5 k=RI k)∧(∀ a o,H1 a=some o→H5 a=some o):=fun hq=>by
   obtain ⟨_,b2,b3⟩:=P5.pure hq
   obtain ⟨e1,e2⟩:=pu hq
   refine ⟨fun k j z=>?_,fun a o qq=>b3 a o (gr a o (e2 a o qq))⟩
   rw [b2,r4 k (by rw [hl]; have:=iB (n:=0) z; rw [Nat.zero_add] at this; exact this)]
   exact e1 k j z
  cases b with
  | false =>
   dsimp only
   rw [if_neg Bool.false_ne_true]
   have c5:=chain P5'
   have o5:=carry P5'
   rw [UFN] at c5 o5
   exact ⟨en4,R5,acc,vs,Fa,c5,P5'.keep D _ hDl fun k z=>P2.env.dx k D z (.inr DO),o5,hr,pu5⟩
  | true =>
   dsimp only
   rw [if_pos rfl]
   obtain ⟨⟨t6,en6⟩,h6,hr⟩:=Option.bind_eq_some_iff.mp (show ((f en4).bind fun q=>if acc.length < sizeLine then lcF g c f (ts.drop (i+1)) (acc++[q.1]) q.2 else none)=some (fin,enf) from hr)
   refine ⟨U Fa OxI,en4,R5,t6,en6,P5.env0,h6,fun v H6 R6 F6 P6 o6=>?_⟩
   have P6':=P5'.after (P6.s (lk:=lk))
   by_cases hlen:acc.length < sizeLine
   case neg=>rw [if_neg hlen] at hr; cases hr
   rw [if_pos hlen] at hr
   have hD6:=P6'.keep D _ hDl fun k z=>P2.env.dx k D z (.inr DO)
   refine ⟨vs,hD6,by rw [oacc.len]; exact hlen,en6,R6,acc++[t6],vs++[v],U Fa F6,?_,aG,?_,hr,?_⟩
   ·have c6:=chain P6'
    have keepD:∀ a o,H6 a=some o→a≠D→upd H6 D (.lst (vs++[v])) a=some o:=fun a o q n=>by rw [aK n]; exact q
    refine ⟨⟨fun k t hk=>?_,c6.env.dj,c6.env.dx,fun a z=>?_,c6.env.l1,c6.env.l2⟩,c6.fx,fun a o q n=>?_,c6.own,fun a o q=>?_,c6.lk⟩
    ·obtain ⟨v',d',g1,g2,g3⟩:=c6.env.at_ k t hk
     refine ⟨v',d',g1,g2,Ow.mv (G:=R6 k) ⟨fun a o q z=>keepD a o q fun zD=>?_,fun a z=>.inl z⟩ t (fun _ z=>z) g3⟩
     subst zD
     rcases z with z | z
     ·exact z (.inr (.inr DO))
     ·exact c6.env.dx k a z (.inr DO)
    ·by_cases ha:a=D
     ·subst ha; exact ⟨_,aG⟩
     ·obtain ⟨o,q⟩:=c6.env.dom a z
      exact ⟨o,keepD a o q ha⟩
    ·refine keepD a o (c6.keep a o q n) fun zD=>?_
     subst zD
     rw [hD] at q
     cases q
    ·obtain ⟨o',q'⟩:=c6.dom a o q
     by_cases ha:a=D
     ·subst ha; exact ⟨_,aG⟩
     ·exact ⟨o',keepD a o' q' ha⟩
   ·have o1:=carry P6'
    have o2:Ow K (Own R6 (U (U Fa F6) OxI)) H6 t6 cd v F6:=jA ▸ o6
    have:=Ows.snoc o1 o2 fun b z1 z2=>P6.fx b z2 (.inl z1)
    refine Ows.mv (G:=U Fa F6) ⟨fun a o q z=>?_,fun a z=>.inl z⟩ _ (fun _ z=>z) this
    rw [aK]
    ·exact q
    ·intro zD
     subst zD
     rcases z with z | z | z
     ·exact z (.inr (.inr DO))
     ·exact P2.fx a z DO
     ·exact P6.fx a z (.inr DO)
   ·intro hq
    obtain ⟨_,b2,b3⟩:=P6.pure hq
    obtain ⟨e1,e2⟩:=pu5 hq
    refine ⟨fun k j z=>by rw [b2]; exact e1 k j z,fun a o qq=>?_⟩
    rw [aK]
    ·exact b3 a o (e2 a o qq)
    ·intro zD
     subst zD
     rw [hD] at qq
     cases qq
 ·have e2:i=ts.length:=by omega
  subst e2
  rw [List.drop_length] at hr
  obtain ⟨e3,e4⟩:acc=fin∧eni=enf:=by cases hr; exact ⟨rfl,rfl⟩
  subst e3 e4
  refine .inl ⟨w2 rfl,?_⟩
  have fD:∀ a,Fa a→a≠D:=fun a z z2=>by
   subst z2
   exact P2.fx a z DO
  cases hq:q with
  | true =>
   obtain ⟨e1,e2⟩:=pu hq
   subst hq
   have fn:∀ a,Fa a→H1 a=none:=fun a z=>by
    rcases P2.own a (.inl z) with ⟨k,z2⟩ | z2
    ·obtain ⟨j,hj,z3⟩:=ric k a z2
     rw [← e1 k j hj] at z2
     exact absurd (.inl z) (P2.env.dx k a z2)
    ·exact z2
   have nt:NewTo H1 H2 (fun a=>a=D∨Fa a):=⟨e2,fun a z=>by
    rcases z with z | z
    ·subst z
     exact ⟨hD,_,hDl⟩
    ·exact ⟨fn a z,P2.env.dom a (.inr (.inl z))⟩⟩
   have PF:=P1.fin nt
   rw [Bool.and_true] at k
   refine k (.ref D) H2 R1 _ PF ⟨D,vs,rfl,.inr ⟨hz,hDl,.inl rfl,Fa,fun b z=>⟨.inr z,fD b z⟩,?_⟩⟩
   rw [hd]
   refine Ows.grow (fun a z=>?_) _ (fun _ z=>z) oacc
   rcases z with ⟨i,z⟩ | (z | z) | z
   ·by_cases hc2:∃ kk:Nat,js[kk]?=some (some i)
    ·obtain ⟨kk,hk⟩:=hc2
     refine .inl ⟨kk,?_⟩
     rw [e1 kk i hk,ri1 kk i hk]
     exact z
    ·exact .inr (.inr (.inr (.inr ⟨i,z,fun kk hk=>hc2 ⟨kk,hk⟩⟩)))
   ·exact .inr (.inr (z ▸ DO))
   ·exact .inr (.inl z)
   ·exact .inr (.inr (.inl z))
  | false =>
   subst hq
   rw [Bool.and_false] at k
   classical
   let R3:Nat→AS:=fun i=>if hh:∃ kk:Nat,js[kk]?=some (some i) then RI2 hh.choose else R1 i
   have r31:∀ (i kk:Nat),js[kk]?=some (some i)→R3 i=RI2 kk:=fun i kk z=>by
    have hh:∃ kk:Nat,js[kk]?=some (some i):=⟨kk,z⟩
    have:hh.choose=kk:=c2 _ _ i hh.choose_spec z
    show (if hh:∃ kk:Nat,js[kk]?=some (some i) then RI2 hh.choose else R1 i)=RI2 kk
    rw [dif_pos hh,this]
   have r32:∀ i:Nat,(∀ kk:Nat,js[kk]?≠some (some i))→R3 i=R1 i:=fun i z=>by
    show (if hh:∃ kk:Nat,js[kk]?=some (some i) then RI2 hh.choose else R1 i)=R1 i
    rw [dif_neg fun ⟨j,q⟩=>z j q]
   have r3c:∀ (i:Nat) a,R3 i a→(∃ kk:Nat,js[kk]?=some (some i)∧RI2 kk a)∨((∀ kk:Nat,js[kk]?≠some (some i))∧R1 i a):=fun i a z=>by
    by_cases hh:∃ kk:Nat,js[kk]?=some (some i)
    ·obtain ⟨kk,hk⟩:=hh
     rw [r31 i kk hk] at z
     exact .inl ⟨kk,hk,z⟩
    ·rw [r32 i fun j z=>hh ⟨j,z⟩] at z
     exact .inr ⟨fun j z=>hh ⟨j,z⟩,z⟩
   have sub3:∀ a,Own R3 (U (fun a=>a=D∨Fa a) Ox) a→Own RI2 (U Fa OxI) a:=fun a z=>by
    rcases z with ⟨i,z⟩ | (z | z) | z
    ·rcases r3c i a z with ⟨j,_,z⟩ | ⟨n,z⟩
     ·exact .inl ⟨j,z⟩
     ·exact .inr (.inr (.inr (.inr ⟨i,z,n⟩)))
    ·exact .inr (.inr (z ▸ DO))
    ·exact .inr (.inl z)
    ·exact .inr (.inr (.inl z))
   have el:eni.length=js.length:=by rw [P2.env.l1,← P2.env.l2]; exact cl
   have riO:∀ (kk:Nat) a,RI kk a→Own R1 Ox a:=fun kk a z=>by
    obtain ⟨j,_,z⟩:=ric kk a z
    exact .inl ⟨j,z⟩
   have env3:EnvOk K ds1 (U (fun a=>a=D∨Fa a) Ox) H2 σ (wbB js eni en1) R3:=by
    refine ⟨fun i u hu=>?_,fun i i' a z z'=>?_,fun i a z z2=>?_,fun a z=>P2.env.dom a (sub3 a z),by rw [lP]; exact E1.l1,E1.l2⟩
    ·by_cases hh:∃ kk:Nat,js[kk]?=some (some i)
     ·obtain ⟨kk,hk⟩:=hh
      obtain ⟨dd,q1,q2⟩:=c1 kk i hk
      have hil:i < en1.length:=by rw [E1.l1,← E1.l2]; exact (List.getElem?_eq_some_iff.mp q2).1
      rw [np js eni en1 i kk hk (fun k' z=>c2 k' kk i z hk) el hil] at hu
      obtain ⟨v,d',g1,g2,g3⟩:=P2.env.at_ kk u hu
      rw [q1] at g2
      cases g2
      have hlk:=P2.lk kk (by rw [hl]; have:=iB (n:=0) hk; rw [Nat.zero_add] at this; exact this)
      rw [hlk] at g1
      refine ⟨v,dd,?_,q2,?_⟩
      ·unfold dw at g1
       rw [List.getElem?_map,hk] at g1
       have g1':(σ[i]?).join=some v:=Option.some.inj g1
       cases q3:σ[i]? with
       | none=>rw [q3] at g1'; cases g1'
       | some o=>rw [q3] at g1'; exact congrArg some g1'
      ·rw [r31 i kk hk]
       exact Ow.grow sub3 u (fun _ z=>z) g3
     ·rw [jN js eni en1 i fun j z=>hh ⟨j,z⟩] at hu
      have ns:∀ j:Nat,js[j]?≠some (some i):=fun j z=>hh ⟨j,z⟩
      obtain ⟨v,d',g1,g2,g3⟩:=E1.at_ i u hu
      refine ⟨v,d',g1,g2,?_⟩
      rw [r32 i ns]
      refine Ow.mv (G:=R1 i) ⟨fun a o q z=>P2.keep a o q fun j zj=>?_,fun a z=>jf a (sub3 a z)⟩ u (fun _ z=>z) g3
      obtain ⟨j',hj',zj⟩:=ric j a zj
      rcases z with z | z
      ·exact z (.inl ⟨j',zj⟩)
      ·have:=E1.dj i j' a z zj
       subst this
       exact ns j hj'
    ·rcases r3c i a z with ⟨j,q,z⟩ | ⟨n,z⟩ <;> rcases r3c i' a z' with ⟨j',q',z'⟩ | ⟨n',z'⟩
     ·have:=P2.env.dj j j' a z z'
      subst this
      rw [q] at q'
      cases q'
      rfl
     ·exact absurd (.inr (.inr (.inr ⟨i',z',n'⟩))) (P2.env.dx j a z)
     ·exact absurd (.inr (.inr (.inr ⟨i,z,n⟩))) (P2.env.dx j' a z')
     ·exact E1.dj i i' a z z'
    ·rcases r3c i a z with ⟨j,q,z⟩ | ⟨n,z⟩
     ·refine P2.env.dx j a z ?_
      rcases z2 with (z2 | z2) | z2
      ·exact .inr (z2 ▸ DO)
      ·exact .inl z2
      ·exact .inr (.inl z2)
     ·rcases z2 with (z2 | z2) | z2
      ·exact nD a (.inl ⟨i,z⟩) z2
      ·exact P2.fx a z2 (.inr (.inr ⟨i,z,n⟩))
      ·exact E1.dx i a z z2
   have n1:∀ a,H1 a=none→H a=none:=fun a z=>by
    cases q:H a with
    | none=>rfl
    | some o =>
     obtain ⟨o',q'⟩:=P1.dom a o q
     rw [z] at q'
     cases q'
   refine k (.ref D) H2 R3 (fun a=>a=D∨Fa a) ⟨env3,fun a z z2=>?_,fun a o q n=>?_,fun a z=>?_,fun a o q=>?_,fun z=>nomatch z⟩ ⟨D,vs,rfl,.inr ⟨hz,hDl,.inl rfl,Fa,fun b z=>⟨.inr z,fD b z⟩,?_⟩⟩
   ·rcases z with z | z
    ·exact nD a (.inr z2) z
    ·exact P2.fx a z (.inl z2)
   ·refine P2.keep a o (P1.keep a o q n) fun kk z=>?_
    obtain ⟨j,_,z⟩:=ric kk a z
    rcases P1.own a (.inr ⟨j,z⟩) with ⟨i',z⟩ | z
    ·exact n i' z
    ·rw [q] at z; cases z
   ·have h3:(∃ i,R1 i a)∨H1 a=none:=by
     have h4:(Fa a∨∃ kk,RI2 kk a)→(∃ i,R1 i a)∨H1 a=none:=fun z=>by
      rcases P2.own a z with ⟨kk,z⟩ | z
      ·obtain ⟨j,_,z⟩:=ric kk a z
       exact .inl ⟨j,z⟩
      ·exact .inr z
     rcases z with (z | z) | ⟨i,z⟩
     ·exact .inr (z ▸ hD)
     ·exact h4 (.inl z)
     ·rcases r3c i a z with ⟨j,_,z⟩ | ⟨n,z⟩
      ·exact h4 (.inr ⟨j,z⟩)
      ·exact .inl ⟨i,z⟩
    rcases h3 with h3 | h3
    ·exact P1.own a (.inr h3)
    ·exact .inr (n1 a h3)
   ·obtain ⟨o',q'⟩:=P1.dom a o q
    exact P2.dom a o' q'
   ·rw [hd]
    exact Ows.grow sub3 _ (fun _ z=>z) oacc
end
end L2
namespace L2
open PySem PySem.Spec PyProof.Rows
def msk:List Nat→En→En
 | d :: ds,o :: en=>(if d=0 then none else o) :: msk ds en
 | _,_=>[]
def fnF (n:Nat) (dps:List Nat) (b:MS):List PyData→Option (PyData × En):=fun ts=>(b (ts.map some++List.replicate n none)).bind fun fl=>match fl with
 | .rt t en=>some (t,msk dps en)
 | .nx en=>some (.none,msk dps en)
 | .ct _=>none
def nP (dps:List Nat):List Nat:=(List.range dps.length).filter fun j=>dps[j]? != some 0
section
variable {K:PySem.W.Frag} {p p1 p2 q:Bool} {J:Jd} {lk:List Nat} {ds ds0 ds1 ds2 ds' dps:List Nat} {Ox Ox' O O':AS} {H H' H1:Hp} {σ σ':St} {en en' en1 en2:En} {R R' R1:Nat→AS} {d d' d1 d2 dr:Nat} {t t1 t2:PyData} {Q:VK} {f f1 f2:ME} {i:Nat} {v:V} {D:Ends}
theorem pz:∀ {dps:List Nat} {en:En} {j:Nat} {u:PyData},(msk dps en)[j]?=some (some u)→∃ d,dps[j]?=some d∧d≠0∧en[j]?=some (some u)
 | [],en,j,u,h=>by unfold msk at h; simp at h
 | d :: ds,[],j,u,h=>by unfold msk at h; simp at h
 | d :: ds,o :: en,j,u,h=>by
  unfold msk at h
  cases j with
  | zero =>
   by_cases hd:d=0
   ·simp [hd] at h
   ·refine ⟨d,rfl,hd,?_⟩
    simpa [hd] using h
  | succ j =>
   have:=pz (dps:=ds) (en:=en) (j:=j) (u:=u) (by simpa using h)
   simpa using this
theorem pv:∀ {dps:List Nat} {en:En},dps.length≤en.length→(msk dps en).length=dps.length
 | [],en,_=>by unfold msk; rfl
 | d :: ds,[],h=>by simp at h
 | d :: ds,o :: en,h=>by
  unfold msk
  rw [List.length_cons,List.length_cons,pv (by simpa using h)]
theorem BW {N:List Str} {vs:List V} {E:XK} {n:Nat} {b:MS} (hn:N.length - dps.length=n) (h:spF K dps dr (fnF n dps b) vs H Q E) :
  tFS K ⟨nP dps,dps++List.replicate n 0,dr,[]⟩ (dps++List.replicate n 0) (dps++List.replicate n 0) b { nx:=fun _ H'=>Q .non H',rt:=Q } (cK N vs) H:=by
 obtain ⟨Ox,ts,R,r,outs,e,hf,k⟩:=h
 have lv:dps.length=vs.length:=by have:=e.l2; rw [List.length_map] at this; exact this
 have lt:ts.length=vs.length:=by have:=e.l1; rw [List.length_map,List.length_map] at this; exact this
 have hs:cK N vs=vs.map some++List.replicate n none:=by unfold cK; rw [← lv,hn]
 unfold fnF at hf
 obtain ⟨fl,h1,hf⟩:=Option.bind_eq_some_iff.mp hf
 have get0:∀ {α:Type} (xs:List α) (i:Nat) (u:α),(xs.map some++List.replicate n none)[i]?=some (some u)→(xs.map some)[i]?=some (some u)∧i < xs.length:=fun xs i u z=>by
  by_cases hi:i < xs.length
  ·rw [List.getElem?_append_left (by rw [List.length_map]; exact hi)] at z
   exact ⟨z,hi⟩
  ·rw [List.getElem?_append_right (by rw [List.length_map]; omega),List.getElem?_replicate] at z
   split at z
   ·cases z
   ·cases z
 have e0:EnvOk K (dps++List.replicate n 0) Ox H (cK N vs) (ts.map some++List.replicate n none) R:=by
  rw [hs]
  refine ⟨fun i u hu=>?_,e.dj,e.dx,e.dom,by simp [lt],by simp [lv]⟩
  obtain ⟨hu',hi⟩:=get0 ts i u hu
  obtain ⟨v,d,g1,g2,g3⟩:=e.at_ i u hu'
  refine ⟨v,d,?_,?_,g3⟩
  ·rw [List.getElem?_append_left (by rw [List.length_map]; omega)]; exact g1
  ·rw [List.getElem?_append_left (by omega)]; exact g2
 have back:∀ {σ' en' H' R' F},PostS K (nP dps) (dps++List.replicate n 0) Ox (cK N vs) H R σ' en' H' R' F→Post K false dps Ox (vs.map some) H (ts.map some) R (msk dps en') H' R' F:=fun {σ' en' H' R' F} P=>by
  have l1:=P.env.l1
  have l2:=P.env.l2
  rw [List.length_append,List.length_replicate] at l2
  refine ⟨⟨fun j u hu=>?_,P.env.dj,P.env.dx,P.env.dom,by rw [pv (by omega),List.length_map]; exact lv,by rw [List.length_map]; exact lv⟩,P.fx,P.keep,P.own,P.dom,fun z=>nomatch z⟩
  obtain ⟨d,a1,a2,a3⟩:=pz hu
  obtain ⟨v,d',g1,g2,g3⟩:=P.env.at_ j u a3
  have hj:j < dps.length:=(List.getElem?_eq_some_iff.mp a1).1
  have hlk:j∈nP dps:=by
   unfold nP
   rw [List.mem_filter,List.mem_range]
   refine ⟨hj,?_⟩
   rw [a1]
   simpa using a2
  rw [P.lk j hlk,hs,List.getElem?_append_left (by rw [List.length_map]; omega)] at g1
  rw [List.getElem?_append_left hj] at g2
  exact ⟨v,d',g1,g2,g3⟩
 refine ⟨Ox,_,R,fl,e0,h1,?_⟩
 cases fl with
 | nx en2 =>
  cases hf
  exact fun σ2 H2 R2 P2=>k .non H2 R2 NoA (back P2) rfl
 | ct en2=>cases hf
 | rt t en2 =>
  cases hf
  exact fun v σ2 H2 R2 F P2 o=>k v H2 R2 F (back P2) o
theorem Post.slot {F G F':AS} {l:Addr} {o2:HO} (P:Post K p ds1 Ox σ H en R en1 H1 R1 F) (hl:R1 i l) (hi:i < en1.length) (hv:σ[i]?=some (some v)) (hd:ds1[i]?=some d)
  (hg:∀ a,G a→R1 i a∨F a) (hf:∀ a,F' a→R1 i a∨F a) (hx:∀ a,G a→¬ F' a)
  (ho:Ow K (Own (fun j=>if j=i then G else R1 j) (U F' Ox)) (upd H1 l o2) t d v G) :
  Post K false ds1 Ox σ H en R (en1.set i (some t)) (upd H1 l o2) (fun j=>if j=i then G else R1 j) F':=by
 have rc:∀ (j:Nat) a,(if j=i then G else R1 j) a→R1 j a∨(j=i∧F a):=fun j a z=>by
  by_cases hj:j=i
  ·rw [if_pos hj] at z
   rcases hg a z with z | z
   ·exact .inl (hj ▸ z)
   ·exact .inr ⟨hj,z⟩
  ·rw [if_neg hj] at z; exact .inl z
 have sub:∀ a,Own (fun j=>if j=i then G else R1 j) (U F' Ox) a→Own R1 (U F Ox) a:=fun a z=>by
  rcases z with ⟨j,z⟩ | z | z
  ·rcases rc j a z with z | ⟨_,z⟩
   ·exact .inl ⟨j,z⟩
   ·exact .inr (.inl z)
  ·rcases hf a z with z | z
   ·exact .inl ⟨i,z⟩
   ·exact .inr (.inl z)
  ·exact .inr (.inr z)
 have dom2:∀ a o,H1 a=some o→∃ o',upd H1 l o2 a=some o':=fun a o q=>by
  by_cases ha:a=l
  ·subst ha; exact ⟨_,aG⟩
  ·exact ⟨o,by rw [aK ha]; exact q⟩
 have nl:∀ a o,H1 a=some o→a≠l→upd H1 l o2 a=some o:=fun a o q n=>by rw [aK n]; exact q
 refine ⟨⟨fun j u hu=>?_,fun j j' a z z'=>?_,fun j a z z2=>?_,fun a z=>?_,by rw [List.length_set]; exact P.env.l1,P.env.l2⟩,fun a z z2=>?_,fun a o q n=>?_,fun a z=>?_,fun a o q=>?_,fun z=>nomatch z⟩
 ·by_cases hj:j=i
  ·subst hj
   rw [List.getElem?_set_self hi] at hu
   cases hu
   refine ⟨v,d,hv,hd,?_⟩
   rw [if_pos rfl]
   exact ho
  ·rw [List.getElem?_set_ne (Ne.symm hj)] at hu
   obtain ⟨v',d',g1,g2,g3⟩:=P.env.at_ j u hu
   refine ⟨v',d',g1,g2,?_⟩
   rw [if_neg hj]
   refine Ow.mv (G:=R1 j) ⟨fun a o q z=>nl a o q fun za=>?_,fun a z=>.inl (sub a z)⟩ u (fun _ z=>z) g3
   subst za
   rcases z with z | z
   ·exact z (.inl ⟨i,hl⟩)
   ·exact hj (P.env.dj j i a z hl)
 ·have z0:=z
  have z0':=z'
  by_cases hj:j=i <;> by_cases hj':j'=i
  ·rw [hj,hj']
  ·rw [if_pos hj] at z0; rw [if_neg hj'] at z0'
   rcases hg a z0 with z1 | z1
   ·exact absurd (P.env.dj i j' a z1 z0') (fun e=>hj' e.symm)
   ·exact absurd (.inl z1) (P.env.dx j' a z0')
  ·rw [if_neg hj] at z0; rw [if_pos hj'] at z0'
   rcases hg a z0' with z1 | z1
   ·exact absurd (P.env.dj j i a z0 z1) hj
   ·exact absurd (.inl z1) (P.env.dx j a z0)
  ·rw [if_neg hj] at z0; rw [if_neg hj'] at z0'
   exact P.env.dj j j' a z0 z0'
 ·have z0:=z
  by_cases hj:j=i
  ·rw [if_pos hj] at z0
   rcases z2 with z2 | z2
   ·exact hx a z0 z2
   ·rcases hg a z0 with z1 | z1
    ·exact P.env.dx i a z1 (.inr z2)
    ·exact P.fx a z1 z2
  ·rw [if_neg hj] at z0
   rcases z2 with z2 | z2
   ·rcases hf a z2 with z1 | z1
    ·exact hj (P.env.dj j i a z0 z1)
    ·exact P.env.dx j a z0 (.inl z1)
   ·exact P.env.dx j a z0 (.inr z2)
 ·obtain ⟨o,q⟩:=P.env.dom a (sub a z)
  exact dom2 a o q
 ·rcases hf a z with z1 | z1
  ·exact P.env.dx i a z1 (.inr z2)
  ·exact P.fx a z1 z2
 ·refine nl a o (P.keep a o q n) fun za=>?_
  subst za
  rcases P.own a (.inr ⟨i,hl⟩) with ⟨j,z⟩ | z
  ·exact n j z
  ·rw [q] at z; cases z
 ·have:F a∨∃ j,R1 j a:=by
   rcases z with z | ⟨j,z⟩
   ·rcases hf a z with z | z
    ·exact .inr ⟨i,z⟩
    ·exact .inl z
   ·rcases rc j a z with z | ⟨_,z⟩
    ·exact .inr ⟨j,z⟩
    ·exact .inl z
  exact P.own a this
 ·obtain ⟨o',q'⟩:=P.dom a o q
  exact dom2 a o' q'
theorem lB {G F' F:AS} (hg:∀ a,G a→R1 i a∨F a) (hf:∀ a,F' a→R1 i a∨F a):∀ a,Own (fun j=>if j=i then G else R1 j) (U F' Ox) a→Own R1 (U F Ox) a:=fun a z=>by
 rcases z with ⟨j,z⟩ | z | z
 ·by_cases hj:j=i
  ·rw [if_pos hj] at z
   rcases hg a z with z | z
   ·exact .inl ⟨i,z⟩
   ·exact .inr (.inl z)
  ·rw [if_neg hj] at z; exact .inl ⟨j,z⟩
 ·rcases hf a z with z | z
  ·exact .inl ⟨i,z⟩
  ·exact .inr (.inl z)
 ·exact .inr (.inr z)
theorem bi {α:Type} {en:List (Option α)} {i:Nat} {t:α} (h:(en[i]?).join=some t):en[i]?=some (some t):=by
 cases q:en[i]? with
 | none=>rw [q] at h; cases h
 | some o=>rw [q] at h; exact congrArg some h
theorem Ow.sqL {ts:List PyData} {F:AS} (h:Ow K O H (.list ts) d v F):∃ a vs,v=.ref a∧SqL K H a vs:=by
 obtain ⟨a,vs,e,⟨_,h1,_⟩ | ⟨_,h1,_⟩⟩:=h
 ·exact ⟨a,vs,e,h1.sq⟩
 ·exact ⟨a,vs,e,SqL.of h1⟩
theorem Ow.ownL {ts:List PyData} {F:AS} (hd:d≠0) (h:Ow K O H (.list ts) d v F):∃ a vs,v=.ref a∧H a=some (.lst vs)∧F a∧∃ F':AS,(∀ b,F' b→F b∧b≠a)∧Ows K O H ts (dn d) vs F':=by
 obtain ⟨a,vs,e,⟨h0,_⟩ | ⟨_,h1,h2,h3⟩⟩:=h
 ·exact absurd h0 hd
 ·exact ⟨a,vs,e,h1,h2,h3⟩
theorem Ows.past {ts:List PyData} {vs:List V} {F:AS} {l:Addr} {o:HO} (ho:∀ a,O' a→O a) (hl:O l) (hf:∀ b,F b→b≠l) (h:Ows K O H ts d vs F):Ows K O' (upd H l o) ts d vs F :=
 Ows.mv (G:=F) ⟨fun a u q z=>by
  rw [aK]
  ·exact q
  ·intro za
   subst za
   rcases z with z | z
   ·exact z hl
   ·exact hf a z rfl,fun a z=>.inl (ho a z)⟩ ts (fun _ z=>z) h
theorem Ow.past {F:AS} {l:Addr} {o:HO} (ho:∀ a,O' a→O a) (hl:O l) (hf:∀ b,F b→b≠l) (h:Ow K O H t d v F):Ow K O' (upd H l o) t d v F :=
 Ow.mv (G:=F) ⟨fun a u q z=>by
  rw [aK]
  ·exact q
  ·intro za
   subst za
   rcases z with z | z
   ·exact z hl
   ·exact hf a z rfl,fun a z=>.inl (ho a z)⟩ t (fun _ z=>z) h
def dF (i:Nat) (f:ME):ME:=fun en=>match (en[i]?).join with
 | some (.list _)=>(f en).bind fun r=>match (r.2[i]?).join with
  | some (.list ts)=>if ts.length < sizeLine then some (.none,r.2.set i (some (.list (ts++[r.1])))) else none
  | _=>none
 | _=>none
theorem Hk {c:Nat} (hd:ds1[i]?=some d) (hz:d≠0) (hc:dn d=c) (h:tF K false ds ds1 3 (dF i f) σ H Q):tBM K "list" pj (gO i) (jO (tF K p ds ds1 c f) nr) σ H Q:=by
 obtain ⟨Ox,en,R,t,en',e,hf,k⟩:=h
 unfold dF at hf
 split at hf
 case h_2=>cases hf
 next ts0 h0 =>
 obtain ⟨⟨t1,en1⟩,h1,hf⟩:=Option.bind_eq_some_iff.mp hf
 dsimp only at hf
 split at hf
 case h_2=>cases hf
 next ts h2 =>
 by_cases hlen:ts.length < sizeLine
 case neg=>rw [if_neg hlen] at hf; cases hf
 rw [if_pos hlen] at hf
 cases hf
 obtain ⟨v,d0,a1,_,a3⟩:=e.at_ i _ (bi h0)
 obtain ⟨l0,vs0,e0,sq⟩:=a3.sqL
 refine ⟨v,a1,?_,Ox,en,R,t1,en1,e,h1,fun x H1 R1 F P o=>?_⟩
 ·rw [e0]; exact .inl ⟨rfl,vs0,sq⟩
 obtain ⟨v',d',b1,b2,b3⟩:=P.env.at_ i _ (bi h2)
 rw [a1] at b1
 cases b1
 rw [hd] at b2
 cases b2
 obtain ⟨l,vs,el,hl,hr,F',hf',ow⟩:=b3.ownL hz
 refine ⟨l,vs,x,el,rfl,hl,by rw [ow.len]; exact hlen,?_⟩
 have hi:i < en1.length:=(List.getElem?_eq_some_iff.mp (bi h2)).1
 have Fn:∀ a,F a→a≠l:=fun a z z2=>by
  subst z2
  exact P.env.dx i a hr (.inl z)
 have sub:=lB (i:=i) (R1:=R1) (Ox:=Ox) (G:=fun a=>R1 i a∨F a) (F':=NoA) (F:=F) (fun _ z=>z) (fun _ z=>z.elim)
 have Ol:Own R1 (U F Ox) l:=.inl ⟨i,hr⟩
 refine k .non (upd H1 l (.lst (vs++[x]))) _ NoA (P.slot (G:=fun a=>R1 i a∨F a) hr hi a1 hd (fun _ z=>z) (fun _ z=>z.elim) (fun _ _ z=>z) ?_) rfl
 refine ⟨l,vs++[x],el,.inr ⟨hz,aG,.inl hr,U F' F,fun b z=>?_,?_⟩⟩
 ·rcases z with z | z
  ·exact ⟨.inl (hf' b z).1,(hf' b z).2⟩
  ·exact ⟨.inr z,Fn b z⟩
 ·refine Ows.snoc (Ows.past sub Ol (fun b z=>(hf' b z).2) ow) ?_ fun b z1 z2=>P.env.dx i b (hf' b z1).1 (.inl z2)
  rw [hc]
  exact Ow.past sub Ol Fn o
theorem Ows.out:∀ {ts:List PyData} {vs:List V} {F:AS} {k:Nat} {t:PyData},Ows K O H ts d vs F→ts[k]?=some t →
  ∃ v,∃ F1 F2:AS,vs[k]?=some v∧(∀ b,F1 b→F b)∧(∀ b,F2 b→F b)∧(∀ b,F1 b→¬ F2 b)∧Ow K O H t d v F1∧Ows K O H (ts.eraseIdx k) d (vs.eraseIdx k) F2
 | [],_,_,k,t,_,h=>by simp at h
 | u :: ts,_,F,k,t,h,hk=>by
  obtain ⟨v,r,F1,F2,e,s1,s2,s3,h4,h5⟩:=h
  subst e
  cases k with
  | zero =>
   have:u=t:=by simpa using hk
   subst this
   exact ⟨v,F1,F2,rfl,s1,s2,s3,h4,h5⟩
  | succ k =>
   obtain ⟨w,G1,G2,g1,g2,g3,g4,g5,g6⟩:=Ows.out (k:=k) h5 (by simpa using hk)
   refine ⟨w,G1,U F1 G2,by simpa using g1,fun b z=>s2 b (g2 b z),fun b z=>z.elim (s1 b) fun z=>s2 b (g3 b z),fun b z z2=>?_,g5,v,r.eraseIdx k,F1,G2,rfl,fun b=>.inl,fun b=>.inr,fun b z1 z2=>s3 b z1 (g3 b z2),h4,g6⟩
   rcases z2 with z2 | z2
   ·exact s3 b z2 (g2 b z)
   ·exact g4 b z z2
def fh (i:Nat) (f:ME):ME:=fun en=>match (en[i]?).join with
 | some (.list _)=>(f en).bind fun r=>match r.1,(r.2[i]?).join with
  | .int n,some (.list ts)=>if -(2 ^ 63)≤n∧n < 2 ^ 63 then (seqIndex? n ts.length).bind fun k=>(ts[k]?).map fun t=>(t,r.2.set i (some (.list (ts.eraseIdx k)))) else none
  | _,_=>none
 | _=>none
theorem Cd {c:Nat} (hd:ds1[i]?=some d) (hz:d≠0) (hc:dn d=c) (h:tF K false ds ds1 c (fh i f) σ H Q):tBM K "list" rF (gO i) (jO (tF K p ds ds1 d1 f) nr) σ H Q:=by
 obtain ⟨Ox,en,R,t,en',e,hf,k⟩:=h
 unfold fh at hf
 split at hf
 case h_2=>cases hf
 next ts0 h0 =>
 obtain ⟨⟨t1,en1⟩,h1,hf⟩:=Option.bind_eq_some_iff.mp hf
 dsimp only at hf
 split at hf
 case h_2=>cases hf
 next n ts h2 =>
 by_cases hn:-(2 ^ 63)≤n∧n < 2 ^ 63
 case neg=>rw [if_neg hn] at hf; cases hf
 rw [if_pos hn] at hf
 obtain ⟨kk,h3,hf⟩:=Option.bind_eq_some_iff.mp hf
 obtain ⟨t',h4,hf⟩:=Option.map_eq_some_iff.mp hf
 cases hf
 obtain ⟨v,d0,a1,_,a3⟩:=e.at_ i _ (bi h0)
 obtain ⟨l0,vs0,e0,sq⟩:=a3.sqL
 refine ⟨v,a1,?_,Ox,en,R,.int n,en1,e,h1,fun x H1 R1 F P o=>?_⟩
 ·rw [e0]; exact .inl ⟨rfl,vs0,sq⟩
 obtain ⟨v',d',b1,b2,b3⟩:=P.env.at_ i _ (bi h2)
 rw [a1] at b1
 cases b1
 rw [hd] at b2
 cases b2
 obtain ⟨l,vs,el,hl,hr,F',hf',ow⟩:=b3.ownL hz
 have len:=ow.len
 obtain ⟨w,F1,F2,g1,g2,g3,g4,g5,g6⟩:=ow.out h4
 have ex:x=.int n:=o
 refine ⟨l,vs,n,kk,w,el,by rw [ex],hl,hn.1,hn.2,by rw [len]; exact h3,g1,?_⟩
 have hi:i < en1.length:=(List.getElem?_eq_some_iff.mp (bi h2)).1
 have gG:∀ a,(fun a=>R1 i a∧¬ F1 a) a→R1 i a∨F a:=fun a z=>.inl z.1
 have gF:∀ a,F1 a→R1 i a∨F a:=fun a z=>.inl (hf' a (g2 a z)).1
 have sub:∀ a,Own (fun j=>if j=i then (fun a=>R1 i a∧¬ F1 a) else R1 j) (U F1 Ox) a→Own R1 (U F Ox) a:=fun a z=>lB gG gF a z
 have Ol:Own R1 (U F Ox) l:=.inl ⟨i,hr⟩
 have F1l:¬ F1 l:=fun z=>(hf' l (g2 l z)).2 rfl
 rw [hc] at g5
 refine k w (upd H1 l (.lst (vs.eraseIdx kk))) _ F1 (P.slot (G:=fun a=>R1 i a∧¬ F1 a) hr hi a1 hd gG gF (fun a z z2=>z.2 z2) ?_) (Ow.past sub Ol (fun b z=>(hf' b (g2 b z)).2) g5)
 exact ⟨l,vs.eraseIdx kk,el,.inr ⟨hz,aG,⟨hr,F1l⟩,F2,fun b z=>⟨⟨(hf' b (g3 b z)).1,fun z1=>g4 b z1 z⟩,(hf' b (g3 b z)).2⟩,Ows.past sub Ol (fun b z=>(hf' b (g3 b z)).2) g6⟩⟩
def nc (i:Nat) (fk fe:ME):MS:=fun en=>(fe en).bind fun r=>match (r.2[i]?).join with
 | some _=>(fk r.2).bind fun q=>match q.1,(q.2[i]?).join with
  | .int n,some (.list ts)=>(ixN ts.length n).map fun k=>.nx (q.2.set i (some (.list (ts.set k r.1))))
  | _,_=>none
 | none=>none
theorem Ows.get:∀ {ts:List PyData} {vs:List V} {F:AS} {k:Nat} {t:PyData},Ows K O H ts d vs F→ts[k]?=some t→∃ v,vs[k]?=some v∧Ow K O H t d v F
 | [],_,_,k,t,_,h=>by simp at h
 | u :: ts,_,F,k,t,h,hk=>by
  obtain ⟨v,r,F1,F2,e,s1,s2,s3,h4,h5⟩:=h
  subst e
  cases k with
  | zero =>
   have:u=t:=by simpa using hk
   subst this
   exact ⟨v,rfl,Ow.grow (fun _ z=>z) u s1 h4⟩
  | succ k =>
   obtain ⟨w,g1,g2⟩:=Ows.get (k:=k) h5 (by simpa using hk)
   exact ⟨w,by simpa using g1,Ow.grow (fun _ z=>z) t s2 g2⟩
theorem Ows.atI {ts:List PyData} {vs:List V} {F:AS} {n:Int} {t:PyData} (h:Ows K O H ts d vs F) (ht:L2.atI ts n=some t):∃ v,L2.atI vs n=some v∧Ow K O H t d v F:=by
 unfold L2.atI at ht ⊢
 rw [h.len]
 obtain ⟨k,h1,h2⟩:=Option.bind_eq_some_iff.mp ht
 obtain ⟨v,g1,g2⟩:=h.get h2
 exact ⟨v,by rw [h1]; exact g1,g2⟩
def dS (i:Nat) (f:ME):ME:=fun en=>(en[i]?).join.bind fun _=>(f en).bind fun r=>match r.1,(r.2[i]?).join with
 | .int n,some (.list ts)=>(atI ts n).map fun t=>(t,r.2)
 | _,_=>none
theorem Hj (hd:ds1[i]?=some 1) (h:tF K p ds ds1 0 (dS i f) σ H Q):tOp (p9 K) (gO i) (tF K p ds ds1 d1 f) σ H Q:=by
 obtain ⟨Ox,en,R,t,en',e,hf,k⟩:=h
 unfold dS at hf
 obtain ⟨t0,h0,hf⟩:=Option.bind_eq_some_iff.mp hf
 obtain ⟨⟨t1,en1⟩,h1,hf⟩:=Option.bind_eq_some_iff.mp hf
 dsimp only at hf
 split at hf
 case h_2=>cases hf
 next n ts h2 =>
 obtain ⟨t',h3,hf⟩:=Option.map_eq_some_iff.mp hf
 cases hf
 obtain ⟨v,d0,a1,_,a3⟩:=e.at_ i _ (bi h0)
 refine ⟨v,a1,Ox,en,R,.int n,_,e,h1,fun x H1 R1 F P o=>?_⟩
 obtain ⟨v',d',b1,b2,b3⟩:=P.env.at_ i _ (bi h2)
 rw [a1] at b1
 cases b1
 rw [hd] at b2
 cases b2
 obtain ⟨l,vs,el,hl,hr,F',hf',ow⟩:=b3.ownL (by decide)
 obtain ⟨w,g1,g2⟩:=ow.atI h3
 refine ⟨l,vs,n,w,el,o,SqL.of hl,g1,k w H1 R1 NoA (P.less fun _ z=>z.elim) ?_⟩
 exact Ow.any0 _ (Ow.grow (fun a z=>z.imp id fun z=>z.elim (fun z=>False.elim z) Or.inr) _ (fun _ z=>z) g2)
end
end L2
namespace L2
open PySem PySem.Spec PyProof.Rows
theorem PE.imp {X:Cx} {e:Expr} {t t':TE} (h:PE X e t) (hi:∀ σ H Q,t' σ H Q→t σ H Q):PE X e t':=fun pins s σ H Q I hw=>h pins s σ H Q I (hi _ _ _ hw)
theorem PT.imp {X:Cx} {e:Expr} {t t':TT} (h:PT X e t) (hi:∀ σ H Q,t' σ H Q→t σ H Q):PT X e t':=fun pins s σ H Q I hw=>h pins s σ H Q I (hi _ _ _ hw)
theorem PW.imp {X:Cx} {e:Expr} {t t':TT} (h:PW X e t) (hi:∀ σ H Q,t' σ H Q→t σ H Q):PW X e t':=fun wh pins s σ H Q I hw=>h wh pins s σ H Q I (hi _ _ _ hw)
theorem PA.imp {X:Cx} {e:List Expr} {t t':TA} (h:PA X e t) (hi:∀ σ H Q,t' σ H Q→t σ H Q):PA X e t':=fun pos pins s σ H Q I hw=>h pos pins s σ H Q I (hi _ _ _ hw)
theorem PS.imp {X:Cx} {e:Stmt} {t t':TS} (h:PS X e t) (hi:∀ D σ H,t' D σ H→t D σ H):PS X e t':=fun pins s σ H D I hw=>h pins s σ H D I (hi _ _ _ hw)
theorem PSs.imp {X:Cx} {e:List Stmt} {t t':TS} (h:PSs X e t) (hi:∀ D σ H,t' D σ H→t D σ H):PSs X e t':=fun pins s σ H D I hw=>h pins s σ H D I (hi _ _ _ hw)
theorem PG.imp {X:Cx} {e:Expr} {t t':TG} (h:PG X e t) (hi:∀ v σ H Q,t' v σ H Q→t v σ H Q):PG X e t':=fun pins s σ H v u Q I r hw=>h pins s σ H v u Q I r (hi _ _ _ _ hw)
theorem PGs.imp {X:Cx} {e:List Expr} {t t':TGs} (h:PGs X e t) (hi:∀ v σ H Q,t' v σ H Q→t v σ H Q):PGs X e t':=fun pins s σ H v u Q I r hw=>h pins s σ H v u Q I r (hi _ _ _ _ hw)
theorem PI.imp {X:Cx} {tg e:Expr} {t t':TI} (h:PI X tg e t) (hi:∀ σ H R,t' σ H R→t σ H R):PI X tg e t':=fun pins s σ H R I hw=>h pins s σ H R I (hi _ _ _ hw)
theorem PTs.imp {X:Cx} {e:List Expr} {t t':TT} (h:PTs X e t) (hi:∀ σ H Q,t' σ H Q→t σ H Q):PTs X e t':=fun pins s σ H Q I hw=>h pins s σ H Q I (hi _ _ _ hw)
def aJ:Expr→Bool
 | .Starred _ _=>false
 | _=>true
theorem aS {e:Expr} {es:List Expr} {env:Env} (h:aJ e=true):starEach (e :: es) env=(false,eval e env) :: starEach es env:=by
 cases e <;> first | rfl | cases h
theorem eD {pos:Pos} {env:Env}:∀ {es:List Expr},es.all aJ=true→(backTo pos (starEach es env)).any (·.1)=false
 | [],_=>rfl
 | e :: es,h=>by
  rw [List.all_cons,Bool.and_eq_true] at h
  rw [aS h.1]
  show (false || (backTo pos (starEach es env)).any (·.1))=false
  rw [eD h.2]
  rfl
section
variable {X:Cx} {K:PySem.W.Frag} {p p1 p2 q:Bool} {ds ds0 ds1 ds2 ds' dsi:List Nat} {d d' d1 d2:Nat} {a b c e:Expr} {es:List Expr} {f f1 f2:ME} {m c1 c2:MT} {fa:MA} {sh:Sh} {pos:Pos} {i:Nat} {x:Str}
theorem FN {x:Str} (hN:X.N[i]?=some x) (hv:Vis X.env.scope x) (h0:ds[i]?=some 0) (hd:(x == ("__debug__" : Str))=false) (hcd:(x == ("__classdict__" : Str))=false):PE X (.Name x pos) (tF K p ds ds 0 (af i)) :=
 (e7 hN hv hd hcd).imp fun _ _ _ h=>Hd h0 (gK (fun _=>rfl) h)
theorem FZ {n:Int} {j}:PE X (.Constant (.int n) j pos) (tF K p ds ds 3 (eC (.int n))):=pe_int.imp fun _ _ _ h=>f_c (t:=.int n) (fun _ _ _ _=>rfl) (gK (fun _=>rfl) h)
theorem Hc {n:Bool} {j}:PE X (.Constant (.bool n) j pos) (tF K p ds ds 3 (eC (.bool n))):=pe_bl.imp fun _ _ _ h=>f_c (t:=.bool n) (fun _ _ _ _=>rfl) (gK (fun _=>rfl) h)
theorem FT {j}:PE X (.Constant .none j pos) (tF K p ds ds 3 (eC .none)):=pe_non.imp fun _ _ _ h=>f_c (t:=.none) (fun _ _ _ _=>rfl) (gK (fun _=>rfl) h)
theorem FQ {n:Str} {j}:PE X (.Constant (.str n) j pos) (tF K p ds ds 3 (eC (.str n))):=pe_str.imp fun _ _ _ h=>f_c (t:=.str n) (fun _ _ _ _=>rfl) (gK (fun _=>rfl) h)
theorem uP {x:Str} {n:Int} {t:Tok} (hg:Gl X x) (hm:X.mg x=some (.int n t)) (hd:(x == ("__debug__" : Str))=false):PE X (.Name x pos) (tF K p ds ds 3 (eC (.int n))) :=
 (pk (v:=.int n) hg hm ⟨t,rfl⟩ hd).imp fun _ _ _ h=>f_c (t:=.int n) (fun _ _ _ _=>rfl) (gK (fun _=>rfl) h)
theorem uO {x:Str} {n:Str} {t:Tok} (hg:Gl X x) (hm:X.mg x=some (.str n t)) (hd:(x == ("__debug__" : Str))=false):PE X (.Name x pos) (tF K p ds ds 3 (eC (.str n))) :=
 (pk (v:=.str n) hg hm ⟨t,rfl⟩ hd).imp fun _ _ _ h=>f_c (t:=.str n) (fun _ _ _ _=>rfl) (gK (fun _=>rfl) h)
theorem FP (h:PE X e (tF K p ds ds' d f)) (hd:d'≤d):PE X e (tF K p ds ds' d' f):=h.imp fun _ _ _=>Hf hd
theorem Ha (h:PE X e (tF K p ds0 ds' d f)) (hd:leD ds0 ds=true):PE X e (tF K false ds ds' d f):=h.imp fun _ _ _=>HH hd
theorem F9 (h:PE X e (tF K true ds0 ds0 3 f)) (hd:leD ds0 ds=true):PE X e (tF K p ds ds 3 f):=h.imp fun _ _ _ h=>AD hd (gK (fun _=>rfl) h)
theorem G7 {op:Operator} {g:D→D→Option D} (ho:OpR X (binaryOp op) (rF2 K g d)) (ha:PE X a (tF K p ds ds1 d1 f1)) (hb:PE X b (tF K p ds1 ds2 d2 f2)):PE X (.BinOp a op b pos) (tF K p ds ds2 d (e2 g f1 f2)) :=
 (GH ho ha hb).imp fun _ _ _ h=>nk (by rw [Bool.and_self]; exact h)
theorem G4 {op:UnaryOp} {g:D→Option D} (ho:UnR X (unaryOp op) (rF1 K g d)) (ha:PE X a (tF K p ds ds1 d1 f1)):PE X (.UnaryOp op a pos) (tF K p ds ds1 d (e1 g f1)) :=
 (GF ho ha).imp fun _ _ _=>Hg
theorem F8 {op:CmpOp} {g:D→D→Option D} (ho:OpR X (compareOp op) (rF2 K g d)) (ha:PE X a (tF K p ds ds1 d1 f1)) (hb:PE X b (tF K p ds1 ds2 d2 f2)) (hm:behindInMarks op b=false):PE X (.Compare a [op] [b] pos) (tF K p ds ds2 d (e2 g f1 f2)) :=
 (Ba ho ha hb hm).imp fun _ _ _ h=>nk (by rw [Bool.and_self]; exact h)
theorem By {op:CmpOp} {g:D→D→Option D} (ho:OpR X (compareOp op) (rF2 K g d)) (ha:PE X a (tF K p ds ds1 d1 f1)) (hb:PE X b (tF K p ds1 ds2 d2 f2)) (hm:behindInMarks op b=false):PT X (.Compare a [op] [b] pos) (tFT K p ds ds2 (tV (e2 g f1 f2))) :=
 (AV ho ha hb hm).imp fun σ H Q h=>by
  obtain ⟨Ox,en,R,t,en',e,hf,k⟩:=oi (d:=d) h
  exact nk (by rw [Bool.and_self]; exact ⟨Ox,en,R,t,en',e,hf,k⟩)
theorem Bw (h:PE X e (tF K p ds ds' d f)) (he:∀ whole,isTrue e X.env whole=(do let v ← whole; standAt e.pos; holding [v] (truthy v))):PT X e (tFT K p ds ds' (tV f)):=(Ey h he).imp fun _ _ _=>oi
theorem Bt (ha:PT X a (tFT K p ds ds1 c1)):PW X (.BoolOp .And [a] pos) (tFT K p ds ds1 c1):=AT ha
theorem Fs (ha:PT X a (tFT K p ds ds1 c1)):PW X (.BoolOp .Or [a] pos) (tFT K p ds ds1 c1):=Ew ha
theorem Ft {rest:List Expr} (ha:PT X a (tFT K p ds ds1 c1)) (hb:PW X (.BoolOp .And (b :: rest) pos) (tFT K p ds1 ds1 c2)):PW X (.BoolOp .And (a :: b :: rest) pos) (tFT K p ds ds1 (fC c1 c2)):=(Ex ha hb).imp fun _ _ _ h=>Fw (by rw [Bool.and_self]; exact h)
theorem GX {rest:List Expr} (ha:PT X a (tFT K p ds ds1 c1)) (hb:PW X (.BoolOp .Or (b :: rest) pos) (tFT K p ds1 ds1 c2)):PW X (.BoolOp .Or (a :: b :: rest) pos) (tFT K p ds ds1 (bOr c1 c2)):=(GD ha hb).imp fun _ _ _ h=>GY (by rw [Bool.and_self]; exact h)
theorem Bx (ha:PT X a (tFT K p ds ds1 c1)):PT X (.UnaryOp .Not a pos) (tFT K p ds ds1 (ck c1)):=(Ez ha).imp fun _ _ _=>Fu
theorem Bz (h:PT X e (tFT K true ds0 ds0 c1)) (hd:leD ds0 ds=true):PT X e (tFT K p ds ds c1):=h.imp fun _ _ _ ⟨Ox,en,R,t,en',e,hf,k⟩=>Fv hd ⟨Ox,en,R,t,en',e,hf,fun H' R' P=>k H' R' ⟨P.env,P.fx,P.keep,P.own,P.dom,fun _=>P.pure rfl⟩⟩
theorem FR {op} (h:PE X a (tF K p ds ds1 d f)):PE X (.BoolOp op [a] pos) (tF K p ds ds1 d f):=EE h
theorem Gb {rest:List Expr} (ha:PE X a (tF K p ds ds1 d1 f1)) (hb:PE X (.BoolOp .And (b :: rest) pos) (tF K p ds1 ds1 d f2)):PE X (.BoolOp .And (a :: b :: rest) pos) (tF K p ds ds1 d (fy f1 f2)):=(EH ha hb).imp fun _ _ _ h=>Hl (by rw [Bool.and_self]; exact h)
theorem G6 {rest:List Expr} (ha:PE X a (tF K p ds ds1 d1 f1)) (hb:PE X (.BoolOp .Or (b :: rest) pos) (tF K p ds1 ds1 d f2)):PE X (.BoolOp .Or (a :: b :: rest) pos) (tF K p ds ds1 d (eOr f1 f2)):=(GG ha hb).imp fun _ _ _ h=>HG (by rw [Bool.and_self]; exact h)
theorem FS (ha:PE X a (tF K p ds ds1 d1 f)):PE X (.UnaryOp .Not a pos) (tF K p ds ds1 3 (kx f)):=(EF ha).imp fun _ _ _=>Hh
theorem Cb:PA X [] (tFA K p ds ds [] ag):=pa_nil.imp fun _ _ _ ⟨Ox,en,R,t,en',e,hf,k⟩=>Gc ⟨Ox,en,R,t,en',e,hf,fun vs H' R' F P=>k vs H' R' F ⟨P.env,P.fx,P.keep,P.own,P.dom,fun _=>P.pure rfl⟩⟩
theorem uU (ha:PE X e (tF K p ds ds1 d f)) (hr:PA X es (tFA K p ds1 ds2 sh fa)) (hs:aJ e=true):PA X (e :: es) (tFA K p ds ds2 (.inl d :: sh) (ae f fa)):=(bK ha hr (aS hs)).imp fun _ _ _ h=>Cc (by rw [Bool.and_self]; exact h)
theorem uT {x:Str} (hN:X.N[i]?=some x) (hv:Vis X.env.scope x) (hr:PA X es (tFA K p ds ds2 sh fa)) (hd:(x == ("__debug__" : Str))=false) (hcd:(x == ("__classdict__" : Str))=false) :
  PA X (.Name x pos :: es) (tFA K p ds ds2 (.inr i :: sh) (bt i fa)):=(bK (e7 hN hv hd hcd) hr (aS rfl)).imp fun _ _ _=>Ca
theorem FV {c:Nat} (h:PA X es (tFA K p ds ds1 sh fa)) (hs:bV c sh=true) (hd:dn d=c) (hz:d≠0):PE X (.List es pos) (tF K p ds ds1 d (bI fa)):=(EG h).imp fun _ _ _=>Hi hs hd hz
theorem FO {c:Nat} {x1} (h:PA X es (tFA K p ds ds1 sh fa)) (hs:bV c sh=true) (hd:dn d=c):PE X (.Tuple es x1 pos) (tF K p ds ds1 d (bS fa)):=(rJ h).imp fun _ _ _=>He hs hd
theorem uS {id:String} {x:Str} {px:Pos} {g:List D→Option D} (hc:CallR X (.builtin id) (rFn K g d)) (hg:Gl X x) (hm:X.mg x=none) (hv:bootBuiltins x=some (.builtin id)) (ha:PA X (e :: es) (tFA K p ds ds1 sh fa)) (hsh:bV 0 sh=true) (hn:x≠"__name__") (hdb:(x == ("__debug__" : Str))=false)
  (he:aJ e=true) (hpl:es.all aJ=true):PE X (.Call (.Name x px) (e :: es) [] pos) (tF K p ds ds1 d (eN g fa)) :=
 (ix hc hg hm hv ha hn hdb (aS he) (eD hpl)).imp fun _ _ _=>sN hsh
theorem sM {T:String} {x:Str} {px:Pos} {g:List D→Option D} (hc:CallR X (.type T) (rFn K g d)) (hg:Gl X x) (hm:X.mg x=none) (hv:bootBuiltins x=some (.type T)) (ha:PA X (e :: es) (tFA K p ds ds1 sh fa)) (hsh:bV 0 sh=true) (hn:x≠"__name__") (hdb:(x == ("__debug__" : Str))=false)
  (he:aJ e=true) (hpl:es.all aJ=true):PE X (.Call (.Name x px) (e :: es) [] pos) (tF K p ds ds1 d (eN g fa)) :=
 (my hc hg hm hv ha hn hdb (aS he) (eD hpl)).imp fun _ _ _=>sN hsh
theorem Hb {k:Nat} {x:Str} {ps:List Str} {px:Pos} {dps:List Nat} {dr:Nat} {F:List D→Option (D × En)} (G:Kn X.prog X.w X.K X.mg X.base k x ps (spF K dps dr F)) (hr:Room k X.A) (hg:Gl X x) (ha:PA X (e :: es) (tFA K p ds ds1 sh fa)) (hns:ic sh=true) (hcd:eW ds1 sh dps=true) (hdb:(x == ("__debug__" : Str))=false)
  (he:aJ e=true) (hpl:es.all aJ=true) :
  PE X (.Call (.Name x px) (e :: es) [] pos) (tF K p ds ds1 dr (ay F fa)):=(Ap G hr hg ha hdb (aS he) (eD hpl)).imp fun _ _ _ h=>Gf hcd (by rw [hns,Bool.and_true]; exact h)
theorem F7 {k:Nat} {x:Str} {ps:List Str} {px:Pos} {dps:List Nat} {dr:Nat} {F:List D→Option (D × En)} (G:Kn X.prog X.w X.K X.mg X.base k x ps (spF K dps dr F)) (hr:Room k X.A) (hg:Gl X x) (ha:PA X (e :: es) (tFA K false ds ds1 sh fa)) (hcd:eW ds1 sh dps=true) (hdb:(x == ("__debug__" : Str))=false)
  (he:aJ e=true) (hpl:es.all aJ=true) :
  PE X (.Call (.Name x px) (e :: es) [] pos) (tF K false ds ds1 dr (ay F fa)):=(Ap G hr hg ha hdb (aS he) (eD hpl)).imp fun _ _ _ h=>Gf hcd h
theorem G9 {g:D→D→Option D} (ho:IxR X (rF2 K g d)) (ha:PE X a (tF K p ds ds1 d1 f1)) (hb:PE X b (tF K p ds1 ds2 d2 f2)) (hs:io b):PE X (.Subscript a b pos) (tF K p ds ds2 d (e2 g f1 f2)) :=
 (Ao ho ha hb hs).imp fun _ _ _ h=>nk (by rw [Bool.and_self]; exact h)
theorem FX {x:Str} {px:Pos} (hK:X.K=K) (hN:X.N[i]?=some x) (hv:Vis X.env.scope x) (h1:ds1[i]?=some 1) (hb:PE X b (tF K p ds ds1 d1 f)) (hs:io b) (hd:(x == ("__debug__" : Str))=false) (hcd:(x == ("__classdict__" : Str))=false) :
  PE X (.Subscript (.Name x px) b pos) (tF K p ds ds1 0 (dS i f)):=(Ao (HC hK) (e7 hN hv hd hcd) hb hs).imp fun _ _ _=>Hj h1
theorem Ga {c:Nat} {x:Str} {px apos cpos:Pos} (hK:X.K=K) (hN:X.N[i]?=some x) (hv:Vis X.env.scope x) (h1:ds1[i]?=some d) (he:PE X e (tF K false ds ds1 c f)) (hz:d≠0) (hc:dn d=c)
  (hd:(x == ("__debug__" : Str))=false) (hcd:(x == ("__classdict__" : Str))=false)
  (hbase:attributeBase (.Name x px) "append" X.env (eval (.Name x px) X.env)=eval (.Name x px) X.env)
  (hfew:((backTo cpos (starEach [e] X.env)).all (fun x=>!x.1) && (backToKw cpos (keywordEach [] X.env)).all (fun x=>x.1.isSome) && decide (([e]:List Expr).length+([]:List Keyword).length+(if ([]:List Keyword).isEmpty then 0 else 1) < 30))=true)
  (hline:(apos.endLine == cpos.line)=true) (hs:starEach [e] X.env=[(false,eval e X.env)]) (hplain:(backTo cpos (starEach [] X.env)).any (·.1)=false) :
  PE X (.Call (.Attribute (.Name x px) "append" apos) [e] [] cpos) (tF K false ds ds1 3 (dF i f)):=by
 subst hK
 exact (ng PySem.F.plainAttrs_list PySem.F.slot_list_append PySem.F.type_list_append mC (e7 hN hv hd hcd) (bK he pa_nil hs) hbase hfew hline hs hplain).imp fun _ _ _=>Hk h1 hz hc
theorem uL {c:Nat} {x:Str} {px apos cpos:Pos} (hK:X.K=K) (hN:X.N[i]?=some x) (hv:Vis X.env.scope x) (h1:ds1[i]?=some d) (he:PE X e (tF K false ds ds1 d1 f)) (hz:d≠0) (hc:dn d=c)
  (hd:(x == ("__debug__" : Str))=false) (hcd:(x == ("__classdict__" : Str))=false)
  (hbase:attributeBase (.Name x px) "pop" X.env (eval (.Name x px) X.env)=eval (.Name x px) X.env)
  (hfew:((backTo cpos (starEach [e] X.env)).all (fun x=>!x.1) && (backToKw cpos (keywordEach [] X.env)).all (fun x=>x.1.isSome) && decide (([e]:List Expr).length+([]:List Keyword).length+(if ([]:List Keyword).isEmpty then 0 else 1) < 30))=true)
  (hline:(apos.endLine == cpos.line)=true) (hs:starEach [e] X.env=[(false,eval e X.env)]) (hplain:(backTo cpos (starEach [] X.env)).any (·.1)=false) :
  PE X (.Call (.Attribute (.Name x px) "pop" apos) [e] [] cpos) (tF K false ds ds1 c (fh i f)):=by
 subst hK
 exact (ng PySem.F.plainAttrs_list PySem.F.slot_list_pop PySem.F.type_list_pop ua (e7 hN hv hd hcd) (bK he pa_nil hs) hbase hfew hline hs hplain).imp fun _ _ _=>Cd h1 hz hc
def cY:MT:=fun en=>some (true,en)
theorem Bv:PTs X [] (tFT K p ds ds cY):=pts_nil.imp fun σ H Q ⟨Ox,en,R,b,en',e,hf,k⟩=>by
 cases hf
 exact k H R (Post.refl e)
theorem Bu (hc:PT X c (tFT K p ds ds1 c1)):PTs X [c] (tFT K p ds ds1 c1):=AU hc
theorem G8 {elt tg iter:Expr} {ifs:List Expr} {scope:Scope} {ns:List Str} {js:List (Option Nat)} {fi:MI} {g:MG} {lk:List Nat} {cd:Nat} (B:BlkOkC X scope ns js) (hc:X.calm=true) (hi:PI X tg iter (tFI K p ds ds1 fi))
  (hg:∀ C cl s₀ H₀ fp,PG (aD X scope ns C cl s₀ H₀ fp) tg (tFG K lk dsi dsi g)) (ht:∀ C cl s₀ H₀ fp,PTs (aD X scope ns C cl s₀ H₀ fp) ifs (tFT K true dsi dsi c1)) (he:∀ C cl s₀ H₀ fp,PE (aD X scope ns C cl s₀ H₀ fp) elt (tF K true dsi dsi cd f))
  (hcap:dW ds1 js dsi=true) (hd:dn d=cd) (hz:d≠0) (hlk:lk=dU js 0)
  (hs:∀ x,foldedSetIterable iter X.env x=pure x):PE X (.ListComp elt [⟨tg,iter,ifs,0⟩] scope pos) (tF K p ds ds1 d (eLC true fi g c1 f js)) :=
 (rK B hc hi hg ht he hs).imp fun _ _ _ h=>qM hcap hd hz hlk (by rw [Bool.and_true]; exact h)
theorem FW {elt tg iter:Expr} {ifs:List Expr} {scope:Scope} {ns:List Str} {js:List (Option Nat)} {fi:MI} {g:MG} {lk:List Nat} {cd:Nat} (B:BlkOkC X scope ns js) (hc:X.calm=true) (hi:PI X tg iter (tFI K false ds ds1 fi))
  (hg:∀ C cl s₀ H₀ fp,PG (aD X scope ns C cl s₀ H₀ fp) tg (tFG K lk dsi dsi g)) (ht:∀ C cl s₀ H₀ fp,PTs (aD X scope ns C cl s₀ H₀ fp) ifs (tFT K false dsi dsi c1)) (he:∀ C cl s₀ H₀ fp,PE (aD X scope ns C cl s₀ H₀ fp) elt (tF K false dsi dsi cd f))
  (hcap:dW ds1 js dsi=true) (hd:dn d=cd) (hz:d≠0) (hlk:lk=dU js 0)
  (hs:∀ x,foldedSetIterable iter X.env x=pure x):PE X (.ListComp elt [⟨tg,iter,ifs,0⟩] scope pos) (tF K false ds ds1 d (eLC false fi g c1 f js)) :=
 (rK B hc hi hg ht he hs).imp fun _ _ _ h=>qM hcap hd hz hlk h
end
end L2
namespace L2
open PySem PySem.Spec PyProof.Rows
def Ik (f:ME) (g:MG):MS:=fun en=>(f en).bind fun r=>(g r.1 r.2).map .nx
section
variable {K:PySem.W.Frag} {p p1 p2 q:Bool} {J:Jd} {ds ds0 ds1 ds2 ds' dsi dps:List Nat} {d d' d1 d2 dr:Nat} {f f1 f2 fk fe:ME} {c1 c2:MT} {fa:MA} {sh:Sh} {i:Nat} {m m1 m2:MS} {g:MG} {lk:List Nat} {σ:St} {H:Hp} {Dn:Ends}
end
section
variable {X:Cx} {K:PySem.W.Frag} {p p1 p2 q:Bool} {J:Jd} {ds ds0 ds1 ds2 ds' dsi dps:List Nat} {d d' d1 d2 dr:Nat} {a b c e tg iter:Expr} {es:List Expr} {st:Stmt} {rest body bodyB:List Stmt} {f f1 f2 fk fe:ME} {c1 c2:MT} {fa:MA} {sh:Sh} {pos px:Pos} {i:Nat} {x:Str} {m m1 m2:MS} {g:MG} {gs:List D→En→Option En} {fi:MI} {lk:List Nat}
theorem BG:PSs X [] (tFS K J ds ds bh):=pss_nil.imp fun _ _ _=>Fz
theorem uy (h1:PS X st (tFS K J ds ds1 m1)) (h2:PSs X rest (tFS K J ds1 ds2 m2)):PSs X (st :: rest) (tFS K J ds ds2 (ao m1 m2)):=(tQ h1 h2).imp fun _ _ _=>Fx
theorem BF (h1:PS X st (tFS K J ds ds1 m1)):PSs X [st] (tFS K J ds ds1 m1):=AW h1
theorem BE (h:PSs X rest (tFS K J ds ds2 m)) (hd:leD ds1 ds2=true):PSs X rest (tFS K J ds ds1 m):=h.imp fun _ _ _=>sB hd
theorem BN (he:PE X e (tF K false ds ds1 d f)) (hs:swapsWith e none pos.line X.env=pure false):PS X (.Expr e pos) (tFS K J ds ds1 (dA f)):=(AX he hs).imp fun _ _ _=>FB
theorem BL (he:PE X e (tF K false ds ds1 J.dr f)) (hd:leD J.dsr ds1=true):PS X (.Return (some e) pos) (tFS K J ds ds' (aE f)):=(EB he).imp fun _ _ _=>Fy hd
theorem sF:PS X st (tFS K J ds ds' dP):=ps_never.imp fun _ _ _=>uA
theorem FC (hc:PT X c (tFT K false ds ds1 c1)) (ha:PSs X body (tFS K J ds1 ds2 m1)) (hb:PSs X bodyB (tFS K J ds1 ds2 m2)):PS X (.If c body bodyB pos) (tFS K J ds ds2 (sIf c1 m1 m2)):=(GE hc ha hb).imp fun _ _ _=>GZ
theorem BK {x:Str} {pos':Pos} (hN:X.N.Nodup) (hi:X.N[i]?=some x) (hx:Loc X.env.scope x) (he:PE X e (tF K false ds ds1 d f)) (hds:ds1.set i d=ds') (hl:i < ds1.length) (hk:i ∉ J.lk)
  (hs:swapsWith e (some (.Name x pos')) pos.line X.env=pure false) (hf:X.fn x=true∨X.env.scope.names.lookup x=some .local) :
  PS X (.Assign [.Name x pos'] e pos) (tFS K J ds ds' (aA i f)):=by
 subst hds
 exact (EA hN hi hx he hs hf).imp fun _ _ _=>om hl hk
theorem sE {x:Str} {spos pos':Pos} {elt:Expr} {ifs:List Expr} {scope:Scope} {ns:List Str} {js:List (Option Nat)} {cd:Nat} (hN:X.N.Nodup) (hi':X.N[i]?=some x) (hx:X.env.scope.names.lookup x=some .local) (B:BlkOkC X scope ns js) (hc:X.calm=true) (hi:PI X tg iter (tFI K false ds ds1 fi))
  (hg:∀ C cl s₀ H₀ fp,PG (aD X scope ns C cl s₀ H₀ fp) tg (tFG K lk dsi dsi g)) (ht:∀ C cl s₀ H₀ fp,PTs (aD X scope ns C cl s₀ H₀ fp) ifs (tFT K q dsi dsi c1)) (he:∀ C cl s₀ H₀ fp,PE (aD X scope ns C cl s₀ H₀ fp) elt (tF K q dsi dsi cd f))
  (hds:ds1.set i d=ds') (hcap:dW ds1 js dsi=true) (hd:dn d=cd) (hz:d≠0) (hlk:lk=dU js 0) (hl:i < ds1.length) (hk:i ∉ J.lk)
  (hsw:swapsWith (.ListComp elt [⟨tg,iter,ifs,0⟩] scope pos) (some (.Name x pos')) spos.line X.env=pure true)
  (hs:∀ x,foldedSetIterable iter X.env x=pure x):PS X (.Assign [.Name x pos'] (.ListComp elt [⟨tg,iter,ifs,0⟩] scope pos) spos) (tFS K J ds ds' (aA i (eLC q fi g c1 f js))):=by
 subst hds
 exact (mx hN hi' hx B hc hi hg ht he hsw hs).imp fun D σ H h=>qM (p:=false) hcap hd hz hlk (om (p:=false && q) hl hk h)
theorem uI {x:Str} (hN:X.N.Nodup) (hi:X.N[i]?=some x) (hx:Loc X.env.scope x) (hds:ds.set i 0=ds') (hl:i < ds.length) (hk:i ∉ lk) (hf:X.fn x=true∨X.env.scope.names.lookup x=some .local) :
  PG X (.Name x pos) (tFG K lk ds ds' (gN i)):=by
 subst hds
 exact (A6 hN hi hx hf).imp fun _ _ _ _=>B2 hl hk
theorem uG:PGs X [] (fq K lk ds ds gs0):=pgs_nil.imp fun _ _ _ _=>B0
theorem sJ (h1:PG X e (tFG K lk ds ds1 g)) (h2:PGs X es (fq K lk ds1 ds2 gs)) (hs:(assignEach (e :: es) X.env).map (·.2)=assign e X.env :: (assignEach es X.env).map (·.2)):PGs X (e :: es) (fq K lk ds ds2 (gsC g gs)):=(tW h1 h2 hs).imp fun _ _ _ _=>uH
theorem pH {g1 g2:MG}:∀ ts en,(∃ en',gsC g1 (gsC g2 gs0) ts en=some en')→ts.length=2:=fun ts en ⟨en',h⟩=>by
 match ts,h with
 | [],h=>cases h
 | [_],h =>
  obtain ⟨_,_,h⟩:=Option.bind_eq_some_iff.mp h
  cases h
 | [_,_],_=>rfl
 | a :: b :: c :: r,h =>
  obtain ⟨_,_,h⟩:=Option.bind_eq_some_iff.mp h
  obtain ⟨_,_,h⟩:=Option.bind_eq_some_iff.mp h
  cases h
theorem B1 {k n:Nat} (hK:X.K=K) (hc:X.calm=true) (h:PGs X es (fq K lk ds ds1 gs)) (hl:∀ ts en,(∃ en',gs ts en=some en')→ts.length=n) (hn:(assignEach es X.env).length=n) (hst:(assignEach es X.env).findIdx? (·.1)=none) :
  PG X (.Tuple es k pos) (tFG K lk ds ds1 (gT gs)):=by
 subst hK
 exact (ED hc h hn hst).imp fun _ _ _ _=>FM hl
theorem BM (hc:X.calm=true) (hi:PI X tg iter (tFI K false ds ds1 fi)) (hg:PG X tg (tFG K J.lk ds1 ds2 g)) (hb:PSs X body (tFS K { J with dsl:=ds1 } ds2 ds1 m)) (hp:PassesOwn (model X.prog X.w) X.A X.env X.xe)
  (hs:∀ x,foldedSetIterable iter X.env x=pure x):PS X (.For tg iter body [] pos) (tFS K J ds ds1 (fu fi g m)):=(EC hp hc hi hg hb hs).imp fun _ _ _=>FA
theorem sC (hc:PT X c (tFT K false ds ds1 c1)) (hb:PSs X body (tFS K { J with dsl:=ds } ds1 ds m)) (hp:PassesOwn (model X.prog X.w) X.A X.env X.xe):PS X (.While c body [] pos) (tFS K J ds ds1 (bW c1 m)):=(tR hp hc hb).imp fun _ _ _=>uz
end
def Ak:D→Option (List D)
 | .list ts=>some ts
 | .tuple ts=>some ts
 | .str z=>some ((li z).map fun c=>.str (mk1 c))
 | _=>none
def b8 (f:ME):MI:=fun en=>(f en).bind fun r=>(Ak r.1).map fun ts=>(ts,r.2)
section
variable {K:PySem.W.Frag} {O O1:AS} {H0 H:Hp} {ts:List D} {vs:List V} {a:Addr} {F:AS}
theorem dI {O O1:AS} (h1:∀ a o,H0 a=some o→¬ O a→H a=some o) (h2:∀ a,O1 a→O a∨H0 a=none):Mv O O1 NoA H0 H:=⟨fun a o q z=>z.elim (h1 a o q) fun z=>z.elim,h2⟩
theorem rl (h:FzL K O H0 a vs) (ho:Ows K O H0 ts 0 vs NoA):mn K O H0 (Itl K a) ts:=fun i H O1 h1 h2 h3=>by
 have sq:=(h.mv (dI h1 h2)).sq
 refine ⟨fun t ht=>?_,fun hl=>⟨vs,sq,by rw [ho.len]; omega⟩⟩
 obtain ⟨v,hv,ov⟩:=ho.get ht
 refine ⟨⟨vs,v,sq,hv⟩,fun x H1 ⟨e,y⟩=>?_⟩
 subst e
 have e2:=y vs sq
 rw [hv] at e2
 cases e2
 exact ⟨fun _ _ q=>q,Ow.mv (dI h1 h2) t (fun _ z=>z) ov⟩
theorem tE (h:FzT K O H0 a vs) (ho:Ows K O H0 ts 0 vs NoA):mn K O H0 (Itt K a) ts:=fun i H O1 h1 h2 h3=>by
 have sq:=(h.mv (dI h1 h2)).sq
 refine ⟨fun t ht=>?_,fun hl=>⟨vs,sq,by rw [ho.len]; omega⟩⟩
 obtain ⟨v,hv,ov⟩:=ho.get ht
 refine ⟨⟨vs,v,sq,hv⟩,fun x H1 ⟨e,y⟩=>?_⟩
 subst e
 have e2:=y vs sq
 rw [hv] at e2
 cases e2
 exact ⟨fun _ _ q=>q,Ow.mv (dI h1 h2) t (fun _ z=>z) ov⟩
theorem tG {z:Str}:mn K O H0 (Its z) ((li z).map fun c=>.str (mk1 c)):=fun i H O1 h1 h2 h3=>by
 refine ⟨fun t ht=>?_,fun hl=>?_⟩
 ·rw [List.getElem?_map] at ht
  obtain ⟨c,hc,e⟩:=Option.map_eq_some_iff.mp ht
  have hi:i < z.cps.size:=by
   have:=(List.getElem?_eq_some_iff.mp hc).1
   simpa [li] using this
  have hc':z.cps[i]?=some c:=by
   have:z.cps.toList[i]?=some c:=hc
   simpa using this
  refine ⟨hi,fun x H1 ⟨e1,c',e2,e3⟩=>?_⟩
  subst e1 e e3
  rw [hc'] at e2
  cases e2
  exact ⟨fun _ _ q=>q,rfl⟩
 ·have:z.cps.size=i:=by
   rw [List.length_map] at hl
   simpa [li] using hl
  show z.cps.size≤i
  omega
theorem tH {lo:Int} {n:Nat}:mn K O H0 (Itr lo n) ((List.range n).map fun k=>.int (lo+(k:Nat))):=fun i H O1 h1 h2 h3=>by
 refine ⟨fun t ht=>?_,fun hl=>?_⟩
 ·rw [List.getElem?_map] at ht
  obtain ⟨c,hc,e⟩:=Option.map_eq_some_iff.mp ht
  have hi:=(List.getElem?_eq_some_iff.mp hc).1
  rw [List.length_range] at hi
  rw [List.getElem?_range hi] at hc
  cases hc
  refine ⟨hi,fun x H1 ⟨e1,e2⟩=>?_⟩
  subst e1 e e2
  exact ⟨fun _ _ q=>q,rfl⟩
 ·rw [List.length_map,List.length_range] at hl
  show n≤i
  omega
def AE (ts:List D):List D:=ts.zipIdx.map fun p=>.tuple [.int (p.2:Nat),p.1]
end
def dg (fa:MA):MI:=fun en=>(fa en).bind fun r=>match r.1 with
 | [.inl (.int j)]=>if -(2 ^ 62)≤j∧j < 2 ^ 62 then some ((List.range j.toNat).map fun k=>.int (0+(k:Nat)),r.2) else none
 | _=>none
def HV (fa:MA):MI:=fun en=>(fa en).bind fun r=>match r.1 with
 | [.inl (.int i),.inl (.int j)]=>if -(2 ^ 62)≤i∧i < 2 ^ 62∧-(2 ^ 62)≤j∧j < 2 ^ 62 then some ((List.range (j - i).toNat).map fun k=>.int (i+(k:Nat)),r.2) else none
 | _=>none
def HW (fa:MA):MI:=fun en=>(fa en).bind fun r=>match r.1 with
 | [.inl (.list ts)]=>some (AE ts,r.2)
 | [.inl (.tuple ts)]=>some (AE ts,r.2)
 | _=>none
section
variable {X:Cx} {K:PySem.W.Frag} {p:Bool} {ds ds1:List Nat} {d:Nat} {e tg l:Expr} {f:ME} {fa:MA} {sh:Sh}
theorem FK (hK:X.K=K) (hl:PE X l (tF K p ds ds1 d f)):PI X tg l (tFI K p ds ds1 (b8 f)):=by
 subst hK
 intro pins s σ H R I h
 obtain ⟨Ox,en,Rg,ts,en',e,hf,k⟩:=h
 unfold b8 at hf
 obtain ⟨⟨t,en1⟩,h1,hf⟩:=Option.bind_eq_some_iff.mp hf
 obtain ⟨ts',h2,hf⟩:=Option.map_eq_some_iff.mp hf
 cases hf
 refine thn (hl pins s σ H (fun v H1=>∃ R1,Post X.K p ds1 Ox σ H en Rg en1 H1 R1 NoA∧Ow X.K (Own R1 Ox) H1 t 0 v NoA) I ⟨Ox,en,Rg,t,en1,e,h1,fun v H1 R1 F P o=>⟨R1,P.less fun _ z=>z.elim,Ow.letgo P (fun _ z=>z) o⟩⟩) fun v s1 ⟨x,H1,I1,r1,R1,P,o⟩=>?_
 cases t with
 | list ts0 =>
  cases h2
  obtain ⟨a,vs,e1,⟨_,fz,ow⟩ | ⟨z,_⟩⟩:=o
  ·subst e1
   cases r1
   obtain ⟨its,rv,pl,hz⟩:=I1.list fz.sq
   refine wpAny_pyIter_list pl.isList ?_
   refine ⟨s1.heap.objs.size,[s1.heap.objs.size],_,_,H1,rfl,I1.kept (t':=s1.toks) fun b o e=>Heap.get?_push_of_some _ e,ro a _,⟨_,Heap.get?_push_size _ rfl,rfl,rfl⟩,fun b hb=>?_,k _ H1 R1 P (rl fz ow)⟩
   have e:b=s1.heap.objs.size:=by simpa using hb
   subst e
   exact I1.fpOk (Nat.le_refl _) (I1.hok.fresh (Nat.le_refl _))
  ·exact absurd rfl z
 | tuple ts0 =>
  cases h2
  obtain ⟨a,vs,e1,⟨_,fz,ow⟩ | ⟨z,_⟩⟩:=o
  ·subst e1
   cases r1
   obtain ⟨its,rv,pl,hz⟩:=I1.tuple fz.sq
   refine wpAny_pyIter_tuple (show s1.heap.IsTuple a its.toArray from pl) ?_
   refine ⟨s1.heap.objs.size,[s1.heap.objs.size],_,_,H1,rfl,I1.kept (t':=s1.toks) fun b o e=>Heap.get?_push_of_some _ e,pW a _,⟨_,Heap.get?_push_size _ rfl,rfl,rfl⟩,fun b hb=>?_,k _ H1 R1 P (tE fz ow)⟩
   have e:b=s1.heap.objs.size:=by simpa using hb
   subst e
   exact I1.fpOk (Nat.le_refl _) (I1.hok.fresh (Nat.le_refl _))
  ·exact absurd rfl z
 | str z =>
  cases h2
  have e1:x=.str z:=o
  subst e1
  obtain ⟨t,rfl⟩:=r1
  have fin:∀ (ty:String) (o:Obj),(ty="str_ascii_iterator"∨ty="str_iterator")→(s1.heap.push o).IsStrIter s1.heap.objs.size ty z t 0→PIE X pins σ tg R (.ref s1.heap.objs.size) { s1 with heap:=s1.heap.push o }:=fun ty o hty st=>by
   refine ⟨s1.heap.objs.size,[s1.heap.objs.size],_,_,H1,rfl,I1.kept (t':=s1.toks) fun b o e=>Heap.get?_push_of_some _ e,tI _ z t ty hty,st,fun b hb=>?_,k _ H1 R1 P tG⟩
   have e:b=s1.heap.objs.size:=by simpa using hb
   subst e
   exact I1.fpOk (Nat.le_refl _) (I1.hok.fresh (Nat.le_refl _))
  cases ha:z.cps.all (· < 128)
  ·exact wpAny_pyIter_wide ha (fin _ _ (.inr rfl) ⟨_,Heap.get?_push_size _ rfl,rfl,rfl⟩)
  ·exact wpAny_pyIter_ascii ha (fin _ _ (.inl rfl) ⟨_,Heap.get?_push_size _ rfl,rfl,rfl⟩)
 | _=>cases h2
theorem BZ {a:Expr} {px pos:Pos} (hg:Gl X "range") (hm:X.mg "range"=none) (ha:PA X [a] (tFA K p ds ds1 sh fa)) (hs:aJ a=true):PI X tg (.Call (.Name "range" px) [a] [] pos) (tFI K p ds ds1 (dg fa)) :=
 (rH hg hm ha (aS hs)).imp fun σ H R ⟨Ox,en,Rg,ts,en',e,hf,k⟩=>by
  unfold dg at hf
  obtain ⟨⟨as,en1⟩,h1,hf⟩:=Option.bind_eq_some_iff.mp hf
  refine ⟨Ox,en,Rg,as,en1,e,h1,fun vs H1 R1 F P o=>?_⟩
  dsimp only at hf
  split at hf
  case h_2=>cases hf
  next j =>
  by_cases hj:-(2 ^ 62)≤j∧j < 2 ^ 62
  case neg=>rw [if_neg hj] at hf; cases hf
  rw [if_pos hj] at hf
  cases hf
  obtain ⟨v,r,d,dr,F1,F2,e1,e2,_,_,_,o1,o2⟩:=o
  obtain ⟨_,o2⟩:=o2
  subst e1 o2
  have ev:v=.int j:=o1
  subst ev
  exact ⟨j,rfl,hj.1,hj.2,k _ H1 R1 (P.less fun _ z=>z.elim) tH⟩
end
end L2
namespace L2
open PySem PySem.Spec PyProof.Rows
theorem NewTo.refl {H:Hp}:NewTo H H NoA:=⟨fun _ _ q=>q,fun _ z=>z.elim⟩
theorem OpR.imp {X:Cx} {fn:Value→Value→Sem Value} {r r':R2} (h:OpR X fn r) (hi:∀ x y H Q,r' x y H Q→r x y H Q):OpR X fn r':=fun pins s σ H x y v u Q I rx ry q=>h pins s σ H x y v u Q I rx ry (hi _ _ _ _ q)
theorem OpR.or' {X:Cx} {fn:Value→Value→Sem Value} {r r':R2} (h:OpR X fn r) (h':OpR X fn r'):OpR X fn (fun x y H Q=>r x y H Q∨r' x y H Q):=fun pins s σ H x y v u Q I rx ry q=>q.elim (h pins s σ H x y v u Q I rx ry) (h' pins s σ H x y v u Q I rx ry)
theorem UnR.imp {X:Cx} {fn:Value→Sem Value} {r r':V→Hp→VK→Prop} (h:UnR X fn r) (hi:∀ x H Q,r' x H Q→r x H Q):UnR X fn r':=fun pins s σ H x v Q I rx q=>h pins s σ H x v Q I rx (hi _ _ _ q)
theorem CallR.imp {X:Cx} {fn:Value} {r r':List V→Hp→VK→Prop} (h:CallR X fn r) (hi:∀ x H Q,r' x H Q→r x H Q):CallR X fn r':=fun pins s σ H x v Q I rx q=>h pins s σ H x v Q I rx (hi _ _ _ q)
theorem CallR.or' {X:Cx} {fn:Value} {r r':List V→Hp→VK→Prop} (h:CallR X fn r) (h':CallR X fn r'):CallR X fn (fun x H Q=>r x H Q∨r' x H Q):=fun pins s σ H x v Q I rx q=>q.elim (h pins s σ H x v Q I rx) (h' pins s σ H x v Q I rx)
theorem IxR.imp {X:Cx} {r r':R2} (h:IxR X r) (hi:∀ x y H Q,r' x y H Q→r x y H Q):IxR X r':=fun value slice pins s σ H x y v u Q I rx ry q=>h value slice pins s σ H x y v u Q I rx ry (hi _ _ _ _ q)
section
variable {X:Cx} {K:PySem.W.Frag} {O:AS} {H:Hp} {ts us:List D} {vs ws:List V} {x y:V} {d:Nat} {Q:VK}
theorem cM {l:Addr} (hl:H l=none) (hd:∀ a,O a→∃ o,H a=some o) (h:Ows K O H ts 0 vs NoA):NewTo H (upd H l (.lst vs)) (fun b=>b=l)∧Ow K (U (fun b=>b=l) O) (upd H l (.lst vs)) (.list ts) 1 (.ref l) (fun b=>b=l):=by
 refine ⟨bw hl,l,vs,rfl,.inr ⟨by decide,aG,rfl,NoA,fun _ z=>z.elim,?_⟩⟩
 refine Ows.mv (G:=NoA) ⟨fun a o q _=>(bw (o:=.lst vs) hl).1 a o q,fun a z=>?_⟩ ts (fun _ z=>z) h
 rcases z with z | z
 ·exact .inr (by rw [show a=l from z]; exact hl)
 ·exact .inl z
theorem jQ {l:Addr} (hl:H l=none) (hd:∀ a,O a→∃ o,H a=some o) (h:Ows K O H ts 0 vs NoA):NewTo H (upd H l (.tup vs)) NoA∧Ow K (U NoA O) (upd H l (.tup vs)) (.tuple ts) 0 (.ref l) NoA:=by
 refine ⟨⟨(bw hl).1,fun _ z=>z.elim⟩,l,vs,rfl,.inl ⟨rfl,⟨aG,fun z=>?_⟩,?_⟩⟩
 ·rcases z with z | z
  ·exact z
  ·obtain ⟨o,q⟩:=hd l z
   rw [hl] at q
   cases q
 ·refine Ows.mv (G:=NoA) ⟨fun a o q _=>(bw (o:=.tup vs) hl).1 a o q,fun a z=>?_⟩ ts (fun _ z=>z) h
  rcases z with z | z
  ·exact z.elim
  ·exact .inl z
theorem Ows.app:∀ {ts:List D} {vs:List V},Ows K O H ts 0 vs NoA→Ows K O H us 0 ws NoA→Ows K O H (ts++us) 0 (vs++ws) NoA
 | [],_,h,h2=>by rw [show _=[] from h]; exact h2
 | t :: ts,_,h,h2=>by
  obtain ⟨v,r,F1,F2,e,_,_,_,h4,h5⟩:=h
  subst e
  exact ⟨v,r++ws,NoA,NoA,rfl,fun _ z=>z,fun _ z=>z,fun _ z=>z.elim,Ow.any0 t h4,Ows.app (Ows.any0 ts h5) h2⟩
theorem Ows.drop:∀ {ts:List D} {vs:List V} (n:Nat),Ows K O H ts 0 vs NoA→Ows K O H (ts.drop n) 0 (vs.drop n) NoA
 | ts,vs,0,h=>h
 | [],_,n+1,h=>by rw [show _=[] from h]; rfl
 | t :: ts,_,n+1,h=>by
  obtain ⟨v,r,F1,F2,e,_,_,_,h4,h5⟩:=h
  subst e
  exact Ows.drop n (Ows.any0 ts h5)
theorem Ows.take:∀ {ts:List D} {vs:List V} (n:Nat),Ows K O H ts 0 vs NoA→Ows K O H (ts.take n) 0 (vs.take n) NoA
 | ts,vs,0,h=>rfl
 | [],_,n+1,h=>by rw [show _=[] from h]; rfl
 | t :: ts,_,n+1,h=>by
  obtain ⟨v,r,F1,F2,e,_,_,_,h4,h5⟩:=h
  subst e
  exact ⟨v,r.take n,NoA,NoA,rfl,fun _ z=>z,fun _ z=>z,fun _ z=>z.elim,Ow.any0 t h4,Ows.take n (Ows.any0 ts h5)⟩
theorem Ow.lst0 {v:V} (h:Ow K O H (.list ts) 0 v NoA):∃ a vs,v=.ref a∧FzL K O H a vs∧Ows K O H ts 0 vs NoA:=by
 obtain ⟨a,vs,e,⟨_,h1,h2⟩ | ⟨z,_⟩⟩:=h
 ·exact ⟨a,vs,e,h1,h2⟩
 ·exact absurd rfl z
theorem Ow.tup0 {v:V} (h:Ow K O H (.tuple ts) 0 v NoA):∃ a vs,v=.ref a∧FzT K O H a vs∧Ows K O H ts 0 vs NoA:=by
 obtain ⟨a,vs,e,⟨_,h1,h2⟩ | ⟨z,_⟩⟩:=h
 ·exact ⟨a,vs,e,h1,h2⟩
 ·exact absurd rfl z
theorem Ows.one {t:D} (h:Ows K O H [t] 0 vs NoA):∃ v,vs=[v]∧Ow K O H t 0 v NoA:=by
 obtain ⟨v,r,F1,F2,e,_,_,_,h4,h5⟩:=h
 rw [show r=[] from h5] at e
 exact ⟨v,e,Ow.any0 t h4⟩
theorem Ows.two {t t2:D} (h:Ows K O H [t,t2] 0 vs NoA):∃ v w,vs=[v,w]∧Ow K O H t 0 v NoA∧Ow K O H t2 0 w NoA:=by
 obtain ⟨v,r,F1,F2,e,_,_,_,h4,h5⟩:=h
 obtain ⟨w,e2,h6⟩:=Ows.one (Ows.any0 [t2] h5)
 subst e2
 exact ⟨v,w,e,Ow.any0 t h4,h6⟩
def br:D→D→Option D
 | .int a,.int b=>some (.int (a+b))
 | .str a,.str b=>if a.length+b.length≤sizeLine then some (.str (a++b)) else none
 | _,_=>none
theorem cr:OpR X (binaryOp .Add) (rF2 K br 3):=(op_add.or' qb).imp fun x y H Q ⟨O,a,b,t,oa,ob,hd,hg,k⟩=>by
 cases a with
 | int i=>cases b with
  | int j=>cases hg; exact .inl ⟨i,j,oa,ob,k _ H NoA .refl rfl⟩
  | _=>cases hg
 | str i=>cases b with
  | str j =>
   dsimp only [br] at hg
   by_cases hl:i.length+j.length≤sizeLine
   ·rw [if_pos hl] at hg; cases hg; exact .inr ⟨i,j,oa,ob,hl,k _ H NoA .refl rfl⟩
   ·rw [if_neg hl] at hg; cases hg
  | _=>cases hg
 | _=>cases hg
def gc (g:Int→Int→Option D):D→D→Option D
 | .int a,.int b=>g a b
 | _,_=>none
theorem ci {g:Int→Int→Option D} {a b t:D} (h:gc g a b=some t):∃ i j,a=.int i∧b=.int j∧g i j=some t:=by
 cases a with
 | int i=>cases b with
  | int j=>exact ⟨i,j,rfl,rfl,h⟩
  | _=>cases h
 | _=>cases h
def jf:D→D→Option D:=gc fun a b=>some (.int (a - b))
theorem oo:OpR X (binaryOp .Sub) (rF2 K jf 3):=op_sub.imp fun x y H Q ⟨O,a,b,t,oa,ob,hd,hg,k⟩=>by
 obtain ⟨i,j,rfl,rfl,h⟩:=ci hg
 cases h
 exact ⟨i,j,oa,ob,k _ H NoA .refl rfl⟩
instance (i j:Int):Decidable (CMul i j):=by unfold CMul; exact inferInstance
instance (i j:Int):Decidable (fI i j):=by unfold fI; exact inferInstance
instance (i j:Int):Decidable (gk i j):=by unfold gk; exact inferInstance
def bC:D→D→Option D:=gc fun a b=>if CMul a b then some (.int (a * b)) else none
theorem fc:OpR X (binaryOp .Mult) (rF2 K bC 3):=op_mul.imp fun x y H Q ⟨O,a,b,t,oa,ob,hd,hg,k⟩=>by
 obtain ⟨i,j,rfl,rfl,h⟩:=ci hg
 by_cases hc:CMul i j
 ·rw [if_pos hc] at h; cases h; exact ⟨i,j,oa,ob,hc,k _ H NoA .refl rfl⟩
 ·rw [if_neg hc] at h; cases h
def cj:D→D→Option D:=gc fun a b=>if fI a b then some (.int (a / b)) else none
theorem pJ:OpR X (binaryOp .FloorDiv) (rF2 K cj 3):=op_fdiv.imp fun x y H Q ⟨O,a,b,t,oa,ob,hd,hg,k⟩=>by
 obtain ⟨i,j,rfl,rfl,h⟩:=ci hg
 by_cases hc:fI i j
 ·rw [if_pos hc] at h; cases h; exact ⟨i,j,oa,ob,hc,k _ H NoA .refl rfl⟩
 ·rw [if_neg hc] at h; cases h
def bp:D→D→Option D:=gc fun a b=>if 0 < b then some (.int (a % b)) else none
theorem ge:OpR X (binaryOp .Mod) (rF2 K bp 3):=op_mod.imp fun x y H Q ⟨O,a,b,t,oa,ob,hd,hg,k⟩=>by
 obtain ⟨i,j,rfl,rfl,h⟩:=ci hg
 by_cases hc:0 < j
 ·rw [if_pos hc] at h; cases h; exact ⟨i,j,oa,ob,hc,k _ H NoA .refl rfl⟩
 ·rw [if_neg hc] at h; cases h
def kl:D→D→Option D:=gc fun a b=>if gk a b then some (.int (a ^ b.toNat)) else none
theorem FE:OpR X (binaryOp .Pow) (rF2 K kl 3):=op_pow.imp fun x y H Q ⟨O,a,b,t,oa,ob,hd,hg,k⟩=>by
 obtain ⟨i,j,rfl,rfl,h⟩:=ci hg
 by_cases hc:gk i j
 ·rw [if_pos hc] at h; cases h; exact ⟨i,j,oa,ob,hc,k _ H NoA .refl rfl⟩
 ·rw [if_neg hc] at h; cases h
def ltI:D→D→Option D:=gc fun a b=>some (.bool (decide (a < b)))
def leI:D→D→Option D:=gc fun a b=>some (.bool (decide (a≤b)))
def gtI:D→D→Option D:=gc fun a b=>some (.bool (decide (b < a)))
def geI:D→D→Option D:=gc fun a b=>some (.bool (decide (b≤a)))
theorem AC:OpR X (compareOp .Lt) (rF2 K ltI 3):=op_lt.imp fun x y H Q ⟨O,a,b,t,oa,ob,hd,hg,k⟩=>by
 obtain ⟨i,j,rfl,rfl,h⟩:=ci hg
 cases h
 exact ⟨i,j,oa,ob,k _ H NoA .refl rfl⟩
theorem jU:OpR X (compareOp .LtE) (rF2 K leI 3):=op_le.imp fun x y H Q ⟨O,a,b,t,oa,ob,hd,hg,k⟩=>by
 obtain ⟨i,j,rfl,rfl,h⟩:=ci hg
 cases h
 exact ⟨i,j,oa,ob,k _ H NoA .refl rfl⟩
theorem jV:OpR X (compareOp .Gt) (rF2 K gtI 3):=op_gt.imp fun x y H Q ⟨O,a,b,t,oa,ob,hd,hg,k⟩=>by
 obtain ⟨i,j,rfl,rfl,h⟩:=ci hg
 cases h
 exact ⟨i,j,oa,ob,k _ H NoA .refl rfl⟩
theorem G0:OpR X (compareOp .GtE) (rF2 K geI 3):=op_ge.imp fun x y H Q ⟨O,a,b,t,oa,ob,hd,hg,k⟩=>by
 obtain ⟨i,j,rfl,rfl,h⟩:=ci hg
 cases h
 exact ⟨i,j,oa,ob,k _ H NoA .refl rfl⟩
def l4:D→Bool
 | .none=>true
 | _=>false
theorem uu {a:D} {F:AS} (h:Ow K O H a d x F):decide (x=.non)=l4 a:=by
 cases a with
 | none=>rw [show x=.non from h]; rfl
 | bool b=>rw [show x=.bl b from h]; rfl
 | int b=>rw [show x=.int b from h]; rfl
 | str b=>rw [show x=.str b from h]; rfl
 | list ts=>obtain ⟨a,vs,e,_⟩:=h; rw [e]; rfl
 | tuple ts=>obtain ⟨a,vs,e,_⟩:=h; rw [e]; rfl
 | dict ts=>obtain ⟨a,vs,e,_⟩:=h; rw [e]; rfl
def isN:D→D→Option D
 | a,.none=>some (.bool (l4 a))
 | _,_=>none
def Im:D→D→Option D
 | a,.none=>some (.bool (!l4 a))
 | _,_=>none
theorem FH:OpR X (compareOp .Is) (rF2 K isN 3):=op_isN.imp fun x y H Q ⟨O,a,b,t,oa,ob,hd,hg,k⟩=>by
 cases b with
 | none=>cases hg; exact ⟨ob,by rw [uu oa]; exact k _ H NoA .refl rfl⟩
 | _=>cases hg
def qG:D→D→Option D
 | .str a,.str b=>some (.bool (df b a))
 | _,_=>none
def HP:D→D→Option D
 | .str a,.str b=>some (.bool (!df b a))
 | _,_=>none
theorem sG:OpR X (compareOp .In) (rF2 K qG 3):=op_inS.imp fun x y H Q ⟨O,a,b,t,oa,ob,hd,hg,k⟩=>by
 cases a with
 | str i=>cases b with
  | str j=>cases hg; exact ⟨i,j,oa,ob,k _ H NoA .refl rfl⟩
  | _=>cases hg
 | _=>cases hg
def ixA:D→D→Option D
 | .list ts,.int n=>atI ts n
 | .tuple ts,.int n=>atI ts n
 | .str z,.int n=>if z.length≤sizeLine then (atI z.cps.toList n).map fun c=>.str (mk1 c) else none
 | _,_=>none
theorem gI (hK:X.K=K):IxR X (rF2 K ixA 0):=by
 subst hK
 refine ix_seq.imp fun x y H Q ⟨O,a,b,t,oa,ob,hd,hg,k⟩=>?_
 cases b with
 | int n =>
  cases a with
  | list ts =>
   obtain ⟨a,vs,e,fz,ow⟩:=oa.lst0
   obtain ⟨v,h1,h2⟩:=ow.atI hg
   exact .inl ⟨a,vs,n,v,e,ob,fz.sq,h1,k v H NoA .refl (by rw [fE]; exact h2)⟩
  | tuple ts =>
   obtain ⟨a,vs,e,fz,ow⟩:=oa.tup0
   obtain ⟨v,h1,h2⟩:=ow.atI hg
   exact .inr (.inl ⟨a,vs,n,v,e,ob,fz.sq,h1,k v H NoA .refl (by rw [fE]; exact h2)⟩)
  | str z =>
   dsimp only [ixA] at hg
   by_cases hl:z.length≤sizeLine
   ·rw [if_pos hl] at hg
    obtain ⟨c,h1,h2⟩:=Option.map_eq_some_iff.mp hg
    cases h2
    exact .inr (.inr ⟨z,n,c,oa,ob,hl,h1,k _ H NoA .refl rfl⟩)
   ·rw [if_neg hl] at hg; cases hg
  | _=>cases hg
 | _=>cases a <;> cases hg
def ixT:D→D→Option D
 | .str z,.int n=>if z.length≤sizeLine then (atI z.cps.toList n).map fun c=>.str (mk1 c) else none
 | _,_=>none
theorem FG:IxR X (rF2 K ixT 3):=by
 refine ix_str.imp fun x y H Q ⟨O,a,b,t,oa,ob,hd,hg,k⟩=>?_
 cases a with
 | str z=>cases b with
  | int n =>
   dsimp only [ixT] at hg
   by_cases hl:z.length≤sizeLine
   ·rw [if_pos hl] at hg
    obtain ⟨c,h1,h2⟩:=Option.map_eq_some_iff.mp hg
    cases h2
    exact ⟨z,n,c,oa,ob,hl,h1,k _ H NoA .refl rfl⟩
   ·rw [if_neg hl] at hg; cases hg
  | _=>cases hg
 | _=>cases hg
def jz:D→D→Option D
 | .list a,.list b=>if a.length+b.length≤sizeLine then some (.list (a++b)) else none
 | _,_=>none
def Iy:D→D→Option D
 | .tuple a,.tuple b=>if a.length+b.length≤sizeLine then some (.tuple (a++b)) else none
 | _,_=>none
end
end L2
namespace L2
open PySem PySem.Spec PyProof.Rows
def grd {α:Type} (c:Prop) [Decidable c] (t:α):Option α:=if c then some t else none
theorem bv {α:Type} {c:Prop} [Decidable c] {t u:α} (h:grd c t=some u):c∧t=u:=by
 unfold grd at h
 by_cases hc:c
 ·rw [if_pos hc] at h; exact ⟨hc,Option.some.inj h⟩
 ·rw [if_neg hc] at h; cases h
section
variable {X:Cx} {K:PySem.W.Frag} {O:AS} {H:Hp} {ts us:List D} {vs ws:List V} {x y:V} {d:Nat} {Q:VK}
def GC (K:PySem.W.Frag):R2:=fun x y H Q=>∃ l b xs zs,x=.ref l∧y=.ref b∧SqL K H l xs∧SqL K H b zs∧xs.length+zs.length≤sizeLine∧∀ p,H p=none→Q (.ref p) (upd H p (.lst (xs++zs)))
theorem op_catL:OpR X (binaryOp .Add) (GC X.K):=by
 intro pins s σ H x y v u Q I rx ry h
 obtain ⟨l,b,xs,zs,rfl,rfl,hH,hB,hz,q⟩:=h
 cases rx
 cases ry
 obtain ⟨its,r,⟨⟨c1,dd,da1,sl⟩,n,ho,hc,hdd,hda⟩,_⟩:=I.list hH
 obtain ⟨its2,r2,⟨⟨c2,dd2,da2,sl2⟩,n2,ho2,hc2,hdd2,hda2⟩,_⟩:=I.list hB
 have hl:=r.length
 have hl2:=r2.length
 simp only at hc hda hc2 hda2
 subst hc hda hc2 hda2
 refine concat_meets ⟨_,ho,rfl⟩ ⟨_,ho2,rfl⟩ noFill_list_add seq_list_add PySem.F.slot_list_add PySem.F.entry_list_add (PySem.F.args_list_add_2 _ _) (list_addW l b its.toArray its2.toArray n n2 dd dd2 sl sl2 (by simp only [List.size_toArray]; omega)) ⟨ho,ho2,?_⟩
 have ea:its.toArray++its2.toArray=(its++its2).toArray:=by simp
 rw [ea]
 exact ⟨.ref _,_,I.lnew (t':=s.toks) (r.append r2) (by rw [List.length_append]; omega),rfl,q _ I.fresh⟩
theorem ii (hK:X.K=K):OpR X (binaryOp .Add) (rF2 K jz 1):=by
 subst hK
 refine op_catL.imp fun x y H Q ⟨O,a,b,t,oa,ob,hd,hg,k⟩=>?_
 cases a with
 | list ts=>cases b with
  | list us =>
   dsimp only [jz] at hg
   by_cases hl:ts.length+us.length≤sizeLine
   case neg=>rw [if_neg hl] at hg; cases hg
   rw [if_pos hl] at hg
   cases hg
   obtain ⟨a,vs,e1,f1,w1⟩:=oa.lst0
   obtain ⟨b,ws,e2,f2,w2⟩:=ob.lst0
   refine ⟨a,b,vs,ws,e1,e2,f1.sq,f2.sq,by rw [w1.len,w2.len]; exact hl,fun p hp=>?_⟩
   obtain ⟨n1,n2⟩:=cM hp hd (w1.app w2)
   exact k _ _ _ n1 n2
  | _=>cases hg
 | _=>cases hg
def Iq:D→D→Option D
 | .list ts,.int k=>grd (-(2 ^ 63)≤k∧k < 2 ^ 63∧ts.length * k.toNat≤sizeLine) (.list (List.replicate k.toNat ts).flatten)
 | _,_=>none
def Ip:D→D→Option D
 | .str z,.int k=>grd (z.length≤4000∧-(2 ^ 63)≤k∧k≤4000) (.str (Txt.mul z k))
 | _,_=>none
def t9:D→Option D
 | .int i=>some (.int (-i))
 | _=>none
theorem FF:UnR X (unaryOp .USub) (rF1 K t9 3):=un_neg.imp fun x H Q ⟨O,a,t,oa,hd,hg,k⟩=>by
 cases a with
 | int i=>cases hg; exact ⟨i,oa,k _ H NoA .refl rfl⟩
 | _=>cases hg
def aV:List D→Option D
 | [.list ts]=>some (.int ts.length)
 | [.tuple ts]=>some (.int ts.length)
 | [.str z]=>grd (z.length≤sizeLine) (.int z.length)
 | _=>none
theorem bd (hK:X.K=K):CallR X (.builtin "len") (rFn K aV 3):=(HB hK).imp fun xs H Q ⟨O,as,t,oa,hd,hg,k⟩=>by
 match as,hg with
 | [.list ts],hg =>
  cases hg
  obtain ⟨v,rfl,o⟩:=oa.one
  obtain ⟨a,vs,rfl,fz,w⟩:=o.lst0
  exact ⟨_,_,rfl,.inl ⟨vs,fz.sq,rfl⟩,by rw [w.len]; exact k _ H NoA .refl rfl⟩
 | [.tuple ts],hg =>
  cases hg
  obtain ⟨v,rfl,o⟩:=oa.one
  obtain ⟨a,vs,rfl,fz,w⟩:=o.tup0
  exact ⟨_,_,rfl,.inr ⟨vs,fz.sq,rfl⟩,by rw [w.len]; exact k _ H NoA .refl rfl⟩
 | [.str z],hg =>
  obtain ⟨c,rfl⟩:=bv hg
  obtain ⟨v,rfl,o⟩:=oa.one
  exact ⟨_,_,rfl,by rw [show v=.str z from o]; exact ⟨c,rfl⟩,k _ H NoA .refl rfl⟩
def gY:List D→Option D
 | [.int i]=>some (.int (if i < 0 then -i else i))
 | _=>none
theorem sH:CallR X (.builtin "abs") (rFn K gY 3):=call_abs.imp fun xs H Q ⟨O,as,t,oa,hd,hg,k⟩=>by
 match as,hg with
 | [.int i],hg =>
  cases hg
  obtain ⟨v,rfl,o⟩:=oa.one
  exact ⟨i,by rw [show v=.int i from o],k _ H NoA .refl rfl⟩
def ql:List D→Option D
 | [.int i,.int j]=>some (.int (if j > i then j else i))
 | _=>none
def qk:List D→Option D
 | [.int i,.int j]=>some (.int (if j < i then j else i))
 | _=>none
theorem BU (hc:X.calm=true):CallR X (.builtin "max") (rFn K ql 3):=(sZ hc).imp fun xs H Q ⟨O,as,t,oa,hd,hg,k⟩=>by
 match as,hg with
 | [.int i,.int j],hg =>
  cases hg
  obtain ⟨v,w,rfl,o,o2⟩:=oa.two
  exact ⟨i,j,by rw [show v=.int i from o,show w=.int j from o2],k _ H NoA .refl rfl⟩
theorem BT (hc:X.calm=true):CallR X (.builtin "min") (rFn K qk 3):=(sY hc).imp fun xs H Q ⟨O,as,t,oa,hd,hg,k⟩=>by
 match as,hg with
 | [.int i,.int j],hg =>
  cases hg
  obtain ⟨v,w,rfl,o,o2⟩:=oa.two
  exact ⟨i,j,by rw [show v=.int i from o,show w=.int j from o2],k _ H NoA .refl rfl⟩
def Ir:List D→Option D
 | [.int i]=>some (.int i)
 | [.bool b]=>some (.int (if b then 1 else 0))
 | _=>none
def eS (z:Str):List D:=(li z).map fun c=>.str (mk1 c)
theorem nB {z:Str}:Ows K O H (eS z) 0 (cL z) NoA:=by
 unfold eS cL
 show Ows K O H ((li z).map fun c=>.str (mk1 c)) 0 ((li z).map sgn) NoA
 generalize li z=l
 induction l with
 | nil=>rfl
 | cons c r ih=>exact ⟨sgn c,r.map sgn,NoA,NoA,rfl,fun _ z=>z,fun _ z=>z,fun _ z=>z.elim,rfl,ih⟩
def iD:List D→Option D
 | [.list ts]=>some (.list ts)
 | [.tuple ts]=>some (.list ts)
 | [.str z]=>grd (z.cps.size≤sizeLine) (.list (eS z))
 | _=>none
theorem l7 (hK:X.K=K) (hc:X.calm=true):CallR X (.type "list") (rFn K iD 1):=((Bn hK).or' (mh hc)).imp fun xs H Q ⟨O,as,t,oa,hd,hg,k⟩=>by
 match as,hg with
 | [.list ts],hg =>
  cases hg
  obtain ⟨v,rfl,o⟩:=oa.one
  obtain ⟨a,vs,rfl,fz,w⟩:=o.lst0
  exact .inl ⟨a,vs,rfl,.inl fz.sq,fun l hl=>k _ _ _ (cM hl hd w).1 (cM hl hd w).2⟩
 | [.tuple ts],hg =>
  cases hg
  obtain ⟨v,rfl,o⟩:=oa.one
  obtain ⟨a,vs,rfl,fz,w⟩:=o.tup0
  exact .inl ⟨a,vs,rfl,.inr fz.sq,fun l hl=>k _ _ _ (cM hl hd w).1 (cM hl hd w).2⟩
 | [.str z],hg =>
  obtain ⟨c,rfl⟩:=bv hg
  obtain ⟨v,rfl,o⟩:=oa.one
  exact .inr ⟨z,by rw [show v=.str z from o],c,fun l hl=>k _ _ _ (cM (K:=K) hl hd nB).1 (cM hl hd nB).2⟩
def fY:List D→Option D
 | [.list ts]=>some (.tuple ts)
 | [.tuple ts]=>some (.tuple ts)
 | _=>none
theorem dC (hK:X.K=K):CallR X (.type "tuple") (rFn K fY 0):=(EW hK).imp fun xs H Q ⟨O,as,t,oa,hd,hg,k⟩=>by
 match as,hg with
 | [.list ts],hg =>
  cases hg
  obtain ⟨v,rfl,o⟩:=oa.one
  obtain ⟨a,vs,rfl,fz,w⟩:=o.lst0
  exact ⟨a,vs,rfl,.inl ⟨fz.sq,fun l hl=>k _ _ _ (jQ hl hd w).1 (jQ hl hd w).2⟩⟩
 | [.tuple ts],hg =>
  cases hg
  obtain ⟨v,rfl,o⟩:=oa.one
  obtain ⟨a,vs,rfl,fz,w⟩:=o.tup0
  exact ⟨a,vs,rfl,.inr ⟨fz.sq,k _ H NoA .refl (by rw [fE]; exact o)⟩⟩
def fX:List D→Option (List Bool)
 | []=>some []
 | .bool b :: r=>(fX r).map (b :: ·)
 | _ :: _=>none
theorem mB:∀ {ts:List D} {vs:List V} {bs:List Bool},Ows K O H ts 0 vs NoA→fX ts=some bs→vs=bs.map V.bl
 | [],_,_,h,hb=>by cases hb; exact h
 | .bool b :: r,_,_,h,hb=>by
  obtain ⟨v,w,F1,F2,e,_,_,_,h4,h5⟩:=h
  obtain ⟨bs',h6,h7⟩:=Option.map_eq_some_iff.mp hb
  subst e h7
  rw [show v=.bl b from h4,mB (Ows.any0 r h5) h6]
  rfl
 | .none :: _,_,_,_,hb=>by cases hb
 | .int _ :: _,_,_,_,hb=>by cases hb
 | .str _ :: _,_,_,_,hb=>by cases hb
 | .list _ :: _,_,_,_,hb=>by cases hb
 | .tuple _ :: _,_,_,_,hb=>by cases hb
 | .dict _ :: _,_,_,_,hb=>by cases hb
def eK:List D→Option D
 | [.list ts]=>(fX ts).map fun bs=>.bool (bs.all id)
 | _=>none
theorem ff (hK:X.K=K) (hc:X.calm=true):CallR X (.builtin "all") (rFn K eK 3):=(HE hK hc).imp fun xs H Q ⟨O,as,t,oa,hd,hg,k⟩=>by
 match as,hg with
 | [.list ts],hg =>
  obtain ⟨bs,h1,rfl⟩:=Option.map_eq_some_iff.mp hg
  obtain ⟨v,rfl,o⟩:=oa.one
  obtain ⟨a,vs,rfl,fz,w⟩:=o.lst0
  have e:=mB w h1
  subst e
  exact ⟨a,bs,rfl,fz.sq,k _ H NoA .refl rfl⟩
def tyN:D→String
 | .none=>"NoneType" | .bool _=>"bool" | .int _=>"int" | .str _=>"str" | .list _=>"list" | .tuple _=>"tuple" | .dict _=>"dict"
def aF (n T:String):Bool:=n == T || (n == "bool" && T == "int")
theorem lZ {T:String} (hT:T∈["int", "bool", "str", "list", "tuple", "dict"]) (a:D):PySem.W.kitOne K (.type (tyN a)) (.type T)=some (aF (tyN a) T):=by
 simp only [List.mem_cons,List.not_mem_nil,or_false] at hT
 rcases hT with rfl | rfl | rfl | rfl | rfl | rfl <;> cases a <;> rfl
def GB (K:PySem.W.Frag):List V→Hp→VK→Prop:=fun xs H Q=>∃ x T,∃ (O:AS) (a:D),xs=[x,.ty T]∧Ow K O H a 0 x NoA∧T∈["int", "bool", "str", "list", "tuple", "dict"]∧Q (.bl (aF (tyN a) T)) H
theorem tj:CallR X (.builtin "isinstance") (GB X.K):=by
 intro pins s σ H xs us Q I r h
 obtain ⟨x,T,O,a,rfl,oa,hT,q⟩:=h
 have base:∀ ty,TyOf X.K H x (.type ty)→tyN a=ty→wpAny (model X.prog X.w) X.A (call (.builtin "isinstance") us) (EP X pins σ Q) X.xe s:=fun ty h1 h2=>by
  refine uY pins s σ H _ us Q I r ⟨x,.type ty,T,aF (tyN a) T,rfl,h1,?_,q⟩
  rw [← h2]
  exact lZ hT a
 cases a with
 | none=>exact base _ (by rw [show x=.non from oa]; exact .non) rfl
 | bool b=>exact base _ (by rw [show x=.bl b from oa]; exact .bl b) rfl
 | int b=>exact base _ (by rw [show x=.int b from oa]; exact .int b) rfl
 | str b=>exact base _ (by rw [show x=.str b from oa]; exact .str b) rfl
 | tuple ts =>
  obtain ⟨p,vs,rfl,fz,w⟩:=oa.tup0
  exact base _ (.tup fz.1) rfl
 | dict ts =>
  obtain ⟨p,vs,rfl,⟨_,h1,_⟩ | ⟨_,h1,_⟩⟩:=oa
  ·exact base _ (.dK h1) rfl
  ·exact base _ (.dK h1) rfl
 | list ts =>
  obtain ⟨p,vs,rfl,fz,w⟩:=oa.lst0
  obtain ⟨u,u2,rfl,r1,r2⟩:=r.two
  cases r1
  cases r2
  obtain ⟨its,rv,pl,_⟩:=I.list fz.sq
  have e:=lZ (K:=X.K) hT (.list ts)
  obtain ⟨o,n,h1,h2,_⟩:=pl
  exact PySem.W.kia_one PySem.W.kitx_list I.kIn ⟨o,h1,h2⟩ e (fun z=>nomatch z) fun tk=>⟨.bl _,H,I.tok tk,rfl,q⟩
end
def aH (T:String):D→Option D:=fun a=>some (.bool (aF (tyN a) T))
section
variable {X:Cx} {K:PySem.W.Frag} {p:Bool} {ds ds1:List Nat} {d1:Nat} {e:Expr} {f:ME}
theorem FY {T:Str} {n:String} {px pt pos:Pos} (hK:X.K=K) (hg:Gl X "isinstance") (hm:X.mg "isinstance"=none) (hgT:Gl X T) (hmT:X.mg T=none) (hbT:bootBuiltins T=some (.type n)) (hT:n∈["int", "bool", "str", "list", "tuple", "dict"]) (he:PE X e (tF K p ds ds1 d1 f))
  (hnT:T≠"__name__") (hdT:(T == ("__debug__" : Str))=false)
  (hs1:starEach [e,.Name T pt] X.env=(false,eval e X.env) :: starEach [.Name T pt] X.env) (hs2:starEach [.Name T pt] X.env=(false,eval (.Name T pt) X.env) :: starEach [] X.env) (hpl:(backTo pos (starEach [.Name T pt] X.env)).any (·.1)=false) :
  PE X (.Call (.Name "isinstance" px) [e,.Name T pt] [] pos) (tF K p ds ds1 3 (e1 (aH n) f)):=by
 subst hK
 refine (ix tj hg hm boot_isinstance (bK he (bK (lV (v:=.ty n) hgT hmT hbT rfl hnT hdT) pa_nil hs2) hs1) (by decide) (by decide) hs1 hpl).imp fun σ H Q h=>?_
 obtain ⟨Ox,en,R,t,en',e,hf,k⟩:=h
 unfold e1 at hf
 obtain ⟨⟨t1,en1⟩,h1,hf⟩:=Option.bind_eq_some_iff.mp hf
 obtain ⟨t',h3,hf⟩:=Option.map_eq_some_iff.mp hf
 cases hf
 cases h3
 refine ⟨Ox,en,R,t1,en1,e,h1,fun v H' R' F P o=>?_⟩
 exact ⟨v,n,Own R' Ox,t1,rfl,Ow.letgo P (fun _ z=>z) o,hT,k _ H' R' NoA (P.less fun _ z=>z.elim) rfl⟩
end
end L2
namespace L2
open PySem PySem.Spec PyProof.Rows
mutual
def peq:D→D→Bool
 | .none,.none=>true
 | .bool a,.bool b=>a == b
 | .bool a,.int b=>(if a then (1:Int) else 0) == b
 | .int a,.bool b=>a == (if b then (1:Int) else 0)
 | .int a,.int b=>a == b
 | .str a,.str b=>a == b
 | .list a,.list b=>cD a b
 | .tuple a,.tuple b=>cD a b
 | _,_=>false
def cD:List D→List D→Bool
 | [],[]=>true
 | a :: r,b :: s=>peq a b && cD r s
 | _,_=>false
end
mutual
def ap:D→Bool
 | .dict _=>false
 | .list ts=>aC ts
 | .tuple ts=>aC ts
 | _=>true
def aC:List D→Bool
 | []=>true
 | t :: r=>ap t && aC r
end
mutual
theorem kr:∀ a:D,ap a=true→peq a a=true
 | .none,_=>rfl
 | .bool b,_=>by cases b <;> rfl
 | .int i,_=>by simp [peq]
 | .str i,_=>by simp [peq]
 | .list ts,h=>by simp only [peq]; exact ji ts (by simpa [ap] using h)
 | .tuple ts,h=>by simp only [peq]; exact ji ts (by simpa [ap] using h)
 | .dict _,h=>by simp [ap] at h
theorem ji:∀ a:List D,aC a=true→cD a a=true
 | [],_=>rfl
 | t :: r,h=>by
  have h':ap t=true∧aC r=true:=by simpa [aC] using h
  simp only [cD,kr t h'.1,ji r h'.2,Bool.and_self]
end
mutual
def ca:D→Nat
 | .list ts=>bO ts+1
 | .tuple ts=>bO ts+1
 | _=>0
def bO:List D→Nat
 | []=>0
 | t :: r=>max (ca t) (bO r)
end
theorem jx:∀ {ts:List D} {i:Nat} {t:D},ts[i]?=some t→ca t≤bO ts
 | [],_,_,h=>by simp at h
 | u :: r,i,t,h=>by
  simp only [bO]
  cases i with
  | zero=>simp at h; subst h; exact Nat.le_max_left _ _
  | succ i=>exact Nat.le_trans (jx (by simpa using h)) (Nat.le_max_right _ _)
theorem de:∀ {ts:List D} {i:Nat} {t:D},aC ts=true→ts[i]?=some t→ap t=true
 | [],_,_,_,h=>by simp at h
 | u :: r,i,t,hn,h=>by
  have h':ap u=true∧aC r=true:=by simpa [aC] using hn
  cases i with
  | zero=>simp at h; subst h; exact h'.1
  | succ i=>exact de h'.2 (by simpa using h)
theorem ko:∀ {a b:List D},a.length≠b.length→cD a b=false
 | [],[],h=>absurd rfl h
 | [],_ :: _,_=>rfl
 | _ :: _,[],_=>rfl
 | a :: r,b :: s,h=>by
  simp only [cD,ko (a:=r) (b:=s) (fun z=>h (by rw [List.length_cons,List.length_cons,z])),Bool.and_false]
def eAt (a b:List D) (j:Nat):Bool:=match a[j]?,b[j]? with
 | some x,some y=>peq x y
 | _,_=>true
theorem mm (n:Nat) (f:Nat→Bool):(List.range (n+1)).all f=(f 0 && (List.range n).all fun j=>f (j+1)):=by
 rw [List.range_succ_eq_map,List.all_cons,List.all_map]
 rfl
theorem kq:∀ {a b:List D},a.length=b.length→(List.range a.length).all (eAt a b)=cD a b
 | [],[],_=>rfl
 | a :: r,b :: s,h=>by
  rw [List.length_cons,mm]
  have e:(List.range r.length).all (fun j=>eAt (a :: r) (b :: s) (j+1))=(List.range r.length).all (eAt r s):=by
   congr 1
  rw [e,kq (by simpa using h)]
  rfl
 | [],_ :: _,h=>by simp at h
 | _ :: _,[],h=>by simp at h
section
open PySem.SeqAt
variable {X:Cx} {pins:List (Addr × Obj)} {σ:St} {H:Hp} {s:Shared} {O:AS}
theorem Aq {p:Addr} {vs ws:List V} (I:Inv X pins σ H s) (h:SqL X.K H p vs) (g:SqT X.K H p ws):False:=by
 obtain ⟨its,_,p1,_⟩:=I.list h
 obtain ⟨its2,_,p2,_⟩:=I.tuple g
 exact ne_of_list_tuple p1.isList (show s.heap.IsTuple p its2.toArray from p2) rfl
theorem GM {p:Addr} {vs:List V} {ks:List (Key × V)} (I:Inv X pins σ H s) (h:SqL X.K H p vs) (g:H p=some (.dK ks)):False:=by
 obtain ⟨its,_,⟨o,n,e1,e2,_⟩,_⟩:=I.list h
 obtain ⟨_,_,_,_,o',_,_,g1,g2,_⟩:=lq I.hok g
 rw [e1] at g1
 cases g1
 rw [g2.1] at e2
 simp at e2
mutual
theorem Ow.inj (I:Inv X pins σ H s):∀ (a b:D) {x:V},Ow X.K O H a 0 x NoA→Ow X.K O H b 0 x NoA→ap a=true→a=b
 | .none,b,_,h,g,_=>by
  cases (show _=_ from h)
  cases b with
  | none=>rfl
  | list ts=>obtain ⟨_,_,z,_⟩:=g; cases z
  | tuple ts=>obtain ⟨_,_,z,_⟩:=g; cases z
  | dict ts=>obtain ⟨_,_,z,_⟩:=g; cases z
  | bool c=>cases (show V.non=V.bl c from g)
  | int c=>cases (show V.non=V.int c from g)
  | str c=>cases (show V.non=V.str c from g)
 | .bool c,b,_,h,g,_=>by
  cases (show _=_ from h)
  cases b with
  | none=>cases (show V.bl c=V.non from g)
  | list ts=>obtain ⟨_,_,z,_⟩:=g; cases z
  | tuple ts=>obtain ⟨_,_,z,_⟩:=g; cases z
  | dict ts=>obtain ⟨_,_,z,_⟩:=g; cases z
  | bool c'=>cases (show V.bl c=V.bl c' from g); rfl
  | int c'=>cases (show V.bl c=V.int c' from g)
  | str c'=>cases (show V.bl c=V.str c' from g)
 | .int c,b,_,h,g,_=>by
  cases (show _=_ from h)
  cases b with
  | none=>cases (show V.int c=V.non from g)
  | list ts=>obtain ⟨_,_,z,_⟩:=g; cases z
  | tuple ts=>obtain ⟨_,_,z,_⟩:=g; cases z
  | dict ts=>obtain ⟨_,_,z,_⟩:=g; cases z
  | bool c'=>cases (show V.int c=V.bl c' from g)
  | int c'=>cases (show V.int c=V.int c' from g); rfl
  | str c'=>cases (show V.int c=V.str c' from g)
 | .str c,b,_,h,g,_=>by
  cases (show _=_ from h)
  cases b with
  | none=>cases (show V.str c=V.non from g)
  | list ts=>obtain ⟨_,_,z,_⟩:=g; cases z
  | tuple ts=>obtain ⟨_,_,z,_⟩:=g; cases z
  | dict ts=>obtain ⟨_,_,z,_⟩:=g; cases z
  | bool c'=>cases (show V.str c=V.bl c' from g)
  | int c'=>cases (show V.str c=V.int c' from g)
  | str c'=>cases (show V.str c=V.str c' from g); rfl
 | .list ts,b,_,h,g,hn=>by
  obtain ⟨p,vs,rfl,fz,w⟩:=h.lst0
  cases b with
  | none=>cases (show V.ref p=V.non from g)
  | bool c'=>cases (show V.ref p=V.bl c' from g)
  | int c'=>cases (show V.ref p=V.int c' from g)
  | str c'=>cases (show V.ref p=V.str c' from g)
  | list us =>
   obtain ⟨p',vs',e,fz',w'⟩:=g.lst0
   cases e
   have:=I.list_inj fz.sq fz'.sq
   subst this
   rw [Ows.inj I ts us w w' (by simpa [ap] using hn)]
  | tuple us =>
   obtain ⟨p',vs',e,fz',w'⟩:=g.tup0
   cases e
   exact (Aq I fz.sq fz'.sq).elim
  | dict us =>
   obtain ⟨p',vs',e,⟨_,g1,_⟩ | ⟨z,_⟩⟩:=g
   ·cases e
    exact (GM I fz.sq g1).elim
   ·exact absurd rfl z
 | .tuple ts,b,_,h,g,hn=>by
  obtain ⟨p,vs,rfl,fz,w⟩:=h.tup0
  cases b with
  | none=>cases (show V.ref p=V.non from g)
  | bool c'=>cases (show V.ref p=V.bl c' from g)
  | int c'=>cases (show V.ref p=V.int c' from g)
  | str c'=>cases (show V.ref p=V.str c' from g)
  | tuple us =>
   obtain ⟨p',vs',e,fz',w'⟩:=g.tup0
   cases e
   have:=fz.1.symm.trans fz'.1
   cases this
   rw [Ows.inj I ts us w w' (by simpa [ap] using hn)]
  | list us =>
   obtain ⟨p',vs',e,fz',w'⟩:=g.lst0
   cases e
   exact (Aq I fz'.sq fz.sq).elim
  | dict us =>
   obtain ⟨p',vs',e,⟨_,g1,_⟩ | ⟨z,_⟩⟩:=g
   ·cases e
    rw [fz.1] at g1
    cases g1
   ·exact absurd rfl z
 | .dict _,_,_,_,_,hn=>by simp [ap] at hn
theorem Ows.inj (I:Inv X pins σ H s):∀ (a b:List D) {x:List V},Ows X.K O H a 0 x NoA→Ows X.K O H b 0 x NoA→aC a=true→a=b
 | [],b,_,h,g,_=>by
  cases (show _=_ from h)
  cases b with
  | nil=>rfl
  | cons u us=>obtain ⟨_,_,_,_,e,_⟩:=g; cases e
 | t :: ts,b,_,h,g,hn=>by
  obtain ⟨v,r,F1,F2,e,_,_,_,h4,h5⟩:=h
  subst e
  have hn':ap t=true∧aC ts=true:=by simpa [aC] using hn
  cases b with
  | nil=>cases (show v :: r=[] from g)
  | cons u us =>
   obtain ⟨v',r',G1,G2,e,_,_,_,g4,g5⟩:=g
   cases e
   rw [Ow.inj I t u (Ow.any0 t h4) (Ow.any0 u g4) hn'.1,Ows.inj I ts us (Ows.any0 ts h5) (Ows.any0 us g5) hn'.2]
end
theorem nZ {A:Around} {ts us:List D} {vs ws:List V} {its its2:List Value} (w:Ows X.K O H ts 0 vs NoA) (w2:Ows X.K O H us 0 ws NoA) (rv:Vals vs its) (rv2:Vals ws its2)
  (ih:∀ (j:Nat) a b x y v u,ts[j]?=some a→us[j]?=some b→Ow X.K O H a 0 x NoA→Ow X.K O H b 0 y NoA→RelV x v→RelV y u→EqAt A s v u (peq a b)) :
  ∀ j (h1:j < its.toArray.size) (h2:j < its2.toArray.size),EqAt A s its.toArray[j] its2.toArray[j] (eAt ts us j):=fun j h1 h2=>by
 have h1':j < its.length:=by simpa using h1
 have h2':j < its2.length:=by simpa using h2
 have l1:=rv.length
 have l2:=rv2.length
 have m1:=w.len
 have m2:=w2.len
 have e1:ts[j]?=some ts[j]:=List.getElem?_eq_getElem (by omega)
 have e2:us[j]?=some us[j]:=List.getElem?_eq_getElem (by omega)
 obtain ⟨x,g1,o1⟩:=w.get e1
 obtain ⟨y,g2,o2⟩:=w2.get e2
 obtain ⟨u1,f1,q1⟩:=rv.get g1
 obtain ⟨u2,f2,q2⟩:=rv2.get g2
 have z:=ih j _ _ x y u1 u2 e1 e2 o1 o2 q1 q2
 rw [List.getElem?_eq_getElem h1'] at f1
 rw [List.getElem?_eq_getElem h2'] at f2
 have i1:its.toArray[j]=u1:=by simpa using Option.some.inj f1
 have i2:its2.toArray[j]=u2:=by simpa using Option.some.inj f2
 rw [i1,i2]
 unfold eAt
 rw [e1,e2]
 exact z
theorem qO (I:Inv X pins σ H s):∀ (n:Nat) (a b:D) (A:Around) (x y:V) (v u:Value),ca a≤n→ap a=true→ap b=true→Ow X.K O H a 0 x NoA→Ow X.K O H b 0 y NoA→RelV x v→RelV y u→A.units+n+1 < cLine →
  EqAt A s v u (peq a b)∧RcAt A s v u (peq a b)∧RcNeAt A s v u (!peq a b):=by
 intro n
 induction n with
 | zero =>
  intro a b A x y v u hdp hna hnb o1 o2 r1 r2 hun
  have hu:A.units < cLine:=by omega
  cases a with
  | none =>
   cases b with
   | none =>
    cases (show x=V.non from o1)
    cases r1
    cases (show y=V.non from o2)
    cases r2
    exact ⟨EqAt.same _,RcAt.none_none,RcNeAt.none_none⟩
   | bool c2 =>
    cases (show x=V.non from o1)
    cases r1
    cases (show y=V.bl c2 from o2)
    cases r2
    exact ⟨EqAt.none_bool _,RcAt.none_bool _,RcNeAt.none_bool _⟩
   | int c2 =>
    cases (show x=V.non from o1)
    cases r1
    cases (show y=V.int c2 from o2)
    obtain ⟨tk2,rfl⟩:=r2
    exact ⟨EqAt.none_int _ _,RcAt.none_int _ _,RcNeAt.none_int _ _⟩
   | str c2 =>
    cases (show x=V.non from o1)
    cases r1
    cases (show y=V.str c2 from o2)
    obtain ⟨tk2,rfl⟩:=r2
    exact ⟨EqAt.none_str _ _,RcAt.none_str _ _,RcNeAt.none_str _ _⟩
   | list c2 =>
    cases (show x=V.non from o1)
    cases r1
    obtain ⟨p2,vs2,rfl,fz2,w2⟩:=o2.lst0
    cases r2
    obtain ⟨its2,rv2,pl2,_⟩:=I.list fz2.sq
    have hl2:=pl2.isList
    exact ⟨EqAt.none_list  hl2 hu,RcAt.none_list  hl2 hu,RcNeAt.none_list  hl2 hu⟩
   | tuple c2 =>
    cases (show x=V.non from o1)
    cases r1
    obtain ⟨p2,vs2,rfl,fz2,w2⟩:=o2.tup0
    cases r2
    obtain ⟨its2,rv2,pl2,_⟩:=I.tuple fz2.sq
    have hl2:s.heap.IsTuple p2 its2.toArray:=pl2
    exact ⟨EqAt.none_tuple  hl2 hu,RcAt.none_tuple  hl2 hu,RcNeAt.none_tuple  hl2 hu⟩
   | dict c2=>simp [ap] at hnb
  | bool c1 =>
   cases b with
   | none =>
    cases (show x=V.bl c1 from o1)
    cases r1
    cases (show y=V.non from o2)
    cases r2
    exact ⟨EqAt.bool_none _,RcAt.bool_none _,RcNeAt.bool_none _⟩
   | bool c2 =>
    cases (show x=V.bl c1 from o1)
    cases r1
    cases (show y=V.bl c2 from o2)
    cases r2
    exact ⟨EqAt.bool_bool _ _,RcAt.bool_bool _ _,RcNeAt.bool_bool _ _⟩
   | int c2 =>
    cases (show x=V.bl c1 from o1)
    cases r1
    cases (show y=V.int c2 from o2)
    obtain ⟨tk2,rfl⟩:=r2
    exact ⟨EqAt.bool_int _ _ _,RcAt.bool_int _ _ _,RcNeAt.bool_int _ _ _⟩
   | str c2 =>
    cases (show x=V.bl c1 from o1)
    cases r1
    cases (show y=V.str c2 from o2)
    obtain ⟨tk2,rfl⟩:=r2
    exact ⟨EqAt.bool_str _ _ _,RcAt.bool_str _ _ _,RcNeAt.bool_str _ _ _⟩
   | list c2 =>
    cases (show x=V.bl c1 from o1)
    cases r1
    obtain ⟨p2,vs2,rfl,fz2,w2⟩:=o2.lst0
    cases r2
    obtain ⟨its2,rv2,pl2,_⟩:=I.list fz2.sq
    have hl2:=pl2.isList
    exact ⟨EqAt.bool_list _ hl2 hu,RcAt.bool_list _ hl2 hu,RcNeAt.bool_list _ hl2 hu⟩
   | tuple c2 =>
    cases (show x=V.bl c1 from o1)
    cases r1
    obtain ⟨p2,vs2,rfl,fz2,w2⟩:=o2.tup0
    cases r2
    obtain ⟨its2,rv2,pl2,_⟩:=I.tuple fz2.sq
    have hl2:s.heap.IsTuple p2 its2.toArray:=pl2
    exact ⟨EqAt.bool_tuple _ hl2 hu,RcAt.bool_tuple _ hl2 hu,RcNeAt.bool_tuple _ hl2 hu⟩
   | dict c2=>simp [ap] at hnb
  | int c1 =>
   cases b with
   | none =>
    cases (show x=V.int c1 from o1)
    obtain ⟨tk1,rfl⟩:=r1
    cases (show y=V.non from o2)
    cases r2
    exact ⟨EqAt.int_none _ _,RcAt.int_none _ _,RcNeAt.int_none _ _⟩
   | bool c2 =>
    cases (show x=V.int c1 from o1)
    obtain ⟨tk1,rfl⟩:=r1
    cases (show y=V.bl c2 from o2)
    cases r2
    exact ⟨EqAt.int_bool _ _ _,RcAt.int_bool _ _ _,RcNeAt.int_bool _ _ _⟩
   | int c2 =>
    cases (show x=V.int c1 from o1)
    obtain ⟨tk1,rfl⟩:=r1
    cases (show y=V.int c2 from o2)
    obtain ⟨tk2,rfl⟩:=r2
    exact ⟨EqAt.int_int _ _ _ _,RcAt.int_int _ _ _ _,RcNeAt.int_int _ _ _ _⟩
   | str c2 =>
    cases (show x=V.int c1 from o1)
    obtain ⟨tk1,rfl⟩:=r1
    cases (show y=V.str c2 from o2)
    obtain ⟨tk2,rfl⟩:=r2
    exact ⟨EqAt.int_str _ _ _ _,RcAt.int_str _ _ _ _,RcNeAt.int_str _ _ _ _⟩
   | list c2 =>
    cases (show x=V.int c1 from o1)
    obtain ⟨tk1,rfl⟩:=r1
    obtain ⟨p2,vs2,rfl,fz2,w2⟩:=o2.lst0
    cases r2
    obtain ⟨its2,rv2,pl2,_⟩:=I.list fz2.sq
    have hl2:=pl2.isList
    exact ⟨EqAt.int_list _ _ hl2 hu,RcAt.int_list _ _ hl2 hu,RcNeAt.int_list _ _ hl2 hu⟩
   | tuple c2 =>
    cases (show x=V.int c1 from o1)
    obtain ⟨tk1,rfl⟩:=r1
    obtain ⟨p2,vs2,rfl,fz2,w2⟩:=o2.tup0
    cases r2
    obtain ⟨its2,rv2,pl2,_⟩:=I.tuple fz2.sq
    have hl2:s.heap.IsTuple p2 its2.toArray:=pl2
    exact ⟨EqAt.int_tuple _ _ hl2 hu,RcAt.int_tuple _ _ hl2 hu,RcNeAt.int_tuple _ _ hl2 hu⟩
   | dict c2=>simp [ap] at hnb
  | str c1 =>
   cases b with
   | none =>
    cases (show x=V.str c1 from o1)
    obtain ⟨tk1,rfl⟩:=r1
    cases (show y=V.non from o2)
    cases r2
    exact ⟨EqAt.str_none _ _,RcAt.str_none _ _,RcNeAt.str_none _ _⟩
   | bool c2 =>
    cases (show x=V.str c1 from o1)
    obtain ⟨tk1,rfl⟩:=r1
    cases (show y=V.bl c2 from o2)
    cases r2
    exact ⟨EqAt.str_bool _ _ _,RcAt.str_bool _ _ _,RcNeAt.str_bool _ _ _⟩
   | int c2 =>
    cases (show x=V.str c1 from o1)
    obtain ⟨tk1,rfl⟩:=r1
    cases (show y=V.int c2 from o2)
    obtain ⟨tk2,rfl⟩:=r2
    exact ⟨EqAt.str_int _ _ _ _,RcAt.str_int _ _ _ _,RcNeAt.str_int _ _ _ _⟩
   | str c2 =>
    cases (show x=V.str c1 from o1)
    obtain ⟨tk1,rfl⟩:=r1
    cases (show y=V.str c2 from o2)
    obtain ⟨tk2,rfl⟩:=r2
    exact ⟨EqAt.str_str _ _ _ _,RcAt.str_str _ _ _ _,RcNeAt.str_str _ _ _ _⟩
   | list c2 =>
    cases (show x=V.str c1 from o1)
    obtain ⟨tk1,rfl⟩:=r1
    obtain ⟨p2,vs2,rfl,fz2,w2⟩:=o2.lst0
    cases r2
    obtain ⟨its2,rv2,pl2,_⟩:=I.list fz2.sq
    have hl2:=pl2.isList
    exact ⟨EqAt.str_list _ _ hl2 hu,RcAt.str_list _ _ hl2 hu,RcNeAt.str_list _ _ hl2 hu⟩
   | tuple c2 =>
    cases (show x=V.str c1 from o1)
    obtain ⟨tk1,rfl⟩:=r1
    obtain ⟨p2,vs2,rfl,fz2,w2⟩:=o2.tup0
    cases r2
    obtain ⟨its2,rv2,pl2,_⟩:=I.tuple fz2.sq
    have hl2:s.heap.IsTuple p2 its2.toArray:=pl2
    exact ⟨EqAt.str_tuple _ _ hl2 hu,RcAt.str_tuple _ _ hl2 hu,RcNeAt.str_tuple _ _ hl2 hu⟩
   | dict c2=>simp [ap] at hnb
  | list c1 =>
   simp only [ca] at hdp
   omega
  | tuple c1 =>
   simp only [ca] at hdp
   omega
  | dict c1=>simp [ap] at hna
 | succ n ih =>
  intro a b A x y v u hdp hna hnb o1 o2 r1 r2 hun
  have hu:A.units < cLine:=by omega
  have hu1:A.in1.units+n+1 < cLine:=by
   show A.units+1+n+1 < cLine
   omega
  cases a with
  | none =>
   cases b with
   | none =>
    cases (show x=V.non from o1)
    cases r1
    cases (show y=V.non from o2)
    cases r2
    exact ⟨EqAt.same _,RcAt.none_none,RcNeAt.none_none⟩
   | bool c2 =>
    cases (show x=V.non from o1)
    cases r1
    cases (show y=V.bl c2 from o2)
    cases r2
    exact ⟨EqAt.none_bool _,RcAt.none_bool _,RcNeAt.none_bool _⟩
   | int c2 =>
    cases (show x=V.non from o1)
    cases r1
    cases (show y=V.int c2 from o2)
    obtain ⟨tk2,rfl⟩:=r2
    exact ⟨EqAt.none_int _ _,RcAt.none_int _ _,RcNeAt.none_int _ _⟩
   | str c2 =>
    cases (show x=V.non from o1)
    cases r1
    cases (show y=V.str c2 from o2)
    obtain ⟨tk2,rfl⟩:=r2
    exact ⟨EqAt.none_str _ _,RcAt.none_str _ _,RcNeAt.none_str _ _⟩
   | list c2 =>
    cases (show x=V.non from o1)
    cases r1
    obtain ⟨p2,vs2,rfl,fz2,w2⟩:=o2.lst0
    cases r2
    obtain ⟨its2,rv2,pl2,_⟩:=I.list fz2.sq
    have hl2:=pl2.isList
    exact ⟨EqAt.none_list  hl2 hu,RcAt.none_list  hl2 hu,RcNeAt.none_list  hl2 hu⟩
   | tuple c2 =>
    cases (show x=V.non from o1)
    cases r1
    obtain ⟨p2,vs2,rfl,fz2,w2⟩:=o2.tup0
    cases r2
    obtain ⟨its2,rv2,pl2,_⟩:=I.tuple fz2.sq
    have hl2:s.heap.IsTuple p2 its2.toArray:=pl2
    exact ⟨EqAt.none_tuple  hl2 hu,RcAt.none_tuple  hl2 hu,RcNeAt.none_tuple  hl2 hu⟩
   | dict c2=>simp [ap] at hnb
  | bool c1 =>
   cases b with
   | none =>
    cases (show x=V.bl c1 from o1)
    cases r1
    cases (show y=V.non from o2)
    cases r2
    exact ⟨EqAt.bool_none _,RcAt.bool_none _,RcNeAt.bool_none _⟩
   | bool c2 =>
    cases (show x=V.bl c1 from o1)
    cases r1
    cases (show y=V.bl c2 from o2)
    cases r2
    exact ⟨EqAt.bool_bool _ _,RcAt.bool_bool _ _,RcNeAt.bool_bool _ _⟩
   | int c2 =>
    cases (show x=V.bl c1 from o1)
    cases r1
    cases (show y=V.int c2 from o2)
    obtain ⟨tk2,rfl⟩:=r2
    exact ⟨EqAt.bool_int _ _ _,RcAt.bool_int _ _ _,RcNeAt.bool_int _ _ _⟩
   | str c2 =>
    cases (show x=V.bl c1 from o1)
    cases r1
    cases (show y=V.str c2 from o2)
    obtain ⟨tk2,rfl⟩:=r2
    exact ⟨EqAt.bool_str _ _ _,RcAt.bool_str _ _ _,RcNeAt.bool_str _ _ _⟩
   | list c2 =>
    cases (show x=V.bl c1 from o1)
    cases r1
    obtain ⟨p2,vs2,rfl,fz2,w2⟩:=o2.lst0
    cases r2
    obtain ⟨its2,rv2,pl2,_⟩:=I.list fz2.sq
    have hl2:=pl2.isList
    exact ⟨EqAt.bool_list _ hl2 hu,RcAt.bool_list _ hl2 hu,RcNeAt.bool_list _ hl2 hu⟩
   | tuple c2 =>
    cases (show x=V.bl c1 from o1)
    cases r1
    obtain ⟨p2,vs2,rfl,fz2,w2⟩:=o2.tup0
    cases r2
    obtain ⟨its2,rv2,pl2,_⟩:=I.tuple fz2.sq
    have hl2:s.heap.IsTuple p2 its2.toArray:=pl2
    exact ⟨EqAt.bool_tuple _ hl2 hu,RcAt.bool_tuple _ hl2 hu,RcNeAt.bool_tuple _ hl2 hu⟩
   | dict c2=>simp [ap] at hnb
  | int c1 =>
   cases b with
   | none =>
    cases (show x=V.int c1 from o1)
    obtain ⟨tk1,rfl⟩:=r1
    cases (show y=V.non from o2)
    cases r2
    exact ⟨EqAt.int_none _ _,RcAt.int_none _ _,RcNeAt.int_none _ _⟩
   | bool c2 =>
    cases (show x=V.int c1 from o1)
    obtain ⟨tk1,rfl⟩:=r1
    cases (show y=V.bl c2 from o2)
    cases r2
    exact ⟨EqAt.int_bool _ _ _,RcAt.int_bool _ _ _,RcNeAt.int_bool _ _ _⟩
   | int c2 =>
    cases (show x=V.int c1 from o1)
    obtain ⟨tk1,rfl⟩:=r1
    cases (show y=V.int c2 from o2)
    obtain ⟨tk2,rfl⟩:=r2
    exact ⟨EqAt.int_int _ _ _ _,RcAt.int_int _ _ _ _,RcNeAt.int_int _ _ _ _⟩
   | str c2 =>
    cases (show x=V.int c1 from o1)
    obtain ⟨tk1,rfl⟩:=r1
    cases (show y=V.str c2 from o2)
    obtain ⟨tk2,rfl⟩:=r2
    exact ⟨EqAt.int_str _ _ _ _,RcAt.int_str _ _ _ _,RcNeAt.int_str _ _ _ _⟩
   | list c2 =>
    cases (show x=V.int c1 from o1)
    obtain ⟨tk1,rfl⟩:=r1
    obtain ⟨p2,vs2,rfl,fz2,w2⟩:=o2.lst0
    cases r2
    obtain ⟨its2,rv2,pl2,_⟩:=I.list fz2.sq
    have hl2:=pl2.isList
    exact ⟨EqAt.int_list _ _ hl2 hu,RcAt.int_list _ _ hl2 hu,RcNeAt.int_list _ _ hl2 hu⟩
   | tuple c2 =>
    cases (show x=V.int c1 from o1)
    obtain ⟨tk1,rfl⟩:=r1
    obtain ⟨p2,vs2,rfl,fz2,w2⟩:=o2.tup0
    cases r2
    obtain ⟨its2,rv2,pl2,_⟩:=I.tuple fz2.sq
    have hl2:s.heap.IsTuple p2 its2.toArray:=pl2
    exact ⟨EqAt.int_tuple _ _ hl2 hu,RcAt.int_tuple _ _ hl2 hu,RcNeAt.int_tuple _ _ hl2 hu⟩
   | dict c2=>simp [ap] at hnb
  | str c1 =>
   cases b with
   | none =>
    cases (show x=V.str c1 from o1)
    obtain ⟨tk1,rfl⟩:=r1
    cases (show y=V.non from o2)
    cases r2
    exact ⟨EqAt.str_none _ _,RcAt.str_none _ _,RcNeAt.str_none _ _⟩
   | bool c2 =>
    cases (show x=V.str c1 from o1)
    obtain ⟨tk1,rfl⟩:=r1
    cases (show y=V.bl c2 from o2)
    cases r2
    exact ⟨EqAt.str_bool _ _ _,RcAt.str_bool _ _ _,RcNeAt.str_bool _ _ _⟩
   | int c2 =>
    cases (show x=V.str c1 from o1)
    obtain ⟨tk1,rfl⟩:=r1
    cases (show y=V.int c2 from o2)
    obtain ⟨tk2,rfl⟩:=r2
    exact ⟨EqAt.str_int _ _ _ _,RcAt.str_int _ _ _ _,RcNeAt.str_int _ _ _ _⟩
   | str c2 =>
    cases (show x=V.str c1 from o1)
    obtain ⟨tk1,rfl⟩:=r1
    cases (show y=V.str c2 from o2)
    obtain ⟨tk2,rfl⟩:=r2
    exact ⟨EqAt.str_str _ _ _ _,RcAt.str_str _ _ _ _,RcNeAt.str_str _ _ _ _⟩
   | list c2 =>
    cases (show x=V.str c1 from o1)
    obtain ⟨tk1,rfl⟩:=r1
    obtain ⟨p2,vs2,rfl,fz2,w2⟩:=o2.lst0
    cases r2
    obtain ⟨its2,rv2,pl2,_⟩:=I.list fz2.sq
    have hl2:=pl2.isList
    exact ⟨EqAt.str_list _ _ hl2 hu,RcAt.str_list _ _ hl2 hu,RcNeAt.str_list _ _ hl2 hu⟩
   | tuple c2 =>
    cases (show x=V.str c1 from o1)
    obtain ⟨tk1,rfl⟩:=r1
    obtain ⟨p2,vs2,rfl,fz2,w2⟩:=o2.tup0
    cases r2
    obtain ⟨its2,rv2,pl2,_⟩:=I.tuple fz2.sq
    have hl2:s.heap.IsTuple p2 its2.toArray:=pl2
    exact ⟨EqAt.str_tuple _ _ hl2 hu,RcAt.str_tuple _ _ hl2 hu,RcNeAt.str_tuple _ _ hl2 hu⟩
   | dict c2=>simp [ap] at hnb
  | list c1 =>
   cases b with
   | none =>
    obtain ⟨p1,vs1,rfl,fz1,w1⟩:=o1.lst0
    cases r1
    obtain ⟨its1,rv1,pl1,_⟩:=I.list fz1.sq
    have hl1:=pl1.isList
    cases (show y=V.non from o2)
    cases r2
    exact ⟨EqAt.list_none  hl1 hu,RcAt.list_none  hl1 hu,RcNeAt.list_none  hl1 hu⟩
   | bool c2 =>
    obtain ⟨p1,vs1,rfl,fz1,w1⟩:=o1.lst0
    cases r1
    obtain ⟨its1,rv1,pl1,_⟩:=I.list fz1.sq
    have hl1:=pl1.isList
    cases (show y=V.bl c2 from o2)
    cases r2
    exact ⟨EqAt.list_bool _ hl1 hu,RcAt.list_bool _ hl1 hu,RcNeAt.list_bool _ hl1 hu⟩
   | int c2 =>
    obtain ⟨p1,vs1,rfl,fz1,w1⟩:=o1.lst0
    cases r1
    obtain ⟨its1,rv1,pl1,_⟩:=I.list fz1.sq
    have hl1:=pl1.isList
    cases (show y=V.int c2 from o2)
    obtain ⟨tk2,rfl⟩:=r2
    exact ⟨EqAt.list_int _ _ hl1 hu,RcAt.list_int _ _ hl1 hu,RcNeAt.list_int _ _ hl1 hu⟩
   | str c2 =>
    obtain ⟨p1,vs1,rfl,fz1,w1⟩:=o1.lst0
    cases r1
    obtain ⟨its1,rv1,pl1,_⟩:=I.list fz1.sq
    have hl1:=pl1.isList
    cases (show y=V.str c2 from o2)
    obtain ⟨tk2,rfl⟩:=r2
    exact ⟨EqAt.list_str _ _ hl1 hu,RcAt.list_str _ _ hl1 hu,RcNeAt.list_str _ _ hl1 hu⟩
   | list c2 =>
    obtain ⟨p1,vs1,rfl,fz1,w1⟩:=o1.lst0
    cases r1
    obtain ⟨its1,rv1,pl1,_⟩:=I.list fz1.sq
    have hl1:=pl1.isList
    obtain ⟨p2,vs2,rfl,fz2,w2⟩:=o2.lst0
    cases r2
    obtain ⟨its2,rv2,pl2,_⟩:=I.list fz2.sq
    have hl2:=pl2.isList
    have dl:bO c1≤n:=by simp only [ca] at hdp; omega
    have nd1:aC c1=true:=by simpa [ap] using hna
    have nd2:aC c2=true:=by simpa [ap] using hnb
    have el:=nZ (A:=A.in1) w1 w2 rv1 rv2 fun j a b x y v u e1 e2 q1 q2 q3 q4=>(ih a b A.in1 x y v u (Nat.le_trans (jx e1) dl) (de nd1 e1) (de nd2 e2) q1 q2 q3 q4 hu1).1
    have l1:=rv1.length
    have l2:=rv2.length
    have m1:=w1.len
    have m2:=w2.len
    have rc:RcAt A s (.ref p1) (.ref p2) (cD c1 c2)∧RcNeAt A s (.ref p1) (.ref p2) (!cD c1 c2):=by
     by_cases hz:c1.length=c2.length
     ·have hs1:its1.toArray.size=its2.toArray.size:=by rw [List.size_toArray,List.size_toArray]; omega
      have hs2:its1.toArray.size=c1.length:=by rw [List.size_toArray]; omega
      have z1:=RcAt.lists hl1 hl2 hs1 hu el
      have z2:=RcNeAt.lists hl1 hl2 hs1 hu el
      rw [hs2,kq hz] at z1 z2
      exact ⟨z1,z2⟩
     ·have hs1:(its1.toArray.size != its2.toArray.size)=true:=by rw [List.size_toArray,List.size_toArray,bne_iff_ne]; omega
      rw [ko hz]
      exact ⟨RcAt.lists_lengths hl1 hl2 hs1 hu,RcNeAt.lists_lengths hl1 hl2 hs1 hu⟩
    have pe:peq (.list c1) (.list c2)=cD c1 c2:=by simp only [peq]
    refine ⟨?_,by rw [pe]; exact rc.1,by rw [pe]; exact rc.2⟩
    by_cases hp:p1=p2
    ·subst hp
     have:=Ow.inj I _ _ o1 o2 hna
     cases this
     rw [kr _ hna]
     exact EqAt.same _
    ·rw [pe]
     exact EqAt.of_refs hp rc.1
   | tuple c2 =>
    obtain ⟨p1,vs1,rfl,fz1,w1⟩:=o1.lst0
    cases r1
    obtain ⟨its1,rv1,pl1,_⟩:=I.list fz1.sq
    have hl1:=pl1.isList
    obtain ⟨p2,vs2,rfl,fz2,w2⟩:=o2.tup0
    cases r2
    obtain ⟨its2,rv2,pl2,_⟩:=I.tuple fz2.sq
    have hl2:s.heap.IsTuple p2 its2.toArray:=pl2
    exact ⟨EqAt.list_tuple hl1 hl2 hu,RcAt.list_tuple hl1 hl2 hu,RcNeAt.list_tuple hl1 hl2 hu⟩
   | dict c2=>simp [ap] at hnb
  | tuple c1 =>
   cases b with
   | none =>
    obtain ⟨p1,vs1,rfl,fz1,w1⟩:=o1.tup0
    cases r1
    obtain ⟨its1,rv1,pl1,_⟩:=I.tuple fz1.sq
    have hl1:s.heap.IsTuple p1 its1.toArray:=pl1
    cases (show y=V.non from o2)
    cases r2
    exact ⟨EqAt.tuple_none  hl1 hu,RcAt.tuple_none  hl1 hu,RcNeAt.tuple_none  hl1 hu⟩
   | bool c2 =>
    obtain ⟨p1,vs1,rfl,fz1,w1⟩:=o1.tup0
    cases r1
    obtain ⟨its1,rv1,pl1,_⟩:=I.tuple fz1.sq
    have hl1:s.heap.IsTuple p1 its1.toArray:=pl1
    cases (show y=V.bl c2 from o2)
    cases r2
    exact ⟨EqAt.tuple_bool _ hl1 hu,RcAt.tuple_bool _ hl1 hu,RcNeAt.tuple_bool _ hl1 hu⟩
   | int c2 =>
    obtain ⟨p1,vs1,rfl,fz1,w1⟩:=o1.tup0
    cases r1
    obtain ⟨its1,rv1,pl1,_⟩:=I.tuple fz1.sq
    have hl1:s.heap.IsTuple p1 its1.toArray:=pl1
    cases (show y=V.int c2 from o2)
    obtain ⟨tk2,rfl⟩:=r2
    exact ⟨EqAt.tuple_int _ _ hl1 hu,RcAt.tuple_int _ _ hl1 hu,RcNeAt.tuple_int _ _ hl1 hu⟩
   | str c2 =>
    obtain ⟨p1,vs1,rfl,fz1,w1⟩:=o1.tup0
    cases r1
    obtain ⟨its1,rv1,pl1,_⟩:=I.tuple fz1.sq
    have hl1:s.heap.IsTuple p1 its1.toArray:=pl1
    cases (show y=V.str c2 from o2)
    obtain ⟨tk2,rfl⟩:=r2
    exact ⟨EqAt.tuple_str _ _ hl1 hu,RcAt.tuple_str _ _ hl1 hu,RcNeAt.tuple_str _ _ hl1 hu⟩
   | list c2 =>
    obtain ⟨p1,vs1,rfl,fz1,w1⟩:=o1.tup0
    cases r1
    obtain ⟨its1,rv1,pl1,_⟩:=I.tuple fz1.sq
    have hl1:s.heap.IsTuple p1 its1.toArray:=pl1
    obtain ⟨p2,vs2,rfl,fz2,w2⟩:=o2.lst0
    cases r2
    obtain ⟨its2,rv2,pl2,_⟩:=I.list fz2.sq
    have hl2:=pl2.isList
    exact ⟨EqAt.tuple_list hl1 hl2 hu,RcAt.tuple_list hl1 hl2 hu,RcNeAt.tuple_list hl1 hl2 hu⟩
   | tuple c2 =>
    obtain ⟨p1,vs1,rfl,fz1,w1⟩:=o1.tup0
    cases r1
    obtain ⟨its1,rv1,pl1,_⟩:=I.tuple fz1.sq
    have hl1:s.heap.IsTuple p1 its1.toArray:=pl1
    obtain ⟨p2,vs2,rfl,fz2,w2⟩:=o2.tup0
    cases r2
    obtain ⟨its2,rv2,pl2,_⟩:=I.tuple fz2.sq
    have hl2:s.heap.IsTuple p2 its2.toArray:=pl2
    have dl:bO c1≤n:=by simp only [ca] at hdp; omega
    have nd1:aC c1=true:=by simpa [ap] using hna
    have nd2:aC c2=true:=by simpa [ap] using hnb
    have el:=nZ (A:=A.in1) w1 w2 rv1 rv2 fun j a b x y v u e1 e2 q1 q2 q3 q4=>(ih a b A.in1 x y v u (Nat.le_trans (jx e1) dl) (de nd1 e1) (de nd2 e2) q1 q2 q3 q4 hu1).1
    have l1:=rv1.length
    have l2:=rv2.length
    have m1:=w1.len
    have m2:=w2.len
    have rc:RcAt A s (.ref p1) (.ref p2) (cD c1 c2)∧RcNeAt A s (.ref p1) (.ref p2) (!cD c1 c2):=by
     have z1:=RcAt.tuples hl1 hl2 hu el
     have z2:=RcNeAt.tuples hl1 hl2 hu el
     have ez:((List.range (min its1.toArray.size its2.toArray.size)).all (eAt c1 c2) && its1.toArray.size == its2.toArray.size)=cD c1 c2:=by
      rw [List.size_toArray,List.size_toArray]
      by_cases hz:c1.length=c2.length
      ·have h3:its1.length=its2.length:=by omega
       have h4:min its1.length its2.length=c1.length:=by omega
       rw [h4,kq hz,h3,beq_self_eq_true,Bool.and_true]
      ·have h3:(its1.length == its2.length)=false:=by rw [beq_eq_false_iff_ne]; omega
       rw [h3,Bool.and_false,ko hz]
     rw [ez] at z1 z2
     exact ⟨z1,z2⟩
    have pe:peq (.tuple c1) (.tuple c2)=cD c1 c2:=by simp only [peq]
    refine ⟨?_,by rw [pe]; exact rc.1,by rw [pe]; exact rc.2⟩
    by_cases hp:p1=p2
    ·subst hp
     have:=Ow.inj I _ _ o1 o2 hna
     cases this
     rw [kr _ hna]
     exact EqAt.same _
    ·rw [pe]
     exact EqAt.of_refs hp rc.1
   | dict c2=>simp [ap] at hnb
  | dict c1=>simp [ap] at hna
end
def eqD (a b:D):Option D:=grd (ap a=true∧ap b=true∧ca a≤60) (.bool (peq a b))
def neD (a b:D):Option D:=grd (ap a=true∧ap b=true∧ca a≤60) (.bool (!peq a b))
section
variable {X:Cx} {K:PySem.W.Frag}
theorem dt (hK:X.K=K) (hu:X.A.units+64 < cLine):OpR X (compareOp .Eq) (rF2 K eqD 3):=by
 subst hK
 intro pins s σ H x y v u Q I rx ry ⟨O,a,b,t,oa,ob,hd,hg,k⟩
 obtain ⟨⟨c1,c2,c3⟩,rfl⟩:=bv hg
 exact (qO I 60 a b X.A x y v u c3 c1 c2 oa ob rx ry (by omega)).2.1 X.prog X.w _ _ ⟨.bl _,H,I,rfl,k _ H NoA .refl rfl⟩
theorem lb (hK:X.K=K) (hu:X.A.units+64 < cLine):OpR X (compareOp .NotEq) (rF2 K neD 3):=by
 subst hK
 intro pins s σ H x y v u Q I rx ry ⟨O,a,b,t,oa,ob,hd,hg,k⟩
 obtain ⟨⟨c1,c2,c3⟩,rfl⟩:=bv hg
 exact (qO I 60 a b X.A x y v u c3 c1 c2 oa ob rx ry (by omega)).2.2 X.prog X.w _ _ ⟨.bl _,H,I,rfl,k _ H NoA .refl rfl⟩
end
end L2
namespace L2
open PySem PySem.Spec PyProof.Rows
theorem AN {K:PySem.W.Frag} {dps:List Nat} {dr n:Nat} {F:List D→Option (D × En)} {vs:List V} {H:Hp} {Q:VK} {E:XK} (hn:dps.length=n) (h:spF K dps dr F vs H Q E):vs.length=n:=by
 obtain ⟨Ox,ts,R,r,outs,e,_⟩:=h
 have:=e.l2
 rw [List.length_map] at this
 omega
section
variable {X:Cx} {K:PySem.W.Frag} {p:Bool} {J:Jd} {ds ds0 ds1 ds2 ds3 ds':List Nat} {d d' d1 d2 d3:Nat} {a b c e:Expr} {st:Stmt} {f f1 f2 f3:ME} {m:MS} {pos p2:Pos}
theorem BJ (h:PS X st (tFS K J ds ds2 m)) (hd:leD ds1 ds2=true):PS X st (tFS K J ds ds1 m):=h.imp fun _ _ _=>sB hd
def di (g g':D→D→Option D) (f1 f2 f3:ME):ME:=fun en=>(f1 en).bind fun r=>(f2 r.2).bind fun q=>(g r.1 q.1).bind fun t=>match t with
 | .bool true=>(f3 q.2).bind fun z=>(g' q.1 z.1).map fun t=>(t,z.2)
 | .bool false=>some (.bool false,q.2)
 | _=>none
theorem pL {g g':D→D→Option D} {σ:St} {H:Hp} {Q:VK} (h:tF K p ds ds1 3 (di g g' f1 f2 f3) σ H Q) :
  nu (rF2 K g 3) (rF2 K g' 3) (tF K p ds ds0 d1 f1) (tF K p ds0 ds1 d2 f2) (tF K p ds1 ds1 d3 f3) σ H Q:=by
 obtain ⟨Ox,en,R,t,en',e,hf,k⟩:=h
 unfold di at hf
 obtain ⟨⟨t1,en1⟩,h1,hf⟩:=Option.bind_eq_some_iff.mp hf
 obtain ⟨⟨t2,en2⟩,h2,hf⟩:=Option.bind_eq_some_iff.mp hf
 obtain ⟨tb,h3,hf⟩:=Option.bind_eq_some_iff.mp hf
 refine two (p1:=p) (p2:=p) e h1 h2 fun x y H2 R2 F1 F2 P o1 o2=>?_
 rw [Bool.and_self] at P
 have oy:=Ow.letgo P (fun _=>.inr) o2
 refine ⟨Own R2 Ox,t1,t2,tb,Ow.letgo P (fun _=>.inl) o1,oy,P.doms,h3,fun v3 H3 F3 n3 o3=>?_⟩
 have P3:=P.fin n3
 cases tb with
 | bool bb =>
  refine ⟨bb,o3,?_⟩
  cases bb with
  | false =>
   cases hf
   exact k _ H3 R2 NoA (P3.less fun _ z=>z.elim) rfl
  | true =>
   obtain ⟨⟨t4,en4⟩,h4,hf⟩:=Option.bind_eq_some_iff.mp hf
   obtain ⟨t5,h5,hf⟩:=Option.map_eq_some_iff.mp hf
   cases hf
   have P30:=P3.less (F':=NoA) fun _ z=>z.elim
   refine ⟨Ox,en2,R2,t4,en4,P30.env0,h4,fun v4 H4 R4 F4 P4 o4=>?_⟩
   have P34:=P30.after P4
   rw [Bool.and_self] at P34
   have oy3:Ow K (Own R2 Ox) H3 t2 0 y NoA:=Ow.mv (G:=NoA) ⟨fun a o q _=>n3.1 a o q,fun a z=>.inl z⟩ t2 (fun _ z=>z) oy
   have oy4:Ow K (Own R4 Ox) H4 t2 0 y NoA:=by
    refine Ow.mv (G:=NoA) ⟨fun a o q z=>P4.keep a o q fun i zi=>?_,fun a z=>?_⟩ t2 (fun _ z=>z) oy3
    ·rcases z with z | z
     ·exact z (.inl ⟨i,zi⟩)
     ·exact z
    ·rcases z with z | z
     ·exact (P4.own a (.inr z)).imp .inl id
     ·exact .inl (.inr z)
   exact ⟨Own R4 Ox,t2,t4,_,oy4,Ow.letgo P4 (fun _ z=>z) o4,P4.doms,h5,fun v5 H5 F5 n5 o5=>k v5 H5 R4 F5 (P34.fin n5) (jY ▸ o5)⟩
 | _=>cases hf
theorem uR {op op':CmpOp} {g g':D→D→Option D} (ho:OpR X (compareOp op) (rF2 K g 3)) (ho':OpR X (compareOp op') (rF2 K g' 3)) (ha:PE X a (tF K p ds ds0 d1 f1)) (hb:PE X b (tF K p ds0 ds1 d2 f2)) (hc:PE X c (tF K p ds1 ds1 d3 f3))
  (hm:lastMarks [op,op'] [b,c]=false):PE X (.Compare a [op,op'] [b,c] pos) (tF K p ds ds1 3 (di g g' f1 f2 f3)):=(tY ho ho' ha hb hc hm).imp fun _ _ _=>pL
theorem ux {op op':CmpOp} {g g':D→D→Option D} (ho:OpR X (compareOp op) (rF2 K g 3)) (ho':OpR X (compareOp op') (rF2 K g' 3)) (ha:PE X a (tF K p ds ds0 d1 f1)) (hb:PE X b (tF K p ds0 ds1 d2 f2)) (hc:PE X c (tF K p ds1 ds1 d3 f3))
  (hm:lastMarks [op,op'] [b,c]=false):PT X (.Compare a [op,op'] [b,c] pos) (tFT K p ds ds1 (tV (di g g' f1 f2 f3))) :=
 (tP ho ho' ha hb hc hm).imp fun σ H Q h=>by
  obtain ⟨Ox,en,R,t,en',e,hf,k⟩:=oi (d:=3) h
  exact pL ⟨Ox,en,R,t,en',e,hf,k⟩
abbrev MO:=En→Option (Option Int × En)
def tFO (K:PySem.W.Frag) (p:Bool) (ds ds':List Nat) (f:MO):TO:=fun σ H Q=>∃ Ox en R o en',EnvOk K ds Ox H σ en R∧f en=some (o,en')∧∀ H' R',Post K p ds' Ox σ H en R en' H' R' NoA→Q o H'
def iz:MO:=fun en=>some (none,en)
def gA (f:ME):MO:=fun en=>(f en).bind fun r=>match r.1 with
 | .int i=>some (some i,r.2)
 | _=>none
theorem PO.imp {X:Cx} {e:Option Expr} {t t':TO} (h:PO X e t) (hi:∀ σ H Q,t' σ H Q→t σ H Q):PO X e t':=fun pins s σ H Q I hw=>h pins s σ H Q I (hi _ _ _ hw)
theorem BS:PO X none (tFO K p ds ds iz):=po_none.imp fun σ H Q ⟨Ox,en,R,o,en',e,hf,k⟩=>by
 cases hf
 exact k H R (Post.refl e)
theorem BQ (h:PE X e (tF K p ds ds1 d f)):PO X (some e) (tFO K p ds ds1 (gA f)):=(A3 h).imp fun σ H Q ⟨Ox,en,R,o,en',e,hf,k⟩=>by
 unfold gA at hf
 obtain ⟨⟨t1,en1⟩,h1,hf⟩:=Option.bind_eq_some_iff.mp hf
 refine ⟨Ox,en,R,t1,en1,e,h1,fun v H' R' F P o=>?_⟩
 cases t1 with
 | int i=>cases hf; exact ⟨i,o,k H' R' (P.less fun _ z=>z.elim)⟩
 | _=>cases hf
def rFs (K:PySem.W.Frag) (g:D→Option Int→Option Int→Option D) (d:Nat):V→Option Int→Option Int→Hp→VK→Prop:=fun x lo hi H Q=>∃ (O:AS) (a t:D),Ow K O H a 0 x NoA∧(∀ a,O a→∃ o,H a=some o)∧g a lo hi=some t∧∀ v H' F,NewTo H H' F→Ow K (U F O) H' t d v F→Q v H'
def eSl (g:D→Option Int→Option Int→Option D) (f:ME) (lo hi:MO):ME:=fun en=>(f en).bind fun r=>(lo r.2).bind fun l=>(hi l.2).bind fun h=>(g r.1 l.1 h.1).map fun t=>(t,h.2)
variable {lo hi:MO}
theorem Ow.past0 {H1 H2:Hp} {R1 R2:Nat→AS} {Ox:AS} {σ:St} {en1 en2:En} {F2:AS} {t:D} {v:V} (P2:Post K p ds2 Ox σ H1 en1 R1 en2 H2 R2 F2) (h:Ow K (Own R1 Ox) H1 t 0 v NoA):Ow K (Own R2 Ox) H2 t 0 v NoA:=by
 refine Ow.mv (G:=NoA) ⟨fun a o q z=>P2.keep a o q fun i zi=>?_,fun a z=>?_⟩ t (fun _ z=>z) h
 ·rcases z with z | z
  ·exact z (.inl ⟨i,zi⟩)
  ·exact z
 ·rcases z with z | z
  ·exact (P2.own a (.inr z)).imp .inl id
  ·exact .inl (.inr z)
theorem HF {g:D→Option Int→Option Int→Option D} {σ:St} {H:Hp} {Q:VK} (h:tF K p ds ds3 d (eSl g f lo hi) σ H Q):tSl (rFs K g d) (tF K p ds ds1 d1 f) (tFO K p ds1 ds2 lo) (tFO K p ds2 ds3 hi) σ H Q:=by
 obtain ⟨Ox,en,R,t,en',e,hf,k⟩:=h
 unfold eSl at hf
 obtain ⟨⟨t1,en1⟩,h1,hf⟩:=Option.bind_eq_some_iff.mp hf
 obtain ⟨⟨l,en2⟩,h2,hf⟩:=Option.bind_eq_some_iff.mp hf
 obtain ⟨⟨u,en3⟩,h3,hf⟩:=Option.bind_eq_some_iff.mp hf
 obtain ⟨t',h4,hf⟩:=Option.map_eq_some_iff.mp hf
 cases hf
 refine ⟨Ox,en,R,t1,en1,e,h1,fun v H1 R1 F1 P1 o1=>?_⟩
 have o0:=Ow.letgo P1 (fun _ z=>z) o1
 refine ⟨Ox,en1,R1,l,en2,P1.env0,h2,fun H2 R2 P2=>?_⟩
 refine ⟨Ox,en2,R2,u,en3,P2.env0,h3,fun H3 R3 P3=>?_⟩
 have P:=(P1.after P2).after P3
 rw [Bool.and_self,Bool.and_self] at P
 exact ⟨Own R3 Ox,t1,t,(o0.past0 P2).past0 P3,P3.doms,h4,fun v4 H4 F4 n4 o4=>k v4 H4 R3 F4 (P.fin n4) (jY ▸ o4)⟩
theorem SlR.imp {r r':V→Option Int→Option Int→Hp→VK→Prop} (h:SlR X r) (hi:∀ x lo hi H Q,r' x lo hi H Q→r x lo hi H Q):SlR X r':=fun pins s σ H x v vl vu lo hi' sl Q I rx hs pl pu q=>h pins s σ H x v vl vu lo hi' sl Q I rx hs pl pu (hi _ _ _ _ _ q)
theorem uK {g:D→Option Int→Option Int→Option D} {elo ehi:Option Expr} (hr:SlR X (rFs K g d)) (he:PE X e (tF K p ds ds1 d1 f)) (hl:PO X elo (tFO K p ds1 ds2 lo)) (hu:PO X ehi (tFO K p ds2 ds3 hi)):PE X (.Subscript e (.Slice elo ehi none p2) pos) (tF K p ds ds3 d (eSl g f lo hi)) :=
 (tX hr he hl hu).imp fun _ _ _=>HF
def b6 {α:Type} (xs:List α) (lo hi:Option Int):List α:=(xs.drop (HT.sIx xs.length 0 lo)).take (HT.sIx xs.length xs.length hi - HT.sIx xs.length 0 lo)
def lr:D→Option Int→Option Int→Option D
 | .list ts,lo,hi=>some (.list (b6 ts lo hi))
 | _,_,_=>none
theorem l8 (hK:X.K=K):SlR X (rFs K lr 1):=(HA hK).imp fun x lo hi H Q ⟨O,a,t,oa,hd,hg,k⟩=>by
 cases a with
 | list ts =>
  cases hg
  obtain ⟨a,vs,e1,f1,w1⟩:=oa.lst0
  refine ⟨a,vs,e1,f1.sq,fun p hp=>?_⟩
  have w2:Ows K O H (b6 ts lo hi) 0 (gX vs lo hi) NoA:=by
   unfold b6 gX
   rw [w1.len]
   exact (w1.drop _).take _
  exact k _ _ _ (cM hp hd w2).1 (cM hp hd w2).2
 | _=>cases hg
def Ix:D→Option Int→Option Int→Option D
 | .str z,lo,hi=>grd (z.length≤sizeLine) (.str ⟨(HJ z.cps.toList lo hi).toArray⟩)
 | _,_,_=>none
end
end L2
namespace L2
open PySem PySem.Spec PyProof.Rows
def kEq:D→D→Bool
 | .int a,.int b=>a == b
 | .str a,.str b=>a == b
 | _,_=>false
theorem k5 (a b:Key):kEq (kD a) (kD b)=decide (a=b):=by
 cases a with
 | inl i=>cases b with
  | inl j=>rw [sd]; rfl
  | inr j=>rw [r9]; rfl
 | inr i=>cases b with
  | inl j=>rw [r8]; rfl
  | inr j =>
   rw [r6]
   show (i == j)=_
   by_cases h:i=j
   ·subst h; simp
   ·rw [decide_eq_false h,beq_eq_false_iff_ne]; exact h
def kOf:D→Option Key
 | .int i=>some (.inl i)
 | .str x=>some (.inr x)
 | _=>none
theorem nV {a:D} {q:Key} (h:kOf a=some q):a=kD q:=by
 cases a <;> cases h <;> rfl
theorem nC {K:PySem.W.Frag} {O:AS} {H:Hp} {a:D} {q:Key} {d:Nat} {v:V} {F:AS} (h:kOf a=some q) (o:Ow K O H a d v F):v=kV q:=by
 cases a with
 | int i=>cases h; exact o
 | str i=>cases h; exact o
 | _=>cases h
def eV (ks:List (D × D)) (q:D):Option D:=(ks.find? fun kv=>kEq kv.1 q).map (·.2)
def l9 (ks:List (D × D)) (q t:D):List (D × D):=if ks.any (fun kv=>kEq kv.1 q) then ks.map (fun kv=>if kEq kv.1 q then (kv.1,t) else kv) else ks++[(q,t)]
section
variable {K:PySem.W.Frag} {O:AS} {H:Hp} {d:Nat}
theorem Owd.look:∀ {ks:List (D × D)} {vs:List (Key × V)} {F:AS} (q:Key),Owd K O H ks d vs F→(∃ t v,eV ks (kD q)=some t∧dz vs q=some v∧Ow K O H t d v F)∨(eV ks (kD q)=none∧dz vs q=none)
 | [],_,_,q,h=>by rw [show _=[] from h]; exact .inr ⟨rfl,rfl⟩
 | (k,t) :: ks,_,F,q,h=>by
  obtain ⟨q',v,r,F1,F2,e,e2,s1,s2,_,h4,h5⟩:=h
  subst e e2
  by_cases hq:q'=q
  ·subst hq
   refine .inl ⟨t,v,?_,iq rfl,Ow.grow (fun _ z=>z) t s1 h4⟩
   unfold eV
   rw [List.find?_cons,k5,decide_eq_true rfl]
   rfl
  ·have e1:eV ((kD q',t) :: ks) (kD q)=eV ks (kD q):=by
    unfold eV
    rw [List.find?_cons,k5,decide_eq_false hq]
   have e2:dz ((q',v) :: r) q=dz r q:=ir hq
   rw [e1,e2]
   rcases Owd.look q h5 with ⟨t',v',a1,a2,a3⟩ | z
   ·exact .inl ⟨t',v',a1,a2,Ow.grow (fun _ z=>z) t' s2 a3⟩
   ·exact .inr z
theorem Owd.any:∀ {ks:List (D × D)} {vs:List (Key × V)} {F:AS} (q:Key),Owd K O H ks d vs F→ks.any (fun kv=>kEq kv.1 (kD q))=vs.any (fun kv=>decide (kv.1=q))
 | [],_,_,q,h=>by rw [show _=[] from h]; rfl
 | (k,t) :: ks,_,F,q,h=>by
  obtain ⟨q',v,r,F1,F2,e,e2,_,_,_,_,h5⟩:=h
  subst e e2
  rw [List.any_cons,List.any_cons,k5,Owd.any q h5]
theorem Owd.len:∀ {ks:List (D × D)} {vs:List (Key × V)} {F:AS},Owd K O H ks d vs F→vs.length=ks.length
 | [],_,_,h=>by rw [show _=[] from h]; rfl
 | (k,t) :: ks,_,F,h=>by
  obtain ⟨q',v,r,F1,F2,e,e2,_,_,_,_,h5⟩:=h
  rw [e,List.length_cons,List.length_cons,h5.len]
theorem Owd.rep0 {t:D} {v:V} {q:Key} (ht:Ow K O H t 0 v NoA):∀ {ks:List (D × D)} {vs:List (Key × V)},Owd K O H ks 0 vs NoA→Owd K O H (ks.map fun kv=>if kEq kv.1 (kD q) then (kv.1,t) else kv) 0 (vs.map fun kv=>if kv.1=q then (kv.1,v) else kv) NoA
 | [],_,h=>by rw [show _=[] from h]; rfl
 | (k,u) :: ks,_,h=>by
  obtain ⟨q',w,r,F1,F2,e,e2,_,_,_,h4,h5⟩:=h
  subst e e2
  rw [List.map_cons,List.map_cons]
  have ih:=Owd.rep0 (q:=q) ht (Owd.any0 ks h5)
  dsimp only
  rw [k5]
  by_cases hq:q'=q
  ·rw [if_pos hq,if_pos (decide_eq_true hq)]
   exact ⟨q',v,_,NoA,NoA,rfl,rfl,fun _ z=>z,fun _ z=>z,fun _ z=>z.elim,ht,ih⟩
  ·rw [if_neg hq,if_neg (by rw [decide_eq_false hq]; exact Bool.false_ne_true)]
   exact ⟨q',w,_,NoA,NoA,rfl,rfl,fun _ z=>z,fun _ z=>z,fun _ z=>z.elim,Ow.any0 u h4,ih⟩
theorem Owd.snoc0 {t:D} {v:V} {q:Key} (ht:Ow K O H t 0 v NoA):∀ {ks:List (D × D)} {vs:List (Key × V)},Owd K O H ks 0 vs NoA→Owd K O H (ks++[(kD q,t)]) 0 (vs++[(q,v)]) NoA
 | [],_,h=>by
  rw [show _=[] from h]
  exact ⟨q,v,[],NoA,NoA,rfl,rfl,fun _ z=>z,fun _ z=>z,fun _ z=>z.elim,ht,rfl⟩
 | (k,u) :: ks,_,h=>by
  obtain ⟨q',w,r,F1,F2,e,e2,_,_,_,h4,h5⟩:=h
  subst e e2
  exact ⟨q',w,_,NoA,NoA,rfl,rfl,fun _ z=>z,fun _ z=>z,fun _ z=>z.elim,Ow.any0 u h4,Owd.snoc0 ht (Owd.any0 ks h5)⟩
theorem Owd.put0 {t:D} {v:V} {q:Key} {ks:List (D × D)} {vs:List (Key × V)} (h:Owd K O H ks 0 vs NoA) (ht:Ow K O H t 0 v NoA):Owd K O H (l9 ks (kD q) t) 0 (cf vs q v) NoA:=by
 unfold l9 cf
 rw [h.any q]
 by_cases hq:(vs.any fun kv=>decide (kv.1=q))=true
 ·rw [if_pos hq,if_pos hq]
  exact Owd.rep0 ht h
 ·rw [if_neg hq,if_neg hq]
  exact Owd.snoc0 ht h
theorem Owd.past {ks:List (D × D)} {vs:List (Key × V)} {F:AS} {l:Addr} {o:HO} {O':AS} (ho:∀ a,O' a→O a) (hl:O l) (hf:∀ b,F b→b≠l) (h:Owd K O H ks d vs F):Owd K O' (upd H l o) ks d vs F:=by
 refine Owd.mv (G:=F) ⟨fun a u q z=>?_,fun a z=>.inl (ho a z)⟩ ks (fun _ z=>z) h
 rw [aK]
 ·exact q
 ·intro za
  subst za
  rcases z with z | z
  ·exact z hl
  ·exact hf a z rfl
theorem Ow.dict1 {ks:List (D × D)} {v:V} {F:AS} (hd:d≠0) (h:Ow K O H (.dict ks) d v F):∃ a vs,v=.ref a∧H a=some (.dK vs)∧F a∧∃ F':AS,(∀ b,F' b→F b∧b≠a)∧Owd K O H ks (dn d) vs F':=by
 obtain ⟨a,vs,e,⟨z,_⟩ | ⟨_,h1,h2,h3⟩⟩:=h
 ·exact absurd z hd
 ·exact ⟨a,vs,e,h1,h2,h3⟩
end
def Iw:D→D→Option D
 | .dict ks,q=>(kOf q).bind fun _=>eV ks q
 | _,_=>none
section
variable {X:Cx} {K:PySem.W.Frag} {p:Bool} {J:Jd} {ds ds0 ds1 ds2 ds':List Nat} {d d' d1 d2:Nat} {a b c e o k:Expr} {f f1 f2 fk fe:ME} {pos px spos:Pos} {i:Nat} {σ:St} {H:Hp} {Q:VK} {Dn:Ends}
def bB (i:Nat) (f:ME):ME:=fun en=>(en[i]?).join.bind fun _=>(f en).bind fun r=>match (r.2[i]?).join with
 | some (.dict ks)=>(kOf r.1).bind fun _=>(eV ks r.1).map fun t=>(t,r.2)
 | _=>none
theorem Ce (hd:ds1[i]?=some 1) (h:tF K p ds ds1 0 (bB i f) σ H Q):Ai (gO i) (tF K p ds ds1 d1 f) σ H Q:=by
 obtain ⟨Ox,en,R,t,en',e,hf,k⟩:=h
 unfold bB at hf
 obtain ⟨t0,h0,hf⟩:=Option.bind_eq_some_iff.mp hf
 obtain ⟨⟨t1,en1⟩,h1,hf⟩:=Option.bind_eq_some_iff.mp hf
 dsimp only at hf
 split at hf
 case h_2=>cases hf
 next ks h2 =>
 obtain ⟨q,hq,hf⟩:=Option.bind_eq_some_iff.mp hf
 obtain ⟨t',h3,hf⟩:=Option.map_eq_some_iff.mp hf
 cases hf
 obtain ⟨v,d0,a1,_,a3⟩:=e.at_ i _ (bi h0)
 refine ⟨v,a1,Ox,en,R,t1,_,e,h1,fun x H1 R1 F P o=>?_⟩
 obtain ⟨v',d',b1,b2,b3⟩:=P.env.at_ i _ (bi h2)
 rw [a1] at b1
 cases b1
 rw [hd] at b2
 cases b2
 obtain ⟨l,vs,el,hl,hr,F',hf',ow⟩:=b3.dict1 (by decide)
 rw [nV hq] at h3
 rcases ow.look q with ⟨t'',w,c1,c2,c3⟩ | ⟨z,_⟩
 ·rw [h3] at c1
  cases c1
  refine ⟨l,w,el,?_,k w H1 R1 NoA (P.less fun _ z=>z.elim) ?_⟩
  ·rw [← c2,nC hq o]
   exact DGet.k hl
  ·exact Ow.any0 _ (Ow.grow (fun a z=>z.imp id fun z=>z.elim (fun z=>False.elim z) Or.inr) _ (fun _ z=>z) c3)
 ·rw [h3] at z; cases z
theorem uQ {x:Str} (hu:X.A.units+1 < cLine) (hN:X.N[i]?=some x) (hv:Vis X.env.scope x) (h1:ds1[i]?=some 1) (hi:PE X k (tF K p ds ds1 d1 f)) (hs:qZ k) (hd:(x == ("__debug__" : Str))=false) (hcd:(x == ("__classdict__" : Str))=false) :
  PE X (.Subscript (.Name x px) k pos) (tF K p ds ds1 0 (bB i f)):=(A9 hu (e7 hN hv hd hcd) hi hs).imp fun _ _ _=>Ce h1
def cA (i:Nat) (fk fe:ME):MS:=fun en=>(fe en).bind fun r=>match (r.2[i]?).join with
 | some _=>(fk r.2).bind fun q=>match (q.2[i]?).join with
  | some (.dict ks)=>(kOf q.1).bind fun _=>if ks.length < sizeLine then some (.nx (q.2.set i (some (.dict (l9 ks q.1 r.1))))) else none
  | _=>none
 | none=>none
theorem BH (hd:ds2[i]?=some 1) (h:tFS K J ds ds2 (cA i fk fe) Dn σ H):Al (gO i) (tF K false ds1 ds2 d2 fk) (tF K false ds ds1 0 fe) Dn σ H:=by
 obtain ⟨Ox,en,R,fl,e,hf,k⟩:=h
 unfold cA at hf
 obtain ⟨⟨t1,en1⟩,h1,hf⟩:=Option.bind_eq_some_iff.mp hf
 dsimp only at hf
 split at hf
 case h_2=>cases hf
 next tt h0 =>
 obtain ⟨⟨t2,en2⟩,h2,hf⟩:=Option.bind_eq_some_iff.mp hf
 dsimp only at hf
 split at hf
 case h_2=>cases hf
 next ks h3 =>
 obtain ⟨q,hq,hf⟩:=Option.bind_eq_some_iff.mp hf
 by_cases hlen:ks.length < sizeLine
 case neg=>rw [if_neg hlen] at hf; cases hf
 rw [if_pos hlen] at hf
 cases hf
 refine ⟨Ox,en,R,t1,en1,e,h1,fun x H1 R1 F1 P1 o1=>?_⟩
 obtain ⟨v0,d0,a1,_,_⟩:=P1.env.at_ i tt (bi h0)
 refine ⟨v0,a1,?_⟩
 refine ⟨U F1 Ox,en1,R1,t2,en2,P1.env,h2,fun y H2 R2 F2 P2 o2=>?_⟩
 have P:=P1.trans P2
 have o1':=Ow.over P1.env P2 o1
 have w1:=Ow.letgo P (fun _=>.inl) o1'
 obtain ⟨v',d',b1,b2,b3⟩:=P.env.at_ i _ (bi h3)
 rw [a1] at b1
 cases b1
 rw [hd] at b2
 cases b2
 obtain ⟨l,vs,el,hl,hr,F',hf',ow⟩:=b3.dict1 (by decide)
 have eq:=nC hq o2
 subst eq
 refine ⟨l,_,el,DPut.k hl (by rw [ow.len]; exact hlen),?_⟩
 have hi:i < en2.length:=(List.getElem?_eq_some_iff.mp (bi h3)).1
 have gG:∀ a,(fun a=>R2 i a) a→R2 i a∨U F1 F2 a:=fun a z=>.inl z
 have sub:=lB (i:=i) (R1:=R2) (Ox:=Ox) (G:=fun a=>R2 i a) (F':=NoA) (F:=U F1 F2) gG (fun _ z=>z.elim)
 have Ol:Own R2 (U (U F1 F2) Ox) l:=.inl ⟨i,hr⟩
 have PS:=P.slot (G:=fun a=>R2 i a) (F':=NoA) (o2:=.dK (cf vs q x)) (t:=.dict (l9 ks t2 t1)) hr hi a1 hd gG (fun _ z=>z.elim) (fun _ _ z=>z) ?_
 ·exact k σ _ _ PS.s
 refine ⟨l,cf vs q x,el,.inr ⟨by decide,aG,hr,NoA,fun _ z=>z.elim,?_⟩⟩
 rw [nV hq]
 refine Owd.put0 (Owd.past sub Ol (fun _ z=>z.elim) (Owd.any0 ks ow)) ?_
 refine Ow.past (O:=Own R2 Ox) (fun a z=>?_) (.inl ⟨i,hr⟩) (fun _ z=>z.elim) w1
 rcases z with ⟨j,z⟩ | z | z
 ·by_cases hj:j=i
  ·rw [if_pos hj] at z; exact .inl ⟨i,z⟩
  ·rw [if_neg hj] at z; exact .inl ⟨j,z⟩
 ·exact z.elim
 ·exact .inr z
theorem uC {x:Str} (hu:X.A.units+1 < cLine) (hN:X.N[i]?=some x) (hv:Vis X.env.scope x) (he:PE X e (tF K false ds ds1 0 fe)) (hk:PE X k (tF K false ds1 ds2 d2 fk)) (h1:ds2[i]?=some 1)
  (hdb:(x == ("__debug__" : Str))=false) (hcd:(x == ("__classdict__" : Str))=false) (hs:swapsWith e (some (.Subscript (.Name x px) k spos)) pos.line X.env=pure false) :
  PS X (.Assign [.Subscript (.Name x px) k spos] e pos) (tFS K J ds ds2 (cA i fk fe)):=(AY hu (e7 hN hv hdb hcd) hk he hs).imp fun _ _ _=>BH h1
end
end L2
namespace L2
open PySem PySem.Spec PyProof.Rows
def evP:List (ME × ME)→En→Option (List (D × D) × En)
 | [],en=>some ([],en)
 | (fk,fv) :: r,en=>(fk en).bind fun x=>(fv x.2).bind fun y=>(evP r y.2).bind fun z=>(kOf x.1).map fun _=>((x.1,y.1) :: z.1,z.2)
def EO (ks:List (D × D)):List (D × D):=ks.foldl (fun acc kv=>l9 acc kv.1 kv.2) []
def jX (fs:List (ME × ME)):ME:=fun en=>(evP fs en).bind fun r=>if r.1.length≤15 then some (.dict (EO r.1),r.2) else none
def OwP (K:PySem.W.Frag) (O:AS) (H:Hp):List (D × D)→List (V × V)→Prop
 | [],ps=>ps=[]
 | (k,t) :: r,ps=>∃ q v s,ps=(kV q,v) :: s∧k=kD q∧Ow K O H t 0 v NoA∧OwP K O H r s
section
variable {X:Cx} {K:PySem.W.Frag} {p:Bool} {J:Jd} {ds ds0 ds1 ds2 ds':List Nat} {d d' d1 d2:Nat} {a b c e o k:Expr} {es:List Expr} {f f1 f2 fk fe:ME} {fa:MA} {sh:Sh} {pos px spos:Pos} {i j:Nat} {σ:St} {H:Hp} {Q:VK} {Dn:Ends}
theorem OwP.mv {O O':AS} {H H':Hp} (m:Mv O O' NoA H H'):∀ {ks:List (D × D)} {ps:List (V × V)},OwP K O H ks ps→OwP K O' H' ks ps
 | [],_,h=>h
 | (k,t) :: r,_,h=>by
  obtain ⟨q,v,s,e1,e2,o,h⟩:=h
  exact ⟨q,v,s,e1,e2,Ow.mv m t (fun _ z=>z) o,OwP.mv m h⟩
def trs (K:PySem.W.Frag) (p:Bool) (ds:List Nat) (fs:List (ME × ME)):List (TE × TE):=fs.map fun q=>(tF K p ds ds 3 q.1,tF K p ds ds 0 q.2)
theorem A0 {R R1:Nat→AS} {Ox:AS} {en en1:En} {H1:Hp} {F:AS} (P:Post K p ds1 Ox σ H en R en1 H1 R1 F):Mv (Own R Ox) (Own R1 Ox) NoA H H1:=by
 refine ⟨fun a o q z=>P.keep a o q fun i zi=>?_,fun a z=>?_⟩
 ·rcases z with z | z
  ·exact z (.inl ⟨i,zi⟩)
  ·exact z
 ·rcases z with z | z
  ·exact (P.own a (.inr z)).imp .inl id
  ·exact .inl (.inr z)
theorem pK:∀ {fs:List (ME × ME)} {σ:St} {H:Hp} {Ox:AS} {en en':En} {R:Nat→AS} {ks:List (D × D)} {QP:List (V × V)→Hp→Prop},EnvOk K ds Ox H σ en R→evP fs en=some (ks,en') →
  (∀ ps H' R',Post K p ds Ox σ H en R en' H' R' NoA→OwP K (Own R' Ox) H' ks ps→QP ps H')→kL (trs K p ds fs) σ H QP
 | [],σ,H,Ox,en,en',R,ks,QP,e,hf,k=>by
  cases hf
  exact k [] H R (Post.refl e) rfl
 | (fk,fv) :: r,σ,H,Ox,en,en',R,ks,QP,e,hf,k=>by
  unfold evP at hf
  obtain ⟨⟨t1,en1⟩,h1,hf⟩:=Option.bind_eq_some_iff.mp hf
  obtain ⟨⟨t2,en2⟩,h2,hf⟩:=Option.bind_eq_some_iff.mp hf
  obtain ⟨⟨ks3,en3⟩,h3,hf⟩:=Option.bind_eq_some_iff.mp hf
  obtain ⟨q,hq,hf⟩:=Option.map_eq_some_iff.mp hf
  cases hf
  refine ⟨Ox,en,R,t1,en1,e,h1,fun x H1 R1 F1 P1 o1=>?_⟩
  refine ⟨Ox,en1,R1,t2,en2,P1.env0,h2,fun y H2 R2 F2 P2 o2=>?_⟩
  refine pK P2.env0 h3 fun ps H3 R3 P3 op=>?_
  have PP:=(P1.after P2).after P3
  rw [Bool.and_self,Bool.and_self] at PP
  refine k _ H3 R3 PP ⟨q,y,ps,?_,nV hq,?_,op⟩
  ·rw [nC hq o1]
  ·exact Ow.mv (A0 P3) t2 (fun _ z=>z) (Ow.letgo P2 (fun _ z=>z) o2)
theorem nN {O:AS}:∀ {ks:List (D × D)} {kvs:List (Key × V)} {acc:List (D × D)} {avs:List (Key × V)},OwP K O H ks (kvs.map fun kv=>(kV kv.1,kv.2))→Owd K O H acc 0 avs NoA→Owd K O H (ks.foldl (fun acc kv=>l9 acc kv.1 kv.2) acc) 0 (e8 avs kvs) NoA
 | [],kvs,acc,avs,h,ha=>by
  have:kvs=[]:=List.map_eq_nil_iff.mp h
  subst this
  exact ha
 | (k,t) :: r,kvs,acc,avs,h,ha=>by
  obtain ⟨q,v,s,e1,e2,o,h⟩:=h
  cases kvs with
  | nil=>cases e1
  | cons kv kvs =>
   rw [List.map_cons] at e1
   injection e1 with e3 e4
   injection e3 with e5 e6
   have:=EV e5
   subst this e6 e4 e2
   exact nN (ks:=r) (kvs:=kvs) h (ha.put0 o)
theorem pq {O:AS}:∀ {ks:List (D × D)} {ps:List (V × V)},OwP K O H ks ps→∃ kvs:List (Key × V),ps=kvs.map (fun kv=>(kV kv.1,kv.2))∧kvs.length=ks.length
 | [],_,h=>⟨[],h,rfl⟩
 | (k,t) :: r,_,h=>by
  obtain ⟨q,v,s,e1,e2,o,h⟩:=h
  obtain ⟨kvs,e3,e4⟩:=pq h
  exact ⟨(q,v) :: kvs,by rw [e1,e3]; rfl,by rw [List.length_cons,List.length_cons,e4]⟩
theorem Gh {fs:List (ME × ME)} (h:tF K p ds ds 1 (jX fs) σ H Q):Ah (trs K p ds fs) σ H Q:=by
 obtain ⟨Ox,en,R,t,en',e,hf,k⟩:=h
 unfold jX at hf
 obtain ⟨⟨ks,en1⟩,h1,hf⟩:=Option.bind_eq_some_iff.mp hf
 by_cases hl:ks.length≤15
 case neg=>rw [if_neg hl] at hf; cases hf
 rw [if_pos hl] at hf
 cases hf
 intro l hl0
 have n0:=bw (o:=.dK []) hl0
 have P0:Post K true ds Ox σ H en R en (upd H l (.dK [])) R (fun b=>b=l):=Post.new e n0.1 n0.2
 refine pK P0.env h1 fun ps H2 R2 P op=>?_
 obtain ⟨kvs,e1,e2⟩:=pq op
 have lO:U (fun b=>b=l) Ox l:=.inl rfl
 have hl2:H2 l=some (.dK []):=P.keep l _ aG fun i z=>by
  obtain ⟨o,q⟩:=e.dom l (.inl ⟨i,z⟩)
  rw [hl0] at q
  cases q
 have nl2:∀ i,¬ R2 i l:=fun i z=>P.env.dx i l z (.inr lO)
 refine ⟨hl2,kvs,e1,by omega,?_⟩
 have PP:=P0.trans P
 rw [Bool.true_and] at PP
 have eU:U (fun b=>b=l) NoA=(fun b=>b=l):=eX fun a=>⟨fun z=>z.elim id fun z=>z.elim,.inl⟩
 rw [eU] at PP
 have keepl:∀ a o,H2 a=some o→a≠l→upd H2 l (.dK (e8 [] kvs)) a=some o:=fun a o q n=>by rw [aK n]; exact q
 have OO:∀ a,Own R2 (U (fun b=>b=l) Ox) a→Own R2 (U (U (fun b=>b=l) Ox) NoA) a:=fun a z=>z.imp id .inl
 refine k (.ref l) _ R2 (fun b=>b=l) ⟨⟨fun j u hu=>?_,PP.env.dj,PP.env.dx,fun a z=>?_,PP.env.l1,PP.env.l2⟩,PP.fx,fun a o q n=>?_,PP.own,fun a o q=>?_,fun hp=>?_⟩ ⟨l,_,rfl,.inr ⟨by decide,aG,rfl,NoA,fun _ z=>z.elim,?_⟩⟩
 ·obtain ⟨v',d',g1,g2,g3⟩:=PP.env.at_ j u hu
  refine ⟨v',d',g1,g2,Ow.mv (G:=R2 j) ⟨fun a o q z=>keepl a o q fun za=>?_,fun a z=>.inl z⟩ u (fun _ z=>z) g3⟩
  subst za
  rcases z with z | z
  ·exact z (.inr lO)
  ·exact nl2 j z
 ·by_cases ha:a=l
  ·subst ha; exact ⟨_,aG⟩
  ·obtain ⟨o,q⟩:=PP.env.dom a z
   exact ⟨o,keepl a o q ha⟩
 ·refine keepl a o (PP.keep a o q n) fun za=>?_
  subst za
  rw [hl0] at q
  cases q
 ·obtain ⟨o',q'⟩:=PP.dom a o q
  by_cases ha:a=l
  ·subst ha; exact ⟨_,aG⟩
  ·exact ⟨o',keepl a o' q' ha⟩
 ·obtain ⟨b1,b2,b3⟩:=PP.pure hp
  refine ⟨b1,b2,fun a o q=>keepl a o (b3 a o q) fun za=>?_⟩
  subst za
  rw [hl0] at q
  cases q
 ·have op2:OwP K (Own R2 (U (fun b=>b=l) Ox)) (upd H2 l (.dK (e8 [] kvs))) ks (kvs.map fun kv=>(kV kv.1,kv.2)):=by
   rw [e1] at op
   refine OwP.mv ⟨fun a o q z=>keepl a o q fun za=>?_,fun a z=>.inl z⟩ op
   subst za
   rcases z with z | z
   ·exact z (.inr lO)
   ·exact z
  exact nN op2 rfl
theorem B9 {keys:List (Option Expr)} {values:List Expr} {fs:List (ME × ME)} (h:PPs X pos keys values (trs K p ds fs)) (hall:keys.all (·.isSome)=true) (hl:keys.length=values.length) (h0:keys≠[]) (h15:keys.length≤15) :
  PE X (.Dict keys values pos) (tF K p ds ds 1 (jX fs)):=(A8 h hall hl h0 h15).imp fun _ _ _=>Gh
theorem FD:PPs X pos [] [] (trs K p ds []):=AZ
theorem BO {k v:Expr} {ks:List (Option Expr)} {vs:List Expr} {fk fv:ME} {fs:List (ME × ME)} (hk:PE X k (tF K p ds ds 3 fk)) (hv:PE X v (tF K p ds ds 0 fv)) (hr:PPs X pos ks vs (trs K p ds fs)):PPs X pos (some k :: ks) (v :: vs) (trs K p ds ((fk,fv) :: fs)):=tS hk hv hr
def Ij (i j:Nat) (fa:MA):MS:=fun en=>(fa en).bind fun r=>match r.1 with
 | [.inl a,.inl b]=>some (.nx ((r.2.set i (some a)).set j (some b)))
 | _=>none
end
section
variable {X:Cx} {K:PySem.W.Frag}
end
end L2
namespace L2
open PySem PySem.Spec PyProof.Rows
section
variable {X:Cx} {K:PySem.W.Frag} {O:AS} {H:Hp} {ts us:List D} {vs ws:List V} {x y:V} {d:Nat} {Q:VK}
def ss:List D→Option (List Int)
 | []=>some []
 | .int i :: r=>(ss r).map (i :: ·)
 | _ :: _=>none
def Ii:List D→Option D
 | [.list ts]=>(ss ts).map fun ns=>.int ns.sum
 | _=>none
end
end L2
namespace L2
open PySem PySem.Spec PyProof.Rows
section
variable {X:Cx} {K:PySem.W.Frag} {p:Bool} {ds ds1:List Nat} {O:AS} {H:Hp} {σ:St} {d:Nat} {f:ME} {i:Nat} {e:Expr} {Q:VK}
theorem Ows.cat {us:List D} {ws:List V} {F2:AS}:∀ {ts:List D} {vs:List V} {F1:AS},Ows K O H ts d vs F1→Ows K O H us d ws F2→(∀ b,F1 b→¬ F2 b)→Ows K O H (ts++us) d (vs++ws) (U F1 F2)
 | [],vs,F1,h,h2,_=>by
  have e:vs=[]:=h
  subst e
  exact Ows.mv (G:=fun _=>True) ⟨fun _ _ q _=>q,fun _ z=>.inl z⟩ us (fun _ _=>trivial) (Ows.grow (fun _ z=>z) us (fun _ z=>.inr z) h2)
 | u :: ts,vs,F1,h,h2,hd=>by
  obtain ⟨w,r,G1,G2,e,s1,s2,s3,h4,h5⟩:=h
  subst e
  refine ⟨w,r++ws,G1,U G2 F2,rfl,fun b z=>.inl (s1 b z),fun b z=>z.imp (s2 b) id,fun b z z2=>?_,h4,Ows.cat h5 h2 fun b z=>hd b (s2 b z)⟩
  rcases z2 with z2 | z2
  ·exact s3 b z z2
  ·exact hd b (s1 b z) z2
end
end L2
namespace L2
open PySem PySem.Spec PyProof.Rows
section
variable {X:Cx} {K:PySem.W.Frag} {p:Bool} {ds ds1:List Nat} {d:Nat} {fa:MA} {sh:Sh} {O O1:AS} {H0 H:Hp} {ts us:List D} {vs ws:List V} {a b:Addr}
def cX (ts us:List D):List D:=List.zipWith (fun x y=>.tuple [x,y]) ts us
theorem EJ {t u:D} {v w:V} {q:Addr} (hp:H q=none) (h3:∀ a,O1 a→∃ o,H a=some o) (ov:Ow K O1 H t 0 v NoA) (ow:Ow K O1 H u 0 w NoA):(∀ a o,H a=some o→upd H q (.tup [v,w]) a=some o)∧Ow K O1 (upd H q (.tup [v,w])) (.tuple [t,u]) 0 (.ref q) NoA:=by
 have g:=(bw (o:=.tup [v,w]) hp).1
 refine ⟨g,q,[v,w],rfl,.inl ⟨rfl,⟨aG,fun z=>?_⟩,v,[w],NoA,NoA,rfl,fun _ z=>z,fun _ z=>z,fun _ z=>z.elim,?_,w,[],NoA,NoA,rfl,fun _ z=>z,fun _ z=>z,fun _ z=>z.elim,?_,rfl⟩⟩
 ·obtain ⟨o,e⟩:=h3 q z
  rw [hp] at e
  cases e
 ·exact Ow.mv (G:=NoA) ⟨fun a o e _=>g a o e,fun a z=>.inl z⟩ t (fun _ z=>z) ov
 ·exact Ow.mv (G:=NoA) ⟨fun a o e _=>g a o e,fun a z=>.inl z⟩ u (fun _ z=>z) ow
def Ie (fa:MA):MI:=fun en=>(fa en).bind fun r=>match r.1 with
 | [.inl (.list ts),.inl (.list us)]=>some (cX ts us,r.2)
 | _=>none
end
end L2
namespace L2
open PySem PySem.Spec PyProof.Rows
section
variable {X:Cx} {K:PySem.W.Frag} {p:Bool} {ds ds1:List Nat} {d1:Nat} {e:Expr} {f:ME}
def pV:List String:=["int", "bool", "str", "list", "tuple", "dict"]
theorem pC (a:D):∀ {Ts:List String},(∀ T∈Ts,T∈pV)→PySem.W.kitAny K (.type (tyN a)) (Ts.map Value.type)=some (Ts.any fun T=>aF (tyN a) T)
 | [],_=>rfl
 | T :: Ts,h=>by
  have e1:=lZ (K:=K) (h T List.mem_cons_self) a
  have e2:=pC a (Ts:=Ts) fun x hx=>h x (List.mem_cons_of_mem _ hx)
  show (match PySem.W.kitOne K (.type (tyN a)) (.type T) with
   | some true=>some true
   | some false=>PySem.W.kitAny K (.type (tyN a)) (Ts.map Value.type)
   | none=>none)=_
  rw [e1,List.any_cons]
  cases aF (tyN a) T with
  | true=>rfl
  | false=>rw [e2]; rfl
def GA (K:PySem.W.Frag):List V→Hp→VK→Prop:=fun xs H Q=>∃ (x:V) (tp:Addr) (Ts:List String) (O:AS) (a:D),xs=[x,.ref tp]∧Ow K O H a 0 x NoA∧H tp=some (.tup (Ts.map V.ty))∧(∀ T∈Ts,T∈pV)∧Q (.bl (Ts.any fun T=>aF (tyN a) T)) H
theorem pf:∀ {Ts:List String} {us:List Value},Vals (Ts.map V.ty) us→us=Ts.map Value.type
 | [],_,.nil=>rfl
 | T :: Ts,_,.cons h t=>by
  rw [pf t]
  exact congrArg (· :: Ts.map Value.type) h
theorem ti:CallR X (.builtin "isinstance") (GA X.K):=by
 intro pins s σ H xs us Q I r h
 obtain ⟨x,tp,Ts,O,a,rfl,oa,ht,hT,q⟩:=h
 obtain ⟨u,u2,rfl,r1,r2⟩:=r.two
 cases r2
 have ek:=pC (K:=X.K) a hT
 obtain ⟨zl,its,rv,o,h1,h2,n,h3,_⟩:=(show ObjOk X.prog X.w H s.heap tp (.tup (Ts.map V.ty)) from I.hok tp _ ht)
 have ei:=pf rv
 subst ei
 obtain ⟨oc,od,oda,os⟩:=o
 cases h2
 cases h3
 have fin:∀ tk,EP X pins σ Q (.bool (Ts.any fun T=>aF (tyN a) T)) { s with toks:=tk }:=fun tk=>⟨.bl _,H,I.tok tk,rfl,q⟩
 cases a with
 | none =>
  have:x=.non:=oa
  subst this
  cases (show u=Value.none from r1)
  exact PySem.W.kia_tup PySem.W.kitx_none I.kIn True.intro h1 ek (fun z=>nomatch z) fin
 | bool b =>
  have:x=.bl b:=oa
  subst this
  cases (show u=Value.bool b from r1)
  exact PySem.W.kia_tup PySem.W.kitx_bool I.kIn True.intro h1 ek (fun z=>nomatch z) fin
 | int b =>
  have:x=.int b:=oa
  subst this
  obtain ⟨t,rfl⟩:=(show ∃ t,u=Value.int b t from r1)
  exact PySem.W.kia_tup PySem.W.kitx_int I.kIn True.intro h1 ek (fun z=>nomatch z) fin
 | str b =>
  have:x=.str b:=oa
  subst this
  obtain ⟨t,rfl⟩:=(show ∃ t,u=Value.str b t from r1)
  exact PySem.W.kia_tup PySem.W.kitx_str I.kIn True.intro h1 ek (fun z=>nomatch z) fin
 | tuple ts =>
  obtain ⟨p,vs,rfl,fz,w⟩:=oa.tup0
  cases r1
  obtain ⟨its,rv,pl,_⟩:=I.tuple fz.sq
  obtain ⟨o,g1,g2,_⟩:=pl
  exact PySem.W.kia_tup PySem.W.kitx_tuple I.kIn ⟨o,g1,g2⟩ h1 ek (fun z=>nomatch z) fin
 | dict ts =>
  have go:∀ {p:Addr} {kvs:List (Key × V)},x=.ref p→H p=some (.dK kvs)→wpAny (model X.prog X.w) X.A (call (.builtin "isinstance") [u,.ref tp]) (EP X pins σ Q) X.xe s:=fun {p kvs} ex ea=>by
   subst ex
   cases (show u=Value.ref p from r1)
   obtain ⟨_,_,vs,_,pp⟩:=(show ObjOk X.prog X.w H s.heap p (.dK kvs) from I.hok p _ ea)
   obtain ⟨o,es,ep,g1,g2,_⟩:=pp
   exact PySem.W.kia_tup PySem.W.kitx_dict I.kIn ⟨o,g1,g2.1⟩ h1 ek (fun z=>nomatch z) fin
  obtain ⟨p,vs,ex,⟨_,h1,_⟩ | ⟨_,h1,_⟩⟩:=oa
  ·exact go ex h1
  ·exact go ex h1
 | list ts =>
  obtain ⟨p,vs,rfl,fz,w⟩:=oa.lst0
  cases r1
  obtain ⟨its,rv,pl,_⟩:=I.list fz.sq
  obtain ⟨o,n,g1,g2,_⟩:=pl
  exact PySem.W.kia_tup PySem.W.kitx_list I.kIn ⟨o,g1,g2⟩ h1 ek (fun z=>nomatch z) fin
def jp (Ts:List String):D→Option D:=fun a=>some (.bool (Ts.any fun T=>aF (tyN a) T))
theorem B7 {T1 T2:Str} {n1 n2:String} {px p1 p2 pos tp:Pos} {kk:Nat} (hK:X.K=K) (hg:Gl X "isinstance") (hm:X.mg "isinstance"=none) (hg1:Gl X T1) (hm1:X.mg T1=none) (hb1:bootBuiltins T1=some (.type n1)) (hg2:Gl X T2) (hm2:X.mg T2=none) (hb2:bootBuiltins T2=some (.type n2)) (hT:∀ T∈[n1,n2],T∈pV) (he:PE X e (tF K p ds ds1 d1 f))
  (hn1:T1≠"__name__") (hd1:(T1 == ("__debug__" : Str))=false) (hn2:T2≠"__name__") (hd2:(T2 == ("__debug__" : Str))=false) (hs:aJ e=true) :
  PE X (.Call (.Name "isinstance" px) [e,.Tuple [.Name T1 p1,.Name T2 p2] kk tp] [] pos) (tF K p ds ds1 3 (e1 (jp [n1,n2]) f)):=by
 subst hK
 refine (ix ti hg hm boot_isinstance (bK he (bK (rJ (bK (lV (v:=.ty n1) hg1 hm1 hb1 rfl hn1 hd1) (bK (lV (v:=.ty n2) hg2 hm2 hb2 rfl hn2 hd2) pa_nil (aS rfl)) (aS rfl))) pa_nil (aS rfl)) (aS hs)) (by decide) (by decide) (aS hs) (eD rfl)).imp fun σ H Q h=>?_
 obtain ⟨Ox,en,R,t,en',e,hf,k⟩:=h
 unfold e1 at hf
 obtain ⟨⟨t1,en1⟩,h1,hf⟩:=Option.bind_eq_some_iff.mp hf
 obtain ⟨t',h3,hf⟩:=Option.map_eq_some_iff.mp hf
 cases hf
 cases h3
 refine ⟨Ox,en,R,t1,en1,e,h1,fun v H' R' F P o=>?_⟩
 refine ⟨Nat.le_trans (by show 2≤63; decide) (by rw [sizeLine_eq]; decide),fun q hq=>?_⟩
 have g:=(bw (o:=.tup [.ty n1,.ty n2]) hq).1
 refine ⟨v,q,[n1,n2],Own R' Ox,t1,rfl,Ow.mv (G:=NoA) ⟨fun a o e _=>g a o e,fun a z=>.inl z⟩ t1 (fun _ z=>z) (Ow.letgo P (fun _ z=>z) o),aG,hT,?_⟩
 exact k _ _ R' NoA ((P.less (F':=NoA) fun _ z=>z.elim).fin ⟨g,fun _ z=>z.elim⟩) rfl
end
end L2
namespace L2
open PySem PySem.Spec PyProof.Rows
section
variable {X:Cx} {K:PySem.W.Frag} {p p1 p2:Bool} {ds ds1 ds2:List Nat} {d d1:Nat} {e:Expr} {f:ME} {fa:MA} {sh:Sh} {σ:St} {H:Hp} {Q:VK}
def eM (g:Str→List D→Option D) (f:ME) (fa:MA):ME:=fun en=>(f en).bind fun r=>match r.1 with
 | .str z=>(fa r.2).bind fun q=>(vals q.1).bind fun ts=>(g z ts).map fun t=>(t,q.2)
 | _=>none
structure MtF (K:PySem.W.Frag) (r:V→List V→Hp→VK→Prop) (g:Str→List D→Option D):Prop where
 h:∀ {O:AS} {H:Hp} {z:Str} {ts:List D} {xs:List V} {t:D} {Q:VK},Ows K O H ts 0 xs NoA→g z ts=some t→(∀ v,Ow K O H t 3 v NoA→Q v H)→r (.str z) xs H Q
theorem Gd {r:V→List V→Hp→VK→Prop} {g:Str→List D→Option D} (hr:MtF K r g) (hs:bV 0 sh=true) (h:tF K (p1 && p2) ds ds2 3 (eM g f fa) σ H Q):tBM K "str" r (tF K p1 ds ds1 d1 f) (tFA K p2 ds1 ds2 sh fa) σ H Q:=by
 obtain ⟨Ox,en,R,t,en',e,hf,k⟩:=h
 unfold eM at hf
 obtain ⟨⟨t1,en1⟩,h1,hf⟩:=Option.bind_eq_some_iff.mp hf
 dsimp only at hf
 split at hf
 case h_2=>cases hf
 next z =>
 obtain ⟨⟨as,en2⟩,h2,hf⟩:=Option.bind_eq_some_iff.mp hf
 obtain ⟨ts,h3,hf⟩:=Option.bind_eq_some_iff.mp hf
 obtain ⟨t',h4,hf⟩:=Option.map_eq_some_iff.mp hf
 cases hf
 refine ⟨Ox,en,R,.str z,en1,e,h1,fun x H1 R1 F1 P1 o1=>?_⟩
 have ex:x=.str z:=o1
 subst ex
 refine ⟨rfl,Ox,en1,R1,as,en2,P1.env0,h2,fun vs H2 R2 F P2 o=>?_⟩
 have P:=P1.after P2
 obtain ⟨F',s1,s2⟩:=OwA.ows hs h3 o
 have o2:Ows K (Own R2 Ox) H2 ts 0 vs F':=s2 _ (fun a z=>z.imp id .inr) fun a z z2=>by
  rcases z2 with ⟨i,z2⟩ | z2
  ·exact absurd (.inl z) (P.env.dx i a z2)
  ·exact absurd z2 (P.fx a z)
 refine hr.h (Ows.any0 ts o2) h4 fun v ov=>k v H2 R2 NoA (P.less fun _ z=>z.elim) ?_
 rw [fE]
 exact ov
def joinD:Str→List D→Option D
 | sep,[.list ts]=>(strsOf ts).bind fun ys=>if sep.length≤16∧(ys.map (·.length)).sum+ys.length≤1048576 then some (.str (Txt.join sep ys)) else none
 | sep,[.tuple ts]=>(strsOf ts).bind fun ys=>if sep.length≤16∧(ys.map (·.length)).sum+ys.length≤1048576 then some (.str (Txt.join sep ys)) else none
 | _,_=>none
where strsOf:List D→Option (List Str)
 | []=>some []
 | .str z :: r=>(strsOf r).map (z :: ·)
 | _ :: _=>none
theorem iy {O:AS}:∀ {ts:List D} {ys:List Str} {xs:List V},joinD.strsOf ts=some ys→Ows K O H ts 0 xs NoA→xs=ys.map V.str
 | [],ys,xs,h,o=>by
  cases h
  exact o
 | t :: ts,ys,xs,h,o=>by
  obtain ⟨v,r,F1,F2,e,_,_,_,h4,h5⟩:=o
  cases t with
  | str z =>
   obtain ⟨ys',h6,rfl⟩:=Option.map_eq_some_iff.mp h
   have e4:v=.str z:=h4
   rw [e,e4,iy h6 (Ows.any0 ts h5)]
   rfl
  | _=>cases h
theorem dL:MtF K (An K) joinD where
 h:=fun {O H z ts xs t Q} o hg q=>by
  unfold joinD at hg
  split at hg
  ·next us =>
   obtain ⟨ys,h1,h2⟩:=Option.bind_eq_some_iff.mp hg
   by_cases hc:z.length≤16∧(ys.map (·.length)).sum+ys.length≤1048576
   case neg=>rw [if_neg hc] at h2; cases h2
   rw [if_pos hc] at h2
   cases h2
   obtain ⟨v,r,F1,F2,e,_,_,_,h4,h5⟩:=o
   have e5:r=[]:=h5
   subst e5 e
   obtain ⟨a,vs,rfl,fz,w⟩:=(Ow.any0 _ h4).lst0
   have e6:=iy h1 w
   subst e6
   exact ⟨z,ys,a,rfl,rfl,.inl fz.sq,hc.1,hc.2,q _ rfl⟩
  ·next us =>
   obtain ⟨ys,h1,h2⟩:=Option.bind_eq_some_iff.mp hg
   by_cases hc:z.length≤16∧(ys.map (·.length)).sum+ys.length≤1048576
   case neg=>rw [if_neg hc] at h2; cases h2
   rw [if_pos hc] at h2
   cases h2
   obtain ⟨v,r,F1,F2,e,_,_,_,h4,h5⟩:=o
   have e5:r=[]:=h5
   subst e5 e
   obtain ⟨a,vs,rfl,fz,w⟩:=(Ow.any0 _ h4).tup0
   have e6:=iy h1 w
   subst e6
   exact ⟨z,ys,a,rfl,rfl,.inr fz.sq,hc.1,hc.2,q _ rfl⟩
  ·cases hg
def eB:Str→List D→Option D
 | z,[.str y]=>some (.bool (Txt.startswith z y))
 | _,_=>none
def Ih:Str→List D→Option D
 | z,[.str y]=>some (.bool (Txt.endswith z y))
 | _,_=>none
theorem t3 {O:AS} {y:Str} {xs:List V} (o:Ows K O H [.str y] 0 xs NoA):xs=[.str y]:=by
 obtain ⟨v,r,F1,F2,e,_,_,_,h4,h5⟩:=o
 have e4:v=.str y:=h4
 have e5:r=[]:=h5
 rw [e,e4,e5]
theorem gJ:MtF K pi eB where
 h:=fun {O H z ts xs t Q} o hg q=>by
  unfold eB at hg
  split at hg
  ·next y =>
   cases hg
   exact ⟨z,y,rfl,t3 o,q _ rfl⟩
  ·cases hg
theorem B4 {o:Expr} {es:List Expr} {name:Str} {id:String} {apos cpos:Pos} {r:V→List V→Hp→VK→Prop} {g:Str→List D→Option D} (hK:X.K=K) (slot:Slot "str" name id) (hty:typeOf (.builtin id)=pure (.type "method_descriptor")) (hm:MtR X id r) (hr:MtF K r g) (ho:PE X o (tF K p ds ds1 d1 f)) (ha:PA X (e :: es) (tFA K p ds1 ds2 sh fa))
  (hsh:bV 0 sh=true) (hbase:attributeBase o name X.env (eval o X.env)=eval o X.env)
  (hfew:((backTo cpos (starEach (e :: es) X.env)).all (fun x=>!x.1) && (backToKw cpos (keywordEach [] X.env)).all (fun x=>x.1.isSome)
   && decide ((e :: es).length+([]:List Keyword).length+(if ([]:List Keyword).isEmpty then 0 else 1) < 30))=true)
  (hline:(apos.endLine == cpos.line)=true) (hs:starEach (e :: es) X.env=(false,eval e X.env) :: starEach es X.env) (hplain:(backTo cpos (starEach es X.env)).any (·.1)=false) :
  PE X (.Call (.Attribute o name apos) (e :: es) [] cpos) (tF K p ds ds2 3 (eM g f fa)):=by
 subst hK
 exact (ng PySem.F.plainAttrs_str slot hty hm ho ha hbase hfew hline hs hplain).imp fun _ _ _ h=>Gd hr hsh (by rw [Bool.and_self]; exact h)
end
end L2
namespace L2
open PySem PySem.Spec PyProof.Rows
section
variable {X:Cx} {K:PySem.W.Frag} {pins:List (Addr × Obj)} {σ:St} {H:Hp} {s:Shared} {O:AS}
mutual
theorem Ow.reads (I:Inv X pins σ H s):∀ (t:D) {v:V} {u:Value},ap t=true→Ow X.K O H t 0 v NoA→RelV v u→∃ as,Reads s.heap u t as
 | .none,_,_,_,h,r=>by
  cases (show _=V.non from h)
  cases r
  exact ⟨_,.none⟩
 | .bool b,_,_,_,h,r=>by
  cases (show _=V.bl b from h)
  cases r
  exact ⟨_,.bool _⟩
 | .int i,_,_,_,h,r=>by
  cases (show _=V.int i from h)
  obtain ⟨t,rfl⟩:=r
  exact ⟨_,.int _ _⟩
 | .str x,_,_,_,h,r=>by
  cases (show _=V.str x from h)
  obtain ⟨t,rfl⟩:=r
  exact ⟨_,.str _ _⟩
 | .list ts,_,_,hn,h,r=>by
  obtain ⟨p,vs,rfl,fz,w⟩:=h.lst0
  cases r
  obtain ⟨its,rv,⟨o,n,e1,e2,_,e3⟩,_⟩:=I.list fz.sq
  obtain ⟨as,ra⟩:=Ows.reads I ts (by simpa [ap] using hn) w rv
  exact ⟨_,.list e1 e2 e3 (by simpa using ra)⟩
 | .tuple ts,_,_,hn,h,r=>by
  obtain ⟨p,vs,rfl,fz,w⟩:=h.tup0
  cases r
  obtain ⟨its,rv,⟨o,e1,e2,n,e3⟩,_⟩:=I.tuple fz.sq
  obtain ⟨as,ra⟩:=Ows.reads I ts (by simpa [ap] using hn) w rv
  exact ⟨_,.tuple e1 e2 e3 (by simpa using ra)⟩
 | .dict _,_,_,hn,_,_=>by simp [ap] at hn
theorem Ows.reads (I:Inv X pins σ H s):∀ (ts:List D) {vs:List V} {us:List Value},aC ts=true→Ows X.K O H ts 0 vs NoA→Vals vs us→∃ as,ReadsAll s.heap us ts as
 | [],_,_,_,h,r=>by
  cases (show _=[] from h)
  cases r
  exact ⟨_,.nil⟩
 | t :: ts,_,_,hn,h,r=>by
  obtain ⟨v,q,F1,F2,e,_,_,_,h4,h5⟩:=h
  subst e
  have hn':ap t=true∧aC ts=true:=by simpa [aC] using hn
  cases r with
  | cons ru rr =>
   obtain ⟨as,a1⟩:=Ow.reads I t hn'.1 (Ow.any0 t h4) ru
   obtain ⟨bs,a2⟩:=Ows.reads I ts hn'.2 (Ows.any0 ts h5) rr
   exact ⟨_,.cons a1 a2⟩
end
mutual
theorem iA:∀ t:D,ap t=true→t.hasDict=false
 | .none,_=>by simp only [PyData.hasDict]
 | .bool _,_=>by simp only [PyData.hasDict]
 | .int _,_=>by simp only [PyData.hasDict]
 | .str _,_=>by simp only [PyData.hasDict]
 | .list ts,h=>by simp only [PyData.hasDict]; exact gR ts (by simpa [ap] using h)
 | .tuple ts,h=>by simp only [PyData.hasDict]; exact gR ts (by simpa [ap] using h)
 | .dict _,h=>by simp [ap] at h
theorem gR:∀ ts:List D,aC ts=true→PyData.hasDictAll ts=false
 | [],_=>by simp only [PyData.hasDictAll]
 | t :: ts,h=>by
  have h':ap t=true∧aC ts=true:=by simpa [aC] using h
  simp only [PyData.hasDictAll,iA t h'.1,gR ts h'.2,Bool.or_self]
end
def kS:List D→Option D
 | [.dict []]=>some (.str "{}")
 | [t]=>grd (ap t=true∧t.showable=true∧t.depth≤60∧t.shown.length≤sizeLine) (.str t.shown)
 | _=>none
theorem BR (hK:X.K=K) (hg:X.A.guards=some []) (hu:X.A.units+64 < cLine):CallR X (.builtin "repr") (rFn K kS 3):=by
 subst hK
 intro pins s σ H xs us Q I r ⟨O,as,t,oa,hd,hr,k⟩
 unfold kS at hr
 split at hr
 ·cases hr
  obtain ⟨v,rfl,o⟩:=oa.one
  obtain ⟨a,vs,rfl,⟨_,g1,_,g2⟩ | ⟨z,_⟩⟩:=o
  ·have e:vs=[]:=g2
   subst e
   exact qU hg hu pins s σ H _ us Q I r ⟨_,_,rfl,.inr ⟨a,rfl,g1,rfl⟩,k _ H NoA .refl rfl⟩
  ·exact absurd rfl z
 ·next d hne =>
  obtain ⟨⟨c1,c2,c3,c4⟩,rfl⟩:=bv hr
  obtain ⟨v,rfl,o⟩:=oa.one
  obtain ⟨u,rfl,ru⟩:=bU r
  obtain ⟨as,rd⟩:=Ow.reads I d c1 o ru
  have q:=k (.str d.shown) H NoA .refl rfl
  cases d with
  | none =>
   cases (show v=V.non from o)
   cases ru
   have e:(PyData.none).shown=("None" : Str):=PyData.shown_none
   rw [e] at q
   exact P.repr_of_none ⟨.str _,H,I.tok _,⟨_,rfl⟩,q⟩
  | bool b =>
   cases (show v=V.bl b from o)
   cases ru
   have e:(PyData.bool b).shown=(if b then "True" else "False" : Str):=PyData.shown_bool b
   rw [e] at q
   exact P.repr_of_bool ⟨.str (if b then "True" else "False"),H,I.tok _,⟨_,rfl⟩,q⟩
  | int i =>
   cases (show v=V.int i from o)
   obtain ⟨t,rfl⟩:=ru
   have e:(PyData.int i).shown=((toString i:String):Str):=PyData.shown_int i
   rw [e] at q
   have hl:i.natAbs.log2 < 1920:=by simpa [PyData.showable] using c2
   exact P.repr_of_int hl ⟨.str _,H,I.tok _,⟨_,rfl⟩,q⟩
  | str y =>
   cases (show v=V.str y from o)
   obtain ⟨t,rfl⟩:=ru
   have e:(PyData.str y).shown=reprText y:=PyData.shown_str y
   rw [e] at q c4
   exact P.repr_of_str ⟨.str _,H,I.tok _,⟨_,rfl⟩,q⟩ c4
  | list ts =>
   obtain ⟨p,vs,rfl,_,_⟩:=o.lst0
   cases ru
   exact repr_of_reads' rd c2 (PyData.noDict_hsm (iA _ c1)) hg (by omega) (fun _ _ e=>e) (fun h' u tk hk=>⟨.str _,H,I.kept (t':=tk) hk,⟨_,rfl⟩,q⟩) c4
  | tuple ts =>
   obtain ⟨p,vs,rfl,_,_⟩:=o.tup0
   cases ru
   exact repr_of_reads' rd c2 (PyData.noDict_hsm (iA _ c1)) hg (by omega) (fun _ _ e=>e) (fun h' u tk hk=>⟨.str _,H,I.kept (t':=tk) hk,⟨_,rfl⟩,q⟩) c4
  | dict _=>simp [ap] at c1
 ·cases hr
end
section
open PySem.SeqAt Classical
variable {X:Cx} {K:PySem.W.Frag} {pins:List (Addr × Obj)} {σ:St} {H:Hp} {s:Shared} {O:AS}
noncomputable def eqF (X:Cx) (O:AS) (H:Hp) (a:D) (u:Value):Bool:=decide (∃ d v,RelV v u∧ap d=true∧Ow X.K O H d 0 v NoA∧peq d a=true)
theorem sR (I:Inv X pins σ H s) {a d:D} {v:V} {u:Value} (r:RelV v u) (hn:ap d=true) (o:Ow X.K O H d 0 v NoA):eqF X O H a u=peq d a:=by
 unfold eqF
 cases h:peq d a with
 | true=>exact decide_eq_true ⟨d,v,r,hn,o,h⟩
 | false =>
  refine decide_eq_false fun ⟨d',v',r',hn',o',h'⟩=>?_
  have e:=r.inj r'
  subst e
  have:=Ow.inj I d d' o o' hn
  subst this
  rw [h] at h'
  cases h'
theorem im (I:Inv X pins σ H s) {a:D}:∀ {ts:List D} {vs:List V} {us:List Value},aC ts=true→Ows X.K O H ts 0 vs NoA→Vals vs us→us.any (eqF X O H a)=ts.any fun t=>peq t a
 | [],_,_,_,h,r=>by
  cases (show _=[] from h)
  cases r
  rfl
 | t :: ts,_,_,hn,h,r=>by
  obtain ⟨v,q,F1,F2,e,_,_,_,h4,h5⟩:=h
  subst e
  have hn':ap t=true∧aC ts=true:=by simpa [aC] using hn
  cases r with
  | cons ru rr=>rw [List.any_cons,List.any_cons,sR I ru hn'.1 (Ow.any0 t h4),im I hn'.2 (Ows.any0 ts h5) rr]
theorem ig (I:Inv X pins σ H s) {A:Around} {a:D} {x:V} {v:Value} (hna:ap a=true) (oa:Ow X.K O H a 0 x NoA) (ra:RelV x v) (hu:A.units+60+1 < cLine):∀ {ts:List D} {vs:List V} {us:List Value},aC ts=true→bO ts≤60→Ows X.K O H ts 0 vs NoA→Vals vs us→∀ u∈us,EqAt A s u v (eqF X O H a u)
 | [],_,_,_,_,h,r=>by
  cases (show _=[] from h)
  cases r
  exact fun u hu=>by cases hu
 | t :: ts,_,_,hn,hdp,h,r=>by
  obtain ⟨w,q,F1,F2,e,_,_,_,h4,h5⟩:=h
  subst e
  have hn':ap t=true∧aC ts=true:=by simpa [aC] using hn
  have hd':ca t≤60∧bO ts≤60:=by simp only [bO] at hdp; omega
  cases r with
  | cons ru rr =>
   intro u' hu'
   rcases List.mem_cons.mp hu' with rfl | hu'
   ·rw [sR I ru hn'.1 (Ow.any0 t h4)]
    exact (qO I 60 t a A w x _ v hd'.1 hn'.1 hna (Ow.any0 t h4) oa ru ra hu).1
   ·exact ig I hna oa ra hu hn'.2 hd'.2 (Ows.any0 ts h5) rr u' hu'
def inL:D→D→Option D
 | x,.list ts=>grd (ap x=true∧aC ts=true∧bO ts≤60) (.bool (ts.any fun t=>peq t x))
 | x,.tuple ts=>grd (ap x=true∧aC ts=true∧bO ts≤60) (.bool (ts.any fun t=>peq t x))
 | _,_=>none
def nJ:D→D→Option D
 | x,.list ts=>grd (ap x=true∧aC ts=true∧bO ts≤60) (.bool (!ts.any fun t=>peq t x))
 | x,.tuple ts=>grd (ap x=true∧aC ts=true∧bO ts≤60) (.bool (!ts.any fun t=>peq t x))
 | _,_=>none
theorem uF (hK:X.K=K) (hu:X.A.units+64 < cLine):OpR X (compareOp .NotIn) (rF2 K nJ 3):=by
 subst hK
 intro pins s σ H x y v u Q I rx ry ⟨O,a,b,t,oa,ob,hd,hg,k⟩
 have hu1:X.A.in1.units+60+1 < cLine:=by show X.A.units+1+60+1 < cLine; omega
 cases b with
 | list ts =>
  obtain ⟨⟨c1,c2,c3⟩,rfl⟩:=bv hg
  obtain ⟨p,vs,rfl,fz,w⟩:=ob.lst0
  cases ry
  obtain ⟨its,r,pl,hz⟩:=I.list fz.sq
  refine SeqAt.notIn_listAt (eqF X O H a) pl.isList (fun z hz=>ig I c1 oa rx hu1 c2 c3 w r z (by simpa using hz)) ⟨.bl _,H,I,rfl,?_⟩
  rw [show its.toArray.any (eqF X O H a)=its.any (eqF X O H a) by simp,im I c2 w r]
  exact k _ H NoA .refl rfl
 | tuple ts =>
  obtain ⟨⟨c1,c2,c3⟩,rfl⟩:=bv hg
  obtain ⟨p,vs,rfl,fz,w⟩:=ob.tup0
  cases ry
  obtain ⟨its,r,pl,hz⟩:=I.tuple fz.sq
  refine SeqAt.notIn_tupleAt (eqF X O H a) pl (fun z hz=>ig I c1 oa rx hu1 c2 c3 w r z (by simpa using hz)) ⟨.bl _,H,I,rfl,?_⟩
  rw [show its.toArray.any (eqF X O H a)=its.any (eqF X O H a) by simp,im I c2 w r]
  exact k _ H NoA .refl rfl
 | _=>cases hg
end
end L2
namespace L2
open PySem PySem.Spec PyProof.Rows
section
variable {K:PySem.W.Frag} {O:AS} {H:Hp}
end
abbrev MP:=En→Option (List Nat × En)
section
variable {X:Cx} {K:PySem.W.Frag} {p p1 p2:Bool} {J:Jd} {ds ds1 ds2:List Nat} {H:Hp} {σ:St} {d d1 d2 i m:Nat} {f fk fe:ME} {mp:MP} {e b o:Expr} {Q:VK}
end
end L2
namespace L2
open PySem PySem.Spec PyProof.Rows
theorem Bm {P:Program} {w:World} {K:PySem.W.Frag} {mg:Str→Option Value} {base:Heap} {k dr:Nat} {x:Str} {ps:List Str} {dps:List Nat} {f:Addr} {fd:FuncData} (m:mg x=some (.ref f)) (hk:PySem.W.keepIn K (.ref f)=true) (b:Binds K fd ps []):Kn P w K mg base k x ps (spF K dps dr fun _=>none) :=
 ⟨f,fd,⟨fun vs H Q E ⟨_,_,_,_,_,_,z,_⟩=>(nomatch z),fun A outer s H args us vs Q E _ _ _ _ ⟨_,_,_,_,_,_,z,_⟩=>(nomatch z)⟩,m,hk,b⟩
end L2
namespace L2
open PySem PySem.Spec PyProof.Rows
def bq (f:Nat→Str):Nat→List Str
 | 0=>[]
 | i+1=>if (bq f i).any (· == f i)=true then bq f i else bq f i++[f i]
theorem gC (f:Nat→Str) (i:Nat):bq f (i+1)=if (bq f i).any (· == f i)=true then bq f i else bq f i++[f i]:=rfl
theorem jR (f:Nat→Str):∀ i,(bq f i).length≤i
 | 0=>Nat.le_refl _
 | i+1=>by
  have h:=jR f i
  rw [gC]
  by_cases q:(bq f i).any (· == f i)=true
  ·rw [if_pos q]; omega
  ·rw [if_neg q,List.length_append]; show _+1≤_; omega
theorem ub (f:Nat→Str) (i:Nat) (x:Str):(bq f (i+1)).any (· == x)=((bq f i).any (· == x) || decide (x=f i)):=by
 rw [gC]
 by_cases q:(bq f i).any (· == f i)=true
 ·rw [if_pos q]
  by_cases e:x=f i
  ·rw [e,q,decide_eq_true rfl]; rfl
  ·rw [decide_eq_false e,Bool.or_false]
 ·rw [if_neg q,List.any_append]
  congr 1
  by_cases e:x=f i
  ·rw [e,decide_eq_true rfl]; simp
  ·rw [decide_eq_false e]
   simp only [List.any_cons,List.any_nil,Bool.or_false,beq_eq_false_iff_ne]
   exact fun z=>e z.symm
theorem nM (f:Nat→Str) (i:Nat):(bq f (i+1)).length=if (bq f i).any (· == f i) then (bq f i).length else (bq f i).length+1:=by
 rw [gC]
 by_cases q:(bq f i).any (· == f i)=true
 ·rw [if_pos q,if_pos q]
 ·rw [if_neg q,if_neg q,List.length_append]; rfl
abbrev SetS (P:Program) (w:World) (h:Heap) (a:Addr) (f:Nat→Str) (n:Nat):Prop:=h.SetOf (strKind P w) a (fun k=>(bq f n).any (· == k)) (bq f n).length
section
variable {P:Program} {w:World} {A:Around} {R:Result→Shared→Prop} {I:Addr} {fp wr:List Addr} {G:Array GenState→Array GenState→Prop} {n:Nat} {Pi:Nat→Value→Prop} {St:Nat→Shared→Prop}
theorem SetS.mv {h h':Heap} {a:Addr} {f:Nat→Str} {n:Nat} (x:SetS P w h a f n) (k:∀ o,h.get? a=some o→h'.get? a=some o):SetS P w h' a f n:=by
 obtain ⟨o,es,ep,t,e,r⟩:=x
 exact ⟨o,es,ep,t,k o e,r⟩
theorem tM (W:WalksS P w A.in1 I fp wr G n Pi St) (a:Addr) (ha:a ∉ fp) (f:Nat→Str) (hf:∀ i v,Pi i v→∃ t,v=.str (f i) t) (hb:n+1 < scanBound) :
  ∀ (k i:Nat) (s:Shared),n - i=k→i≤n→St i s→SetS P w s.heap a f i →
   (∀ s',Moved (a :: wr) G s s'→SetS P w s'.heap a f n→R (.ok (.ret .none)) s')→codeAny (model P w) A (.builtin "set.update.loop" ⟨[.ref a,.ref I],[]⟩) R s:=by
 have hw:a ∉ wr:=fun h=>ha (W.sub _ h)
 intro k
 induction k with
 | zero =>
  intro i s hk hi st hS q
  obtain rfl:i=n:=by omega
  refine codeAny_builtin PyProof.Rows.F.entry_set_update_loop ?_
  rw [Around.under_plainId PyProof.Rows.F.plain_set_update_loop _]
  show wpAny _ _ (pyNext (.ref I) >>= _) _ _ s
  exact wpAny_bind (W.done s _ _ st fun s1 m=>wpAny_pure (q s1 (m.mono fun b h=>List.mem_cons_of_mem _ h) (hS.mv fun o e=>m.heap a o hw e)))
 | succ k ih =>
  intro i s hk hi st hS q
  have lt:i < n:=by omega
  refine codeAny_builtin PyProof.Rows.F.entry_set_update_loop ?_
  rw [Around.under_plainId PyProof.Rows.F.plain_set_update_loop _]
  show wpAny _ _ (pyNext (.ref I) >>= _) _ _ s
  refine wpAny_bind (W.item i s _ _ lt st fun v s1 hv st1 m=>?_)
  obtain ⟨t,rfl⟩:=hf i v hv
  have h1:SetS P w s1.heap a f i:=hS.mv fun o e=>m.heap a o hw e
  show wpAny _ _ (holding [Value.str (f i) t] (setAdd a (.str (f i) t)) >>= _) _ _ s1
  refine wpAny_bind (wpAny_holding ?_)
  unfold setAdd
  refine wpAny_holding (wpAny_bind ((strKind P w).pyHash (k:=f i) (strKind_is P w (f i) t) ?_))
  have le:=jR f i
  refine wpAny_setAddHashed_of (knd:=strKind P w) (s:={ s1 with toks:=s1.toks+1 }) (strKind_is P w (f i) t) rfl h1 (by omega) fun h2 sb h3=>?_
  have h4:SetS P w h2 a f (i+1):=SetOf_congr h3 (fun x=>(ub f i x).symm) (nM f i).symm
  refine wpAny_pure ⟨plainId_quiet PyProof.Rows.F.plain_set_update_loop _,ih (i+1) _ (by omega) lt (W.frame _ s1 _ _ st1 (Nat.le_succ _) fun b hb o e=>?_) h4 fun s3 m3 h5=>?_⟩
  ·rw [sb.2 b fun z=>ha (z ▸ hb)]; exact e
  ·refine q s3 (Moved.trans W.gtrans ((m.mono fun b h=>List.mem_cons_of_mem _ h).then_heap (Nat.le_succ _) fun b o hb e=>?_) m3) h5
   rw [sb.2 b fun z=>hb (z ▸ List.mem_cons_self)]; exact e
end
section
variable {P:Program} {w:World} {A:Around} {E:Value→Shared→Prop} {s:Shared}
def Gw (z:Str) (i:Nat):Str:=match z.cps[i]? with
 | some c=>mk1 c
 | none=>""
abbrev fL (led:Bool):Obj:={ cls:=.type "set",dict:=none,data:=.set #[] 0 (.fresh 0 0 led) }
end
end L2
namespace L2
open PySem PySem.Spec PyProof.Rows
section
variable {X:Cx} {K:PySem.W.Frag} {p p1 p2:Bool} {ds ds1 ds2:List Nat} {d d1 d2:Nat} {e k:Expr} {f f1 f2:ME} {fa:MA} {sh:Sh} {σ:St} {H:Hp} {Q Q':VK} {pos pos2 px py:Pos}
theorem Eg (h:∀ v H,Q v H→Q' v H):tF K p ds ds1 d f σ H Q→tF K p ds ds1 d f σ H Q'
 | ⟨Ox,en,R,t,en',e,hf,k⟩=>⟨Ox,en,R,t,en',e,hf,fun v H' R' F P o=>h _ _ (k v H' R' F P o)⟩
def HS:D→Option D
 | .str z=>grd (z.length < 4000) (.int (bq (Gw z) z.length).length)
 | _=>none
def Il:D→D→Option D
 | .list ts,.int (-1)=>some (.list ts.reverse)
 | _,_=>none
def Ia:D→D→Option D
 | .tuple ts,.int (-1)=>some (.tuple ts.reverse)
 | _,_=>none
def Ib:D→D→Option D
 | .str z,.int (-1)=>grd (z.length≤sizeLine) (.str ⟨z.cps.toList.reverse.toArray⟩)
 | _,_=>none
def HU (fa:MA):MI:=fun en=>(fa en).bind fun r=>match r.1 with
 | [.inl (.str x),.inl (.str y)]=>some (cX (eS x) (eS y),r.2)
 | _=>none
def isB:D→D→Option D
 | .bool a,.bool b=>some (.bool (a == b))
 | _,_=>none
end
end L2
namespace L2
open PySem PySem.Spec PyProof.Rows
mutual
def fM:D→Bool
 | .list _=>false
 | .tuple ts=>jk ts
 | .dict []=>true
 | .dict (_ :: _)=>false
 | _=>true
def jk:List D→Bool
 | []=>true
 | t :: ts=>fM t && jk ts
end
section
variable {X:Cx} {K:PySem.W.Frag} {pins:List (Addr × Obj)} {σ:St} {H:Hp} {s:Shared} {O:AS}
mutual
theorem Ow.reads2 (I:Inv X pins σ H s):∀ (t:D) {v:V} {u:Value},fM t=true→Ow X.K O H t 0 v NoA→RelV v u→∃ as,Reads s.heap u t as∧sysModules ∉ as
 | .none,_,_,_,h,r=>by
  cases (show _=V.non from h)
  cases r
  exact ⟨_,.none,by simp⟩
 | .bool b,_,_,_,h,r=>by
  cases (show _=V.bl b from h)
  cases r
  exact ⟨_,.bool _,by simp⟩
 | .int i,_,_,_,h,r=>by
  cases (show _=V.int i from h)
  obtain ⟨t,rfl⟩:=r
  exact ⟨_,.int _ _,by simp⟩
 | .str x,_,_,_,h,r=>by
  cases (show _=V.str x from h)
  obtain ⟨t,rfl⟩:=r
  exact ⟨_,.str _ _,by simp⟩
 | .list ts,_,_,hn,_,_=>by simp [fM] at hn
 | .tuple ts,_,_,hn,h,r=>by
  obtain ⟨p,vs,rfl,fz,w⟩:=h.tup0
  cases r
  obtain ⟨its,rv,⟨o,e1,e2,n,e3⟩,_⟩:=I.tuple fz.sq
  obtain ⟨as,ra,rb⟩:=Ows.reads2 I ts (by simpa [fM] using hn) w rv
  exact ⟨_,.tuple e1 e2 e3 (by simpa using ra),rb⟩
 | .dict [],_,_,_,h,r=>by
  obtain ⟨a,vs,rfl,⟨_,ha,_,g2⟩ | ⟨z,_⟩⟩:=h
  ·have e:vs=[]:=g2
   subst e
   cases r
   obtain ⟨_,hsys,us,kv,dd⟩:=lq I.hok ha
   have hv:us=[]:=List.length_eq_zero_iff.mp (KV.length kv).symm
   subst hv
   obtain ⟨o,es,n,g1,g2,g3,_,g5,_⟩:=dd
   have h0:es.toList=[]:=by
    generalize es.toList=L at g5
    cases g5
    rfl
   refine ⟨a :: []++[],.dict g1 g2.1 g3 (by rw [h0]; exact .nil) (by rw [h0]; exact .nil),fun hm=>?_⟩
   have hm':sysModules=a:=by simpa using hm
   rw [← hm'] at hsys
   simp at hsys
  ·exact absurd rfl z
 | .dict (_ :: _),_,_,hn,_,_=>by simp [fM] at hn
theorem Ows.reads2 (I:Inv X pins σ H s):∀ (ts:List D) {vs:List V} {us:List Value},jk ts=true→Ows X.K O H ts 0 vs NoA→Vals vs us→∃ as,ReadsAll s.heap us ts as∧sysModules ∉ as
 | [],_,_,_,h,r=>by
  cases (show _=[] from h)
  cases r
  exact ⟨_,.nil,by simp⟩
 | t :: ts,_,_,hn,h,r=>by
  obtain ⟨v,q,F1,F2,e,_,_,_,h4,h5⟩:=h
  subst e
  have hn':fM t=true∧jk ts=true:=by simpa [jk] using hn
  cases r with
  | cons ru rr =>
   obtain ⟨as,a1,b1⟩:=Ow.reads2 I t hn'.1 (Ow.any0 t h4) ru
   obtain ⟨bs,a2,b2⟩:=Ows.reads2 I ts hn'.2 (Ows.any0 ts h5) rr
   exact ⟨_,.cons a1 a2,fun z=>(List.mem_append.mp z).elim b1 b2⟩
end
def gz:List D→Option D
 | [.dict []]=>some (.str "{}")
 | [t]=>grd ((ap t=true∨fM t=true)∧t.showable=true∧t.depth≤60∧t.shown.length≤sizeLine) (.str t.shown)
 | _=>none
theorem rD {t:D} (h:ap t=true):gz [t]=kS [t]:=by
 cases t with
 | dict ks=>simp [ap] at h
 | _=>simp [gz,kS,h,grd]
theorem oq (hK:X.K=K) (hg:X.A.guards=some []) (hu:X.A.units+64 < cLine):CallR X (.builtin "repr") (rFn K gz 3):=by
 intro pins s σ H xs us Q I r ⟨O,as,t,oa,hd,hr,k⟩
 by_cases hold:kS as=some t
 ·exact BR hK hg hu pins s σ H xs us Q I r ⟨O,as,t,oa,hd,hold,k⟩
 subst hK
 unfold gz at hr
 split at hr
 ·exact absurd hr hold
 ·next d hne =>
  obtain ⟨⟨c1,c2,c3,c4⟩,rfl⟩:=bv hr
  have nd:¬ ap d=true:=fun z=>hold (by
   rw [← rD z]
   unfold gz
   split
   ·next e=>cases e; exact absurd rfl hne
   ·next e=>cases e; exact if_pos ⟨.inl z,c2,c3,c4⟩
   ·next h1 h2=>exact absurd rfl (h2 d))
  have nl:=c1.resolve_left nd
  obtain ⟨v,rfl,o⟩:=oa.one
  obtain ⟨u,rfl,ru⟩:=bU r
  obtain ⟨as,rd,hs⟩:=Ow.reads2 I d nl o ru
  have q:=k (.str d.shown) H NoA .refl rfl
  cases d with
  | tuple ts =>
   obtain ⟨p,vs,rfl,_,_⟩:=o.tup0
   cases ru
   exact repr_of_reads' rd c2 (fun _=>hs) hg (by omega) (fun _ _ e=>e) (fun h' u tk hk=>⟨.str _,H,I.kept (t':=tk) hk,⟨_,rfl⟩,q⟩) c4
  | list ts=>simp [fM] at nl
  | dict ks=>cases ks with
   | nil=>exact absurd rfl hne
   | cons _ _=>simp [fM] at nl
  | _=>exact absurd rfl nd
 ·cases hr
end
end L2
namespace L2
open PySem PySem.Spec PyProof.Rows
section
variable {X:Cx} {K:PySem.W.Frag} {p p1 p2:Bool} {ds ds1 ds2:List Nat} {d d1 d2:Nat} {a b:Expr} {f f1 f2:ME} {σ:St} {H:Hp} {Q Q':VK} {pos:Pos} {ta tb:TE} {rest:List Expr}
def HI:D→Option Int→Option Int→Option D
 | .tuple ts,lo,hi=>grd (¬ (HT.sIx ts.length 0 lo=0∧HT.sIx ts.length ts.length hi=ts.length)) (.tuple (b6 ts lo hi))
 | _,_,_=>none
theorem FI (hK:X.K=K):SlR X (rFs K HI 0):=(Hz hK).imp fun x lo hi H Q ⟨O,a,t,oa,hd,hg,k⟩=>by
 cases a with
 | tuple ts =>
  obtain ⟨c,rfl⟩:=bv hg
  obtain ⟨a,vs,e1,f1,w1⟩:=oa.tup0
  refine ⟨a,vs,e1,f1.sq,by rw [w1.len]; exact c,fun p hp=>?_⟩
  have w2:Ows K O H (b6 ts lo hi) 0 (gX vs lo hi) NoA:=by
   unfold b6 gX
   rw [w1.len]
   exact (w1.drop _).take _
  exact k _ _ _ (jQ hp hd w2).1 (jQ hp hd w2).2
 | _=>cases hg
def Ho:D→Option Bool
 | .none=>some false
 | .bool b=>some b
 | .list ts=>some (!ts.isEmpty)
 | .tuple ts=>some (!ts.isEmpty)
 | _=>none
def Iv (f g:ME):ME:=fun en=>(f en).bind fun r=>(Ho r.1).bind fun c=>if c then some r else g r.2
end
end L2
namespace L2
open PySem PySem.Spec PyProof.Rows
section
variable {X:Cx} {K:PySem.W.Frag} {p p1 p2:Bool} {ds ds1 ds2:List Nat} {d d1 d2:Nat} {a b:Expr} {f f1 f2:ME} {σ:St} {H:Hp} {Q Q':VK} {pos:Pos}
end
end L2
namespace L2
open PySem PySem.Spec PyProof.Rows PySem.SeqAt PySem.MeetsSeq
section
variable {A:Around} {s:Shared}
end
section
variable {X:Cx} {pins:List (Addr × Obj)} {σ:St} {H:Hp} {s:Shared} {O:AS}
end
section
variable {X:Cx} {K:PySem.W.Frag}
end
end L2
namespace L2
open PySem PySem.Spec PyProof.Rows PySem.SeqAt PySem.MeetsSeq
def Io:D→D→Option D
 | .tuple ts,.int k=>grd (1≤k∧k≤1000∧ts.length≤1000) (.tuple (List.replicate k.toNat ts).flatten)
 | _,_=>none
section
variable {X:Cx} {K:PySem.W.Frag}
def Ic:D→D→Option D
 | .int k,.str z=>grd (z.length≤4000∧1≤k∧k≤4000) (.str (Txt.mul z k))
 | _,_=>none
end
section
variable {X:Cx} {K:PySem.W.Frag}
end
section
variable {X:Cx} {K:PySem.W.Frag}
end
section
variable {X:Cx} {K:PySem.W.Frag} {p p1 p2:Bool} {ds ds1 ds2:List Nat} {d d1 d2:Nat} {e:Expr} {f f1 f2:ME} {σ:St} {H:Hp} {Q Q':VK}
theorem Ge {g:D→D→Option D} {Ty:V→Hp→Prop} (ht:∀ a b t O x H F,g a b=some t→Ow K O H a d1 x F→Ty x H) (h:tF K (p1 && p2) ds ds2 d (e2 g f1 f2) σ H Q) :
  tF K p1 ds ds1 d1 f1 σ H fun x H1=>Ty x H1∧tF K p2 ds1 ds2 d2 f2 σ H1 fun y H2=>rF2 K g d x y H2 Q:=by
 obtain ⟨Ox,en,R,t,en',e,hf,k⟩:=h
 unfold e2 at hf
 obtain ⟨⟨t1,en1⟩,h1,hf⟩:=Option.bind_eq_some_iff.mp hf
 obtain ⟨⟨t2,en2⟩,h2,hf⟩:=Option.bind_eq_some_iff.mp hf
 obtain ⟨t',h3,hf⟩:=Option.map_eq_some_iff.mp hf
 cases hf
 refine ⟨Ox,en,R,t1,en1,e,h1,fun x H1 R1 F1 P1 o1=>⟨ht _ _ _ _ _ _ _ h3 o1,U F1 Ox,en1,R1,t2,en2,P1.env,h2,fun y H2 R2 F2 P2 o2=>?_⟩⟩
 have P:=P1.trans P2
 have o1':=Ow.over P1.env P2 o1
 have o2':Ow K (Own R2 (U (U F1 F2) Ox)) H2 t2 d2 y F2:=jA ▸ o2
 exact ⟨Own R2 Ox,t1,t2,t,Ow.letgo P (fun _=>.inl) o1',Ow.letgo P (fun _=>.inr) o2',P.doms,h3,fun v2 H3 F3 n o3=>k v2 H3 R2 F3 (P.fin n) (jY ▸ o3)⟩
theorem FU {T:String} {o:Expr} {name:Str} {id:String} {apos cpos:Pos} {g:D→D→Option D} {Ty:V→Hp→Prop} (pa:PlainAttrs T) (slot:Slot T name id) (hty:typeOf (.builtin id)=pure (.type "method_descriptor"))
  (ht:∀ a b t O x H F,g a b=some t→Ow K O H a d1 x F→Ty x H) (hT:∀ pins s σ H x v,Inv X pins σ H s→RelV x v→Ty x H→s.TypeIs v T∧∀ a,v=.ref a→∃ ob,s.heap.get? a=some ob∧ob.dict=none)
  (hm:OpR X (fun v u=>call (.builtin id) [v,u]) (rF2 K g 3)) (ho:PE X o (tF K p ds ds1 d1 f1)) (he:PE X e (tF K p ds1 ds2 d2 f2))
  (hbase:attributeBase o name X.env (eval o X.env)=eval o X.env)
  (hfew:((backTo cpos (starEach [e] X.env)).all (fun x=>!x.1) && (backToKw cpos (keywordEach [] X.env)).all (fun x=>x.1.isSome) && decide (([e]:List Expr).length+([]:List Keyword).length+(if ([]:List Keyword).isEmpty then 0 else 1) < 30))=true)
  (hline:(apos.endLine == cpos.line)=true) (hs:starEach [e] X.env=[(false,eval e X.env)]) (hplain:(backTo cpos (starEach [] X.env)).any (·.1)=false) :
  PE X (.Call (.Attribute o name apos) [e] [] cpos) (tF K p ds ds2 3 (e2 g f1 f2)):=by
 intro pins s σ H Q I h
 have h':=Ge (p1:=p) (p2:=p) (ds1:=ds1) (d1:=d1) (d2:=d2) (Ty:=Ty) ht (by rw [Bool.and_self]; exact h)
 refine wpAny_Call_method_late hbase hfew hline rfl (thn (ho pins s σ H _ I h') fun v s1 ⟨x,H1,I1,r1,ty,q1⟩=>?_)
 obtain ⟨h1,h2⟩:=hT pins s1 σ H1 x v I1 r1 ty
 refine ⟨T,id,pa,slot,hty,h1,h2,?_⟩
 have hA:=bK he pa_nil hs cpos pins s1 σ H1 (fun xs H2=>∃ y,xs=[y]∧rF2 K g 3 x y H2 Q) I1 (Eg (fun y H2 q=>⟨y,rfl,q⟩) q1)
 rw [hs] at hA ⊢
 refine Calls.callWith_builtin (by show (false || (backTo cpos (starEach [] X.env)).any (·.1))=false; rw [hplain] <;> rfl) (Calls.evalArgs_plain ?_)
 refine thn hA fun us s2 ⟨vs,H2,I2,r2,y,e2,q2⟩=>?_
 subst e2
 obtain ⟨u,rfl,ru⟩:=bU r2
 exact hm pins s2 σ H2 x y v u Q I2 r1 ru q2
end
def HX:D→D→Option D
 | .tuple ts,b=>grd (ap b=true∧aC ts=true∧bO ts≤60) (.int (ts.countP fun t=>peq t b:Nat))
 | _,_=>none
section
variable {X:Cx} {K:PySem.W.Frag} {p:Bool} {ds ds1 ds2:List Nat} {d d1 d2:Nat} {e:Expr} {f f1 f2:ME} {σ:St} {H:Hp} {Q Q':VK}
end
end L2
namespace L2
open PySem PySem.Spec PyProof.Rows HT
section
variable {prog:Program} {w:World} {A:Around} {E:Value→Shared→Prop} {s:Shared}
theorem j4 {t sl:Addr} {items:Array Value} {vl vu:Value} {lo hi:Option Int} {Q:Value→Shared→Prop} (ht:IsTup s.heap t items) (hs:s.heap.IsSliceOf sl vl vu .none) (pl:IsPart vl lo) (pu:IsPart vu hi)
  (hw:HT.sIx items.size 0 lo=0∧HT.sIx items.size items.size hi=items.size) (h:Q (.ref t) s):wpAny (model prog w) A (getItem (.ref t) (.ref sl)) Q E s:=by
 obtain ⟨os,hos,hcs,hds⟩:=id hs
 have hTs:s.TypeIs (.ref sl) "slice":=⟨os,hos,hcs⟩
 obtain ⟨ot,hot,hct,m,hdt⟩:=id ht
 obtain ⟨cls,dd,data,slo⟩:=ot
 simp only at hct hdt
 subst hct hdt
 unfold getItem
 try with_reducible refine wpAny_holding ?_
 first | refine wpAny_bind (wpAny_pure ?_) | skip
 refine wpAny_bind (wpAny_sequenceKey ht.typeIs (by decide) (wpAny_bind (wpAny_callSpecial?_slot (name:=Str.ofString "__getitem__") ht.typeIs PyProof.Rows.slot_tuple_getitem
  (wpAny_call_entry PyProof.Rows.slot_tuple_getitem ht.typeIs entry_tuple_getitem ?_ (args_tuple_getitem _ _)))))
 show wpAny _ _ (Builtin.Tuple.tupleItemsOf (.ref t) >>= _) _ _ s
 refine wpAny_bind (tupleItemsOf_ ht (wpAny_bind (wpAny_typeOf hTs ?_)))
 rw [if_pos (by decide)]
 refine wpAny_bind (ga hs pl pu ?_)
 rw [hw.1,hw.2]
 have h1:(((0:Nat):Int) == 0 && (1:Int) == 1 && (items.size - 0) == items.size)=true:=by simp
 show wpAny _ _ (if (((0:Nat):Int) == 0 && (1:Int) == 1 && (items.size - 0) == items.size)=true then _ else _) _ _ s
 rw [if_pos h1]
 wp_walk using wpAny_loadPart' hot,wpAny_load hot
 exact ⟨_,rfl,wpAny_pure h⟩
end
def qR:D→Option Int→Option Int→Option D
 | .tuple ts,lo,hi=>some (.tuple (b6 ts lo hi))
 | _,_,_=>none
section
variable {X:Cx} {K:PySem.W.Frag}
theorem BX (hK:X.K=K):SlR X (rFs K qR 0):=by
 intro pins s σ H x v vl vu lo hi sl Q I rx hs pl pu ⟨O,a,t,oa,hd,hg,k⟩
 cases a with
 | tuple ts =>
  by_cases hw:HT.sIx ts.length 0 lo=0∧HT.sIx ts.length ts.length hi=ts.length
  ·subst hK
   obtain ⟨a,vs,rfl,fz,w⟩:=id oa.tup0
   cases rx
   obtain ⟨its,r,ht,hz⟩:=I.tuple fz.sq
   have hlen:its.toArray.size=ts.length:=by rw [List.size_toArray,← w.len]; exact r.length.symm
   refine ⟨"tuple",_,PyProof.Rows.slot_tuple_getitem.lookup,ht.typeIs,?_⟩
   refine j4 ht hs pl pu (by rw [hlen]; exact hw) ⟨.ref a,H,I,rfl,k _ H NoA .refl ?_⟩
   cases hg
   have e:b6 ts lo hi=ts:=by
    unfold b6
    rw [hw.1,hw.2]
    simp
   rw [e,fE]
   exact oa
  ·refine FI hK pins s σ H x v vl vu lo hi sl Q I rx hs pl pu ⟨O,.tuple ts,t,oa,hd,?_,k⟩
   cases hg
   show grd _ _=_
   unfold grd
   rw [if_pos hw]
 | _=>cases hg
end
end L2
namespace L2
open PySem PySem.Spec PyProof.Rows
section
variable {P:Program} {w:World} {A:Around} {E:Value→Shared→Prop} {s:Shared}
theorem mZ:isSubtype (.type "tuple") (.type "set")=pure false:=by rw [isSubtype_type]; kernel_rfl
theorem jc:isSubtype (.type "tuple") (.type "frozenset")=pure false:=by rw [isSubtype_type]; kernel_rfl
def cz (ys:List Str) (i:Nat):Str:=ys.getD i ""
theorem mf {tp:Addr} {its:List Value} {ys:List Str} {Q:Value→Shared→Prop} (hh:A.handled=none) (ht:s.heap.IsTuple tp its.toArray) (hv:Vals (ys.map V.str) its) (hb:ys.length+1 < scanBound)
  (h:∀ (h':Heap) (tk:Nat),SetS P w h' s.heap.objs.size (cz ys) ys.length→(∀ b o,b < s.heap.objs.size→s.heap.get? b=some o→h'.get? b=some o)→Q (.ref s.heap.objs.size) { s with heap:=h',toks:=tk }) :
  wpAny (model P w) A (call (.type "set") [.ref tp]) Q E s:=by
 obtain ⟨c,tl,e0⟩:=PySem.F.called_set.mro
 have e1:=PySem.F.called_set.made
 have e2:=PySem.F.called_set.sub
 have htl:tp < s.heap.objs.size:=Heap.lt_size ht.choose_spec.1
 have hlen:its.length=ys.length:=by rw [← hv.length,List.length_map]
 refine wpAny_call (codeAny_of_tree ?_)
 show wpAny _ _ (callAny (.type "set") ⟨[.ref tp],[]⟩) _ _ _
 refine wpAny_pure ⟨Code.quiet_builtin _ (by decide +kernel),codeAny_builtin PySem.F.entry_type_call ?_⟩
 rw [Around.under_plain (weight_type_call_type "set" [.ref tp] []) rfl]
 have e3:=PySem.F.called_set.notType
 have e4:=PySem.F.called_set.canCreate
 have e5:=PySem.F.typeCall_set_1 (.ref tp)
 repeat (any_goals (first | assumption | wp_step))
 refine codeAny_mono (code_set_new_1 (.ref tp) (E:=E) (Q₁:=fun obj s1=>∃ led:Bool,obj=.ref s.heap.objs.size∧s1={ s with heap:=s.heap.push (fL led) }) fun led=>⟨led,rfl,rfl⟩) fun r s1 hr=>?_
 cases r with
 | error e=>exact hr
 | ok fl =>
  cases fl with
  | ret obj =>
   obtain ⟨led,rfl,rfl⟩:=hr
   have g0:(s.heap.push (fL led)).get? s.heap.objs.size=some (fL led):=Heap.get?_push_size _ rfl
   have hT:Shared.TypeIs { s with heap:=s.heap.push (fL led) } (.ref s.heap.objs.size) "set":=⟨_,g0,rfl⟩
   have i1:=PySem.F.called_set.init.lookup
   have i2:=PySem.F.called_set.init.bind (.ref s.heap.objs.size)
   repeat (any_goals (first | assumption | wp_step))
   refine codeAny_mono (codeAny_call_builtin (R:=wants (fun r s2=>r=.none∧∃ h' tk,s2={ s with heap:=h',toks:=tk }∧SetS P w h' s.heap.objs.size (cz ys) ys.length ∧
     ∀ b o,b < s.heap.objs.size→s.heap.get? b=some o→h'.get? b=some o) E) PySem.F.called_set.init.plain PySem.F.entry_set_init (check_set_init_1 hT ?_)) fun r2 s2 hr2=>?_
   ·have j1:=mZ
    have j2:=jc
    have j3:(Value.type "tuple" == Value.type "dict")=false:=by decide
    have ht2:(s.heap.push (fL led)).IsTuple tp its.toArray:=ht.push _
    obtain ⟨⟨cls,dd,data,sl⟩,ho,hc,m,hda⟩:=id ht2
    simp only at hc hda
    subst hc hda
    unfold Builtin.«set.__init__» noKeywords Builtin.Frozenset.updateFrom
    generalize hPI:pyIter=PI
    wp_walk using wpAny_loadPart' ho,wpAny_load ho
    subst hPI
    refine wpAny_pyIter_tuple ht2 ?_
    refine wpAny_bind (wpAny_runValue ?_)
    have hI:(s.heap.push (fL led)).objs.size=s.heap.objs.size+1:=by rw [Heap.size_push]
    have hne:s.heap.objs.size ∉ [(s.heap.push (fL led)).objs.size,tp]:=by
     rw [hI]
     intro z
     rcases List.mem_cons.mp z with z | z
     ·exact Nat.ne_of_lt (Nat.lt_succ_self _) z
     ·exact Nat.ne_of_lt htl (List.mem_singleton.mp z).symm
    have hti:tp≠(s.heap.push (fL led)).objs.size:=by rw [hI]; exact Nat.ne_of_lt (Nat.lt_succ_of_lt htl)
    have W:=(Walks.tuple (prog:=P) (w:=w) (A:=A.in1.in1.in1) (by simp [hh]) (s.heap.push (fL led)).objs.size tp hti its.toArray).toS
    have hsz:its.toArray.size=ys.length:=by rw [List.size_toArray,hlen]
    rw [hsz] at W
    refine tM W s.heap.objs.size hne (cz ys) (fun i v hv'=>?_) hb (ys.length - 0) 0 _ rfl (Nat.zero_le _) ⟨⟨_,Heap.get?_push_size _ rfl,rfl,rfl⟩,ht2.push _⟩ ?_ ?_
    ·have hi':its[i]?=some v:=by simpa using hv'
     have hi:i < ys.length:=by
      rw [← hlen]
      exact (List.getElem?_eq_some_iff.mp hi').1
     obtain ⟨u,hu,ru⟩:=hv.get (i:=i) (x:=V.str ys[i]) (by rw [List.getElem?_map,List.getElem?_eq_getElem hi]; rfl)
     rw [hu] at hi'
     cases hi'
     obtain ⟨t,rfl⟩:=ru
     refine ⟨t,?_⟩
     unfold cz
     rw [List.getD_eq_getElem?_getD,List.getElem?_eq_getElem hi]
     rfl
    ·exact SetOf_congr ((setObjOf_fresh (knd:=strKind P w) led).setOf (Heap.get?_push_of_some _ g0) (by unfold scanBound; omega)) (fun _=>rfl) rfl
    ·intro s3 m h3
     obtain ⟨h',g',d',tk,os'⟩:=s3
     obtain rfl:g'=s.gens:=m.gens
     obtain rfl:d'=s.drawn:=m.drawn
     obtain rfl:os'=s.os:=m.os
     refine wpAny_pure (wpAny_pure ⟨rfl,h',tk,rfl,h3,fun b o hb e=>?_⟩)
     refine m.heap b o ?_ (Heap.get?_push_of_some _ (Heap.get?_push_of_some _ e))
     simp only [List.mem_cons,List.not_mem_nil,or_false,not_or]
     exact ⟨Nat.ne_of_lt hb,Nat.ne_of_lt (Nat.lt_of_lt_of_le hb (by rw [Heap.size_push]; omega))⟩
   ·cases r2 with
    | error e=>exact hr2
    | ok fl2 =>
     cases fl2 with
     | ret r =>
      obtain ⟨rfl,h',tk,rfl,h3,hk⟩:=hr2
      repeat (any_goals (first | assumption | wp_step))
      exact h _ _ h3 hk
     | _=>exact hr2.elim
  | _=>exact hr.elim
end
def nb (P:Program) (w:World) (a:Addr) (ys:List Str):HO:=.ext fun h=>SetS P w h a (cz ys) ys.length
def Gx (K:PySem.W.Frag) (P:Program) (w:World):List V→Hp→VK→Prop:=fun xs H Q=>∃ p ys,xs=[.ref p]∧SqT K H p (ys.map V.str)∧ys.length+1 < scanBound∧∀ a,H a=none→Q (.ref a) (upd H a (nb P w a ys))
section
variable {X:Cx} {K:PySem.W.Frag} {p p1 p2:Bool} {ds ds1 ds2:List Nat} {d d1 d2:Nat} {e k:Expr} {f f1 f2:ME} {fa:MA} {sh:Sh} {σ:St} {H:Hp} {Q Q':VK} {pos pos2 px py:Pos}
theorem sW (hc:X.calm=true):CallR X (.type "set") (Gx X.K X.prog X.w):=by
 intro pins s σ H xs us Q I r ⟨p,ys,e,hs,hb,q⟩
 subst e
 obtain ⟨u,rfl,ru⟩:=bU r
 cases ru
 obtain ⟨its,rv,pl,hz⟩:=I.tuple hs
 refine mf (I.ok.hd hc) pl rv hb fun h' tk hS hk=>⟨.ref _,_,I.laid (a:=s.heap.objs.size) (o:=nb X.prog X.w s.heap.objs.size ys) (t':=tk) (fun b o e=>hk b o (Heap.lt_size e) e) (Nat.le_refl _) ?_,rfl,q _ (I.hok.fresh (Nat.le_refl _))⟩
 have h2:=hS
 obtain ⟨o,_,_,_,e,_⟩:=h2
 exact ⟨hS,⟨o,e⟩,fun h1 h2 a k=>a.mv k⟩
def Gz (P:Program) (w:World):List V→Hp→VK→Prop:=fun xs H Q=>∃ a ys,xs=[.ref a]∧H a=some (nb P w a ys)∧ys.length < 4096∧Q (.int (bq (cz ys) ys.length).length) H
theorem tf:CallR X (.builtin "len") (Gz X.prog X.w):=by
 intro pins s σ H xs us Q I r ⟨a,ys,e,ha,hz,q⟩
 subst e
 obtain ⟨u,rfl,ru⟩:=bU r
 cases ru
 obtain ⟨⟨o,es,ep,t,g1,g2,g3,_,_,_,g5,g6⟩,_⟩:=I.hok a _ ha
 have le:=jR (cz ys) ys.length
 have e:(es.size:Int)=((bq (cz ys) ys.length).length:Nat):=by rw [g6]
 refine call_len_set g1 g2 g3 g5 (by omega) ⟨.int es.size,H,(I.tok _).tok _,⟨_,rfl⟩,?_⟩
 rw [e]
 exact q
def jS:D→Option D
 | .tuple ts=>(joinD.strsOf ts).bind fun ys=>grd (ys.length < 4000) (.int (bq (cz ys) ys.length).length)
 | _=>none
theorem qJ (hK:X.K=K) (hc:X.calm=true) (hg:Gl X "len") (hm:X.mg "len"=none) (hg2:Gl X "set") (hm2:X.mg "set"=none) (hb:bootBuiltins "len"=some (.builtin "len")) (hb2:bootBuiltins "set"=some (.type "set")) (he:PE X e (tF K p ds ds1 0 f)) (hs:aJ e=true) :
  PE X (.Call (.Name "len" px) [.Call (.Name "set" py) [e] [] pos2] [] pos) (tF K p ds ds1 3 (e1 jS f)):=by
 subst hK
 refine (ix tf hg hm hb (bK (my (sW hc) hg2 hm2 hb2 (bK he pa_nil (aS hs)) (by decide) (by decide) (aS hs) rfl) pa_nil (aS rfl)) (by decide) (by decide) (aS rfl) rfl).imp fun σ H Q h=>?_
 obtain ⟨Ox,en,R,t,en',e,hf,k⟩:=h
 unfold e1 at hf
 obtain ⟨⟨t1,en1⟩,h1,hf⟩:=Option.bind_eq_some_iff.mp hf
 obtain ⟨t',h3,hf⟩:=Option.map_eq_some_iff.mp hf
 cases hf
 cases t1 with
 | tuple ts =>
  obtain ⟨ys,h4,h5⟩:=Option.bind_eq_some_iff.mp h3
  obtain ⟨c,rfl⟩:=bv h5
  refine ⟨Ox,en,R,.tuple ts,en1,e,h1,fun v H' R' F P o=>?_⟩
  obtain ⟨a,vs,rfl,fz,w⟩:=(Ow.any0 _ o).tup0
  have e6:=iy h4 w
  subst e6
  refine ⟨a,ys,rfl,fz.sq,by unfold scanBound; omega,fun a ha=>?_⟩
  refine ⟨a,ys,rfl,aG,by omega,?_⟩
  have n:NewTo H' (upd H' a (nb X.prog X.w a ys)) NoA:=⟨(bw ha).1,fun _ z=>z.elim⟩
  exact k _ _ R' NoA (P.fin n) rfl
 | _=>cases h3
end
end L2
namespace L2
open PySem PySem.Spec PyProof.Rows PySem.SeqAt PySem.MeetsSeq
section
variable {X:Cx} {K:PySem.W.Frag}
def p5:List D→Option D
 | [.int i]=>grd (i.natAbs.log2 < 1920) (.str (toString i))
 | _=>none
theorem pI:CallR X (.type "str") (rFn K p5 3):=call_str_int.imp fun xs H Q ⟨O,as,t,oa,hd,hg,k⟩=>by
 match as,hg with
 | [.int i],hg =>
  obtain ⟨c,rfl⟩:=bv hg
  obtain ⟨v,rfl,o⟩:=oa.one
  exact ⟨i,by rw [show v=.int i from o],c,k _ H NoA .refl rfl⟩
end
theorem Gu {α:Type} {M:Model} {A:Around} {Q:α→Shared→Prop} {E:Value→Shared→Prop} {s:Shared} {x y:Sem α} (h:x=y) (q:wpAny M A y Q E s):wpAny M A x Q E s:=h ▸ q
theorem uc:typeLookup (.type "str") (Str.ofString "__int__")=pure none:=by unfold typeLookup; kernel_rfl
theorem qo:typeLookup (.type "str") (Str.ofString "__index__")=pure none:=by unfold typeLookup; kernel_rfl
theorem qm:typeLookup (.type "str") (Str.ofString "__trunc__")=pure none:=by unfold typeLookup; kernel_rfl
noncomputable def bH:{ T:Str→Tok→Sem Value // ∀ (z:Str) (t:Tok) (n:Int),(List.takeWhile (fun x=>x != 0) (if (z.cps.all fun x=>decide (x < 128))=true then z.cps.toList else Unicode.numberText z.cps.toList)).length≤640→T z t=mkInt n →
  Meets (Builtin.«int.__new__» ⟨[.type "int",.str z t],[]⟩) (fun _ R s=>R (.ok (.ret (.int n s.toks))) { s with toks:=s.toks+1 }) } :=
 ⟨_,fun z t n hc hT=>.of_wp fun prog w A R s h=>by
  obtain ⟨hp,g,d,tk,os⟩:=s
  have f1:=F.called_int.sub
  have f2:=F.called_int.made
  have f3:=uc
  have f4:=qo
  have f5:=qm
  wp_walk
  rw [if_pos hc]
  wp_walk
  refine Gu hT ?_
  wp_walk
  exact ⟨_,rfl,h⟩⟩
theorem Fo (t:Tok):bH.1 "0" t=mkInt 0:=by kernel_rfl
theorem Fm (t:Tok):bH.1 "1" t=mkInt 1:=by kernel_rfl
theorem Fk (t:Tok):bH.1 "2" t=mkInt 2:=by kernel_rfl
theorem Fj (t:Tok):bH.1 "3" t=mkInt 3:=by kernel_rfl
theorem Fi (t:Tok):bH.1 "4" t=mkInt 4:=by kernel_rfl
theorem Fh (t:Tok):bH.1 "5" t=mkInt 5:=by kernel_rfl
theorem Fg (t:Tok):bH.1 "6" t=mkInt 6:=by kernel_rfl
theorem Ff (t:Tok):bH.1 "7" t=mkInt 7:=by kernel_rfl
theorem Fe (t:Tok):bH.1 "8" t=mkInt 8:=by kernel_rfl
theorem Fd (t:Tok):bH.1 "9" t=mkInt 9:=by kernel_rfl
theorem Br (t:Tok):bH.1 "10" t=mkInt 10:=by kernel_rfl
theorem Bq (t:Tok):bH.1 "11" t=mkInt 11:=by kernel_rfl
theorem Bp (t:Tok):bH.1 "12" t=mkInt 12:=by kernel_rfl
def figs:List (Str × Int):=[("0",0),("1",1),("2",2),("3",3),("4",4),("5",5),("6",6),("7",7),("8",8),("9",9),("10",10),("11",11),("12",12)]
def qF:List D→Option D
 | [.str z]=>(figs.find? fun p=>decide (p.1=z)).map fun p=>.int p.2
 | _=>none
theorem uv:∀ p∈figs,∀ t:Tok,Meets (Builtin.«int.__new__» ⟨[.type "int",.str p.1 t],[]⟩) (fun _ R s=>R (.ok (.ret (.int p.2 s.toks))) { s with toks:=s.toks+1 }):=by
 intro p hp t
 simp only [figs,List.mem_cons,List.not_mem_nil,or_false] at hp
 rcases hp with rfl | rfl | rfl | rfl | rfl | rfl | rfl | rfl | rfl | rfl | rfl | rfl | rfl
 ·exact bH.2 _ t _ (by decide +kernel) (Fo t)
 ·exact bH.2 _ t _ (by decide +kernel) (Fm t)
 ·exact bH.2 _ t _ (by decide +kernel) (Fk t)
 ·exact bH.2 _ t _ (by decide +kernel) (Fj t)
 ·exact bH.2 _ t _ (by decide +kernel) (Fi t)
 ·exact bH.2 _ t _ (by decide +kernel) (Fh t)
 ·exact bH.2 _ t _ (by decide +kernel) (Fg t)
 ·exact bH.2 _ t _ (by decide +kernel) (Ff t)
 ·exact bH.2 _ t _ (by decide +kernel) (Fe t)
 ·exact bH.2 _ t _ (by decide +kernel) (Fd t)
 ·exact bH.2 _ t _ (by decide +kernel) (Br t)
 ·exact bH.2 _ t _ (by decide +kernel) (Bq t)
 ·exact bH.2 _ t _ (by decide +kernel) (Bp t)
section
variable {X:Cx} {K:PySem.W.Frag}
theorem BV:CallR X (.type "int") (rFn K qF 3):=by
 intro pins s σ H xs us Q I r ⟨O,as,t,oa,hd,hr,k⟩
 match as,hr with
 | [.str z],hr =>
  obtain ⟨p,h1,h2⟩:=Option.map_eq_some_iff.mp hr
  subst h2
  obtain ⟨v,rfl,o⟩:=oa.one
  obtain ⟨u,rfl,ru⟩:=bU r
  cases (show v=V.str z from o)
  obtain ⟨tk,rfl⟩:=ru
  have hz:p.1=z:=by
   have:=List.find?_some h1
   simpa using this
  subst hz
  refine call_int_1 (uv p (List.mem_of_find?_eq_some h1) tk) ⟨typeIs_int _ _ _,.int p.2,H,I.tok _,⟨_,rfl⟩,k _ H NoA .refl rfl⟩
end
end L2
namespace L2
open PySem PySem.Spec PyProof.Rows PySem.SeqAt PySem.MeetsSeq
theorem kX (l:Addr) (items:Array Value) (n:Nat) (b:Addr) (items2:Array Value) (n2:Nat) (d2:Option Addr) (sl2:Array (Option Value))
  (h1:¬ (!items.isEmpty && Builtin.List.listTooLong (items.size+items2.size))=true) (h2:items.size≤sizeLine) (h3:items.size+items2.size≤sizeLine) :
  Meets (Builtin.«list.extend» ⟨[.ref l,.ref b],[]⟩) (fun _ R s=>s.heap.get? l=some { cls:=.type "list",data:=.seq items n }∧s.heap.get? b=some { cls:=.type "tuple",dict:=d2,data:=.seq items2 n2,slots:=sl2 } ∧
   R (.ok (.ret .none)) { s with heap:=s.heap.update l (Obj.mapSeq fun x=>x++items2) }) :=
 .of_wp fun prog w A R s h=>by
  obtain ⟨hp,g,d,tk,os⟩:=s
  obtain ⟨hl,hb,h⟩:=h
  wp_walk using wpAny_loadPart' hl,wpAny_load hl,wpAny_loadPart' hb,wpAny_load hb
  have e:(Obj.mapSeq (fun x=>x++items2) ({ cls:=Value.type "list",data:=Data.seq items n }:Obj)).data.pastItsLine=none:=pastItsLine_seq (by rw [Array.size_append]; omega)
  rw [e]
  wp_walk
  exact ⟨_,rfl,h⟩
def nA:V→List V→Hp→VK→Prop:=fun x vs H Q=>∃ l b xs zs,x=.ref l∧vs=[.ref b]∧H l=some (.lst xs)∧H b=some (.tup zs)∧xs.length+zs.length≤sizeLine∧Q .non (upd H l (.lst (xs++zs)))
def jW (i:Nat) (f:ME):ME:=fun en=>match (en[i]?).join with
 | some (.list _)=>(f en).bind fun r=>match r.1,(r.2[i]?).join with
  | .tuple us,some (.list ts)=>if ts.length+us.length≤sizeLine then some (.none,r.2.set i (some (.list (ts++us)))) else none
  | _,_=>none
 | _=>none
section
variable {X:Cx} {K:PySem.W.Frag} {p p1 p2:Bool} {ds ds1 ds2:List Nat} {d d1 d2:Nat} {e:Expr} {f f1 f2:ME} {σ:St} {H:Hp} {Q Q':VK} {i:Nat}
theorem qj:MtM X "list.extend" nA:=by
 intro pins s σ H x vs v us Q I rx rv h
 obtain ⟨l,b,xs,zs,rfl,rfl,hH,hB,hz,q⟩:=h
 cases rx
 obtain ⟨u,rfl,ru⟩:=rv.one
 cases ru
 obtain ⟨z,its,n,r,hl,e⟩:=I.lstM hH
 obtain ⟨its2,r2,pl,hz2⟩:=I.tuple (SqT.of hB)
 obtain ⟨⟨cls,dd,data,sl⟩,ho,hc,m,hda⟩:=id pl
 simp only at hc hda
 subst hc hda
 have q1:=r.length
 have q2:=r2.length
 have hsz:its.toArray.size+its2.toArray.size≤sizeLine:=by rw [List.size_toArray,List.size_toArray]; omega
 have hlong:¬ (!its.toArray.isEmpty && Builtin.List.listTooLong (its.toArray.size+its2.toArray.size))=true:=by
  rw [t7 hsz,Bool.and_false]
  exact Bool.false_ne_true
 refine call_meets F.slot_list_extend ⟨_,e,rfl⟩ F.entry_list_extend (F.args_list_extend_2 _ _) (kX l its.toArray n b its2.toArray m dd sl hlong (by rw [List.size_toArray]; omega) hsz) ⟨e,ho,?_⟩
 refine ⟨.non,_,I.lset (its':=its++its2) hH e (by simp) (r.append r2) ?_,rfl,q⟩
 rw [List.length_append]
 exact hz
theorem Gg (hd:ds1[i]?=some 1) (h:tF K false ds ds1 3 (jW i f) σ H Q):tBM K "list" nA (gO i) (jO (tF K p ds ds1 0 f) nr) σ H Q:=by
 obtain ⟨Ox,en,R,t,en',e,hf,k⟩:=h
 unfold jW at hf
 split at hf
 case h_2=>cases hf
 next ts0 h0 =>
 obtain ⟨⟨t1,en1⟩,h1,hf⟩:=Option.bind_eq_some_iff.mp hf
 dsimp only at hf
 split at hf
 case h_2=>cases hf
 next us ts h2 =>
 by_cases hlen:ts.length+us.length≤sizeLine
 case neg=>rw [if_neg hlen] at hf; cases hf
 rw [if_pos hlen] at hf
 cases hf
 obtain ⟨v,d0,a1,_,a3⟩:=e.at_ i _ (bi h0)
 obtain ⟨l0,vs0,e0,sq⟩:=a3.sqL
 refine ⟨v,a1,?_,Ox,en,R,_,en1,e,h1,fun x H1 R1 F P o=>?_⟩
 ·rw [e0]; exact .inl ⟨rfl,vs0,sq⟩
 obtain ⟨v',d',b1,b2,b3⟩:=P.env.at_ i _ (bi h2)
 rw [a1] at b1
 cases b1
 rw [hd] at b2
 cases b2
 obtain ⟨l,vs,el,hl,hr,F',hf',ow⟩:=b3.ownL (by decide)
 obtain ⟨m,ws,em,fz,ow2⟩:=(Ow.any0 _ o).tup0
 refine ⟨l,m,vs,ws,el,by rw [em],hl,fz.1,by rw [ow.len,ow2.len]; exact hlen,?_⟩
 have hi:i < en1.length:=(List.getElem?_eq_some_iff.mp (bi h2)).1
 have sub:=lB (i:=i) (R1:=R1) (Ox:=Ox) (G:=fun a=>R1 i a∨F a) (F':=NoA) (F:=F) (fun _ z=>z) (fun _ z=>z.elim)
 have Ol:Own R1 (U F Ox) l:=.inl ⟨i,hr⟩
 refine k .non (upd H1 l (.lst (vs++ws))) _ NoA (P.slot (G:=fun a=>R1 i a∨F a) hr hi a1 hd (fun _ z=>z) (fun _ z=>z.elim) (fun _ _ z=>z) ?_) rfl
 refine ⟨l,vs++ws,el,.inr ⟨by decide,aG,.inl hr,U F' NoA,fun b z=>?_,?_⟩⟩
 ·rcases z with z | z
  ·exact ⟨.inl (hf' b z).1,(hf' b z).2⟩
  ·exact z.elim
 ·exact Ows.cat (Ows.past sub Ol (fun b z=>(hf' b z).2) ow) (Ows.past sub Ol (fun b z=>z.elim) ow2) fun b z1 z2=>z2.elim
theorem B8 {x:Str} {px apos cpos:Pos} (hK:X.K=K) (hN:X.N[i]?=some x) (hv:Vis X.env.scope x) (h1:ds1[i]?=some 1) (he:PE X e (tF K false ds ds1 0 f))
  (hd:(x == ("__debug__" : Str))=false) (hcd:(x == ("__classdict__" : Str))=false)
  (hbase:attributeBase (.Name x px) "extend" X.env (eval (.Name x px) X.env)=eval (.Name x px) X.env)
  (hfew:((backTo cpos (starEach [e] X.env)).all (fun x=>!x.1) && (backToKw cpos (keywordEach [] X.env)).all (fun x=>x.1.isSome) && decide (([e]:List Expr).length+([]:List Keyword).length+(if ([]:List Keyword).isEmpty then 0 else 1) < 30))=true)
  (hline:(apos.endLine == cpos.line)=true) (hs:starEach [e] X.env=[(false,eval e X.env)]) (hplain:(backTo cpos (starEach [] X.env)).any (·.1)=false) :
  PE X (.Call (.Attribute (.Name x px) "extend" apos) [e] [] cpos) (tF K false ds ds1 3 (jW i f)):=by
 subst hK
 exact (ng PySem.F.plainAttrs_list PySem.F.slot_list_extend PySem.F.type_list_extend qj (e7 hN hv hd hcd) (bK he pa_nil hs) hbase hfew hline hs hplain).imp fun _ _ _=>Gg h1
def eSc (f:ME):ME:=fun en=>(f en).bind fun r=>match r.1 with
 | .str z=>some (.str z,r.2)
 | .int n=>some (.int n,r.2)
 | _=>none
theorem G5 (he:PE X e (tF K p ds ds1 d f)):PE X e (tF K p ds ds1 3 (eSc f)):=he.imp fun σ H Q ⟨Ox,en,R,t,en',e,hf,k⟩=>by
 unfold eSc at hf
 obtain ⟨⟨t1,en1⟩,h1,hf⟩:=Option.bind_eq_some_iff.mp hf
 dsimp only at hf
 split at hf
 ·cases hf
  exact ⟨Ox,en,R,_,_,e,h1,fun v H' R' F P o=>k v H' R' NoA (P.less fun _ z=>z.elim) (show v=V.str _ from o)⟩
 ·cases hf
  exact ⟨Ox,en,R,_,_,e,h1,fun v H' R' F P o=>k v H' R' NoA (P.less fun _ z=>z.elim) (show v=V.int _ from o)⟩
 ·cases hf
def h9 (z y:Str):List Str:=if (Builtin.Str.occurrences z y 0 z.length (z.length+1)).isEmpty then [z] else Builtin.Str.partsBetween z (Builtin.Str.occurrences z y 0 z.length (z.length+1)) y.length
def eZ:D→D→Option D
 | .str z,.str y=>grd ((decide (z.length < y.length) || decide (Builtin.Str.strKind z < Builtin.Str.strKind y))=false∧(y.length == 0)=false∧z.length≤100000∧(h9 z y).length≤100000) (.list ((h9 z y).map .str))
 | _,_=>none
theorem mr:∀ (k:Nat) (ys:List Str),Vals (ys.map V.str) (strsFrom k ys)
 | _,[]=>.nil
 | k,y :: ys=>.cons ⟨_,rfl⟩ (mr (k+1) ys)
theorem mz (O:AS) (H:Hp) (d:Nat):∀ ys:List Str,Ows K O H (ys.map .str) d (ys.map V.str) NoA
 | []=>rfl
 | y :: ys=>⟨.str y,ys.map V.str,NoA,NoA,rfl,fun _ z=>z,fun _ z=>z,fun _ z=>z.elim,rfl,mz O H d ys⟩
theorem uE (hK:X.K=K):OpR X (fun v u=>call (.builtin "str.split") [v,u]) (rF2 K eZ 3):=by
 subst hK
 intro pins s σ H x y v u Q I rx ry ⟨O,a,b,t,oa,ob,hd,hg,k⟩
 unfold eZ at hg
 split at hg
 case h_2=>cases hg
 next z w =>
 obtain ⟨⟨c1,c2,c3,c4⟩,rfl⟩:=bv hg
 cases (show x=V.str z from oa)
 cases (show y=V.str w from ob)
 obtain ⟨t1,rfl⟩:=rx
 obtain ⟨t2,rfl⟩:=ry
 have hf:H s.heap.objs.size=none:=I.hok.fresh (Nat.le_refl _)
 have sl:(100000:Nat)≤sizeLine:=by decide
 have fin:∀ (its:List Value) (tk:Nat),Vals ((h9 z w).map V.str) its→EP X pins σ Q (.ref s.heap.objs.size) { s with heap:=s.heap.push { cls:=.type "list",data:=.seq its.toArray },toks:=tk }:=fun its tk rv=>by
  refine ⟨.ref _,_,I.lnew (t':=tk) rv (by rw [List.length_map]; omega),rfl,k _ _ (fun b=>b=s.heap.objs.size) (bw hf) ?_⟩
  exact ⟨_,_,rfl,.inr ⟨by decide,aG,rfl,NoA,fun _ z=>z.elim,mz _ _ _ _⟩⟩
 by_cases he:(Builtin.Str.occurrences z w 0 z.length (z.length+1)).isEmpty=true
 ·refine call_meets F.slot_str_split (typeIs_str s z t1) F.entry_str_split (F.args_str_split_2 _ _) (meets_str_split_not_found z w t1 t2 c1 c2 he) ?_
  have e:h9 z w=[z]:=if_pos he
  exact fin [.str z t1] s.toks (by rw [e]; exact .cons ⟨_,rfl⟩ .nil)
 ·have he':(Builtin.Str.occurrences z w 0 z.length (z.length+1)).isEmpty=false:=by simpa using he
  have e:h9 z w=Builtin.Str.partsBetween z (Builtin.Str.occurrences z w 0 z.length (z.length+1)) w.length:=if_neg he
  refine call_meets F.slot_str_split (typeIs_str s z t1) F.entry_str_split (F.args_str_split_2 _ _) (meets_str_split_sep z w t1 t2 c1 c2 he' (by omega) (by rw [← e]; omega)) ?_
  exact fin _ _ (by rw [e]; exact mr _ _)
theorem uJ {o:Expr} {apos cpos:Pos} (hK:X.K=K) (ho:PE X o (tF K p ds ds1 d1 f1)) (he:PE X e (tF K p ds1 ds2 d2 f2))
  (hbase:attributeBase o "split" X.env (eval o X.env)=eval o X.env)
  (hfew:((backTo cpos (starEach [e] X.env)).all (fun x=>!x.1) && (backToKw cpos (keywordEach [] X.env)).all (fun x=>x.1.isSome) && decide (([e]:List Expr).length+([]:List Keyword).length+(if ([]:List Keyword).isEmpty then 0 else 1) < 30))=true)
  (hline:(apos.endLine == cpos.line)=true) (hs:starEach [e] X.env=[(false,eval e X.env)]) (hplain:(backTo cpos (starEach [] X.env)).any (·.1)=false) :
  PE X (.Call (.Attribute o "split" apos) [e] [] cpos) (tF K p ds ds2 3 (e2 eZ f1 f2)):=by
 subst hK
 refine FU (Ty:=fun x _=>∃ z,x=V.str z) F.plainAttrs_str F.slot_str_split F.type_str_split (fun a b t O x H F hg o=>?_) (fun pins s σ H x v I r ty=>?_) (uE rfl) ho he hbase hfew hline hs hplain
 ·unfold eZ at hg
  split at hg
  ·exact ⟨_,o⟩
  ·cases hg
 ·obtain ⟨z,rfl⟩:=ty
  obtain ⟨t,rfl⟩:=r
  exact ⟨typeIs_str s z t,fun a e=>nomatch e⟩
end
section
variable {X:Cx} {K:PySem.W.Frag} {p p1 p2 q:Bool} {J:Jd} {ds ds0 ds1 ds2 ds' dsi dps:List Nat} {d d' d1 d2 dr:Nat} {a b c e tg iter:Expr} {es:List Expr} {st:Stmt} {rest body bodyB:List Stmt} {f f1 f2 fk fe:ME} {c1 c2:MT} {fa:MA} {sh:Sh} {pos px:Pos} {i:Nat} {x:Str} {m m1 m2:MS} {g:MG} {gs:List D→En→Option En} {fi:MI} {lk:List Nat}
theorem qH {x:Str} {spos pos':Pos} {elt:Expr} {ifs:List Expr} {scope:Scope} {ns:List Str} {js:List (Option Nat)} (hN:X.N.Nodup) (hi':X.N[i]?=some x) (hx:X.env.scope.names.lookup x=some .local) (B:BlkOkC X scope ns js) (hc:X.calm=true) (hi:PI X tg iter (tFI K true ds0 ds0 fi))
  (hg:∀ C cl s₀ H₀ fp,PG (aD X scope ns C cl s₀ H₀ fp) tg (tFG K lk dsi dsi g)) (ht:∀ C cl s₀ H₀ fp,PTs (aD X scope ns C cl s₀ H₀ fp) ifs (tFT K true dsi dsi c1)) (he:∀ C cl s₀ H₀ fp,PE (aD X scope ns C cl s₀ H₀ fp) elt (tF K true dsi dsi 3 f))
  (hle:leD ds0 ds=true) (hds:ds.set i 3=ds') (hcap:dW ds0 js dsi=true) (hlk:lk=dU js 0) (hl:i < ds.length) (hk:i ∉ J.lk)
  (hsw:swapsWith (.ListComp elt [⟨tg,iter,ifs,0⟩] scope pos) (some (.Name x pos')) spos.line X.env=pure true)
  (hs:∀ x,foldedSetIterable iter X.env x=pure x):PS X (.Assign [.Name x pos'] (.ListComp elt [⟨tg,iter,ifs,0⟩] scope pos) spos) (tFS K J ds ds' (aA i (eLC true fi g c1 f js))):=by
 subst hds
 exact (mx hN hi' hx B hc hi hg ht he hsw hs).imp fun D σ H h=>qM (p:=true) (q:=true) hcap rfl (by decide) hlk (AD hle (om (p:=true) hl hk h))
end
end L2
namespace L2
open PySem PySem.Spec PyProof.Rows
structure ZApartT (z TI TO i1 i2 ta tb:Addr):Prop extends ZApart z TI TO i1 i2 where
 taz:ta≠z
 taTO:ta≠TO
 tai1:ta≠i1
 tai2:ta≠i2
 tbz:tb≠z
 tbTO:tb≠TO
 tbi1:tb≠i1
 tbi2:tb≠i2
def TSt (h:Heap) (i t:Addr) (x:Array Value) (k:Nat):Prop:=h.IsTupleIter i t k∧h.IsTuple t x
theorem TSt.ext {h h':Heap} {i t b:Addr} {x:Array Value} {k:Nat} (st:TSt h i t x k) (s:Heap.SameBut b h h') (n1:i≠b) (n2:t≠b):TSt h' i t x k :=
 ⟨let ⟨o,ho,r⟩:=st.1; ⟨o,s.extBut _ _ n1 ho,r⟩,let ⟨o,ho,r⟩:=st.2; ⟨o,s.extBut _ _ n2 ho,r⟩⟩
section
variable {prog:Program} {w:World} {A:Around} {E:Value→Shared→Prop} {s:Shared}
theorem lN {z TI TO i1 i2:Addr} {k1 k2:Nat} {x1 x2:Array Value} {ta tb:Addr} {a b:Value} {Q:Value→Shared→Prop} (hh:A.handled=none) (D:ZApartT z TI TO i1 i2 ta tb)
  (hz:IsZip s.heap z TI TO .none) (hTI:IsPair s.heap TI (.ref i1) (.ref i2)) (hTO:IsPair s.heap TO a b)
  (h1:TSt s.heap i1 ta x1 k1) (h2:TSt s.heap i2 tb x2 k2) (hk1:k1 < x1.size) (hk2:k2 < x2.size)
  (hQ:∀ h' tk (c d:Value),x1[k1]?=some c→x2[k2]?=some d→IsZip h' z TI TO (rawInt s.heap.objs.size)→IsPair h' TO c d→h'.IsTupleIter i1 ta (k1+1)→h'.IsTupleIter i2 tb (k2+1) →
   IsPair h' s.heap.objs.size c d→h'.objs.size=s.heap.objs.size+1 →
   (∀ c o,c≠z→c≠TO→c≠i1→c≠i2→s.heap.get? c=some o→h'.get? c=some o)→Q (.ref s.heap.objs.size) { s with heap:=h',toks:=tk }) :
  wpAny (model prog w) A (Builtin.«zip.__next__» ⟨[.ref z],[]⟩) (fun fin s'=>∃ v,fin=.done (.ret v)∧Q v s') E s:=by
 show wpAny _ _ (field (.ref z) 2 >>= _) _ _ _
 refine wpAny_bind (wpAny_field hz rfl (x:=.bool false) rfl ?_)
 show wpAny _ _ (field (.ref z) 3 >>= _) _ _ _
 refine wpAny_bind (wpAny_field hz rfl (x:=.ref TI) rfl ?_)
 refine wpAny_bind (wpAny_seqItems hTI rfl ?_)
 show wpAny _ _ (Builtin.SmallTypes.ownedTupleIsFree (.ref z) >>= _) _ _ _
 refine wpAny_bind ?_
 unfold Builtin.SmallTypes.ownedTupleIsFree
 refine wpAny_bind (wpAny_field hz rfl (x:=.none) rfl (wpAny_pure ?_))
 simp only [if_true]
 refine wpAny_bind (wpAny_rule ?_)
 refine wpAny_bind (wpAny_field hz rfl (x:=.ref TO) rfl ?_)
 refine wpAny_bind (wpAny_setField_rec hz (by simp) fun h₁ hz₁ hs₁=>?_)
 replace hz₁:IsZip h₁ z TI TO .ellipsis:=hz₁
 refine wpAny_bind ?_
 simp only [List.zipIdx_cons,List.zipIdx_nil,List.forIn_cons,List.forIn_nil]
 refine wpAny_bind (wpAny_bind (wpAny_onRaise ?_))
 show wpAny _ _ (Builtin.SmallTypes.nextOf (.ref i1) >>= _) _ _ _
 refine wpAny_bind ((fj hh i1 ta D.tai1 x1).item k1 _ _ _ hk1 (h1.ext hs₁ D.i1z D.taz) fun v1 h₂ tk2 hp1 h1₂ hs₂=>wpAny_pure ?_)
 have hc:x1[k1]?=some v1:=hp1
 have hTO₂:IsPair h₂ TO a b:=hs₂.extBut _ _ D.TOi1 (hs₁.extBut _ _ D.TOz hTO)
 refine wpAny_bind (wpAny_seqItems hTO₂ rfl ?_)
 refine wpAny_bind (wpAny_updateSeq_pair hTO₂ fun h₃ hTO₃ hs₃=>?_)
 replace hTO₃:IsPair h₃ TO v1 b:=hTO₃
 refine wpAny_bind (wpAny_letGo (wpAny_pure ?_))
 refine wpAny_bind (wpAny_bind (wpAny_onRaise ?_))
 show wpAny _ _ (Builtin.SmallTypes.nextOf (.ref i2) >>= _) _ _ _
 refine wpAny_bind ((fj hh i2 tb D.tbi2 x2).item k2 _ _ _ hk2 (((h2.ext hs₁ D.i2z D.tbz).ext hs₂ D.i12.symm D.tbi1).ext hs₃ D.TOi2.symm D.tbTO) fun v2 h₄ tk4 hp2 h2₄ hs₄=>wpAny_pure ?_)
 have hd:x2[k2]?=some v2:=hp2
 have hTO₄:IsPair h₄ TO v1 b:=hs₄.extBut _ _ D.TOi2 hTO₃
 refine wpAny_bind (wpAny_seqItems hTO₄ rfl ?_)
 refine wpAny_bind (wpAny_updateSeq_pair hTO₄ fun h₅ hTO₅ hs₅=>?_)
 replace hTO₅:IsPair h₅ TO v1 v2:=hTO₅
 refine wpAny_bind (wpAny_letGo (wpAny_pure (wpAny_pure ?_)))
 refine wpAny_bind (wpAny_seqItems hTO₅ rfl ?_)
 refine wpAny_bind (wpAny_newTuple ?_)
 have hsz:h₅.objs.size=s.heap.objs.size:=by rw [hs₅.1,hs₄.1,hs₃.1,hs₂.1,hs₁.1]
 have hz₅:IsZip h₅ z TI TO .ellipsis:=hs₅.extBut _ _ D.TOz.symm (hs₄.extBut _ _ D.i2z.symm (hs₃.extBut _ _ D.TOz.symm (hs₂.extBut _ _ D.i1z.symm hz₁)))
 have hk₅:∀ c o,c≠z→c≠TO→c≠i1→c≠i2→s.heap.get? c=some o→h₅.get? c=some o:=fun c o c1 c2 c3 c4 e =>
  hs₅.extBut _ _ c2 (hs₄.extBut _ _ c4 (hs₃.extBut _ _ c2 (hs₂.extBut _ _ c3 (hs₁.extBut _ _ c1 e))))
 have h1₅:TSt h₅ i1 ta x1 (k1+1):=((TSt.ext h1₂ hs₃ D.TOi1.symm D.taTO).ext hs₄ D.i12 D.tai2).ext hs₅ D.TOi1.symm D.taTO
 have h2₅:TSt h₅ i2 tb x2 (k2+1):=TSt.ext h2₄ hs₅ D.TOi2.symm D.tbTO
 have hzlt:z < h₅.objs.size:=Heap.lt_size hz₅
 show wpAny _ _ (Builtin.SmallTypes.ownedTupleHandOut (.ref z) (.ref h₅.objs.size) >>= _) _ _ _
 refine wpAny_bind ?_
 unfold Builtin.SmallTypes.ownedTupleHandOut
 have hz₆:IsZip (h₅.push { cls:=.type "tuple",data:=.seq #[v1,v2] }) z TI TO .ellipsis:=Heap.get?_push_of_some _ hz₅
 refine wpAny_bind (wpAny_setField_rec hz₆ (by simp) fun h₇ hz₇ hs₇=>?_)
 replace hz₇:IsZip h₇ z TI TO (rawInt h₅.objs.size):=hz₇
 refine wpAny_setField_rec hz₇ (by simp) fun h₈ hz₈ hs₈=>?_
 replace hz₈:IsZip h₈ z TI TO (rawInt h₅.objs.size):=hz₈
 have up:∀ c o,c≠z→h₅.get? c=some o→h₈.get? c=some o:=fun c o c1 e=>hs₈.extBut _ _ c1 (hs₇.extBut _ _ c1 (Heap.get?_push_of_some _ e))
 have hT₈:IsPair h₈ h₅.objs.size v1 v2:=hs₈.extBut _ _ (Nat.ne_of_gt hzlt) (hs₇.extBut _ _ (Nat.ne_of_gt hzlt) (Heap.get?_push_size _ rfl))
 have hz8:h₈.objs.size=h₅.objs.size+1:=by rw [hs₈.1,hs₇.1,Heap.size_push]
 rw [hsz] at hz₈ hT₈ hz8
 refine wpAny_pure ⟨_,rfl,?_⟩
 show Q (.ref h₅.objs.size) _
 rw [hsz]
 exact hQ h₈ _ v1 v2 hc hd hz₈ (up _ _ D.TOz hTO₅) (let ⟨o,ho,r⟩:=h1₅.1; ⟨o,up _ _ D.i1z ho,r⟩) (let ⟨o,ho,r⟩:=h2₅.1; ⟨o,up _ _ D.i2z ho,r⟩) hT₈ hz8 fun c o c1 c2 c3 c4 e=>up c o c1 (hk₅ c o c1 c2 c3 c4 e)
theorem mW {z TI TO i1 i2:Addr} {k1 k2:Nat} {x1 x2:Array Value} {ta tb:Addr} {a b:Value} {Q:Fin→Shared→Prop} (hh:A.handled=none) (D:ZApartT z TI TO i1 i2 ta tb)
  (hz:IsZip s.heap z TI TO .none) (hTI:IsPair s.heap TI (.ref i1) (.ref i2)) (hTO:IsPair s.heap TO a b)
  (h1:TSt s.heap i1 ta x1 k1) (h2:TSt s.heap i2 tb x2 k2) (hend:k1=x1.size∨(k1 < x1.size∧k2=x2.size))
  (hE:∀ h' e tk,(∀ c o,c≠z→c≠TO→c≠i1→c≠i2→s.heap.get? c=some o→h'.get? c=some o)→(∃ o,h'.get? e=some o∧o.cls=.type "StopIteration")→E (.ref e) { s with heap:=h',toks:=tk }) :
  wpAny (model prog w) A (Builtin.«zip.__next__» ⟨[.ref z],[]⟩) Q E s:=by
 show wpAny _ _ (field (.ref z) 2 >>= _) _ _ _
 refine wpAny_bind (wpAny_field hz rfl (x:=.bool false) rfl ?_)
 show wpAny _ _ (field (.ref z) 3 >>= _) _ _ _
 refine wpAny_bind (wpAny_field hz rfl (x:=.ref TI) rfl ?_)
 refine wpAny_bind (wpAny_seqItems hTI rfl ?_)
 show wpAny _ _ (Builtin.SmallTypes.ownedTupleIsFree (.ref z) >>= _) _ _ _
 refine wpAny_bind ?_
 unfold Builtin.SmallTypes.ownedTupleIsFree
 refine wpAny_bind (wpAny_field hz rfl (x:=.none) rfl (wpAny_pure ?_))
 simp only [if_true]
 refine wpAny_bind (wpAny_rule ?_)
 refine wpAny_bind (wpAny_field hz rfl (x:=.ref TO) rfl ?_)
 refine wpAny_bind (wpAny_setField_rec hz (by simp) fun h₁ hz₁ hs₁=>?_)
 replace hz₁:IsZip h₁ z TI TO .ellipsis:=hz₁
 refine wpAny_bind ?_
 simp only [List.zipIdx_cons,List.zipIdx_nil,List.forIn_cons,List.forIn_nil]
 refine wpAny_bind (wpAny_bind (wpAny_onRaise ?_))
 show wpAny _ _ (Builtin.SmallTypes.nextOf (.ref i1) >>= _) _ _ _
 rcases hend with rfl | ⟨hk1,rfl⟩
 ·refine wpAny_bind ((fj hh i1 ta D.tai1 x1).done _ _ _ (h1.ext hs₁ D.i1z D.taz) fun h₂ e hs₂ he=>?_)
  obtain ⟨oe,hoe,hce⟩:=he
  have hz₂:IsZip h₂ z TI TO .ellipsis:=hs₂ _ _ D.i1z.symm hz₁
  have hez:e≠z:=fun x=>by subst x; rw [hz₂] at hoe; cases hoe; simp at hce
  refine wpAny_setField_rec hz₂ (by simp) fun h₃ _ hs₃=>hE h₃ e _ (fun c o c1 _ c3 _ x=>hs₃.extBut _ _ c1 (hs₂ _ _ c3 (hs₁.extBut _ _ c1 x))) ⟨oe,hs₃.extBut _ _ hez hoe,hce⟩
 ·refine wpAny_bind ((fj hh i1 ta D.tai1 x1).item k1 _ _ _ hk1 (h1.ext hs₁ D.i1z D.taz) fun v1 h₂ tk2 hp1 h1₂ hs₂=>wpAny_pure ?_)
  have hTO₂:IsPair h₂ TO a b:=hs₂.extBut _ _ D.TOi1 (hs₁.extBut _ _ D.TOz hTO)
  refine wpAny_bind (wpAny_seqItems hTO₂ rfl ?_)
  refine wpAny_bind (wpAny_updateSeq_pair hTO₂ fun h₃ hTO₃ hs₃=>?_)
  refine wpAny_bind (wpAny_letGo (wpAny_pure ?_))
  refine wpAny_bind (wpAny_bind (wpAny_onRaise ?_))
  show wpAny _ _ (Builtin.SmallTypes.nextOf (.ref i2) >>= _) _ _ _
  refine wpAny_bind ((fj hh i2 tb D.tbi2 x2).done _ _ _ (((h2.ext hs₁ D.i2z D.tbz).ext hs₂ D.i12.symm D.tbi1).ext hs₃ D.TOi2.symm D.tbTO) fun h₄ e hs₄ he=>?_)
  obtain ⟨oe,hoe,hce⟩:=he
  have hz₄:IsZip h₄ z TI TO .ellipsis:=hs₄ _ _ D.i2z.symm (hs₃.extBut _ _ D.TOz.symm (hs₂.extBut _ _ D.i1z.symm hz₁))
  have hez:e≠z:=fun x=>by subst x; rw [hz₄] at hoe; cases hoe; simp at hce
  refine wpAny_setField_rec hz₄ (by simp) fun h₅ _ hs₅=>hE h₅ e _ (fun c o c1 c2 c3 c4 x=>hs₅.extBut _ _ c1 (hs₄ _ _ c4 (hs₃.extBut _ _ c2 (hs₂.extBut _ _ c3 (hs₁.extBut _ _ c1 x))))) ⟨oe,hs₅.extBut _ _ hez hoe,hce⟩
theorem kj {z TI TO i1 i2:Addr} {k1 k2:Nat} {x1 x2:Array Value} {ta tb:Addr} {a b:Value} {Q:Option Value→Shared→Prop} (hh:A.handled=none) (D:ZApartT z TI TO i1 i2 ta tb)
  (hz:IsZip s.heap z TI TO .none) (hTI:IsPair s.heap TI (.ref i1) (.ref i2)) (hTO:IsPair s.heap TO a b)
  (h1:TSt s.heap i1 ta x1 k1) (h2:TSt s.heap i2 tb x2 k2) (hk1:k1 < x1.size) (hk2:k2 < x2.size)
  (hQ:∀ h' tk (c d:Value),x1[k1]?=some c→x2[k2]?=some d→IsZip h' z TI TO (rawInt s.heap.objs.size)→IsPair h' TO c d→h'.IsTupleIter i1 ta (k1+1)→h'.IsTupleIter i2 tb (k2+1) →
   IsPair h' s.heap.objs.size c d→h'.objs.size=s.heap.objs.size+1 →
   (∀ c o,c≠z→c≠TO→c≠i1→c≠i2→s.heap.get? c=some o→h'.get? c=some o)→Q (some (.ref s.heap.objs.size)) { s with heap:=h',toks:=tk }) :
  wpAny (model prog w) A (pyNext (.ref z)) Q E s:=by
 have hT:s.TypeIs (.ref z) "zip":=⟨_,hz,rfl⟩
 unfold pyNext
 exact wpAny_bind (wpAny_attempt (wpAny_callSpecial?_slot (name:=Str.ofString "__next__") hT F.slot_zip_next
  (wpAny_call_entry F.slot_zip_next hT F.entry_zip_next
   (lN hh D hz hTI hTO h1 h2 hk1 hk2 fun h' tk c d a1 a2 a3 a4 a5 a6 a7 a8 a9=>wpAny_pure (hQ h' tk c d a1 a2 a3 a4 a5 a6 a7 a8 a9)) (F.args_zip_next_1 _))))
theorem kU {z TI TO i1 i2:Addr} {k1 k2:Nat} {x1 x2:Array Value} {ta tb:Addr} {a b:Value} {Q:Option Value→Shared→Prop} (hh:A.handled=none) (D:ZApartT z TI TO i1 i2 ta tb)
  (hz:IsZip s.heap z TI TO .none) (hTI:IsPair s.heap TI (.ref i1) (.ref i2)) (hTO:IsPair s.heap TO a b)
  (h1:TSt s.heap i1 ta x1 k1) (h2:TSt s.heap i2 tb x2 k2) (hend:k1=x1.size∨(k1 < x1.size∧k2=x2.size))
  (hQ:∀ h' tk,(∀ c o,c≠z→c≠TO→c≠i1→c≠i2→s.heap.get? c=some o→h'.get? c=some o)→Q none { s with heap:=h',toks:=tk }):wpAny (model prog w) A (pyNext (.ref z)) Q E s:=by
 have hT:s.TypeIs (.ref z) "zip":=⟨_,hz,rfl⟩
 unfold pyNext
 refine wpAny_bind (wpAny_attempt (wpAny_callSpecial?_slot (name:=Str.ofString "__next__") hT F.slot_zip_next
  (wpAny_call_entry F.slot_zip_next hT F.entry_zip_next (mW hh D hz hTI hTO h1 h2 hend fun h' e tk hk he=>?_) (F.args_zip_next_1 _))))
 obtain ⟨o,ho,hc⟩:=he
 refine wpAny_bind (wpAny_isInstance (T:="StopIteration") (b:=true) ⟨o,ho,hc⟩ isSubtype_stop ?_)
 exact wpAny_pure (hQ _ tk hk)
end
abbrev zT1 (h:Heap) (a:Addr):Heap:=h.push { cls:=.type "tuple_iterator",data:=.fields #[.ref a,.int 0 0] }
abbrev zT2 (h:Heap) (a b:Addr):Heap:=(zT1 h a).push { cls:=.type "tuple_iterator",data:=.fields #[.ref b,.int 0 0] }
abbrev zT3 (h:Heap) (a b:Addr):Heap:=(zT2 h a b).push { cls:=.type "tuple",data:=.seq #[.ref h.objs.size,.ref (zT1 h a).objs.size] }
abbrev zT4 (h:Heap) (a b:Addr):Heap:=(zT3 h a b).push { cls:=.type "tuple",data:=.seq #[.none,.none] }
abbrev zT5 (h:Heap) (a b:Addr):Heap:=(zT4 h a b).push { cls:=.type "zip",data:=.fields #[.none,.bool false,.bool false,.ref (zT2 h a b).objs.size,.ref (zT3 h a b).objs.size] }
theorem lY (a b:Addr) (x y:Array Value) :
  Meets (Builtin.«zip.__new__» ⟨[.type "zip",.ref a,.ref b],[]⟩) (fun _ R s=>(s.heap.IsTuple a x∧s.heap.IsTuple b y)∧R (.ok (.ret (.ref (zT4 s.heap a b).objs.size))) { s with heap:=zT5 s.heap a b }) :=
 .of_wp fun prog w A R s h=>by
  obtain ⟨hp,g,d,tk,os⟩:=s
  obtain ⟨⟨ha,hb⟩,h⟩:=h
  have hsub:isSubtype (.type "zip") (.type "zip")=pure true:=by rw [isSubtype_type]; kernel_rfl
  have hb':=hb.push { cls:=.type "tuple_iterator",data:=.fields #[.ref a,.int 0 0] }
  wp_walk using wpAny_pyIter_tuple ha,wpAny_pyIter_tuple hb'
  exact ⟨_,rfl,h⟩
section
variable {prog:Program} {w:World} {A:Around} {E:Value→Shared→Prop} {s:Shared}
theorem sV {a b:Addr} {x y:Array Value} {Q:Value→Shared→Prop}
  (ha:s.heap.IsTuple a x) (hb:s.heap.IsTuple b y) (h:∀ h',IsZip h' (s.heap.objs.size+4) (s.heap.objs.size+2) (s.heap.objs.size+3) .none→IsPair h' (s.heap.objs.size+2) (.ref s.heap.objs.size) (.ref (s.heap.objs.size+1)) →
   IsPair h' (s.heap.objs.size+3) .none .none→h'.IsTupleIter s.heap.objs.size a 0→h'.IsTupleIter (s.heap.objs.size+1) b 0→h'.objs.size=s.heap.objs.size+5 →
   (∀ c o,s.heap.get? c=some o→h'.get? c=some o)→Q (.ref (s.heap.objs.size+4)) { s with heap:=h' }) :
  wpAny (model prog w) A (call (.type "zip") [.ref a,.ref b]) Q E s:=by
 refine callType_new F.called_zip (by decide) (F.typeCall_zip_2 _ _) (F.newCall_zip_2 _ _) (fun obj=>F.args_object_init_3 obj _ _) F.entry_zip_new
  (lY a b x y) ?_
 have z1:(zT1 s.heap a).objs.size=s.heap.objs.size+1:=Heap.size_push ..
 have z2:(zT2 s.heap a b).objs.size=s.heap.objs.size+2:=by rw [Heap.size_push,z1]
 have z3:(zT3 s.heap a b).objs.size=s.heap.objs.size+3:=by rw [Heap.size_push,z2]
 have z4:(zT4 s.heap a b).objs.size=s.heap.objs.size+4:=by rw [Heap.size_push,z3]
 have z5:(zT5 s.heap a b).objs.size=s.heap.objs.size+5:=by rw [Heap.size_push,z4]
 have g5:(zT5 s.heap a b).get? (zT4 s.heap a b).objs.size=some _:=Heap.get?_push_size _ rfl
 have g4:(zT5 s.heap a b).get? (zT3 s.heap a b).objs.size=some _:=Heap.get?_push_of_some _ (Heap.get?_push_size _ rfl)
 have g3:(zT5 s.heap a b).get? (zT2 s.heap a b).objs.size=some _:=Heap.get?_push_of_some _ (Heap.get?_push_of_some _ (Heap.get?_push_size _ rfl))
 have g2:(zT5 s.heap a b).get? (zT1 s.heap a).objs.size=some _:=Heap.get?_push_of_some _ (Heap.get?_push_of_some _ (Heap.get?_push_of_some _ (Heap.get?_push_size _ rfl)))
 have g1:(zT5 s.heap a b).get? s.heap.objs.size=some _:=Heap.get?_push_of_some _ (Heap.get?_push_of_some _ (Heap.get?_push_of_some _ (Heap.get?_push_of_some _ (Heap.get?_push_size _ rfl))))
 refine ⟨⟨ha,hb⟩,?_⟩
 show _∧_
 rw [z2,z3,z4] at g5
 rw [z1,z2] at g3
 rw [z3] at g4
 rw [z1] at g2
 rw [z4]
 exact ⟨⟨_,g5,rfl⟩,h _ g5 g3 g4 ⟨_,g1,rfl,rfl⟩ ⟨_,g2,rfl,rfl⟩ z5 fun c o x =>
  Heap.get?_push_of_some _ (Heap.get?_push_of_some _ (Heap.get?_push_of_some _ (Heap.get?_push_of_some _ (Heap.get?_push_of_some _ x))))⟩
end
theorem oO {n a b:Nat} (ha:a < n) (hb:b < n):ZApartT (n+4) (n+2) (n+3) n (n+1) a b :=
 ⟨pT n,Nat.ne_of_lt (by omega),Nat.ne_of_lt (by omega),Nat.ne_of_lt (by omega),Nat.ne_of_lt (by omega),Nat.ne_of_lt (by omega),Nat.ne_of_lt (by omega),Nat.ne_of_lt (by omega),Nat.ne_of_lt (by omega)⟩
section
variable {X:Cx} {tg:Expr} {K:PySem.W.Frag}
def u7 (K:PySem.W.Frag) (a b:Addr):It :=
 ⟨fun i H=>∃ xs ys x y,SqT K H a xs∧SqT K H b ys∧xs[i]?=some x∧ys[i]?=some y,
  fun i H v H'=>∃ p x y,v=.ref p∧H p=none∧H'=upd H p (.tup [x,y])∧(∀ xs,SqT K H a xs→xs[i]?=some x)∧(∀ ys,SqT K H b ys→ys[i]?=some y),
  fun i H=>∃ xs ys,SqT K H a xs∧SqT K H b ys∧(i=xs.length∨(i < xs.length∧i=ys.length))⟩
theorem rn {P:Program} {w:World} {elts:List Expr} {k:Nat} {tp:Pos} (z TI TO i1 i2 a b:Addr) (D:ZApartT z TI TO i1 i2 a b) :
  Turn P w K (.Tuple elts k tp) (u7 K a b) [z,TI,TO,i1,i2] z (fun i h=>IsZip h z TI TO .none∧IsPair h TI (.ref i1) (.ref i2)∧(∃ u v,IsPair h TO u v)∧h.IsTupleIter i1 a i∧h.IsTupleIter i2 b i) where
 mem:=by simp
 obj:=fun i h st c hc=>by
  obtain ⟨h1,h2,⟨u,v,h3⟩,⟨o4,g4,_,d4⟩,⟨o5,g5,_,d5⟩⟩:=st
  have hc':c=z∨c=TI∨c=TO∨c=i1∨c=i2:=by simpa using hc
  rcases hc' with rfl | rfl | rfl | rfl | rfl
  ·exact ⟨_,h1,fun v q=>by
    have q':Data.fields _=Data.cell v:=q
    cases q'⟩
  ·exact ⟨_,h2,fun v q=>by
    have q':Data.seq _ _=Data.cell v:=q
    cases q'⟩
  ·exact ⟨_,h3,fun v q=>by
    have q':Data.seq _ _=Data.cell v:=q
    cases q'⟩
  ·exact ⟨o4,g4,fun v q=>by rw [d4] at q; cases q⟩
  ·exact ⟨o5,g5,fun v q=>by rw [d5] at q; cases q⟩
 keep:=fun i h h' st kp=>⟨kp z (by simp) _ st.1,kp TI (by simp) _ st.2.1,let ⟨u,v,e⟩:=st.2.2.1; ⟨u,v,kp TO (by simp) _ e⟩,st.2.2.2.1.at fun o q=>kp i1 (by simp) o q,st.2.2.2.2.at fun o q=>kp i2 (by simp) o q⟩
 item:=by
  intro X hP hw hK hc i pins s σ H E I hf st hg
  subst hP hw hK
  obtain ⟨xs,ys,x,y,hq,hq2,hx,hy⟩:=hg
  obtain ⟨its,rv,p,hz⟩:=I.tuple hq
  obtain ⟨its2,rv2,p2,hz2⟩:=I.tuple hq2
  obtain ⟨u,hu,ru⟩:=rv.get hx
  obtain ⟨u2,hu2,ru2⟩:=rv2.get hy
  obtain ⟨hZ,hTI,⟨c1,c2,hTO⟩,hi1,hi2⟩:=st
  have bd1:i < its.toArray.size:=by have:=(List.getElem?_eq_some_iff.mp hu).1; simpa using this
  have bd2:i < its2.toArray.size:=by have:=(List.getElem?_eq_some_iff.mp hu2).1; simpa using this
  refine kj (I.ok.hd hc) D hZ hTI hTO ⟨hi1,p⟩ ⟨hi2,p2⟩ bd1 bd2 fun h1 tk c d hcx hdx a1 a2 a3 a4 a5 a6 a7=>?_
  have ec:u=c:=by
   have e:its[i]?=some c:=by simpa using hcx
   rw [hu] at e; exact Option.some.inj e
  have ed:u2=d:=by
   have e:its2[i]?=some d:=by simpa using hdx
   rw [hu2] at e; exact Option.some.inj e
  subst ec ed
  refine ⟨_,rfl,wpAny_letOwnedTupleGo_zip a1 fun h2 hz2' hs2=>?_⟩
  have zL:z < s.heap.objs.size:=Heap.lt_size hZ
  have ht2:IsPair h2 s.heap.objs.size u u2:=(hs2.2 _ (Nat.ne_of_gt zL)).trans a5
  have hTI2:IsPair h2 TI (.ref i1) (.ref i2):=(hs2.2 _ D.TIz).trans (a7 _ _ D.TIz D.TITO D.TIi1 D.TIi2 hTI)
  have hTO2:IsPair h2 TO u u2:=(hs2.2 _ D.TOz).trans a2
  have hi1':h2.IsTupleIter i1 a (i+1):=(let ⟨o,ho,r⟩:=a3; ⟨o,hs2.extBut _ _ D.i1z ho,r⟩)
  have hi2':h2.IsTupleIter i2 b (i+1):=(let ⟨o,ho,r⟩:=a4; ⟨o,hs2.extBut _ _ D.i2z ho,r⟩)
  have I2:Inv X pins σ (upd H s.heap.objs.size (.tup [x,y])) { s with heap:=h2,toks:=tk }:=by
   refine I.turnedLaid (fp:=[z,TI,TO,i1,i2]) hf (Nat.le_refl _) (fun c ob hb q=>?_) (fun c hb=>?_) ?_
   ·have n1:c≠z:=fun e=>hb (by simp [e])
    have n3:c≠TO:=fun e=>hb (by simp [e])
    have n4:c≠i1:=fun e=>hb (by simp [e])
    have n5:c≠i2:=fun e=>hb (by simp [e])
    exact (hs2.2 c n1).trans (a7 c ob n1 n3 n4 n5 q)
   ·have hb':c=z∨c=TI∨c=TO∨c=i1∨c=i2:=by simpa using hb
    rcases hb' with rfl | rfl | rfl | rfl | rfl
    ·exact ⟨_,hz2'⟩
    ·exact ⟨_,hTI2⟩
    ·exact ⟨_,hTO2⟩
    ·obtain ⟨o,ho,_⟩:=hi1'
     exact ⟨o,ho⟩
    ·obtain ⟨o,ho,_⟩:=hi2'
     exact ⟨o,ho⟩
   ·refine ⟨(by show 2≤sizeLine; decide),[u,u2],.cons ru (.cons ru2 .nil),?_⟩
    exact ⟨_,ht2,rfl,_,rfl,rfl⟩
  have fr:∀ c∈[z,TI,TO,i1,i2],upd H s.heap.objs.size (.tup [x,y]) c=none:=fun c hb=>by
   have hlt:c < s.heap.objs.size:=by
    have hb':c=z∨c=TI∨c=TO∨c=i1∨c=i2:=by simpa using hb
    rcases hb' with rfl | rfl | rfl | rfl | rfl
    ·exact zL
    ·exact Heap.lt_size hTI
    ·exact Heap.lt_size hTO
    ·obtain ⟨o,ho,_⟩:=hi1
     exact Heap.lt_size ho
    ·obtain ⟨o,ho,_⟩:=hi2
     exact Heap.lt_size ho
   rw [aK (Nat.ne_of_lt hlt)]
   exact (hf c hb).1
  exact ⟨.ref s.heap.objs.size,_,I2,rfl,⟨_,x,y,rfl,I.fresh,rfl,fun zs hz=>by rw [I.tuple_inj hz hq]; exact hx,fun zs hz=>by rw [I.tuple_inj hz hq2]; exact hy⟩,⟨hz2',hTI2,⟨_,_,hTO2⟩,hi1',hi2'⟩,fr⟩
 done:=by
  intro X hP hw hK hc i pins s σ H E I hf st hg
  subst hP hw hK
  obtain ⟨xs,ys,hq,hq2,he⟩:=hg
  obtain ⟨its,rv,p,hz⟩:=I.tuple hq
  obtain ⟨its2,rv2,p2,hz2⟩:=I.tuple hq2
  obtain ⟨hZ,hTI,⟨c1,c2,hTO⟩,hi1,hi2⟩:=st
  have l1:=rv.length
  have l2:=rv2.length
  have he':i=its.toArray.size∨(i < its.toArray.size∧i=its2.toArray.size):=by
   rw [List.size_toArray,List.size_toArray]
   omega
  exact kU (I.ok.hd hc) D hZ hTI hTO ⟨hi1,p⟩ ⟨hi2,p2⟩ he' fun h' tk eb=>⟨rfl,I.turnedMany (t':=tk) hf fun c o hb q=>eb c o (fun e=>hb (by simp [e])) (fun e=>hb (by simp [e])) (fun e=>hb (by simp [e])) (fun e=>hb (by simp [e])) q⟩
 self:=fun _ _ _ _ _ st h=>wpAny_pyIter_zip st.1 h
def Az (K:PySem.W.Frag) (ta:TA):TI:=fun σ H R=>ta σ H fun vs H1=>∃ a b,vs=[.ref a,.ref b]∧(∃ xs,SqT K H1 a xs)∧(∃ ys,SqT K H1 b ys)∧R (u7 K a b) H1
theorem A5 {l m:Expr} {ta:TA} {p pos:Pos} {elts:List Expr} {k:Nat} {tp:Pos} (hg:Gl X "zip") (hm:X.mg "zip"=none) (ha:PA X [l,m] ta) (hs:starEach [l,m] X.env=(false,eval l X.env) :: starEach [m] X.env:=by rfl) (hpl:(backTo pos (starEach [m] X.env)).any (·.1)=false:=by rfl) :
  PI X (.Tuple elts k tp) (.Call (.Name "zip" p) [l,m] [] pos) (Az X.K ta):=by
 intro pins s σ H R I h
 refine Call_ (jo I hg hm boot_zip (PyProof.Rows.callWith_type1 (thn (ha pos pins s σ H _ I h) fun us s1 ⟨vs,H1,I1,r1,q1⟩=>?_) hs hpl))
 obtain ⟨a,b,e,⟨xs,hq⟩,⟨ys,hq2⟩,q⟩:=q1
 subst e
 obtain ⟨u,v,rfl,ru,rv'⟩:=na r1
 cases ru
 cases rv'
 obtain ⟨its,rv,pl,hz⟩:=I1.tuple hq
 obtain ⟨its2,rv2,pl2,hz2⟩:=I1.tuple hq2
 have La:a < s1.heap.objs.size:=let ⟨_,e,_⟩:=pl; Heap.lt_size e
 have Lb:b < s1.heap.objs.size:=let ⟨_,e,_⟩:=pl2; Heap.lt_size e
 refine sV pl pl2 fun h' hZ hTI hTO hi1 hi2 hsz hk=>?_
 refine wpAny_pyIter_zip hZ ?_
 have I2:Inv X pins σ H1 { s1 with heap:=h' }:=I1.kept (t':=s1.toks) hk
 refine ⟨s1.heap.objs.size+4,[s1.heap.objs.size+4,s1.heap.objs.size+2,s1.heap.objs.size+3,s1.heap.objs.size,s1.heap.objs.size+1],_,_,H1,rfl,I2,rn _ _ _ _ _ a b (oO La Lb),⟨hZ,hTI,⟨_,_,hTO⟩,hi1,hi2⟩,fun c hb=>?_,q⟩
 have hb':s1.heap.objs.size≤c:=by
  have hb':c=s1.heap.objs.size+4∨c=s1.heap.objs.size+2∨c=s1.heap.objs.size+3∨c=s1.heap.objs.size∨c=s1.heap.objs.size+1:=by simpa using hb
  rcases hb' with rfl | rfl | rfl | rfl | rfl <;> omega
 exact I1.fpOk hb' (I1.hok.fresh hb')
theorem uf {l m:Expr} {ta:TA} {p pos:Pos} {elts:List Expr} {k:Nat} {tp:Pos} (hK:X.K=K) (hg:Gl X "zip") (hm:X.mg "zip"=none) (ha:PA X [l,m] ta) (hs:starEach [l,m] X.env=(false,eval l X.env) :: starEach [m] X.env:=by rfl) (hpl:(backTo pos (starEach [m] X.env)).any (·.1)=false:=by rfl) :
  PI X (.Tuple elts k tp) (.Call (.Name "zip" p) [l,m] [] pos) (Az K ta):=by subst hK; exact A5 hg hm ha hs hpl
end
section
variable {X:Cx} {K:PySem.W.Frag} {p:Bool} {ds ds1:List Nat} {d:Nat} {fa:MA} {sh:Sh} {O O1:AS} {H0 H:Hp} {ts us:List D} {vs ws:List V} {a b:Addr}
theorem rj (h:FzT K O H0 a vs) (ho:Ows K O H0 ts 0 vs NoA) (h':FzT K O H0 b ws) (ho':Ows K O H0 us 0 ws NoA):mn K O H0 (u7 K a b) (cX ts us):=fun i H O1 h1 h2 h3=>by
 have sq:=(h.mv (dI h1 h2)).sq
 have sq':=(h'.mv (dI h1 h2)).sq
 refine ⟨fun u hu=>?_,fun hl=>⟨vs,ws,sq,sq',?_⟩⟩
 ·unfold cX at hu
  rw [List.getElem?_zipWith] at hu
  split at hu
  case h_2=>cases hu
  next t t' ht ht' =>
  cases hu
  obtain ⟨v,hv,ov⟩:=ho.get ht
  obtain ⟨w,hw,ow⟩:=ho'.get ht'
  refine ⟨⟨vs,ws,v,w,sq,sq',hv,hw⟩,fun x H1 ⟨q,v',w',e1,hp,e2,y1,y2⟩=>?_⟩
  have e3:=y1 vs sq
  have e4:=y2 ws sq'
  rw [hv] at e3
  rw [hw] at e4
  cases e3
  cases e4
  subst e1 e2
  exact EJ hp h3 (Ow.mv (dI h1 h2) t (fun _ z=>z) ov) (Ow.mv (dI h1 h2) t' (fun _ z=>z) ow)
 ·unfold cX at hl
  rw [List.length_zipWith] at hl
  rw [ho.len,ho'.len]
  omega
def jq (fa:MA):MI:=fun en=>(fa en).bind fun r=>match r.1 with
 | [.inl (.tuple ts),.inl (.tuple us)]=>some (cX ts us,r.2)
 | _=>none
theorem BY {l m:Expr} {px pos:Pos} {elts:List Expr} {k:Nat} {tp:Pos} (hK:X.K=K) (hg:Gl X "zip") (hm:X.mg "zip"=none) (ha:PA X [l,m] (tFA K p ds ds1 sh fa)) (hs:aJ l=true) (hs2:aJ m=true) :
  PI X (.Tuple elts k tp) (.Call (.Name "zip" px) [l,m] [] pos) (tFI K p ds ds1 (jq fa)) :=
 (uf hK hg hm ha (by rw [aS hs]) (by rw [aS hs2]; rfl)).imp fun σ H R ⟨Ox,en,Rg,ts,en',e,hf,k⟩=>by
  unfold jq at hf
  obtain ⟨⟨as,en1⟩,h1,hf⟩:=Option.bind_eq_some_iff.mp hf
  refine ⟨Ox,en,Rg,as,en1,e,h1,fun vs H1 R1 F P o=>?_⟩
  dsimp only at hf
  split at hf
  case h_2=>cases hf
  next t1 t2 =>
  cases hf
  obtain ⟨v,r,d,dr,F1,F2,e1,e2,s1,s2,_,o1,v2,r2,d2,dr2,G1,G2,e3,e4,s3,_,_,o2,o3⟩:=o
  obtain ⟨_,o3⟩:=o3
  subst e1 e3 o3
  have q1:=Ow.letgo P s1 o1
  have q2:=Ow.letgo P (fun b z=>s2 b (s3 b z)) o2
  obtain ⟨a,xs,f1,⟨_,fz,ow⟩ | ⟨z,_⟩⟩:=q1
  ·obtain ⟨b,ys,f2,⟨_,fz2,ow2⟩ | ⟨z,_⟩⟩:=q2
   ·subst f1 f2
    exact ⟨a,b,rfl,⟨xs,fz.sq⟩,⟨ys,fz2.sq⟩,k _ H1 R1 (P.less fun _ z=>z.elim) (rj fz ow fz2 ow2)⟩
   ·exact absurd rfl z
  ·exact absurd rfl z
end
end L2
namespace L2
open PySem PySem.Spec PyProof.Rows
section
variable {K:PySem.W.Frag} {p p1 p2 q:Bool} {J:Jd} {lk ds ds0 ds1 ds2 ds':List Nat} {d d' d1 d2:Nat} {f:ME} {i j:Nat} {g:MG} {gs:List D→En→Option En} {σ:St} {H:Hp} {Dn:Ends} {v:V} {vs:List V} {QS:St→Hp→Prop}
end
section
variable {X:Cx} {K:PySem.W.Frag} {J:Jd} {lk ds ds0 ds1 ds2 ds':List Nat} {e tg:Expr} {es:List Expr} {f:ME} {pos px:Pos} {i:Nat} {g:MG} {gs:List D→En→Option En}
end
end L2
namespace L2
open PySem PySem.Spec PyProof.Rows
structure QE (X:Cx) (e:Expr) (t:TE):Prop where
 h:PE X e t
structure QT (X:Cx) (e:Expr) (t:TT):Prop where
 h:PT X e t
structure QW (X:Cx) (e:Expr) (t:TT):Prop where
 h:PW X e t
structure QA (X:Cx) (e:List Expr) (t:TA):Prop where
 h:PA X e t
structure QS (X:Cx) (e:Stmt) (t:TS):Prop where
 h:PS X e t
structure QSs (X:Cx) (e:List Stmt) (t:TS):Prop where
 h:PSs X e t
structure QG (X:Cx) (e:Expr) (t:TG):Prop where
 h:PG X e t
structure QGs (X:Cx) (e:List Expr) (t:TGs):Prop where
 h:PGs X e t
structure QI (X:Cx) (tg e:Expr) (t:TI):Prop where
 h:PI X tg e t
structure QTs (X:Cx) (e:List Expr) (t:TT):Prop where
 h:PTs X e t
structure QO (X:Cx) (e:Option Expr) (t:TO):Prop where
 h:PO X e t
structure QPs (X:Cx) (pos:Pos) (ks:List (Option Expr)) (vs:List Expr) (t:List (TE × TE)):Prop where
 h:PPs X pos ks vs t
theorem qpt {X:Cx} {e:Expr} {t:TT} (h:QW X e t):QT X e t:=⟨h.h.pt⟩
section
variable {X:Cx} {K:PySem.W.Frag} {p p1 p2 q:Bool} {ds ds0 ds1 ds2 ds' dsi:List Nat} {d d' d1 d2:Nat} {a b c e:Expr} {es:List Expr} {f f1 f2:ME} {m c1 c2:MT} {fa:MA} {sh:Sh} {pos:Pos} {i:Nat} {x:Str}
theorem ac {x:Str} (hN:X.N[i]?=some x) (hv:Vis X.env.scope x) (h0:ds[i]?=some 0) (hd:(x == ("__debug__" : Str))=false) (hcd:(x == ("__classdict__" : Str))=false):QE X (.Name x pos) (tF K p ds ds 0 (af i)):=⟨FN hN hv h0 hd hcd⟩
theorem aj {n:Int} {j}:QE X (.Constant (.int n) j pos) (tF K p ds ds 3 (eC (.int n))):=⟨FZ⟩
theorem dN {n:Bool} {j}:QE X (.Constant (.bool n) j pos) (tF K p ds ds 3 (eC (.bool n))):=⟨Hc⟩
theorem uM {j}:QE X (.Constant .none j pos) (tF K p ds ds 3 (eC .none)):=⟨FT⟩
theorem aq {n:Str} {j}:QE X (.Constant (.str n) j pos) (tF K p ds ds 3 (eC (.str n))):=⟨FQ⟩
theorem cP {x:Str} {n:Int} {t:Tok} (hg:Gl X x) (hm:X.mg x=some (.int n t)) (hd:(x == ("__debug__" : Str))=false):QE X (.Name x pos) (tF K p ds ds 3 (eC (.int n))):=⟨uP hg hm hd⟩
theorem qK {x:Str} {n:Str} {t:Tok} (hg:Gl X x) (hm:X.mg x=some (.str n t)) (hd:(x == ("__debug__" : Str))=false):QE X (.Name x pos) (tF K p ds ds 3 (eC (.str n))):=⟨uO hg hm hd⟩
theorem ai (h:QE X e (tF K p ds ds' d f)) (hd:d'≤d):QE X e (tF K p ds ds' d' f):=⟨FP h.h hd⟩
theorem ij (h:QE X e (tF K p ds0 ds' d f)) (hd:leD ds0 ds=true):QE X e (tF K false ds ds' d f):=⟨Ha h.h hd⟩
theorem iH (h:QE X e (tF K true ds0 ds0 3 f)) (hd:leD ds0 ds=true):QE X e (tF K p ds ds 3 f):=⟨F9 h.h hd⟩
theorem az {op:Operator} {g:D→D→Option D} (ho:OpR X (binaryOp op) (rF2 K g d)) (ha:QE X a (tF K p ds ds1 d1 f1)) (hb:QE X b (tF K p ds1 ds2 d2 f2)):QE X (.BinOp a op b pos) (tF K p ds ds2 d (e2 g f1 f2)):=⟨G7 ho ha.h hb.h⟩
theorem B3 {op:UnaryOp} {g:D→Option D} (ho:UnR X (unaryOp op) (rF1 K g d)) (ha:QE X a (tF K p ds ds1 d1 f1)):QE X (.UnaryOp op a pos) (tF K p ds ds1 d (e1 g f1)):=⟨G4 ho ha.h⟩
theorem b5 {op:CmpOp} {g:D→D→Option D} (ho:OpR X (compareOp op) (rF2 K g d)) (ha:QE X a (tF K p ds ds1 d1 f1)) (hb:QE X b (tF K p ds1 ds2 d2 f2)) (hm:behindInMarks op b=false):QE X (.Compare a [op] [b] pos) (tF K p ds ds2 d (e2 g f1 f2)):=⟨F8 ho ha.h hb.h hm⟩
theorem aO {op:CmpOp} {g:D→D→Option D} (ho:OpR X (compareOp op) (rF2 K g d)) (ha:QE X a (tF K p ds ds1 d1 f1)) (hb:QE X b (tF K p ds1 ds2 d2 f2)) (hm:behindInMarks op b=false):QT X (.Compare a [op] [b] pos) (tFT K p ds ds2 (tV (e2 g f1 f2))):=⟨By ho ha.h hb.h hm⟩
theorem aT (h:QE X e (tF K p ds ds' d f)) (he:∀ whole,isTrue e X.env whole=(do let v ← whole; standAt e.pos; holding [v] (truthy v))):QT X e (tFT K p ds ds' (tV f)):=⟨Bw h.h he⟩
theorem sy (ha:QT X a (tFT K p ds ds1 c1)):QW X (.BoolOp .And [a] pos) (tFT K p ds ds1 c1):=⟨Bt ha.h⟩
theorem bD (ha:QT X a (tFT K p ds ds1 c1)):QW X (.BoolOp .Or [a] pos) (tFT K p ds ds1 c1):=⟨Fs ha.h⟩
theorem og {rest:List Expr} (ha:QT X a (tFT K p ds ds1 c1)) (hb:QW X (.BoolOp .And (b :: rest) pos) (tFT K p ds1 ds1 c2)):QW X (.BoolOp .And (a :: b :: rest) pos) (tFT K p ds ds1 (fC c1 c2)):=⟨Ft ha.h hb.h⟩
theorem bL {rest:List Expr} (ha:QT X a (tFT K p ds ds1 c1)) (hb:QW X (.BoolOp .Or (b :: rest) pos) (tFT K p ds1 ds1 c2)):QW X (.BoolOp .Or (a :: b :: rest) pos) (tFT K p ds ds1 (bOr c1 c2)):=⟨GX ha.h hb.h⟩
theorem bo (ha:QT X a (tFT K p ds ds1 c1)):QT X (.UnaryOp .Not a pos) (tFT K p ds ds1 (ck c1)):=⟨Bx ha.h⟩
theorem e9 (h:QT X e (tFT K true ds0 ds0 c1)) (hd:leD ds0 ds=true):QT X e (tFT K p ds ds c1):=⟨Bz h.h hd⟩
theorem dD {op} (h:QE X a (tF K p ds ds1 d f)):QE X (.BoolOp op [a] pos) (tF K p ds ds1 d f):=⟨FR h.h⟩
theorem dE {rest:List Expr} (ha:QE X a (tF K p ds ds1 d1 f1)) (hb:QE X (.BoolOp .And (b :: rest) pos) (tF K p ds1 ds1 d f2)):QE X (.BoolOp .And (a :: b :: rest) pos) (tF K p ds ds1 d (fy f1 f2)):=⟨Gb ha.h hb.h⟩
theorem B6 {rest:List Expr} (ha:QE X a (tF K p ds ds1 d1 f1)) (hb:QE X (.BoolOp .Or (b :: rest) pos) (tF K p ds1 ds1 d f2)):QE X (.BoolOp .Or (a :: b :: rest) pos) (tF K p ds ds1 d (eOr f1 f2)):=⟨G6 ha.h hb.h⟩
theorem ou (ha:QE X a (tF K p ds ds1 d1 f)):QE X (.UnaryOp .Not a pos) (tF K p ds ds1 3 (kx f)):=⟨FS ha.h⟩
theorem ad  : QA X [] (tFA K p ds ds [] ag):=⟨Cb⟩
theorem aa (ha:QE X e (tF K p ds ds1 d f)) (hr:QA X es (tFA K p ds1 ds2 sh fa)) (hs:aJ e=true):QA X (e :: es) (tFA K p ds ds2 (.inl d :: sh) (ae f fa)):=⟨uU ha.h hr.h hs⟩
theorem aL {x:Str} (hN:X.N[i]?=some x) (hv:Vis X.env.scope x) (hr:QA X es (tFA K p ds ds2 sh fa)) (hd:(x == ("__debug__" : Str))=false) (hcd:(x == ("__classdict__" : Str))=false):QA X (.Name x pos :: es) (tFA K p ds ds2 (.inr i :: sh) (bt i fa)):=⟨uT hN hv hr.h hd hcd⟩
theorem bm {c:Nat} (h:QA X es (tFA K p ds ds1 sh fa)) (hs:bV c sh=true) (hd:dn d=c) (hz:d≠0):QE X (.List es pos) (tF K p ds ds1 d (bI fa)):=⟨FV h.h hs hd hz⟩
theorem be {c:Nat} {x1} (h:QA X es (tFA K p ds ds1 sh fa)) (hs:bV c sh=true) (hd:dn d=c):QE X (.Tuple es x1 pos) (tF K p ds ds1 d (bS fa)):=⟨FO h.h hs hd⟩
theorem ar {id:String} {x:Str} {px:Pos} {g:List D→Option D} (hc:CallR X (.builtin id) (rFn K g d)) (hg:Gl X x) (hm:X.mg x=none) (hv:bootBuiltins x=some (.builtin id)) (ha:QA X (e :: es) (tFA K p ds ds1 sh fa)) (hsh:bV 0 sh=true) (hn:x≠"__name__") (hdb:(x == ("__debug__" : Str))=false) (he:aJ e=true) (hpl:es.all aJ=true):QE X (.Call (.Name x px) (e :: es) [] pos) (tF K p ds ds1 d (eN g fa)):=⟨uS hc hg hm hv ha.h hsh hn hdb he hpl⟩
theorem ba {T:String} {x:Str} {px:Pos} {g:List D→Option D} (hc:CallR X (.type T) (rFn K g d)) (hg:Gl X x) (hm:X.mg x=none) (hv:bootBuiltins x=some (.type T)) (ha:QA X (e :: es) (tFA K p ds ds1 sh fa)) (hsh:bV 0 sh=true) (hn:x≠"__name__") (hdb:(x == ("__debug__" : Str))=false) (he:aJ e=true) (hpl:es.all aJ=true):QE X (.Call (.Name x px) (e :: es) [] pos) (tF K p ds ds1 d (eN g fa)):=⟨sM hc hg hm hv ha.h hsh hn hdb he hpl⟩
theorem aR {k:Nat} {x:Str} {ps:List Str} {px:Pos} {dps:List Nat} {dr:Nat} {F:List D→Option (D × En)} (G:Kn X.prog X.w X.K X.mg X.base k x ps (spF K dps dr F)) (hr:Room k X.A) (hg:Gl X x) (ha:QA X (e :: es) (tFA K p ds ds1 sh fa)) (hns:ic sh=true) (hcd:eW ds1 sh dps=true) (hdb:(x == ("__debug__" : Str))=false) (he:aJ e=true) (hpl:es.all aJ=true):QE X (.Call (.Name x px) (e :: es) [] pos) (tF K p ds ds1 dr (ay F fa)):=⟨Hb G hr hg ha.h hns hcd hdb he hpl⟩
theorem aY {k:Nat} {x:Str} {ps:List Str} {px:Pos} {dps:List Nat} {dr:Nat} {F:List D→Option (D × En)} (G:Kn X.prog X.w X.K X.mg X.base k x ps (spF K dps dr F)) (hr:Room k X.A) (hg:Gl X x) (ha:QA X (e :: es) (tFA K false ds ds1 sh fa)) (hcd:eW ds1 sh dps=true) (hdb:(x == ("__debug__" : Str))=false) (he:aJ e=true) (hpl:es.all aJ=true):QE X (.Call (.Name x px) (e :: es) [] pos) (tF K false ds ds1 dr (ay F fa)):=⟨F7 G hr hg ha.h hcd hdb he hpl⟩
theorem cO {g:D→D→Option D} (ho:IxR X (rF2 K g d)) (ha:QE X a (tF K p ds ds1 d1 f1)) (hb:QE X b (tF K p ds1 ds2 d2 f2)) (hs:io b):QE X (.Subscript a b pos) (tF K p ds ds2 d (e2 g f1 f2)):=⟨G9 ho ha.h hb.h hs⟩
theorem uN {x:Str} {px:Pos} (hK:X.K=K) (hN:X.N[i]?=some x) (hv:Vis X.env.scope x) (h1:ds1[i]?=some 1) (hb:QE X b (tF K p ds ds1 d1 f)) (hs:io b) (hd:(x == ("__debug__" : Str))=false) (hcd:(x == ("__classdict__" : Str))=false):QE X (.Subscript (.Name x px) b pos) (tF K p ds ds1 0 (dS i f)):=⟨FX hK hN hv h1 hb.h hs hd hcd⟩
theorem cF {c:Nat} {x:Str} {px apos cpos:Pos} (hK:X.K=K) (hN:X.N[i]?=some x) (hv:Vis X.env.scope x) (h1:ds1[i]?=some d) (he:QE X e (tF K false ds ds1 c f)) (hz:d≠0) (hc:dn d=c) (hd:(x == ("__debug__" : Str))=false) (hcd:(x == ("__classdict__" : Str))=false) (hbase:attributeBase (.Name x px) "append" X.env (eval (.Name x px) X.env)=eval (.Name x px) X.env) (hfew:((backTo cpos (starEach [e] X.env)).all (fun x=>!x.1) && (backToKw cpos (keywordEach [] X.env)).all (fun x=>x.1.isSome) && decide (([e]:List Expr).length+([]:List Keyword).length+(if ([]:List Keyword).isEmpty then 0 else 1) < 30))=true) (hline:(apos.endLine == cpos.line)=true) (hs:starEach [e] X.env=[(false,eval e X.env)]) (hplain:(backTo cpos (starEach [] X.env)).any (·.1)=false):QE X (.Call (.Attribute (.Name x px) "append" apos) [e] [] cpos) (tF K false ds ds1 3 (dF i f)):=⟨Ga hK hN hv h1 he.h hz hc hd hcd hbase hfew hline hs hplain⟩
theorem lh {c:Nat} {x:Str} {px apos cpos:Pos} (hK:X.K=K) (hN:X.N[i]?=some x) (hv:Vis X.env.scope x) (h1:ds1[i]?=some d) (he:QE X e (tF K false ds ds1 d1 f)) (hz:d≠0) (hc:dn d=c) (hd:(x == ("__debug__" : Str))=false) (hcd:(x == ("__classdict__" : Str))=false) (hbase:attributeBase (.Name x px) "pop" X.env (eval (.Name x px) X.env)=eval (.Name x px) X.env) (hfew:((backTo cpos (starEach [e] X.env)).all (fun x=>!x.1) && (backToKw cpos (keywordEach [] X.env)).all (fun x=>x.1.isSome) && decide (([e]:List Expr).length+([]:List Keyword).length+(if ([]:List Keyword).isEmpty then 0 else 1) < 30))=true) (hline:(apos.endLine == cpos.line)=true) (hs:starEach [e] X.env=[(false,eval e X.env)]) (hplain:(backTo cpos (starEach [] X.env)).any (·.1)=false):QE X (.Call (.Attribute (.Name x px) "pop" apos) [e] [] cpos) (tF K false ds ds1 c (fh i f)):=⟨uL hK hN hv h1 he.h hz hc hd hcd hbase hfew hline hs hplain⟩
theorem bn  : QTs X [] (tFT K p ds ds cY):=⟨Bv⟩
theorem mI (hc:QT X c (tFT K p ds ds1 c1)):QTs X [c] (tFT K p ds ds1 c1):=⟨Bu hc.h⟩
theorem b9 {elt tg iter:Expr} {ifs:List Expr} {scope:Scope} {ns:List Str} {js:List (Option Nat)} {fi:MI} {g:MG} {lk:List Nat} {cd:Nat} (B:BlkOkC X scope ns js) (hc:X.calm=true) (hi:QI X tg iter (tFI K p ds ds1 fi)) (hg:∀ C cl s₀ H₀ fp,QG (aD X scope ns C cl s₀ H₀ fp) tg (tFG K lk dsi dsi g)) (ht:∀ C cl s₀ H₀ fp,QTs (aD X scope ns C cl s₀ H₀ fp) ifs (tFT K true dsi dsi c1)) (he:∀ C cl s₀ H₀ fp,QE (aD X scope ns C cl s₀ H₀ fp) elt (tF K true dsi dsi cd f)) (hcap:dW ds1 js dsi=true) (hd:dn d=cd) (hz:d≠0) (hlk:lk=dU js 0) (hs:∀ x,foldedSetIterable iter X.env x=pure x):QE X (.ListComp elt [⟨tg,iter,ifs,0⟩] scope pos) (tF K p ds ds1 d (eLC true fi g c1 f js)):=⟨G8 B hc hi.h (fun C cl s₀ H₀ fp=>(hg C cl s₀ H₀ fp).h) (fun C cl s₀ H₀ fp=>(ht C cl s₀ H₀ fp).h) (fun C cl s₀ H₀ fp=>(he C cl s₀ H₀ fp).h) hcap hd hz hlk hs⟩
theorem kw {elt tg iter:Expr} {ifs:List Expr} {scope:Scope} {ns:List Str} {js:List (Option Nat)} {fi:MI} {g:MG} {lk:List Nat} {cd:Nat} (B:BlkOkC X scope ns js) (hc:X.calm=true) (hi:QI X tg iter (tFI K false ds ds1 fi)) (hg:∀ C cl s₀ H₀ fp,QG (aD X scope ns C cl s₀ H₀ fp) tg (tFG K lk dsi dsi g)) (ht:∀ C cl s₀ H₀ fp,QTs (aD X scope ns C cl s₀ H₀ fp) ifs (tFT K false dsi dsi c1)) (he:∀ C cl s₀ H₀ fp,QE (aD X scope ns C cl s₀ H₀ fp) elt (tF K false dsi dsi cd f)) (hcap:dW ds1 js dsi=true) (hd:dn d=cd) (hz:d≠0) (hlk:lk=dU js 0) (hs:∀ x,foldedSetIterable iter X.env x=pure x):QE X (.ListComp elt [⟨tg,iter,ifs,0⟩] scope pos) (tF K false ds ds1 d (eLC false fi g c1 f js)):=⟨FW B hc hi.h (fun C cl s₀ H₀ fp=>(hg C cl s₀ H₀ fp).h) (fun C cl s₀ H₀ fp=>(ht C cl s₀ H₀ fp).h) (fun C cl s₀ H₀ fp=>(he C cl s₀ H₀ fp).h) hcap hd hz hlk hs⟩
end
section
variable {X:Cx} {K:PySem.W.Frag} {p p1 p2 q:Bool} {J:Jd} {ds ds0 ds1 ds2 ds' dsi dps:List Nat} {d d' d1 d2 dr:Nat} {a b c e tg iter:Expr} {es:List Expr} {st:Stmt} {rest body bodyB:List Stmt} {f f1 f2 fk fe:ME} {c1 c2:MT} {fa:MA} {sh:Sh} {pos px:Pos} {i:Nat} {x:Str} {m m1 m2:MS} {g:MG} {gs:List D→En→Option En} {fi:MI} {lk:List Nat}
theorem aP  : QSs X [] (tFS K J ds ds bh):=⟨BG⟩
theorem ah (h1:QS X st (tFS K J ds ds1 m1)) (h2:QSs X rest (tFS K J ds1 ds2 m2)):QSs X (st :: rest) (tFS K J ds ds2 (ao m1 m2)):=⟨uy h1.h h2.h⟩
theorem ak (h1:QS X st (tFS K J ds ds1 m1)):QSs X [st] (tFS K J ds ds1 m1):=⟨BF h1.h⟩
theorem sA (h:QSs X rest (tFS K J ds ds2 m)) (hd:leD ds1 ds2=true):QSs X rest (tFS K J ds ds1 m):=⟨BE h.h hd⟩
theorem bX (he:QE X e (tF K false ds ds1 d f)) (hs:swapsWith e none pos.line X.env=pure false):QS X (.Expr e pos) (tFS K J ds ds1 (dA f)):=⟨BN he.h hs⟩
theorem au (he:QE X e (tF K false ds ds1 J.dr f)) (hd:leD J.dsr ds1=true):QS X (.Return (some e) pos) (tFS K J ds ds' (aE f)):=⟨BL he.h hd⟩
theorem dh  : QS X st (tFS K J ds ds' dP):=⟨sF⟩
theorem aW (hc:QT X c (tFT K false ds ds1 c1)) (ha:QSs X body (tFS K J ds1 ds2 m1)) (hb:QSs X bodyB (tFS K J ds1 ds2 m2)):QS X (.If c body bodyB pos) (tFS K J ds ds2 (sIf c1 m1 m2)):=⟨FC hc.h ha.h hb.h⟩
theorem ax {x:Str} {pos':Pos} (hN:X.N.Nodup) (hi:X.N[i]?=some x) (hx:Loc X.env.scope x) (he:QE X e (tF K false ds ds1 d f)) (hds:ds1.set i d=ds') (hl:i < ds1.length) (hk:i ∉ J.lk) (hs:swapsWith e (some (.Name x pos')) pos.line X.env=pure false) (hf:X.fn x=true∨X.env.scope.names.lookup x=some .local):QS X (.Assign [.Name x pos'] e pos) (tFS K J ds ds' (aA i f)):=⟨BK hN hi hx he.h hds hl hk hs hf⟩
theorem o8 {x:Str} {spos pos':Pos} {elt:Expr} {ifs:List Expr} {scope:Scope} {ns:List Str} {js:List (Option Nat)} {cd:Nat} (hN:X.N.Nodup) (hi':X.N[i]?=some x) (hx:X.env.scope.names.lookup x=some .local) (B:BlkOkC X scope ns js) (hc:X.calm=true) (hi:QI X tg iter (tFI K false ds ds1 fi)) (hg:∀ C cl s₀ H₀ fp,QG (aD X scope ns C cl s₀ H₀ fp) tg (tFG K lk dsi dsi g)) (ht:∀ C cl s₀ H₀ fp,QTs (aD X scope ns C cl s₀ H₀ fp) ifs (tFT K q dsi dsi c1)) (he:∀ C cl s₀ H₀ fp,QE (aD X scope ns C cl s₀ H₀ fp) elt (tF K q dsi dsi cd f)) (hds:ds1.set i d=ds') (hcap:dW ds1 js dsi=true) (hd:dn d=cd) (hz:d≠0) (hlk:lk=dU js 0) (hl:i < ds1.length) (hk:i ∉ J.lk) (hsw:swapsWith (.ListComp elt [⟨tg,iter,ifs,0⟩] scope pos) (some (.Name x pos')) spos.line X.env=pure true) (hs:∀ x,foldedSetIterable iter X.env x=pure x):QS X (.Assign [.Name x pos'] (.ListComp elt [⟨tg,iter,ifs,0⟩] scope pos) spos) (tFS K J ds ds' (aA i (eLC q fi g c1 f js))):=⟨sE hN hi' hx B hc hi.h (fun C cl s₀ H₀ fp=>(hg C cl s₀ H₀ fp).h) (fun C cl s₀ H₀ fp=>(ht C cl s₀ H₀ fp).h) (fun C cl s₀ H₀ fp=>(he C cl s₀ H₀ fp).h) hds hcap hd hz hlk hl hk hsw hs⟩
theorem aB {x:Str} (hN:X.N.Nodup) (hi:X.N[i]?=some x) (hx:Loc X.env.scope x) (hds:ds.set i 0=ds') (hl:i < ds.length) (hk:i ∉ lk) (hf:X.fn x=true∨X.env.scope.names.lookup x=some .local):QG X (.Name x pos) (tFG K lk ds ds' (gN i)):=⟨uI hN hi hx hds hl hk hf⟩
theorem ld  : QGs X [] (fq K lk ds ds gs0):=⟨uG⟩
theorem eT (h1:QG X e (tFG K lk ds ds1 g)) (h2:QGs X es (fq K lk ds1 ds2 gs)) (hs:(assignEach (e :: es) X.env).map (·.2)=assign e X.env :: (assignEach es X.env).map (·.2)):QGs X (e :: es) (fq K lk ds ds2 (gsC g gs)):=⟨sJ h1.h h2.h hs⟩
theorem mK {k n:Nat} (hK:X.K=K) (hc:X.calm=true) (h:QGs X es (fq K lk ds ds1 gs)) (hl:∀ ts en,(∃ en',gs ts en=some en')→ts.length=n) (hn:(assignEach es X.env).length=n) (hst:(assignEach es X.env).findIdx? (·.1)=none):QG X (.Tuple es k pos) (tFG K lk ds ds1 (gT gs)):=⟨B1 hK hc h.h hl hn hst⟩
theorem cE (hc:X.calm=true) (hi:QI X tg iter (tFI K false ds ds1 fi)) (hg:QG X tg (tFG K J.lk ds1 ds2 g)) (hb:QSs X body (tFS K { J with dsl:=ds1 } ds2 ds1 m)) (hp:PassesOwn (model X.prog X.w) X.A X.env X.xe) (hs:∀ x,foldedSetIterable iter X.env x=pure x):QS X (.For tg iter body [] pos) (tFS K J ds ds1 (fu fi g m)):=⟨BM hc hi.h hg.h hb.h hp hs⟩
theorem j9 (hc:QT X c (tFT K false ds ds1 c1)) (hb:QSs X body (tFS K { J with dsl:=ds } ds1 ds m)) (hp:PassesOwn (model X.prog X.w) X.A X.env X.xe):QS X (.While c body [] pos) (tFS K J ds ds1 (bW c1 m)):=⟨sC hc.h hb.h hp⟩
end
section
variable {X:Cx} {K:PySem.W.Frag} {p:Bool} {ds ds1:List Nat} {d:Nat} {e tg l:Expr} {f:ME} {fa:MA} {sh:Sh}
theorem bj (hK:X.K=K) (hl:QE X l (tF K p ds ds1 d f)):QI X tg l (tFI K p ds ds1 (b8 f)):=⟨FK hK hl.h⟩
theorem dM {a:Expr} {px pos:Pos} (hg:Gl X "range") (hm:X.mg "range"=none) (ha:QA X [a] (tFA K p ds ds1 sh fa)) (hs:aJ a=true):QI X tg (.Call (.Name "range" px) [a] [] pos) (tFI K p ds ds1 (dg fa)):=⟨BZ hg hm ha.h hs⟩
end
section
variable {X:Cx} {K:PySem.W.Frag} {p:Bool} {ds ds1:List Nat} {d1:Nat} {e:Expr} {f:ME}
theorem b4 {T:Str} {n:String} {px pt pos:Pos} (hK:X.K=K) (hg:Gl X "isinstance") (hm:X.mg "isinstance"=none) (hgT:Gl X T) (hmT:X.mg T=none) (hbT:bootBuiltins T=some (.type n)) (hT:n∈["int", "bool", "str", "list", "tuple", "dict"]) (he:QE X e (tF K p ds ds1 d1 f)) (hnT:T≠"__name__") (hdT:(T == ("__debug__" : Str))=false) (hs1:starEach [e,.Name T pt] X.env=(false,eval e X.env) :: starEach [.Name T pt] X.env) (hs2:starEach [.Name T pt] X.env=(false,eval (.Name T pt) X.env) :: starEach [] X.env) (hpl:(backTo pos (starEach [.Name T pt] X.env)).any (·.1)=false):QE X (.Call (.Name "isinstance" px) [e,.Name T pt] [] pos) (tF K p ds ds1 3 (e1 (aH n) f)):=⟨FY hK hg hm hgT hmT hbT hT he.h hnT hdT hs1 hs2 hpl⟩
end
section
variable {X:Cx} {K:PySem.W.Frag} {p:Bool} {J:Jd} {ds ds0 ds1 ds2 ds3 ds':List Nat} {d d' d1 d2 d3:Nat} {a b c e:Expr} {st:Stmt} {f f1 f2 f3:ME} {m:MS} {pos p2:Pos}
theorem mJ (h:QS X st (tFS K J ds ds2 m)) (hd:leD ds1 ds2=true):QS X st (tFS K J ds ds1 m):=⟨BJ h.h hd⟩
theorem qL {op op':CmpOp} {g g':D→D→Option D} (ho:OpR X (compareOp op) (rF2 K g 3)) (ho':OpR X (compareOp op') (rF2 K g' 3)) (ha:QE X a (tF K p ds ds0 d1 f1)) (hb:QE X b (tF K p ds0 ds1 d2 f2)) (hc:QE X c (tF K p ds1 ds1 d3 f3)) (hm:lastMarks [op,op'] [b,c]=false):QE X (.Compare a [op,op'] [b,c] pos) (tF K p ds ds1 3 (di g g' f1 f2 f3)):=⟨uR ho ho' ha.h hb.h hc.h hm⟩
theorem la {op op':CmpOp} {g g':D→D→Option D} (ho:OpR X (compareOp op) (rF2 K g 3)) (ho':OpR X (compareOp op') (rF2 K g' 3)) (ha:QE X a (tF K p ds ds0 d1 f1)) (hb:QE X b (tF K p ds0 ds1 d2 f2)) (hc:QE X c (tF K p ds1 ds1 d3 f3)) (hm:lastMarks [op,op'] [b,c]=false):QT X (.Compare a [op,op'] [b,c] pos) (tFT K p ds ds1 (tV (di g g' f1 f2 f3))):=⟨ux ho ho' ha.h hb.h hc.h hm⟩
theorem gH  : QO X none (tFO K p ds ds iz):=⟨BS⟩
theorem gE (h:QE X e (tF K p ds ds1 d f)):QO X (some e) (tFO K p ds ds1 (gA f)):=⟨BQ h.h⟩
variable {lo hi:MO}
theorem fP {g:D→Option Int→Option Int→Option D} {elo ehi:Option Expr} (hr:SlR X (rFs K g d)) (he:QE X e (tF K p ds ds1 d1 f)) (hl:QO X elo (tFO K p ds1 ds2 lo)) (hu:QO X ehi (tFO K p ds2 ds3 hi)):QE X (.Subscript e (.Slice elo ehi none p2) pos) (tF K p ds ds3 d (eSl g f lo hi)):=⟨uK hr he.h hl.h hu.h⟩
end
section
variable {X:Cx} {K:PySem.W.Frag} {p:Bool} {J:Jd} {ds ds0 ds1 ds2 ds':List Nat} {d d' d1 d2:Nat} {a b c e o k:Expr} {f f1 f2 fk fe:ME} {pos px spos:Pos} {i:Nat} {σ:St} {H:Hp} {Q:VK} {Dn:Ends}
theorem dQ {x:Str} (hu:X.A.units+1 < cLine) (hN:X.N[i]?=some x) (hv:Vis X.env.scope x) (h1:ds1[i]?=some 1) (hi:QE X k (tF K p ds ds1 d1 f)) (hs:qZ k) (hd:(x == ("__debug__" : Str))=false) (hcd:(x == ("__classdict__" : Str))=false):QE X (.Subscript (.Name x px) k pos) (tF K p ds ds1 0 (bB i f)):=⟨uQ hu hN hv h1 hi.h hs hd hcd⟩
theorem iG {x:Str} (hu:X.A.units+1 < cLine) (hN:X.N[i]?=some x) (hv:Vis X.env.scope x) (he:QE X e (tF K false ds ds1 0 fe)) (hk:QE X k (tF K false ds1 ds2 d2 fk)) (h1:ds2[i]?=some 1) (hdb:(x == ("__debug__" : Str))=false) (hcd:(x == ("__classdict__" : Str))=false) (hs:swapsWith e (some (.Subscript (.Name x px) k spos)) pos.line X.env=pure false):QS X (.Assign [.Subscript (.Name x px) k spos] e pos) (tFS K J ds ds2 (cA i fk fe)):=⟨uC hu hN hv he.h hk.h h1 hdb hcd hs⟩
end
section
variable {X:Cx} {K:PySem.W.Frag} {p:Bool} {J:Jd} {ds ds0 ds1 ds2 ds':List Nat} {d d' d1 d2:Nat} {a b c e o k:Expr} {es:List Expr} {f f1 f2 fk fe:ME} {fa:MA} {sh:Sh} {pos px spos:Pos} {i j:Nat} {σ:St} {H:Hp} {Q:VK} {Dn:Ends}
theorem sL {keys:List (Option Expr)} {values:List Expr} {fs:List (ME × ME)} (h:QPs X pos keys values (trs K p ds fs)) (hall:keys.all (·.isSome)=true) (hl:keys.length=values.length) (h0:keys≠[]) (h15:keys.length≤15):QE X (.Dict keys values pos) (tF K p ds ds 1 (jX fs)):=⟨B9 h.h hall hl h0 h15⟩
theorem uD  : QPs X pos [] [] (trs K p ds []):=⟨FD⟩
theorem jr {k v:Expr} {ks:List (Option Expr)} {vs:List Expr} {fk fv:ME} {fs:List (ME × ME)} (hk:QE X k (tF K p ds ds 3 fk)) (hv:QE X v (tF K p ds ds 0 fv)) (hr:QPs X pos ks vs (trs K p ds fs)):QPs X pos (some k :: ks) (v :: vs) (trs K p ds ((fk,fv) :: fs)):=⟨BO hk.h hv.h hr.h⟩
end
section
variable {X:Cx} {K:PySem.W.Frag} {p:Bool} {ds ds1:List Nat} {O:AS} {H:Hp} {σ:St} {d:Nat} {f:ME} {i:Nat} {e:Expr} {Q:VK}
end
section
variable {X:Cx} {K:PySem.W.Frag} {p:Bool} {ds ds1:List Nat} {d:Nat} {fa:MA} {sh:Sh} {O O1:AS} {H0 H:Hp} {ts us:List D} {vs ws:List V} {a b:Addr}
end
section
variable {X:Cx} {K:PySem.W.Frag} {p:Bool} {ds ds1:List Nat} {d1:Nat} {e:Expr} {f:ME}
theorem ju {T1 T2:Str} {n1 n2:String} {px p1 p2 pos tp:Pos} {kk:Nat} (hK:X.K=K) (hg:Gl X "isinstance") (hm:X.mg "isinstance"=none) (hg1:Gl X T1) (hm1:X.mg T1=none) (hb1:bootBuiltins T1=some (.type n1)) (hg2:Gl X T2) (hm2:X.mg T2=none) (hb2:bootBuiltins T2=some (.type n2)) (hT:∀ T∈[n1,n2],T∈pV) (he:QE X e (tF K p ds ds1 d1 f)) (hn1:T1≠"__name__") (hd1:(T1 == ("__debug__" : Str))=false) (hn2:T2≠"__name__") (hd2:(T2 == ("__debug__" : Str))=false) (hs:aJ e=true):QE X (.Call (.Name "isinstance" px) [e,.Tuple [.Name T1 p1,.Name T2 p2] kk tp] [] pos) (tF K p ds ds1 3 (e1 (jp [n1,n2]) f)):=⟨B7 hK hg hm hg1 hm1 hb1 hg2 hm2 hb2 hT he.h hn1 hd1 hn2 hd2 hs⟩
end
section
variable {X:Cx} {K:PySem.W.Frag} {p p1 p2:Bool} {ds ds1 ds2:List Nat} {d d1:Nat} {e:Expr} {f:ME} {fa:MA} {sh:Sh} {σ:St} {H:Hp} {Q:VK}
theorem bA {o:Expr} {es:List Expr} {name:Str} {id:String} {apos cpos:Pos} {r:V→List V→Hp→VK→Prop} {g:Str→List D→Option D} (hK:X.K=K) (slot:Slot "str" name id) (hty:typeOf (.builtin id)=pure (.type "method_descriptor")) (hm:MtR X id r) (hr:MtF K r g) (ho:QE X o (tF K p ds ds1 d1 f)) (ha:QA X (e :: es) (tFA K p ds1 ds2 sh fa)) (hsh:bV 0 sh=true) (hbase:attributeBase o name X.env (eval o X.env)=eval o X.env) (hfew:((backTo cpos (starEach (e :: es) X.env)).all (fun x=>!x.1) && (backToKw cpos (keywordEach [] X.env)).all (fun x=>x.1.isSome)
   && decide ((e :: es).length+([]:List Keyword).length+(if ([]:List Keyword).isEmpty then 0 else 1) < 30))=true) (hline:(apos.endLine == cpos.line)=true) (hs:starEach (e :: es) X.env=(false,eval e X.env) :: starEach es X.env) (hplain:(backTo cpos (starEach es X.env)).any (·.1)=false):QE X (.Call (.Attribute o name apos) (e :: es) [] cpos) (tF K p ds ds2 3 (eM g f fa)):=⟨B4 hK slot hty hm hr ho.h ha.h hsh hbase hfew hline hs hplain⟩
end
section
variable {X:Cx} {K:PySem.W.Frag} {p p1 p2:Bool} {J:Jd} {ds ds1 ds2:List Nat} {H:Hp} {σ:St} {d d1 d2 i m:Nat} {f fk fe:ME} {mp:MP} {e b o:Expr} {Q:VK}
end
section
variable {X:Cx} {K:PySem.W.Frag} {p p1 p2:Bool} {ds ds1 ds2:List Nat} {d d1 d2:Nat} {e k:Expr} {f f1 f2:ME} {fa:MA} {sh:Sh} {σ:St} {H:Hp} {Q Q':VK} {pos pos2 px py:Pos}
end
section
variable {X:Cx} {K:PySem.W.Frag} {p p1 p2:Bool} {ds ds1 ds2:List Nat} {d d1 d2:Nat} {a b:Expr} {f f1 f2:ME} {σ:St} {H:Hp} {Q Q':VK} {pos:Pos} {ta tb:TE} {rest:List Expr}
end
section
variable {X:Cx} {K:PySem.W.Frag} {p p1 p2:Bool} {ds ds1 ds2:List Nat} {d d1 d2:Nat} {a b:Expr} {f f1 f2:ME} {σ:St} {H:Hp} {Q Q':VK} {pos:Pos}
end
section
variable {X:Cx} {K:PySem.W.Frag} {p p1 p2:Bool} {ds ds1 ds2:List Nat} {d d1 d2:Nat} {e:Expr} {f f1 f2:ME} {σ:St} {H:Hp} {Q Q':VK}
end
section
variable {X:Cx} {K:PySem.W.Frag} {p:Bool} {ds ds1 ds2:List Nat} {d d1 d2:Nat} {e:Expr} {f f1 f2:ME} {σ:St} {H:Hp} {Q Q':VK}
end
section
variable {X:Cx} {K:PySem.W.Frag} {p p1 p2:Bool} {ds ds1 ds2:List Nat} {d d1 d2:Nat} {e k:Expr} {f f1 f2:ME} {fa:MA} {sh:Sh} {σ:St} {H:Hp} {Q Q':VK} {pos pos2 px py:Pos}
theorem oz (hK:X.K=K) (hc:X.calm=true) (hg:Gl X "len") (hm:X.mg "len"=none) (hg2:Gl X "set") (hm2:X.mg "set"=none) (hb:bootBuiltins "len"=some (.builtin "len")) (hb2:bootBuiltins "set"=some (.type "set")) (he:QE X e (tF K p ds ds1 0 f)) (hs:aJ e=true):QE X (.Call (.Name "len" px) [.Call (.Name "set" py) [e] [] pos2] [] pos) (tF K p ds ds1 3 (e1 jS f)):=⟨qJ hK hc hg hm hg2 hm2 hb hb2 he.h hs⟩
end
section
variable {X:Cx} {K:PySem.W.Frag} {p p1 p2:Bool} {ds ds1 ds2:List Nat} {d d1 d2:Nat} {e:Expr} {f f1 f2:ME} {σ:St} {H:Hp} {Q Q':VK} {i:Nat}
theorem sK {x:Str} {px apos cpos:Pos} (hK:X.K=K) (hN:X.N[i]?=some x) (hv:Vis X.env.scope x) (h1:ds1[i]?=some 1) (he:QE X e (tF K false ds ds1 0 f)) (hd:(x == ("__debug__" : Str))=false) (hcd:(x == ("__classdict__" : Str))=false) (hbase:attributeBase (.Name x px) "extend" X.env (eval (.Name x px) X.env)=eval (.Name x px) X.env) (hfew:((backTo cpos (starEach [e] X.env)).all (fun x=>!x.1) && (backToKw cpos (keywordEach [] X.env)).all (fun x=>x.1.isSome) && decide (([e]:List Expr).length+([]:List Keyword).length+(if ([]:List Keyword).isEmpty then 0 else 1) < 30))=true) (hline:(apos.endLine == cpos.line)=true) (hs:starEach [e] X.env=[(false,eval e X.env)]) (hplain:(backTo cpos (starEach [] X.env)).any (·.1)=false):QE X (.Call (.Attribute (.Name x px) "extend" apos) [e] [] cpos) (tF K false ds ds1 3 (jW i f)):=⟨B8 hK hN hv h1 he.h hd hcd hbase hfew hline hs hplain⟩
theorem B5 (he:QE X e (tF K p ds ds1 d f)):QE X e (tF K p ds ds1 3 (eSc f)):=⟨G5 he.h⟩
theorem lg {o:Expr} {apos cpos:Pos} (hK:X.K=K) (ho:QE X o (tF K p ds ds1 d1 f1)) (he:QE X e (tF K p ds1 ds2 d2 f2)) (hbase:attributeBase o "split" X.env (eval o X.env)=eval o X.env) (hfew:((backTo cpos (starEach [e] X.env)).all (fun x=>!x.1) && (backToKw cpos (keywordEach [] X.env)).all (fun x=>x.1.isSome) && decide (([e]:List Expr).length+([]:List Keyword).length+(if ([]:List Keyword).isEmpty then 0 else 1) < 30))=true) (hline:(apos.endLine == cpos.line)=true) (hs:starEach [e] X.env=[(false,eval e X.env)]) (hplain:(backTo cpos (starEach [] X.env)).any (·.1)=false):QE X (.Call (.Attribute o "split" apos) [e] [] cpos) (tF K p ds ds2 3 (e2 eZ f1 f2)):=⟨uJ hK ho.h he.h hbase hfew hline hs hplain⟩
end
section
variable {X:Cx} {K:PySem.W.Frag} {p p1 p2 q:Bool} {J:Jd} {ds ds0 ds1 ds2 ds' dsi dps:List Nat} {d d' d1 d2 dr:Nat} {a b c e tg iter:Expr} {es:List Expr} {st:Stmt} {rest body bodyB:List Stmt} {f f1 f2 fk fe:ME} {c1 c2:MT} {fa:MA} {sh:Sh} {pos px:Pos} {i:Nat} {x:Str} {m m1 m2:MS} {g:MG} {gs:List D→En→Option En} {fi:MI} {lk:List Nat}
theorem on {x:Str} {spos pos':Pos} {elt:Expr} {ifs:List Expr} {scope:Scope} {ns:List Str} {js:List (Option Nat)} (hN:X.N.Nodup) (hi':X.N[i]?=some x) (hx:X.env.scope.names.lookup x=some .local) (B:BlkOkC X scope ns js) (hc:X.calm=true) (hi:QI X tg iter (tFI K true ds0 ds0 fi)) (hg:∀ C cl s₀ H₀ fp,QG (aD X scope ns C cl s₀ H₀ fp) tg (tFG K lk dsi dsi g)) (ht:∀ C cl s₀ H₀ fp,QTs (aD X scope ns C cl s₀ H₀ fp) ifs (tFT K true dsi dsi c1)) (he:∀ C cl s₀ H₀ fp,QE (aD X scope ns C cl s₀ H₀ fp) elt (tF K true dsi dsi 3 f)) (hle:leD ds0 ds=true) (hds:ds.set i 3=ds') (hcap:dW ds0 js dsi=true) (hlk:lk=dU js 0) (hl:i < ds.length) (hk:i ∉ J.lk) (hsw:swapsWith (.ListComp elt [⟨tg,iter,ifs,0⟩] scope pos) (some (.Name x pos')) spos.line X.env=pure true) (hs:∀ x,foldedSetIterable iter X.env x=pure x):QS X (.Assign [.Name x pos'] (.ListComp elt [⟨tg,iter,ifs,0⟩] scope pos) spos) (tFS K J ds ds' (aA i (eLC true fi g c1 f js))):=⟨qH hN hi' hx B hc hi.h (fun C cl s₀ H₀ fp=>(hg C cl s₀ H₀ fp).h) (fun C cl s₀ H₀ fp=>(ht C cl s₀ H₀ fp).h) (fun C cl s₀ H₀ fp=>(he C cl s₀ H₀ fp).h) hle hds hcap hlk hl hk hsw hs⟩
end
section
variable {X:Cx} {K:PySem.W.Frag} {p:Bool} {ds ds1:List Nat} {d:Nat} {fa:MA} {sh:Sh} {O O1:AS} {H0 H:Hp} {ts us:List D} {vs ws:List V} {a b:Addr}
theorem sI {l m:Expr} {px pos:Pos} {elts:List Expr} {k:Nat} {tp:Pos} (hK:X.K=K) (hg:Gl X "zip") (hm:X.mg "zip"=none) (ha:QA X [l,m] (tFA K p ds ds1 sh fa)) (hs:aJ l=true) (hs2:aJ m=true):QI X (.Tuple elts k tp) (.Call (.Name "zip" px) [l,m] [] pos) (tFI K p ds ds1 (jq fa)):=⟨BY hK hg hm ha.h hs hs2⟩
end
section
variable {X:Cx} {K:PySem.W.Frag} {J:Jd} {lk ds ds0 ds1 ds2 ds':List Nat} {e tg:Expr} {es:List Expr} {f:ME} {pos px:Pos} {i:Nat} {g:MG} {gs:List D→En→Option En}
end
end L2
namespace L2
open PySem PySem.Spec PyProof.Rows
theorem Fun.okQ {P:Program} {w:World} {K:PySem.W.Frag} {mg:Str→Option Value} {base:Heap} {x qual:Str} {st:Stmt} {f:Addr} {fd:FuncData} {N ps:List Str} {k n dr:Nat} {dps ds0:List Nat} {J:Jd} {b:MS}
  (F:Fun K x qual st f fd) (S:FnScope N ps (am st)) (hl:dps.length=ps.length) (hn:N.length - dps.length=n) (hJ:J=⟨nP dps,dps++List.replicate n 0,dr,[]⟩) (hd:ds0=dps++List.replicate n 0)
  (hb:∀ (cdv:Value) (A:Around) (outer:List Env) (s:Shared) (H:Hp) (E:XK),Room k (A.deeper (envOfC qual (am st) s.heap.objs.size f cdv)) →
   QSs (kz CX0 P w K mg base N qual (am st) f cdv A outer s H E).nox (cb st) (tFS K J ds0 ds0 b)):FnOk P w K mg base CX0 (k+1) f fd ps (spF K dps dr (fnF n dps b)):=by
 subst hJ hd
 exact F.ok S (fun vs H Q E h=>AN hl h) fun cdv A outer s H vs Q E hr h=>⟨_,(hb cdv A outer s H E hr).h,BW hn h⟩
def EU (F:List D→Option (D × En)):Prop:=∀ ns:List Int,ns.length≤63→∃ outs,F [.list (ns.map .int)]=some (.bool true,outs)
def kP (K:PySem.W.Frag):Sp:=fun vs H Q _=>∃ (a:Addr) (ns:List Int),vs=[.ref a]∧SqL K H a (ns.map V.int)∧(∀ b,H b=none∨∃ o xs,H b=some (.frz o (.lst xs)))∧ns.length≤63∧∀ H':Hp,Q (.bl true) H'
theorem j8 {K:PySem.W.Frag} {O:AS} {H:Hp}:∀ ns:List Int,Ows K O H (ns.map .int) 0 (ns.map V.int) NoA
 | []=>rfl
 | n :: r=>⟨.int n,r.map V.int,NoA,NoA,rfl,fun _ z=>z,fun _ z=>z,fun _ z=>z.elim,rfl,j8 r⟩
theorem ET {K:PySem.W.Frag} {dr:Nat} {F:List D→Option (D × En)} (h:EU F) {vs:List V} {H:Hp} {Q:VK} {E:XK} (q:kP K vs H Q E):spF K [0] dr F vs H Q E:=by
 obtain ⟨a,ns,rfl,hs,_,hl,q⟩:=q
 obtain ⟨outs,e⟩:=h ns hl
 have fz:FzL K (fun _=>False) H a (ns.map V.int):=by
  rcases hs with hs | hs
  ·exact .inl ⟨hs,fun z=>z⟩
  ·exact .inr fun H'=>.inr hs
 have eO:Own (fun _=>NoA) NoA=(fun _=>False):=eX fun b=>⟨fun z=>z.elim (fun ⟨_,z⟩=>z) fun z=>z,fun z=>z.elim⟩
 refine ⟨NoA,[.list (ns.map .int)],fun _=>NoA,.bool true,outs,⟨fun i t hi=>?_,fun _ _ _ z=>z.elim,fun _ _ z=>z.elim,fun b z=>?_,rfl,rfl⟩,e,fun v H' R' Fr _ o=>?_⟩
 ·cases i with
  | zero =>
   have:t=.list (ns.map .int):=by
    have h2:some (some (PyData.list (ns.map .int)))=some (some t):=hi
    injection h2 with h3
    injection h3 with h4
    exact h4.symm
   subst this
   refine ⟨.ref a,0,rfl,rfl,?_⟩
   rw [eO]
   exact ⟨a,ns.map V.int,rfl,.inl ⟨rfl,fz,j8 ns⟩⟩
  | succ i=>simp at hi
 ·rw [eO] at z
  exact z.elim
 ·rw [show v=.bl true from o]
  exact q H'
end L2
namespace L2
open PySem PySem.Spec PyProof.Rows
section
variable {c:MT} {b:MS} {en en1 en2:En} {fl:Fl} {t:D}
theorem ip:∀ {n m:Nat} {en:En} {fl:Fl},whN c b n en=some fl→n≤m→whN c b m en=some fl
 | 0,_,_,_,h,_=>by cases h
 | n+1,0,_,_,_,h=>by omega
 | n+1,m+1,en,fl,h,hm=>by
  unfold whN at h ⊢
  obtain ⟨r,h1,h⟩:=Option.bind_eq_some_iff.mp h
  rw [h1]
  show (if r.1=true then _ else _)=_
  by_cases hr:r.1=true
  ·rw [if_pos hr] at h ⊢
   obtain ⟨f1,h2,h⟩:=Option.bind_eq_some_iff.mp h
   rw [h2]
   cases f1 with
   | nx e=>exact ip (n:=n) (m:=m) h (by omega)
   | ct e=>exact ip (n:=n) (m:=m) h (by omega)
   | rt t e=>exact h
  ·rw [if_neg hr] at h ⊢
   exact h
theorem gy {n:Nat} (h:whN c b n en=some fl):bW c b en=some fl:=by
 have q:∃ n fl,whN c b n en=some fl:=⟨n,fl,h⟩
 unfold bW
 rw [dif_pos q]
 have h2:=q.choose_spec.choose_spec
 have h3:=ip h (Nat.le_max_left n q.choose)
 have h4:=ip h2 (Nat.le_max_right n q.choose)
 rw [h3] at h4
 exact h4.symm
theorem oP (h:c en=some (false,en1)):bW c b en=some (.nx en1):=by
 refine gy (n:=1) ?_
 unfold whN
 rw [h]
 rfl
theorem oQ (h:c en=some (true,en1)) (h1:b en1=some (.nx en2)) (h2:bW c b en2=some fl):bW c b en=some fl:=by
 obtain ⟨n,h3⟩:=gQ h2
 refine gy (n:=n+1) ?_
 unfold whN
 rw [h]
 show (b en1).bind _=_
 rw [h1]
 exact h3
theorem fO {c:MT} {f:ME} {p:D→Bool} {F:D→D} {rest:En}:∀ (ts acc:List D) (o:Option D),(∀ t∈ts,c (some t :: rest)=some (p t,some t :: rest))→(∀ t∈ts,p t=true→f (some t :: rest)=some (F t,some t :: rest))→acc.length+ts.length≤sizeLine →
  ∃ o',lcF (gN 0) c f ts acc (o :: rest)=some (acc++(ts.filter p).map F,o' :: rest)
 | [],acc,o,_,_,_=>⟨o,by simp [lcF]⟩
 | t :: ts,acc,o,hc,hf,hl=>by
  have hl':acc.length+(ts.length+1)≤sizeLine:=hl
  cases hp:p t with
  | true =>
   obtain ⟨o',h⟩:=fO (c:=c) (f:=f) (p:=p) (F:=F) ts (acc++[F t]) (some t) (fun x hx=>hc x (List.mem_cons_of_mem _ hx)) (fun x hx=>hf x (List.mem_cons_of_mem _ hx)) (by rw [List.length_append]; show acc.length+1+_≤_; omega)
   refine ⟨o',?_⟩
   unfold lcF
   show ((c (some t :: rest)).bind _)=_
   rw [hc t List.mem_cons_self,hp]
   show ((f (some t :: rest)).bind _)=_
   rw [hf t List.mem_cons_self hp]
   show (if acc.length < sizeLine then _ else _)=_
   rw [if_pos (by omega)]
   dsimp only
   rw [h,List.filter_cons_of_pos hp]
   simp
  | false =>
   obtain ⟨o',h⟩:=fO (c:=c) (f:=f) (p:=p) (F:=F) ts acc (some t) (fun x hx=>hc x (List.mem_cons_of_mem _ hx)) (fun x hx=>hf x (List.mem_cons_of_mem _ hx)) (by omega)
   refine ⟨o',?_⟩
   unfold lcF
   show ((c (some t :: rest)).bind _)=_
   rw [hc t List.mem_cons_self,hp]
   show lcF (gN 0) c f ts acc (some t :: rest)=_
   rw [h,List.filter_cons_of_neg (by rw [hp]; decide)]
theorem Bk {f:ME} {F:D→D} {rest:En} (ts acc:List D) (o:Option D) (hf:∀ t∈ts,f (some t :: rest)=some (F t,some t :: rest)) (hl:acc.length+ts.length≤sizeLine) :
  ∃ o',lcF (gN 0) cY f ts acc (o :: rest)=some (acc++ts.map F,o' :: rest):=by
 obtain ⟨o',h⟩:=fO (c:=cY) (f:=f) (p:=fun _=>true) (F:=F) ts acc o (fun _ _=>rfl) (fun t ht _=>hf t ht) hl
 rw [List.filter_eq_self.mpr (fun _ _=>rfl)] at h
 exact ⟨o',h⟩
end
section
variable {c c1 c2:MT} {m1 m2 b:MS} {en en1 en2:En} {fl:Fl} {t t1 t2 u:D} {f f1 f2:ME} {g:D→D→Option D} {fa:MA} {i n:Nat} {x y:Bool} {F:List D→Option (D × En)} {as:List (D ⊕ Nat)} {ts:List D} {outs:En} {dps:List Nat}
theorem aQ (h1:m1 en=some (.nx en1)) (h2:m2 en1=some fl):ao m1 m2 en=some fl:=by unfold ao; rw [h1]; exact h2
theorem il (h1:m1 en=some (.rt t en1)):ao m1 m2 en=some (.rt t en1):=by unfold ao; rw [h1]; rfl
theorem dR {b:Bool} (h1:c en=some (b,en1)) (hb:b=true) (h2:m1 en1=some fl):sIf c m1 m2 en=some fl:=by unfold sIf; rw [h1,hb]; exact h2
theorem jw {b:Bool} (h1:c en=some (b,en1)) (hb:b=false) (h2:m2 en1=some fl):sIf c m1 m2 en=some fl:=by unfold sIf; rw [h1,hb]; exact h2
theorem ik (h:f en=some (t,en1)) (he:en1.set i (some t)=en2):aA i f en=some (.nx en2):=by unfold aA; rw [h,← he]; rfl
theorem lj (h:f en=some (t,en1)):aE f en=some (.rt t en1):=by unfold aE; rw [h]; rfl
theorem aZ (h1:f1 en=some (t1,en1)) (h2:f2 en1=some (t2,en2)) (h:g t1 t2=some u):e2 g f1 f2 en=some (u,en2):=by
 unfold e2
 rw [h1]
 show (f2 en1).bind _=_
 rw [h2]
 show (g t1 t2).map _=_
 rw [h]
 rfl
theorem sO {b:Bool} (h1:c1 en=some (b,en1)) (hb:b=true):bOr c1 c2 en=some (true,en1):=by unfold bOr; rw [h1,hb]; rfl
theorem sP {b:Bool} {r:Bool × En} (h1:c1 en=some (b,en1)) (hb:b=false) (h2:c2 en1=some r):bOr c1 c2 en=some r:=by unfold bOr; rw [h1,hb]; exact h2
theorem cQ {b:Bool} (h:f en=some (.bool b,en1)):tV f en=some (b,en1):=by unfold tV; rw [h]; rfl
theorem pM (h1:fa en=some (as,en1)) (h2:c9 as en1=some ts) (h:F ts=some (t,outs)) (hw:wb as outs en1=en2):ay F fa en=some (t,en2):=by
 subst hw
 unfold ay
 rw [h1]
 show (c9 as en1).bind _=_
 rw [h2]
 show (F ts).map _=_
 rw [h]
 rfl
theorem jv {g:List D→Option D} (h1:fa en=some (as,en1)) (h2:vals as=some ts) (h:g ts=some t):eN g fa en=some (t,en1):=by
 unfold eN
 rw [h1]
 show (vals as).bind _=_
 rw [h2]
 show (g ts).map _=_
 rw [h]
 rfl
theorem bJ:100≤sizeLine:=by rw [sizeLine_eq]; decide
theorem fg (h:b (ts.map some++List.replicate n none)=some (.rt t en)):fnF n dps b ts=some (t,msk dps en):=by
 unfold fnF
 rw [h]
 rfl
end
namespace Pen2
def ce:MS:=(aE (jX [((eC (.str "script")),(af 0)),((eC (.str "at")),(af 1)),((eC (.str "left")),(eC (.int 0)))]))
def F_law_pen:List D→Option (D × En):=fnF 0 [0,0] ce
def dq:MS:=(ao (aA 2 (e2 bp (e2 bC (e2 br (e2 br (e2 bp (af 0) (eC (.int 2147483629))) (e2 bC (eC (.int 40503)) (af 1))) (eC (.int 24691))) (eC (.int 48271))) (eC (.int 2147483647))))
 (ao (aA 3 (e2 bp (e2 br (e2 br (e2 bC (af 2) (af 2)) (e2 bC (eC (.int 69621)) (af 2))) (af 1)) (eC (.int 2147483629))))
 (aE (e2 cj (e2 bp (e2 br (e2 br (e2 bC (af 3) (af 3)) (e2 bC (eC (.int 16807)) (af 3))) (e2 bC (eC (.int 31)) (af 1))) (eC (.int 1073741789))) (eC (.int 64))))))
def bR:List D→Option (D × En):=fnF 2 [0,0] dq
def fV:MS:=(ao (aA 2 (bB 0 (eC (.str "at"))))
 (ao (aA 3 (bB 0 (eC (.str "script"))))
 (ao (sIf (tV (e2 eqD (bB 0 (eC (.str "left"))) (eC (.int 0)))) (ao (cA 0 (eC (.str "at")) (e2 br (af 2) (eC (.int 1))))
 (ao (aA 4 (eC (.int 0)))
 (ao (sIf (tV (e2 gtI (eN aV (ae (af 3) ag)) (eC (.int 0)))) (aA 4 (e2 ixA (af 3) (e2 bp (af 2) (eN aV (ae (af 3) ag))))) bh)
 (ao (sIf (bOr (tV (e2 geI (af 2) (eN aV (ae (af 3) ag)))) (tV (e2 ltI (eN gY (ae (af 4) ag)) (e2 kl (eC (.int 10)) (eC (.int 18)))))) (aE (e2 bp (ay bR (ae (af 4) (ae (af 2) ag))) (af 1))) bh)
 (cA 0 (eC (.str "left")) (eN gY (ae (af 4) ag))))))) bh)
 (ao (aA 5 (e2 bp (bB 0 (eC (.str "left"))) (af 1)))
 (ao (cA 0 (eC (.str "left")) (e2 cj (bB 0 (eC (.str "left"))) (af 1)))
 (aE (af 5)))))))
def aI:List D→Option (D × En):=fnF 4 [1,0] fV
def penD (ns:List Int) (k l:Int):D:=.dict [(.str "script",.list (ns.map .int)),(.str "at",.int k),(.str "left",.int l)]
theorem nL {c k:Int} (h0:0≤k) (h1:k≤1000000000):∃ r,bR [.int c,.int k]=some (.int r,[none,none])∧0≤r:=by
 have a0:0≤c % 2147483629:=by omega
 have a1:c % 2147483629 < 2147483629:=by omega
 generalize g1:(c % 2147483629+40503 * k+24691) * 48271 % 2147483647=x
 have x0:0≤x:=by omega
 have x1:x < 2147483647:=by omega
 generalize g2:(x * x+69621 * x+k) % 2147483629=y
 have y0:0≤y:=by omega
 have y1:y < 2147483629:=by omega
 refine ⟨(y * y+16807 * y+31 * k) % 1073741789 / 64,?_,by omega⟩
 have c1:CMul 40503 k:=.inl (by decide)
 have c2:CMul (c % 2147483629+40503 * k+24691) 48271:=.inr (by decide)
 have c3:CMul x x:=.inl (by constructor <;> omega)
 have c4:CMul 69621 x:=.inl (by decide)
 have c5:CMul y y:=.inl (by constructor <;> omega)
 have c6:CMul 16807 y:=.inl (by decide)
 have c7:CMul 31 k:=.inl (by decide)
 have c8:∀ z,fI z 64:=fun z=>by unfold fI; decide
 simp [bR,fnF,dq,ao,aA,aE,e2,af,eC,bp,bC,br,cj,gc,c1,c2,c3,c4,c5,c6,c7,c8,g1,g2,msk]
theorem take_ok {ns:List Int} {k l m:Int} (h0:0≤k) (h1:k≤1000000000) (h2:0≤l) (h3:0 < m) (h4:m < 1073741824) :
  ∃ r k' l',aI [penD ns k l,.int m]=some (.int r,[some (penD ns k' l'),none])∧0≤r∧r < m∧k≤k'∧k'≤k+1∧0≤l':=by
 have cd:∀ z,fI z m:=fun z=>⟨h3,h4⟩
 have cp:gk 10 18:=by unfold gk; decide
 have md:∀ z,bp (.int z) (.int m)=some (.int (z % m)):=fun z=>if_pos h3
 have dv:∀ z,cj (.int z) (.int m)=some (.int (z / m)):=fun z=>if_pos (cd z)
 have last:∀ (k' b:Int) (x y z:Option D),(ao (aA 5 (e2 bp (bB 0 (eC (.str "left"))) (af 1)))
   (ao (cA 0 (eC (.str "left")) (e2 cj (bB 0 (eC (.str "left"))) (af 1)))
   (aE (af 5)))) [some (penD ns k' b),some (.int m),x,y,z,none]=some (.rt (.int (b % m)) [some (penD ns k' (b / m)),some (.int m),x,y,z,some (.int (b % m))]):=by
  intro k' b x y z
  refine aQ (en1:=[some (penD ns k' b),some (.int m),x,y,z,some (.int (b % m))]) (ik (aZ (t1:=.int b) (t2:=.int m) rfl rfl (md b)) rfl) (aQ (en1:=[some (penD ns k' (b / m)),some (.int m),x,y,z,some (.int (b % m))]) ?_ rfl)
  unfold cA
  rw [aZ (t1:=.int b) (t2:=.int m) (f1:=bB 0 (eC (.str "left"))) (f2:=af 1) (g:=cj) (en:=[some (penD ns k' b),some (.int m),x,y,z,some (.int (b % m))]) (en1:=[some (penD ns k' b),some (.int m),x,y,z,some (.int (b % m))]) (en2:=[some (penD ns k' b),some (.int m),x,y,z,some (.int (b % m))]) rfl rfl (dv b)]
  rfl
 by_cases hl:l=0
 ·subst hl
  by_cases hn:ns.length=0
  ·have hns:ns=[]:=List.length_eq_zero_iff.mp hn
   subst hns
   obtain ⟨r,e,hr⟩:=nL (c:=0) h0 h1
   refine ⟨r % m,k+1,0,?_,Int.emod_nonneg _ (by omega),Int.emod_lt_of_pos _ h3,by omega,by omega,by omega⟩
   refine fg (en:=[some (penD [] (k+1) 0),some (.int m),some (.int k),some (.list []),some (.int 0),none]) (aQ rfl (aQ rfl (il (dR (b:=true) rfl rfl (aQ (en1:=[some (penD [] (k+1) 0),some (.int m),some (.int k),some (.list []),none,none]) rfl (aQ rfl (aQ rfl (il (dR (b:=true) (sO (b:=decide ((0:Int)≤k)) rfl (decide_eq_true h0)) rfl (lj (aZ (en1:=[some (penD [] (k+1) 0),some (.int m),some (.int k),some (.list []),some (.int 0),none]) (t2:=.int m) (pM (as:=[.inl (.int 0),.inl (.int k)]) (en1:=[some (penD [] (k+1) 0),some (.int m),some (.int k),some (.list []),some (.int 0),none]) rfl rfl e rfl) rfl (md r))))))))))))
  ·obtain ⟨j,ej⟩:∃ j:Nat,ixN ns.length (k % ns.length)=some j∧j < ns.length:=by
    have q1:0≤k % (ns.length:Int):=Int.emod_nonneg _ (by omega)
    have q2:k % (ns.length:Int) < ns.length:=Int.emod_lt_of_pos _ (by omega)
    exact ⟨(k % (ns.length:Int)).toNat,by unfold ixN; rw [if_pos q1,if_pos q2],by omega⟩
   obtain ⟨c,ec⟩:∃ c,ns[j]?=some c:=⟨_,List.getElem?_eq_getElem ej.2⟩
   have at1:ixA (.list (ns.map .int)) (.int (k % ns.length))=some (.int c):=by
    show atI _ _=_
    unfold atI
    rw [List.length_map,ej.1]
    show (ns.map PyData.int)[j]?=_
    rw [List.getElem?_map,ec]
    rfl
   have hn1:(0:Int) < ns.length:=by omega
   have len:aV [.list (ns.map .int)]=some (.int ns.length):=by show some (PyData.int (ns.map PyData.int).length)=_; rw [List.length_map]
   have ml:bp (.int k) (.int ns.length)=some (.int (k % ns.length)):=if_pos hn1
   obtain ⟨r,e,hr⟩:=nL (c:=c) h0 h1
   obtain ⟨b,ab,b0⟩:∃ b,gY [.int c]=some (.int b)∧0≤b:=⟨if c < 0 then -c else c,rfl,by split <;> omega⟩
   have pw:kl (.int 10) (.int 18)=some (.int 1000000000000000000):=by
    show (if gk 10 18 then some (PyData.int (10 ^ Int.toNat 18)) else none)=_
    rw [if_pos cp]; rfl
   have ln:∀ (x y:Option D) (p:D),(eN aV (ae (af 3) ag)) [some p,some (.int m),x,some (.list (ns.map .int)),y,none]=some (.int ns.length,[some p,some (.int m),x,some (.list (ns.map .int)),y,none]):=fun x y p=>jv rfl rfl len
   have pre:∀ (x y:Option D) {m2:MS} {fl:Fl},m2 [some (penD ns (k+1) 0),some (.int m),some (.int k),some (.list (ns.map .int)),some (.int c),none]=some fl→(ao (cA 0 (eC (.str "at")) (e2 br (af 2) (eC (.int 1))))
 (ao (aA 4 (eC (.int 0)))
 (ao (sIf (tV (e2 gtI (eN aV (ae (af 3) ag)) (eC (.int 0)))) (aA 4 (e2 ixA (af 3) (e2 bp (af 2) (eN aV (ae (af 3) ag))))) bh) m2))) [some (penD ns k 0),some (.int m),some (.int k),some (.list (ns.map .int)),none,none]=some fl:=by
    intro x y m2 fl h
    refine aQ (en1:=[some (penD ns (k+1) 0),some (.int m),some (.int k),some (.list (ns.map .int)),none,none]) rfl (aQ (en1:=[some (penD ns (k+1) 0),some (.int m),some (.int k),some (.list (ns.map .int)),some (.int 0),none]) rfl (aQ ?_ h))
    exact dR (cQ (aZ (ln _ _ _) rfl rfl)) (decide_eq_true hn1) (ik (aZ rfl (aZ rfl (ln _ _ _) ml) at1) rfl)
   by_cases hq:(ns.length:Int)≤k∨b < 1000000000000000000
   ·refine ⟨r % m,k+1,0,?_,Int.emod_nonneg _ (by omega),Int.emod_lt_of_pos _ h3,by omega,by omega,by omega⟩
    refine fg (en:=[some (penD ns (k+1) 0),some (.int m),some (.int k),some (.list (ns.map .int)),some (.int c),none]) (aQ rfl (aQ rfl (il (dR (b:=true) rfl rfl (pre none none (il (dR (en1:=[some (penD ns (k+1) 0),some (.int m),some (.int k),some (.list (ns.map .int)),some (.int c),none]) (b:=true) ?_ rfl (lj (aZ (en1:=[some (penD ns (k+1) 0),some (.int m),some (.int k),some (.list (ns.map .int)),some (.int c),none]) (t2:=.int m) (pM (as:=[.inl (.int c),.inl (.int k)]) (en1:=[some (penD ns (k+1) 0),some (.int m),some (.int k),some (.list (ns.map .int)),some (.int c),none]) rfl rfl e rfl) rfl (md r))))))))))
    by_cases hq2:(ns.length:Int)≤k
    ·exact sO (cQ (aZ rfl (ln _ _ _) rfl)) (decide_eq_true hq2)
    ·have hq3:=hq.resolve_left hq2
     exact sP (cQ (aZ rfl (ln _ _ _) rfl)) (decide_eq_false hq2) (cQ (aZ (jv rfl rfl ab) (aZ rfl rfl pw) (congrArg (fun q=>some (PyData.bool q)) (decide_eq_true hq3))))
   ·have hq1:¬ (ns.length:Int)≤k:=fun z=>hq (.inl z)
    have hq2:¬ b < 1000000000000000000:=fun z=>hq (.inr z)
    refine ⟨b % m,k+1,b / m,?_,Int.emod_nonneg _ (by omega),Int.emod_lt_of_pos _ h3,by omega,by omega,Int.ediv_nonneg b0 (by omega)⟩
    refine fg (aQ rfl (aQ rfl (aQ (en1:=[some (penD ns (k+1) b),some (.int m),some (.int k),some (.list (ns.map .int)),some (.int c),none]) (dR (b:=true) rfl rfl (pre none none (aQ (jw (sP (cQ (aZ rfl (ln _ _ _) rfl)) (decide_eq_false hq1) (cQ (aZ (jv rfl rfl ab) (aZ rfl rfl pw) rfl))) (decide_eq_false hq2) rfl) ?_))) (last _ _ _ _ _))))
    unfold cA
    rw [jv (fa:=ae (af 4) ag) (en:=[some (penD ns (k+1) 0),some (.int m),some (.int k),some (.list (ns.map .int)),some (.int c),none]) (en1:=[some (penD ns (k+1) 0),some (.int m),some (.int k),some (.list (ns.map .int)),some (.int c),none]) rfl rfl ab]
    rfl
 ·refine ⟨l % m,k,l / m,?_,Int.emod_nonneg _ (by omega),Int.emod_lt_of_pos _ h3,Int.le_refl _,by omega,Int.ediv_nonneg h2 (by omega)⟩
  exact fg (aQ rfl (aQ rfl (aQ (jw (b:=l == 0) rfl (beq_eq_false_iff_ne.mpr hl) rfl) (last k l _ _ _))))
end Pen2
end L2
namespace L2
open PySem PySem.Spec PyProof.Rows
theorem Gk (a b:Int):eqD (.int a) (.int b)=some (.bool (a == b)):=by
 show grd _ _=_
 unfold grd
 rw [if_pos ⟨rfl,rfl,Nat.zero_le _⟩]
 simp only [peq]
theorem EN (a b:Int):neD (.int a) (.int b)=some (.bool (!(a == b))):=by
 show grd _ _=_
 unfold grd
 rw [if_pos ⟨rfl,rfl,Nat.zero_le _⟩]
 simp only [peq]
end L2
namespace L2
open PySem PySem.Spec PyProof.Rows
structure Df (K:PySem.W.Frag) (x:Str) (st:Stmt) (f:Addr):Prop where
 a:PySem.W.nsIn K mainGlobals x=some (some (.ref f))
 l:∃ oc od kV dc pm an cd ct sl,K.lookup f=some ⟨oc,od,.func (PySem.W.fnOf x x (cR st) (cb st) (am st) .none kV dc pm an cd ct),sl⟩∧PySem.W.codeIn K cd x=true
 k:PySem.W.keepIn K (.ref f)=true
section
variable {P:Program} {w:World} {K:PySem.W.Frag} {mg:Str→Option Value} {base h:Heap} {k dr:Nat} {x:Str} {ps:List Str} {dps:List Nat} {f:Addr} {st:Stmt} {sp:Sp}
theorem Df.mk' {oc:Value} {od an:Option Addr} {sl:Array (Option Value)} {kV dc pm cd ct:Value} (a:PySem.W.nsIn K mainGlobals x=some (some (.ref f))) (l:K.lookup f=some ⟨oc,od,.func (PySem.W.fnOf x x (cR st) (cb st) (am st) .none kV dc pm an cd ct),sl⟩) (c:PySem.W.codeIn K cd x=true) (k:PySem.W.keepIn K (.ref f)=true):Df K x st f :=
 ⟨a,⟨oc,od,kV,dc,pm,an,cd,ct,sl,l,c⟩,k⟩
theorem Df.kn (d:Df K x st f) (X:K.In h) (G:h.Ns mainGlobals mg) (b:∀ (kV doc pm:Value) (an:Option Addr) (cdv ct:Value) (us:List Value),us.length=ps.length→bindArgs (PySem.W.fnOf x x (cR st) (cb st) (am st) .none kV doc pm an cdv ct) ⟨us,[]⟩=pure (ps.zip us))
  (ok:∀ fd,Fun K x x st f fd→FnOk P w K mg base CX0 k f fd ps sp):Kn P w K mg base k x ps sp:=by
 obtain ⟨_,_,_,_,_,_,_,_,_,l,c⟩:=d.l
 have F:=oh (st:=st) l c d.k
 exact ⟨_,_,ok _ F,PySem.W.mg_of X G d.a,d.k,F.binds b⟩
theorem Df.none (d:Df K x st f) (X:K.In h) (G:h.Ns mainGlobals mg) (b:∀ (kV doc pm:Value) (an:Option Addr) (cdv ct:Value) (us:List Value),us.length=ps.length→bindArgs (PySem.W.fnOf x x (cR st) (cb st) (am st) .none kV doc pm an cdv ct) ⟨us,[]⟩=pure (ps.zip us)) :
  Kn P w K mg base k x ps (spF K dps dr fun _=>Option.none):=by
 obtain ⟨_,_,_,_,_,_,_,_,_,l,c⟩:=d.l
 have F:=oh (st:=st) l c d.k
 exact Bm (PySem.W.mg_of X G d.a) d.k (F.binds b)
end
end L2
namespace L2
namespace Pen3
open PySem L2
theorem sl1000:1000≤sizeLine:=by rw [sizeLine_eq]; decide
end Pen3
end L2
namespace L2
open PySem PySem.Spec PyProof.Rows
structure W {α:Type} (x:Option α) (Q:α→Prop):Prop where
 ex:∃ a,x=some a∧Q a
theorem av {α:Type} (a:α) (Q:α→Prop):W (some a) Q=Q a:=propext ⟨fun ⟨b,e,h⟩=>(Option.some.inj e) ▸ h,fun h=>⟨a,rfl,h⟩⟩
theorem aX {α:Type} (Q:α→Prop):W (none:Option α) Q=False:=propext ⟨(fun ⟨b,e,h⟩=>by cases e),(fun h=>h.elim)⟩
theorem W.use {α:Type} {x:Option α} {P Q:α→Prop} (h:W x P) (k:∀ a,P a→Q a):W x Q :=
 let ⟨a,e,h⟩:=h.ex
 ⟨a,e,k a h⟩
theorem W.of {α:Type} {x:Option α} {P:α→Prop} {a:α} (e:x=some a) (h:P a):W x P:=⟨a,e,h⟩
theorem aw {α β:Type} (x:Option α) (f:α→Option β) (Q:β→Prop):W (x.bind f) Q=W x (fun a=>W (f a) Q):=by
 cases x with
 | none=>show W none _=_; rw [aX,aX]
 | some a=>show W (f a) Q=_; rw [av]
theorem bu {α β:Type} (x:Option α) (f:α→β) (Q:β→Prop):W (x.map f) Q=W x (fun a=>Q (f a)):=by
 cases x with
 | none=>show W none _=_; rw [aX,aX]
 | some a=>show W (some (f a)) Q=_; rw [av,av]
theorem qY {α:Type} (c:Prop) [Decidable c] (a:α) (Q:α→Prop):W (grd c a) Q=(c∧Q a):=by
 unfold grd
 by_cases h:c
 ·rw [if_pos h,av]; exact propext ⟨fun z=>⟨h,z⟩,fun z=>z.2⟩
 ·rw [if_neg h,aX]; exact propext ⟨fun z=>z.elim,fun z=>h z.1⟩
theorem gZ {α:Type} (c:Prop) [Decidable c] (a:α) (Q:α→Prop):W (if c then some a else none) Q=(c∧Q a):=qY c a Q
theorem qX {α:Type} (c:Prop) [Decidable c] (x:Option α) (Q:α→Prop):W (if c then x else none) Q=(c∧W x Q):=by
 by_cases h:c
 ·rw [if_pos h]; exact propext ⟨fun z=>⟨h,z⟩,fun z=>z.2⟩
 ·rw [if_neg h,aX]; exact propext ⟨fun z=>z.elim,fun z=>h z.1⟩
def gv (en:En) (i:Nat):Option D:=(en[i]?).join
def gP (ts:List D) (n:Int) (t:D):Option (List D):=(ixN ts.length n).map fun k=>ts.set k t
def lU (ts:List D) (n:Int):Option (D × List D):=(seqIndex? n ts.length).bind fun k=>(ts[k]?).map fun t=>(t,ts.eraseIdx k)
def jg (i:Int) (n:Nat):List D:=(List.range n).map fun k=>.int (i+(k:Nat))
section
variable {α β:Type}
def nU (b:MS) (Q:Fl→Prop):Fl→Prop:=fun fl=>W (match fl with | .nx en1=>b en1 | .rt t en1=>some (.rt t en1) | .ct en1=>some (.ct en1)) Q
def EY (i:Nat) (Q:Fl→Prop):D × En→Prop:=fun r=>Q (.nx (r.2.set i (some r.1)))
def E7 (Q:Fl→Prop):D × En→Prop:=fun r=>Q (.nx r.2)
def EZ (Q:Fl→Prop):D × En→Prop:=fun r=>Q (.rt r.1 r.2)
def kIf (f g:En→Option β) (Q:β→Prop):Bool × En→Prop:=fun r=>W (if r.1 then f r.2 else g r.2) Q
def E6 (g:MG) (b:MS) (Q:Fl→Prop):List D × En→Prop:=fun r=>W (dB g b r.1 r.2) Q
def k4 (g:MG) (b:MS) (ts:List D) (Q:Fl→Prop):Fl→Prop:=fun fl=>W (match fl with | .nx en2=>dB g b ts en2 | .ct en2=>dB g b ts en2 | .rt r en2=>some (.rt r en2)) Q
def Av (g:MG) (b:MS) (ts:List D) (Q:Fl→Prop):En→Prop:=fun en=>W (b en) (k4 g b ts Q)
def uj (i:Nat) (en:En) (Q:Fl→Prop):List D→Prop:=fun ts=>Q (.nx (en.set i (some (.list ts))))
def kZ (i:Nat) (t:D) (Q:Fl→Prop):D × En→Prop:=fun q=>W (match q.1,(q.2[i]?).join with | .int n,some (.list ts)=>(ixN ts.length n).map fun k=>.nx (q.2.set i (some (.list (ts.set k t)))) | _,_=>none) Q
def qt (i:Nat) (fk:ME) (Q:Fl→Prop):D × En→Prop:=fun r=>W (match (r.2[i]?).join with | some _=>((fk r.2).bind fun q=>(match q.1,(q.2[i]?).join with | .int n,some (.list ts)=>(ixN ts.length n).map fun k=>.nx (q.2.set i (some (.list (ts.set k r.1)))) | _,_=>none)) | none=>none) Q
def sg (i:Nat) (t:D) (fk:ME) (en:En) (Q:Fl→Prop):D→Prop:=fun _x=>W (fk en) (kZ i t Q)
def nT (i:Nat) (t:D) (n:Int) (en:En) (Q:Fl→Prop):D→Prop:=fun x=>W (match x with | .list ts=>(ixN ts.length n).map fun k=>.nx (en.set i (some (.list (ts.set k t)))) | _=>none) Q
def eI (en:En) (Q:D × En→Prop):D→Prop:=fun t=>Q (t,en)
def k1 (g:D→Option D) (Q:D × En→Prop):D × En→Prop:=fun r=>W (g r.1) (eI r.2 Q)
def k2b (g:D→D→Option D) (t:D) (Q:D × En→Prop):D × En→Prop:=fun q=>W (g t q.1) (eI q.2 Q)
def k2 (g:D→D→Option D) (f:ME) (Q:D × En→Prop):D × En→Prop:=fun r=>W (f r.2) (k2b g r.1 Q)
def uo (g:ME) (Q:D × En→Prop):D × En→Prop:=fun r=>W (match r.1 with | .bool true=>g r.2 | .bool false=>some (.bool false,r.2) | _=>none) Q
def kOr (g:ME) (Q:D × En→Prop):D × En→Prop:=fun r=>W (match r.1 with | .bool true=>some (.bool true,r.2) | .bool false=>g r.2 | _=>none) Q
def E3 (Q:D × En→Prop):D × En→Prop:=fun r=>W (match r.1 with | .bool b=>some (.bool (!b),r.2) | _=>none) Q
def kTV (Q:Bool × En→Prop):D × En→Prop:=fun r=>W (match r.1 with | .bool b=>some (b,r.2) | _=>none) Q
def qB (g:MT) (Q:Bool × En→Prop):Bool × En→Prop:=fun r=>W (if r.1 then g r.2 else some (false,r.2)) Q
def um (g:MT) (Q:Bool × En→Prop):Bool × En→Prop:=fun r=>W (if r.1 then some (true,r.2) else g r.2) Q
def Ax (Q:Bool × En→Prop):Bool × En→Prop:=fun r=>Q (!r.1,r.2)
def ur (t:D) (Q:List (D ⊕ Nat) × En→Prop):List (D ⊕ Nat) × En→Prop:=fun y=>Q (.inl t :: y.1,y.2)
def kAC (r:MA) (Q:List (D ⊕ Nat) × En→Prop):D × En→Prop:=fun x=>W (r x.2) (ur x.1 Q)
def uq (i:Nat) (Q:List (D ⊕ Nat) × En→Prop):List (D ⊕ Nat) × En→Prop:=fun y=>Q (.inr i :: y.1,y.2)
def kAS (i:Nat) (r:MA) (en:En) (Q:List (D ⊕ Nat) × En→Prop):D→Prop:=fun _x=>W (r en) (uq i Q)
def kN2 (g:List D→Option D) (en:En) (Q:D × En→Prop):List D→Prop:=fun ts=>W (g ts) (eI en Q)
def kN (g:List D→Option D) (Q:D × En→Prop):List (D ⊕ Nat) × En→Prop:=fun r=>W (vals r.1) (kN2 g r.2 Q)
def qw (en:En) (Q:D × En→Prop):List D→Prop:=fun ts=>W (if ts.length≤sizeLine then some (.list ts,en) else none) Q
def E4 (Q:D × En→Prop):List (D ⊕ Nat) × En→Prop:=fun r=>W (vals r.1) (qw r.2 Q)
def qr (en:En) (Q:D × En→Prop):List D→Prop:=fun ts=>W (if ts.length≤sizeLine then some (.tuple ts,en) else none) Q
def EX (Q:D × En→Prop):List (D ⊕ Nat) × En→Prop:=fun r=>W (vals r.1) (qr r.2 Q)
def nW (as:List (D ⊕ Nat)) (en:En) (Q:D × En→Prop):D × En→Prop:=fun q=>Q (q.1,wb as q.2 en)
def nX (F:List D→Option (D × En)) (as:List (D ⊕ Nat)) (en:En) (Q:D × En→Prop):List D→Prop:=fun ts=>W (F ts) (nW as en Q)
def Aw (F:List D→Option (D × En)) (Q:D × En→Prop):List (D ⊕ Nat) × En→Prop:=fun r=>W (c9 r.1 r.2) (nX F r.1 r.2 Q)
def kFn (dps:List Nat) (Q:D × En→Prop):Fl→Prop:=fun fl=>W (match fl with | .rt t en=>some (t,msk dps en) | .nx en=>some (.none,msk dps en) | .ct _=>none) Q
def qy (q:Bool) (js:List (Option Nat)) (en:En) (Q:D × En→Prop):List D × En→Prop:=fun z=>Q (.list z.1,if q then en else wbB js z.2 en)
def kLC (q:Bool) (g:MG) (c:MT) (f:ME) (js:List (Option Nat)) (Q:D × En→Prop):List D × En→Prop:=fun r=>W (lcF g c f r.1 [] (cB js r.2)) (qy q js r.2 Q)
def kL3 (g:MG) (c:MT) (f:ME) (ts acc:List D) (Q:List D × En→Prop):D × En→Prop:=fun q=>W (if acc.length < sizeLine then lcF g c f ts (acc++[q.1]) q.2 else none) Q
def kL2 (g:MG) (c:MT) (f:ME) (ts acc:List D) (Q:List D × En→Prop):Bool × En→Prop:=fun r=>W (if r.1 then (f r.2).bind fun q=>if acc.length < sizeLine then lcF g c f ts (acc++[q.1]) q.2 else none else lcF g c f ts acc r.2) Q
def kL1 (g:MG) (c:MT) (f:ME) (ts acc:List D) (Q:List D × En→Prop):En→Prop:=fun en=>W (c en) (kL2 g c f ts acc Q)
def qD (Q:List D × En→Prop):D × En→Prop:=fun r=>W ((Ak r.1).map fun ts=>(ts,r.2)) Q
def kR1 (Q:List D × En→Prop):List (D ⊕ Nat) × En→Prop:=fun r=>W (match r.1 with | [.inl (.int j)]=>if -(2 ^ 62)≤j∧j < 2 ^ 62 then some ((List.range j.toNat).map fun k=>.int (0+(k:Nat)),r.2) else none | _=>none) Q
def At (Q:List D × En→Prop):List (D ⊕ Nat) × En→Prop:=fun r=>W (match r.1 with | [.inl (.tuple ts),.inl (.tuple us)]=>some (cX ts us,r.2) | _=>none) Q
def rZ (n:Int) (en:En) (Q:D × En→Prop):D→Prop:=fun x=>W (match x with | .list ts=>(atI ts n).map fun t=>(t,en) | _=>none) Q
def kY (i:Nat) (Q:D × En→Prop):D × En→Prop:=fun r=>W (match r.1,(r.2[i]?).join with | .int n,some (.list ts)=>(atI ts n).map fun t=>(t,r.2) | _,_=>none) Q
def As (i:Nat) (f:ME) (en:En) (Q:D × En→Prop):D→Prop:=fun _x=>W (f en) (kY i Q)
def qC (i:Nat) (Q:D × En→Prop):D × En→Prop:=fun r=>W (match (r.2[i]?).join with | some (.list ts)=>if ts.length < sizeLine then some (PyData.none,r.2.set i (some (.list (ts++[r.1])))) else none | _=>none) Q
def Ay (i:Nat) (t:D) (en:En) (Q:D × En→Prop):D→Prop:=fun x=>W (match x with | .list ts=>if ts.length < sizeLine then some (PyData.none,en.set i (some (.list (ts++[t])))) else none | _=>none) Q
def E9 (i:Nat) (f:ME) (en:En) (Q:D × En→Prop):D→Prop:=fun x=>W (match x with | .list _=>((f en).bind fun r=>(match (r.2[i]?).join with | some (.list ts)=>if ts.length < sizeLine then some (PyData.none,r.2.set i (some (.list (ts++[r.1])))) else none | _=>none)) | _=>none) Q
def qA (g:D→D→Option D) (t:D) (f:ME) (en:En) (Q:D × En→Prop):D→Prop:=fun x=>W (match x with | .bool true=>(f en).bind fun z=>(g t z.1).map fun t=>(t,z.2) | .bool false=>some (.bool false,en) | _=>none) Q
def ul (g g2:D→D→Option D) (f3:ME) (t:D) (Q:D × En→Prop):D × En→Prop:=fun q=>W (g t q.1) (qA g2 q.1 f3 q.2 Q)
def kCh (g g2:D→D→Option D) (f2 f3:ME) (Q:D × En→Prop):D × En→Prop:=fun r=>W (f2 r.2) (ul g g2 f3 r.1 Q)
def kOS (Q:Option Int × En→Prop):D × En→Prop:=fun r=>W (match r.1 with | .int i=>some (some i,r.2) | _=>none) Q
def uh (g:D→Option Int→Option Int→Option D) (t:D) (lo:Option Int) (Q:D × En→Prop):Option Int × En→Prop:=fun h=>W (g t lo h.1) (eI h.2 Q)
def ui (g:D→Option Int→Option Int→Option D) (t:D) (hi:MO) (Q:D × En→Prop):Option Int × En→Prop:=fun l=>W (hi l.2) (uh g t l.1 Q)
def kSl (g:D→Option Int→Option Int→Option D) (lo hi:MO) (Q:D × En→Prop):D × En→Prop:=fun r=>W (lo r.2) (ui g r.1 hi Q)
def kM2 (g:Str→List D→Option D) (z:Str) (en:En) (Q:D × En→Prop):List D→Prop:=fun ts=>W (g z ts) (eI en Q)
def kM1 (g:Str→List D→Option D) (z:Str) (Q:D × En→Prop):List (D ⊕ Nat) × En→Prop:=fun q=>W (vals q.1) (kM2 g z q.2 Q)
def kM (g:Str→List D→Option D) (fa:MA) (Q:D × En→Prop):D × En→Prop:=fun r=>W (match r.1 with | .str z=>(fa r.2).bind fun q=>(vals q.1).bind fun ts=>(g z ts).map fun t=>(t,q.2) | _=>none) Q
def qz (i:Nat) (Q:D × En→Prop):D × En→Prop:=fun r=>W (match (r.2[i]?).join with | some (.dict ks)=>(kOf r.1).bind fun _=>(eV ks r.1).map fun t=>(t,r.2) | _=>none) Q
def HD (q:D) (en:En) (Q:D × En→Prop):D→Prop:=fun x=>W (match x with | .dict ks=>(kOf q).bind fun _=>(eV ks q).map fun t=>(t,en) | _=>none) Q
def kDg (f:ME) (i:Nat) (en:En) (Q:D × En→Prop):D→Prop:=fun _x=>W (f en) (qz i Q)
def kIt (J:En→Prop) (Q:Fl→Prop):Fl→Prop:=fun fl=>match fl with | .nx e=>J e | .ct e=>J e | .rt t e=>Q (.rt t e)
def uk (us:List D) (J:List D→En→Prop):D × En→Prop:=fun r=>J (us++[r.1]) r.2
def qx (f:ME) (us:List D) (J:List D→En→Prop):Bool × En→Prop:=fun r=>if r.1 then W (f r.2) (uk us J) else J us r.2
def E5 (c:MT) (f:ME) (us:List D) (J:List D→En→Prop):En→Prop:=fun en=>W (c en) (qx f us J)
def kWh (b:MS) (J:En→Prop) (Q:Fl→Prop):Bool × En→Prop:=fun r=>if r.1 then W (b r.2) (kIt J Q) else Q (.nx r.2)
def kFg (b:MS) (J:En→Prop) (Q:Fl→Prop):En→Prop:=fun en=>W (b en) (kIt J Q)
def Au (i:Nat) (en:En) (Q:D × En→Prop):D × List D→Prop:=fun r=>Q (r.1,en.set i (some (.list r.2)))
def qu (i:Nat) (n:Int) (en:En) (Q:D × En→Prop):D→Prop:=fun x=>W (match x with | .list ts=>(if -(2 ^ 63)≤n∧n < 2 ^ 63 then (seqIndex? n ts.length).bind fun k=>(ts[k]?).map fun t=>(t,en.set i (some (.list (ts.eraseIdx k)))) else none) | _=>none) Q
def qv (i:Nat) (Q:D × En→Prop):D × En→Prop:=fun r=>W (match r.1,(r.2[i]?).join with | .int n,some (.list ts)=>(if -(2 ^ 63)≤n∧n < 2 ^ 63 then (seqIndex? n ts.length).bind fun k=>(ts[k]?).map fun t=>(t,r.2.set i (some (.list (ts.eraseIdx k)))) else none) | _,_=>none) Q
def E2 (i:Nat) (f:ME) (en:En) (Q:D × En→Prop):D→Prop:=fun x=>W (match x with | .list _=>(f en).bind (fun r=>match r.1,(r.2[i]?).join with | .int n,some (.list ts)=>(if -(2 ^ 63)≤n∧n < 2 ^ 63 then (seqIndex? n ts.length).bind fun k=>(ts[k]?).map fun t=>(t,r.2.set i (some (.list (ts.eraseIdx k)))) else none) | _,_=>none) | _=>none) Q
def kS1 (Q:D→Prop):Nat→Prop:=fun c=>Q (.str (mk1 c))
def kGs (q:List D→En→Option En) (ts:List D) (Q:En→Prop):En→Prop:=fun en=>W (q ts en) Q
def k6 (t:D) (Q:List D→Prop):List D→Prop:=fun ts=>Q (t :: ts)
def E8 (r:List (D ⊕ Nat)) (en:En) (Q:List D→Prop):D→Prop:=fun t=>W (c9 r en) (k6 t Q)
theorem bf {α:Type} (ts:List α) (n:Nat):atI ts (n:Int)=ts[n]?:=by
 unfold atI ixN
 rw [if_pos (by omega)]
 by_cases h:n < ts.length
 ·rw [if_pos (by omega)]; rfl
 ·rw [if_neg (by omega),List.getElem?_eq_none (by omega)]; rfl
theorem eE {ts:List D} {t:D} (n:Nat) (h:n < ts.length):gP ts (n:Int) t=some (ts.set n t):=by
 unfold gP ixN
 rw [if_pos (by omega),if_pos (by omega)]
 rfl
theorem Ch (x:D) (l:List D):b6 (x :: l) (some 1) none=l:=by
 unfold b6
 rw [HT.sIx_none,show (some (1:Int))=some ((1:Nat):Int) from rfl,HT.sIx_nat,Nat.min_eq_left (by simp),List.drop_one]
 exact List.take_of_length_le (by simp)
theorem Hn (x:D) (l:List D):(HT.sIx (x :: l).length 0 (some 1)=0)=False:=by
 rw [show (some (1:Int))=some ((1:Nat):Int) from rfl,HT.sIx_nat,Nat.min_eq_left (by simp)]
 exact eq_false (by decide)
theorem pG (a b:Int):(a == b)=decide (a=b):=by
 by_cases h:a=b
 ·rw [h,decide_eq_true rfl]; exact beq_self_eq_true b
 ·rw [decide_eq_false h]; exact beq_eq_false_iff_ne.mpr h
theorem Cg (a b:Bool):eqD (.bool a) (.bool b)=some (.bool (a == b)):=by
 show grd _ _=_
 unfold grd
 rw [if_pos ⟨rfl,rfl,Nat.zero_le _⟩]
 simp only [peq]
theorem Bh (a b:Bool):neD (.bool a) (.bool b)=some (.bool (!(a == b))):=by
 show grd _ _=_
 unfold grd
 rw [if_pos ⟨rfl,rfl,Nat.zero_le _⟩]
 simp only [peq]
theorem jP (a b:Str):(a == b)=decide (a=b):=by
 by_cases h:a=b
 ·rw [h,decide_eq_true rfl]; exact beq_self_eq_true b
 ·rw [decide_eq_false h]; exact beq_eq_false_iff_ne.mpr h
theorem Gi (a b:Str):eqD (.str a) (.str b)=some (.bool (decide (a=b))):=by
 show grd _ _=_
 unfold grd
 rw [if_pos ⟨rfl,rfl,Nat.zero_le _⟩,← jP]
 simp only [peq]
theorem EL (a b:Str):neD (.str a) (.str b)=some (.bool (!decide (a=b))):=by
 show grd _ _=_
 unfold grd
 rw [if_pos ⟨rfl,rfl,Nat.zero_le _⟩,← jP]
 simp only [peq]
theorem Gj:eqD (.list []) (.list [])=some (.bool true):=by
 show grd _ _=_
 unfold grd
 rw [if_pos ⟨rfl,rfl,by decide⟩]
 rfl
theorem EM:neD (.list []) (.list [])=some (.bool false):=by
 show grd _ _=_
 unfold grd
 rw [if_pos ⟨rfl,rfl,by decide⟩]
 rfl
variable (en:En) (Qs:Fl→Prop) (Qe:D × En→Prop) (Qb:Bool × En→Prop) (Qa:List (D ⊕ Nat) × En→Prop) (Ql:List D × En→Prop) (Qd:D→Prop) (Qt:List D→Prop) (Qn:En→Prop) (f:ME) (g:MG) (fa:MA) (c:MT) (ts:List D) (i:Nat)
theorem ws0 (α:Type) (a:α) (Q:α→Prop):W (some a) Q=Q a:=av _ _
theorem ws1 (α:Type) (Q:α→Prop):W (none:Option α) Q=False:=aX _
theorem ws2 (α:Type) (c:Prop) (_:Decidable c) (a:α) (Q:α→Prop):W (grd c a) Q=(c∧Q a):=qY c a Q
theorem ws3 (a:Option D) (l:En):gv (a :: l) 0=a:=rfl
theorem ws4 (a:Option D) (l:En):gv (a :: l) (i+1)=gv l i:=rfl
theorem ws5 (a b:Option D) (l:En):List.set (a :: l) 0 b=b :: l:=rfl
theorem ws6 (a b:Option D) (l:En):List.set (a :: l) (i+1) b=a :: List.set l i b:=rfl
theorem ws7 (a b:MS):W (ao a b en) Qs=W (a en) (nU b Qs):=aw _ _ _
theorem ws8 (b:MS):nU b Qs (.nx en)=W (b en) Qs:=rfl
theorem ws9 (b:MS) (t:D):nU b Qs (.rt t en)=Qs (.rt t en):=av _ _
theorem D6 (b:MS):nU b Qs (.ct en)=Qs (.ct en):=av _ _
theorem D5:W (aA i f en) Qs=W (f en) (EY i Qs):=bu _ _ _
theorem D4 (t:D):EY i Qs (t,en)=Qs (.nx (en.set i (some t))):=rfl
theorem D3:W (dA f en) Qs=W (f en) (E7 Qs):=bu _ _ _
theorem D2 (t:D):E7 Qs (t,en)=Qs (.nx en):=rfl
theorem D1:W (aE f en) Qs=W (f en) (EZ Qs):=bu _ _ _
theorem D0 (t:D):EZ Qs (t,en)=Qs (.rt t en):=rfl
theorem DZ:W (bh en) Qs=Qs (.nx en):=av _ _
theorem DY:W (dP en) Qs=False:=aX _
theorem DX (a b:MS):W (sIf c a b en) Qs=W (c en) (kIf a b Qs):=aw _ _ _
theorem DW (β:Type) (a b:En→Option β) (Q:β→Prop):kIf a b Q (true,en)=W (a en) Q:=rfl
theorem DU (β:Type) (a b:En→Option β) (Q:β→Prop):kIf a b Q (false,en)=W (b en) Q:=rfl
theorem DT (fi:MI) (b:MS):W (fu fi g b en) Qs=W (fi en) (E6 g b Qs):=aw _ _ _
theorem DS (b:MS):E6 g b Qs (ts,en)=W (dB g b ts en) Qs:=rfl
theorem DR (b:MS):W (dB g b [] en) Qs=Qs (.nx en):=av _ _
theorem DQ (b:MS) (t:D):W (dB g b (t :: ts) en) Qs=W (g t en) (Av g b ts Qs):=(aw _ _ _).trans (congrArg _ (funext fun z=>aw _ _ _))
theorem DP (b:MS):Av g b ts Qs en=W (b en) (k4 g b ts Qs):=rfl
theorem DN (b:MS):k4 g b ts Qs (.nx en)=W (dB g b ts en) Qs:=rfl
theorem DM (b:MS):k4 g b ts Qs (.ct en)=W (dB g b ts en) Qs:=rfl
theorem DL (b:MS) (t:D):k4 g b ts Qs (.rt t en)=Qs (.rt t en):=av _ _
theorem DK (t:D):W (gN i t en) Qn=Qn (en.set i (some t)):=av _ _
theorem DJ (g:List D→En→Option En):W (gT g (.tuple ts) en) Qn=W (g ts en) Qn:=rfl
theorem DI (q:List D→En→Option En) (t:D):W (gsC g q (t :: ts) en) Qn=W (g t en) (kGs q ts Qn):=aw _ _ _
theorem DH (q:List D→En→Option En):kGs q ts Qn en=W (q ts en) Qn:=rfl
theorem DG:W (gs0 [] en) Qn=Qn en:=av _ _
theorem DF (fk fe:ME):W (nc i fk fe en) Qs=W (fe en) (qt i fk Qs):=aw _ _ _
theorem DE (fk:ME) (t:D):qt i fk Qs (t,en)=W (gv en i) (sg i t fk en Qs):=by unfold qt gv; cases h:(en[i]?).join with | none=>simp only [h,aX] | some x=>simp only [h,av]; exact aw _ _ _
theorem DD (t:D) (fk:ME) (x:D):sg i t fk en Qs x=W (fk en) (kZ i t Qs):=rfl
theorem DC (t:D) (n:Int):kZ i t Qs (.int n,en)=W (gv en i) (nT i t n en Qs):=by unfold kZ gv; cases h:(en[i]?).join with | none=>simp only [h,aX] | some x=>simp only [h,av]; cases x <;> first | rfl | exact (av _ _).symm | (rw [av]; rfl) | (rw [av]; exact aX _)
theorem DB (t:D) (n:Int):nT i t n en Qs (.list ts)=W (gP ts n t) (uj i en Qs):=by unfold nT gP uj; dsimp only; rw [bu,bu]
theorem DA:uj i en Qs ts=Qs (.nx (en.set i (some (.list ts)))):=rfl
theorem Dz (x0 t:D) (l:List D):gP (x0 :: l) 0 t=some (t :: l):=eE 0 (by simp only [List.length_cons]; omega)
theorem Dy (x0 x1 t:D) (l:List D):gP (x0 :: x1 :: l) 1 t=some (x0 :: t :: l):=eE 1 (by simp only [List.length_cons]; omega)
theorem Dx (x0 x1 x2 t:D) (l:List D):gP (x0 :: x1 :: x2 :: l) 2 t=some (x0 :: x1 :: t :: l):=eE 2 (by simp only [List.length_cons]; omega)
theorem Dw (x0 x1 x2 x3 t:D) (l:List D):gP (x0 :: x1 :: x2 :: x3 :: l) 3 t=some (x0 :: x1 :: x2 :: t :: l):=eE 3 (by simp only [List.length_cons]; omega)
theorem Dv (x0 x1 x2 x3 x4 t:D) (l:List D):gP (x0 :: x1 :: x2 :: x3 :: x4 :: l) 4 t=some (x0 :: x1 :: x2 :: x3 :: t :: l):=eE 4 (by simp only [List.length_cons]; omega)
theorem Du (x0 x1 x2 x3 x4 x5 t:D) (l:List D):gP (x0 :: x1 :: x2 :: x3 :: x4 :: x5 :: l) 5 t=some (x0 :: x1 :: x2 :: x3 :: x4 :: t :: l):=eE 5 (by simp only [List.length_cons]; omega)
theorem Dt:W (af i en) Qe=W (gv en i) (eI en Qe):=bu _ _ _
theorem Ds (t:D):eI en Qe t=Qe (t,en):=rfl
theorem Dr (t:D):W (eC t en) Qe=Qe (t,en):=av _ _
theorem Dq (g:D→Option D):W (e1 g f en) Qe=W (f en) (k1 g Qe):=(aw _ _ _).trans (congrArg _ (funext fun z=>bu _ _ _))
theorem Dp (g:D→Option D) (t:D):k1 g Qe (t,en)=W (g t) (eI en Qe):=rfl
theorem Do (g:D→D→Option D) (f1 f2:ME):W (e2 g f1 f2 en) Qe=W (f1 en) (k2 g f2 Qe):=(aw _ _ _).trans (congrArg _ (funext fun z=>(aw _ _ _).trans (congrArg _ (funext fun y=>bu _ _ _))))
theorem Dm (g:D→D→Option D) (f2:ME) (t:D):k2 g f2 Qe (t,en)=W (f2 en) (k2b g t Qe):=rfl
theorem Dl (g:D→D→Option D) (t u:D):k2b g t Qe (u,en)=W (g t u) (eI en Qe):=rfl
theorem Dk (f g:ME):W (fy f g en) Qe=W (f en) (uo g Qe):=aw _ _ _
theorem Dj (g:ME):uo g Qe (.bool true,en)=W (g en) Qe:=rfl
theorem Di (g:ME):uo g Qe (.bool false,en)=Qe (.bool false,en):=av _ _
theorem Dh (f g:ME):W (eOr f g en) Qe=W (f en) (kOr g Qe):=aw _ _ _
theorem Dg (g:ME):kOr g Qe (.bool true,en)=Qe (.bool true,en):=av _ _
theorem De (g:ME):kOr g Qe (.bool false,en)=W (g en) Qe:=rfl
theorem Dd:W (kx f en) Qe=W (f en) (E3 Qe):=aw _ _ _
theorem Dc (x:Bool):E3 Qe (.bool x,en)=Qe (.bool (!x),en):=av _ _
theorem Db:W (tV f en) Qb=W (f en) (kTV Qb):=aw _ _ _
theorem Da (x:Bool):kTV Qb (.bool x,en)=Qb (x,en):=av _ _
theorem C9 (f g:MT):W (fC f g en) Qb=W (f en) (qB g Qb):=aw _ _ _
theorem C8 (g:MT):qB g Qb (true,en)=W (g en) Qb:=rfl
theorem C7 (g:MT):qB g Qb (false,en)=Qb (false,en):=av _ _
theorem C6 (f g:MT):W (bOr f g en) Qb=W (f en) (um g Qb):=aw _ _ _
theorem C5 (g:MT):um g Qb (true,en)=Qb (true,en):=av _ _
theorem C4 (g:MT):um g Qb (false,en)=W (g en) Qb:=rfl
theorem C3 (f:MT):W (ck f en) Qb=W (f en) (Ax Qb):=bu _ _ _
theorem C2 (x:Bool):Ax Qb (x,en)=Qb (!x,en):=rfl
theorem C1:W (cY en) Qb=Qb (true,en):=av _ _
theorem C0:W (ag en) Qa=Qa ([],en):=av _ _
theorem CZ (r:MA):W (ae f r en) Qa=W (f en) (kAC r Qa):=(aw _ _ _).trans (congrArg _ (funext fun z=>bu _ _ _))
theorem CY (r:MA) (t:D):kAC r Qa (t,en)=W (r en) (ur t Qa):=rfl
theorem CW (t:D) (as:List (D ⊕ Nat)):ur t Qa (as,en)=Qa (.inl t :: as,en):=rfl
theorem CV (r:MA):W (bt i r en) Qa=W (gv en i) (kAS i r en Qa):=(aw _ _ _).trans (congrArg _ (funext fun z=>bu _ _ _))
theorem CU (r:MA) (t:D):kAS i r en Qa t=W (r en) (uq i Qa):=rfl
theorem CT (as:List (D ⊕ Nat)):uq i Qa (as,en)=Qa (.inr i :: as,en):=rfl
theorem CQ:vals []=some []:=rfl
theorem CP (t:D) (r:List (D ⊕ Nat)):W (vals (.inl t :: r)) Qt=W (vals r) (k6 t Qt):=bu _ _ _
theorem CO (t:D):k6 t Qt ts=Qt (t :: ts):=rfl
theorem CN:c9 [] en=some []:=rfl
theorem CM (t:D) (r:List (D ⊕ Nat)):W (c9 (.inl t :: r) en) Qt=W (c9 r en) (k6 t Qt):=bu _ _ _
theorem CL (r:List (D ⊕ Nat)):W (c9 (.inr i :: r) en) Qt=W (gv en i) (E8 r en Qt):=(aw _ _ _).trans (congrArg _ (funext fun z=>bu _ _ _))
theorem CK (t:D) (r:List (D ⊕ Nat)):E8 r en Qt t=W (c9 r en) (k6 t Qt):=rfl
theorem CJ (r:List (D ⊕ Nat)) (o:Option D) (outs:En):wb (.inr i :: r) (o :: outs) en=wb r outs (en.set i o):=rfl
theorem CI (t:D) (r:List (D ⊕ Nat)) (o:Option D) (outs:En):wb (.inl t :: r) (o :: outs) en=wb r outs en:=rfl
theorem CH (outs:En):wb [] outs en=en:=rfl
theorem CG (g:List D→Option D):W (eN g fa en) Qe=W (fa en) (kN g Qe):=(aw _ _ _).trans (congrArg _ (funext fun z=>(aw _ _ _).trans (congrArg _ (funext fun y=>bu _ _ _))))
theorem CF (g:List D→Option D) (as:List (D ⊕ Nat)):kN g Qe (as,en)=W (vals as) (kN2 g en Qe):=rfl
theorem CD (g:List D→Option D):kN2 g en Qe ts=W (g ts) (eI en Qe):=rfl
theorem CC:W (bI fa en) Qe=W (fa en) (E4 Qe):=(aw _ _ _).trans (congrArg _ (funext fun z=>aw _ _ _))
theorem CB (as:List (D ⊕ Nat)):E4 Qe (as,en)=W (vals as) (qw en Qe):=rfl
theorem CA:qw en Qe ts=(ts.length≤sizeLine∧Qe (.list ts,en)):=gZ _ _ _
theorem Cz:W (bS fa en) Qe=W (fa en) (EX Qe):=(aw _ _ _).trans (congrArg _ (funext fun z=>aw _ _ _))
theorem Cy (as:List (D ⊕ Nat)):EX Qe (as,en)=W (vals as) (qr en Qe):=rfl
theorem Cw:qr en Qe ts=(ts.length≤sizeLine∧Qe (.tuple ts,en)):=gZ _ _ _
theorem Ab:(([]:List D).length≤sizeLine)=True:=eq_true (Nat.le_trans (by show 0≤100; decide) bJ)
theorem Aa (x0:D):(([x0]:List D).length≤sizeLine)=True:=eq_true (Nat.le_trans (by show 1≤100; decide) bJ)
theorem zZ (x0 x1:D):(([x0,x1]:List D).length≤sizeLine)=True:=eq_true (Nat.le_trans (by show 2≤100; decide) bJ)
theorem zY (x0 x1 x2:D):(([x0,x1,x2]:List D).length≤sizeLine)=True:=eq_true (Nat.le_trans (by show 3≤100; decide) bJ)
theorem zX (x0 x1 x2 x3:D):(([x0,x1,x2,x3]:List D).length≤sizeLine)=True:=eq_true (Nat.le_trans (by show 4≤100; decide) bJ)
theorem zW (x0 x1 x2 x3 x4:D):(([x0,x1,x2,x3,x4]:List D).length≤sizeLine)=True:=eq_true (Nat.le_trans (by show 5≤100; decide) bJ)
theorem zV (x0 x1 x2 x3 x4 x5:D):(([x0,x1,x2,x3,x4,x5]:List D).length≤sizeLine)=True:=eq_true (Nat.le_trans (by show 6≤100; decide) bJ)
theorem zU (x0 x1 x2 x3 x4 x5 x6:D):(([x0,x1,x2,x3,x4,x5,x6]:List D).length≤sizeLine)=True:=eq_true (Nat.le_trans (by show 7≤100; decide) bJ)
theorem zT (x0 x1 x2 x3 x4 x5 x6 x7:D):(([x0,x1,x2,x3,x4,x5,x6,x7]:List D).length≤sizeLine)=True:=eq_true (Nat.le_trans (by show 8≤100; decide) bJ)
theorem zS (x0 x1 x2 x3 x4 x5 x6 x7 x8:D):(([x0,x1,x2,x3,x4,x5,x6,x7,x8]:List D).length≤sizeLine)=True:=eq_true (Nat.le_trans (by show 9≤100; decide) bJ)
theorem zR (F:List D→Option (D × En)):W (ay F fa en) Qe=W (fa en) (Aw F Qe):=(aw _ _ _).trans (congrArg _ (funext fun z=>(aw _ _ _).trans (congrArg _ (funext fun y=>bu _ _ _))))
theorem zQ (F:List D→Option (D × En)) (as:List (D ⊕ Nat)):Aw F Qe (as,en)=W (c9 as en) (nX F as en Qe):=rfl
theorem zP (F:List D→Option (D × En)) (as:List (D ⊕ Nat)):nX F as en Qe ts=W (F ts) (nW as en Qe):=rfl
theorem zO (as:List (D ⊕ Nat)) (t:D) (outs:En):nW as en Qe (t,outs)=Qe (t,wb as outs en):=rfl
theorem zN (q:Bool) (fi:MI) (js:List (Option Nat)):W (eLC q fi g c f js en) Qe=W (fi en) (kLC q g c f js Qe):=(aw _ _ _).trans (congrArg _ (funext fun z=>bu _ _ _))
theorem zM (q:Bool) (js:List (Option Nat)):kLC q g c f js Qe (ts,en)=W (lcF g c f ts [] (cB js en)) (qy q js en Qe):=rfl
theorem zK (js:List (Option Nat)) (us:List D) (ex:En):qy true js en Qe (us,ex)=Qe (.list us,en):=rfl
theorem zJ (js:List (Option Nat)) (us:List D) (ex:En):qy false js en Qe (us,ex)=Qe (.list us,wbB js ex en):=rfl
theorem zI:cB [] en=[]:=rfl
theorem zH (j:Nat) (js:List (Option Nat)):cB (some j :: js) en=gv en j :: cB js en:=rfl
theorem zG (js:List (Option Nat)):cB (none :: js) en=none :: cB js en:=rfl
theorem zF (j:Nat) (js:List (Option Nat)) (o:Option D) (ex:En):wbB (some j :: js) (o :: ex) en=wbB js ex (en.set j o):=rfl
theorem zE (js:List (Option Nat)) (o:Option D) (ex:En):wbB (none :: js) (o :: ex) en=wbB js ex en:=rfl
theorem zC (ex:En):wbB [] ex en=en:=rfl
theorem zB:W (lcF g c f [] acc en) Ql=Ql (acc,en):=av _ _
theorem zA:W (b8 f en) Ql=W (f en) (qD Ql):=aw _ _ _
theorem zz:qD Ql (.list ts,en)=Ql (ts,en):=av _ _
theorem zy:qD Ql (.tuple ts,en)=Ql (ts,en):=av _ _
theorem zx (z:Str):qD Ql (.str z,en)=Ql (eS z,en):=av _ _
theorem zw:W (dg fa en) Ql=W (fa en) (kR1 Ql):=aw _ _ _
theorem zv (j:Int):kR1 Ql ([.inl (.int j)],en)=((-(2 ^ 62)≤j∧j < 2 ^ 62)∧Ql (jg 0 j.toNat,en)):=gZ _ _ _
theorem zu:W (jq fa en) Ql=W (fa en) (At Ql):=aw _ _ _
theorem zt (ts us:List D):At Ql ([.inl (.tuple ts),.inl (.tuple us)],en)=Ql (cX ts us,en):=by first | rfl | exact av _ _ | exact aX _
theorem zr:W (dS i f en) Qe=W (gv en i) (As i f en Qe):=(aw _ _ _).trans (congrArg _ (funext fun z=>aw _ _ _))
theorem zq (x:D):As i f en Qe x=W (f en) (kY i Qe):=rfl
theorem zp (n:Int):kY i Qe (.int n,en)=W (gv en i) (rZ n en Qe):=by unfold kY gv; cases h:(en[i]?).join with | none=>simp only [h,aX] | some x=>simp only [h,av]; cases x <;> first | rfl | exact (av _ _).symm | (rw [av]; rfl) | (rw [av]; exact aX _)
theorem zo (n:Int):rZ n en Qe (.list ts)=W (atI ts n) (eI en Qe):=bu _ _ _
theorem zn:W (dF i f en) Qe=W (gv en i) (E9 i f en Qe):=by unfold gv dF; cases (en[i]?).join with | none=>rw [aX,aX] | some x=>cases x <;> first | rfl | exact (av _ _).symm | (rw [av]; rfl) | (rw [av]; exact aX _)
theorem zm:E9 i f en Qe (.list ts)=W (f en) (qC i Qe):=aw _ _ _
theorem zh (t:D):qC i Qe (t,en)=W (gv en i) (Ay i t en Qe):=by unfold qC gv; cases h:(en[i]?).join with | none=>simp only [h,aX] | some x=>simp only [h,av]; cases x <;> first | rfl | exact (av _ _).symm | (rw [av]; rfl) | (rw [av]; exact aX _)
theorem zg (t:D):Ay i t en Qe (.list ts)=(ts.length < sizeLine∧Qe (.none,en.set i (some (.list (ts++[t]))))):=gZ _ _ _
theorem ze (g g2:D→D→Option D) (f1 f2 f3:ME):W (di g g2 f1 f2 f3 en) Qe=W (f1 en) (kCh g g2 f2 f3 Qe):=(aw _ _ _).trans (congrArg _ (funext fun z=>(aw _ _ _).trans (congrArg _ (funext fun y=>aw _ _ _))))
theorem zd (g g2:D→D→Option D) (f2 f3:ME) (t:D):kCh g g2 f2 f3 Qe (t,en)=W (f2 en) (ul g g2 f3 t Qe):=rfl
theorem zc (g g2:D→D→Option D) (f3:ME) (t u:D):ul g g2 f3 t Qe (u,en)=W (g t u) (qA g2 u f3 en Qe):=rfl
theorem zb (g:D→D→Option D) (u:D) (f3:ME):qA g u f3 en Qe (.bool true)=W (f3 en) (k2b g u Qe):=(aw _ _ _).trans (congrArg _ (funext fun z=>bu _ _ _))
theorem y9 (g:D→D→Option D) (u:D) (f3:ME):qA g u f3 en Qe (.bool false)=Qe (.bool false,en):=av _ _
theorem y8 (Q:Option Int × En→Prop):W (iz en) Q=Q (none,en):=av _ _
theorem yZ (Q:Option Int × En→Prop):W (gA f en) Q=W (f en) (kOS Q):=aw _ _ _
theorem yY (n:Int) (Q:Option Int × En→Prop):kOS Q (.int n,en)=Q (some n,en):=av _ _
theorem yX (g:D→Option Int→Option Int→Option D) (lo hi:MO):W (eSl g f lo hi en) Qe=W (f en) (kSl g lo hi Qe):=(aw _ _ _).trans (congrArg _ (funext fun z=>(aw _ _ _).trans (congrArg _ (funext fun y=>(aw _ _ _).trans (congrArg _ (funext fun y=>bu _ _ _))))))
theorem yW (g:D→Option Int→Option Int→Option D) (lo hi:MO) (t:D):kSl g lo hi Qe (t,en)=W (lo en) (ui g t hi Qe):=rfl
theorem yV (g:D→Option Int→Option Int→Option D) (hi:MO) (t:D) (a:Option Int):ui g t hi Qe (a,en)=W (hi en) (uh g t a Qe):=rfl
theorem yU (g:D→Option Int→Option Int→Option D) (t:D) (a b:Option Int):uh g t a Qe (b,en)=W (g t a b) (eI en Qe):=rfl
theorem yT (g:Str→List D→Option D):W (eM g f fa en) Qe=W (f en) (kM g fa Qe):=aw _ _ _
theorem yS (g:Str→List D→Option D) (z:Str):kM g fa Qe (.str z,en)=W (fa en) (kM1 g z Qe):=(aw _ _ _).trans (congrArg _ (funext fun z=>(aw _ _ _).trans (congrArg _ (funext fun y=>bu _ _ _))))
theorem yR (g:Str→List D→Option D) (z:Str) (as:List (D ⊕ Nat)):kM1 g z Qe (as,en)=W (vals as) (kM2 g z en Qe):=rfl
theorem yQ (g:Str→List D→Option D) (z:Str):kM2 g z en Qe ts=W (g z ts) (eI en Qe):=rfl
theorem yP:W (bB i f en) Qe=W (gv en i) (kDg f i en Qe):=(aw _ _ _).trans (congrArg _ (funext fun z=>aw _ _ _))
theorem yO (x:D):kDg f i en Qe x=W (f en) (qz i Qe):=rfl
theorem yN (q:D):qz i Qe (q,en)=W (gv en i) (HD q en Qe):=by unfold qz gv; cases h:(en[i]?).join with | none=>simp only [h,aX] | some x=>simp only [h,av]; cases x <;> first | rfl | exact (av _ _).symm | (rw [av]; rfl) | (rw [av]; exact aX _)
theorem yM (J:En→Prop):kIt J Qs (.nx en)=J en:=rfl
theorem yL (J:En→Prop):kIt J Qs (.ct en)=J en:=rfl
theorem yK (J:En→Prop) (t:D):kIt J Qs (.rt t en)=Qs (.rt t en):=rfl
theorem yJ (b:MS) (J:En→Prop):kFg b J Qs en=W (b en) (kIt J Qs):=rfl
theorem yI (b:MS) (J:En→Prop):kWh b J Qs (true,en)=W (b en) (kIt J Qs):=rfl
theorem yH (b:MS) (J:En→Prop):kWh b J Qs (false,en)=Qs (.nx en):=rfl
theorem yG (us:List D) (J:List D→En→Prop):E5 c f us J en=W (c en) (qx f us J):=rfl
theorem yF (us:List D) (J:List D→En→Prop):qx f us J (true,en)=W (f en) (uk us J):=rfl
theorem yE (us:List D) (J:List D→En→Prop):qx f us J (false,en)=J us en:=rfl
theorem yD (us:List D) (J:List D→En→Prop) (t:D):uk us J (t,en)=J (us++[t]) en:=rfl
theorem yC (n:Nat) (dps:List Nat) (b:MS):W (fnF n dps b ts) Qe=W (b (ts.map some++List.replicate n none)) (kFn dps Qe):=aw _ _ _
theorem yB (dps:List Nat) (t:D):kFn dps Qe (.rt t en)=Qe (t,msk dps en):=av _ _
theorem yA (dps:List Nat):kFn dps Qe (.nx en)=Qe (.none,msk dps en):=av _ _
theorem yz (d:Nat) (ds:List Nat) (o:Option D):msk ((d+1) :: ds) (o :: en)=o :: msk ds en:=rfl
theorem yy (ds:List Nat) (o:Option D):msk (0 :: ds) (o :: en)=none :: msk ds en:=rfl
theorem yx:msk [] en=[]:=rfl
theorem yw (t:D):List.map some (t :: ts)=some t :: List.map some ts:=rfl
theorem yv:List.map (some:D→Option D) []=[]:=rfl
theorem yu (a:Option D) (l m:En):(a :: l)++m=a :: (l++m):=rfl
theorem yt (m:En):([]:En)++m=m:=rfl
theorem yr (a:Option D):List.replicate 0 a=[]:=rfl
theorem yq (a:Option D) (n:Nat):List.replicate (n+1) a=a :: List.replicate n a:=rfl
theorem yp (a b:Int):br (.int a) (.int b)=some (.int (a+b)):=rfl
theorem yo (a b:Str):W (br (.str a) (.str b)) Qd=(a.length+b.length≤sizeLine∧Qd (.str (a++b))):=gZ _ _ _
theorem yn (a b:Int):jf (.int a) (.int b)=some (.int (a - b)):=rfl
theorem ym (a b:Int):W (bC (.int a) (.int b)) Qd=(CMul a b∧Qd (.int (a * b))):=gZ _ _ _
theorem yk (a b:Int):W (cj (.int a) (.int b)) Qd=(fI a b∧Qd (.int (a / b))):=gZ _ _ _
theorem yj (a b:Int):W (bp (.int a) (.int b)) Qd=(0 < b∧Qd (.int (a % b))):=gZ _ _ _
theorem yi (a b:Int):W (kl (.int a) (.int b)) Qd=(gk a b∧Qd (.int (a ^ b.toNat))):=gZ _ _ _
theorem yh (a b:Int):ltI (.int a) (.int b)=some (.bool (decide (a < b))):=rfl
theorem yg (a b:Int):leI (.int a) (.int b)=some (.bool (decide (a≤b))):=rfl
theorem yf (a b:Int):gtI (.int a) (.int b)=some (.bool (decide (b < a))):=rfl
theorem ye (a b:Int):geI (.int a) (.int b)=some (.bool (decide (b≤a))):=rfl
theorem yd (a b:Int):eqD (.int a) (.int b)=some (.bool (decide (a=b))):=(Gk a b).trans (congrArg (fun q=>some (PyData.bool q)) (pG a b))
theorem yc (a b:Int):neD (.int a) (.int b)=some (.bool (!decide (a=b))):=(EN a b).trans (congrArg (fun q=>some (PyData.bool (!q))) (pG a b))
theorem yb:isN .none .none=some (.bool true):=rfl
theorem ya (x:Int):isN (.int x) .none=some (.bool false):=rfl
theorem x9 (x:Bool):isN (.bool x) .none=some (.bool false):=rfl
theorem xZ (x:Str):isN (.str x) .none=some (.bool false):=rfl
theorem xY (x:List D):isN (.list x) .none=some (.bool false):=rfl
theorem xX (x:List D):isN (.tuple x) .none=some (.bool false):=rfl
theorem xW (x:List (D × D)):isN (.dict x) .none=some (.bool false):=rfl
theorem xV:aH "int" (.none)=some (.bool false):=congrArg (fun b=>some (PyData.bool b)) (show aF "NoneType" "int"=false by decide)
theorem xU:aH "bool" (.none)=some (.bool false):=congrArg (fun b=>some (PyData.bool b)) (show aF "NoneType" "bool"=false by decide)
theorem xT:aH "str" (.none)=some (.bool false):=congrArg (fun b=>some (PyData.bool b)) (show aF "NoneType" "str"=false by decide)
theorem xS:aH "list" (.none)=some (.bool false):=congrArg (fun b=>some (PyData.bool b)) (show aF "NoneType" "list"=false by decide)
theorem xR:aH "tuple" (.none)=some (.bool false):=congrArg (fun b=>some (PyData.bool b)) (show aF "NoneType" "tuple"=false by decide)
theorem xQ:aH "dict" (.none)=some (.bool false):=congrArg (fun b=>some (PyData.bool b)) (show aF "NoneType" "dict"=false by decide)
theorem xP (x:Int):aH "int" (.int x)=some (.bool true):=congrArg (fun b=>some (PyData.bool b)) (show aF "int" "int"=true by decide)
theorem xO (x:Int):aH "bool" (.int x)=some (.bool false):=congrArg (fun b=>some (PyData.bool b)) (show aF "int" "bool"=false by decide)
theorem xN (x:Int):aH "str" (.int x)=some (.bool false):=congrArg (fun b=>some (PyData.bool b)) (show aF "int" "str"=false by decide)
theorem xM (x:Int):aH "list" (.int x)=some (.bool false):=congrArg (fun b=>some (PyData.bool b)) (show aF "int" "list"=false by decide)
theorem xL (x:Int):aH "tuple" (.int x)=some (.bool false):=congrArg (fun b=>some (PyData.bool b)) (show aF "int" "tuple"=false by decide)
theorem xK (x:Int):aH "dict" (.int x)=some (.bool false):=congrArg (fun b=>some (PyData.bool b)) (show aF "int" "dict"=false by decide)
theorem xJ (x:Bool):aH "int" (.bool x)=some (.bool true):=congrArg (fun b=>some (PyData.bool b)) (show aF "bool" "int"=true by decide)
theorem xI (x:Bool):aH "bool" (.bool x)=some (.bool true):=congrArg (fun b=>some (PyData.bool b)) (show aF "bool" "bool"=true by decide)
theorem xH (x:Bool):aH "str" (.bool x)=some (.bool false):=congrArg (fun b=>some (PyData.bool b)) (show aF "bool" "str"=false by decide)
theorem xG (x:Bool):aH "list" (.bool x)=some (.bool false):=congrArg (fun b=>some (PyData.bool b)) (show aF "bool" "list"=false by decide)
theorem xF (x:Bool):aH "tuple" (.bool x)=some (.bool false):=congrArg (fun b=>some (PyData.bool b)) (show aF "bool" "tuple"=false by decide)
theorem xE (x:Bool):aH "dict" (.bool x)=some (.bool false):=congrArg (fun b=>some (PyData.bool b)) (show aF "bool" "dict"=false by decide)
theorem xD (x:Str):aH "int" (.str x)=some (.bool false):=congrArg (fun b=>some (PyData.bool b)) (show aF "str" "int"=false by decide)
theorem xC (x:Str):aH "bool" (.str x)=some (.bool false):=congrArg (fun b=>some (PyData.bool b)) (show aF "str" "bool"=false by decide)
theorem xB (x:Str):aH "str" (.str x)=some (.bool true):=congrArg (fun b=>some (PyData.bool b)) (show aF "str" "str"=true by decide)
theorem xA (x:Str):aH "list" (.str x)=some (.bool false):=congrArg (fun b=>some (PyData.bool b)) (show aF "str" "list"=false by decide)
theorem xz (x:Str):aH "tuple" (.str x)=some (.bool false):=congrArg (fun b=>some (PyData.bool b)) (show aF "str" "tuple"=false by decide)
theorem xy (x:Str):aH "dict" (.str x)=some (.bool false):=congrArg (fun b=>some (PyData.bool b)) (show aF "str" "dict"=false by decide)
theorem xx (x:List D):aH "int" (.list x)=some (.bool false):=congrArg (fun b=>some (PyData.bool b)) (show aF "list" "int"=false by decide)
theorem xw (x:List D):aH "bool" (.list x)=some (.bool false):=congrArg (fun b=>some (PyData.bool b)) (show aF "list" "bool"=false by decide)
theorem xv (x:List D):aH "str" (.list x)=some (.bool false):=congrArg (fun b=>some (PyData.bool b)) (show aF "list" "str"=false by decide)
theorem xu (x:List D):aH "list" (.list x)=some (.bool true):=congrArg (fun b=>some (PyData.bool b)) (show aF "list" "list"=true by decide)
theorem xt (x:List D):aH "tuple" (.list x)=some (.bool false):=congrArg (fun b=>some (PyData.bool b)) (show aF "list" "tuple"=false by decide)
theorem xr (x:List D):aH "dict" (.list x)=some (.bool false):=congrArg (fun b=>some (PyData.bool b)) (show aF "list" "dict"=false by decide)
theorem xq (x:List D):aH "int" (.tuple x)=some (.bool false):=congrArg (fun b=>some (PyData.bool b)) (show aF "tuple" "int"=false by decide)
theorem xp (x:List D):aH "bool" (.tuple x)=some (.bool false):=congrArg (fun b=>some (PyData.bool b)) (show aF "tuple" "bool"=false by decide)
theorem xo (x:List D):aH "str" (.tuple x)=some (.bool false):=congrArg (fun b=>some (PyData.bool b)) (show aF "tuple" "str"=false by decide)
theorem xn (x:List D):aH "list" (.tuple x)=some (.bool false):=congrArg (fun b=>some (PyData.bool b)) (show aF "tuple" "list"=false by decide)
theorem xm (x:List D):aH "tuple" (.tuple x)=some (.bool true):=congrArg (fun b=>some (PyData.bool b)) (show aF "tuple" "tuple"=true by decide)
theorem xl (x:List D):aH "dict" (.tuple x)=some (.bool false):=congrArg (fun b=>some (PyData.bool b)) (show aF "tuple" "dict"=false by decide)
theorem xk (x:List (D × D)):aH "int" (.dict x)=some (.bool false):=congrArg (fun b=>some (PyData.bool b)) (show aF "dict" "int"=false by decide)
theorem xj (x:List (D × D)):aH "bool" (.dict x)=some (.bool false):=congrArg (fun b=>some (PyData.bool b)) (show aF "dict" "bool"=false by decide)
theorem xi (x:List (D × D)):aH "str" (.dict x)=some (.bool false):=congrArg (fun b=>some (PyData.bool b)) (show aF "dict" "str"=false by decide)
theorem xh (x:List (D × D)):aH "list" (.dict x)=some (.bool false):=congrArg (fun b=>some (PyData.bool b)) (show aF "dict" "list"=false by decide)
theorem xg (x:List (D × D)):aH "tuple" (.dict x)=some (.bool false):=congrArg (fun b=>some (PyData.bool b)) (show aF "dict" "tuple"=false by decide)
theorem xf (x:List (D × D)):aH "dict" (.dict x)=some (.bool true):=congrArg (fun b=>some (PyData.bool b)) (show aF "dict" "dict"=true by decide)
theorem xc:((([]:List D).length:Nat):Int)=0:=rfl
theorem xb (x0:D):((([x0]:List D).length:Nat):Int)=1:=rfl
theorem xa (x0 x1:D):((([x0,x1]:List D).length:Nat):Int)=2:=rfl
theorem w8 (x0 x1 x2:D):((([x0,x1,x2]:List D).length:Nat):Int)=3:=rfl
theorem w6 (x0 x1 x2 x3:D):((([x0,x1,x2,x3]:List D).length:Nat):Int)=4:=rfl
theorem w4 (x0 x1 x2 x3 x4:D):((([x0,x1,x2,x3,x4]:List D).length:Nat):Int)=5:=rfl
theorem wZ (x0 x1 x2 x3 x4 x5:D):((([x0,x1,x2,x3,x4,x5]:List D).length:Nat):Int)=6:=rfl
theorem wY (x0 x1 x2 x3 x4 x5 x6:D):((([x0,x1,x2,x3,x4,x5,x6]:List D).length:Nat):Int)=7:=rfl
theorem wX (x0 x1 x2 x3 x4 x5 x6 x7:D):((([x0,x1,x2,x3,x4,x5,x6,x7]:List D).length:Nat):Int)=8:=rfl
theorem wW (x0 x1 x2 x3 x4 x5 x6 x7 x8:D):((([x0,x1,x2,x3,x4,x5,x6,x7,x8]:List D).length:Nat):Int)=9:=rfl
theorem wV (α β:Type) (f:α→β) (l:List α):(l.map f).length=l.length:=List.length_map f
theorem wU:aV [.list ts]=some (.int ts.length):=rfl
theorem wT:aV [.tuple ts]=some (.int ts.length):=rfl
theorem wS (z:Str):W (aV [.str z]) Qd=(z.length≤sizeLine∧Qd (.int z.length)):=qY _ _ _
theorem wR (a:Int):gY [.int a]=some (.int (if a < 0 then -a else a)):=rfl
theorem wQ (a b:Int):ql [.int a,.int b]=some (.int (if b > a then b else a)):=rfl
theorem wP (a b:Int):qk [.int a,.int b]=some (.int (if b < a then b else a)):=rfl
theorem wO (a:Int):t9 (.int a)=some (.int (-a)):=rfl
theorem wN:iD [.list ts]=some (.list ts):=rfl
theorem wM:fY [.list ts]=some (.tuple ts):=rfl
theorem wL (n:Int):ixA (.list ts) (.int n)=atI ts n:=rfl
theorem wK:iD [.tuple ts]=some (.list ts):=rfl
theorem wJ:fY [.tuple ts]=some (.tuple ts):=rfl
theorem wI (n:Int):ixA (.tuple ts) (.int n)=atI ts n:=rfl
theorem wH (ts us:List D):W (jz (.list ts) (.list us)) Qd=(ts.length+us.length≤sizeLine∧Qd (.list (ts++us))):=gZ _ _ _
theorem wG (lo hi:Option Int):lr (.list ts) lo hi=some (.list (b6 ts lo hi)):=rfl
theorem wF:atI ts 0=ts[0]?:=bf ts _
theorem wE:atI ts 1=ts[1]?:=bf ts _
theorem wD:atI ts 2=ts[2]?:=bf ts _
theorem wC:atI ts 3=ts[3]?:=bf ts _
theorem wB:atI ts 4=ts[4]?:=bf ts _
theorem wA:atI ts 5=ts[5]?:=bf ts _
theorem wz:atI ts 6=ts[6]?:=bf ts _
theorem wy:atI ts 7=ts[7]?:=bf ts _
theorem wx:atI ts 8=ts[8]?:=bf ts _
theorem ww:atI ts 9=ts[9]?:=bf ts _
theorem wv:atI ts 10=ts[10]?:=bf ts _
theorem wu:atI ts 11=ts[11]?:=bf ts _
theorem wt:atI ts 12=ts[12]?:=bf ts _
theorem wq:atI ts 13=ts[13]?:=bf ts _
theorem wp:atI ts 14=ts[14]?:=bf ts _
theorem wo:atI ts 15=ts[15]?:=bf ts _
theorem wn:atI ts 16=ts[16]?:=bf ts _
theorem wm:atI ts 17=ts[17]?:=bf ts _
theorem wl:atI ts 18=ts[18]?:=bf ts _
theorem wj:atI ts 19=ts[19]?:=bf ts _
theorem wg:atI ts 20=ts[20]?:=bf ts _
theorem wf (t:D):(t :: ts)[0]?=some t:=rfl
theorem we (t:D):(t :: ts)[i+1]?=ts[i]?:=List.getElem?_cons_succ
theorem wd:W (fh i f en) Qe=W (gv en i) (E2 i f en Qe):=by unfold gv fh; cases (en[i]?).join with | none=>rw [aX,aX] | some x=>cases x <;> first | rfl | exact (av _ _).symm | (rw [av]; rfl) | (rw [av]; exact aX _)
theorem wc:E2 i f en Qe (.list ts)=W (f en) (qv i Qe):=aw _ _ _
theorem wa (n:Int):qv i Qe (.int n,en)=W (gv en i) (qu i n en Qe):=by unfold qv gv; cases h:(en[i]?).join with | none=>simp only [h,aX] | some x=>simp only [h,av]; cases x <;> first | rfl | exact (av _ _).symm | (rw [av]; rfl) | (rw [av]; exact aX _)
theorem v9 (n:Int):qu i n en Qe (.list ts)=((-(2 ^ 63)≤n∧n < 2 ^ 63)∧W (lU ts n) (Au i en Qe)):=by unfold qu lU; dsimp only; rw [qX]; congr 1; rw [aw,aw]; congr 1; funext k; rw [bu,bu]; rfl
theorem v8 (t:D) (us:List D):Au i en Qe (t,us)=Qe (t,en.set i (some (.list us))):=rfl
theorem v7 (z:Str) (n:Int):W (ixT (.str z) (.int n)) Qd=(z.length≤sizeLine∧W (atI (li z) n) (kS1 Qd)):=by show W (if _ then _ else _) _=_; rw [qX,bu]; rfl
theorem vZ (c:Nat):kS1 Qd c=Qd (.str (mk1 c)):=rfl
theorem vY (lo hi:Option Int):qR (.tuple ts) lo hi=some (.tuple (b6 ts lo hi)):=by first | rfl | exact av _ _ | exact aX _
theorem vX (z y:Str):eB z [.str y]=some (.bool (Txt.startswith z y)):=rfl
theorem vW (a b:Str):qG (.str a) (.str b)=some (.bool (df b a)):=rfl
theorem vV (a b:Bool):eqD (.bool a) (.bool b)=some (.bool (a == b)):=Cg a b
theorem vU (a b:Bool):neD (.bool a) (.bool b)=some (.bool (!(a == b))):=Bh a b
theorem vT (a b:Str):eqD (.str a) (.str b)=some (.bool (decide (a=b))):=Gi a b
theorem vS (a b:Str):neD (.str a) (.str b)=some (.bool (!decide (a=b))):=EL a b
theorem vR:neD (.list []) (.list [])=some (.bool false):=EM
theorem vQ:eqD (.list []) (.list [])=some (.bool true):=Gj
theorem vP (a:Bool):(a == a)=true:=beq_self_eq_true a
theorem vO:(true == false)=false:=rfl
theorem vN:(false == true)=false:=rfl
theorem vM (t:D) (ts acc:List D):W (lcF g c f (t :: ts) acc en) Ql=W (g t en) (kL1 g c f ts acc Ql):=by unfold lcF; rw [aw]; congr 1; funext z; rw [aw]; rfl
theorem vL (ts acc:List D):kL1 g c f ts acc Ql en=W (c en) (kL2 g c f ts acc Ql):=rfl
theorem vK (ts acc:List D):kL2 g c f ts acc Ql (true,en)=W (f en) (kL3 g c f ts acc Ql):=aw _ _ _
theorem vJ (ts acc:List D):kL2 g c f ts acc Ql (false,en)=W (lcF g c f ts acc en) Ql:=rfl
theorem vI (ts acc:List D) (t:D):kL3 g c f ts acc Ql (t,en)=(acc.length < sizeLine∧W (lcF g c f ts (acc++[t]) en) Ql):=qX _ _ _
theorem vH (m:List D):([]++m:List D)=m:=rfl
theorem vG (x:D) (l m:List D):((x :: l)++m:List D)=x :: (l++m):=rfl
theorem vF:(([]:List D).length < sizeLine)=True:=eq_true (Nat.lt_of_lt_of_le (by show 0 < 100; decide) bJ)
theorem vE (x0:D):(([x0]:List D).length < sizeLine)=True:=eq_true (Nat.lt_of_lt_of_le (by show 1 < 100; decide) bJ)
theorem vD (x0 x1:D):(([x0,x1]:List D).length < sizeLine)=True:=eq_true (Nat.lt_of_lt_of_le (by show 2 < 100; decide) bJ)
theorem vC (x0 x1 x2:D):(([x0,x1,x2]:List D).length < sizeLine)=True:=eq_true (Nat.lt_of_lt_of_le (by show 3 < 100; decide) bJ)
theorem vB (x0 x1 x2 x3:D):(([x0,x1,x2,x3]:List D).length < sizeLine)=True:=eq_true (Nat.lt_of_lt_of_le (by show 4 < 100; decide) bJ)
theorem vA (x0 x1 x2 x3 x4:D):(([x0,x1,x2,x3,x4]:List D).length < sizeLine)=True:=eq_true (Nat.lt_of_lt_of_le (by show 5 < 100; decide) bJ)
theorem vz (x0 x1 x2 x3 x4 x5:D):(([x0,x1,x2,x3,x4,x5]:List D).length < sizeLine)=True:=eq_true (Nat.lt_of_lt_of_le (by show 6 < 100; decide) bJ)
theorem vy (x0 x1 x2 x3 x4 x5 x6:D):(([x0,x1,x2,x3,x4,x5,x6]:List D).length < sizeLine)=True:=eq_true (Nat.lt_of_lt_of_le (by show 7 < 100; decide) bJ)
theorem vx (x0 x1 x2 x3 x4 x5 x6 x7:D):(([x0,x1,x2,x3,x4,x5,x6,x7]:List D).length < sizeLine)=True:=eq_true (Nat.lt_of_lt_of_le (by show 8 < 100; decide) bJ)
theorem vw (x0 x1 x2 x3 x4 x5 x6 x7 x8:D):(([x0,x1,x2,x3,x4,x5,x6,x7,x8]:List D).length < sizeLine)=True:=eq_true (Nat.lt_of_lt_of_le (by show 9 < 100; decide) bJ)
theorem vv:eK [.list []]=some (.bool true):=rfl
theorem vt (a:Bool):eK [.list [.bool a]]=some (.bool a):=by cases a <;> rfl
theorem vq (a b:Bool):eK [.list [.bool a,.bool b]]=some (.bool (a && b)):=by cases a <;> cases b <;> rfl
theorem vp (x:D) (l:List D):b6 (x :: l) (some 1) none=l:=Ch x l
theorem vo (x:D) (l:List D):(HT.sIx (x :: l).length 0 (some 1)=0)=False:=Hn x l
theorem vn (p:Prop):(False∧p)=False:=false_and p
theorem vm:(¬ False)=True:=not_false_eq_true
theorem vk:(!true)=false:=rfl
theorem vj:(!false)=true:=rfl
theorem vi (p:Prop):(True∧p)=p:=true_and p
theorem vh (p:Prop):(p∧True)=p:=and_true p
theorem vg (_:Decidable True):decide True=true:=decide_eq_true trivial
theorem vf (_:Decidable False):decide False=false:=decide_eq_false (fun z=>z)
theorem ve (α:Sort 1) (a:α):(a=a)=True:=eq_self a
end
theorem Cv:type_of% ws0∧type_of% ws1∧type_of% ws2∧type_of% ws3∧type_of% ws4∧type_of% ws5∧type_of% ws6∧type_of% ws7∧type_of% ws8∧type_of% ws9∧type_of% D6∧type_of% D5∧type_of% D4∧type_of% D3∧type_of% D2∧type_of% D1∧type_of% D0∧type_of% DZ∧type_of% DY∧type_of% DX∧type_of% DW∧type_of% DU∧type_of% DT∧type_of% DS∧type_of% DR∧type_of% DQ∧type_of% DP∧type_of% DN∧type_of% DM∧type_of% DL∧type_of% DK∧type_of% DJ∧type_of% DI∧type_of% DH∧type_of% DG∧type_of% DF∧type_of% DE∧type_of% DD∧type_of% DC∧type_of% DB:=⟨ws0,ws1,ws2,ws3,ws4,ws5,ws6,ws7,ws8,ws9,D6,D5,D4,D3,D2,D1,D0,DZ,DY,DX,DW,DU,DT,DS,DR,DQ,DP,DN,DM,DL,DK,DJ,DI,DH,DG,DF,DE,DD,DC,DB⟩
theorem Cu:type_of% DA∧type_of% Dz∧type_of% Dy∧type_of% Dx∧type_of% Dw∧type_of% Dv∧type_of% Du∧type_of% Dt∧type_of% Ds∧type_of% Dr∧type_of% Dq∧type_of% Dp∧type_of% Do∧type_of% Dm∧type_of% Dl∧type_of% Dk∧type_of% Dj∧type_of% Di∧type_of% Dh∧type_of% Dg∧type_of% De∧type_of% Dd∧type_of% Dc∧type_of% Db∧type_of% Da∧type_of% C9∧type_of% C8∧type_of% C7∧type_of% C6∧type_of% C5∧type_of% C4∧type_of% C3∧type_of% C2∧type_of% C1∧type_of% C0∧type_of% CZ∧type_of% CY∧type_of% CW∧type_of% CV∧type_of% CU:=⟨DA,Dz,Dy,Dx,Dw,Dv,Du,Dt,Ds,Dr,Dq,Dp,Do,Dm,Dl,Dk,Dj,Di,Dh,Dg,De,Dd,Dc,Db,Da,C9,C8,C7,C6,C5,C4,C3,C2,C1,C0,CZ,CY,CW,CV,CU⟩
theorem Ct:type_of% CT∧type_of% CQ∧type_of% CP∧type_of% CO∧type_of% CN∧type_of% CM∧type_of% CL∧type_of% CK∧type_of% CJ∧type_of% CI∧type_of% CH∧type_of% CG∧type_of% CF∧type_of% CD∧type_of% CC∧type_of% CB∧type_of% CA∧type_of% Cz∧type_of% Cy∧type_of% Cw∧type_of% Ab∧type_of% Aa∧type_of% zZ∧type_of% zY∧type_of% zX∧type_of% zW∧type_of% zV∧type_of% zU∧type_of% zT∧type_of% zS∧type_of% zR∧type_of% zQ∧type_of% zP∧type_of% zO∧type_of% zN∧type_of% zM∧type_of% zK∧type_of% zJ∧type_of% zI∧type_of% zH:=⟨CT,CQ,CP,CO,CN,CM,CL,CK,CJ,CI,CH,CG,CF,CD,CC,CB,CA,Cz,Cy,Cw,Ab,Aa,zZ,zY,zX,zW,zV,zU,zT,zS,zR,zQ,zP,zO,zN,zM,zK,zJ,zI,zH⟩
theorem Cs:type_of% zG∧type_of% zF∧type_of% zE∧type_of% zC∧type_of% zB∧type_of% zA∧type_of% zz∧type_of% zy∧type_of% zx∧type_of% zw∧type_of% zv∧type_of% zu∧type_of% zt∧type_of% zr∧type_of% zq∧type_of% zp∧type_of% zo∧type_of% zn∧type_of% zm∧type_of% zh∧type_of% zg∧type_of% ze∧type_of% zd∧type_of% zc∧type_of% zb∧type_of% y9∧type_of% y8∧type_of% yZ∧type_of% yY∧type_of% yX∧type_of% yW∧type_of% yV∧type_of% yU∧type_of% yT∧type_of% yS∧type_of% yR∧type_of% yQ∧type_of% yP∧type_of% yO∧type_of% yN:=⟨zG,zF,zE,zC,zB,zA,zz,zy,zx,zw,zv,zu,zt,zr,zq,zp,zo,zn,zm,zh,zg,ze,zd,zc,zb,y9,y8,yZ,yY,yX,yW,yV,yU,yT,yS,yR,yQ,yP,yO,yN⟩
theorem Cr:type_of% yM∧type_of% yL∧type_of% yK∧type_of% yJ∧type_of% yI∧type_of% yH∧type_of% yG∧type_of% yF∧type_of% yE∧type_of% yD∧type_of% yC∧type_of% yB∧type_of% yA∧type_of% yz∧type_of% yy∧type_of% yx∧type_of% yw∧type_of% yv∧type_of% yu∧type_of% yt∧type_of% yr∧type_of% yq∧type_of% yp∧type_of% yo∧type_of% yn∧type_of% ym∧type_of% yk∧type_of% yj∧type_of% yi∧type_of% yh∧type_of% yg∧type_of% yf∧type_of% ye∧type_of% yd∧type_of% yc∧type_of% yb∧type_of% ya∧type_of% x9∧type_of% xZ∧type_of% xY:=⟨yM,yL,yK,yJ,yI,yH,yG,yF,yE,yD,yC,yB,yA,yz,yy,yx,yw,yv,yu,yt,yr,yq,yp,yo,yn,ym,yk,yj,yi,yh,yg,yf,ye,yd,yc,yb,ya,x9,xZ,xY⟩
theorem Cq:type_of% xX∧type_of% xW∧type_of% xV∧type_of% xU∧type_of% xT∧type_of% xS∧type_of% xR∧type_of% xQ∧type_of% xP∧type_of% xO∧type_of% xN∧type_of% xM∧type_of% xL∧type_of% xK∧type_of% xJ∧type_of% xI∧type_of% xH∧type_of% xG∧type_of% xF∧type_of% xE∧type_of% xD∧type_of% xC∧type_of% xB∧type_of% xA∧type_of% xz∧type_of% xy∧type_of% xx∧type_of% xw∧type_of% xv∧type_of% xu∧type_of% xt∧type_of% xr∧type_of% xq∧type_of% xp∧type_of% xo∧type_of% xn∧type_of% xm∧type_of% xl∧type_of% xk∧type_of% xj:=⟨xX,xW,xV,xU,xT,xS,xR,xQ,xP,xO,xN,xM,xL,xK,xJ,xI,xH,xG,xF,xE,xD,xC,xB,xA,xz,xy,xx,xw,xv,xu,xt,xr,xq,xp,xo,xn,xm,xl,xk,xj⟩
theorem Cp:type_of% xi∧type_of% xh∧type_of% xg∧type_of% xf∧type_of% xc∧type_of% xb∧type_of% xa∧type_of% w8∧type_of% w6∧type_of% w4∧type_of% wZ∧type_of% wY∧type_of% wX∧type_of% wW∧type_of% wV∧type_of% wU∧type_of% wT∧type_of% wS∧type_of% wR∧type_of% wQ∧type_of% wP∧type_of% wO∧type_of% wN∧type_of% wM∧type_of% wL∧type_of% wK∧type_of% wJ∧type_of% wI∧type_of% wH∧type_of% wG∧type_of% wF∧type_of% wE∧type_of% wD∧type_of% wC∧type_of% wB∧type_of% wA∧type_of% wz∧type_of% wy∧type_of% wx∧type_of% ww:=⟨xi,xh,xg,xf,xc,xb,xa,w8,w6,w4,wZ,wY,wX,wW,wV,wU,wT,wS,wR,wQ,wP,wO,wN,wM,wL,wK,wJ,wI,wH,wG,wF,wE,wD,wC,wB,wA,wz,wy,wx,ww⟩
theorem Co:type_of% wv∧type_of% wu∧type_of% wt∧type_of% wq∧type_of% wp∧type_of% wo∧type_of% wn∧type_of% wm∧type_of% wl∧type_of% wj∧type_of% wg∧type_of% wf∧type_of% we∧type_of% wd∧type_of% wc∧type_of% wa∧type_of% v9∧type_of% v8∧type_of% v7∧type_of% vZ∧type_of% vY∧type_of% vX∧type_of% vW∧type_of% vV∧type_of% vU∧type_of% vT∧type_of% vS∧type_of% vR∧type_of% vQ∧type_of% vP∧type_of% vO∧type_of% vN∧type_of% vM∧type_of% vL∧type_of% vK∧type_of% vJ∧type_of% vI∧type_of% vH∧type_of% vG∧type_of% vF:=⟨wv,wu,wt,wq,wp,wo,wn,wm,wl,wj,wg,wf,we,wd,wc,wa,v9,v8,v7,vZ,vY,vX,vW,vV,vU,vT,vS,vR,vQ,vP,vO,vN,vM,vL,vK,vJ,vI,vH,vG,vF⟩
theorem Cn:type_of% vE∧type_of% vD∧type_of% vC∧type_of% vB∧type_of% vA∧type_of% vz∧type_of% vy∧type_of% vx∧type_of% vw∧type_of% vv∧type_of% vt∧type_of% vq∧type_of% vp∧type_of% vo∧type_of% vn∧type_of% vm∧type_of% vk∧type_of% vj∧type_of% vi∧type_of% vh∧type_of% vg∧type_of% vf∧type_of% ve:=⟨vE,vD,vC,vB,vA,vz,vy,vx,vw,vv,vt,vq,vp,vo,vn,vm,vk,vj,vi,vh,vg,vf,ve⟩
theorem ws:type_of% Cv∧type_of% Cu∧type_of% Ct∧type_of% Cs∧type_of% Cr∧type_of% Cq∧type_of% Cp∧type_of% Co∧type_of% Cn:=⟨Cv,Cu,Ct,Cs,Cr,Cq,Cp,Co,Cn⟩
end L2
namespace L2
open PySem PySem.Spec PyProof.Rows
theorem lA {g:MG} {b:MS} {ts:List D} {en:En} {Q:Fl→Prop} (I:Nat→En→Prop) (h0:I 0 en)
  (hs:∀ i t en,ts[i]?=some t→I i en→W (g t en) (kFg b (I (i+1)) Q)) (hq:∀ en,I ts.length en→Q (.nx en)):W (dB g b ts en) Q:=by
 suffices ∀ (us:List D) (i:Nat) (en:En),ts.drop i=us→i≤ts.length→I i en→W (dB g b us en) Q from this ts 0 en rfl (Nat.zero_le _) h0
 intro us
 induction us with
 | nil =>
  intro i en hu hi h
  have:ts.length - i=0:=by rw [← List.length_drop,hu]; rfl
  simp only [ws]
  exact hq en (by rw [show ts.length=i by omega]; exact h)
 | cons t us ih =>
  intro i en hu hi h
  have ht:ts[i]?=some t:=by
   have:(ts.drop i)[0]?=some t:=by rw [hu]; rfl
   rw [List.getElem?_drop] at this
   exact this
  have hl:i < ts.length:=(List.getElem?_eq_some_iff.mp ht).1
  have hd:ts.drop (i+1)=us:=by rw [← List.drop_drop,hu]; rfl
  simp only [ws]
  refine (hs i t en ht h).use fun en1 h1=>?_
  simp only [ws] at h1 ⊢
  refine h1.use fun fl h2=>?_
  cases fl with
  | nx e=>simp only [ws] at h2 ⊢; exact ih (i+1) e hd hl h2
  | ct e=>simp only [ws] at h2 ⊢; exact ih (i+1) e hd hl h2
  | rt t e=>simp only [ws] at h2 ⊢; exact h2
theorem mq {g:MG} {c:MT} {f:ME} {ts:List D} {en:En} {Q:List D × En→Prop} (I:Nat→List D→En→Prop) (hz:ts.length≤sizeLine) (h0:I 0 [] en)
  (hs:∀ i t us en,ts[i]?=some t→us.length≤i→I i us en→W (g t en) (E5 c f us (I (i+1)))) (hq:∀ us en,us.length≤ts.length→I ts.length us en→Q (us,en)):W (lcF g c f ts [] en) Q:=by
 suffices ∀ (vs:List D) (i:Nat) (us:List D) (en:En),ts.drop i=vs→i≤ts.length→us.length≤i→I i us en→W (lcF g c f vs us en) Q from this ts 0 [] en rfl (Nat.zero_le _) (Nat.zero_le _) h0
 intro vs
 induction vs with
 | nil =>
  intro i us en hu hi hl h
  have:ts.length - i=0:=by rw [← List.length_drop,hu]; rfl
  simp only [ws]
  exact hq us en (by omega) (by rw [show ts.length=i by omega]; exact h)
 | cons t vs ih =>
  intro i us en hu hi hl h
  have ht:ts[i]?=some t:=by
   have:(ts.drop i)[0]?=some t:=by rw [hu]; rfl
   rw [List.getElem?_drop] at this
   exact this
  have hlt:i < ts.length:=(List.getElem?_eq_some_iff.mp ht).1
  have hd:ts.drop (i+1)=vs:=by rw [← List.drop_drop,hu]; rfl
  unfold lcF
  rw [aw]
  refine (hs i t us en ht hl h).use fun en1 h1=>?_
  simp only [ws] at h1
  rw [aw]
  refine h1.use fun r h2=>?_
  obtain ⟨x,en2⟩:=r
  cases x with
  | true =>
   simp only [ws] at h2
   show W ((f en2).bind _) Q
   rw [aw]
   refine h2.use fun q h3=>?_
   obtain ⟨u,en3⟩:=q
   simp only [ws] at h3
   show W (if us.length < sizeLine then _ else _) Q
   rw [if_pos (by omega)]
   exact ih (i+1) _ _ hd hlt (by rw [List.length_append]; show _+1≤_; omega) h3
  | false =>
   simp only [ws] at h2
   exact ih (i+1) _ _ hd hlt (by omega) h2
theorem pS {c:MT} {b:MS} {en:En} {Q:Fl→Prop} (I:Nat→En→Prop) (hs:∀ n en,I n en→W (c en) (kWh b (fun e=>∃ m,m < n∧I m e) Q)) {n:Nat} (h0:I n en):W (bW c b en) Q:=by
 induction n using Nat.strongRecOn generalizing en with
 | _ n ih =>
  obtain ⟨⟨x,en1⟩,e1,h1⟩:=(hs n en h0).ex
  cases x with
  | false=>simp only [ws] at h1; exact W.of (oP e1) h1
  | true =>
   simp only [ws] at h1
   obtain ⟨fl,e2,h2⟩:=h1.ex
   cases fl with
   | nx e =>
    obtain ⟨m,hm,hi⟩:∃ m,m < n∧I m e:=h2
    obtain ⟨fl,e3,h3⟩:=(ih m hm hi).ex
    exact W.of (oQ e1 e2 e3) h3
   | ct e =>
    obtain ⟨m,hm,hi⟩:∃ m,m < n∧I m e:=h2
    obtain ⟨fl,e3,h3⟩:=(ih m hm hi).ex
    obtain ⟨k,h4⟩:=gQ e3
    refine W.of (gy (n:=k+1) ?_) h3
    unfold whN
    rw [e1]
    show (b en1).bind _=_
    rw [e2]
    exact h4
   | rt t e =>
    refine W.of (gy (n:=1) ?_) (show Q (.rt t e) from h2)
    unfold whN
    rw [e1]
    show (b en1).bind _=_
    rw [e2]
    rfl
theorem fm {f:ME} {ts:List D} {o:Option D} {rest:En} {Q:List D × En→Prop} (F:D→D) (hz:ts.length≤sizeLine) (hf:∀ t∈ts,W (f (some t :: rest)) (fun r=>r=(F t,some t :: rest))) (hq:∀ o',Q (ts.map F,o' :: rest)):W (lcF (gN 0) cY f ts [] (o :: rest)) Q:=by
 obtain ⟨o',e⟩:=Bk (f:=f) (F:=F) (rest:=rest) ts [] o (fun t ht=>by
  obtain ⟨r,e,h⟩:=(hf t ht).ex
  rw [e,h]) (by simpa using hz)
 exact W.of e (hq o')
theorem mT {c:MT} {f:ME} {ts:List D} {o:Option D} {rest:En} {Q:List D × En→Prop} (p:D→Bool) (F:D→D) (hz:ts.length≤sizeLine) (hc:∀ t∈ts,W (c (some t :: rest)) (fun r=>r=(p t,some t :: rest))) (hf:∀ t∈ts,p t=true→W (f (some t :: rest)) (fun r=>r=(F t,some t :: rest))) (hq:∀ o',Q ((ts.filter p).map F,o' :: rest)):W (lcF (gN 0) c f ts [] (o :: rest)) Q:=by
 obtain ⟨o',e⟩:=fO (c:=c) (f:=f) (p:=p) (F:=F) (rest:=rest) ts [] o (fun t ht=>by
  obtain ⟨r,e,h⟩:=(hc t ht).ex
  rw [e,h]) (fun t ht hp=>by
  obtain ⟨r,e,h⟩:=(hf t ht hp).ex
  rw [e,h]) (by simpa using hz)
 exact W.of e (hq o')
theorem gx {α:Type} {ts:List α} {i:Nat} {t:α} (h:ts[i]?=some t):ts.take (i+1)=ts.take i++[t]:=by
 rw [List.take_add_one,h]; rfl
theorem fW {i:Int} {n k:Nat} {t:D} (h:(jg i n)[k]?=some t):k < n∧t=.int (i+(k:Nat)):=by
 unfold jg at h
 rw [List.getElem?_map] at h
 obtain ⟨j,hj,rfl⟩:=Option.map_eq_some_iff.mp h
 obtain ⟨hl,e⟩:=List.getElem?_eq_some_iff.mp hj
 rw [List.getElem_range] at e
 rw [List.length_range] at hl
 exact ⟨hl,by rw [e]⟩
theorem cv (i:Int) (n:Nat):(jg i n).length=n:=by unfold jg; rw [List.length_map,List.length_range]
theorem sz {n:Nat} (h:n≤1000):n≤sizeLine:=Nat.le_trans h Pen3.sl1000
theorem szl {n:Nat} (h:n < 1000):n < sizeLine:=Nat.lt_of_lt_of_le h Pen3.sl1000
end L2
set_option maxHeartbeats 1000000
namespace L2
namespace Tg
open PySem L2 Pen3
abbrev s1 (c:Nat):D:=.str (mk1 c)
def ev:Str:=("!\"#$&'()*+,-./0123456789:;<=>?@ABCDEFGHIJKLMNOPQRSTUVWXYZ" : Str)++("[\\]^_`abcdefghijklmnopqrstuvwxyz{|}~" : Str)
theorem gL:∀ (l:List Nat) (k:Nat),(l.map s1).eraseIdx k=(l.eraseIdx k).map s1
 | [],_=>rfl
 | a :: l,0=>rfl
 | a :: l,k+1=>by
  show s1 a :: (l.map s1).eraseIdx k=s1 a :: (l.eraseIdx k).map s1
  rw [gL l k]
theorem mE {z:Str} (h:(li z).length≤1000):iD [.str z]=some (.list ((li z).map s1)):=by
 show grd (z.cps.size≤sizeLine) _=_
 unfold grd
 rw [if_pos (Nat.le_trans (by rw [← Array.length_toList]; exact h) sl1000)]
 rfl
theorem Hw {left:List Nat} {k:Nat} (hk:k < left.length):lU (left.map s1) (k:Int)=some (s1 left[k],(left.eraseIdx k).map s1):=by
 unfold lU
 rw [List.length_map,Em (by omega) (by omega),Int.toNat_natCast]
 show Option.map _ _=_
 rw [List.getElem?_map,List.getElem?_eq_getElem hk,gL]
 rfl
theorem qT {α:Type} (xs:List α) (n:Nat):b6 xs (some (n:Int)) none=xs.drop n:=by
 unfold b6
 rw [HT.sIx_none,HT.sIx_nat,List.take_of_length_le (by rw [List.length_drop]; exact Nat.le_refl _)]
 by_cases h:n≤xs.length
 ·rw [Nat.min_eq_left h]
 ·rw [Nat.min_eq_right (by omega),List.drop_eq_nil_of_le (Nat.le_refl _),List.drop_eq_nil_of_le (by omega)]
theorem qS {α:Type} (xs:List α) (n:Nat):b6 xs none (some (n:Int))=xs.take n:=by
 unfold b6
 rw [HT.sIx_none,HT.sIx_nat,List.drop_zero,Nat.sub_zero]
 by_cases h:n≤xs.length
 ·rw [Nat.min_eq_left h]
 ·rw [Nat.min_eq_right (by omega),List.take_of_length_le (Nat.le_refl _),List.take_of_length_le (by omega)]
theorem fZ:∀ ks:List Str,joinD.strsOf (ks.map .str)=some ks
 | []=>rfl
 | c :: cs=>by
  show (joinD.strsOf (cs.map .str)).map (c :: ·)=_
  rw [fZ cs]
  rfl
theorem mG {ks:List Str} (h:(aM ks).length≤1000) (h2:ks.length≤1000):joinD "" [.tuple (ks.map .str)]=some (.str (ofL (aM ks)))∧joinD "" [.list (ks.map .str)]=some (.str (ofL (aM ks))):=by
 have e:ofL (aM ks)=Txt.join "" ks:=(EQ (Gm ks)).symm
 constructor
 ·show (joinD.strsOf (ks.map .str)).bind _=_
  rw [fZ]
  show (if _ then _ else _)=_
  rw [if_pos ⟨by decide,by rw [oF]; omega⟩,e]
 ·show (joinD.strsOf (ks.map .str)).bind _=_
  rw [fZ]
  show (if _ then _ else _)=_
  rw [if_pos ⟨by decide,by rw [oF]; omega⟩,e]
theorem pE {cs:List Nat} (h:cs.length≤1000):joinD "" [.list (cs.map s1)]=some (.str (ofL cs)):=by
 have e:(cs.map s1)=(cs.map mk1).map PyData.str:=by rw [List.map_map]; rfl
 have h2:=(mG (ks:=cs.map mk1) (by rw [oE]; exact h) (by rw [List.length_map]; exact h)).2
 rw [oE] at h2
 rw [e]
 exact h2
def tD (ks:List Str):D:=.tuple (ks.map .str)
abbrev sgs (ks:List Str):Str:=ofL (aM ks)
theorem qp (cs:List Nat):li (ofL cs)=cs:=rfl
theorem Bj (cs:List Nat):(ofL cs).length=cs.length:=by show cs.toArray.size=_; rw [List.size_toArray]
end Tg
end L2
namespace L2
namespace Tg
open PySem L2 Pen3
theorem Ej (z y:Str) (i:Nat):Builtin.Str.subAt z y i=((((li z).drop i).take (li y).length) == li y):=StrLaws.subAt_eq z y i
theorem nQ (z:Str):(li z).length=z.length:=Array.length_toList
theorem iu (z y:Str):Txt.startswith z y=true↔li y <+: li z:=by
 show (decide (0+y.length≤z.length) && Builtin.Str.subAt z y 0)=true↔_
 rw [Ej,Bool.and_eq_true,decide_eq_true_eq,beq_iff_eq,List.drop_zero]
 have a:=nQ z
 have b:=nQ y
 constructor
 ·rintro ⟨_,h⟩
  exact List.prefix_iff_eq_take.mpr h.symm
 ·intro h
  exact ⟨by have:=h.length_le; omega,(List.prefix_iff_eq_take.mp h).symm⟩
abbrev rv (z:Str):Str:=⟨z.cps.toList.reverse.toArray⟩
end Tg
end L2
set_option maxHeartbeats 4000000
namespace W58
open PySem L2
def top (i:Nat):Stmt:=PySem.Challenge.pw_wordrules_k58_plan_texts.main.body.getD i (.Pass ⟨0,0,0,0⟩)
structure Bl (mg:Str→Option Value):Prop where
 abs0:mg "abs"=none
 all0:mg "all"=none
 bool0:mg "bool"=none
 int0:mg "int"=none
 isinstance0:mg "isinstance"=none
 len0:mg "len"=none
 list0:mg "list"=none
 max0:mg "max"=none
 min0:mg "min"=none
 range0:mg "range"=none
 repr0:mg "repr"=none
 set0:mg "set"=none
 str0:mg "str"=none
 tuple0:mg "tuple"=none
 zip0:mg "zip"=none
section
variable {P:Program} {w:World} {K:PySem.W.Frag} {mg:Str→Option Value} {base:Heap} {f:Addr} {fd:FuncData}
abbrev hG:Stmt:=top 5
abbrev kd:List Str:=["signs"]
theorem scare_unlike:FnScope kd ["signs"] (am hG):=⟨rfl,rfl,rfl,by decide +kernel,rfl,by decide +kernel,by decide +kernel⟩
def h8:MS:=(aE (e2 eqD (e1 jS (af 0)) (eN aV (ae (af 0) ag))))
def cy:List D→Option (D × En):=fnF 0 [0] h8
theorem nG {k:Nat} (T:Bl mg)   (F:Fun K "are_unlike" "are_unlike" hG f fd):FnOk P w K mg base CX0 (k+1) f fd ["signs"] (spF K [0] 3 cy):=by
 have nd:=scare_unlike.nd
 refine F.okQ (N:=kd) (b:=h8) (J:=⟨[],[0],3,[]⟩) (ds0:=[0]) scare_unlike rfl rfl rfl rfl fun cdv A outer s H E hr=>?_
 exact (ak (au (b5 (dt (K:=K) rfl hr.units) (oz (K:=K) rfl rfl rfl T.len0 rfl T.set0 (by decide +kernel) (by decide +kernel) (ac (i:=0) rfl (.inl rfl) rfl rfl rfl) rfl) (ar (bd (K:=K) rfl) rfl T.len0 (by decide +kernel) (aa (ac (i:=0) rfl (.inl rfl) rfl rfl rfl) ad rfl) rfl (by decide) rfl rfl rfl) (aU _)) rfl))
abbrev jC:Stmt:=top 7
abbrev mU:List Str:=["tongue"]
theorem scsigns_of:FnScope mU ["tongue"] (am jC):=⟨rfl,rfl,rfl,by decide +kernel,rfl,by decide +kernel,by decide +kernel⟩
def jM:MS:=(aE (eM joinD (eC (.str "")) (ae (af 0) ag)))
def dO:List D→Option (D × En):=fnF 0 [0] jM
theorem qf {k:Nat} (T:Bl mg)   (F:Fun K "signs_of" "signs_of" jC f fd):FnOk P w K mg base CX0 (k+1) f fd ["tongue"] (spF K [0] 3 dO):=by
 have nd:=scsigns_of.nd
 refine F.okQ (N:=mU) (b:=jM) (J:=⟨[],[0],3,[]⟩) (ds0:=[0]) scsigns_of rfl rfl rfl rfl fun cdv A outer s H E hr=>?_
 exact (ak (au (bA (K:=K) rfl PySem.F.slot_str_join PySem.F.type_str_join (dJ rfl) dL aq (aa (ac (i:=0) rfl (.inl rfl) rfl rfl rfl) ad rfl) rfl rfl rfl rfl rfl rfl) rfl))
abbrev iL:Stmt:=top 6
abbrev kF:List Str:=["tongue", "thing", "signs"]
theorem scis_word:FnScope kF ["tongue", "thing"] (am iL):=⟨rfl,rfl,rfl,by decide +kernel,rfl,by decide +kernel,by decide +kernel⟩
def lH:ME:=(e2 qG (af 0) (af 1))
def gl:MS:=(ao (sIf (bOr (ck (tV (e1 (aH "str") (af 1)))) (tV (e2 gtI (eN aV (ae (af 1) ag)) (eC (.int 60))))) (aE (eC (.bool false))) bh)
 (ao (aA 2 (ay dO (ae (af 0) ag)))
 (aE (eN eK (ae (eLC true (b8 (af 1)) (gN 0) cY lH [none,some 2]) ag)))))
def cH:List D→Option (D × En):=fnF 1 [0,0] gl
theorem rM {k:Nat} (T:Bl mg) {gw:Tok} (gW:mg "MOST_SIGNS_OF_A_WORD"=some (.int 60 gw)) (tm:Kn P w K mg base k "signs_of" ["tongue"] (spF K [0] 3 dO)) (F:Fun K "is_word" "is_word" iL f fd):FnOk P w K mg base CX0 (k+1) f fd ["tongue", "thing"] (spF K [0,0] 3 cH):=by
 have nd:=scis_word.nd
 refine F.okQ (N:=kF) (b:=gl) (J:=⟨[],[0,0,0],3,[]⟩) (ds0:=[0,0,0]) scis_word rfl rfl rfl rfl fun cdv A outer s H E hr=>?_
 exact (ah (aW (ds2:=[0,0,0]) (qpt (bL (bo (aT (b4 (K:=K) (n:="str") rfl rfl T.isinstance0 rfl T.str0 (by decide +kernel) (by decide) (ac (i:=1) rfl (.inl rfl) rfl rfl rfl) (by decide) rfl rfl rfl rfl) (fun _=>rfl))) (bD (aO jV (ar (bd (K:=K) rfl) rfl T.len0 (by decide +kernel) (aa (ac (i:=1) rfl (.inl rfl) rfl rfl rfl) ad rfl) rfl (by decide) rfl rfl rfl) (cP rfl gW rfl) (aU _))))) (ak (au dN rfl)) aP)
  (ah (ax (i:=2) (d:=0) (ds':=[0,0,0]) nd rfl (.inr rfl) (ai (d':=0) (aR tm hr rfl (aa (ac (i:=0) rfl (.inl rfl) rfl rfl rfl) ad rfl) rfl rfl rfl rfl rfl) (by decide)) rfl (by decide) (by decide) rfl (.inl rfl))
  (ak (au (ar (ff (K:=K) rfl rfl) rfl T.all0 (by decide +kernel) (aa (ai (d':=0) (b9 (cd:=3) (d:=3) (dsi:=[0,0]) (lk:=[1]) (BlkOkC.of (ns:=["sign", "signs"]) (js:=[none,some 2]) (N0:=kF) (sc0:=am iL) rfl rfl (by decide +kernel)) rfl (bj (K:=K) rfl (ac (i:=1) rfl (.inl rfl) rfl rfl rfl)) (fun _ _ _ _ _=>(aB (i:=0) (ds':=[0,0]) (show (["sign", "signs"]:List Str).Nodup by decide +kernel) rfl (.inl rfl) rfl (by decide) (by decide) (.inr rfl))) (fun _ _ _ _ _=>bn) (fun _ _ _ _ _=>(b5 sG (ac (i:=0) rfl (.inl rfl) rfl rfl rfl) (ac (i:=1) rfl (.inr (.inl rfl)) rfl rfl rfl) (by with_unfolding_all rfl))) rfl rfl (by decide) rfl (fun _=>rfl)) (by decide)) ad rfl) rfl (by decide) rfl rfl rfl) rfl))))
abbrev fG:Stmt:=top 10
abbrev ja:List Str:=["tongue", "thing"]
theorem scis_told_word:FnScope ja ["tongue", "thing"] (am fG):=⟨rfl,rfl,rfl,by decide +kernel,rfl,by decide +kernel,by decide +kernel⟩
def dy:MS:=(aE (fy (ay cH (ae (af 0) (ae (af 1) ag))) (di leI leI (eC (.int 1)) (eN aV (ae (af 1) ag)) (eC (.int 6)))))
def bN:List D→Option (D × En):=fnF 0 [0,0] dy
theorem lX {k:Nat} (T:Bl mg) {je:Tok} (j5:mg "MOST_SIGNS_TOLD"=some (.int 6 je)) (u9:Kn P w K mg base k "is_word" ["tongue", "thing"] (spF K [0,0] 3 cH)) (F:Fun K "is_told_word" "is_told_word" fG f fd):FnOk P w K mg base CX0 (k+1) f fd ["tongue", "thing"] (spF K [0,0] 3 bN):=by
 have nd:=scis_told_word.nd
 refine F.okQ (N:=ja) (b:=dy) (J:=⟨[],[0,0],3,[]⟩) (ds0:=[0,0]) scis_told_word rfl rfl rfl rfl fun cdv A outer s H E hr=>?_
 exact (ak (au (dE (aR u9 hr rfl (aa (ac (i:=0) rfl (.inl rfl) rfl rfl rfl) (aa (ac (i:=1) rfl (.inl rfl) rfl rfl rfl) ad rfl) rfl) rfl rfl rfl rfl rfl) (dD (qL jU jU aj (ar (bd (K:=K) rfl) rfl T.len0 (by decide +kernel) (aa (ac (i:=1) rfl (.inl rfl) rfl rfl rfl) ad rfl) rfl (by decide) rfl rfl rfl) (cP rfl j5 rfl) (by with_unfolding_all rfl)))) rfl))
abbrev iN:Stmt:=top 17
abbrev kH:List Str:=["tongue", "thing"]
theorem scis_part:FnScope kH ["tongue", "thing"] (am iN):=⟨rfl,rfl,rfl,by decide +kernel,rfl,by decide +kernel,by decide +kernel⟩
def lM:ME:=(ay bN (ae (af 1) (ae (af 0) ag)))
def gn:MS:=(ao (sIf (bOr (ck (tV (e1 (aH "tuple") (af 1)))) (tV (e2 gtI (eN aV (ae (af 1) ag)) (eC (.int 12))))) (aE (eC (.bool false))) bh)
 (aE (fy (eN eK (ae (eLC true (b8 (af 1)) (gN 0) cY lM [none,some 0]) ag)) (ay cy (ae (af 1) ag)))))
def cJ:List D→Option (D × En):=fnF 0 [0,0] gn
theorem rP {k:Nat} (T:Bl mg) {gu:Tok} (gU:mg "MOST_WORDS_OF_A_PART"=some (.int 12 gu)) (pc:Kn P w K mg base k "are_unlike" ["signs"] (spF K [0] 3 cy)) (m9:Kn P w K mg base k "is_told_word" ["tongue", "thing"] (spF K [0,0] 3 bN)) (F:Fun K "is_part" "is_part" iN f fd):FnOk P w K mg base CX0 (k+1) f fd ["tongue", "thing"] (spF K [0,0] 3 cJ):=by
 have nd:=scis_part.nd
 refine F.okQ (N:=kH) (b:=gn) (J:=⟨[],[0,0],3,[]⟩) (ds0:=[0,0]) scis_part rfl rfl rfl rfl fun cdv A outer s H E hr=>?_
 exact (ah (aW (ds2:=[0,0]) (qpt (bL (bo (aT (b4 (K:=K) (n:="tuple") rfl rfl T.isinstance0 rfl T.tuple0 (by decide +kernel) (by decide) (ac (i:=1) rfl (.inl rfl) rfl rfl rfl) (by decide) rfl rfl rfl rfl) (fun _=>rfl))) (bD (aO jV (ar (bd (K:=K) rfl) rfl T.len0 (by decide +kernel) (aa (ac (i:=1) rfl (.inl rfl) rfl rfl rfl) ad rfl) rfl (by decide) rfl rfl rfl) (cP rfl gU rfl) (aU _))))) (ak (au dN rfl)) aP)
  (ak (au (dE (ar (ff (K:=K) rfl rfl) rfl T.all0 (by decide +kernel) (aa (ai (d':=0) (b9 (cd:=3) (d:=3) (dsi:=[0,0]) (lk:=[1]) (BlkOkC.of (ns:=["word", "tongue"]) (js:=[none,some 0]) (N0:=kH) (sc0:=am iN) rfl rfl (by decide +kernel)) rfl (bj (K:=K) rfl (ac (i:=1) rfl (.inl rfl) rfl rfl rfl)) (fun _ _ _ _ _=>(aB (i:=0) (ds':=[0,0]) (show (["word", "tongue"]:List Str).Nodup by decide +kernel) rfl (.inl rfl) rfl (by decide) (by decide) (.inr rfl))) (fun _ _ _ _ _=>bn) (fun _ _ _ _ _=>(aR m9 hr rfl (aa (ac (i:=1) rfl (.inr (.inl rfl)) rfl rfl rfl) (aa (ac (i:=0) rfl (.inl rfl) rfl rfl rfl) ad rfl) rfl) rfl rfl rfl rfl rfl)) rfl rfl (by decide) rfl (fun _=>rfl)) (by decide)) ad rfl) rfl (by decide) rfl rfl rfl) (dD (aR pc hr rfl (aa (ac (i:=1) rfl (.inl rfl) rfl rfl rfl) ad rfl) rfl rfl rfl rfl rfl))) rfl)))
abbrev b7:Stmt:=top 19
abbrev da:List Str:=["part", "text"]
theorem scwords_that_begin:FnScope da ["part", "text"] (am b7):=⟨rfl,rfl,rfl,by decide +kernel,rfl,by decide +kernel,by decide +kernel⟩
def eo:MT:=(tV (eM eB (af 1) (ae (af 0) ag)))
def et:ME:=(af 0)
def db:MS:=(aE (eLC true (b8 (af 0)) (gN 0) eo et [none,some 1]))
def bz:List D→Option (D × En):=fnF 0 [0,0] db
theorem jj {k:Nat} (T:Bl mg)   (F:Fun K "words_that_begin" "words_that_begin" b7 f fd):FnOk P w K mg base CX0 (k+1) f fd ["part", "text"] (spF K [0,0] 1 bz):=by
 have nd:=scwords_that_begin.nd
 refine F.okQ (N:=da) (b:=db) (J:=⟨[],[0,0],1,[]⟩) (ds0:=[0,0]) scwords_that_begin rfl rfl rfl rfl fun cdv A outer s H E hr=>?_
 exact (ak (au (b9 (cd:=0) (d:=1) (dsi:=[0,0]) (lk:=[1]) (BlkOkC.of (ns:=["word", "text"]) (js:=[none,some 1]) (N0:=da) (sc0:=am b7) rfl rfl (by decide +kernel)) rfl (bj (K:=K) rfl (ac (i:=0) rfl (.inl rfl) rfl rfl rfl)) (fun _ _ _ _ _=>(aB (i:=0) (ds':=[0,0]) (show (["word", "text"]:List Str).Nodup by decide +kernel) rfl (.inl rfl) rfl (by decide) (by decide) (.inr rfl))) (fun _ _ _ _ _=>(mI (aT (bA (K:=K) rfl PySem.F.slot_str_startswith PySem.F.type_str_startswith gB gJ (ac (i:=1) rfl (.inr (.inl rfl)) rfl rfl rfl) (aa (ac (i:=0) rfl (.inl rfl) rfl rfl rfl) ad rfl) rfl rfl rfl rfl rfl rfl) (fun _=>rfl)))) (fun _ _ _ _ _=>(ac (i:=0) rfl (.inl rfl) rfl rfl rfl)) rfl rfl (by decide) rfl (fun _=>rfl)) rfl))
abbrev bP:Stmt:=top 18
abbrev cm:List Str:=["part"]
theorem scnone_begins_another:FnScope cm ["part"] (am bP):=⟨rfl,rfl,rfl,by decide +kernel,rfl,by decide +kernel,by decide +kernel⟩
def dm:ME:=(e2 eqD (ay bz (ae (af 1) (ae (af 0) ag))) (bI (ae (af 0) ag)))
def cq:MS:=(aE (eN eK (ae (eLC true (b8 (af 0)) (gN 0) cY dm [none,some 0]) ag)))
def bg:List D→Option (D × En):=fnF 0 [0] cq
theorem ib {k:Nat} (T:Bl mg)  (j6:Kn P w K mg base k "words_that_begin" ["part", "text"] (spF K [0,0] 1 bz)) (F:Fun K "none_begins_another" "none_begins_another" bP f fd):FnOk P w K mg base CX0 (k+1) f fd ["part"] (spF K [0] 3 bg):=by
 have nd:=scnone_begins_another.nd
 refine F.okQ (N:=cm) (b:=cq) (J:=⟨[],[0],3,[]⟩) (ds0:=[0]) scnone_begins_another rfl rfl rfl rfl fun cdv A outer s H E hr=>?_
 exact (ak (au (ar (ff (K:=K) rfl rfl) rfl T.all0 (by decide +kernel) (aa (ai (d':=0) (b9 (cd:=3) (d:=3) (dsi:=[0,0]) (lk:=[1]) (BlkOkC.of (ns:=["word", "part"]) (js:=[none,some 0]) (N0:=cm) (sc0:=am bP) rfl rfl (by decide +kernel)) rfl (bj (K:=K) rfl (ac (i:=0) rfl (.inr (.inl rfl)) rfl rfl rfl)) (fun _ _ _ _ _=>(aB (i:=0) (ds':=[0,0]) (show (["word", "part"]:List Str).Nodup by decide +kernel) rfl (.inl rfl) rfl (by decide) (by decide) (.inr rfl))) (fun _ _ _ _ _=>bn) (fun _ _ _ _ _=>(b5 (dt (K:=K) rfl hr.units) (aR j6 hr rfl (aa (ac (i:=1) rfl (.inr (.inl rfl)) rfl rfl rfl) (aa (ac (i:=0) rfl (.inl rfl) rfl rfl rfl) ad rfl) rfl) rfl rfl rfl rfl rfl) (bm (d:=1) (c:=0) (aa (ac (i:=0) rfl (.inl rfl) rfl rfl rfl) ad rfl) rfl rfl (by decide)) (aU _))) rfl rfl (by decide) rfl (fun _=>rfl)) (by decide)) ad rfl) rfl (by decide) rfl rfl rfl) rfl))
abbrev gf:Stmt:=top 16
abbrev iS:List Str:=["tongue", "thing"]
theorem scis_step:FnScope iS ["tongue", "thing"] (am gf):=⟨rfl,rfl,rfl,by decide +kernel,rfl,by decide +kernel,by decide +kernel⟩
def lK:ME:=(ay cJ (ae (af 1) (ae (af 0) ag)))
def lJ:ME:=(ay bg (ae (af 0) ag))
def eR:MS:=(ao (sIf (bOr (ck (tV (e1 (aH "tuple") (af 1)))) (ck (tV (di leI leI (eC (.int 1)) (eN aV (ae (af 1) ag)) (eC (.int 5)))))) (aE (eC (.bool false))) bh)
 (aE (fy (eN eK (ae (eLC true (b8 (af 1)) (gN 0) cY lK [none,some 0]) ag)) (eN eK (ae (eLC true (b8 (eSl qR (af 1) iz (gA (e1 t9 (eC (.int 1)))))) (gN 0) cY lJ [none]) ag)))))
def cn:List D→Option (D × En):=fnF 0 [0,0] eR
theorem rN {k:Nat} (T:Bl mg) {mY:Tok} (n9:mg "MOST_PARTS"=some (.int 5 mY)) (vc:Kn P w K mg base k "is_part" ["tongue", "thing"] (spF K [0,0] 3 cJ)) (iX:Kn P w K mg base k "none_begins_another" ["part"] (spF K [0] 3 bg)) (F:Fun K "is_step" "is_step" gf f fd):FnOk P w K mg base CX0 (k+1) f fd ["tongue", "thing"] (spF K [0,0] 3 cn):=by
 have nd:=scis_step.nd
 refine F.okQ (N:=iS) (b:=eR) (J:=⟨[],[0,0],3,[]⟩) (ds0:=[0,0]) scis_step rfl rfl rfl rfl fun cdv A outer s H E hr=>?_
 exact (ah (aW (ds2:=[0,0]) (qpt (bL (bo (aT (b4 (K:=K) (n:="tuple") rfl rfl T.isinstance0 rfl T.tuple0 (by decide +kernel) (by decide) (ac (i:=1) rfl (.inl rfl) rfl rfl rfl) (by decide) rfl rfl rfl rfl) (fun _=>rfl))) (bD (bo (la jU jU aj (ar (bd (K:=K) rfl) rfl T.len0 (by decide +kernel) (aa (ac (i:=1) rfl (.inl rfl) rfl rfl rfl) ad rfl) rfl (by decide) rfl rfl rfl) (cP rfl n9 rfl) (by with_unfolding_all rfl)))))) (ak (au dN rfl)) aP)
  (ak (au (dE (ar (ff (K:=K) rfl rfl) rfl T.all0 (by decide +kernel) (aa (ai (d':=0) (b9 (cd:=3) (d:=3) (dsi:=[0,0]) (lk:=[1]) (BlkOkC.of (ns:=["part", "tongue"]) (js:=[none,some 0]) (N0:=iS) (sc0:=am gf) rfl rfl (by decide +kernel)) rfl (bj (K:=K) rfl (ac (i:=1) rfl (.inl rfl) rfl rfl rfl)) (fun _ _ _ _ _=>(aB (i:=0) (ds':=[0,0]) (show (["part", "tongue"]:List Str).Nodup by decide +kernel) rfl (.inl rfl) rfl (by decide) (by decide) (.inr rfl))) (fun _ _ _ _ _=>bn) (fun _ _ _ _ _=>(aR vc hr rfl (aa (ac (i:=1) rfl (.inr (.inl rfl)) rfl rfl rfl) (aa (ac (i:=0) rfl (.inl rfl) rfl rfl rfl) ad rfl) rfl) rfl rfl rfl rfl rfl)) rfl rfl (by decide) rfl (fun _=>rfl)) (by decide)) ad rfl) rfl (by decide) rfl rfl rfl) (dD (ar (ff (K:=K) rfl rfl) rfl T.all0 (by decide +kernel) (aa (ai (d':=0) (b9 (cd:=3) (d:=3) (dsi:=[0]) (lk:=[]) (BlkOkC.of (ns:=["part"]) (js:=[none]) (N0:=iS) (sc0:=am gf) rfl rfl (by decide +kernel)) rfl (bj (K:=K) rfl (fP (BX (K:=K) rfl) (ac (i:=1) rfl (.inl rfl) rfl rfl rfl) gH (gE (B3 FF aj)))) (fun _ _ _ _ _=>(aB (i:=0) (ds':=[0]) (show (["part"]:List Str).Nodup by decide +kernel) rfl (.inl rfl) rfl (by decide) (by decide) (.inr rfl))) (fun _ _ _ _ _=>bn) (fun _ _ _ _ _=>(aR iX hr rfl (aa (ac (i:=0) rfl (.inl rfl) rfl rfl rfl) ad rfl) rfl rfl rfl rfl rfl)) rfl rfl (by decide) rfl (fun _=>rfl)) (by decide)) ad rfl) rfl (by decide) rfl rfl rfl))) rfl)))
abbrev iM:Stmt:=top 15
abbrev kG:List Str:=["tongue", "thing"]
theorem scis_plan:FnScope kG ["tongue", "thing"] (am iM):=⟨rfl,rfl,rfl,by decide +kernel,rfl,by decide +kernel,by decide +kernel⟩
def lL:ME:=(ay cn (ae (af 1) (ae (af 0) ag)))
def gm:MS:=(ao (sIf (bOr (ck (tV (e1 (aH "tuple") (af 1)))) (tV (e2 gtI (eN aV (ae (af 1) ag)) (eC (.int 3))))) (aE (eC (.bool false))) bh)
 (aE (eN eK (ae (eLC true (b8 (af 1)) (gN 0) cY lL [none,some 0]) ag))))
def cI:List D→Option (D × En):=fnF 0 [0,0] gm
theorem rO {k:Nat} (T:Bl mg) {mX:Tok} (n8:mg "MOST_STEPS"=some (.int 3 mX)) (va:Kn P w K mg base k "is_step" ["tongue", "thing"] (spF K [0,0] 3 cn)) (F:Fun K "is_plan" "is_plan" iM f fd):FnOk P w K mg base CX0 (k+1) f fd ["tongue", "thing"] (spF K [0,0] 3 cI):=by
 have nd:=scis_plan.nd
 refine F.okQ (N:=kG) (b:=gm) (J:=⟨[],[0,0],3,[]⟩) (ds0:=[0,0]) scis_plan rfl rfl rfl rfl fun cdv A outer s H E hr=>?_
 exact (ah (aW (ds2:=[0,0]) (qpt (bL (bo (aT (b4 (K:=K) (n:="tuple") rfl rfl T.isinstance0 rfl T.tuple0 (by decide +kernel) (by decide) (ac (i:=1) rfl (.inl rfl) rfl rfl rfl) (by decide) rfl rfl rfl rfl) (fun _=>rfl))) (bD (aO jV (ar (bd (K:=K) rfl) rfl T.len0 (by decide +kernel) (aa (ac (i:=1) rfl (.inl rfl) rfl rfl rfl) ad rfl) rfl (by decide) rfl rfl rfl) (cP rfl n8 rfl) (aU _))))) (ak (au dN rfl)) aP)
  (ak (au (ar (ff (K:=K) rfl rfl) rfl T.all0 (by decide +kernel) (aa (ai (d':=0) (b9 (cd:=3) (d:=3) (dsi:=[0,0]) (lk:=[1]) (BlkOkC.of (ns:=["step", "tongue"]) (js:=[none,some 0]) (N0:=kG) (sc0:=am iM) rfl rfl (by decide +kernel)) rfl (bj (K:=K) rfl (ac (i:=1) rfl (.inl rfl) rfl rfl rfl)) (fun _ _ _ _ _=>(aB (i:=0) (ds':=[0,0]) (show (["step", "tongue"]:List Str).Nodup by decide +kernel) rfl (.inl rfl) rfl (by decide) (by decide) (.inr rfl))) (fun _ _ _ _ _=>bn) (fun _ _ _ _ _=>(aR va hr rfl (aa (ac (i:=1) rfl (.inr (.inl rfl)) rfl rfl rfl) (aa (ac (i:=0) rfl (.inl rfl) rfl rfl rfl) ad rfl) rfl) rfl rfl rfl rfl rfl)) rfl rfl (by decide) rfl (fun _=>rfl)) (by decide)) ad rfl) rfl (by decide) rfl rfl rfl) rfl)))
abbrev hC:Stmt:=top 23
abbrev kc:List Str:=["left"]
theorem scword_ahead:FnScope kc ["left"] (am hC):=⟨rfl,rfl,rfl,by decide +kernel,rfl,by decide +kernel,by decide +kernel⟩
def hW:MS:=(ao (sIf (tV (e2 eqD (eN aV (ae (af 0) ag)) (eC (.int 0)))) dP bh)
 (aE (fh 0 (eC (.int 0)))))
def bQ:List D→Option (D × En):=fnF 0 [1] hW
theorem nE {k:Nat} (T:Bl mg)   (F:Fun K "word_ahead" "word_ahead" hC f fd):FnOk P w K mg base CX0 (k+1) f fd ["left"] (spF K [1] 0 bQ):=by
 have nd:=scword_ahead.nd
 refine F.okQ (N:=kc) (b:=hW) (J:=⟨[0],[1],0,[]⟩) (ds0:=[1]) scword_ahead rfl rfl rfl rfl fun cdv A outer s H E hr=>?_
 exact (ah (aW (ds2:=[1]) (e9 (ds0:=[0]) (aO (dt (K:=K) rfl hr.units) (ar (bd (K:=K) rfl) rfl T.len0 (by decide +kernel) (aa (ac (i:=0) rfl (.inl rfl) rfl rfl rfl) ad rfl) rfl (by decide) rfl rfl rfl) aj (aU _)) rfl) (ak dh) aP)
  (ak (au (lh (K:=K) (i:=0) (d:=1) rfl rfl (.inl rfl) rfl aj (by decide) rfl rfl rfl rfl rfl rfl rfl rfl) rfl)))
abbrev cC:Stmt:=top 25
abbrev dZ:List Str:=["text"]
theorem scis_number_text:FnScope dZ ["text"] (am cC):=⟨rfl,rfl,rfl,by decide +kernel,rfl,by decide +kernel,by decide +kernel⟩
def fK:ME:=(e2 qG (af 0) (eC (.str "0123456789")))
def eg:MS:=(ao (sIf (bOr (ck (tV (di leI leI (eC (.int 1)) (eN aV (ae (af 0) ag)) (eC (.int 80))))) (ck (tV (eN eK (ae (eLC true (b8 (af 0)) (gN 0) cY fK [none]) ag))))) (aE (eC (.bool false))) bh)
 (aE (eOr (e2 eqD (af 0) (eC (.str "0"))) (kx (eM eB (af 0) (ae (eC (.str "0")) ag))))))
def bM:List D→Option (D × En):=fnF 0 [0] eg
theorem kt {k:Nat} (T:Bl mg) {kK:Tok} (l6:mg "MOST_FIGURES"=some (.int 80 kK)) {pZ:Tok} (sw:mg "FIGURES"=some (.str "0123456789" pZ))  (F:Fun K "is_number_text" "is_number_text" cC f fd):FnOk P w K mg base CX0 (k+1) f fd ["text"] (spF K [0] 3 bM):=by
 have nd:=scis_number_text.nd
 refine F.okQ (N:=dZ) (b:=eg) (J:=⟨[],[0],3,[]⟩) (ds0:=[0]) scis_number_text rfl rfl rfl rfl fun cdv A outer s H E hr=>?_
 exact (ah (aW (ds2:=[0]) (qpt (bL (bo (la jU jU aj (ar (bd (K:=K) rfl) rfl T.len0 (by decide +kernel) (aa (ac (i:=0) rfl (.inl rfl) rfl rfl rfl) ad rfl) rfl (by decide) rfl rfl rfl) (cP rfl l6 rfl) (by with_unfolding_all rfl))) (bD (bo (aT (ar (ff (K:=K) rfl rfl) rfl T.all0 (by decide +kernel) (aa (ai (d':=0) (b9 (cd:=3) (d:=3) (dsi:=[0]) (lk:=[]) (BlkOkC.of (ns:=["sign"]) (js:=[none]) (N0:=dZ) (sc0:=am cC) rfl rfl (by decide +kernel)) rfl (bj (K:=K) rfl (ac (i:=0) rfl (.inl rfl) rfl rfl rfl)) (fun _ _ _ _ _=>(aB (i:=0) (ds':=[0]) (show (["sign"]:List Str).Nodup by decide +kernel) rfl (.inl rfl) rfl (by decide) (by decide) (.inr rfl))) (fun _ _ _ _ _=>bn) (fun _ _ _ _ _=>(b5 sG (ac (i:=0) rfl (.inl rfl) rfl rfl rfl) (qK rfl sw rfl) (by with_unfolding_all rfl))) rfl rfl (by decide) rfl (fun _=>rfl)) (by decide)) ad rfl) rfl (by decide) rfl rfl rfl) (fun _=>rfl)))))) (ak (au dN rfl)) aP)
  (ak (au (B6 (b5 (dt (K:=K) rfl hr.units) (ac (i:=0) rfl (.inl rfl) rfl rfl rfl) aq (aU _)) (dD (ou (bA (K:=K) rfl PySem.F.slot_str_startswith PySem.F.type_str_startswith gB gJ (ac (i:=0) rfl (.inl rfl) rfl rfl rfl) (aa (ai (d':=0) aq (by decide)) ad rfl) rfl rfl rfl rfl rfl rfl)))) rfl)))
abbrev fF:Stmt:=top 24
abbrev i9:List Str:=["left", "word"]
theorem scnumber_ahead:FnScope i9 ["left"] (am fF):=⟨rfl,rfl,rfl,by decide +kernel,rfl,by decide +kernel,by decide +kernel⟩
def fJ:MS:=(ao (aA 1 (ay bQ (bt 0 ag)))
 (ao (sIf (ck (tV (ay bM (ae (af 1) ag)))) dP bh)
 (aE (eN qF (ae (af 1) ag)))))
def bT:List D→Option (D × En):=fnF 1 [1] fJ
theorem lW {k:Nat} (T:Bl mg)  (hV:Kn P w K mg base k "word_ahead" ["left"] (spF K [1] 0 bQ)) (lG:Kn P w K mg base k "is_number_text" ["text"] (spF K [0] 3 bM)) (F:Fun K "number_ahead" "number_ahead" fF f fd):FnOk P w K mg base CX0 (k+1) f fd ["left"] (spF K [1] 3 bT):=by
 have nd:=scnumber_ahead.nd
 refine F.okQ (N:=i9) (b:=fJ) (J:=⟨[0],[1,0],3,[]⟩) (ds0:=[1,0]) scnumber_ahead rfl rfl rfl rfl fun cdv A outer s H E hr=>?_
 exact (ah (ax (i:=1) (d:=0) (ds':=[1,0]) nd rfl (.inl rfl) (aY hV hr rfl (aL (i:=0) rfl (.inl rfl) ad rfl rfl) rfl rfl rfl rfl) rfl (by decide) (by decide) rfl (.inl rfl))
  (ah (aW (ds2:=[1,0]) (bo (aT (aR lG hr rfl (aa (ac (i:=1) rfl (.inl rfl) rfl rfl rfl) ad rfl) rfl rfl rfl rfl rfl) (fun _=>rfl))) (ak dh) aP)
  (ak (au (ba BV rfl T.int0 (by decide +kernel) (aa (ac (i:=1) rfl (.inl rfl) rfl rfl rfl) ad rfl) rfl (by decide) rfl rfl rfl) rfl))))
abbrev iK:Stmt:=top 28
abbrev lC:List Str:=["step", "words", "part"]
theorem scshow_step:FnScope lC ["step"] (am iK):=⟨rfl,rfl,rfl,by decide +kernel,rfl,by decide +kernel,by decide +kernel⟩
def jE:MS:=(ao (dA (dF 1 (eN p5 (ae (eN aV (ae (af 2) ag)) ag))))
 (dA (jW 1 (af 2))))
def iY:MS:=(ao (aA 1 (bI ag))
 (ao (fu (b8 (af 0)) (gN 2) jE)
 (aE (eM joinD (eC (.str " ")) (ae (af 1) ag)))))
def cT:List D→Option (D × En):=fnF 2 [0] iY
theorem oR {k:Nat} (T:Bl mg)   (F:Fun K "show_step" "show_step" iK f fd):FnOk P w K mg base CX0 (k+1) f fd ["step"] (spF K [0] 3 cT):=by
 have nd:=scshow_step.nd
 refine F.okQ (N:=lC) (b:=iY) (J:=⟨[],[0,0,0],3,[]⟩) (ds0:=[0,0,0]) scshow_step rfl rfl rfl rfl fun cdv A outer s H E hr=>?_
 exact (ah (ax (i:=1) (d:=1) (ds':=[0,1,0]) nd rfl (.inl rfl) (ai (d':=1) (bm (d:=3) (c:=3) ad rfl rfl (by decide)) (by decide)) rfl (by decide) (by decide) rfl (.inl rfl))
  (ah (cE (ds1:=[0,1,0]) rfl (bj (K:=K) rfl (ac (i:=0) rfl (.inl rfl) rfl rfl rfl)) (aB (i:=2) (ds':=[0,1,0]) nd rfl (.inl rfl) rfl (by decide) (by decide) (.inl rfl)) (ah (bX (cF (K:=K) (i:=1) (d:=1) rfl rfl (.inl rfl) rfl (ai (d':=0) (ba pI rfl T.str0 (by decide +kernel) (aa (ai (d':=0) (ar (bd (K:=K) rfl) rfl T.len0 (by decide +kernel) (aa (ac (i:=2) rfl (.inl rfl) rfl rfl rfl) ad rfl) rfl (by decide) rfl rfl rfl) (by decide)) ad rfl) rfl (by decide) rfl rfl rfl) (by decide)) (by decide) rfl rfl rfl rfl rfl rfl rfl rfl) rfl)
  (ak (bX (sK (K:=K) (i:=1) rfl rfl (.inl rfl) rfl (ac (i:=2) rfl (.inl rfl) rfl rfl rfl) rfl rfl rfl rfl rfl rfl rfl) rfl))) PassesOwn.never (fun _=>rfl))
  (ak (au (iH (ds0:=[0,0,0]) (bA (K:=K) rfl PySem.F.slot_str_join PySem.F.type_str_join (dJ rfl) dL aq (aa (ac (i:=1) rfl (.inl rfl) rfl rfl rfl) ad rfl) rfl rfl rfl rfl rfl rfl) rfl) rfl))))
abbrev fQ:Stmt:=top 27
abbrev iQ:List Str:=["plan"]
theorem scshow_plan:FnScope iQ ["plan"] (am fQ):=⟨rfl,rfl,rfl,by decide +kernel,rfl,by decide +kernel,by decide +kernel⟩
def jJ:ME:=(ay cT (ae (af 0) ag))
def iZ:MS:=(aE (eM joinD (eC (.str "\n")) (ae (e2 jz (bI (ae (eC (.str "plan")) ag)) (eLC true (b8 (af 0)) (gN 0) cY jJ [none])) ag)))
def bY:List D→Option (D × En):=fnF 0 [0] iZ
theorem oS {k:Nat} (T:Bl mg)  (re:Kn P w K mg base k "show_step" ["step"] (spF K [0] 3 cT)) (F:Fun K "show_plan" "show_plan" fQ f fd):FnOk P w K mg base CX0 (k+1) f fd ["plan"] (spF K [0] 3 bY):=by
 have nd:=scshow_plan.nd
 refine F.okQ (N:=iQ) (b:=iZ) (J:=⟨[],[0],3,[]⟩) (ds0:=[0]) scshow_plan rfl rfl rfl rfl fun cdv A outer s H E hr=>?_
 exact (ak (au (bA (K:=K) rfl PySem.F.slot_str_join PySem.F.type_str_join (dJ rfl) dL aq (aa (ai (d':=0) (az (ii (K:=K) rfl) (bm (d:=3) (c:=3) (aa aq ad rfl) rfl rfl (by decide)) (b9 (cd:=3) (d:=3) (dsi:=[0]) (lk:=[]) (BlkOkC.of (ns:=["step"]) (js:=[none]) (N0:=iQ) (sc0:=am fQ) rfl rfl (by decide +kernel)) rfl (bj (K:=K) rfl (ac (i:=0) rfl (.inl rfl) rfl rfl rfl)) (fun _ _ _ _ _=>(aB (i:=0) (ds':=[0]) (show (["step"]:List Str).Nodup by decide +kernel) rfl (.inl rfl) rfl (by decide) (by decide) (.inr rfl))) (fun _ _ _ _ _=>bn) (fun _ _ _ _ _=>(aR re hr rfl (aa (ac (i:=0) rfl (.inl rfl) rfl rfl rfl) ad rfl) rfl rfl rfl rfl rfl)) rfl rfl (by decide) rfl (fun _=>rfl))) (by decide)) ad rfl) rfl rfl rfl rfl rfl rfl) rfl))
abbrev eY:Stmt:=top 31
abbrev hU:List Str:=["left", "many"]
theorem scpart_ahead:FnScope hU ["left"] (am eY):=⟨rfl,rfl,rfl,by decide +kernel,rfl,by decide +kernel,by decide +kernel⟩
def jb:ME:=(ay bQ (bt 1 ag))
def hX:MS:=(ao (aA 1 (ay bT (bt 0 ag)))
 (ao (sIf (tV (e2 gtI (af 1) (eN aV (ae (af 0) ag)))) dP bh)
 (aE (eN fY (ae (eLC false (dg (ae (af 1) ag)) (gN 0) cY jb [none,some 0]) ag)))))
def cx:List D→Option (D × En):=fnF 1 [1] hX
theorem nF {k:Nat} (T:Bl mg)  (m8:Kn P w K mg base k "number_ahead" ["left"] (spF K [1] 3 bT)) (hV:Kn P w K mg base k "word_ahead" ["left"] (spF K [1] 0 bQ)) (F:Fun K "part_ahead" "part_ahead" eY f fd):FnOk P w K mg base CX0 (k+1) f fd ["left"] (spF K [1] 0 cx):=by
 have nd:=scpart_ahead.nd
 refine F.okQ (N:=hU) (b:=hX) (J:=⟨[0],[1,0],0,[]⟩) (ds0:=[1,0]) scpart_ahead rfl rfl rfl rfl fun cdv A outer s H E hr=>?_
 exact (ah (ax (i:=1) (d:=0) (ds':=[1,0]) nd rfl (.inl rfl) (ai (d':=0) (aY m8 hr rfl (aL (i:=0) rfl (.inr (.inl rfl)) ad rfl rfl) rfl rfl rfl rfl) (by decide)) rfl (by decide) (by decide) rfl (.inl rfl))
  (ah (aW (ds2:=[1,0]) (e9 (ds0:=[0,0]) (aO jV (ac (i:=1) rfl (.inl rfl) rfl rfl rfl) (ar (bd (K:=K) rfl) rfl T.len0 (by decide +kernel) (aa (ac (i:=0) rfl (.inr (.inl rfl)) rfl rfl rfl) ad rfl) rfl (by decide) rfl rfl rfl) (aU _)) rfl) (ak dh) aP)
  (ak (au (ba (dC (K:=K) rfl) rfl T.tuple0 (by decide +kernel) (aa (ai (d':=0) (kw (cd:=0) (d:=1) (dsi:=[0,1]) (lk:=[1]) (BlkOkC.of (ns:=["place", "left"]) (js:=[none,some 0]) (N0:=hU) (sc0:=am eY) rfl rfl (by decide +kernel)) rfl (dM rfl T.range0 (aa (ac (i:=1) rfl (.inl rfl) rfl rfl rfl) ad rfl) rfl) (fun _ _ _ _ _=>(aB (i:=0) (ds':=[0,1]) (show (["place", "left"]:List Str).Nodup by decide +kernel) rfl (.inl rfl) rfl (by decide) (by decide) (.inr rfl))) (fun _ _ _ _ _=>bn) (fun _ _ _ _ _=>(aY hV hr rfl (aL (i:=1) rfl (.inr (.inl rfl)) ad rfl rfl) rfl rfl rfl rfl)) rfl rfl (by decide) rfl (fun _=>rfl)) (by decide)) ad rfl) rfl (by decide) rfl rfl rfl) rfl))))
abbrev kC:Stmt:=top 30
abbrev oI:List Str:=["text", "left", "parts"]
theorem scstep_of:FnScope oI ["text"] (am kC):=⟨rfl,rfl,rfl,by decide +kernel,rfl,by decide +kernel,by decide +kernel⟩
def lF:MS:=(dA (dF 2 (ay cx (bt 1 ag))))
def iJ:MT:=(tV (e2 gtI (eN aV (ae (af 1) ag)) (eC (.int 0))))
noncomputable def kJ:MS:=(ao (aA 1 (e2 eZ (af 0) (eC (.str " "))))
 (ao (aA 2 (bI ag))
 (ao (bW iJ lF)
 (aE (eN fY (ae (af 2) ag))))))
noncomputable def eP:List D→Option (D × En):=fnF 2 [0] kJ
theorem rL {k:Nat} (T:Bl mg)  (pb:Kn P w K mg base k "part_ahead" ["left"] (spF K [1] 0 cx)) (F:Fun K "step_of" "step_of" kC f fd):FnOk P w K mg base CX0 (k+1) f fd ["text"] (spF K [0] 0 eP):=by
 have nd:=scstep_of.nd
 refine F.okQ (N:=oI) (b:=kJ) (J:=⟨[],[0,0,0],0,[]⟩) (ds0:=[0,0,0]) scstep_of rfl rfl rfl rfl fun cdv A outer s H E hr=>?_
 exact (ah (ax (i:=1) (d:=1) (ds':=[0,1,0]) nd rfl (.inl rfl) (ai (d':=1) (lg (K:=K) rfl (ac (i:=0) rfl (.inl rfl) rfl rfl rfl) aq rfl rfl rfl rfl rfl) (by decide)) rfl (by decide) (by decide) rfl (.inl rfl))
  (ah (ax (i:=2) (d:=1) (ds':=[0,1,1]) nd rfl (.inl rfl) (ai (d':=1) (bm (d:=3) (c:=3) ad rfl rfl (by decide)) (by decide)) rfl (by decide) (by decide) rfl (.inl rfl))
  (ah (j9 (ds:=[0,1,1]) (e9 (ds0:=[0,0,1]) (aO jV (ar (bd (K:=K) rfl) rfl T.len0 (by decide +kernel) (aa (ac (i:=1) rfl (.inl rfl) rfl rfl rfl) ad rfl) rfl (by decide) rfl rfl rfl) aj (aU _)) rfl) (ak (bX (cF (K:=K) (i:=2) (d:=1) rfl rfl (.inl rfl) rfl (aY pb hr rfl (aL (i:=1) rfl (.inl rfl) ad rfl rfl) rfl rfl rfl rfl) (by decide) rfl rfl rfl rfl rfl rfl rfl rfl) rfl)) PassesOwn.never)
  (ak (au (ba (dC (K:=K) rfl) rfl T.tuple0 (by decide +kernel) (aa (ij (ds0:=[0,1,0]) (ac (p:=false) (i:=2) rfl (.inl rfl) rfl rfl rfl) rfl) ad rfl) rfl (by decide) rfl rfl rfl) rfl)))))
abbrev fR:Stmt:=top 29
abbrev iR:List Str:=["tongue", "text", "lines", "plan"]
theorem scread_plan:FnScope iR ["tongue", "text"] (am fR):=⟨rfl,rfl,rfl,by decide +kernel,rfl,by decide +kernel,by decide +kernel⟩
noncomputable def jK:ME:=(ay eP (ae (af 0) ag))
noncomputable def i3:MS:=(ao (sIf (ck (tV (e1 (aH "str") (af 1)))) dP bh)
 (ao (aA 2 (e2 eZ (af 1) (eC (.str "\n"))))
 (ao (aA 3 (eN fY (ae (eLC true (b8 (eSl lr (af 2) (gA (eC (.int 1))) iz)) (gN 0) cY jK [none]) ag)))
 (ao (sIf (bOr (tV (e2 neD (e2 ixA (af 2) (eC (.int 0))) (eC (.str "plan")))) (ck (tV (ay cI (ae (af 0) (ae (af 3) ag)))))) dP bh)
 (aE (af 3))))))
noncomputable def bZ:List D→Option (D × En):=fnF 2 [0,0] i3
theorem oT {k:Nat} (T:Bl mg)  (u8:Kn P w K mg base k "step_of" ["text"] (spF K [0] 0 eP)) (vb:Kn P w K mg base k "is_plan" ["tongue", "thing"] (spF K [0,0] 3 cI)) (F:Fun K "read_plan" "read_plan" fR f fd):FnOk P w K mg base CX0 (k+1) f fd ["tongue", "text"] (spF K [0,0] 0 bZ):=by
 have nd:=scread_plan.nd
 refine F.okQ (N:=iR) (b:=i3) (J:=⟨[],[0,0,0,0],0,[]⟩) (ds0:=[0,0,0,0]) scread_plan rfl rfl rfl rfl fun cdv A outer s H E hr=>?_
 exact (ah (aW (ds2:=[0,0,0,0]) (bo (aT (b4 (K:=K) (n:="str") rfl rfl T.isinstance0 rfl T.str0 (by decide +kernel) (by decide) (ac (i:=1) rfl (.inl rfl) rfl rfl rfl) (by decide) rfl rfl rfl rfl) (fun _=>rfl))) (ak dh) aP)
  (ah (ax (i:=2) (d:=0) (ds':=[0,0,0,0]) nd rfl (.inl rfl) (ai (d':=0) (lg (K:=K) rfl (ac (i:=1) rfl (.inl rfl) rfl rfl rfl) aq rfl rfl rfl rfl rfl) (by decide)) rfl (by decide) (by decide) rfl (.inl rfl))
  (ah (ax (i:=3) (d:=0) (ds':=[0,0,0,0]) nd rfl (.inl rfl) (ba (dC (K:=K) rfl) rfl T.tuple0 (by decide +kernel) (aa (ai (d':=0) (b9 (cd:=0) (d:=1) (dsi:=[0]) (lk:=[]) (BlkOkC.of (ns:=["line"]) (js:=[none]) (N0:=iR) (sc0:=am fR) rfl rfl (by decide +kernel)) rfl (bj (K:=K) rfl (ai (d':=0) (fP (l8 (K:=K) rfl) (ac (i:=2) rfl (.inl rfl) rfl rfl rfl) (gE aj) gH) (by decide))) (fun _ _ _ _ _=>(aB (i:=0) (ds':=[0]) (show (["line"]:List Str).Nodup by decide +kernel) rfl (.inl rfl) rfl (by decide) (by decide) (.inr rfl))) (fun _ _ _ _ _=>bn) (fun _ _ _ _ _=>(aR u8 hr rfl (aa (ac (i:=0) rfl (.inl rfl) rfl rfl rfl) ad rfl) rfl rfl rfl rfl rfl)) rfl rfl (by decide) rfl (fun _=>rfl)) (by decide)) ad rfl) rfl (by decide) rfl rfl rfl) rfl (by decide) (by decide) rfl (.inl rfl))
  (ah (aW (ds2:=[0,0,0,0]) (qpt (bL (aO (lb (K:=K) rfl hr.units) (cO (gI (K:=K) rfl) (ac (i:=2) rfl (.inl rfl) rfl rfl rfl) aj (fun _ _=>rfl)) aq (aU _)) (bD (bo (aT (aR vb hr rfl (aa (ac (i:=0) rfl (.inl rfl) rfl rfl rfl) (aa (ac (i:=3) rfl (.inl rfl) rfl rfl rfl) ad rfl) rfl) rfl rfl rfl rfl rfl) (fun _=>rfl)))))) (ak dh) aP)
  (ak (au (ac (i:=3) rfl (.inl rfl) rfl rfl rfl) rfl))))))
abbrev jD:Stmt:=top 33
abbrev mV:List Str:=["_law_script", "_law_first"]
theorem sc_law_pen:FnScope mV ["_law_script", "_law_first"] (am jD):=⟨rfl,rfl,rfl,by decide +kernel,rfl,by decide +kernel,by decide +kernel⟩
def ce:MS:=(aE (jX [((eC (.str "script")),(af 0)),((eC (.str "at")),(af 1)),((eC (.str "left")),(eC (.int 0)))]))
def F_law_pen:List D→Option (D × En):=fnF 0 [0,0] ce
theorem qg {k:Nat} (T:Bl mg)   (F:Fun K "_law_pen" "_law_pen" jD f fd):FnOk P w K mg base CX0 (k+1) f fd ["_law_script", "_law_first"] (spF K [0,0] 1 F_law_pen):=by
 have nd:=sc_law_pen.nd
 refine F.okQ (N:=mV) (b:=ce) (J:=⟨[],[0,0],1,[]⟩) (ds0:=[0,0]) sc_law_pen rfl rfl rfl rfl fun cdv A outer s H E hr=>?_
 exact (ak (au (sL (fs:=[((eC (.str "script")),(af 0)),((eC (.str "at")),(af 1)),((eC (.str "left")),(eC (.int 0)))]) (jr aq (ac (i:=0) rfl (.inl rfl) rfl rfl rfl) (jr aq (ac (i:=1) rfl (.inl rfl) rfl rfl rfl) (jr aq (ai (d':=0) aj (by decide)) uD))) rfl rfl (fun z=>nomatch z) (by decide)) rfl))
abbrev hR:Stmt:=top 34
abbrev ke:List Str:=["_law_cell", "_law_k", "_law_one", "_law_two"]
theorem sc_law_mixed:FnScope ke ["_law_cell", "_law_k"] (am hR):=⟨rfl,rfl,rfl,by decide +kernel,rfl,by decide +kernel,by decide +kernel⟩
def dq:MS:=(ao (aA 2 (e2 bp (e2 bC (e2 br (e2 br (e2 bp (af 0) (eC (.int 2147483629))) (e2 bC (eC (.int 40503)) (af 1))) (eC (.int 24691))) (eC (.int 48271))) (eC (.int 2147483647))))
 (ao (aA 3 (e2 bp (e2 br (e2 br (e2 bC (af 2) (af 2)) (e2 bC (eC (.int 69621)) (af 2))) (af 1)) (eC (.int 2147483629))))
 (aE (e2 cj (e2 bp (e2 br (e2 br (e2 bC (af 3) (af 3)) (e2 bC (eC (.int 16807)) (af 3))) (e2 bC (eC (.int 31)) (af 1))) (eC (.int 1073741789))) (eC (.int 64))))))
def bR:List D→Option (D × En):=fnF 2 [0,0] dq
theorem nH {k:Nat} (T:Bl mg)   (F:Fun K "_law_mixed" "_law_mixed" hR f fd):FnOk P w K mg base CX0 (k+1) f fd ["_law_cell", "_law_k"] (spF K [0,0] 3 bR):=by
 have nd:=sc_law_mixed.nd
 refine F.okQ (N:=ke) (b:=dq) (J:=⟨[],[0,0,0,0],3,[]⟩) (ds0:=[0,0,0,0]) sc_law_mixed rfl rfl rfl rfl fun cdv A outer s H E hr=>?_
 exact (ah (ax (i:=2) (d:=0) (ds':=[0,0,0,0]) nd rfl (.inl rfl) (ai (d':=0) (az ge (az fc (az cr (az cr (az ge (ac (i:=0) rfl (.inl rfl) rfl rfl rfl) aj) (az fc aj (ac (i:=1) rfl (.inl rfl) rfl rfl rfl))) aj) aj) aj) (by decide)) rfl (by decide) (by decide) rfl (.inl rfl))
  (ah (ax (i:=3) (d:=0) (ds':=[0,0,0,0]) nd rfl (.inl rfl) (ai (d':=0) (az ge (az cr (az cr (az fc (ac (i:=2) rfl (.inl rfl) rfl rfl rfl) (ac (i:=2) rfl (.inl rfl) rfl rfl rfl)) (az fc aj (ac (i:=2) rfl (.inl rfl) rfl rfl rfl))) (ac (i:=1) rfl (.inl rfl) rfl rfl rfl)) aj) (by decide)) rfl (by decide) (by decide) rfl (.inl rfl))
  (ak (au (az pJ (az ge (az cr (az cr (az fc (ac (i:=3) rfl (.inl rfl) rfl rfl rfl) (ac (i:=3) rfl (.inl rfl) rfl rfl rfl)) (az fc aj (ac (i:=3) rfl (.inl rfl) rfl rfl rfl))) (az fc aj (ac (i:=1) rfl (.inl rfl) rfl rfl rfl))) aj) aj) rfl))))
abbrev iP:Stmt:=top 35
abbrev lE:List Str:=["_law_pen_here", "_law_most", "_law_k", "_law_script", "_law_cell", "_law_got"]
theorem sc_law_take:FnScope lE ["_law_pen_here", "_law_most"] (am iP):=⟨rfl,rfl,rfl,by decide +kernel,rfl,by decide +kernel,by decide +kernel⟩
def fV:MS:=(ao (aA 2 (bB 0 (eC (.str "at"))))
 (ao (aA 3 (bB 0 (eC (.str "script"))))
 (ao (sIf (tV (e2 eqD (bB 0 (eC (.str "left"))) (eC (.int 0)))) (ao (cA 0 (eC (.str "at")) (e2 br (af 2) (eC (.int 1))))
 (ao (aA 4 (eC (.int 0)))
 (ao (sIf (tV (e2 gtI (eN aV (ae (af 3) ag)) (eC (.int 0)))) (aA 4 (e2 ixA (af 3) (e2 bp (af 2) (eN aV (ae (af 3) ag))))) bh)
 (ao (sIf (bOr (tV (e2 geI (af 2) (eN aV (ae (af 3) ag)))) (tV (e2 ltI (eN gY (ae (af 4) ag)) (e2 kl (eC (.int 10)) (eC (.int 18)))))) (aE (e2 bp (ay bR (ae (af 4) (ae (af 2) ag))) (af 1))) bh)
 (cA 0 (eC (.str "left")) (eN gY (ae (af 4) ag))))))) bh)
 (ao (aA 5 (e2 bp (bB 0 (eC (.str "left"))) (af 1)))
 (ao (cA 0 (eC (.str "left")) (e2 cj (bB 0 (eC (.str "left"))) (af 1)))
 (aE (af 5)))))))
def aI:List D→Option (D × En):=fnF 4 [1,0] fV
theorem oV {k:Nat} (T:Bl mg)  (pd:Kn P w K mg base k "_law_mixed" ["_law_cell", "_law_k"] (spF K [0,0] 3 bR)) (F:Fun K "_law_take" "_law_take" iP f fd):FnOk P w K mg base CX0 (k+1) f fd ["_law_pen_here", "_law_most"] (spF K [1,0] 0 aI):=by
 have nd:=sc_law_take.nd
 refine F.okQ (N:=lE) (b:=fV) (J:=⟨[0],[1,0,0,0,0,0],0,[]⟩) (ds0:=[1,0,0,0,0,0]) sc_law_take rfl rfl rfl rfl fun cdv A outer s H E hr=>?_
 exact (ah (ax (i:=2) (d:=0) (ds':=[1,0,0,0,0,0]) nd rfl (.inl rfl) (dQ (i:=0) (gD hr) rfl (.inl rfl) rfl aq (fun _ _=>rfl) rfl rfl) rfl (by decide) (by decide) rfl (.inl rfl))
  (ah (ax (i:=3) (d:=0) (ds':=[1,0,0,0,0,0]) nd rfl (.inl rfl) (dQ (i:=0) (gD hr) rfl (.inl rfl) rfl aq (fun _ _=>rfl) rfl rfl) rfl (by decide) (by decide) rfl (.inl rfl))
  (ah (aW (ds2:=[1,0,0,0,0,0]) (aO (dt (K:=K) rfl hr.units) (dQ (i:=0) (gD hr) rfl (.inl rfl) rfl aq (fun _ _=>rfl) rfl rfl) aj (aU _)) (ah (iG (i:=0) (gD hr) rfl (.inl rfl) (ai (d':=0) (az cr (ac (i:=2) rfl (.inl rfl) rfl rfl rfl) aj) (by decide)) aq rfl rfl rfl rfl)
  (ah (ax (i:=4) (d:=0) (ds':=[1,0,0,0,0,0]) nd rfl (.inl rfl) (ai (d':=0) aj (by decide)) rfl (by decide) (by decide) rfl (.inl rfl))
  (ah (aW (ds2:=[1,0,0,0,0,0]) (aO jV (ar (bd (K:=K) rfl) rfl T.len0 (by decide +kernel) (aa (ac (i:=3) rfl (.inl rfl) rfl rfl rfl) ad rfl) rfl (by decide) rfl rfl rfl) aj (aU _)) (ak (ax (i:=4) (d:=0) (ds':=[1,0,0,0,0,0]) nd rfl (.inl rfl) (cO (gI (K:=K) rfl) (ac (i:=3) rfl (.inl rfl) rfl rfl rfl) (az ge (ac (i:=2) rfl (.inl rfl) rfl rfl rfl) (ar (bd (K:=K) rfl) rfl T.len0 (by decide +kernel) (aa (ac (i:=3) rfl (.inl rfl) rfl rfl rfl) ad rfl) rfl (by decide) rfl rfl rfl)) (fun _ _=>rfl)) rfl (by decide) (by decide) rfl (.inl rfl))) aP)
  (ah (aW (ds2:=[1,0,0,0,0,0]) (qpt (bL (aO G0 (ac (i:=2) rfl (.inl rfl) rfl rfl rfl) (ar (bd (K:=K) rfl) rfl T.len0 (by decide +kernel) (aa (ac (i:=3) rfl (.inl rfl) rfl rfl rfl) ad rfl) rfl (by decide) rfl rfl rfl) (aU _)) (bD (aO AC (ar sH rfl T.abs0 (by decide +kernel) (aa (ac (i:=4) rfl (.inl rfl) rfl rfl rfl) ad rfl) rfl (by decide) rfl rfl rfl) (az FE aj aj) (aU _))))) (ak (au (ai (d':=0) (az ge (aR pd hr rfl (aa (ac (i:=4) rfl (.inl rfl) rfl rfl rfl) (aa (ac (i:=2) rfl (.inl rfl) rfl rfl rfl) ad rfl) rfl) rfl rfl rfl rfl rfl) (ac (i:=1) rfl (.inl rfl) rfl rfl rfl)) (by decide)) rfl)) aP)
  (ak (iG (i:=0) (gD hr) rfl (.inl rfl) (ai (d':=0) (ar sH rfl T.abs0 (by decide +kernel) (aa (ac (i:=4) rfl (.inl rfl) rfl rfl rfl) ad rfl) rfl (by decide) rfl rfl rfl) (by decide)) aq rfl rfl rfl rfl)))))) aP)
  (ah (ax (i:=5) (d:=0) (ds':=[1,0,0,0,0,0]) nd rfl (.inl rfl) (ai (d':=0) (az ge (dQ (i:=0) (gD hr) rfl (.inl rfl) rfl aq (fun _ _=>rfl) rfl rfl) (ac (i:=1) rfl (.inl rfl) rfl rfl rfl)) (by decide)) rfl (by decide) (by decide) rfl (.inl rfl))
  (ah (iG (i:=0) (gD hr) rfl (.inl rfl) (ai (d':=0) (az pJ (dQ (i:=0) (gD hr) rfl (.inl rfl) rfl aq (fun _ _=>rfl) rfl rfl) (ac (i:=1) rfl (.inl rfl) rfl rfl rfl)) (by decide)) aq rfl rfl rfl rfl)
  (ak (au (ac (i:=5) rfl (.inl rfl) rfl rfl rfl) rfl)))))))
abbrev dX:Stmt:=top 36
abbrev gg:List Str:=["_law_pen_here", "_law_many", "_law_signs", "_law_left", "_law_kinds", "_law_size"]
theorem sc_law_tongue:FnScope gg ["_law_pen_here", "_law_many"] (am dX):=⟨rfl,rfl,rfl,by decide +kernel,rfl,by decide +kernel,by decide +kernel⟩
def eQ:ME:=(fh 2 (ay aI (bt 1 (ae (eN aV (ae (af 2) ag)) ag))))
def eL:MS:=(ao (aA 5 (e2 br (eC (.int 1)) (ay aI (bt 0 (ae (eN qk (ae (eC (.int 6)) (ae (eN aV (ae (af 3) ag)) ag))) ag)))))
 (ao (aA 5 (eN ql (ae (af 5) (ae (e2 jf (eN aV (ae (af 3) ag)) (e2 bC (eC (.int 6)) (e2 jf (eC (.int 3)) (eN aV (ae (af 4) ag))))) ag))))
 (ao (dA (dF 4 (eM joinD (eC (.str "")) (ae (eSl lr (af 3) iz (gA (af 5))) ag))))
 (aA 3 (eSl lr (af 3) (gA (af 5)) iz)))))
def cS:MT:=(tV (e2 neD (af 3) (bI ag)))
noncomputable def gq:MS:=(ao (aA 2 (eN iD (ae (eC (.str "!\"#$&'()*+,-./0123456789:;<=>?\x40[\\]^_`{|}~")) ag)))
 (ao (aA 2 (e2 jz (af 2) (eN iD (ae (eC (.str "ABCDEFGHIJKLMNOPQRSTUVWXYZabcdefghijklmnopqrstuvwxyz")) ag))))
 (ao (aA 3 (eLC false (dg (ae (af 1) ag)) (gN 0) cY eQ [none,some 0,some 2]))
 (ao (aA 4 (bI ag))
 (ao (bW cS eL)
 (aE (eN fY (ae (af 4) ag))))))))
noncomputable def cc:List D→Option (D × En):=fnF 4 [1,0] gq
theorem m6 {k:Nat} (T:Bl mg)  (bc:Kn P w K mg base k "_law_take" ["_law_pen_here", "_law_most"] (spF K [1,0] 0 aI)) (F:Fun K "_law_tongue" "_law_tongue" dX f fd):FnOk P w K mg base CX0 (k+1) f fd ["_law_pen_here", "_law_many"] (spF K [1,0] 0 cc):=by
 have nd:=sc_law_tongue.nd
 refine F.okQ (N:=gg) (b:=gq) (J:=⟨[0],[1,0,0,0,0,0],0,[]⟩) (ds0:=[1,0,0,0,0,0]) sc_law_tongue rfl rfl rfl rfl fun cdv A outer s H E hr=>?_
 exact (ah (ax (i:=2) (d:=0) (ds':=[1,0,0,0,0,0]) nd rfl (.inr rfl) (ai (d':=0) (ba (l7 (K:=K) rfl rfl) rfl T.list0 (by decide +kernel) (aa (ai (d':=0) aq (by decide)) ad rfl) rfl (by decide) rfl rfl rfl) (by decide)) rfl (by decide) (by decide) rfl (.inl rfl))
  (ah (ax (i:=2) (d:=1) (ds':=[1,0,1,0,0,0]) nd rfl (.inr rfl) (az (ii (K:=K) rfl) (ac (i:=2) rfl (.inr (.inl rfl)) rfl rfl rfl) (ba (l7 (K:=K) rfl rfl) rfl T.list0 (by decide +kernel) (aa (ai (d':=0) aq (by decide)) ad rfl) rfl (by decide) rfl rfl rfl)) rfl (by decide) (by decide) rfl (.inl rfl))
  (ah (mJ (ds1:=[1,0,1,0,0,0]) (o8 (i:=3) (ds':=[1,0,1,1,0,0]) (cd:=0) (d:=1) (dsi:=[0,1,1]) (lk:=[1,2]) nd rfl rfl (BlkOkC.of (ns:=["_law_k", "_law_pen_here", "_law_signs"]) (js:=[none,some 0,some 2]) (N0:=gg) (sc0:=am dX) rfl rfl (by decide +kernel)) rfl (dM rfl T.range0 (aa (ac (i:=1) rfl (.inl rfl) rfl rfl rfl) ad rfl) rfl) (fun _ _ _ _ _=>(aB (i:=0) (ds':=[0,1,1]) (show (["_law_k", "_law_pen_here", "_law_signs"]:List Str).Nodup by decide +kernel) rfl (.inl rfl) rfl (by decide) (by decide) (.inr rfl))) (fun _ _ _ _ _=>bn) (fun _ _ _ _ _=>(lh (K:=K) (i:=2) (d:=1) rfl rfl (.inr (.inl rfl)) rfl (aY bc hr rfl (aL (i:=1) rfl (.inr (.inl rfl)) (aa (ai (d':=0) (iH (ds0:=[0,1,0]) (ar (bd (K:=K) rfl) rfl T.len0 (by decide +kernel) (aa (ac (i:=2) rfl (.inr (.inl rfl)) rfl rfl rfl) ad rfl) rfl (by decide) rfl rfl rfl) rfl) (by decide)) ad rfl) rfl rfl) rfl rfl rfl rfl) (by decide) rfl rfl rfl rfl rfl rfl rfl rfl)) rfl rfl rfl (by decide) rfl (by decide) (by decide) rfl (fun _=>rfl)) rfl)
  (ah (ax (i:=4) (d:=1) (ds':=[1,0,1,0,1,0]) nd rfl (.inl rfl) (ai (d':=1) (bm (d:=3) (c:=3) ad rfl rfl (by decide)) (by decide)) rfl (by decide) (by decide) rfl (.inl rfl))
  (ah (j9 (ds:=[1,0,1,0,1,0]) (aO (lb (K:=K) rfl hr.units) (ac (i:=3) rfl (.inl rfl) rfl rfl rfl) (bm (d:=3) (c:=3) ad rfl rfl (by decide)) (aU _)) (ah (ax (i:=5) (d:=0) (ds':=[1,0,1,0,1,0]) nd rfl (.inl rfl) (ai (d':=0) (az cr aj (aY bc hr rfl (aL (i:=0) rfl (.inr (.inl rfl)) (aa (ai (d':=0) (ar (BT rfl) rfl T.min0 (by decide +kernel) (aa (ai (d':=0) aj (by decide)) (aa (ai (d':=0) (ar (bd (K:=K) rfl) rfl T.len0 (by decide +kernel) (aa (ac (i:=3) rfl (.inl rfl) rfl rfl rfl) ad rfl) rfl (by decide) rfl rfl rfl) (by decide)) ad rfl) rfl) rfl (by decide) rfl rfl rfl) (by decide)) ad rfl) rfl rfl) rfl rfl rfl rfl)) (by decide)) rfl (by decide) (by decide) rfl (.inl rfl))
  (ah (ax (i:=5) (d:=0) (ds':=[1,0,1,0,1,0]) nd rfl (.inl rfl) (ai (d':=0) (iH (ds0:=[1,0,1,0,0,0]) (ar (BU rfl) rfl T.max0 (by decide +kernel) (aa (ac (i:=5) rfl (.inl rfl) rfl rfl rfl) (aa (ai (d':=0) (az oo (ar (bd (K:=K) rfl) rfl T.len0 (by decide +kernel) (aa (ac (i:=3) rfl (.inl rfl) rfl rfl rfl) ad rfl) rfl (by decide) rfl rfl rfl) (az fc aj (az oo aj (ar (bd (K:=K) rfl) rfl T.len0 (by decide +kernel) (aa (ac (i:=4) rfl (.inl rfl) rfl rfl rfl) ad rfl) rfl (by decide) rfl rfl rfl)))) (by decide)) ad rfl) rfl) rfl (by decide) rfl rfl rfl) rfl) (by decide)) rfl (by decide) (by decide) rfl (.inl rfl))
  (ah (bX (cF (K:=K) (i:=4) (d:=1) rfl rfl (.inl rfl) rfl (ai (d':=0) (bA (K:=K) rfl PySem.F.slot_str_join PySem.F.type_str_join (dJ rfl) dL aq (aa (ai (d':=0) (fP (l8 (K:=K) rfl) (ac (i:=3) rfl (.inl rfl) rfl rfl rfl) gH (gE (ac (i:=5) rfl (.inl rfl) rfl rfl rfl))) (by decide)) ad rfl) rfl rfl rfl rfl rfl rfl) (by decide)) (by decide) rfl rfl rfl rfl rfl rfl rfl rfl) rfl)
  (ak (ax (i:=3) (d:=0) (ds':=[1,0,1,0,1,0]) nd rfl (.inl rfl) (ai (d':=0) (fP (l8 (K:=K) rfl) (ac (i:=3) rfl (.inl rfl) rfl rfl rfl) (gE (ac (i:=5) rfl (.inl rfl) rfl rfl rfl)) gH) (by decide)) rfl (by decide) (by decide) rfl (.inl rfl)))))) PassesOwn.never)
  (ak (au (ba (dC (K:=K) rfl) rfl T.tuple0 (by decide +kernel) (aa (ij (ds0:=[1,0,1,0,0,0]) (ac (p:=false) (i:=4) rfl (.inl rfl) rfl rfl rfl) rfl) ad rfl) rfl (by decide) rfl rfl rfl) rfl)))))))
abbrev dG:Stmt:=top 37
abbrev gh:List Str:=["_law_pen_here", "_law_some"]
theorem sc_law_any_tongue:FnScope gh ["_law_pen_here"] (am dG):=⟨rfl,rfl,rfl,by decide +kernel,rfl,by decide +kernel,by decide +kernel⟩
noncomputable def dH:MS:=(ao (aA 1 (bI (ae (bS (ae (eC (.str "-")) ag)) (ae (bS (ae (eC (.str "0")) (ae (eC (.str "1")) (ae (eC (.str "-")) ag)))) (ae (bS (ae (eC (.str "long")) (ae (eC (.str "-01")) ag))) (ae (bS (ae (eC (.str "ends")) (ae (eC (.str "012")) (ae (eC (.str "-")) ag)))) (ae (bS (ae (eC (.str "not")) (ae (eC (.str "hbi")) (ae (eC (.str "0-e")) (ae (eC (.str "|")) ag))))) (ae (bS (ae (eC (.str "1")) ag)) ag))))))))
 (ao (dA (dF 1 (bS (ae (eC (.str "apr")) (ae (eC (.str "t-0123")) (ae (eC (.str "'\"\\")) ag))))))
 (ao (sIf (tV (e2 eqD (ay aI (bt 0 (ae (eC (.int 4)) ag))) (eC (.int 0)))) (aE (dS 1 (ay aI (bt 0 (ae (eC (.int 7)) ag))))) bh)
 (aE (ay cc (bt 0 (ae (e2 ixA (bI (ae (eC (.int 2)) (ae (eC (.int 3)) (ae (eC (.int 4)) (ae (eC (.int 1)) (ae (eC (.int 6)) (ae (eC (.int 12)) (ae (eC (.int 5)) (ae (e2 br (eC (.int 1)) (ay aI (bt 0 (ae (eC (.int 12)) ag)))) ag))))))))) (ay aI (bt 0 (ae (eC (.int 8)) ag)))) ag)))))))
noncomputable def bE:List D→Option (D × En):=fnF 1 [1] dH
theorem jZ {k:Nat} (T:Bl mg)  (oM:Kn P w K mg base k "_law_tongue" ["_law_pen_here", "_law_many"] (spF K [1,0] 0 cc)) (bc:Kn P w K mg base k "_law_take" ["_law_pen_here", "_law_most"] (spF K [1,0] 0 aI)) (F:Fun K "_law_any_tongue" "_law_any_tongue" dG f fd):FnOk P w K mg base CX0 (k+1) f fd ["_law_pen_here"] (spF K [1] 0 bE):=by
 have nd:=sc_law_any_tongue.nd
 refine F.okQ (N:=gh) (b:=dH) (J:=⟨[0],[1,0],0,[]⟩) (ds0:=[1,0]) sc_law_any_tongue rfl rfl rfl rfl fun cdv A outer s H E hr=>?_
 exact (ah (ax (i:=1) (d:=1) (ds':=[1,1]) nd rfl (.inl rfl) (ai (d':=1) (bm (d:=3) (c:=3) (aa (be (d:=3) (c:=3) (aa aq ad rfl) rfl rfl) (aa (be (d:=3) (c:=3) (aa aq (aa aq (aa aq ad rfl) rfl) rfl) rfl rfl) (aa (be (d:=3) (c:=3) (aa aq (aa aq ad rfl) rfl) rfl rfl) (aa (be (d:=3) (c:=3) (aa aq (aa aq (aa aq ad rfl) rfl) rfl) rfl rfl) (aa (be (d:=3) (c:=3) (aa aq (aa aq (aa aq (aa aq ad rfl) rfl) rfl) rfl) rfl rfl) (aa (be (d:=3) (c:=3) (aa aq ad rfl) rfl rfl) ad rfl) rfl) rfl) rfl) rfl) rfl) rfl rfl (by decide)) (by decide)) rfl (by decide) (by decide) rfl (.inl rfl))
  (ah (bX (cF (K:=K) (i:=1) (d:=1) rfl rfl (.inl rfl) rfl (ai (d':=0) (be (d:=3) (c:=3) (aa aq (aa aq (aa aq ad rfl) rfl) rfl) rfl rfl) (by decide)) (by decide) rfl rfl rfl rfl rfl rfl rfl rfl) rfl)
  (ah (aW (ds2:=[1,1]) (aO (dt (K:=K) rfl hr.units) (aY bc hr rfl (aL (i:=0) rfl (.inl rfl) (aa (ai (d':=0) aj (by decide)) ad rfl) rfl rfl) rfl rfl rfl rfl) aj (aU _)) (ak (au (uN (K:=K) (i:=1) rfl rfl (.inl rfl) rfl (aY bc hr rfl (aL (i:=0) rfl (.inl rfl) (aa (ai (d':=0) aj (by decide)) ad rfl) rfl rfl) rfl rfl rfl rfl) (fun _ _=>rfl) rfl rfl) rfl)) aP)
  (ak (au (aY oM hr rfl (aL (i:=0) rfl (.inl rfl) (aa (cO (gI (K:=K) rfl) (bm (d:=3) (c:=3) (aa aj (aa aj (aa aj (aa aj (aa aj (aa aj (aa aj (aa (az cr aj (aY bc hr rfl (aL (i:=0) rfl (.inl rfl) (aa (ai (d':=0) aj (by decide)) ad rfl) rfl rfl) rfl rfl rfl rfl)) ad rfl) rfl) rfl) rfl) rfl) rfl) rfl) rfl) rfl rfl (by decide)) (aY bc hr rfl (aL (i:=0) rfl (.inl rfl) (aa (ai (d':=0) aj (by decide)) ad rfl) rfl rfl) rfl rfl rfl rfl) (fun _ _=>rfl)) ad rfl) rfl rfl) rfl rfl rfl rfl) rfl)))))
abbrev dY:Stmt:=top 38
abbrev fU:List Str:=["_law_pen_here", "_law_letters", "_law_any_words", "_law_words", "_law_turn", "_law_word", "_law_beside"]
theorem sc_law_part:FnScope fU ["_law_pen_here", "_law_letters", "_law_any_words"] (am dY):=⟨rfl,rfl,rfl,by decide +kernel,rfl,by decide +kernel,by decide +kernel⟩
def gj:ME:=(e2 ixT (af 2) (ay aI (bt 1 (ae (eN aV (ae (af 2) ag)) ag))))
def jB:MT:=(bOr (tV (eM eB (af 0) (ae (af 1) ag))) (tV (eM eB (af 1) (ae (af 0) ag))))
def oN:ME:=(eSc (af 0))
def jI:MS:=(ao (aA 5 (eM joinD (eC (.str "")) (ae (eLC false (dg (ae (e2 br (eC (.int 1)) (ay aI (bt 0 (ae (eC (.int 6)) ag)))) ag)) (gN 0) cY gj [none,some 0,some 1]) ag)))
 (ao (aA 6 (eLC true (b8 (af 3)) (gN 0) jB oN [none,some 5]))
 (sIf (fC (tV (e2 nJ (af 5) (af 3))) (fC (tV (e2 ltI (eN aV (ae (af 3) ag)) (eC (.int 12)))) (bOr (tV (af 2)) (tV (e2 eqD (af 6) (bI ag)))))) (dA (dF 3 (af 5))) bh)))
def i6:MS:=(ao (aA 3 (bI ag))
 (ao (fu (dg (ae (e2 ixA (bI (ae (eC (.int 0)) (ae (eC (.int 1)) (ae (eC (.int 2)) (ae (eC (.int 3)) (ae (eC (.int 5)) (ae (eC (.int 12)) (ae (eC (.int 14)) (ae (eC (.int 2)) ag))))))))) (ay aI (bt 0 (ae (eC (.int 8)) ag)))) ag)) (gN 4) jI)
 (aE (eN fY (ae (af 3) ag)))))
def cW:List D→Option (D × En):=fnF 4 [1,0,0] i6
theorem oX {k:Nat} (T:Bl mg)  (bc:Kn P w K mg base k "_law_take" ["_law_pen_here", "_law_most"] (spF K [1,0] 0 aI)) (F:Fun K "_law_part" "_law_part" dY f fd):FnOk P w K mg base CX0 (k+1) f fd ["_law_pen_here", "_law_letters", "_law_any_words"] (spF K [1,0,0] 0 cW):=by
 have nd:=sc_law_part.nd
 refine F.okQ (N:=fU) (b:=i6) (J:=⟨[0],[1,0,0,0,0,0,0],0,[]⟩) (ds0:=[1,0,0,0,0,0,0]) sc_law_part rfl rfl rfl rfl fun cdv A outer s H E hr=>?_
 exact (ah (ax (i:=3) (d:=1) (ds':=[1,0,0,1,0,0,0]) nd rfl (.inl rfl) (ai (d':=1) (bm (d:=3) (c:=3) ad rfl rfl (by decide)) (by decide)) rfl (by decide) (by decide) rfl (.inl rfl))
  (ah (cE (ds1:=[1,0,0,1,0,0,0]) rfl (dM rfl T.range0 (aa (cO (gI (K:=K) rfl) (bm (d:=3) (c:=3) (aa aj (aa aj (aa aj (aa aj (aa aj (aa aj (aa aj (aa aj ad rfl) rfl) rfl) rfl) rfl) rfl) rfl) rfl) rfl rfl (by decide)) (aY bc hr rfl (aL (i:=0) rfl (.inr (.inl rfl)) (aa (ai (d':=0) aj (by decide)) ad rfl) rfl rfl) rfl rfl rfl rfl) (fun _ _=>rfl)) ad rfl) rfl) (aB (i:=4) (ds':=[1,0,0,1,0,0,0]) nd rfl (.inl rfl) rfl (by decide) (by decide) (.inl rfl)) (ah (ax (i:=5) (d:=0) (ds':=[1,0,0,1,0,0,0]) nd rfl (.inr rfl) (ai (d':=0) (bA (K:=K) rfl PySem.F.slot_str_join PySem.F.type_str_join (dJ rfl) dL aq (aa (ai (d':=0) (kw (cd:=3) (d:=3) (dsi:=[0,1,0]) (lk:=[1,2]) (BlkOkC.of (ns:=["_law_k", "_law_pen_here", "_law_letters"]) (js:=[none,some 0,some 1]) (N0:=fU) (sc0:=am dY) rfl rfl (by decide +kernel)) rfl (dM rfl T.range0 (aa (ai (d':=0) (az cr aj (aY bc hr rfl (aL (i:=0) rfl (.inr (.inl rfl)) (aa (ai (d':=0) aj (by decide)) ad rfl) rfl rfl) rfl rfl rfl rfl)) (by decide)) ad rfl) rfl) (fun _ _ _ _ _=>(aB (i:=0) (ds':=[0,1,0]) (show (["_law_k", "_law_pen_here", "_law_letters"]:List Str).Nodup by decide +kernel) rfl (.inl rfl) rfl (by decide) (by decide) (.inr rfl))) (fun _ _ _ _ _=>bn) (fun _ _ _ _ _=>(cO FG (ac (i:=2) rfl (.inr (.inl rfl)) rfl rfl rfl) (aY bc hr rfl (aL (i:=1) rfl (.inr (.inl rfl)) (aa (ai (d':=0) (ar (bd (K:=K) rfl) rfl T.len0 (by decide +kernel) (aa (ac (i:=2) rfl (.inr (.inl rfl)) rfl rfl rfl) ad rfl) rfl (by decide) rfl rfl rfl) (by decide)) ad rfl) rfl rfl) rfl rfl rfl rfl) (fun _ _=>rfl))) rfl rfl (by decide) rfl (fun _=>rfl)) (by decide)) ad rfl) rfl rfl rfl rfl rfl rfl) (by decide)) rfl (by decide) (by decide) rfl (.inl rfl))
  (ah (mJ (ds1:=[1,0,0,1,0,0,0]) (on (i:=6) (ds0:=[1,0,0,0,0,0,0]) (ds':=[1,0,0,1,0,0,3]) (dsi:=[0,0]) (lk:=[1]) nd rfl rfl (BlkOkC.of (ns:=["_law_one", "_law_word"]) (js:=[none,some 5]) (N0:=fU) (sc0:=am dY) rfl rfl (by decide +kernel)) rfl (bj (K:=K) rfl (ac (i:=3) rfl (.inl rfl) rfl rfl rfl)) (fun _ _ _ _ _=>(aB (i:=0) (ds':=[0,0]) (show (["_law_one", "_law_word"]:List Str).Nodup by decide +kernel) rfl (.inl rfl) rfl (by decide) (by decide) (.inr rfl))) (fun _ _ _ _ _=>(mI (qpt (bL (aT (bA (K:=K) rfl PySem.F.slot_str_startswith PySem.F.type_str_startswith gB gJ (ac (i:=0) rfl (.inl rfl) rfl rfl rfl) (aa (ac (i:=1) rfl (.inr (.inl rfl)) rfl rfl rfl) ad rfl) rfl rfl rfl rfl rfl rfl) (fun _=>rfl)) (bD (aT (bA (K:=K) rfl PySem.F.slot_str_startswith PySem.F.type_str_startswith gB gJ (ac (i:=1) rfl (.inr (.inl rfl)) rfl rfl rfl) (aa (ac (i:=0) rfl (.inl rfl) rfl rfl rfl) ad rfl) rfl rfl rfl rfl rfl rfl) (fun _=>rfl))))))) (fun _ _ _ _ _=>(B5 (ac (i:=0) rfl (.inl rfl) rfl rfl rfl))) rfl rfl rfl rfl (by decide) (by decide) rfl (fun _=>rfl)) rfl)
  (ak (aW (ds2:=[1,0,0,1,0,0,0]) (qpt (og (e9 (ds0:=[1,0,0,0,0,0,0]) (aO (uF (K:=K) rfl hr.units) (ac (i:=5) rfl (.inr (.inl rfl)) rfl rfl rfl) (ac (i:=3) rfl (.inl rfl) rfl rfl rfl) (by with_unfolding_all rfl)) rfl) (og (e9 (ds0:=[1,0,0,0,0,0,0]) (aO AC (ar (bd (K:=K) rfl) rfl T.len0 (by decide +kernel) (aa (ac (i:=3) rfl (.inl rfl) rfl rfl rfl) ad rfl) rfl (by decide) rfl rfl rfl) aj (aU _)) rfl) (sy (qpt (bL (aT (ac (i:=2) rfl (.inl rfl) rfl rfl rfl) (fun _=>rfl)) (bD (aO (dt (K:=K) rfl hr.units) (ac (i:=6) rfl (.inl rfl) rfl rfl rfl) (bm (d:=3) (c:=3) ad rfl rfl (by decide)) (aU _))))))))) (ak (bX (cF (K:=K) (i:=3) (d:=1) rfl rfl (.inl rfl) rfl (ac (i:=5) rfl (.inr (.inl rfl)) rfl rfl rfl) (by decide) rfl rfl rfl rfl rfl rfl rfl rfl) rfl)) aP)))) PassesOwn.never (fun _=>rfl))
  (ak (au (ba (dC (K:=K) rfl) rfl T.tuple0 (by decide +kernel) (aa (ij (ds0:=[1,0,0,0,0,0,0]) (ac (p:=false) (i:=3) rfl (.inl rfl) rfl rfl rfl) rfl) ad rfl) rfl (by decide) rfl rfl rfl) rfl))))
abbrev fT:Stmt:=top 39
abbrev iU:List Str:=["_law_pen_here", "_law_tongue_here", "_law_most", "_law_letters", "_law_steps", "_law_turn", "_law_many"]
theorem sc_law_plan:FnScope iU ["_law_pen_here", "_law_tongue_here", "_law_most"] (am fT):=⟨rfl,rfl,rfl,by decide +kernel,rfl,by decide +kernel,by decide +kernel⟩
def gi:ME:=(ay cW (bt 1 (ae (af 2) (ae (e2 eqD (af 0) (e2 jf (af 3) (eC (.int 1)))) ag))))
def jH:MS:=(ao (aA 6 (e2 br (eC (.int 1)) (ay aI (bt 0 (ae (eC (.int 5)) ag)))))
 (dA (dF 4 (eN fY (ae (eLC false (dg (ae (af 6) ag)) (gN 0) cY gi [none,some 0,some 3,some 6]) ag)))))
def i5:MS:=(ao (aA 3 (eM joinD (eC (.str "")) (ae (af 1) ag)))
 (ao (aA 4 (bI ag))
 (ao (fu (dg (ae (ay aI (bt 0 (ae (e2 br (af 2) (eC (.int 1))) ag))) ag)) (gN 5) jH)
 (aE (eN fY (ae (af 4) ag))))))
def cV:List D→Option (D × En):=fnF 4 [1,0,0] i5
theorem oW {k:Nat} (T:Bl mg)  (bc:Kn P w K mg base k "_law_take" ["_law_pen_here", "_law_most"] (spF K [1,0] 0 aI)) (rh:Kn P w K mg base k "_law_part" ["_law_pen_here", "_law_letters", "_law_any_words"] (spF K [1,0,0] 0 cW)) (F:Fun K "_law_plan" "_law_plan" fT f fd):FnOk P w K mg base CX0 (k+1) f fd ["_law_pen_here", "_law_tongue_here", "_law_most"] (spF K [1,0,0] 0 cV):=by
 have nd:=sc_law_plan.nd
 refine F.okQ (N:=iU) (b:=i5) (J:=⟨[0],[1,0,0,0,0,0,0],0,[]⟩) (ds0:=[1,0,0,0,0,0,0]) sc_law_plan rfl rfl rfl rfl fun cdv A outer s H E hr=>?_
 exact (ah (ax (i:=3) (d:=0) (ds':=[1,0,0,0,0,0,0]) nd rfl (.inr rfl) (ai (d':=0) (bA (K:=K) rfl PySem.F.slot_str_join PySem.F.type_str_join (dJ rfl) dL aq (aa (ac (i:=1) rfl (.inl rfl) rfl rfl rfl) ad rfl) rfl rfl rfl rfl rfl rfl) (by decide)) rfl (by decide) (by decide) rfl (.inl rfl))
  (ah (ax (i:=4) (d:=1) (ds':=[1,0,0,0,1,0,0]) nd rfl (.inl rfl) (ai (d':=1) (bm (d:=3) (c:=3) ad rfl rfl (by decide)) (by decide)) rfl (by decide) (by decide) rfl (.inl rfl))
  (ah (cE (ds1:=[1,0,0,0,1,0,0]) rfl (dM rfl T.range0 (aa (aY bc hr rfl (aL (i:=0) rfl (.inr (.inl rfl)) (aa (ai (d':=0) (az cr (ac (i:=2) rfl (.inl rfl) rfl rfl rfl) aj) (by decide)) ad rfl) rfl rfl) rfl rfl rfl rfl) ad rfl) rfl) (aB (i:=5) (ds':=[1,0,0,0,1,0,0]) nd rfl (.inl rfl) rfl (by decide) (by decide) (.inl rfl)) (ah (ax (i:=6) (d:=0) (ds':=[1,0,0,0,1,0,0]) nd rfl (.inr rfl) (ai (d':=0) (az cr aj (aY bc hr rfl (aL (i:=0) rfl (.inr (.inl rfl)) (aa (ai (d':=0) aj (by decide)) ad rfl) rfl rfl) rfl rfl rfl rfl)) (by decide)) rfl (by decide) (by decide) rfl (.inl rfl))
  (ak (bX (cF (K:=K) (i:=4) (d:=1) rfl rfl (.inl rfl) rfl (ba (dC (K:=K) rfl) rfl T.tuple0 (by decide +kernel) (aa (ai (d':=0) (kw (cd:=0) (d:=1) (dsi:=[0,1,0,0]) (lk:=[1,2,3]) (BlkOkC.of (ns:=["_law_k", "_law_pen_here", "_law_letters", "_law_many"]) (js:=[none,some 0,some 3,some 6]) (N0:=iU) (sc0:=am fT) rfl rfl (by decide +kernel)) rfl (dM rfl T.range0 (aa (ac (i:=6) rfl (.inr (.inl rfl)) rfl rfl rfl) ad rfl) rfl) (fun _ _ _ _ _=>(aB (i:=0) (ds':=[0,1,0,0]) (show (["_law_k", "_law_pen_here", "_law_letters", "_law_many"]:List Str).Nodup by decide +kernel) rfl (.inl rfl) rfl (by decide) (by decide) (.inr rfl))) (fun _ _ _ _ _=>bn) (fun _ _ _ _ _=>(aY rh hr rfl (aL (i:=1) rfl (.inr (.inl rfl)) (aa (ac (i:=2) rfl (.inr (.inl rfl)) rfl rfl rfl) (aa (ai (d':=0) (b5 (dt (K:=K) rfl hr.units) (ac (i:=0) rfl (.inl rfl) rfl rfl rfl) (az oo (ac (i:=3) rfl (.inr (.inl rfl)) rfl rfl rfl) aj) (aU _)) (by decide)) ad rfl) rfl) rfl rfl) rfl rfl rfl rfl)) rfl rfl (by decide) rfl (fun _=>rfl)) (by decide)) ad rfl) rfl (by decide) rfl rfl rfl) (by decide) rfl rfl rfl rfl rfl rfl rfl rfl) rfl))) PassesOwn.never (fun _=>rfl))
  (ak (au (ba (dC (K:=K) rfl) rfl T.tuple0 (by decide +kernel) (aa (ij (ds0:=[1,0,0,0,0,0,0]) (ac (p:=false) (i:=4) rfl (.inl rfl) rfl rfl rfl) rfl) ad rfl) rfl (by decide) rfl rfl rfl) rfl)))))
abbrev iO:Stmt:=top 40
abbrev lD:List Str:=["_law_plan_here", "_law_lines", "_law_step", "_law_words", "_law_part_here"]
theorem sc_law_text:FnScope lD ["_law_plan_here"] (am iO):=⟨rfl,rfl,rfl,by decide +kernel,rfl,by decide +kernel,by decide +kernel⟩
def jG:MS:=(aA 3 (e2 jz (e2 jz (af 3) (bI (ae (eN p5 (ae (eN aV (ae (af 4) ag)) ag)) ag))) (eN iD (ae (af 4) ag))))
def jF:MS:=(ao (aA 3 (bI ag))
 (ao (fu (b8 (af 2)) (gN 4) jG)
 (dA (dF 1 (eM joinD (eC (.str " ")) (ae (af 3) ag))))))
def i4:MS:=(ao (aA 1 (bI (ae (eC (.str "plan")) ag)))
 (ao (fu (b8 (af 0)) (gN 2) jF)
 (aE (eM joinD (eC (.str "\n")) (ae (af 1) ag)))))
def cU:List D→Option (D × En):=fnF 4 [0] i4
theorem oU {k:Nat} (T:Bl mg)   (F:Fun K "_law_text" "_law_text" iO f fd):FnOk P w K mg base CX0 (k+1) f fd ["_law_plan_here"] (spF K [0] 3 cU):=by
 have nd:=sc_law_text.nd
 refine F.okQ (N:=lD) (b:=i4) (J:=⟨[],[0,0,0,0,0],3,[]⟩) (ds0:=[0,0,0,0,0]) sc_law_text rfl rfl rfl rfl fun cdv A outer s H E hr=>?_
 exact (ah (ax (i:=1) (d:=1) (ds':=[0,1,0,0,0]) nd rfl (.inl rfl) (ai (d':=1) (bm (d:=3) (c:=3) (aa aq ad rfl) rfl rfl (by decide)) (by decide)) rfl (by decide) (by decide) rfl (.inl rfl))
  (ah (cE (ds1:=[0,1,0,0,0]) rfl (bj (K:=K) rfl (ac (i:=0) rfl (.inl rfl) rfl rfl rfl)) (aB (i:=2) (ds':=[0,1,0,0,0]) nd rfl (.inl rfl) rfl (by decide) (by decide) (.inl rfl)) (ah (ax (i:=3) (d:=0) (ds':=[0,1,0,0,0]) nd rfl (.inl rfl) (ai (d':=0) (bm (d:=3) (c:=3) ad rfl rfl (by decide)) (by decide)) rfl (by decide) (by decide) rfl (.inl rfl))
  (ah (cE (ds1:=[0,1,0,0,0]) rfl (bj (K:=K) rfl (ac (i:=2) rfl (.inl rfl) rfl rfl rfl)) (aB (i:=4) (ds':=[0,1,0,0,0]) nd rfl (.inl rfl) rfl (by decide) (by decide) (.inl rfl)) (ak (ax (i:=3) (d:=0) (ds':=[0,1,0,0,0]) nd rfl (.inl rfl) (ai (d':=0) (az (ii (K:=K) rfl) (az (ii (K:=K) rfl) (ac (i:=3) rfl (.inl rfl) rfl rfl rfl) (bm (d:=3) (c:=3) (aa (ba pI rfl T.str0 (by decide +kernel) (aa (ai (d':=0) (ar (bd (K:=K) rfl) rfl T.len0 (by decide +kernel) (aa (ac (i:=4) rfl (.inl rfl) rfl rfl rfl) ad rfl) rfl (by decide) rfl rfl rfl) (by decide)) ad rfl) rfl (by decide) rfl rfl rfl) ad rfl) rfl rfl (by decide))) (ba (l7 (K:=K) rfl rfl) rfl T.list0 (by decide +kernel) (aa (ac (i:=4) rfl (.inl rfl) rfl rfl rfl) ad rfl) rfl (by decide) rfl rfl rfl)) (by decide)) rfl (by decide) (by decide) rfl (.inl rfl))) PassesOwn.never (fun _=>rfl))
  (ak (bX (cF (K:=K) (i:=1) (d:=1) rfl rfl (.inl rfl) rfl (ai (d':=0) (bA (K:=K) rfl PySem.F.slot_str_join PySem.F.type_str_join (dJ rfl) dL aq (aa (ac (i:=3) rfl (.inl rfl) rfl rfl rfl) ad rfl) rfl rfl rfl rfl rfl rfl) (by decide)) (by decide) rfl rfl rfl rfl rfl rfl rfl rfl) rfl)))) PassesOwn.never (fun _=>rfl))
  (ak (au (iH (ds0:=[0,0,0,0,0]) (bA (K:=K) rfl PySem.F.slot_str_join PySem.F.type_str_join (dJ rfl) dL aq (aa (ac (i:=1) rfl (.inl rfl) rfl rfl rfl) ad rfl) rfl rfl rfl rfl rfl rfl) rfl) rfl))))
abbrev fS:Stmt:=top 41
abbrev iT:List Str:=["_law_got", "_law_due"]
theorem sc_law_same:FnScope iT ["_law_got", "_law_due"] (am fS):=⟨rfl,rfl,rfl,by decide +kernel,rfl,by decide +kernel,by decide +kernel⟩
def jL (self:List D→Option (D × En)):ME:=(ay self (ae (af 0) (ae (af 1) ag)))
def eh (self:List D→Option (D × En)):MS:=(ao (sIf (tV (e1 (jp ["list", "tuple"]) (af 1))) (ao (sIf (bOr (ck (tV (e1 (jp ["list", "tuple"]) (af 0)))) (tV (e2 neD (e1 (aH "list") (af 0)) (e1 (aH "list") (af 1))))) (aE (eC (.bool false))) bh)
 (aE (fy (e2 eqD (eN aV (ae (af 0) ag)) (eN aV (ae (af 1) ag))) (eN eK (ae (eLC true (jq (ae (af 0) (ae (af 1) ag))) (gT (gsC (gN 0) (gsC (gN 1) gs0))) cY (jL self) [none,none]) ag))))) bh)
 (ao (sIf (bOr (tV (e2 isN (af 1) (eC .none))) (tV (e1 (jp ["bool", "str"]) (af 1)))) (aE (e2 eqD (eN gz (ae (af 0) ag)) (eN gz (ae (af 1) ag)))) bh)
 (aE (fy (e1 (aH "int") (af 0)) (fy (kx (e1 (aH "bool") (af 0))) (e2 eqD (af 0) (af 1)))))))
def aN:Nat→List D→Option (D × En)
 | 0=>fun _=>none
 | j+1=>fnF 0 [0,0] (eh (aN j))
theorem cw {k:Nat} (T:Bl mg)  {self:List D→Option (D × En)} (ef:Kn P w K mg base k "_law_same" ["_law_got", "_law_due"] (spF K [0,0] 3 self)) (F:Fun K "_law_same" "_law_same" fS f fd):FnOk P w K mg base CX0 (k+1) f fd ["_law_got", "_law_due"] (spF K [0,0] 3 (fnF 0 [0,0] (eh self))):=by
 have nd:=sc_law_same.nd
 refine F.okQ (N:=iT) (b:=eh self) (J:=⟨[],[0,0],3,[]⟩) (ds0:=[0,0]) sc_law_same rfl rfl rfl rfl fun cdv A outer s H E hr=>?_
 exact (ah (aW (ds2:=[0,0]) (aT (ju (K:=K) (n1:="list") (n2:="tuple") rfl rfl T.isinstance0 rfl T.list0 (by decide +kernel) rfl T.tuple0 (by decide +kernel) (by decide) (ac (i:=1) rfl (.inl rfl) rfl rfl rfl) (by decide) rfl (by decide) rfl rfl) (fun _=>rfl)) (ah (aW (ds2:=[0,0]) (qpt (bL (bo (aT (ju (K:=K) (n1:="list") (n2:="tuple") rfl rfl T.isinstance0 rfl T.list0 (by decide +kernel) rfl T.tuple0 (by decide +kernel) (by decide) (ac (i:=0) rfl (.inl rfl) rfl rfl rfl) (by decide) rfl (by decide) rfl rfl) (fun _=>rfl))) (bD (aO (lb (K:=K) rfl hr.units) (b4 (K:=K) (n:="list") rfl rfl T.isinstance0 rfl T.list0 (by decide +kernel) (by decide) (ac (i:=0) rfl (.inl rfl) rfl rfl rfl) (by decide) rfl rfl rfl rfl) (b4 (K:=K) (n:="list") rfl rfl T.isinstance0 rfl T.list0 (by decide +kernel) (by decide) (ac (i:=1) rfl (.inl rfl) rfl rfl rfl) (by decide) rfl rfl rfl rfl) (aU _))))) (ak (au dN rfl)) aP)
  (ak (au (dE (b5 (dt (K:=K) rfl hr.units) (ar (bd (K:=K) rfl) rfl T.len0 (by decide +kernel) (aa (ac (i:=0) rfl (.inl rfl) rfl rfl rfl) ad rfl) rfl (by decide) rfl rfl rfl) (ar (bd (K:=K) rfl) rfl T.len0 (by decide +kernel) (aa (ac (i:=1) rfl (.inl rfl) rfl rfl rfl) ad rfl) rfl (by decide) rfl rfl rfl) (aU _)) (dD (ar (ff (K:=K) rfl rfl) rfl T.all0 (by decide +kernel) (aa (ai (d':=0) (b9 (cd:=3) (d:=3) (dsi:=[0,0]) (lk:=[]) (BlkOkC.of (ns:=["_law_one", "_law_other"]) (js:=[none,none]) (N0:=iT) (sc0:=am fS) rfl rfl (by decide +kernel)) rfl (sI (K:=K) rfl rfl T.zip0 (aa (ac (i:=0) rfl (.inl rfl) rfl rfl rfl) (aa (ac (i:=1) rfl (.inl rfl) rfl rfl rfl) ad rfl) rfl) rfl rfl) (fun _ _ _ _ _=>(mK (K:=K) rfl rfl (eT (aB (i:=0) (ds':=[0,0]) (show (["_law_one", "_law_other"]:List Str).Nodup by decide +kernel) rfl (.inl rfl) rfl (by decide) (by decide) (.inr rfl)) (eT (aB (i:=1) (ds':=[0,0]) (show (["_law_one", "_law_other"]:List Str).Nodup by decide +kernel) rfl (.inl rfl) rfl (by decide) (by decide) (.inr rfl)) ld rfl) rfl) pH rfl rfl)) (fun _ _ _ _ _=>bn) (fun _ _ _ _ _=>(aR ef hr rfl (aa (ac (i:=0) rfl (.inl rfl) rfl rfl rfl) (aa (ac (i:=1) rfl (.inl rfl) rfl rfl rfl) ad rfl) rfl) rfl rfl rfl rfl rfl)) rfl rfl (by decide) rfl (fun _=>rfl)) (by decide)) ad rfl) rfl (by decide) rfl rfl rfl))) rfl))) aP)
  (ah (aW (ds2:=[0,0]) (qpt (bL (aO FH (ac (i:=1) rfl (.inl rfl) rfl rfl rfl) uM (aU _)) (bD (aT (ju (K:=K) (n1:="bool") (n2:="str") rfl rfl T.isinstance0 rfl T.bool0 (by decide +kernel) rfl T.str0 (by decide +kernel) (by decide) (ac (i:=1) rfl (.inl rfl) rfl rfl rfl) (by decide) rfl (by decide) rfl rfl) (fun _=>rfl))))) (ak (au (b5 (dt (K:=K) rfl hr.units) (ar (oq (K:=K) rfl hr.gd hr.units) rfl T.repr0 (by decide +kernel) (aa (ac (i:=0) rfl (.inl rfl) rfl rfl rfl) ad rfl) rfl (by decide) rfl rfl rfl) (ar (oq (K:=K) rfl hr.gd hr.units) rfl T.repr0 (by decide +kernel) (aa (ac (i:=1) rfl (.inl rfl) rfl rfl rfl) ad rfl) rfl (by decide) rfl rfl rfl) (aU _)) rfl)) aP)
  (ak (au (dE (b4 (K:=K) (n:="int") rfl rfl T.isinstance0 rfl T.int0 (by decide +kernel) (by decide) (ac (i:=0) rfl (.inl rfl) rfl rfl rfl) (by decide) rfl rfl rfl rfl) (dE (ou (b4 (K:=K) (n:="bool") rfl rfl T.isinstance0 rfl T.bool0 (by decide +kernel) (by decide) (ac (i:=0) rfl (.inl rfl) rfl rfl rfl) (by decide) rfl rfl rfl rfl)) (dD (b5 (dt (K:=K) rfl hr.units) (ac (i:=0) rfl (.inl rfl) rfl rfl rfl) (ac (i:=1) rfl (.inl rfl) rfl rfl rfl) (aU _))))) rfl))))
abbrev kE:Stmt:=top 42
abbrev Gq:List Str:=["_law_script", "_law_rows", "_law_first", "_law_pen_here", "_law_tongue_here", "_law_plan_here", "_law_text_here", "_law_told"]
theorem sclaw:FnScope Gq ["_law_script"] (am kE):=⟨rfl,rfl,rfl,by decide +kernel,rfl,by decide +kernel,by decide +kernel⟩
noncomputable def oK:MS:=(ao (aA 3 (ay F_law_pen (ae (af 0) (ae (af 2) ag))))
 (ao (aA 4 (ay bE (bt 3 ag)))
 (dA (dF 1 (bS (ae (af 4) (ae (ay cV (bt 3 (ae (af 4) (ae (eC (.int 3)) ag)))) ag)))))))
noncomputable def oJ:MS:=(ao (aA 6 (ay cU (ae (af 5) ag)))
 (ao (aA 7 (ay bY (ae (af 5) ag)))
 (sIf (bOr (ck (tV (e1 (aH "str") (af 7)))) (bOr (tV (e2 neD (af 7) (af 6))) (ck (tV (ay (aN 6) (ae (ay bZ (ae (af 4) (ae (af 6) ag))) (ae (af 5) ag))))))) (aE (eC (.bool false))) bh)))
noncomputable def vd:MS:=(ao (aA 1 (bI ag))
 (ao (fu (b8 (bS (ae (eC (.int 0)) (ae (eC (.int 31)) ag)))) (gN 2) oK)
 (ao (fu (b8 (e2 jz (af 1) (af 1))) (gT (gsC (gN 4) (gsC (gN 5) gs0))) oJ)
 (ao (sIf (bOr (tV (e2 neD (ay bY (ae (bS (ae (bS (ae (bS ag) ag)) ag)) ag)) (eC (.str "plan\n0")))) (ck (tV (ay (aN 6) (ae (ay bZ (ae (e2 ixA (e2 ixA (af 1) (eC (.int 0))) (eC (.int 0))) (ae (eC (.str "plan\n0")) ag))) (ae (bS (ae (bS (ae (bS ag) ag)) ag)) ag)))))) (aE (eC (.bool false))) bh)
 (aE (fy (e2 eqD (ay bY (ae (bS ag) ag)) (eC (.str "plan"))) (ay (aN 6) (ae (ay bZ (ae (e2 ixA (e2 ixA (af 1) (eC (.int 0))) (eC (.int 0))) (ae (eC (.str "plan")) ag))) (ae (bS ag) ag)))))))))
noncomputable def ri:List D→Option (D × En):=fnF 7 [0] vd
theorem GJ {k:Nat} (T:Bl mg)  (tq:Kn P w K mg base k "_law_pen" ["_law_script", "_law_first"] (spF K [0,0] 1 F_law_pen)) (kI:Kn P w K mg base k "_law_any_tongue" ["_law_pen_here"] (spF K [1] 0 bE)) (rf:Kn P w K mg base k "_law_text" ["_law_plan_here"] (spF K [0] 3 cU)) (iV:Kn P w K mg base k "show_plan" ["plan"] (spF K [0] 3 bY)) (ef:Kn P w K mg base k "_law_same" ["_law_got", "_law_due"] (spF K [0,0] 3 (aN 6))) (iW:Kn P w K mg base k "read_plan" ["tongue", "text"] (spF K [0,0] 0 bZ)) (rg:Kn P w K mg base k "_law_plan" ["_law_pen_here", "_law_tongue_here", "_law_most"] (spF K [1,0,0] 0 cV)) (F:Fun K "law" "law" kE f fd):FnOk P w K mg base CX0 (k+1) f fd ["_law_script"] (spF K [0] 3 ri):=by
 have nd:=sclaw.nd
 refine F.okQ (N:=Gq) (b:=vd) (J:=⟨[],[0,0,0,0,0,0,0,0],3,[]⟩) (ds0:=[0,0,0,0,0,0,0,0]) sclaw rfl rfl rfl rfl fun cdv A outer s H E hr=>?_
 exact (ah (ax (i:=1) (d:=1) (ds':=[0,1,0,0,0,0,0,0]) nd rfl (.inl rfl) (ai (d':=1) (bm (d:=3) (c:=3) ad rfl rfl (by decide)) (by decide)) rfl (by decide) (by decide) rfl (.inl rfl))
  (ah (cE (ds1:=[0,1,0,0,0,0,0,0]) rfl (bj (K:=K) rfl (ai (d':=0) (be (d:=3) (c:=3) (aa aj (aa aj ad rfl) rfl) rfl rfl) (by decide))) (aB (i:=2) (ds':=[0,1,0,0,0,0,0,0]) nd rfl (.inl rfl) rfl (by decide) (by decide) (.inl rfl)) (sA (ds2:=[0,1,0,1,0,0,0,0]) (ah (ax (i:=3) (d:=1) (ds':=[0,1,0,1,0,0,0,0]) nd rfl (.inl rfl) (aR tq hr rfl (aa (ac (i:=0) rfl (.inl rfl) rfl rfl rfl) (aa (ac (i:=2) rfl (.inl rfl) rfl rfl rfl) ad rfl) rfl) rfl rfl rfl rfl rfl) rfl (by decide) (by decide) rfl (.inl rfl))
  (ah (ax (i:=4) (d:=0) (ds':=[0,1,0,1,0,0,0,0]) nd rfl (.inl rfl) (aY kI hr rfl (aL (i:=3) rfl (.inl rfl) ad rfl rfl) rfl rfl rfl rfl) rfl (by decide) (by decide) rfl (.inl rfl))
  (ak (bX (cF (K:=K) (i:=1) (d:=1) rfl rfl (.inl rfl) rfl (be (d:=0) (c:=0) (aa (ac (i:=4) rfl (.inl rfl) rfl rfl rfl) (aa (aY rg hr rfl (aL (i:=3) rfl (.inl rfl) (aa (ac (i:=4) rfl (.inl rfl) rfl rfl rfl) (aa (ai (d':=0) aj (by decide)) ad rfl) rfl) rfl rfl) rfl rfl rfl rfl) ad rfl) rfl) rfl rfl) (by decide) rfl rfl rfl rfl rfl rfl rfl rfl) rfl)))) rfl) PassesOwn.never (fun _=>rfl))
  (ah (cE (ds1:=[0,0,0,0,0,0,0,0]) rfl (bj (K:=K) rfl (ai (d':=0) (az (ii (K:=K) rfl) (ij (ds0:=[0,0,0,0,0,0,0,0]) (ac (p:=false) (i:=1) rfl (.inl rfl) rfl rfl rfl) rfl) (ac (i:=1) rfl (.inl rfl) rfl rfl rfl)) (by decide))) (mK (K:=K) rfl rfl (eT (aB (i:=4) (ds':=[0,0,0,0,0,0,0,0]) nd rfl (.inl rfl) rfl (by decide) (by decide) (.inl rfl)) (eT (aB (i:=5) (ds':=[0,0,0,0,0,0,0,0]) nd rfl (.inl rfl) rfl (by decide) (by decide) (.inl rfl)) ld rfl) rfl) pH rfl rfl) (ah (ax (i:=6) (d:=0) (ds':=[0,0,0,0,0,0,0,0]) nd rfl (.inl rfl) (ai (d':=0) (aR rf hr rfl (aa (ac (i:=5) rfl (.inl rfl) rfl rfl rfl) ad rfl) rfl rfl rfl rfl rfl) (by decide)) rfl (by decide) (by decide) rfl (.inl rfl))
  (ah (ax (i:=7) (d:=0) (ds':=[0,0,0,0,0,0,0,0]) nd rfl (.inl rfl) (ai (d':=0) (aR iV hr rfl (aa (ac (i:=5) rfl (.inl rfl) rfl rfl rfl) ad rfl) rfl rfl rfl rfl rfl) (by decide)) rfl (by decide) (by decide) rfl (.inl rfl))
  (ak (aW (ds2:=[0,0,0,0,0,0,0,0]) (qpt (bL (bo (aT (b4 (K:=K) (n:="str") rfl rfl T.isinstance0 rfl T.str0 (by decide +kernel) (by decide) (ac (i:=7) rfl (.inl rfl) rfl rfl rfl) (by decide) rfl rfl rfl rfl) (fun _=>rfl))) (bL (aO (lb (K:=K) rfl hr.units) (ac (i:=7) rfl (.inl rfl) rfl rfl rfl) (ac (i:=6) rfl (.inl rfl) rfl rfl rfl) (aU _)) (bD (bo (aT (aR ef hr rfl (aa (aR iW hr rfl (aa (ac (i:=4) rfl (.inl rfl) rfl rfl rfl) (aa (ac (i:=6) rfl (.inl rfl) rfl rfl rfl) ad rfl) rfl) rfl rfl rfl rfl rfl) (aa (ac (i:=5) rfl (.inl rfl) rfl rfl rfl) ad rfl) rfl) rfl rfl rfl rfl rfl) (fun _=>rfl))))))) (ak (au dN rfl)) aP)))) PassesOwn.never (fun _=>rfl))
  (ah (aW (ds2:=[0,0,0,0,0,0,0,0]) (qpt (bL (aO (lb (K:=K) rfl hr.units) (aR iV hr rfl (aa (ai (d':=0) (be (d:=3) (c:=3) (aa (be (d:=3) (c:=3) (aa (be (d:=3) (c:=3) ad rfl rfl) ad rfl) rfl rfl) ad rfl) rfl rfl) (by decide)) ad rfl) rfl rfl rfl rfl rfl) aq (aU _)) (bD (bo (aT (aR ef hr rfl (aa (aR iW hr rfl (aa (cO (gI (K:=K) rfl) (cO (gI (K:=K) rfl) (ac (i:=1) rfl (.inl rfl) rfl rfl rfl) aj (fun _ _=>rfl)) aj (fun _ _=>rfl)) (aa (ai (d':=0) aq (by decide)) ad rfl) rfl) rfl rfl rfl rfl rfl) (aa (ai (d':=0) (be (d:=3) (c:=3) (aa (be (d:=3) (c:=3) (aa (be (d:=3) (c:=3) ad rfl rfl) ad rfl) rfl rfl) ad rfl) rfl rfl) (by decide)) ad rfl) rfl) rfl rfl rfl rfl rfl) (fun _=>rfl)))))) (ak (au dN rfl)) aP)
  (ak (au (dE (b5 (dt (K:=K) rfl hr.units) (aR iV hr rfl (aa (ai (d':=0) (be (d:=3) (c:=3) ad rfl rfl) (by decide)) ad rfl) rfl rfl rfl rfl rfl) aq (aU _)) (dD (aR ef hr rfl (aa (aR iW hr rfl (aa (cO (gI (K:=K) rfl) (cO (gI (K:=K) rfl) (ac (i:=1) rfl (.inl rfl) rfl rfl rfl) aj (fun _ _=>rfl)) aj (fun _ _=>rfl)) (aa (ai (d':=0) aq (by decide)) ad rfl) rfl) rfl rfl rfl rfl rfl) (aa (ai (d':=0) (be (d:=3) (c:=3) ad rfl rfl) (by decide)) ad rfl) rfl) rfl rfl rfl rfl rfl))) rfl))))))
end
end W58
set_option maxHeartbeats 1000000
namespace W58
open PySem L2 Tg
def Pn (n:Nat) (t:D):Prop:=∃ ns k l,t=Pen2.penD ns k l∧0≤k∧k≤(n:Int)∧0≤l
theorem Pn.mono {n m:Nat} {t:D} (h:Pn n t) (e:n≤m):Pn m t:=by
 obtain ⟨ns,k,l,rfl,h1,h2,h3⟩:=h
 exact ⟨ns,k,l,rfl,h1,by omega,h3⟩
theorem cu {p:D} {m:Int} {n:Nat} (hp:Pn n p) (hn:n≤1000000) (h3:0 < m) (h4:m < 1073741824) {Q:D × En→Prop} (h:∀ r p',0≤r→r < m→Pn (n+1) p'→Q (.int r,[some p',none])):W (aI [p,.int m]) Q:=by
 obtain ⟨ns,k,l,rfl,k0,k1,l0⟩:=hp
 obtain ⟨r,k',l',e,e1,e2,e3,e4,e5⟩:=Pen2.take_ok (ns:=ns) (k:=k) (l:=l) (m:=m) k0 (by omega) l0 h3 h4
 exact W.of (show aI _=_ from e) (h r _ e1 e2 ⟨ns,k',l',rfl,by omega,by omega,e5⟩)
theorem AF {ns:List Int} {k:Nat} {Q:D × En→Prop} (h:∀ p,Pn k p→Q (p,[none,none])):W (F_law_pen [.list (ns.map .int),.int (k:Nat)]) Q :=
 W.of (show F_law_pen [.list (ns.map .int),.int (k:Nat)]=some (Pen2.penD ns (k:Nat) 0,[none,none]) from rfl) (h _ ⟨ns,(k:Nat),0,rfl,by omega,by omega,by omega⟩)
end W58
namespace W58
open PySem L2 Tg
def txt:D→Str
 | .str z=>z
 | _=>""
def isW (L:List Nat):D→Bool
 | .str z=>decide (1≤(li z).length) && (decide ((li z).length≤6) && (li z).all fun c=>decide (c∈L))
 | _=>false
def fr (ys:List Str):Bool:=decide (ys.Pairwise fun a b=>¬ (li a <+: li b)∧¬ (li b <+: li a))
def frD:D→Bool
 | .tuple ts=>fr (ts.map txt)
 | _=>true
def isP (L:List Nat):D→Bool
 | .tuple ts=>decide (ts.length≤12) && (ts.all (isW L) && decide ((ts.map txt).Nodup))
 | _=>false
def isS (L:List Nat):D→Bool
 | .tuple ts=>decide (1≤ts.length) && (decide (ts.length≤5) && (ts.all (isP L) && ts.dropLast.all frD))
 | _=>false
def n6 (L:List Nat):D→Bool
 | .tuple ts=>decide (ts.length≤3) && ts.all (isS L)
 | _=>false
def FtW (t:D):Prop:=ap t=true∧ca t≤5∧∀ z,t=.str z→z.length≤1000
def FtP (t:D):Prop:=ca t≤6∧∀ ts,t=.tuple ts→ts.length≤1000∧∀ x∈ts,FtW x
def FtS (t:D):Prop:=ca t≤7∧∀ ts,t=.tuple ts→ts.length≤1000∧∀ x∈ts,FtP x
def FtL (t:D):Prop:=∀ ts,t=.tuple ts→ts.length≤1000∧∀ x∈ts,FtS x
structure TT (ks:List Str):Prop where
 n4:ks.length≤4
 l12:(aM ks).length≤12
 l1:1≤(aM ks).length
theorem pF {ks:List Str} (T:TT ks):joinD "" [tD ks]=some (.str (sgs ks)):=(mG (by have:=T.l12; omega) (by have:=T.n4; omega)).1
theorem mN {α:Type} (f:α→Bool):∀ l:List α,fX (l.map fun a=>.bool (f a))=some (l.map f)
 | []=>rfl
 | a :: l=>by
  show (fX (l.map fun a=>.bool (f a))).map (f a :: ·)=_
  rw [mN f l]
  rfl
theorem all_map {α:Type} (f:α→Bool) (l:List α):eK [.list (l.map fun a=>.bool (f a))]=some (.bool (l.all f)):=by
 show (fX _).map _=_
 rw [mN]
 show some (PyData.bool ((l.map f).all id))=_
 rw [List.all_map]
 rfl
theorem ku (f:Nat→Str):∀ n x,(x∈bq f n↔∃ i,i < n∧f i=x)
 | 0,x=>by simp [bq]
 | n+1,x=>by
  have ih:=ku f n
  rw [gC]
  by_cases q:(bq f n).any (· == f n)=true
  ·rw [if_pos q,ih]
   constructor
   ·rintro ⟨i,h,e⟩; exact ⟨i,by omega,e⟩
   ·rintro ⟨i,h,e⟩
    by_cases hi:i=n
    ·subst hi
     obtain ⟨y,hy,e2⟩:=List.any_eq_true.mp q
     have e3:y=f i:=by simpa using e2
     rw [← e,← e3]
     exact (ih y).mp hy
    ·exact ⟨i,by omega,e⟩
  ·rw [if_neg q,List.mem_append,ih,List.mem_singleton]
   constructor
   ·rintro (⟨i,h,e⟩ | e)
    ·exact ⟨i,by omega,e⟩
    ·exact ⟨n,by omega,e.symm⟩
   ·rintro ⟨i,h,e⟩
    by_cases hi:i=n
    ·subst hi; exact .inr e.symm
    ·exact .inl ⟨i,by omega,e⟩
theorem mD (f:Nat→Str):∀ n,((bq f n).length=n↔((List.range n).map f).Nodup)
 | 0=>by simp [bq]
 | n+1=>by
  have ih:=mD f n
  have le:=jR f n
  rw [nM,List.range_succ,List.map_append,List.nodup_append]
  by_cases q:(bq f n).any (· == f n)=true
  ·rw [if_pos q]
   constructor
   ·intro h; omega
   ·rintro ⟨_,_,h⟩
    obtain ⟨y,hy,e2⟩:=List.any_eq_true.mp q
    have e3:y=f n:=by simpa using e2
    obtain ⟨i,hi,e⟩:=(ku f n y).mp hy
    exact absurd (e.trans e3) (h (f i) (List.mem_map.mpr ⟨i,List.mem_range.mpr hi,rfl⟩) (f n) (by simp))
  ·rw [if_neg q]
   constructor
   ·intro h
    refine ⟨ih.mp (by omega),by simp,fun a ha b hb e=>q ?_⟩
    obtain ⟨i,hi,rfl⟩:=List.mem_map.mp ha
    have hb':b=f n:=by simpa using hb
    refine List.any_eq_true.mpr ⟨f i,(ku f n _).mpr ⟨i,List.mem_range.mp hi,rfl⟩,?_⟩
    rw [e,hb']
    exact beq_self_eq_true _
   ·rintro ⟨h,_,_⟩
    have:=ih.mpr h
    omega
theorem rE (ys:List Str):(List.range ys.length).map (cz ys)=ys:=by
 apply List.ext_getElem
 ·rw [List.length_map,List.length_range]
 ·intro i h1 h2
  rw [List.getElem_map,List.getElem_range]
  unfold cz
  rw [List.getD_eq_getElem?_getD,List.getElem?_eq_getElem h2]
  rfl
theorem mj {L:List Nat}:∀ {ts:List D},ts.all (isW L)=true→ts=(ts.map txt).map .str
 | [],_=>rfl
 | t :: ts,h=>by
  rw [List.all_cons,Bool.and_eq_true] at h
  rw [List.map_cons,List.map_cons,← mj h.2]
  cases t with
  | str z=>rfl
  | _=>cases h.1
section
variable {ks:List Str}
theorem rm {ys:List Str} (h:ys.length≤1000):W (cy [.tuple (ys.map .str)]) (fun r=>r=(.bool (decide ys.Nodup),[none])):=by
 have e:jS (.tuple (ys.map .str))=some (.int (bq (cz ys) ys.length).length):=by
  show (joinD.strsOf _).bind _=_
  rw [fZ]
  show grd _ _=_
  unfold grd
  rw [if_pos (by omega)]
 have e2:decide (((bq (cz ys) ys.length).length:Int)=(ys.length:Int))=decide ys.Nodup:=by
  have:=mD (cz ys) ys.length
  rw [rE] at this
  rw [decide_eq_decide,← this]
  omega
 simp only [cy,h8,ws,e,e2]
theorem El (T:TT ks):W (dO [tD ks]) (fun r=>r=(.str (sgs ks),[none])):=by
 simp only [dO,jM,ws,pF T]
theorem sj (T:TT ks) {z:Str} (hz:z.length≤1000):W (cH [tD ks,.str z]) (fun r=>r=(.bool (decide (z.length≤60) && (li z).all fun c=>decide (c∈aM ks)),[none,none])):=by
 by_cases h1:(60:Int) < (z.length:Nat)
 ·have h2:decide (z.length≤60)=false:=decide_eq_false (by omega)
  simp only [cH,gl,ws,h1,h2]
  exact ⟨sz (by omega),by simp⟩
 ·have h2:decide (z.length≤60)=true:=decide_eq_true (by omega)
  simp only [cH,gl,ws,h1,h2]
  refine ⟨sz (by omega),?_⟩
  refine W.use (El T) ?_
  rintro _ rfl
  simp only [ws]
  have hl:(eS z).length=z.length:=by unfold eS; rw [List.length_map]; exact Array.length_toList
  have e0:eS z=(li z).map s1:=rfl
  rw [e0]
  refine fm (fun t=>match t with | .str y=>.bool (df (sgs ks) y) | _=>.none) (by rw [← e0,hl]; exact sz (by omega)) (fun t ht=>?_) fun o'=>?_
  ·obtain ⟨c,hc,rfl⟩:=List.mem_map.mp ht
   simp only [lH,ws]
  ·rw [List.map_map]
   have e:∀ c:Nat,df (sgs ks) (mk1 c)=decide (c∈aM ks):=fun c=>StrLaws.found_one (sgs ks) c
   have e1:=all_map (fun c:Nat=>decide (c∈aM ks)) (li z)
   have e2:(li z).map ((fun t:D=>match t with | .str y=>(.bool (df (sgs ks) y):D) | _=>.none) ∘ s1)=(li z).map fun a=>.bool (decide (a∈aM ks)):=by
    refine List.map_congr_left fun c _=>?_
    show PyData.bool (df (sgs ks) (mk1 c))=_
    rw [e c]
   rw [e2]
   simp only [ws,e1]
   simp
theorem AI (T:TT ks) {t:D} (h:FtW t):W (bN [tD ks,t]) (fun r=>r=(.bool (isW (aM ks) t),[none,none])):=by
 cases t with
 | str z =>
  simp only [bN,dy,ws]
  refine W.use (sj T (h.2.2 z rfl)) ?_
  rintro _ rfl
  have hz:=h.2.2 z rfl
  have ll:(li z).length=z.length:=Array.length_toList
  unfold isW
  cases ha:(li z).all fun c=>decide (c∈aM ks)
  ·simp only [ws,ha,Bool.and_false]
  ·by_cases h6:z.length≤60
   ·have q:decide (z.length≤60)=true:=decide_eq_true h6
    simp only [ws,ha,q,Bool.and_true,ll]
    refine ⟨sz (by omega),?_⟩
    by_cases a:(1:Int)≤(z.length:Nat)
    ·have a2:decide (1≤z.length)=true:=decide_eq_true (by omega)
     have b2:decide (((z.length:Nat):Int)≤6)=decide (z.length≤6):=by rw [decide_eq_decide]; omega
     simp only [ws,a,a2,b2,Bool.true_and]
    ·have a2:decide (1≤z.length)=false:=decide_eq_false (by omega)
     simp only [ws,a,a2,Bool.false_and]
   ·have q:decide (z.length≤60)=false:=decide_eq_false h6
    have q2:decide ((li z).length≤6)=false:=decide_eq_false (by omega)
    simp only [ws,q,q2,Bool.false_and,Bool.and_false]
 | _=>simp only [bN,dy,cH,gl,ws,isW]
theorem FtP.its {ts:List D} (h:FtP (.tuple ts)):ts.length≤1000∧∀ x∈ts,FtW x:=h.2 ts rfl
theorem FtS.its {ts:List D} (h:FtS (.tuple ts)):ts.length≤1000∧∀ x∈ts,FtP x:=h.2 ts rfl
theorem FtL.its {ts:List D} (h:FtL (.tuple ts)):ts.length≤1000∧∀ x∈ts,FtS x:=h ts rfl
theorem sn (T:TT ks) {t:D} (h:FtP t):W (cJ [tD ks,t]) (fun r=>r=(.bool (isP (aM ks) t),[none,none])):=by
 cases t with
 | tuple ts =>
  obtain ⟨hl,hw⟩:=h.its
  unfold isP
  by_cases h1:(12:Int) < (ts.length:Nat)
  ·have q:decide (ts.length≤12)=false:=decide_eq_false (by omega)
   simp only [cJ,gn,ws,h1,q,Bool.false_and]
  ·have q:decide (ts.length≤12)=true:=decide_eq_true (by omega)
   simp only [cJ,gn,ws,h1,q,Bool.true_and]
   refine fm (fun t=>.bool (isW (aM ks) t)) (sz (by omega)) (fun t ht=>?_) fun o'=>?_
   ·simp only [lM,ws]
    refine W.use (AI T (hw t ht)) ?_
    rintro _ rfl
    simp only [ws]
   ·have e:=all_map (isW (aM ks)) ts
    simp only [ws,e]
    cases ha:ts.all (isW (aM ks)) with
    | false=>simp only [ws,Bool.false_and]
    | true =>
     have e2:=mj ha
     simp only [ws,Bool.true_and]
     have e3:(PyData.tuple ts)=.tuple ((ts.map txt).map .str):=by rw [← e2]
     rw [e3]
     refine W.use (rm (by rw [List.length_map]; omega)) ?_
     rintro _ rfl
     simp only [ws]
 | _=>simp only [cJ,gn,ws,isP]
theorem u4 {ys:List Str} {y:Str} (hl:ys.length≤1000):W (bz [.tuple (ys.map .str),.str y]) (fun r=>r=(.list ((ys.filter fun w=>decide (li w <+: li y)).map .str),[none,none])):=by
 simp only [bz,db,ws]
 refine mT (fun t=>decide (li (txt t) <+: li y)) (fun t=>t) (by rw [List.length_map]; exact sz hl) (fun t ht=>?_) (fun t ht _=>?_) fun o'=>?_
 ·obtain ⟨w,hw,rfl⟩:=List.mem_map.mp ht
  have e:Txt.startswith y w=decide (li w <+: li y):=by
   rw [Bool.eq_iff_iff,iu,decide_eq_true_eq]
  simp only [eo,ws,e,txt]
  rfl
 ·simp only [et,ws]
 ·have e:List.map (fun t=>t) (List.filter (fun t=>decide (li (txt t) <+: li y)) (ys.map PyData.str))=(ys.filter fun w=>decide (li w <+: li y)).map .str:=by
   rw [List.map_id',List.filter_map]
   rfl
  rw [e]
  simp only [ws]
theorem gM:∀ ys:List Str,bO (ys.map PyData.str)=0
 | []=>rfl
 | y :: ys=>by
  rw [List.map_cons]
  simp only [bO,ca,gM ys]
  rfl
theorem ie:∀ ys:List Str,aC (ys.map PyData.str)=true
 | []=>rfl
 | y :: ys=>by
  rw [List.map_cons]
  simp only [aC,ap,ie ys]
  rfl
theorem km:∀ xs ys:List Str,cD (xs.map PyData.str) (ys.map PyData.str)=decide (xs=ys)
 | [],[]=>rfl
 | [],_ :: _=>rfl
 | _ :: _,[]=>rfl
 | x :: xs,y :: ys=>by
  simp only [List.map_cons,cD,peq,km xs ys,jP]
  by_cases h:x=y
  ·by_cases h2:xs=ys <;> simp [h,h2]
  ·simp [h]
theorem pO (xs ys:List Str):eqD (.list (xs.map .str)) (.list (ys.map .str))=some (.bool (decide (xs=ys))):=by
 show grd _ _=_
 unfold grd
 rw [if_pos ⟨by simp only [ap]; exact ie xs,by simp only [ap]; exact ie ys,by simp only [ca,gM]; decide⟩]
 simp only [peq,km]
theorem qI {α:Type} {l:List α} {p:α→Bool} {y:α} (nd:l.Nodup) (hy:y∈l) (py:p y=true) (h:∀ w∈l,p w=true→w=y):l.filter p=[y]:=by
 induction l with
 | nil=>cases hy
 | cons x l ih =>
  obtain ⟨n1,n2⟩:=List.nodup_cons.mp nd
  by_cases hx:x=y
  ·subst hx
   rw [List.filter_cons_of_pos py]
   congr 1
   rw [List.filter_eq_nil_iff]
   intro w hw hp
   exact n1 (h w (List.mem_cons_of_mem _ hw) hp ▸ hw)
  ·have hp:¬ p x=true:=fun z=>hx (h x List.mem_cons_self z)
   rw [List.filter_cons_of_neg hp]
   have hy':y∈l:=by
    rcases List.mem_cons.mp hy with e | e
    ·exact absurd e.symm hx
    ·exact e
   exact ih n2 hy' fun w hw=>h w (List.mem_cons_of_mem _ hw)
theorem uB {ys:List Str} (nd:ys.Nodup):(ys.all fun y=>decide ((ys.filter fun w=>decide (li w <+: li y))=[y]))=fr ys:=by
 unfold fr
 rw [Bool.eq_iff_iff,decide_eq_true_eq,List.all_eq_true]
 constructor
 ·intro h
  have key:∀ a∈ys,∀ b∈ys,a≠b→¬ li a <+: li b:=fun a ha b hb hne hp=>by
   have e:=of_decide_eq_true (h b hb)
   have:a∈ys.filter fun w=>decide (li w <+: li b):=List.mem_filter.mpr ⟨ha,decide_eq_true hp⟩
   rw [e] at this
   exact hne (List.mem_singleton.mp this)
  refine List.Pairwise.imp_of_mem ?_ nd
  intro a b ha hb hne
  exact ⟨key a ha b hb hne,key b hb a ha (Ne.symm hne)⟩
 ·intro h y hy
  refine decide_eq_true (qI nd hy (decide_eq_true (List.prefix_refl _)) fun w hw hp=>?_)
  have hp':li w <+: li y:=of_decide_eq_true hp
  refine Classical.byContradiction fun hne=>?_
  rcases List.mem_iff_getElem.mp hw with ⟨i,hi,rfl⟩
  rcases List.mem_iff_getElem.mp hy with ⟨j,hj,rfl⟩
  have hpw:=List.pairwise_iff_getElem.mp h
  rcases Nat.lt_trichotomy i j with hij | hij | hij
  ·exact (hpw i j hi hj hij).1 hp'
  ·subst hij; exact hne rfl
  ·exact (hpw j i hj hi hij).2 hp'
theorem Bf {ys:List Str} (nd:ys.Nodup) (hl:ys.length≤1000):W (bg [.tuple (ys.map .str)]) (fun r=>r=(.bool (fr ys),[none])):=by
 simp only [bg,cq,ws]
 refine fm (fun t=>.bool (decide ((ys.filter fun w=>decide (li w <+: li (txt t)))=[txt t]))) (by rw [List.length_map]; exact sz hl) (fun t ht=>?_) fun o'=>?_
 ·obtain ⟨y,hy,rfl⟩:=List.mem_map.mp ht
  simp only [dm,ws]
  refine W.use (u4 hl) ?_
  rintro _ rfl
  have e:=pO (ys.filter fun w=>decide (li w <+: li y)) [y]
  simp only [List.map_cons,List.map_nil] at e
  simp only [ws,e,txt]
  rfl
 ·rw [List.map_map]
  have e:=all_map (fun y=>decide ((ys.filter fun w=>decide (li w <+: li y))=[y])) ys
  have e2:List.map ((fun t=>PyData.bool (decide ((ys.filter fun w=>decide (li w <+: li (txt t)))=[txt t]))) ∘ PyData.str) ys=ys.map fun y=>.bool (decide ((ys.filter fun w=>decide (li w <+: li y))=[y])):=rfl
  rw [e2]
  simp only [ws,e,uB nd]
theorem uW {α:Type} (ts:List α) (h:1≤ts.length):b6 ts none (some (-1))=ts.dropLast:=by
 unfold b6
 have e1:HT.sIx ts.length ts.length (some (-1))=ts.length - 1:=by
  show (if (-1:Int) < 0 then (-1+(ts.length:Int)).toNat else min (-1:Int).toNat ts.length)=_
  rw [if_pos (by decide)]
  omega
 rw [e1,HT.sIx_none,List.dropLast_eq_take]
 simp
theorem sk (T:TT ks) {t:D} (h:FtS t):W (cn [tD ks,t]) (fun r=>r=(.bool (isS (aM ks) t),[none,none])):=by
 cases t with
 | tuple ts =>
  obtain ⟨hl,hp⟩:=h.its
  unfold isS
  by_cases h1:(1:Int)≤(ts.length:Nat)
  ·by_cases h5:((ts.length:Nat):Int)≤5
   ·have q1:decide (1≤ts.length)=true:=decide_eq_true (by omega)
    have q5:decide (ts.length≤5)=true:=decide_eq_true (by omega)
    simp only [cn,eR,ws,h1,h5,q1,q5,Bool.true_and]
    refine fm (fun t=>.bool (isP (aM ks) t)) (sz (by omega)) (fun t ht=>?_) fun o'=>?_
    ·simp only [lK,ws]
     refine W.use (sn T (hp t ht)) ?_
     rintro _ rfl
     simp only [ws]
    ·have e:=all_map (isP (aM ks)) ts
     simp only [ws,e]
     cases ha:ts.all (isP (aM ks)) with
     | false=>simp only [ws,Bool.false_and]
     | true =>
      have ha':=List.all_eq_true.mp ha
      have ec:b6 ts none (some (-1))=ts.dropLast:=uW ts (by omega)
      simp only [ws,Bool.true_and,ec]
      refine fm (fun t=>.bool (frD t)) (sz (by rw [List.length_dropLast]; omega)) (fun t ht=>?_) fun o'=>?_
      ·have hm:=List.dropLast_subset _ ht
       have hpt:=ha' t hm
       cases t with
       | tuple us =>
        unfold isP at hpt
        rw [Bool.and_eq_true,Bool.and_eq_true] at hpt
        have e2:=mj hpt.2.1
        have e3:(PyData.tuple us)=.tuple ((us.map txt).map .str):=by rw [← e2]
        simp only [lJ,ws,frD]
        rw [e3]
        refine W.use (Bf (of_decide_eq_true hpt.2.2) (by rw [List.length_map]; have:=of_decide_eq_true hpt.1; omega)) ?_
        rintro _ rfl
        simp only [ws]
       | _=>cases hpt
      ·have e4:=all_map frD ts.dropLast
       simp only [ws,e4]
   ·have q5:decide (ts.length≤5)=false:=decide_eq_false (by omega)
    simp only [cn,eR,ws,h1,h5,q5,Bool.false_and,Bool.and_false]
  ·have q1:decide (1≤ts.length)=false:=decide_eq_false (by omega)
   simp only [cn,eR,ws,h1,q1,Bool.false_and]
 | _=>simp only [cn,eR,ws,isS]
theorem sm (T:TT ks) {t:D} (h:FtL t):W (cI [tD ks,t]) (fun r=>r=(.bool (n6 (aM ks) t),[none,none])):=by
 cases t with
 | tuple ts =>
  obtain ⟨hl,hw⟩:=h.its
  unfold n6
  by_cases h1:(3:Int) < (ts.length:Nat)
  ·have q:decide (ts.length≤3)=false:=decide_eq_false (by omega)
   simp only [cI,gm,ws,h1,q,Bool.false_and]
  ·have q:decide (ts.length≤3)=true:=decide_eq_true (by omega)
   simp only [cI,gm,ws,h1,q,Bool.true_and]
   refine fm (fun t=>.bool (isS (aM ks) t)) (sz (by omega)) (fun t ht=>?_) fun o'=>?_
   ·simp only [lL,ws]
    refine W.use (sk T (hw t ht)) ?_
    rintro _ rfl
    simp only [ws]
   ·have e:=all_map (isS (aM ks)) ts
    simp only [ws,e]
 | _=>simp only [cI,gm,ws,n6]
end
end W58
namespace W58
open PySem L2 Tg
section
variable {ks:List Str}
theorem GR (L:List Nat) (z:Str):isW L (.str z)=(decide (1≤(li z).length) && (decide ((li z).length≤6) && (li z).all fun c=>decide (c∈L))):=rfl
theorem GU (L:List Nat) (ts:List D):isP L (.tuple ts)=(decide (ts.length≤12) && (ts.all (isW L) && decide ((ts.map txt).Nodup))):=rfl
theorem GT (L:List Nat) (ts:List D):isS L (.tuple ts)=(decide (1≤ts.length) && (decide (ts.length≤5) && (ts.all (isP L) && ts.dropLast.all frD))):=rfl
theorem Fc (L:List Nat) (ts:List D):n6 L (.tuple ts)=(decide (ts.length≤3) && ts.all (isS L)):=rfl
theorem Bg (xs:List Str):neD (.list (xs.map .str)) (.list [])=some (.bool (!decide (xs=[]))):=by
 show grd _ _=_
 unfold grd
 rw [if_pos ⟨by simp only [ap]; exact ie xs,rfl,by simp only [ca,gM]; decide⟩]
 have:=km xs []
 simp only [List.map_nil] at this
 simp only [peq,this]
theorem ky {n:Nat}:∀ {ts:List D},(∀ x∈ts,ca x≤n)→bO ts≤n
 | [],_=>Nat.zero_le _
 | t :: ts,h=>by
  have h1:=h t List.mem_cons_self
  have h2:=ky fun x hx=>h x (List.mem_cons_of_mem _ hx)
  simp only [bO]
  omega
theorem A7 (t:D) (z:Str):peq t (.str z)=match t with | .str y=>decide (y=z) | _=>false:=by
 cases t with
 | str y=>simp only [peq,jP]
 | none=>rfl
 | bool b=>rfl
 | int i=>rfl
 | list l=>simp only [peq]
 | tuple l=>simp only [peq]
 | dict l=>simp only [peq]
structure GW (ks:List Str) (m:Nat) (z:Str):Prop where
 l1:1≤(li z).length
 lm:(li z).length≤m
 mem:∀ c∈li z,c∈aM ks
theorem ll (z:Str):(li z).length=z.length:=Array.length_toList
theorem AQ (ks:List Str):(sgs ks).length=(aM ks).length:=Bj _
theorem rV (ks:List Str):li (sgs ks)=aM ks:=rfl
theorem pR (z:Str):∀ ys:List Str,((ys.map PyData.str).any fun t=>peq t (.str z))=decide (z∈ys)
 | []=>by simp
 | y :: ys=>by
  rw [List.map_cons,List.any_cons,pR z ys,A7]
  by_cases h:y=z
  ·simp [h]
  ·have h':¬ z=y:=fun e=>h e.symm
   simp [h,h']
theorem qh (z:Str) (ys:List Str):nJ (.str z) (.list (ys.map .str))=some (.bool (!decide (z∈ys))):=by
 show grd _ _=_
 unfold grd
 rw [if_pos ⟨rfl,ie ys,by rw [gM]; decide⟩,pR]
theorem BI {ys:List Str} {z:Str} (h:fr ys=true) (hz:∀ y∈ys,¬ li y <+: li z∧¬ li z <+: li y):fr (ys++[z])=true:=by
 unfold fr at h ⊢
 rw [decide_eq_true_eq] at h ⊢
 rw [List.pairwise_append]
 refine ⟨h,List.pairwise_singleton _ _,fun a ha b hb=>?_⟩
 rw [List.mem_singleton.mp hb]
 exact hz a ha
def Gs (b:Bool) (ys:List Str):Prop:=b=false→fr ys=true
structure GP (ks:List Str) (free:Bool) (ys:List Str):Prop where
 l12:ys.length≤12
 w:∀ y∈ys,GW ks 6 y
 nd:ys.Nodup
 fre:free=false→fr ys=true
def pD (ys:List Str):D:=.tuple (ys.map .str)
def sD (ps:List (List Str)):D:=.tuple (ps.map pD)
structure GS (ks:List Str) (ps:List (List Str)):Prop where
 l1:1≤ps.length
 l5:ps.length≤5
 w:∀ ys∈ps,GP ks true ys
 fre:∀ ys∈ps.dropLast,fr ys=true
theorem GP.tru {b:Bool} {ys:List Str} (h:GP ks b ys):GP ks true ys:=⟨h.l12,h.w,h.nd,fun z=>by cases z⟩
theorem BA {z:Str} (h:(li z).length≤1000):FtW (.str z):=⟨rfl,by simp [ca],fun z' e=>by cases e; rw [← ll]; exact h⟩
theorem BC {ts:List D} (hl:ts.length≤1000) (h:∀ x∈ts,FtW x):FtP (.tuple ts):=⟨by
 have:=ky (n:=5) fun x hx=>(h x hx).2.1
 simp only [ca]
 omega,fun us e=>by cases e; exact ⟨hl,h⟩⟩
theorem BB {ts:List D} (hl:ts.length≤1000) (h:∀ x∈ts,FtP x):FtS (.tuple ts):=⟨by
 have:=ky (n:=6) fun x hx=>(h x hx).1
 simp only [ca]
 omega,fun us e=>by cases e; exact ⟨hl,h⟩⟩
theorem BD {ts:List D} (hl:ts.length≤1000) (h:∀ x∈ts,FtS x):FtL (.tuple ts):=fun us e=>by cases e; exact ⟨hl,h⟩
theorem GP.ft {b:Bool} {ys:List Str} (h:GP ks b ys):FtP (pD ys):=BC (by rw [List.length_map]; have:=h.l12; omega) fun x hx=>by
 obtain ⟨y,hy,rfl⟩:=List.mem_map.mp hx
 exact BA (by have:=(h.w y hy).lm; omega)
theorem GS.ft {ps:List (List Str)} (h:GS ks ps):FtS (sD ps):=BB (by rw [List.length_map]; have:=h.l5; omega) fun x hx=>by
 obtain ⟨y,hy,rfl⟩:=List.mem_map.mp hx
 exact (h.w y hy).ft
theorem GW.is {z:Str} (h:GW ks 6 z):isW (aM ks) (.str z)=true:=by
 rw [GR,decide_eq_true h.l1,decide_eq_true h.lm,Bool.true_and,Bool.true_and,List.all_eq_true]
 exact fun c hc=>decide_eq_true (h.mem c hc)
theorem lQ (ys:List Str):(ys.map PyData.str).map txt=ys:=by
 rw [List.map_map]
 exact List.map_id _
theorem GP.is {b:Bool} {ys:List Str} (h:GP ks b ys):isP (aM ks) (pD ys)=true:=by
 unfold pD
 rw [GU,List.length_map,decide_eq_true h.l12,Bool.true_and,lQ,decide_eq_true h.nd,Bool.and_true,List.all_eq_true]
 intro x hx
 obtain ⟨y,hy,rfl⟩:=List.mem_map.mp hx
 exact (h.w y hy).is
theorem GS.is {ps:List (List Str)} (h:GS ks ps):isS (aM ks) (sD ps)=true:=by
 unfold sD
 rw [GT,List.length_map,decide_eq_true h.l1,decide_eq_true h.l5,Bool.true_and,Bool.true_and,Bool.and_eq_true,List.all_eq_true,List.all_eq_true]
 refine ⟨fun x hx=>?_,fun x hx=>?_⟩
 ·obtain ⟨y,hy,rfl⟩:=List.mem_map.mp hx
  exact (h.w y hy).is
 ·rw [← List.map_dropLast] at hx
  obtain ⟨y,hy,rfl⟩:=List.mem_map.mp hx
  show fr ((y.map PyData.str).map txt)=true
  rw [lQ]
  exact h.fre y hy
end
end W58
namespace W58
open PySem L2 Tg
def okc (c:Nat):Prop:=c≠32∧c≠10∧c < 256
instance (c:Nat):Decidable (okc c):=by unfold okc; infer_instance
structure TX (ks:List Str):Prop where
 t:TT ks
 c:∀ c∈aM ks,okc c
def pool:List Nat:=li "!\"#$&'()*+,-./0123456789:;<=>?\x40[\\]^_`{|}~"++li "ABCDEFGHIJKLMNOPQRSTUVWXYZabcdefghijklmnopqrstuvwxyz"
theorem tT:pool.length=93:=by decide +kernel
theorem A2:∀ c∈pool,okc c:=by decide +kernel
theorem A1 {n m:Nat} {left:List Nat} {p:D} {Q:List D × En→Prop} (hp:Pn n p) (hn:n≤1000) (h1:m≤12) (hl:left.length=93) (hc:∀ c∈left,okc c)
  (hq:∀ (cs:List Nat) o' p' l',cs.length=m→(∀ c∈cs,okc c)→Pn (n+12) p'→Q (cs.map s1,[o',some p',l'])):W (lcF (gN 0) cY eQ (jg 0 m) [] [none,some p,some (.list (left.map s1))]) Q:=by
 refine mq (fun i us en=>∃ (cs lf:List Nat) (o:Option D) (p:D),us=cs.map s1∧en=[o,some p,some (.list (lf.map s1))]∧cs.length=i∧lf.length+i=93∧(∀ c∈cs,okc c)∧(∀ c∈lf,okc c)∧Pn (n+i) p) (by rw [cv]; exact sz (by omega)) ⟨[],left,none,p,rfl,rfl,rfl,hl,by simp,hc,hp⟩ ?_ ?_
 ·rintro i t us en ht hu ⟨cs,lf,o,p,rfl,rfl,g1,g2,g3,g4,hp⟩
  obtain ⟨hi,rfl⟩:=fW ht
  simp only [ws,eQ]
  refine cu hp (by omega) (by omega) (by omega) fun r p' r0 r1 hp'=>?_
  obtain ⟨k,rfl⟩:=Int.eq_ofNat_of_zero_le r0
  have hk:k < lf.length:=by omega
  simp only [ws,Hw hk]
  refine ⟨by omega,cs++[lf[k]],lf.eraseIdx k,_,p',by rw [List.map_append]; rfl,rfl,by rw [List.length_append,g1]; rfl,by rw [List.length_eraseIdx_of_lt hk]; omega,fun c hc=>?_,fun c hc=>g4 c (List.mem_of_mem_eraseIdx hc),hp'⟩
  rcases List.mem_append.mp hc with hc | hc
  ·exact g3 c hc
  ·rw [List.mem_singleton.mp hc]; exact g4 _ (List.getElem_mem hk)
 ·rintro us en hu ⟨cs,lf,o,p,rfl,rfl,g1,g2,g3,g4,hp⟩
  rw [cv] at g1 g2 hp
  exact hq cs o p _ g1 g3 (hp.mono (by omega))
theorem GN (cs:List Nat):neD (.list (cs.map s1)) (.list [])=some (.bool (!decide (cs=[]))):=by
 have e:(cs.map s1)=(cs.map mk1).map PyData.str:=by rw [List.map_map]; rfl
 have h:=Bg (cs.map mk1)
 rw [e,h]
 congr 3
 rw [decide_eq_decide,List.map_eq_nil_iff]
theorem ug {n m:Nat} {cs:List Nat} {p:D} {x1 x2 x5:Option D} (hp:Pn n p) (hn:n≤1000) (hm:cs.length=m) (h1:1≤m) (h12:m≤12) (hc:∀ c∈cs,okc c) {Q:Fl→Prop}
  (h:∀ ks p' o3 o5,TX ks→Pn (n+12) p'→Q (.nx [some p',x1,x2,o3,some (.list (ks.map .str)),o5])) :
  W (bW cS eL [some p,x1,x2,some (.list (cs.map s1)),some (.list []),x5]) Q:=by
 refine pS (fun d en=>∃ p' left ks o5,en=[some p',x1,x2,some (.list (left.map s1)),some (.list (ks.map .str)),o5]∧left.length=d∧(aM ks).length+left.length=m∧left.length+6 * ks.length≤24∧ks.length≤4∧Pn (n+ks.length) p'∧(∀ c∈aM ks,okc c)∧∀ c∈left,okc c) (fun d en ⟨p',left,ks,o5,e,g1,g2,g3,g4,g5,g6,g7⟩=>?_) (n:=cs.length) ⟨p,cs,[],x5,rfl,rfl,by simp [aM,hm],by simp; omega,by simp,hp,by simp [aM],hc⟩
 subst e
 have e0:=GN left
 by_cases hl:left=[]
 ·have q:decide (left=[])=true:=decide_eq_true hl
  simp only [ws,cS,e0,q]
  have l0:left.length=0:=by rw [hl]; rfl
  exact h ks p' _ _ ⟨⟨g4,by omega,by omega⟩,g6⟩ (g5.mono (by omega))
 ·have q:decide (left=[])=false:=decide_eq_false hl
  have lp:0 < left.length:=List.length_pos_iff.mpr hl
  simp only [ws,cS,e0,q,eL]
  obtain ⟨mo,hmo⟩:∃ mo:Int,(if (left.length:Int) < 6 then (left.length:Int) else 6)=mo:=⟨_,rfl⟩
  have hm':1≤mo∧mo≤left.length∧mo≤6:=by rw [← hmo]; split <;> omega
  rw [hmo]
  refine cu g5 (by omega) (by omega) (by omega) fun r p1 r0 r1 hp1=>?_
  simp only [ws,gt_iff_lt]
  refine ⟨.inl (by decide),?_⟩
  obtain ⟨z,hz⟩:∃ z:Nat,(if 1+r < (left.length:Int) - 6 * (3 - (ks.length:Int)) then (left.length:Int) - 6 * (3 - (ks.length:Int)) else 1+r)=(z:Int)∧1≤z∧z≤left.length∧(left.length:Int) - 6 * (3 - (ks.length:Int))≤z:=by
   split
   ·exact ⟨((left.length:Int) - 6 * (3 - (ks.length:Int))).toNat,by omega,by omega,by omega,by omega⟩
   ·exact ⟨(1+r).toNat,by omega,by omega,by omega,by omega⟩
  obtain ⟨hz,z1,zl,z3⟩:=hz
  have st:left.take z++left.drop z=left:=List.take_append_drop z left
  have tl:(left.take z).length=z:=by rw [List.length_take]; omega
  have dl:(left.drop z).length=left.length - z:=List.length_drop
  simp only [ws,hz,qS,qT,← List.map_take,← List.map_drop,pE (cs:=left.take z) (by omega)]
  refine ⟨szl (by omega),(left.drop z).length,by omega,p1,left.drop z,ks++[ofL (left.take z)],_,by rw [List.map_append]; rfl,rfl,?_,?_,?_,hp1.mono (by rw [List.length_append]; show _≤n+(_+1); omega),fun c hc=>?_,fun c hc=>g7 c (List.mem_of_mem_drop hc)⟩
  ·rw [mS,rW,List.length_append,tl,dl]
   omega
  ·rw [List.length_append,dl]
   show _+6 * (_+1)≤24
   omega
  ·rw [List.length_append]
   show _+1≤4
   omega
  ·rw [mS,rW] at hc
   rcases List.mem_append.mp hc with hc | hc
   ·exact g6 c hc
   ·exact g7 c (List.mem_of_mem_take hc)
theorem rp {p:D} {n m:Nat} (hp:Pn n p) (hn:n≤900) (h1:1≤m) (h12:m≤12):W (cc [p,.int (m:Nat)]) (fun r=>∃ ks p',r=(tD ks,[some p',none])∧TX ks∧Pn (n+24) p'):=by
 have e1:=mE (z:="!\"#$&'()*+,-./0123456789:;<=>?\x40[\\]^_`{|}~") (by decide +kernel)
 have e2:=mE (z:="ABCDEFGHIJKLMNOPQRSTUVWXYZabcdefghijklmnopqrstuvwxyz") (by decide +kernel)
 have ep:(li "!\"#$&'()*+,-./0123456789:;<=>?\x40[\\]^_`{|}~").map s1++(li "ABCDEFGHIJKLMNOPQRSTUVWXYZabcdefghijklmnopqrstuvwxyz").map s1=pool.map s1:=by rw [← List.map_append]; rfl
 simp only [cc,gq,ws,e1,e2,ep,Int.toNat_natCast]
 refine ⟨sz (by decide +kernel),by omega,A1 hp (by omega) h12 tT A2 fun cs o' p' l' hl hc hp'=>?_⟩
 simp only [ws]
 refine ug hp' (by omega) hl h1 h12 hc fun ks p2 o3 o5 hT hp2=>?_
 simp only [ws]
 exact ⟨ks,p2,rfl,hT,hp2.mono (by omega)⟩
theorem Cl {α:Type} {l:List α} {r:Int} (h0:0≤r) (h1:r < l.length):∃ x,atI l r=some x∧x∈l:=by
 obtain ⟨k,rfl⟩:=Int.eq_ofNat_of_zero_le h0
 have hk:k < l.length:=by omega
 exact ⟨l[k],by rw [bf,List.getElem?_eq_getElem hk],List.getElem_mem hk⟩
theorem u5 {α:Type} {l:List α} {r:Int} {Q:α→Prop} (h0:0≤r) (h1:r < l.length) (h:∀ x∈l,Q x):W (atI l r) Q:=by
 obtain ⟨x,e,hx⟩:=Cl h0 h1
 exact W.of e (h x hx)
theorem Go {p:D} {n:Nat} (hp:Pn n p) (hn:n≤800):W (bE [p]) (fun r=>∃ ks p',r=(tD ks,[some p'])∧TX ks∧Pn (n+40) p'):=by
 simp only [bE,dH,ws]
 refine cu hp (by omega) (by decide) (by decide) fun r p1 r0 r1 hp1=>?_
 by_cases hr:r=0
 ·simp only [ws,hr]
  refine cu hp1 (by omega) (by decide) (by decide) fun q p2 q0 q1 hp2=>?_
  simp only [ws]
  refine u5 q0 q1 fun x hx=>?_
  simp only [ws]
  simp only [List.mem_cons,List.not_mem_nil,or_false] at hx
  have fin:∀ (ks:List Str),x=tD ks→TX ks→∃ ks p',(x,[some p2])=(tD ks,[some p'])∧TX ks∧Pn (n+40) p':=fun ks e hT=>⟨ks,p2,by rw [e],hT,hp2.mono (by omega)⟩
  rcases hx with h | h | h | h | h | h | h
  ·exact fin ["-"] h ⟨⟨by decide,by decide +kernel,by decide +kernel⟩,by decide +kernel⟩
  ·exact fin ["0", "1", "-"] h ⟨⟨by decide,by decide +kernel,by decide +kernel⟩,by decide +kernel⟩
  ·exact fin ["long", "-01"] h ⟨⟨by decide,by decide +kernel,by decide +kernel⟩,by decide +kernel⟩
  ·exact fin ["ends", "012", "-"] h ⟨⟨by decide,by decide +kernel,by decide +kernel⟩,by decide +kernel⟩
  ·exact fin ["not", "hbi", "0-e", "|"] h ⟨⟨by decide,by decide +kernel,by decide +kernel⟩,by decide +kernel⟩
  ·exact fin ["1"] h ⟨⟨by decide,by decide +kernel,by decide +kernel⟩,by decide +kernel⟩
  ·exact fin ["apr", "t-0123", "'\"\\"] h ⟨⟨by decide,by decide +kernel,by decide +kernel⟩,by decide +kernel⟩
 ·simp only [ws,hr]
  refine cu hp1 (by omega) (by decide) (by decide) fun q p2 q0 q1 hp2=>?_
  simp only [ws]
  refine cu hp2 (by omega) (by decide) (by decide) fun a p3 a0 a1 hp3=>?_
  simp only [ws]
  refine u5 a0 a1 fun x hx=>?_
  obtain ⟨m,rfl,m1,m12⟩:∃ m:Nat,x=.int (m:Nat)∧1≤m∧m≤12:=by
   simp only [List.mem_cons,List.not_mem_nil,or_false] at hx
   rcases hx with h | h | h | h | h | h | h | h
   ·exact ⟨2,h,by decide,by decide⟩
   ·exact ⟨3,h,by decide,by decide⟩
   ·exact ⟨4,h,by decide,by decide⟩
   ·exact ⟨1,h,by decide,by decide⟩
   ·exact ⟨6,h,by decide,by decide⟩
   ·exact ⟨12,h,by decide,by decide⟩
   ·exact ⟨5,h,by decide,by decide⟩
   ·exact ⟨(1+q).toNat,by rw [h]; congr 1; omega,by omega,by omega⟩
  simp only [ws]
  refine W.use (rp hp3 (by omega) m1 m12) ?_
  rintro _ ⟨ks,p4,rfl,hT,hp4⟩
  simp only [ws]
  exact ⟨ks,p4,rfl,hT,hp4.mono (by omega)⟩
end W58
namespace W58
open PySem L2 Tg
section
variable {ks:List Str}
theorem Gn {z:Str} {k:Nat} (h:k < (li z).length):atI (li z) (k:Int)=some (li z)[k]:=by
 rw [bf,List.getElem?_eq_getElem h]
theorem AH (T:TX ks) {p:D} {n m:Nat} (hp:Pn n p) (hn:n≤100000) (hm:m≤6) {Q:List D × En→Prop}
  (h:∀ (cs:List Nat) o p',cs.length=m→(∀ c∈cs,c∈aM ks)→Pn (n+6) p'→Q (cs.map s1,[o,some p',some (.str (sgs ks))])) :
  W (lcF (gN 0) cY gj (jg 0 m) [] [none,some p,some (.str (sgs ks))]) Q:=by
 have t1:=T.t.l1
 have t12:=T.t.l12
 have sl:=AQ ks
 refine mq (fun i us en=>∃ (cs:List Nat) (o:Option D) (p':D),us=cs.map s1∧en=[o,some p',some (.str (sgs ks))]∧cs.length=i∧(∀ c∈cs,c∈aM ks)∧Pn (n+i) p') (by rw [cv]; exact sz (by omega)) ⟨[],none,p,rfl,rfl,rfl,by simp,hp⟩ (fun i t us en ht hu ⟨cs,o,p',e1,e2,h1,h2,h3⟩=>?_) fun us en _ ⟨cs,o,p',e1,e2,h1,h2,h3⟩=>?_
 ·obtain ⟨hi,rfl⟩:=fW ht
  subst e1 e2
  simp only [ws,gj]
  refine ⟨sz (by omega),cu h3 (by omega) (by omega) (by omega) fun r p2 r0 r1 hp2=>?_⟩
  obtain ⟨k,rfl⟩:=Int.eq_ofNat_of_zero_le r0
  have hk:k < (li (sgs ks)).length:=by rw [rV]; omega
  have ek:=Gn hk
  simp only [ws,ek]
  refine ⟨sz (by omega),cs++[(li (sgs ks))[k]],_,p2,by rw [List.map_append]; rfl,rfl,by rw [List.length_append,h1]; rfl,fun c hc=>?_,hp2⟩
  rcases List.mem_append.mp hc with hc | hc
  ·exact h2 c hc
  ·rw [List.mem_singleton.mp hc,← rV ks]
   exact List.getElem_mem hk
 ·subst e1 e2
  rw [cv] at h1 h3
  exact h cs o p' h1 h2 (h3.mono (by omega))
theorem Bc (T:TX ks) {p:D} {n:Nat} {b:Bool} (hp:Pn n p) (hn:n≤50000):W (cW [p,.str (sgs ks),.bool b]) (fun r=>∃ ys p',r=(.tuple (ys.map .str),[some p',none,none])∧GP ks b ys∧Pn (n+120) p'):=by
 simp only [cW,i6,ws]
 refine cu hp (by omega) (by decide) (by decide) fun a p1 a0 a1 hp1=>?_
 simp only [ws]
 refine u5 a0 a1 fun x hx=>?_
 obtain ⟨m,rfl,hm⟩:∃ m:Nat,x=.int (m:Nat)∧m≤14:=by
  simp only [List.mem_cons,List.not_mem_nil,or_false] at hx
  rcases hx with h | h | h | h | h | h | h | h
  ·exact ⟨0,h,by decide⟩
  ·exact ⟨1,h,by decide⟩
  ·exact ⟨2,h,by decide⟩
  ·exact ⟨3,h,by decide⟩
  ·exact ⟨5,h,by decide⟩
  ·exact ⟨12,h,by decide⟩
  ·exact ⟨14,h,by decide⟩
  ·exact ⟨2,h,by decide⟩
 simp only [ws,Int.toNat_natCast]
 refine ⟨by omega,?_⟩
 refine lA (fun i en=>∃ p' ys o4 o5 o6,en=[some p',some (.str (sgs ks)),some (.bool b),some (.list (ys.map .str)),o4,o5,o6]∧Pn (n+1+7 * i) p'∧ys.length≤12∧(∀ y∈ys,GW ks 6 y)∧ys.Nodup∧Gs b ys) ⟨p1,[],none,none,none,rfl,hp1,by decide,by simp,List.nodup_nil,fun _=>rfl⟩ (fun i t en ht ⟨p',ys,o4,o5,o6,e,h1,h2,h3,h4,h5⟩=>?_) fun en ⟨p',ys,o4,o5,o6,e,h1,h2,h3,h4,h5⟩=>?_
 ·obtain ⟨hi,rfl⟩:=fW ht
  subst e
  simp only [ws,jI]
  refine cu h1 (by omega) (by decide) (by decide) fun r p2 r0 r1 hp2=>?_
  obtain ⟨k,rfl⟩:=Int.eq_ofNat_of_zero_le r0
  have ek:((1:Int)+(k:Int)).toNat=k+1:=by omega
  simp only [ws,ek]
  refine ⟨by omega,AH T hp2 (by omega) (by omega) fun cs o p3 hl hc hp3=>?_⟩
  have ej:=pE (cs:=cs) (by omega)
  simp only [ws,ej]
  have g6:GW ks 6 (ofL cs):=⟨by rw [qp]; omega,by rw [qp]; omega,by rw [qp]; exact hc⟩
  revert g6
  generalize ofL cs=z
  intro g6
  refine mT (fun t=>decide (li z <+: li (txt t)) || decide (li (txt t) <+: li z)) (fun t=>t) (by rw [List.length_map]; exact sz (by omega)) (fun t ht=>?_) (fun t ht _=>?_) fun o'=>?_
  ·obtain ⟨w,hw,rfl⟩:=List.mem_map.mp ht
   have s1':Txt.startswith w z=decide (li z <+: li w):=by rw [Bool.eq_iff_iff,iu,decide_eq_true_eq]
   have s2':Txt.startswith z w=decide (li w <+: li z):=by rw [Bool.eq_iff_iff,iu,decide_eq_true_eq]
   simp only [jB,ws,s1',txt]
   by_cases hq:li z <+: li w
   ·simp only [ws,hq,Bool.true_or]
   ·simp only [ws,hq,s2',Bool.false_or]
    rfl
  ·obtain ⟨w,hw,rfl⟩:=List.mem_map.mp ht
   exact W.of rfl rfl
  ·have e3:List.map (fun t=>t) (List.filter (fun t=>decide (li z <+: li (txt t)) || decide (li (txt t) <+: li z)) (ys.map PyData.str))=(ys.filter fun w=>decide (li z <+: li w) || decide (li w <+: li z)).map .str:=by
    rw [List.map_id',List.filter_map]
    rfl
   rw [e3]
   have en1:=qh z ys
   have e4:=pO (ys.filter fun w=>decide (li z <+: li w) || decide (li w <+: li z)) []
   simp only [List.map_nil] at e4
   have fin:∀ o4 o6 (ok:Bool),(ok=true→z ∉ ys∧ys.length < 12∧(b=false→∀ y∈ys,¬ li y <+: li z∧¬ li z <+: li y))→(kIf (dA (dF 3 (af 5))) bh (kIt (fun en=>∃ p' ys o4 o5 o6,en=[some p',some (.str (sgs ks)),some (.bool b),some (.list (ys.map .str)),o4,o5,o6]∧Pn (n+1+7 * (i+1)) p'∧ys.length≤12∧(∀ y∈ys,GW ks 6 y)∧ys.Nodup∧Gs b ys) (nU (aE (eN fY (ae (af 3) ag))) (kFn [1,0,0] fun r=>∃ ys p',r=(.tuple (ys.map .str),[some p',none,none])∧GP ks b ys∧Pn (n+120) p')))) (ok,[some p3,some (.str (sgs ks)),some (.bool b),some (.list (ys.map .str)),o4,some (.str z),o6]):=fun o4 o6 ok hok=>by
    cases ok with
    | true =>
     obtain ⟨k1,k3,k2⟩:=hok rfl
     simp only [ws]
     refine ⟨szl (by omega),p3,ys++[z],_,_,_,by rw [List.map_append]; rfl,hp3.mono (by omega),by rw [List.length_append]; show _+1≤_; omega,fun y hy=>?_,?_,fun hb=>BI (h5 hb) (k2 hb)⟩
     ·rcases List.mem_append.mp hy with q | q
      ·exact h3 y q
      ·rw [List.mem_singleton.mp q]; exact g6
     ·rw [List.nodup_append]
      refine ⟨h4,by simp,fun a ha c hc e=>?_⟩
      rw [List.mem_singleton.mp hc] at e
      exact k1 (e ▸ ha)
    | false =>
     simp only [ws]
     exact ⟨p3,ys,_,_,_,rfl,hp3.mono (by omega),h2,h3,h4,h5⟩
   have frees:decide ((ys.filter fun w=>decide (li z <+: li w) || decide (li w <+: li z))=[])=true→∀ y∈ys,¬ li y <+: li z∧¬ li z <+: li y:=fun h y hy=>by
    have h':=of_decide_eq_true h
    rw [List.filter_eq_nil_iff] at h'
    have:=h' y hy
    rw [Bool.or_eq_true,decide_eq_true_eq,decide_eq_true_eq,not_or] at this
    exact ⟨this.2,this.1⟩
   by_cases hz:z∈ys
   ·have q:decide (z∈ys)=true:=decide_eq_true hz
    simp only [ws,en1,q]
    have f:=fun o4 o6=>fin o4 o6 false (fun h=>by cases h)
    simp only [ws] at f
    exact f _ _
   ·have q:decide (z∈ys)=false:=decide_eq_false hz
    by_cases h12:(ys.length:Int) < 12
    ·cases b with
     | true =>
      simp only [ws,en1,q,h12]
      have f:=fun o4 o6=>fin o4 o6 true (fun _=>⟨hz,by omega,fun q=>by cases q⟩)
      simp only [ws] at f
      exact f _ _
     | false =>
      simp only [ws,en1,q,h12,e4]
      exact fin _ _ _ fun h=>⟨hz,by omega,fun _=>frees h⟩
    ·simp only [ws,en1,q,h12]
     have f:=fun o4 o6=>fin o4 o6 false (fun h=>by cases h)
     simp only [ws] at f
     exact f _ _
 ·subst e
  rw [cv] at h1
  simp only [ws]
  exact ⟨ys,p',rfl,⟨by omega,h3,h4,h5⟩,h1.mono (by omega)⟩
end
end W58
namespace W58
open PySem L2 Tg
section
variable {ks:List Str}
theorem tZ (T:TX ks) {p:D} {n m:Nat} (hp:Pn n p) (hn:n≤40000) (h1:1≤m) (h5:m≤5) {Q:List D × En→Prop}
  (h:∀ ps p' o,GS ks ps→Pn (n+600) p'→Q (ps.map pD,[o,some p',some (.str (sgs ks)),some (.int (m:Nat))])) :
  W (lcF (gN 0) cY gi (jg 0 m) [] [none,some p,some (.str (sgs ks)),some (.int (m:Nat))]) Q:=by
 refine mq (fun i us en=>∃ (ps:List (List Str)) (p':D) (o:Option D),us=ps.map pD∧en=[o,some p',some (.str (sgs ks)),some (.int (m:Nat))]∧Pn (n+120 * i) p'∧ps.length=i∧(∀ ys∈ps,GP ks true ys)∧∀ j ys,ps[j]?=some ys→j+1≠m→fr ys=true) (by rw [cv]; exact sz (by omega)) ⟨[],p,none,rfl,rfl,hp,rfl,by simp,by simp⟩ (fun i t us en ht hu ⟨ps,p',o,e1,e2,g1,g2,g3,g4⟩=>?_) fun us en _ ⟨ps,p',o,e1,e2,g1,g2,g3,g4⟩=>?_
 ·obtain ⟨hi,rfl⟩:=fW ht
  subst e1 e2
  simp only [ws,gi]
  refine W.use (Bc T g1 (by omega)) ?_
  rintro _ ⟨ys,p2,rfl,gp,hp2⟩
  simp only [ws]
  refine ⟨ps++[ys],p2,_,by rw [List.map_append]; rfl,rfl,hp2.mono (by omega),by rw [List.length_append,g2]; rfl,fun y hy=>?_,fun j y hj hjk=>?_⟩
  ·rcases List.mem_append.mp hy with q | q
   ·exact g3 y q
   ·rw [List.mem_singleton.mp q]; exact gp.tru
  ·rcases Nat.lt_or_ge j i with q | q
   ·rw [List.getElem?_append_left (by omega)] at hj
    exact g4 j y hj hjk
   ·have hl:=(List.getElem?_eq_some_iff.mp hj).1
    rw [List.length_append] at hl
    have:j=i:=by simp at hl; omega
    subst this
    rw [List.getElem?_append_right (by omega),g2,Nat.sub_self] at hj
    cases hj
    refine gp.fre (decide_eq_false ?_)
    omega
 ·subst e1 e2
  rw [cv] at g1 g2
  refine h ps p' o ⟨by omega,by omega,g3,fun ys hy=>?_⟩ (g1.mono (by omega))
  obtain ⟨j,hj,rfl⟩:=List.mem_iff_getElem.mp hy
  rw [List.length_dropLast] at hj
  rw [List.getElem_dropLast]
  exact g4 j _ (List.getElem?_eq_getElem (by omega)) (by omega)
structure GL (ks:List Str) (pls:List (List (List Str))):Prop where
 l3:pls.length≤3
 w:∀ ps∈pls,GS ks ps
theorem A4 (T:TX ks) {p:D} {n:Nat} (hp:Pn n p) (hn:n≤1000):W (cV [p,tD ks,.int 3]) (fun r=>∃ pls p',r=(.tuple (pls.map sD),[some p',none,none])∧GL ks pls∧Pn (n+2000) p'):=by
 simp only [cV,i5,ws,pF T.t]
 refine cu hp (by omega) (by decide) (by decide) fun r p1 r0 r1 hp1=>?_
 obtain ⟨m,rfl⟩:=Int.eq_ofNat_of_zero_le r0
 simp only [ws,Int.toNat_natCast]
 refine ⟨by omega,?_⟩
 refine lA (fun i en=>∃ p' pls o5 o6,en=[some p',some (tD ks),some (.int 3),some (.str (sgs ks)),some (.list (pls.map sD)),o5,o6]∧Pn (n+1+601 * i) p'∧pls.length=i∧∀ ps∈pls,GS ks ps) ⟨p1,[],none,none,rfl,hp1,rfl,by simp⟩ (fun i t en ht ⟨p',pls,o5,o6,e,g1,g2,g3⟩=>?_) fun en ⟨p',pls,o5,o6,e,g1,g2,g3⟩=>?_
 ·obtain ⟨hi,rfl⟩:=fW ht
  subst e
  simp only [ws,jH]
  refine cu g1 (by omega) (by decide) (by decide) fun r p2 r0 r1 hp2=>?_
  obtain ⟨k,rfl⟩:=Int.eq_ofNat_of_zero_le r0
  have ek:(1:Int)+(k:Int)=((k+1:Nat):Int):=by omega
  simp only [ws,ek,Int.toNat_natCast]
  refine ⟨by omega,tZ T hp2 (by omega) (by omega) (by omega) fun ps p3 o gs hp3=>?_⟩
  simp only [ws]
  refine ⟨szl (by omega),p3,pls++[ps],_,_,by rw [List.map_append]; rfl,hp3.mono (by omega),by rw [List.length_append,g2]; rfl,fun x hx=>?_⟩
  rcases List.mem_append.mp hx with hx | hx
  ·exact g3 x hx
  ·rw [List.mem_singleton.mp hx]; exact gs
 ·subst e
  rw [cv] at g1 g2
  simp only [ws]
  exact ⟨pls,p',rfl,⟨by omega,g3⟩,g1.mono (by omega)⟩
end
def jn (c:Nat):List (List Nat)→List Nat
 | []=>[]
 | [y]=>y
 | y :: z :: r=>y++c :: jn c (z :: r)
theorem Fb (c:Nat):∀ (ys zs:List (List Nat)),ys≠[]→zs≠[]→(∀ y∈ys,c ∉ y)→(∀ z∈zs,c ∉ z)→jn c ys=jn c zs→ys=zs:=by
 have key:∀ (a b x y:List Nat),c ∉ a→c ∉ b→a++c :: x=b++c :: y→a=b∧x=y:=by
  intro a
  induction a with
  | nil =>
   intro b x y _ hb e
   cases b with
   | nil=>simp at e; exact ⟨rfl,e⟩
   | cons d b=>simp at e; exact absurd e.1.symm (fun z=>hb (by rw [z]; exact List.mem_cons_self))
  | cons d a ih =>
   intro b x y ha hb e
   cases b with
   | nil=>simp at e; exact absurd e.1 (fun z=>ha (by rw [z]; exact List.mem_cons_self))
   | cons d' b =>
    simp at e
    obtain ⟨e1,e2⟩:=ih b x y (fun z=>ha (List.mem_cons_of_mem _ z)) (fun z=>hb (List.mem_cons_of_mem _ z)) e.2
    exact ⟨by rw [e.1,e1],e2⟩
 intro ys
 induction ys with
 | nil=>intro zs h; exact absurd rfl h
 | cons y ys ih =>
  intro zs _ hz hy hz' e
  cases zs with
  | nil=>exact absurd rfl hz
  | cons z zs =>
   have hy0:=hy y List.mem_cons_self
   have hz0:=hz' z List.mem_cons_self
   cases ys with
   | nil =>
    cases zs with
    | nil=>exact congrArg (fun a=>[a]) e
    | cons z2 zs =>
     have e':y=z++c :: jn c (z2 :: zs):=e
     exact absurd (by rw [e']; simp) hy0
   | cons y2 ys =>
    cases zs with
    | nil =>
     have e':y++c :: jn c (y2 :: ys)=z:=e
     exact absurd (by rw [← e']; simp) hz0
    | cons z2 zs =>
     obtain ⟨e1,e2⟩:=key y z _ _ hy0 hz0 e
     rw [e1,ih (z2 :: zs) (by simp) (by simp) (fun a ha=>hy a (List.mem_cons_of_mem _ ha)) (fun a ha=>hz' a (List.mem_cons_of_mem _ ha)) e2]
theorem rX (a b:Str):li (a++b)=li a++li b:=Array.toList_append
theorem eF (c:Nat):∀ ys:List Str,li (Str.join ⟨#[c]⟩ ys)=jn c (ys.map li)
 | []=>rfl
 | [y]=>by simp [Str.join,jn]
 | y :: z :: r=>by
  have ih:=eF c (z :: r)
  show li (Str.join ⟨#[c]⟩ (y :: z :: r))=li y++c :: jn c ((z :: r).map li)
  rw [← ih]
  rw [Str.join.eq_3 _ _ _ (by simp),rX,rX,List.append_assoc]
  rfl
theorem Bi {a b:Str} (h:li a=li b):a=b:=by
 obtain ⟨a⟩:=a
 obtain ⟨b⟩:=b
 congr 1
 exact Array.toList_inj.mp h
theorem tL (x y:Str):Txt.split x y≠[]:=by
 unfold Txt.split
 split
 ·simp
 ·split
  ·simp
  ·intro h
   have:=congrArg List.length h
   rw [PyProof.Rows.len_partsBetween] at this
   simp at this
theorem p7 {c:Nat} {ys:List Str} (hne:ys≠[]) (hf:∀ y∈ys,c ∉ li y):Txt.split (Str.join ⟨#[c]⟩ ys) ⟨#[c]⟩=ys:=by
 have h1:=StrLaws.join_split (Str.join ⟨#[c]⟩ ys) ⟨#[c]⟩
 have h2:=StrLaws.split_free (Str.join ⟨#[c]⟩ ys) c
 have h3:=tL (Str.join ⟨#[c]⟩ ys) ⟨#[c]⟩
 revert h1 h2 h3
 generalize Txt.split (Str.join ⟨#[c]⟩ ys) ⟨#[c]⟩=zs
 intro h1 h2 h3
 have h4:=congrArg li h1
 rw [eF,eF] at h4
 have h5:=Fb c _ _ (by simpa using h3) (by simpa using hne) (fun z hz=>by
  obtain ⟨w,hw,rfl⟩:=List.mem_map.mp hz
  exact h2 w hw) (fun z hz=>by
  obtain ⟨w,hw,rfl⟩:=List.mem_map.mp hz
  exact hf w hw) h4
 exact (List.map_inj_right fun a b h=>Bi h).mp h5
theorem nY (c B:Nat):∀ ls:List (List Nat),(∀ y∈ls,y.length≤B)→(jn c ls).length≤(B+1) * ls.length
 | [],_=>Nat.zero_le _
 | [y],h=>by
  have:=h y (by simp)
  show y.length≤(B+1) * 1
  omega
 | y :: z :: r,h=>by
  have h1:=h y (by simp)
  have h2:=nY c B (z :: r) fun a ha=>h a (List.mem_cons_of_mem _ ha)
  show (y++c :: jn c (z :: r)).length≤(B+1) * ((z :: r).length+1)
  rw [List.length_append,List.length_cons,Nat.mul_add]
  omega
theorem GQ (x:Str) {c:Nat} (hc:c < 256):decide (Builtin.Str.strKind x < Builtin.Str.strKind ⟨#[c]⟩)=false:=by
 have e:Builtin.Str.strKind ⟨#[c]⟩=1:=by
  unfold Builtin.Str.strKind
  rw [if_pos (by simp [hc])]
 rw [e]
 refine decide_eq_false fun h=>?_
 unfold Builtin.Str.strKind at h
 split at h
 ·omega
 ·split at h <;> omega
theorem mw {c B:Nat} {ys:List Str} {y0:Str} (hc:c < 256) (hne:ys.head?=some y0) (h0:1≤(li y0).length) (hf:∀ y∈ys,c ∉ li y) (hB:∀ y∈ys,(li y).length≤B) (hl:(B+1) * ys.length≤90000) (hl2:ys.length≤1000) :
  eZ (.str (Str.join ⟨#[c]⟩ ys)) (.str ⟨#[c]⟩)=some (.list (ys.map .str)):=by
 have hne':ys≠[]:=fun e=>by rw [e] at hne; cases hne
 have hs:=p7 hne' hf
 have hx:(Str.join ⟨#[c]⟩ ys).length≤90000:=by
  rw [← ll,eF]
  have:=nY c B (ys.map li) (fun y hy=>by
   obtain ⟨w,hw,rfl⟩:=List.mem_map.mp hy
   exact hB w hw)
  rw [List.length_map] at this
  omega
 have h1:1≤(Str.join ⟨#[c]⟩ ys).length:=by
  rw [← ll,eF]
  cases ys with
  | nil=>exact absurd rfl hne'
  | cons y ys =>
   cases hne
   cases ys with
   | nil=>exact h0
   | cons z zs =>
    show 1≤(li y0++c :: jn c ((z :: zs).map li)).length
    rw [List.length_append]
    omega
 have cond:(decide ((Str.join ⟨#[c]⟩ ys).length < (⟨#[c]⟩:Str).length) || decide (Builtin.Str.strKind (Str.join ⟨#[c]⟩ ys) < Builtin.Str.strKind ⟨#[c]⟩))=false:=by
  rw [GQ _ hc,Bool.or_false]
  exact decide_eq_false (by show ¬ _ < 1; omega)
 have e:h9 (Str.join ⟨#[c]⟩ ys) ⟨#[c]⟩=ys:=by
  rw [← hs]
  conv=>rhs; unfold Txt.split
  rw [hs,if_neg (by rw [cond]; exact Bool.false_ne_true)]
  rfl
 show grd _ _=_
 unfold grd
 rw [e,if_pos ⟨cond,rfl,by omega,by omega⟩]
theorem ph {B:Nat}:∀ {ys:List Str},(∀ y∈ys,(li y).length≤B)→(ys.map (·.length)).sum≤B * ys.length
 | [],_=>Nat.zero_le _
 | y :: ys,h=>by
  have h1:=h y (by simp)
  have h2:=ph (B:=B) (ys:=ys) fun z hz=>h z (List.mem_cons_of_mem _ hz)
  rw [ll] at h1
  rw [List.map_cons,List.sum_cons,List.length_cons,Nat.mul_add]
  omega
theorem iE {c B:Nat} {ys:List Str} (hB:∀ y∈ys,(li y).length≤B) (hl:(B+1) * ys.length≤90000):joinD ⟨#[c]⟩ [.list (ys.map .str)]=some (.str (Str.join ⟨#[c]⟩ ys)):=by
 have:=ph hB
 rw [Nat.add_mul] at hl
 show (joinD.strsOf (ys.map .str)).bind _=_
 rw [fZ]
 show (if _ then _ else _)=_
 rw [if_pos ⟨by show 1≤16; decide,by omega⟩]
 show some (PyData.str (Builtin.Str.glued _ _))=_
 rw [StrLaws.glued_eq_join]
end W58
namespace W58
open PySem L2 Tg
def num (n:Nat):Str:=toString (n:Int)
def nh (z:Str):Prop:=1≤(li z).length∧(li z).length≤2∧(∀ c∈li z,c∈li "0123456789")∧(z="0"∨Txt.startswith z "0"=false)
instance (z:Str):Decidable (nh z):=by unfold nh; infer_instance
theorem nI:∀ n,n < 13→nh (num n):=by decide +kernel
theorem GK:∀ n,n < 13→∀ c∈li (num n),okc c:=by decide +kernel
theorem Be:∀ n,n < 13→qF [.str (num n)]=some (.int (n:Nat)):=by
 intro n hn
 have:n=0∨n=1∨n=2∨n=3∨n=4∨n=5∨n=6∨n=7∨n=8∨n=9∨n=10∨n=11∨n=12:=by omega
 have key:∀ n,n < 13→(figs.find? fun p=>decide (p.1=num n))=some (num n,(n:Int)):=by decide +kernel
 show ((figs.find? fun p=>decide (p.1=num n)).map fun p=>PyData.int p.2)=_
 rw [key n hn]
 rfl
theorem pr {n:Nat} (h:n < 13):p5 [.int (n:Nat)]=some (.str (num n)):=by
 show grd _ _=_
 unfold grd
 rw [if_pos]
 ·rfl
 ·have:∀ n:Nat,n < 13→((n:Int)).natAbs.log2 < 1920:=by decide +kernel
  exact this n h
theorem ut {z:Str} (h:nh z):W (bM [.str z]) (fun r=>r=(.bool true,[none])):=by
 obtain ⟨h1,h2,h3,h4⟩:=h
 have lz:=ll z
 have a:(1:Int)≤(z.length:Nat):=by omega
 have b:((z.length:Nat):Int)≤80:=by omega
 simp only [bM,eg,ws,a,b]
 refine ⟨sz (by omega),?_⟩
 have e0:eS z=(li z).map s1:=rfl
 rw [e0]
 refine fm (fun _=>.bool true) (by rw [List.length_map]; exact sz (by omega)) (fun t ht=>?_) fun o'=>?_
 ·obtain ⟨c,hc,rfl⟩:=List.mem_map.mp ht
  have e:df "0123456789" (mk1 c)=true:=(StrLaws.found_one "0123456789" c).trans (decide_eq_true (h3 c hc))
  simp only [fK,ws,e]
 ·have e:=all_map (fun _:D=>true) ((li z).map s1)
  have e2:((li z).map s1).all (fun _=>true)=true:=by simp
  simp only [ws,e,e2]
  rcases h4 with h4 | h4
  ·simp only [ws,h4]
  ·by_cases hz:z="0"
   ·simp only [ws,hz]
   ·simp only [ws,hz,h4]
def wds:List (List Str)→List Str
 | []=>[]
 | ys :: ps=>num ys.length :: ys++wds ps
theorem kf:∀ (ps:List (List Str)) (ys:List Str),wds (ps++[ys])=wds ps++(num ys.length :: ys)
 | [],ys=>by simp [wds]
 | p :: ps,ys=>by
  show num p.length :: p++wds (ps++[ys])=num p.length :: p++wds ps++_
  rw [kf ps ys,List.append_assoc]
section
variable {ks:List Str}
structure PX (ys:List Str):Prop where
 l12:ys.length≤12
 b:∀ y∈ys,1≤(li y).length∧(li y).length≤6
 c:∀ y∈ys,∀ c∈li y,okc c
theorem PX.of {b:Bool} {ys:List Str} (T:TX ks) (g:GP ks b ys):PX ys:=⟨g.l12,fun y hy=>⟨(g.w y hy).l1,(g.w y hy).lm⟩,fun y hy c hc=>T.c c ((g.w y hy).mem c hc)⟩
theorem eA {ps:List (List Str)} (h:∀ ys∈ps,PX ys):(∀ w∈wds ps,1≤(li w).length∧(li w).length≤6∧∀ c∈li w,okc c)∧(wds ps).length≤13 * ps.length:=by
 induction ps with
 | nil=>exact ⟨by simp [wds],by simp [wds]⟩
 | cons ys ps ih =>
  obtain ⟨i1,i2⟩:=ih fun z hz=>h z (List.mem_cons_of_mem _ hz)
  have hy:=h ys List.mem_cons_self
  have hl:=hy.l12
  have hn:=nI ys.length (by omega)
  refine ⟨fun w hw=>?_,?_⟩
  ·rcases List.mem_cons.mp hw with rfl | hw
   ·exact ⟨hn.1,by have:=hn.2.1; omega,GK _ (by omega)⟩
   ·rcases List.mem_append.mp hw with hw | hw
    ·exact ⟨(hy.b w hw).1,(hy.b w hw).2,hy.c w hw⟩
    ·exact i1 w hw
  ·show (num ys.length :: ys++wds ps).length≤13 * (ps.length+1)
   rw [List.length_append,List.length_cons]
   omega
def stx (ps:List (List Str)):Str:=Str.join ⟨#[32]⟩ (wds ps)
theorem p8:(" " : Str)=⟨#[32]⟩:=by decide +kernel
theorem qi:("\n" : Str)=⟨#[10]⟩:=by decide +kernel
theorem ny {ps:List (List Str)} (h:∀ ys∈ps,PX ys) (hl:ps.length≤5):W (cT [sD ps]) (fun r=>r=(.str (stx ps),[none])):=by
 simp only [cT,iY,sD,ws]
 refine lA (fun i en=>∃ o,en=[some (.tuple (ps.map pD)),some (.list ((wds (ps.take i)).map .str)),o]) ⟨none,rfl⟩ (fun i t en ht ⟨o,e⟩=>?_) fun en ⟨o,e⟩=>?_
 ·subst e
  rw [List.getElem?_map] at ht
  obtain ⟨ys,hy,rfl⟩:=Option.map_eq_some_iff.mp ht
  have hp:=h ys (List.mem_of_getElem? hy)
  have l12:=hp.l12
  have es:=pr (n:=ys.length) (by omega)
  have tl:(wds (ps.take i)).length≤65:=by
   have:=(eA (ps:=ps.take i) fun z hz=>h z (List.mem_of_mem_take hz)).2
   have:(ps.take i).length≤5:=by rw [List.length_take]; omega
   omega
  have ee:jW 1 (af 2) [some (.tuple (ps.map pD)),some (.list ((wds (ps.take i)).map PyData.str++[.str (num ys.length)])),some (.tuple (ys.map .str))]=some (.none,[some (.tuple (ps.map pD)),some (.list ((wds (ps.take i)).map PyData.str++[.str (num ys.length)]++ys.map .str)),some (.tuple (ys.map .str))]) :=
   if_pos (by rw [List.length_append,List.length_map,List.length_map]; exact sz (by show _+1+_≤1000; omega))
  simp only [jE,pD,ws,es,ee]
  refine ⟨szl (by omega),some (.tuple (ys.map .str)),?_⟩
  rw [gx hy,kf]
  simp
 ·subst e
  rw [List.length_map,List.take_length]
  obtain ⟨w1,w2⟩:=eA h
  have ej:=iE (c:=32) (B:=6) (ys:=wds ps) (fun y hy=>(w1 y hy).2.1) (by omega)
  simp only [p8,ws,ej]
  rfl
end
end W58
namespace W58
open PySem L2 Tg
section
variable {ks:List Str}
theorem GL.its {pls:List (List (List Str))} (g:GL ks pls):∀ x∈pls.map sD,FtS x:=fun x hx=>by
 obtain ⟨ps,hp,rfl⟩:=List.mem_map.mp hx
 exact (g.w ps hp).ft
theorem GL.ft {pls:List (List (List Str))} (g:GL ks pls):FtL (.tuple (pls.map sD)):=BD (by rw [List.length_map]; have:=g.l3; omega) g.its
theorem GL.is {pls:List (List (List Str))} (g:GL ks pls):n6 (aM ks) (.tuple (pls.map sD))=true:=by
 rw [Fc,List.length_map,decide_eq_true g.l3,Bool.true_and,List.all_eq_true]
 intro x hx
 obtain ⟨ps,hp,rfl⟩:=List.mem_map.mp hx
 exact (g.w ps hp).is
theorem si (c:Nat):∀ {ls:List (List Nat)} {x:Nat},x∈jn c ls→x=c∨∃ y∈ls,x∈y
 | [y],x,h=>.inr ⟨y,by simp,h⟩
 | y :: z :: r,x,h=>by
  rcases List.mem_append.mp (show x∈y++c :: jn c (z :: r) from h) with h | h
  ·exact .inr ⟨y,by simp,h⟩
  ·rcases List.mem_cons.mp h with h | h
   ·exact .inl h
   ·rcases si c h with h | ⟨w,hw,hx⟩
    ·exact .inl h
    ·exact .inr ⟨w,List.mem_cons_of_mem _ hw,hx⟩
structure SX (ps:List (List Str)):Prop where
 l1:1≤ps.length
 l5:ps.length≤5
 w:∀ ys∈ps,PX ys
theorem SX.of {ps:List (List Str)} (T:TX ks) (g:GS ks ps):SX ps:=⟨g.l1,g.l5,fun ys hy=>PX.of T (g.w ys hy)⟩
theorem AM {ps:List (List Str)} (h:SX ps):(li (stx ps)).length≤455:=by
 obtain ⟨w1,w2⟩:=eA h.w
 unfold stx
 rw [eF]
 have:=nY 32 6 ((wds ps).map li) (fun y hy=>by
  obtain ⟨w,hw,rfl⟩:=List.mem_map.mp hy
  exact (w1 w hw).2.1)
 rw [List.length_map] at this
 have:=h.l5
 omega
theorem tK {ps:List (List Str)} (h:SX ps):10 ∉ li (stx ps):=by
 obtain ⟨w1,w2⟩:=eA h.w
 unfold stx
 rw [eF]
 intro z
 rcases si 32 z with z | ⟨y,hy,z⟩
 ·cases z
 ·obtain ⟨w,hw,rfl⟩:=List.mem_map.mp hy
  exact ((w1 w hw).2.2 10 z).2.1 rfl
theorem tz {ps:List (List Str)} (h:SX ps):∃ y0,(wds ps).head?=some y0∧1≤(li y0).length:=by
 cases ps with
 | nil=>have:=h.l1; simp at this
 | cons ys ps =>
  have:=(h.w ys List.mem_cons_self).l12
  exact ⟨num ys.length,rfl,(nI ys.length (by omega)).1⟩
def ptx (pls:List (List (List Str))):Str:=Str.join ⟨#[10]⟩ ("plan" :: pls.map stx)
theorem nz {pls:List (List (List Str))} (h:∀ ps∈pls,SX ps):∀ y∈("plan" : Str) :: pls.map stx,(li y).length≤455:=fun y hy=>by
 rcases List.mem_cons.mp hy with rfl | hy
 ·decide +kernel
 ·obtain ⟨ps,hp,rfl⟩:=List.mem_map.mp hy
  exact AM (h ps hp)
def unP:D→List Str
 | .tuple vs=>vs.map txt
 | _=>[]
def unS:D→List (List Str)
 | .tuple ts=>ts.map unP
 | _=>[]
theorem Ac (ps:List (List Str)):unS (sD ps)=ps:=by
 show (ps.map pD).map unP=ps
 rw [List.map_map]
 refine (List.map_congr_left fun ys _=>?_).trans (List.map_id ps)
 exact lQ ys
theorem gb {pls:List (List (List Str))} (h:∀ ps∈pls,SX ps) (hl:pls.length≤3):W (bY [.tuple (pls.map sD)]) (fun r=>r=(.str (ptx pls),[none])):=by
 simp only [bY,iZ,ws]
 refine fm (fun t=>.str (stx (unS t))) (by rw [List.length_map]; exact sz (by omega)) (fun t ht=>?_) fun o'=>?_
 ·obtain ⟨ps,hp,rfl⟩:=List.mem_map.mp ht
  simp only [jJ,ws]
  refine W.use (ny (h ps hp).w (h ps hp).l5) ?_
  rintro _ rfl
  simp only [ws,Ac]
 ·have e:(pls.map sD).map (fun t:D=>(.str (stx (unS t)):D))=(pls.map stx).map .str:=by
   rw [List.map_map,List.map_map]
   refine List.map_congr_left fun ps _=>?_
   show PyData.str (stx (unS (sD ps)))=_
   rw [Ac]
   rfl
  rw [e]
  have ej:=iE (c:=10) (B:=455) (ys:="plan" :: pls.map stx) (nz h) (by rw [List.length_cons,List.length_map]; omega)
  simp only [List.map_cons] at ej
  simp only [qi,ws,ej]
  exact ⟨sz (by show 1+_≤_; omega),rfl⟩
theorem AJ {pls:List (List (List Str))} (h:∀ ps∈pls,SX ps) (hl:pls.length≤3):W (cU [.tuple (pls.map sD)]) (fun r=>r=(.str (ptx pls),[none])):=by
 simp only [cU,i4,ws]
 refine lA (fun i en=>∃ o2 o3 o4,en=[some (.tuple (pls.map sD)),some (.list ((("plan" : Str) :: (pls.take i).map stx).map .str)),o2,o3,o4]) ⟨none,none,none,rfl⟩ (fun i t en ht ⟨o2,o3,o4,e⟩=>?_) fun en ⟨o2,o3,o4,e⟩=>?_
 ·subst e
  rw [List.getElem?_map] at ht
  obtain ⟨ps,hps,rfl⟩:=Option.map_eq_some_iff.mp ht
  have hp:=h ps (List.mem_of_getElem? hps)
  simp only [jF,sD,ws]
  refine lA (fun j en=>∃ o4,en=[some (.tuple (pls.map sD)),some (.list ((("plan" : Str) :: (pls.take i).map stx).map .str)),some (.tuple (ps.map pD)),some (.list ((wds (ps.take j)).map .str)),o4]) ⟨_,rfl⟩ (fun j u en hu ⟨o4,e⟩=>?_) fun en ⟨o4,e⟩=>?_
  ·subst e
   rw [List.getElem?_map] at hu
   obtain ⟨ys,hy,rfl⟩:=Option.map_eq_some_iff.mp hu
   have hq:=hp.w ys (List.mem_of_getElem? hy)
   have l12:=hq.l12
   have l5:=hp.l5
   have es:=pr (n:=ys.length) (by omega)
   have tl:(wds (ps.take j)).length≤65:=by
    have:=(eA (ps:=ps.take j) fun z hz=>hp.w z (List.mem_of_mem_take hz)).2
    have:(ps.take j).length≤5:=by rw [List.length_take]; omega
    omega
   simp only [jG,pD,ws,es]
   refine ⟨sz (by show _+1≤_; omega),sz (by rw [List.length_append,List.length_map]; show _+1+_≤1000; omega),some (.tuple (ys.map .str)),?_⟩
   rw [gx hy,kf]
   simp
  ·subst e
   rw [List.length_map,List.take_length]
   obtain ⟨w1,w2⟩:=eA hp.w
   have l5:=hp.l5
   have ej:=iE (c:=32) (B:=6) (ys:=wds ps) (fun y hy=>(w1 y hy).2.1) (by omega)
   simp only [p8,ws,ej]
   have tk:(pls.take i).length≤3:=by rw [List.length_take]; omega
   refine ⟨szl (by rw [List.length_cons,List.length_map]; omega),some (.tuple (ps.map pD)),some (.list ((wds ps).map .str)),o4,?_⟩
   rw [gx hps]
   simp [stx,sD]
 ·subst e
  rw [List.length_map,List.take_length]
  have ej:=iE (c:=10) (B:=455) (ys:="plan" :: pls.map stx) (nz h) (by rw [List.length_cons,List.length_map]; omega)
  simp only [qi,ws,ej]
  rfl
end
end W58
namespace W58
open PySem L2 Tg
section
variable {ks:List Str}
theorem Hx (t:D) (ts:List D):lU (t :: ts) 0=some (t,ts):=by
 unfold lU
 have e:seqIndex? 0 (t :: ts).length=some 0:=seqIndex_of (by decide) (by rw [List.length_cons]; omega)
 rw [e]
 rfl
theorem oG {w:D} {ts:List D}:W (bQ [.list (w :: ts)]) (fun r=>r=(w,[some (.list ts)])):=by
 have h:¬ (((w :: ts).length:Nat):Int)=0:=by rw [List.length_cons]; omega
 simp only [bQ,hW,ws,h,Hx]
 exact ⟨by decide,by decide⟩
theorem rS {n:Nat} {ts:List D} (hn:n < 13):W (bT [.list (.str (num n) :: ts)]) (fun r=>r=(.int (n:Nat),[some (.list ts)])):=by
 simp only [bT,fJ,ws]
 refine W.use oG ?_
 rintro _ rfl
 simp only [ws]
 refine W.use (ut (nI n hn)) ?_
 rintro _ rfl
 simp only [ws,Be n hn]
theorem m5 {ys:List Str} {ts:List D} (h:ys.length≤12):W (cx [.list (.str (num ys.length) :: (ys.map .str++ts))]) (fun r=>r=(pD ys,[some (.list ts)])):=by
 simp only [cx,hX,ws]
 refine W.use (rS (by omega)) ?_
 rintro _ rfl
 have h1:¬ (((ys.map PyData.str++ts).length:Nat):Int) < ((ys.length:Nat):Int):=by rw [List.length_append,List.length_map]; omega
 simp only [ws,h1,Int.toNat_natCast]
 refine ⟨by omega,?_⟩
 refine mq (fun i us en=>us=(ys.take i).map .str∧∃ o,en=[o,some (.list ((ys.drop i).map .str++ts))]) (by rw [cv]; exact sz (by omega)) ⟨rfl,none,rfl⟩ (fun i t us en ht hu ⟨e1,o,e2⟩=>?_) fun us en _ ⟨e1,o,e2⟩=>?_
 ·obtain ⟨hi,rfl⟩:=fW ht
  subst e1 e2
  have ed:(ys.drop i).map PyData.str++ts=.str ys[i] :: ((ys.drop (i+1)).map .str++ts):=by rw [List.drop_eq_getElem_cons hi]; rfl
  rw [ed]
  simp only [ws,jb]
  refine W.use oG ?_
  rintro _ rfl
  simp only [ws]
  refine ⟨?_,_,rfl⟩
  rw [List.take_add_one,List.getElem?_eq_getElem hi,List.map_append]
  rfl
 ·subst e1 e2
  rw [cv,List.take_length,List.drop_length]
  simp only [ws]
  rfl
theorem p6 {ps:List (List Str)} (h:SX ps):W (eP [.str (stx ps)]) (fun r=>r=(sD ps,[none])):=by
 obtain ⟨w1,w2⟩:=eA h.w
 obtain ⟨y0,hy0,hy1⟩:=tz h
 have l5:=h.l5
 have es:=mw (c:=32) (B:=6) (ys:=wds ps) (by decide) hy0 hy1 (fun y hy z=>((w1 y hy).2.2 32 z).1 rfl) (fun y hy=>(w1 y hy).2.1) (by omega) (by omega)
 simp only [eP,kJ,p8,ws,stx,es]
 refine pS (fun d en=>∃ a b,ps=a++b∧b.length=d∧en=[some (.str (Str.join ⟨#[32]⟩ (wds ps))),some (.list ((wds b).map .str)),some (.list (a.map pD))]) (fun d en ⟨a,b,e1,e2,e3⟩=>?_) (n:=ps.length) ⟨[],ps,rfl,rfl,rfl⟩
 subst e3
 cases b with
 | nil =>
  have q:¬ (0:Int) < (((wds []).length:Nat):Int):=by show ¬ (0:Int) < 0; omega
  rw [List.append_nil] at e1
  simp only [iJ,ws,q]
  rw [e1]
  rfl
 | cons ys b =>
  have hq:=h.w ys (by rw [e1]; simp)
  have q:(0:Int) < (((wds (ys :: b)).length:Nat):Int):=by show (0:Int) < (((num ys.length :: ys++wds b).length:Nat):Int); rw [List.length_append,List.length_cons]; omega
  have ew:(wds (ys :: b)).map PyData.str=.str (num ys.length) :: (ys.map .str++(wds b).map .str):=by
   show (num ys.length :: ys++wds b).map PyData.str=_
   simp
  simp only [iJ,ws,q,lF]
  rw [ew]
  refine W.use (m5 hq.l12) ?_
  rintro _ rfl
  simp only [ws]
  have al:a.length≤5:=by have:=congrArg List.length e1; rw [List.length_append] at this; omega
  refine ⟨szl (by omega),b.length,by rw [← e2]; show _ < _+1; omega,a++[ys],b,by rw [e1]; simp,rfl,?_⟩
  rw [List.map_append]
  rfl
theorem lT (T:TX ks) {pls:List (List (List Str))} (g:GL ks pls):W (bZ [tD ks,.str (ptx pls)]) (fun r=>r=(.tuple (pls.map sD),[none,none])):=by
 have hs:∀ ps∈pls,SX ps:=fun ps hp=>SX.of T (g.w ps hp)
 have l3:=g.l3
 have es:=mw (c:=10) (B:=455) (ys:="plan" :: pls.map stx) (y0:="plan") (by decide) rfl (by decide +kernel) (fun y hy=>by
  rcases List.mem_cons.mp hy with rfl | hy
  ·decide +kernel
  ·obtain ⟨ps,hp,rfl⟩:=List.mem_map.mp hy
   exact tK (hs ps hp)) (nz hs) (by rw [List.length_cons,List.length_map]; omega) (by rw [List.length_cons,List.length_map]; omega)
 simp only [List.map_cons] at es
 simp only [bZ,i3,qi,ws,ptx,es]
 refine mq (fun i us en=>us=(pls.take i).map sD∧∃ o,en=[o]) (by rw [List.length_map,List.length_map]; exact sz (by omega)) ⟨rfl,none,rfl⟩ (fun i t us en ht hu ⟨e1,o,e2⟩=>?_) fun us en _ ⟨e1,o,e2⟩=>?_
 ·subst e1 e2
  rw [List.getElem?_map,List.getElem?_map] at ht
  obtain ⟨z,hz,rfl⟩:=Option.map_eq_some_iff.mp ht
  obtain ⟨ps,hps,rfl⟩:=Option.map_eq_some_iff.mp hz
  simp only [ws,jK]
  refine W.use (p6 (hs ps (List.mem_of_getElem? hps))) ?_
  rintro _ rfl
  simp only [ws]
  refine ⟨?_,_,rfl⟩
  rw [gx hps,List.map_append]
  rfl
 ·subst e1 e2
  rw [List.length_map,List.length_map,List.take_length]
  simp only [ws]
  refine W.use (sm T.t g.ft) ?_
  rintro _ rfl
  rw [g.is]
  simp only [ws]
theorem tN {n:Nat} {z:Str} (hz:(li z).length≤1000) (hc:∀ c∈li z,c < 256):W (aN (n+1) [.str z,.str z]) (fun r=>r=(.bool true,[none,none])):=by
 have i1:jp ["list", "tuple"] (.str z)=some (.bool false):=congrArg (fun b=>some (PyData.bool b)) (show (aF "str" "list" || (aF "str" "tuple" || false))=false by decide)
 have i2:jp ["bool", "str"] (.str z)=some (.bool true):=congrArg (fun b=>some (PyData.bool b)) (show (aF "str" "bool" || (aF "str" "str" || false))=true by decide)
 have c4:(PyData.str z).shown.length≤sizeLine:=by
  have e:(PyData.str z).shown=reprText z:=by simp [PyData.shown]
  rw [e]
  have:=StrLaws.reprText_len z (fun c h=>Nat.lt_trans (hc c h) (by decide))
  have l:=ll z
  have s4:(100000:Nat)≤sizeLine:=by decide
  omega
 have er:gz [.str z]=some (.str (PyData.str z).shown):=if_pos ⟨.inl rfl,by simp [PyData.showable],by simp [PyData.depth],c4⟩
 simp only [aN,eh,ws,i1,i2,er]
theorem tw (ts:List D) (j:Nat) (u:D) (h:(cX ts ts)[j]?=some u):∃ t,ts[j]?=some t∧u=.tuple [t,t]:=by
 unfold cX at h
 rw [List.getElem?_zipWith] at h
 cases e:ts[j]? with
 | none=>rw [e] at h; cases h
 | some t=>rw [e] at h; cases h; exact ⟨t,rfl,rfl⟩
theorem AG (ts:List D):(cX ts ts).length=ts.length:=by unfold cX; simp
theorem kh {n:Nat} {ts:List D} (hl:ts.length≤1000) (h:∀ t∈ts,W (aN n [t,t]) (fun r=>r=(.bool true,[none,none]))):W (aN (n+1) [.tuple ts,.tuple ts]) (fun r=>r=(.bool true,[none,none])):=by
 have i1:jp ["list", "tuple"] (.tuple ts)=some (.bool true):=congrArg (fun b=>some (PyData.bool b)) (show (aF "tuple" "list" || (aF "tuple" "tuple" || false))=true by decide)
 simp only [aN,eh,ws,i1]
 refine mq (fun i us en=>us=List.replicate i (.bool true)∧∃ a b,en=[a,b]) (by rw [AG]; exact sz hl) ⟨rfl,_,_,rfl⟩ (fun i t us en ht hu ⟨e1,a,b,e2⟩=>?_) fun us en _ ⟨e1,a,b,e2⟩=>?_
 ·subst e1 e2
  obtain ⟨x,hx,rfl⟩:=tw ts i t ht
  simp only [ws,jL]
  refine W.use (h x (List.mem_of_getElem? hx)) ?_
  rintro _ rfl
  simp only [ws]
  refine ⟨?_,_,_,rfl⟩
  rw [List.replicate_succ']
 ·subst e1 e2
  have e:=all_map (fun _:Nat=>true) (List.range (cX ts ts).length)
  have e2:(List.range (cX ts ts).length).map (fun _=>PyData.bool true)=List.replicate (cX ts ts).length (.bool true):=by
   rw [List.map_const']
   simp
  have e3:(List.range (cX ts ts).length).all (fun _=>true)=true:=by simp
  rw [e2,e3] at e
  simp only [ws,e]
theorem lR (T:TX ks) {pls:List (List (List Str))} (g:GL ks pls):W (aN 6 [.tuple (pls.map sD),.tuple (pls.map sD)]) (fun r=>r=(.bool true,[none,none])):=by
 refine kh (by rw [List.length_map]; have:=g.l3; omega) fun t ht=>?_
 obtain ⟨ps,hp,rfl⟩:=List.mem_map.mp ht
 have gs:=g.w ps hp
 refine kh (by rw [List.length_map]; have:=gs.l5; omega) fun t ht=>?_
 obtain ⟨ys,hy,rfl⟩:=List.mem_map.mp ht
 have gp:=gs.w ys hy
 refine kh (by rw [List.length_map]; have:=gp.l12; omega) fun t ht=>?_
 obtain ⟨y,hw,rfl⟩:=List.mem_map.mp ht
 exact tN (by have:=(gp.w y hw).lm; omega) fun c hc=>(T.c c ((gp.w y hw).mem c hc)).2.2
end
end W58
namespace W58
open PySem L2 Tg
def ki (r:List Str × List (List (List Str))):D:=.tuple [tD r.1,.tuple (r.2.map sD)]
structure RX (r:List Str × List (List (List Str))):Prop where
 t:TX r.1
 g:GL r.1 r.2
theorem sv (ks:List Str):GL ks [[[]]]:=⟨by show 1≤3; decide,fun ps hp=>by
 rw [List.mem_singleton.mp hp]
 exact ⟨by show 1≤1; decide,by show 1≤5; decide,fun ys hy=>by
  rw [List.mem_singleton.mp hy]
  exact ⟨by show 0≤12; decide,by simp,by simp,fun e=>by cases e⟩,fun ys hy=>by cases hy⟩⟩
theorem AA (ks:List Str):GL ks []:=⟨by decide,by simp⟩
theorem Hu:ptx [[[]]]="plan\n0":=by decide +kernel
theorem Hv:ptx []="plan":=by decide +kernel
theorem RX.sx {r:List Str × List (List (List Str))} (h:RX r):∀ ps∈r.2,SX ps:=fun ps hp=>SX.of h.t (h.g.w ps hp)
theorem Ei:∀ ps∈([[[]]]:List (List (List Str))),SX ps:=fun ps hp=>by
 rw [List.mem_singleton.mp hp]
 exact ⟨by show 1≤1; decide,by show 1≤5; decide,fun ys hy=>by
  rw [List.mem_singleton.mp hy]
  exact ⟨by show 0≤12; decide,by simp,by simp⟩⟩
theorem kR {r:List Str × List (List (List Str))} (h:RX r) {x0 x1 x2 x3 x6 x7:Option D} {Q:Fl→Prop} (hQ:∀ o6 o7,Q (.nx [x0,x1,x2,x3,some (tD r.1),some (.tuple (r.2.map sD)),o6,o7])) :
  W (oJ [x0,x1,x2,x3,some (tD r.1),some (.tuple (r.2.map sD)),x6,x7]) Q:=by
 have l3:=h.g.l3
 simp only [ws,oJ]
 refine W.use (AJ h.sx l3) ?_
 rintro _ rfl
 simp only [ws]
 refine W.use (gb h.sx l3) ?_
 rintro _ rfl
 simp only [ws]
 refine W.use (lT h.t h.g) ?_
 rintro _ rfl
 simp only [ws]
 refine W.use (lR h.t h.g) ?_
 rintro _ rfl
 simp only [ws]
 exact hQ _ _
theorem pA {ns:List Int} {k:Nat} (hk:k≤31) {rs:List D} (hr:rs.length≤10) {x3 x4 x5 x6 x7:Option D} {Q:Fl→Prop}
  (h:∀ r y3,RX r→Q (.nx [some (.list (ns.map .int)),some (.list (rs++[ki r])),some (.int (k:Nat)),y3,some (tD r.1),x5,x6,x7])) :
  W (oK [some (.list (ns.map .int)),some (.list rs),some (.int (k:Nat)),x3,x4,x5,x6,x7]) Q:=by
 simp only [ws,oK]
 refine AF fun p hp=>?_
 simp only [ws]
 refine W.use (Go hp (by omega)) ?_
 rintro _ ⟨ks,p1,rfl,T,hp1⟩
 simp only [ws]
 refine W.use (A4 T hp1 (by omega)) ?_
 rintro _ ⟨pls,p2,rfl,g,hp2⟩
 simp only [ws]
 exact ⟨szl (by omega),h (ks,pls) _ ⟨T,g⟩⟩
theorem ud:EU ri:=by
 intro ns hl
 suffices W (ri [.list (ns.map .int)]) (fun r=>∃ outs,r=(.bool true,outs)) by
  obtain ⟨r,e,outs,rfl⟩:=this.ex
  exact ⟨outs,e⟩
 simp only [ws,ri,vd]
 refine pA (k:=0) (rs:=[]) (by decide) (by decide) fun r1 y3 h1=>?_
 simp only [ws]
 refine pA (k:=31) (rs:=[ki r1]) (by decide) (by show 1≤10; decide) fun r2 y4 h2=>?_
 have ew:([ki r1]++[ki r2]:List D)=[ki r1,ki r2]:=rfl
 rw [ew]
 simp only [ws,ki]
 refine ⟨sz (by show 4≤1000; decide),kR h1 fun o6 o7=>?_⟩
 simp only [ws]
 refine kR h2 fun o6 o7=>?_
 simp only [ws]
 refine kR h1 fun o6 o7=>?_
 simp only [ws]
 refine kR h2 fun o6 o7=>?_
 have s1:=gb (pls:=[[[]]]) Ei (by show 1≤3; decide)
 have s0:=gb (pls:=[]) (by simp) (by show 0≤3; decide)
 have r1':=lT h1.t (sv r1.1)
 have r0:=lT h1.t (AA r1.1)
 have m1:=lR h1.t (sv r1.1)
 have m0:=lR h1.t (AA r1.1)
 rw [Hu] at s1 r1'
 rw [Hv] at s0 r0
 simp only [ws]
 refine W.use s1 ?_
 rintro _ rfl
 simp only [ws]
 refine W.use r1' ?_
 rintro _ rfl
 simp only [ws]
 refine W.use m1 ?_
 rintro _ rfl
 simp only [ws]
 refine W.use s0 ?_
 rintro _ rfl
 simp only [ws]
 refine W.use r0 ?_
 rintro _ rfl
 simp only [ws]
 refine W.use m0 ?_
 rintro _ rfl
 simp only [ws]
 exact ⟨_,rfl⟩
end W58
set_option maxHeartbeats 4000000
namespace W58
open PySem L2
theorem eG {α β:Type} {us:List α} {x0:β} (h:us.length=[x0].length):∃ a0,us=[a0]:=by
 cases us with
 | nil=>cases h
 | cons a0 r=>exact ⟨a0,by rw [List.length_eq_zero_iff.mp (show r.length=0 from Nat.succ.inj h)]⟩
theorem cg {α β:Type} {us:List α} {x0 x1:β} (h:us.length=[x0,x1].length):∃ a0 a1,us=[a0,a1]:=by
 cases us with
 | nil=>cases h
 | cons a0 r=>obtain ⟨a1,rfl⟩:=eG (us:=r) (x0:=x1) (Nat.succ.inj h); exact ⟨a0,a1,rfl⟩
theorem ER {α β:Type} {us:List α} {x0 x1 x2:β} (h:us.length=[x0,x1,x2].length):∃ a0 a1 a2,us=[a0,a1,a2]:=by
 cases us with
 | nil=>cases h
 | cons a0 r=>obtain ⟨a1,a2,rfl⟩:=cg (us:=r) (x0:=x1) (x1:=x2) (Nat.succ.inj h); exact ⟨a0,a1,a2,rfl⟩
theorem all_mk {l:PySem.W.OpenLaw} {w:World} {K:PySem.W.Frag} {h:Heap} {mg:Str→Option Value} {fa f0 f1 f2 f3 f4 f5 f6 f7 f8 f9 f10 f11 f12 f13 f14 f15 f16 f17 f18 f19 f20 f21 f22 f23 f24 f25 f26:Addr} {tk0:Tok} {tk1:Tok} {tk2:Tok} {tk3:Tok} {tk4:Tok} {tk5:Tok} {tk6:Tok} (X:K.In h) (G:h.Ns mainGlobals mg) (hfa:mg "law"=some (.ref fa))
  (d0:Df K "are_unlike" hG f0)
  (d1:Df K "signs_of" jC f1)
  (d2:Df K "is_word" iL f2)
  (d3:Df K "is_told_word" fG f3)
  (d4:Df K "is_part" iN f4)
  (d5:Df K "words_that_begin" b7 f5)
  (d6:Df K "none_begins_another" bP f6)
  (d7:Df K "is_step" gf f7)
  (d8:Df K "is_plan" iM f8)
  (d9:Df K "word_ahead" hC f9)
  (d10:Df K "is_number_text" cC f10)
  (d11:Df K "number_ahead" fF f11)
  (d12:Df K "show_step" iK f12)
  (d13:Df K "show_plan" fQ f13)
  (d14:Df K "part_ahead" eY f14)
  (d15:Df K "step_of" kC f15)
  (d16:Df K "read_plan" fR f16)
  (d17:Df K "_law_pen" jD f17)
  (d18:Df K "_law_mixed" hR f18)
  (d19:Df K "_law_take" iP f19)
  (d20:Df K "_law_tongue" dX f20)
  (d21:Df K "_law_any_tongue" dG f21)
  (d22:Df K "_law_part" dY f22)
  (d23:Df K "_law_plan" fT f23)
  (d24:Df K "_law_text" iO f24)
  (d25:Df K "_law_same" fS f25)
  (d26:Df K "law" kE f26)
  (y0:PySem.W.nsIn K mainGlobals "MOST_SIGNS_OF_A_WORD"=some (some (.int 60 tk0)))
  (y1:PySem.W.nsIn K mainGlobals "MOST_SIGNS_TOLD"=some (some (.int 6 tk1)))
  (y2:PySem.W.nsIn K mainGlobals "MOST_WORDS_OF_A_PART"=some (some (.int 12 tk2)))
  (y3:PySem.W.nsIn K mainGlobals "MOST_PARTS"=some (some (.int 5 tk3)))
  (y4:PySem.W.nsIn K mainGlobals "MOST_STEPS"=some (some (.int 3 tk4)))
  (y5:PySem.W.nsIn K mainGlobals "MOST_FIGURES"=some (some (.int 80 tk5)))
  (y6:PySem.W.nsIn K mainGlobals "FIGURES"=some (some (.str "0123456789" tk6)))
  (z0:PySem.W.nsIn K mainGlobals "abs"=some none)
  (z1:PySem.W.nsIn K mainGlobals "all"=some none)
  (z2:PySem.W.nsIn K mainGlobals "bool"=some none)
  (z3:PySem.W.nsIn K mainGlobals "int"=some none)
  (z4:PySem.W.nsIn K mainGlobals "isinstance"=some none)
  (z5:PySem.W.nsIn K mainGlobals "len"=some none)
  (z6:PySem.W.nsIn K mainGlobals "list"=some none)
  (z7:PySem.W.nsIn K mainGlobals "max"=some none)
  (z8:PySem.W.nsIn K mainGlobals "min"=some none)
  (z9:PySem.W.nsIn K mainGlobals "range"=some none)
  (z10:PySem.W.nsIn K mainGlobals "repr"=some none)
  (z11:PySem.W.nsIn K mainGlobals "set"=some none)
  (z12:PySem.W.nsIn K mainGlobals "str"=some none)
  (z13:PySem.W.nsIn K mainGlobals "tuple"=some none)
  (z14:PySem.W.nsIn K mainGlobals "zip"=some none) :
  ∃ fd:FuncData,(∀ (s:Shared) (v:Value),BindsTo s fd ⟨[v],[]⟩ [("_law_script",v)])∧∀ base:Heap,K.In base→base.Ns mainGlobals mg→FnOk l.prog w K mg base CX0 8 fa fd ["_law_script"] (kP K):=by
 have e:=hfa.symm.trans (PySem.W.mg_of X G d26.a)
 cases e
 have v0:=PySem.W.mg_of X G y0
 have v1:=PySem.W.mg_of X G y1
 have v2:=PySem.W.mg_of X G y2
 have v3:=PySem.W.mg_of X G y3
 have v4:=PySem.W.mg_of X G y4
 have v5:=PySem.W.mg_of X G y5
 have v6:=PySem.W.mg_of X G y6
 have T:Bl mg:=⟨PySem.W.mg_none_of X G z0,PySem.W.mg_none_of X G z1,PySem.W.mg_none_of X G z2,PySem.W.mg_none_of X G z3,PySem.W.mg_none_of X G z4,PySem.W.mg_none_of X G z5,PySem.W.mg_none_of X G z6,PySem.W.mg_none_of X G z7,PySem.W.mg_none_of X G z8,PySem.W.mg_none_of X G z9,PySem.W.mg_none_of X G z10,PySem.W.mg_none_of X G z11,PySem.W.mg_none_of X G z12,PySem.W.mg_none_of X G z13,PySem.W.mg_none_of X G z14⟩
 obtain ⟨oc,od,kV,dc,pm,an,cd,ct,sl,ll,lc⟩:=d26.l
 have FL:=oh (st:=kE) ll lc d26.k
 refine ⟨PySem.W.fnOf "law" "law" (cR kE) (cb kE) (am kE) .none kV dc pm an cd ct,fun s v=>.of_eq rfl,fun base _ _=>?_⟩
 have g0:Kn l.prog w K mg base 1 "are_unlike" ["signs"] (spF K [0] 3 cy):=d0.kn X G (fun _ _ _ _ _ _ us hl=>by obtain ⟨a0,rfl⟩:=eG hl; rfl) fun _ F=>nG (k:=0) T   F
 have g1:Kn l.prog w K mg base 1 "signs_of" ["tongue"] (spF K [0] 3 dO):=d1.kn X G (fun _ _ _ _ _ _ us hl=>by obtain ⟨a0,rfl⟩:=eG hl; rfl) fun _ F=>qf (k:=0) T   F
 have g2:Kn l.prog w K mg base 2 "is_word" ["tongue", "thing"] (spF K [0,0] 3 cH):=d2.kn X G (fun _ _ _ _ _ _ us hl=>by obtain ⟨a0,a1,rfl⟩:=cg hl; rfl) fun _ F=>rM (k:=1) T v0 (g1.mono (by decide)) F
 have g3:Kn l.prog w K mg base 3 "is_told_word" ["tongue", "thing"] (spF K [0,0] 3 bN):=d3.kn X G (fun _ _ _ _ _ _ us hl=>by obtain ⟨a0,a1,rfl⟩:=cg hl; rfl) fun _ F=>lX (k:=2) T v1 (g2.mono (by decide)) F
 have g4:Kn l.prog w K mg base 4 "is_part" ["tongue", "thing"] (spF K [0,0] 3 cJ):=d4.kn X G (fun _ _ _ _ _ _ us hl=>by obtain ⟨a0,a1,rfl⟩:=cg hl; rfl) fun _ F=>rP (k:=3) T v2 (g0.mono (by decide)) (g3.mono (by decide)) F
 have g5:Kn l.prog w K mg base 1 "words_that_begin" ["part", "text"] (spF K [0,0] 1 bz):=d5.kn X G (fun _ _ _ _ _ _ us hl=>by obtain ⟨a0,a1,rfl⟩:=cg hl; rfl) fun _ F=>jj (k:=0) T   F
 have g6:Kn l.prog w K mg base 2 "none_begins_another" ["part"] (spF K [0] 3 bg):=d6.kn X G (fun _ _ _ _ _ _ us hl=>by obtain ⟨a0,rfl⟩:=eG hl; rfl) fun _ F=>ib (k:=1) T  (g5.mono (by decide)) F
 have g7:Kn l.prog w K mg base 5 "is_step" ["tongue", "thing"] (spF K [0,0] 3 cn):=d7.kn X G (fun _ _ _ _ _ _ us hl=>by obtain ⟨a0,a1,rfl⟩:=cg hl; rfl) fun _ F=>rN (k:=4) T v3 (g4.mono (by decide)) (g6.mono (by decide)) F
 have g8:Kn l.prog w K mg base 6 "is_plan" ["tongue", "thing"] (spF K [0,0] 3 cI):=d8.kn X G (fun _ _ _ _ _ _ us hl=>by obtain ⟨a0,a1,rfl⟩:=cg hl; rfl) fun _ F=>rO (k:=5) T v4 (g7.mono (by decide)) F
 have g9:Kn l.prog w K mg base 1 "word_ahead" ["left"] (spF K [1] 0 bQ):=d9.kn X G (fun _ _ _ _ _ _ us hl=>by obtain ⟨a0,rfl⟩:=eG hl; rfl) fun _ F=>nE (k:=0) T   F
 have g10:Kn l.prog w K mg base 1 "is_number_text" ["text"] (spF K [0] 3 bM):=d10.kn X G (fun _ _ _ _ _ _ us hl=>by obtain ⟨a0,rfl⟩:=eG hl; rfl) fun _ F=>kt (k:=0) T v5 v6  F
 have g11:Kn l.prog w K mg base 2 "number_ahead" ["left"] (spF K [1] 3 bT):=d11.kn X G (fun _ _ _ _ _ _ us hl=>by obtain ⟨a0,rfl⟩:=eG hl; rfl) fun _ F=>lW (k:=1) T  (g9.mono (by decide)) (g10.mono (by decide)) F
 have g12:Kn l.prog w K mg base 1 "show_step" ["step"] (spF K [0] 3 cT):=d12.kn X G (fun _ _ _ _ _ _ us hl=>by obtain ⟨a0,rfl⟩:=eG hl; rfl) fun _ F=>oR (k:=0) T   F
 have g13:Kn l.prog w K mg base 2 "show_plan" ["plan"] (spF K [0] 3 bY):=d13.kn X G (fun _ _ _ _ _ _ us hl=>by obtain ⟨a0,rfl⟩:=eG hl; rfl) fun _ F=>oS (k:=1) T  (g12.mono (by decide)) F
 have g14:Kn l.prog w K mg base 3 "part_ahead" ["left"] (spF K [1] 0 cx):=d14.kn X G (fun _ _ _ _ _ _ us hl=>by obtain ⟨a0,rfl⟩:=eG hl; rfl) fun _ F=>nF (k:=2) T  (g11.mono (by decide)) (g9.mono (by decide)) F
 have g15:Kn l.prog w K mg base 4 "step_of" ["text"] (spF K [0] 0 eP):=d15.kn X G (fun _ _ _ _ _ _ us hl=>by obtain ⟨a0,rfl⟩:=eG hl; rfl) fun _ F=>rL (k:=3) T  (g14.mono (by decide)) F
 have g16:Kn l.prog w K mg base 7 "read_plan" ["tongue", "text"] (spF K [0,0] 0 bZ):=d16.kn X G (fun _ _ _ _ _ _ us hl=>by obtain ⟨a0,a1,rfl⟩:=cg hl; rfl) fun _ F=>oT (k:=6) T  (g15.mono (by decide)) (g8.mono (by decide)) F
 have g17:Kn l.prog w K mg base 1 "_law_pen" ["_law_script", "_law_first"] (spF K [0,0] 1 F_law_pen):=d17.kn X G (fun _ _ _ _ _ _ us hl=>by obtain ⟨a0,a1,rfl⟩:=cg hl; rfl) fun _ F=>qg (k:=0) T   F
 have g18:Kn l.prog w K mg base 1 "_law_mixed" ["_law_cell", "_law_k"] (spF K [0,0] 3 bR):=d18.kn X G (fun _ _ _ _ _ _ us hl=>by obtain ⟨a0,a1,rfl⟩:=cg hl; rfl) fun _ F=>nH (k:=0) T   F
 have g19:Kn l.prog w K mg base 2 "_law_take" ["_law_pen_here", "_law_most"] (spF K [1,0] 0 aI):=d19.kn X G (fun _ _ _ _ _ _ us hl=>by obtain ⟨a0,a1,rfl⟩:=cg hl; rfl) fun _ F=>oV (k:=1) T  (g18.mono (by decide)) F
 have g20:Kn l.prog w K mg base 3 "_law_tongue" ["_law_pen_here", "_law_many"] (spF K [1,0] 0 cc):=d20.kn X G (fun _ _ _ _ _ _ us hl=>by obtain ⟨a0,a1,rfl⟩:=cg hl; rfl) fun _ F=>m6 (k:=2) T  (g19.mono (by decide)) F
 have g21:Kn l.prog w K mg base 4 "_law_any_tongue" ["_law_pen_here"] (spF K [1] 0 bE):=d21.kn X G (fun _ _ _ _ _ _ us hl=>by obtain ⟨a0,rfl⟩:=eG hl; rfl) fun _ F=>jZ (k:=3) T  (g20.mono (by decide)) (g19.mono (by decide)) F
 have g22:Kn l.prog w K mg base 3 "_law_part" ["_law_pen_here", "_law_letters", "_law_any_words"] (spF K [1,0,0] 0 cW):=d22.kn X G (fun _ _ _ _ _ _ us hl=>by obtain ⟨a0,a1,a2,rfl⟩:=ER hl; rfl) fun _ F=>oX (k:=2) T  (g19.mono (by decide)) F
 have g23:Kn l.prog w K mg base 4 "_law_plan" ["_law_pen_here", "_law_tongue_here", "_law_most"] (spF K [1,0,0] 0 cV):=d23.kn X G (fun _ _ _ _ _ _ us hl=>by obtain ⟨a0,a1,a2,rfl⟩:=ER hl; rfl) fun _ F=>oW (k:=3) T  (g19.mono (by decide)) (g22.mono (by decide)) F
 have g24:Kn l.prog w K mg base 1 "_law_text" ["_law_plan_here"] (spF K [0] 3 cU):=d24.kn X G (fun _ _ _ _ _ _ us hl=>by obtain ⟨a0,rfl⟩:=eG hl; rfl) fun _ F=>oU (k:=0) T   F
 have g25r0:Kn l.prog w K mg base 0 "_law_same" ["_law_got", "_law_due"] (spF K [0,0] 3 (aN 0)):=d25.none X G (fun _ _ _ _ _ _ us hl=>by obtain ⟨a0,a1,rfl⟩:=cg hl; rfl)
 have g25r1:Kn l.prog w K mg base 1 "_law_same" ["_law_got", "_law_due"] (spF K [0,0] 3 (aN 1)):=d25.kn X G (fun _ _ _ _ _ _ us hl=>by obtain ⟨a0,a1,rfl⟩:=cg hl; rfl) fun _ F=>cw (k:=0) T  g25r0 F
 have g25r2:Kn l.prog w K mg base 2 "_law_same" ["_law_got", "_law_due"] (spF K [0,0] 3 (aN 2)):=d25.kn X G (fun _ _ _ _ _ _ us hl=>by obtain ⟨a0,a1,rfl⟩:=cg hl; rfl) fun _ F=>cw (k:=1) T  g25r1 F
 have g25r3:Kn l.prog w K mg base 3 "_law_same" ["_law_got", "_law_due"] (spF K [0,0] 3 (aN 3)):=d25.kn X G (fun _ _ _ _ _ _ us hl=>by obtain ⟨a0,a1,rfl⟩:=cg hl; rfl) fun _ F=>cw (k:=2) T  g25r2 F
 have g25r4:Kn l.prog w K mg base 4 "_law_same" ["_law_got", "_law_due"] (spF K [0,0] 3 (aN 4)):=d25.kn X G (fun _ _ _ _ _ _ us hl=>by obtain ⟨a0,a1,rfl⟩:=cg hl; rfl) fun _ F=>cw (k:=3) T  g25r3 F
 have g25r5:Kn l.prog w K mg base 5 "_law_same" ["_law_got", "_law_due"] (spF K [0,0] 3 (aN 5)):=d25.kn X G (fun _ _ _ _ _ _ us hl=>by obtain ⟨a0,a1,rfl⟩:=cg hl; rfl) fun _ F=>cw (k:=4) T  g25r4 F
 have g25:Kn l.prog w K mg base 6 "_law_same" ["_law_got", "_law_due"] (spF K [0,0] 3 (aN 6)):=d25.kn X G (fun _ _ _ _ _ _ us hl=>by obtain ⟨a0,a1,rfl⟩:=cg hl; rfl) fun _ F=>cw (k:=5) T  g25r5 F
 exact (GJ (k:=7) T  (g17.mono (by decide)) (g21.mono (by decide)) (g24.mono (by decide)) (g13.mono (by decide)) (g25.mono (by decide)) (g16.mono (by decide)) (g23.mono (by decide)) FL).imp fun vs H Q E h=>ET ud h
theorem walk {l:PySem.W.OpenLaw} {q:Program} {loose:List Str} {XP:(Str→Option Value)→Heap→Prop} {YP:World→Heap→Prop} {d:DefRec} {K:Params→PySem.W.Frag} (hn:l.most=some 63) (hdf:d.params.defaults=[])
  (hY:∀ (w:World) (h:Heap),YP w h→(K w.params).In h)
  (F:∀ (w:World) (mg:Str→Option Value) (fa:Addr) (h:Heap),(K w.params).In h→h.Ns mainGlobals mg→mg d.name=some (.ref fa) →
   ∃ fd:FuncData,(∀ (s:Shared) (u:Value),BindsTo s fd ⟨[u],[]⟩ [("_law_script",u)])∧∀ base:Heap,(K w.params).In base→base.Ns mainGlobals mg→FnOk l.prog w (K w.params) mg base CX0 8 fa fd ["_law_script"] (kP (K w.params))) :
  PySem.W.WalkO q loose XP YP l.row.toRowW d [] (fun f vs=>PySem.call f vs) :=
 L2.walk_of (n:=63) (k:=8) (x:="_law_script") (CX:=fun _=>CX0) (sp:=fun w=>kP (K w.params)) hn (by decide) hdf ⟨rfl,by decide,by decide,rfl⟩ hY F (fun _ _ a ns hl hO hS=>⟨a,ns,rfl,hS,hO,hl,fun _=>rfl⟩) fun _ _ _ _ _ z=>z
end W58
open PySem PySem.W PyProof.Rows
set_option maxRecDepth 100000 in
set_option maxHeartbeats 0 in
theorem PySem.Challenge.cw_wordrules_k58_plan_texts_holds : PySem.Challenge.rw_wordrules_k58_plan_texts.Holds := by
 w_on; o_law; k_head; (case hw=>w_witness2)
 k_fill
 refine W58.walk (l:=PySem.Challenge.rw_wordrules_k58_plan_texts) rfl rfl (fun w h Y=>PySem.W.kIn_of Y) ?F
 case F =>
  intro w mg fa h KX G hmg
  refine' W58.all_mk KX G hmg (.mk' ?_ ?_ ?_ ?_) (.mk' ?_ ?_ ?_ ?_) (.mk' ?_ ?_ ?_ ?_) (.mk' ?_ ?_ ?_ ?_) (.mk' ?_ ?_ ?_ ?_) (.mk' ?_ ?_ ?_ ?_) (.mk' ?_ ?_ ?_ ?_) (.mk' ?_ ?_ ?_ ?_) (.mk' ?_ ?_ ?_ ?_) (.mk' ?_ ?_ ?_ ?_) (.mk' ?_ ?_ ?_ ?_) (.mk' ?_ ?_ ?_ ?_) (.mk' ?_ ?_ ?_ ?_) (.mk' ?_ ?_ ?_ ?_) (.mk' ?_ ?_ ?_ ?_) (.mk' ?_ ?_ ?_ ?_) (.mk' ?_ ?_ ?_ ?_) (.mk' ?_ ?_ ?_ ?_) (.mk' ?_ ?_ ?_ ?_) (.mk' ?_ ?_ ?_ ?_) (.mk' ?_ ?_ ?_ ?_) (.mk' ?_ ?_ ?_ ?_) (.mk' ?_ ?_ ?_ ?_) (.mk' ?_ ?_ ?_ ?_) (.mk' ?_ ?_ ?_ ?_) (.mk' ?_ ?_ ?_ ?_) (.mk' ?_ ?_ ?_ ?_) ?_ ?_ ?_ ?_ ?_ ?_ ?_ ?_ ?_ ?_ ?_ ?_ ?_ ?_ ?_ ?_ ?_ ?_ ?_ ?_ ?_ ?_
  all_goals (try k_is)
