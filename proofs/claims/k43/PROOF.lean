import PyProof.Rows.All
import Wide.All
import OpenK.AllK
import Wide.FinOn
import Lean
import PyProof.EqAt
import PyProof.EqKinds
import PyProof.TupleCall
import PyProof.NeKinds
import PyProof.ConsumeWalk
import PyProof.ZipIter
import PyProof.EnumMake
import PyProof.EnumFor
import PyProof.StrWalks
import PyProof.ListStr
import PyProof.SliceStr2
import PyProof.StrBlockI
import PyProof.Rows.StrWeight2
import PyProof.Rows.ZipGen
import PyProof.Rows.StrIndexOr
import PyProof.Draws
import PyProof.RaisesStr
import PyProof.Rows.StrCountLaw
import PyProof.SumWalk
import PyProof.ReprRoads
import PyProof.ReprLen
import PyProof.CallFns
import PyProof.SumAny
import PySem.Challenge.RW_wordrules_k43_what_is_a_step
set_option Elab.async false
set_option linter.all false
set_option maxRecDepth 100000
namespace L2
open PySem PySem.Spec PyProof.Rows
abbrev Key:=Sum Int Str
def zd:Key→Value→Bool
 | .inl k,v=>Value.isInt k v
 | .inr x,v=>Value.isStrOf x v
def Fv (w:World):Key→Int
 | .inl k=>hashInt k
 | .inr x=>hashStr w x
theorem bM:∀ {k:Key} {v:Value},zd k v=true→(∃ i t,k=Sum.inl i∧v=Value.int i t)∨(∃ x t,k=Sum.inr x∧v=Value.str x t)
 | .inl i,v,h=>by
  obtain ⟨t,e⟩:=Value.isInt_shape (k:=i) (v:=v) h
  exact .inl ⟨i,t,rfl,e⟩
 | .inr x,v,h=>by
  obtain ⟨t,e⟩:=Value.isStrOf_shape (x:=x) (v:=v) h
  exact .inr ⟨x,t,rfl,e⟩
theorem Du (a b:Int):decide ((Sum.inl a:Key)=Sum.inl b)=(a == b):=by
 by_cases e:a=b
 ·subst e; simp
 ·have h:¬ (Sum.inl a:Key)=Sum.inl b:=fun q=>e (Sum.inl.inj q)
  rw [decide_eq_false h]
  exact (beq_eq_false_iff_ne.mpr e).symm
theorem Dr (a b:Str):decide ((Sum.inr a:Key)=Sum.inr b)=decide (a=b):=by
 by_cases e:a=b
 ·subst e; simp
 ·have h:¬ (Sum.inr a:Key)=Sum.inr b:=fun q=>e (Sum.inr.inj q)
  rw [decide_eq_false h,decide_eq_false e]
theorem Dt (a:Int) (b:Str):decide ((Sum.inl a:Key)=Sum.inr b)=false:=decide_eq_false (fun q=>nomatch q)
theorem Ds (a:Str) (b:Int):decide ((Sum.inr a:Key)=Sum.inl b)=false:=decide_eq_false (fun q=>nomatch q)
def hV (prog:Program) (w:World):PySem.KeyKind prog w Key where
 is:=zd
 hash:=Fv w
 inj:=fun v a b ha hb=>by
  rcases bM ha with ⟨i,t,rfl,rfl⟩ | ⟨x,t,rfl,rfl⟩
  ·rcases bM hb with ⟨j,u,rfl,e⟩ | ⟨y,u,rfl,e⟩
   ·injection e with e1 _; rw [e1]
   ·exact nomatch e
  ·rcases bM hb with ⟨j,u,rfl,e⟩ | ⟨y,u,rfl,e⟩
   ·exact nomatch e
   ·injection e with e1 _; rw [e1]
 byValue:=fun k v h=>by
  rcases bM h with ⟨i,t,rfl,rfl⟩ | ⟨x,t,rfl,rfl⟩ <;> rfl
 pyHash:=fun hv h=>by
  rcases bM hv with ⟨i,t,rfl,rfl⟩ | ⟨x,t,rfl,rfl⟩
  ·exact wpAny_pyHash_int h
  ·exact wpAny_pyHash_str h
 eqBool:=fun hu hv h=>by
  rcases bM hu with ⟨i,t,rfl,rfl⟩ | ⟨x,t,rfl,rfl⟩
  ·rcases bM hv with ⟨j,u,rfl,rfl⟩ | ⟨y,u,rfl,rfl⟩
   ·rw [Du] at h; exact wpAny_eqBool_int h
   ·rw [Dt] at h; exact SeqAt.EqAt.int_str i t y u _ _ _ _ h
  ·rcases bM hv with ⟨j,u,rfl,rfl⟩ | ⟨y,u,rfl,rfl⟩
   ·rw [Ds] at h; exact SeqAt.EqAt.str_int x t j u _ _ _ _ h
   ·rw [Dr] at h; exact wpAny_eqBool_str h
 «strs»:=fun k x t v h=>by
  rcases bM h with ⟨i,u,rfl,e⟩ | ⟨y,u,rfl,e⟩
  ·exact nomatch e
  ·injection e with e1 _
   subst e1
   cases v <;> rfl
end L2
namespace L2
open PySem PySem.Spec PyProof.Rows
inductive V where
 | non | bl (b:Bool) | int (i:Int) | str (x:Str) | byt (b:Array UInt8) | flt (b:UInt64) | ref (a:Addr) | ty (n:String)
 deriving DecidableEq
def RelV:V→Value→Prop
 | .non,u=>u=Value.none
 | .bl b,u=>u=Value.bool b
 | .int i,u=>∃ t,u=Value.int i t
 | .str x,u=>∃ t,u=Value.str x t
 | .byt b,u=>∃ t,u=Value.bytes b t
 | .flt b,u=>∃ t,u=Value.float b t
 | .ref a,u=>u=Value.ref a
 | .ty n,u=>u=Value.type n
abbrev Vals:List V→List Value→Prop:=Paired RelV
theorem Vals.length {xs:List V} {us:List Value} (r:Vals xs us):xs.length=us.length:=Paired.length r
theorem Vals.get:∀ {xs:List V} {us:List Value} {i:Nat} {x:V},Vals xs us→xs[i]?=some x→∃ u,us[i]?=some u∧RelV x u
 | _,_,_,_,.nil,e=>by simp at e
 | _,_,0,_,.cons r _,e=>by simp at e; subst e; exact ⟨_,rfl,r⟩
 | _,_,i+1,x,.cons _ t,e=>by
  obtain ⟨u,h1,h2⟩:=Vals.get (i:=i) (x:=x) t (by simpa using e)
  exact ⟨u,by simpa using h1,h2⟩
theorem Vals.set {x:V} {u:Value} (r:RelV x u):∀ {xs:List V} {us:List Value} (i:Nat),Vals xs us→Vals (xs.set i x) (us.set i u)
 | _,_,_,.nil=>.nil
 | _,_,0,.cons _ t=>.cons r t
 | _,_,i+1,.cons q t=>.cons q (Vals.set r i t)
theorem Vals.append:∀ {xs ys:List V} {us ws:List Value},Vals xs us→Vals ys ws→Vals (xs++ys) (us++ws)
 | _,_,_,_,.nil,s=>s
 | _,_,_,_,.cons r t,s=>.cons r (Vals.append t s)
theorem Vals.take:∀ {xs:List V} {us:List Value} (n:Nat),Vals xs us→Vals (xs.take n) (us.take n)
 | _,_,0,_=>.nil
 | _,_,_+1,.nil=>.nil
 | _,_,n+1,.cons r t=>.cons r (Vals.take n t)
theorem Vals.drop:∀ {xs:List V} {us:List Value} (n:Nat),Vals xs us→Vals (xs.drop n) (us.drop n)
 | _,_,0,r=>r
 | _,_,_+1,.nil=>.nil
 | _,_,n+1,.cons _ t=>Vals.drop n t
def tT:Option V→Option Value→Prop
 | some v,some u=>RelV v u
 | none,none=>True
 | _,_=>False
def KV {κ:Type}:List (κ × V)→List (κ × Value)→Prop:=Paired fun (p:κ × V) (q:κ × Value)=>p.1=q.1∧RelV p.2 q.2
def kV:Key→V
 | .inl i=>.int i
 | .inr x=>.str x
inductive HO where
 | lst (xs:List V)
 | tup (xs:List V)
 | dK (kvs:List (Key × V)) | dT (kvs:List (List Key × V))
 | set (S:Int→Bool) (n:Nat)
 | ins (C dx:Addr) (fs:List (Str × V))
 | own (x:Addr)
 | xd (fs:List (Str × V))
 | met (f x:Addr)
 | rng (lo hi:Int)
 | frz (o:Obj) (u:HO)
 | tbl (ps:Array Value)
 | ext (φ:Heap→Prop)
abbrev Hp:=Addr→Option HO
def upd (H:Hp) (a:Addr) (o:HO):Hp:=fun b=>if b=a then some o else H b
theorem a6 {H:Hp} {a:Addr} {o:HO}:upd H a o a=some o:=by unfold upd; rw [if_pos rfl]
theorem aR {H:Hp} {a b:Addr} {o:HO} (h:b≠a):upd H a o b=H b:=by unfold upd; rw [if_neg h]
theorem bL {H:Hp} {a b:Addr} {o:HO} (h:H a=some o) (h':H b=none):a≠b:=by
 intro e; subst e; rw [h] at h'; cases h'
def IsTupN (h:Heap) (a:Addr) (its:Array Value):Prop:=∃ o,h.get? a=some o∧o.cls=.type "tuple"∧∃ n,o.data=.seq its n∧o.dict=none
theorem IsTupN.tup {h:Heap} {a:Addr} {its:Array Value} (x:IsTupN h a its):IsTup h a its:=by
 obtain ⟨o,h1,h2,n,h3,_⟩:=x
 exact ⟨o,h1,h2,n,h3⟩
theorem IsTupN.lt {h:Heap} {a:Addr} {its:Array Value} (x:IsTupN h a its):a < h.objs.size:=Heap.lt_size x.choose_spec.1
theorem IsTupN.new (h:Heap) (its:Array Value):IsTupN (h.push { cls:=.type "tuple",data:=.seq its }) h.objs.size its:=⟨_,Heap.get?_push_size _ rfl,rfl,_,rfl,rfl⟩
section
variable (P:Program) (w:World)
def ObjOk (H:Hp) (h:Heap) (a:Addr):HO→Prop
 | .lst xs=>xs.length≤sizeLine∧∃ (its:List Value) (n:Nat),Vals xs its∧h.get? a=some { cls:=.type "list",data:=.seq its.toArray n }
 | .tup xs=>xs.length≤sizeLine∧∃ its:List Value,Vals xs its∧IsTupN h a its.toArray
 | .dK kvs=>kvs.length≤sizeLine∧(a == sysModules)=false∧∃ vs,KV kvs vs∧h.DictOf (hV P w) a vs
 | .dT kvs=>kvs.length≤sizeLine∧(a == sysModules)=false∧∃ xs:List (List Key × Addr × Value),
   Paired (fun (p:List Key × V) (q:List Key × Addr × Value)=>p.1=q.1∧H q.2.1=some (.tup (p.1.map kV))∧RelV p.2 q.2.2) kvs xs ∧
   ∃ o es ep,h.get? a=some o∧o.ExactDict∧o.data=.dict es ep∧es.toList=xs.map (entryOfKey (tupleKind (hV P w)))∧(xs.map (·.1)).Nodup
 | .set S n=>h.SetOf (intKind P w) a S n
 | .ins C dx fs=>H dx=some (.own a)∧fs.length≤1000∧dx≠a∧h.get? a=some (PySem.W.instObj C dx) ∧
   ∃ mA,h.Ns1 dx mA∧(∀ f,tT (fs.lookup f) (mA f))∧PySem.Within mA (fs.map (·.1))
 | .own _=>∃ o,h.get? a=some o
 | .xd fs=>∃ mA,h.Ns1 a mA∧∀ f,tT (fs.lookup f) (mA f)
 | .rng lo hi=>∃ t u v,h.get? a=some { cls:=.type "range",data:=.fields #[.int lo t,.int hi u,.int 1 v] }
 | .frz o u=>h.get? a=some o∧ObjOk H h a u
 | .tbl ps=>h.get? a=some { cls:=.none,data:=.fields ps }
 | .met f x=>h.get? a=some (PySem.W.methodObj (.ref f) (.ref x))
 | .ext φ=>φ h∧(∃ o,h.get? a=some o)∧∀ h1 h2:Heap,φ h1→(∀ o,h1.get? a=some o→h2.get? a=some o)→φ h2
def HOk (H:Hp) (h:Heap):Prop:=∀ a o,H a=some o→ObjOk P w H h a o
end
section
variable {P:Program} {w:World} {H H':Hp} {h h':Heap} {a:Addr} {o:HO}
theorem ObjOk.lt (x:ObjOk P w H h a o):a < h.objs.size:=by
 cases o with
 | lst xs=>obtain ⟨_,_,_,_,e⟩:=x; exact Heap.lt_size e
 | tup xs=>obtain ⟨_,_,_,p⟩:=x; exact p.lt
 | dK kvs=>obtain ⟨_,_,_,_,o,_,_,e,_⟩:=x; exact Heap.lt_size e
 | dT kvs=>obtain ⟨_,_,_,_,o,_,_,e,_⟩:=x; exact Heap.lt_size e
 | set S n=>obtain ⟨o,_,_,_,e,_⟩:=x; exact Heap.lt_size e
 | ins C dx fs=>obtain ⟨_,_,_,e,_⟩:=x; exact Heap.lt_size e
 | own y=>obtain ⟨_,e⟩:=x; exact Heap.lt_size e
 | xd fs=>obtain ⟨_,⟨_,_,_,e,_⟩,_⟩:=x; exact Heap.lt_size e
 | rng lo hi=>obtain ⟨_,_,_,e⟩:=x; exact Heap.lt_size e
 | frz ob u=>obtain ⟨e,_⟩:=x; exact Heap.lt_size e
 | tbl ps=>exact Heap.lt_size (show h.get? a=some _ from x)
 | met f y=>exact Heap.lt_size (show h.get? a=some _ from x)
 | ext φ=>obtain ⟨_,⟨_,e⟩,_⟩:=x; exact Heap.lt_size e
theorem Paired.mapP {α β:Type} {F G:α→β→Prop}:∀ {l₁:List α} {l₂:List β},Paired F l₁ l₂→(∀ a b,F a b→G a b)→Paired G l₁ l₂
 | _,_,.nil,_=>.nil
 | _,_,.cons r t,f=>.cons (f _ _ r) (Paired.mapP t f)
theorem ObjOk.stay (x:ObjOk P w H h a o) (k:∀ b u,(b=a∨H b=some (.own a))→h.get? b=some u→h'.get? b=some u)
  (ho:∀ b,H b=some (.own a)→H' b=some (.own a)) (ht:∀ b xs,H b=some (.tup xs)→H' b=some (.tup xs)):ObjOk P w H' h' a o:=by
 induction o with
 | lst xs=>obtain ⟨z,its,n,r,e⟩:=x; exact ⟨z,its,n,r,k _ _ (.inl rfl) e⟩
 | tup xs=>obtain ⟨z,its,r,ob,e,c⟩:=x; exact ⟨z,its,r,ob,k _ _ (.inl rfl) e,c⟩
 | dK kvs=>obtain ⟨z,y,vs,r,ob,es,ep,e,c⟩:=x; exact ⟨z,y,vs,r,ob,es,ep,k _ _ (.inl rfl) e,c⟩
 | dT kvs =>
  obtain ⟨z,y,xs,r,ob,es,ep,e,c⟩:=x
  exact ⟨z,y,xs,Paired.mapP r fun p q z=>⟨z.1,ht _ _ z.2.1,z.2.2⟩,ob,es,ep,k _ _ (.inl rfl) e,c⟩
 | set S n=>obtain ⟨ob,es,ep,t,e,c⟩:=x; exact ⟨ob,es,ep,t,k _ _ (.inl rfl) e,c⟩
 | ins C dx fs =>
  obtain ⟨d,z,ne,e,mA,⟨od,es,ep,e2,c⟩,r⟩:=x
  exact ⟨ho _ d,z,ne,k _ _ (.inl rfl) e,mA,⟨od,es,ep,k _ _ (.inr d) e2,c⟩,r⟩
 | own y=>obtain ⟨ob,e⟩:=x; exact ⟨ob,k _ _ (.inl rfl) e⟩
 | xd fs=>obtain ⟨mA,⟨od,es,ep,e,c⟩,r⟩:=x; exact ⟨mA,⟨od,es,ep,k _ _ (.inl rfl) e,c⟩,r⟩
 | rng lo hi=>obtain ⟨t,u,v,e⟩:=x; exact ⟨t,u,v,k _ _ (.inl rfl) e⟩
 | frz ob u ih=>obtain ⟨e,q⟩:=x; exact ⟨k _ _ (.inl rfl) e,ih q⟩
 | tbl ps =>
  have e:h.get? a=some { cls:=.none,data:=.fields ps }:=x
  show h'.get? a=some { cls:=.none,data:=.fields ps }
  exact k a _ (.inl rfl) e
 | met f y =>
  have e:h.get? a=some (PySem.W.methodObj (.ref f) (.ref y)):=x
  show h'.get? a=some (PySem.W.methodObj (.ref f) (.ref y))
  exact k a _ (.inl rfl) e
 | ext φ=>obtain ⟨p,⟨o,e⟩,st⟩:=x; exact ⟨st _ _ p fun o q=>k _ _ (.inl rfl) q,⟨o,k _ _ (.inl rfl) e⟩,st⟩
theorem HOk.lt (x:HOk P w H h) (e:H a=some o):a < h.objs.size:=(x a o e).lt
theorem HOk.fresh (x:HOk P w H h) (e:h.objs.size≤a):H a=none:=by
 cases q:H a with
 | none=>rfl
 | some u=>exact absurd (Nat.lt_of_lt_of_le (x.lt q) e) (Nat.lt_irrefl _)
theorem HOk.kept (x:HOk P w H h) (k:∀ b u,h.get? b=some u→h'.get? b=some u):HOk P w H h':=fun a o e =>
 (x a o e).stay (fun b u _ q=>k b u q) (fun _ q=>q) fun _ _ q=>q
theorem HOk.laid (x:HOk P w H h) (k:∀ b u,h.get? b=some u→h'.get? b=some u) (hp:h.objs.size≤a) (new:ObjOk P w (upd H a o) h' a o):HOk P w (upd H a o) h':=fun b u e=>by
 have hn:=x.fresh hp
 by_cases hb:b=a
 ·subst hb; rw [a6] at e; cases e; exact new
 ·rw [aR hb] at e
  exact (x b u e).stay (fun c v _ q=>k c v q) (fun c q=>by rw [aR (bL q hn)]; exact q) fun c xs q=>by rw [aR (bL q hn)]; exact q
end
def Rd (H:Hp) (a:Addr) (u:HO):Prop:=H a=some u∨∃ o,H a=some (.frz o u)
theorem Rd.ok {P:Program} {w:World} {H:Hp} {h:Heap} {a:Addr} {u:HO} (r:Rd H a u) (x:HOk P w H h):ObjOk P w H h a u:=by
 rcases r with r | ⟨o,r⟩
 ·exact x a u r
 ·obtain ⟨_,q⟩:=x a _ r
  exact q
def Mut:Option HO→Prop
 | some (.lst _)=>True
 | some (.dK _)=>True
 | some (.dT _)=>True
 | some (.set _ _)=>True
 | some (.ins _ _ _)=>True
 | some (.ext _)=>True
 | _=>False
section
variable {P:Program} {w:World} {H:Hp} {h h':Heap} {x e:Addr} {o':HO}
theorem HOk.write (ok:HOk P w H h) (mu:Mut (H x)) (he:e=x∨H e=some (.own x)) (k:∀ b u,b≠e→h.get? b=some u→h'.get? b=some u) (heo:∃ u,h'.get? e=some u)
  (new:ObjOk P w (upd H x o') h' x o'):HOk P w (upd H x o') h':=fun b u q=>by
 have nown:∀ c y,H c=some (.own y)→c≠x:=fun c y r z=>by subst z; rw [r] at mu; exact mu
 have ntup:∀ c xs,H c=some (.tup xs)→c≠x:=fun c xs r z=>by subst z; rw [r] at mu; exact mu
 by_cases hb:b=x
 ·subst hb; rw [a6] at q; cases q; exact new
 ·rw [aR hb] at q
  by_cases hbe:b=e
  ·have q':H b=some (.own x):=by
    rcases he with z | z
    ·exact absurd (hbe.trans z) hb
    ·rw [hbe]; exact z
   rw [q] at q'; cases q'
   obtain ⟨v,hv⟩:=heo
   exact ⟨v,by rw [hbe]; exact hv⟩
  ·refine (ok b u q).stay (fun c v hc r=>k c v ?_ r) (fun c r=>by rw [aR (nown c b r)]; exact r) fun c xs r=>by rw [aR (ntup c xs r)]; exact r
   rcases hc with rfl | hc
   ·exact hbe
   ·rintro rfl
    rcases he with z | z
    ·exact nown c b hc z
    ·rw [hc] at z; cases z; exact hb rfl
end
structure Un (fs ex:List Addr) (H H':Hp) (h h':Heap):Prop where
 keep:∀ b o,h.get? b=some o→H b=none→b ∉ fs→b ∉ ex→h'.get? b=some o
 slot:∀ b o,h.get? b=some o→H b=none→b∈fs→b ∉ ex→∃ sl,h'.get? b=some { o with slots:=sl }
 free:∀ b o,h.get? b=some o→H b=none→b ∉ ex→H' b=none
 there:∀ b o,h.get? b=some o→b ∉ ex→∃ o',h'.get? b=some o'
 tups:∀ b xs,H b=some (.tup xs)→H' b=some (.tup xs)
 frzs:∀ b o u,H b=some (.frz o u)→H' b=some (.frz o u)
 tbls:∀ b ps,H b=some (.tbl ps)→∃ more,H' b=some (.tbl (ps++more))
section
variable {fs fs' ex ex':List Addr} {H H1 H2:Hp} {h h1 h2 h':Heap} {a x e:Addr} {o:HO}
theorem Un.any (u:Un fs ex H H1 h h1) {b:Addr} {ob:Obj} (q:h.get? b=some ob) (n:H b=none) (hx:b ∉ ex):∃ sl,h1.get? b=some { ob with slots:=sl }:=by
 by_cases hb:b∈fs
 ·exact u.slot b ob q n hb hx
 ·exact ⟨ob.slots,u.keep b ob q n hb hx⟩
theorem Un.trans (a:Un fs ex H H1 h h1) (b:Un fs ex H1 H2 h1 h2):Un fs ex H H2 h h2 where
 keep:=fun c ob q n hc hx=>b.keep c ob (a.keep c ob q n hc hx) (a.free c ob q n hx) hc hx
 slot:=fun c ob q n hc hx=>by
  obtain ⟨sl,e1⟩:=a.slot c ob q n hc hx
  obtain ⟨sl',e2⟩:=b.slot c _ e1 (a.free c ob q n hx) hc hx
  exact ⟨sl',e2⟩
 free:=fun c ob q n hx=>by
  obtain ⟨o',e1⟩:=a.there c ob q hx
  exact b.free c o' e1 (a.free c ob q n hx) hx
 there:=fun c ob q hx=>by
  obtain ⟨o',e1⟩:=a.there c ob q hx
  exact b.there c o' e1 hx
 tups:=fun c xs q=>b.tups c xs (a.tups c xs q)
 frzs:=fun c ob xs q=>b.frzs c ob xs (a.frzs c ob xs q)
 tbls:=fun c ps q=>by
  obtain ⟨m1,e1⟩:=a.tbls c ps q
  obtain ⟨m2,e2⟩:=b.tbls c _ e1
  exact ⟨m1++m2,by rw [e2,Array.append_assoc]⟩
theorem Un.kept (k:∀ b u,h.get? b=some u→h'.get? b=some u):Un fs ex H H h h' :=
 ⟨fun b ob q _ _ _=>k b ob q,fun b ob q _ _ _=>⟨ob.slots,k b ob q⟩,fun _ _ _ n _=>n,fun b ob q _=>⟨ob,k b ob q⟩,fun _ _ q=>q,fun _ _ _ q=>q,fun _ ps q=>⟨#[],by rw [q]; simp⟩⟩
theorem Un.refl:Un fs ex H H h h:=Un.kept fun _ _ q=>q
theorem Un.laid (k:∀ b u,h.get? b=some u→h'.get? b=some u) (hp:h.objs.size≤a) (hn:H a=none):Un fs ex H (upd H a o) h h' where
 keep:=fun b u q _ _ _=>k b u q
 slot:=fun b u q _ _ _=>⟨u.slots,k b u q⟩
 free:=fun b u q n _=>by rw [aR (Nat.ne_of_lt (Nat.lt_of_lt_of_le (Heap.lt_size q) hp))]; exact n
 there:=fun b u q _=>⟨u,k b u q⟩
 tups:=fun b xs q=>by rw [aR (bL q hn)]; exact q
 frzs:=fun b u xs q=>by rw [aR (bL q hn)]; exact q
 tbls:=fun b ps q=>⟨#[],by rw [aR (bL q hn),q]; simp⟩
theorem Un.write (mu:Mut (H x)) (he:e=x∨H e=some (.own x)) (k:∀ b u,b≠e→h.get? b=some u→h'.get? b=some u) (heo:∃ u,h'.get? e=some u):Un fs ex H (upd H x o) h h':=by
 have hx:∀ b,H b=none→b≠x:=fun b n z=>by subst z; rw [n] at mu; exact mu
 have hb:∀ b,H b=none→b≠e:=fun b n z=>by
  subst z
  rcases he with r | r
  ·exact hx b n r
  ·rw [n] at r; cases r
 have hm:∀ b u,H b=some u→¬ Mut (some u)→b≠x:=fun b u q nm z=>by subst z; rw [q] at mu; exact nm mu
 refine ⟨fun b u q n _ _=>k b u (hb b n) q,fun b u q n _ _=>⟨u.slots,k b u (hb b n) q⟩,fun b u q n _=>by rw [aR (hx b n)]; exact n,fun b u q _=>?_,
  fun b xs q=>by rw [aR (hm b _ q fun z=>z)]; exact q,fun b u xs q=>by rw [aR (hm b _ q fun z=>z)]; exact q,fun b ps q=>⟨#[],by rw [aR (hm b _ q fun z=>z),q]; simp⟩⟩
 by_cases hbe:b=e
 ·subst hbe; exact heo
 ·exact ⟨u,k b u hbe q⟩
end
def trk (h:Heap) (H:Hp):List Addr:=(List.range h.objs.size).filter fun a=>(H a).isSome
def iz (h:Heap) (H:Hp):Heap:=PySem.W.hideAll h (trk h H)
theorem qS (h:Heap) (H:Hp):(iz h H).objs.size=h.objs.size:=PySem.W.hideAll_size _ _
theorem sR {h:Heap} {H:Hp} {b:Addr} {o:Obj} (e:h.get? b=some o) (n:H b=none):(iz h H).get? b=some o :=
 PySem.W.hideAll_get _ e fun hm=>by
  have q:(H b).isSome=true:=(List.mem_filter.mp hm).2
  rw [n] at q; simp at q
theorem zR {h:Heap} {H:Hp} {b:Addr} {o:Obj} (e:(iz h H).get? b=some o):h.get? b=some o∧H b=none:=by
 have e':h.get? b=some o:=PySem.W.of_hideAll (trk h H) e
 refine ⟨e',?_⟩
 cases q:H b with
 | none=>rfl
 | some x =>
  have hm:b∈trk h H:=List.mem_filter.mpr ⟨List.mem_range.mpr (Heap.lt_size e'),by simp [q]⟩
  have z:(iz h H).get? b=none:=PySem.W.hideAll_none (trk h H) hm
  rw [z] at e; cases e
def AR (g h:Heap) (L:Addr):List (Addr × Obj):=(List.range h.objs.size).filterMap fun a=>if a=L∨(g.get? a).isSome=true then none else (h.get? a).map fun o=>(a,o)
def rest (g h:Heap) (L d:Addr):List (Addr × Obj):=(AR g h L).filter fun p=>decide (p.1≠d)
end L2
namespace L2
open PySem PySem.Spec PyProof.Rows
structure Mod (K:PySem.W.Frag) (mg:Str→Option Value) (base:Heap):Prop where
 kin:K.In base
 glob:base.Ns mainGlobals mg
 blt:∃ mb,base.Ns builtinsNs mb∧∀ x:Str,x≠"__name__"→mb x=bootBuiltins x
 nolimit:base.NoLimit
structure Cx where
 prog:Program
 w:World
 K:PySem.W.Frag
 mg:Str→Option Value
 base:Heap
 A:Around
 N:List Str
 s₀:Shared
 H₀:Hp
 env:Env
 outer:List Env
 stack:List Env
 ex:List Addr
 fn:Str→Bool
 calm:Bool
 pn:List (Addr × Obj)
 xe:Value→Shared→Prop
def frs (l:List Env):List Addr:=l.filterMap (·.frame)
abbrev Cx.fs (X:Cx):List Addr:=frs X.outer
def Vis (sc:Scope) (x:Str):Prop:=sc.names.lookup x=some .local∨sc.names.lookup x=some .cell∨sc.names.lookup x=some .free
def Loc (sc:Scope) (x:Str):Prop:=sc.names.lookup x=some .local∨sc.names.lookup x=some .cell
def FH (env:Env) (h:Heap) (m:Str→Option Value) (x:Str) (u:Value):Prop :=
 (env.kindOf x=some .local∧m x=some u)∨((env.kindOf x=some .cell∨env.kindOf x=some .free)∧∃ c,env.cells.lookup x=some c∧h.IsCell c (some u))
structure Cx.Ok (X:Cx):Prop where
 mod:Mod X.K X.mg X.base
 kind:X.env.scope.kind=.function
 glob:X.env.globals=mainGlobals
 blt:X.env.builtins=builtinsNs
 above:X.s₀.heap.objs.size≤X.env.locals
 inj:∀ x y c,X.env.cells.lookup x=some c→X.env.cells.lookup y=some c→x=y
 has:∀ x,(X.env.kindOf x=some .cell∨X.env.kindOf x=some .free)→∃ c,X.env.cells.lookup x=some c
 cab:∀ x c,X.fn x=true→X.env.cells.lookup x=some c→X.s₀.heap.objs.size≤c
 hd:X.calm=true→X.A.handled=none
 frames:X.A.frames=some X.stack
 stk:X.stack=X.outer∨(X.stack=X.env :: X.outer∧X.env.frame=some X.env.locals)
 exf:∀ b∈X.ex,b≠X.env.locals∧∀ x c,X.env.cells.lookup x=some c→c≠b
 bs:∀ b o,X.base.get? b=some o→X.s₀.heap.get? b=some o∧X.H₀ b=none
 bsz:X.base.objs.size≤X.s₀.heap.objs.size
 noex:∀ b o,X.base.get? b=some o→b ∉ X.ex
 exfs:∀ b∈X.ex,b ∉ X.fs
 funs:X.s₀.heap.FunFrames X.base X.outer
 frf:∀ b∈X.fs,X.H₀ b=none
structure Inv (X:Cx) (pins:List (Addr × Obj)) (σ:List (Option V)) (H:Hp) (s:Shared):Prop where
 ok:X.Ok
 os:s.os=X.s₀.os
 bare:AllBare s.gens
 base:Un X.fs X.ex X.H₀ H X.s₀.heap s.heap
 loc:∃ m,s.heap.Ns X.env.locals m∧∀ (i:Nat) (x:Str) (v:V),X.N[i]?=some x→σ[i]?=some (some v)→Vis X.env.scope x→∃ u,RelV v u∧FH X.env s.heap m x u
 cell:∀ x c,X.env.cells.lookup x=some c→∃ v,s.heap.IsCell c v
 free:H X.env.locals=none
 freeC:∀ x c,X.env.cells.lookup x=some c→H c=none
 pin:∀ p∈X.pn++pins,s.heap.get? p.1=some p.2∧H p.1=none∧p.1≠X.env.locals∧p.1 ∉ X.fs∧∀ v,p.2.data≠.cell v
 hok:HOk X.prog X.w H s.heap
 len:σ.length=X.N.length
section
variable {X:Cx} {pins:List (Addr × Obj)} {σ:List (Option V)} {H H':Hp} {s:Shared} {h':Heap}
theorem Cx.Ok.nofr (ok:X.Ok) {b:Addr} {o:Obj} (e:X.base.get? b=some o):b ∉ X.fs:=fun hb=>by
 have:=(ok.funs.mem hb).1
 rw [e] at this; cases this
theorem Inv.bs (I:Inv X pins σ H s):∀ b o,X.base.get? b=some o→s.heap.get? b=some o∧H b=none:=fun b o e =>
 ⟨I.base.keep b o (I.ok.bs b o e).1 (I.ok.bs b o e).2 (I.ok.nofr e) (I.ok.noex b o e),I.base.free b o (I.ok.bs b o e).1 (I.ok.bs b o e).2 (I.ok.noex b o e)⟩
theorem Inv.bk (I:Inv X pins σ H s):∀ b o,X.base.get? b=some o→s.heap.get? b=some o:=fun b o e=>(I.bs b o e).1
theorem Inv.mod (I:Inv X pins σ H s):Mod X.K X.mg X.base:=I.ok.mod
theorem Inv.kIn (I:Inv X pins σ H s):X.K.In s.heap:=I.ok.mod.kin.keeps I.bk
theorem Inv.lt (I:Inv X pins σ H s):X.env.locals < s.heap.objs.size:=let ⟨_,hn,_⟩:=I.loc; hn.lt
theorem Inv.sz (I:Inv X pins σ H s):X.s₀.heap.objs.size≤s.heap.objs.size:=Nat.le_trans I.ok.above (Nat.le_of_lt I.lt)
theorem Inv.nofs (I:Inv X pins σ H s) {a:Addr} (h:s.heap.objs.size≤a):a ∉ X.fs:=fun hb=>by
 obtain ⟨_,o,ho,_⟩:=I.ok.funs.mem hb
 exact absurd (Nat.lt_of_lt_of_le (Heap.lt_size ho) (Nat.le_trans I.sz h)) (Nat.lt_irrefl _)
theorem Inv.cne (I:Inv X pins σ H s):∀ x c,X.env.cells.lookup x=some c→c≠X.env.locals:=fun x c e z=>by
 obtain ⟨v,o,ho,hd⟩:=I.cell x c e
 obtain ⟨m,⟨o',es,ep,ho',hd',_⟩,_⟩:=I.loc
 rw [z,ho'] at ho; cases ho; rw [hd'] at hd; cases hd
theorem Inv.funs (I:Inv X pins σ H s):s.heap.FunFrames X.base X.outer:=by
 have all:∀ (l:List Env),(∀ b∈frs l,b∈X.fs)→X.s₀.heap.FunFrames X.base l→s.heap.FunFrames X.base l:=by
  intro l
  induction l with
  | nil=>intro _ _; trivial
  | cons env r ih =>
   intro hs hl
   obtain ⟨hk,⟨L,o,hf,hn,ho,hd⟩,hr⟩:=hl
   have hL:L∈X.fs:=hs L (by unfold frs; rw [List.filterMap_cons,hf]; exact List.mem_cons_self)
   obtain ⟨sl,e⟩:=I.base.slot L o ho (I.ok.frf L hL) hL fun z=>I.ok.exfs L z hL
   exact ⟨hk,⟨L,_,hf,hn,e,hd⟩,ih (fun b hb=>hs b (by unfold frs; rw [List.filterMap_cons,hf]; exact List.mem_cons_of_mem _ hb)) hr⟩
 exact all X.outer (fun _ hb=>hb) I.ok.funs
theorem Inv.stack (I:Inv X pins σ H s):s.heap.FunFrames X.base X.stack:=by
 rcases I.ok.stk with e | ⟨e,hf⟩
 ·rw [e]; exact I.funs
 ·rw [e]
  obtain ⟨m,hn,_⟩:=I.loc
  refine .cons (by rw [I.ok.kind]; decide) hf hn ?_ I.funs
  exact Heap.get?_none_of_le (Nat.le_trans I.ok.bsz I.ok.above)
theorem Inv.stkSub (I:Inv X pins σ H s):∀ b∈frs X.stack,b∈X.env.locals :: X.fs:=fun b hb=>by
 rcases I.ok.stk with e | ⟨e,hf⟩
 ·rw [e] at hb; exact List.mem_cons_of_mem _ hb
 ·rw [e] at hb
  unfold frs at hb
  rw [List.filterMap_cons,hf] at hb
  exact hb
theorem Inv.stkFree (I:Inv X pins σ H s):∀ b∈frs X.stack,H b=none:=fun b hb=>by
 rcases List.mem_cons.mp (I.stkSub b hb) with e | hb
 ·rw [e]; exact I.free
 ·obtain ⟨_,o,ho,_⟩:=I.ok.funs.mem hb
  exact I.base.free b o ho (I.ok.frf b hb) fun z=>I.ok.exfs b z hb
theorem Inv.step {g':Array GenState} {t':Nat} {d':Drawn} {ch:List Addr} (I:Inv X pins σ H s)
  (hch:∀ b∈ch,(b∈X.ex∨X.s₀.heap.objs.size≤b)∧b≠X.env.locals∧(∀ x c,X.env.cells.lookup x=some c→c≠b)∧∀ p∈X.pn++pins,p.1≠b)
  (keep:∀ b o,b≠X.env.locals→b ∉ X.fs→b ∉ ch→s.heap.get? b=some o→H b=none→h'.get? b=some o)
  (slot:∀ b o,b≠X.env.locals→b∈X.fs→b ∉ ch→s.heap.get? b=some o→H b=none→∃ sl,h'.get? b=some { o with slots:=sl }) (free:∀ b o,b ∉ ch→s.heap.get? b=some o→H b=none→H' b=none)
  (there:∀ b o,b ∉ ch→s.heap.get? b=some o→∃ o',h'.get? b=some o')
  (tups:∀ b xs,H b=some (.tup xs)→H' b=some (.tup xs)) (frzs:∀ b o u,H b=some (.frz o u)→H' b=some (.frz o u)) (tbls:∀ b ps,H b=some (.tbl ps)→∃ more,H' b=some (.tbl (ps++more)))
  (ns:∀ m,s.heap.Ns X.env.locals m→h'.Ns X.env.locals m) (hok:HOk X.prog X.w H' h') (hg:AllBare g') :
  Inv X pins σ H' { s with heap:=h',gens:=g',drawn:=d',toks:=t' }:=by
 have neL:∀ b o,X.s₀.heap.get? b=some o→b≠X.env.locals:=fun b o e=>Nat.ne_of_lt (Nat.lt_of_lt_of_le (Heap.lt_size e) I.ok.above)
 have neC:∀ b o,X.s₀.heap.get? b=some o→b ∉ X.ex→b ∉ ch:=fun b o e hx hb=>by
  rcases (hch b hb).1 with z | z
  ·exact hx z
  ·exact absurd (Nat.lt_of_lt_of_le (Heap.lt_size e) z) (Nat.lt_irrefl _)
 have cellK:∀ x c,X.env.cells.lookup x=some c→∀ v,s.heap.IsCell c v→h'.IsCell c v:=fun x c e v ⟨o,ho,hd⟩=>by
  have nch:c ∉ ch:=fun z=>(hch c z).2.2.1 x c e rfl
  by_cases hc:c∈X.fs
  ·obtain ⟨sl,q⟩:=slot c o (I.cne x c e) hc nch ho (I.freeC x c e)
   exact ⟨_,q,hd⟩
  ·exact ⟨o,keep c o (I.cne x c e) hc nch ho (I.freeC x c e),hd⟩
 refine ⟨I.ok,I.os,hg,⟨fun b o e n hb hx=>?_,fun b o e n hb hx=>?_,fun b o e n hx=>?_,fun b o e hx=>?_,fun b xs e=>tups b xs (I.base.tups b xs e),fun b o xs e=>frzs b o xs (I.base.frzs b o xs e),fun b ps e=>?_⟩,?_,fun x c e=>?_,?_,fun x c e=>?_,fun p hp=>?_,hok,I.len⟩
 ·exact keep b o (neL b o e) hb (neC b o e hx) (I.base.keep b o e n hb hx) (I.base.free b o e n hx)
 ·obtain ⟨sl,e1⟩:=I.base.slot b o e n hb hx
  obtain ⟨sl',e2⟩:=slot b _ (neL b o e) hb (neC b o e hx) e1 (I.base.free b o e n hx)
  exact ⟨sl',e2⟩
 ·obtain ⟨o',e1⟩:=I.base.there b o e hx
  exact free b o' (neC b o e hx) e1 (I.base.free b o e n hx)
 ·obtain ⟨o',e1⟩:=I.base.there b o e hx
  exact there b o' (neC b o e hx) e1
 ·obtain ⟨m1,e1⟩:=I.base.tbls b ps e
  obtain ⟨m2,e2⟩:=tbls b _ e1
  exact ⟨m1++m2,by rw [e2,Array.append_assoc]⟩
 ·obtain ⟨m,hn,hl⟩:=I.loc
  refine ⟨m,ns m hn,fun i x v e1 e2 e3=>?_⟩
  obtain ⟨u,r,l⟩:=hl i x v e1 e2 e3
  refine ⟨u,r,?_⟩
  rcases l with l | ⟨k,c,e,z⟩
  ·exact .inl l
  ·exact .inr ⟨k,c,e,cellK x c e _ z⟩
 ·obtain ⟨v,z⟩:=I.cell x c e
  exact ⟨v,cellK x c e v z⟩
 ·obtain ⟨m,⟨o,_,_,ho,_⟩,_⟩:=I.loc
  exact free _ o (fun z=>(hch _ z).2.1 rfl) ho I.free
 ·obtain ⟨v,o,ho,hd⟩:=I.cell x c e
  exact free c o (fun z=>(hch c z).2.2.1 x c e rfl) ho (I.freeC x c e)
 ·obtain ⟨e,n,ne,nf,d⟩:=I.pin p hp
  have nch:p.1 ∉ ch:=fun z=>(hch p.1 z).2.2.2 p hp rfl
  exact ⟨keep p.1 p.2 ne nf nch e n,free p.1 p.2 nch e n,ne,nf,d⟩
theorem Inv.un {t':Nat} (I:Inv X pins σ H s) (u:Un X.fs [] H H' s.heap h') (hok:HOk X.prog X.w H' h'):Inv X pins σ H' { s with heap:=h',toks:=t' }:=by
 obtain ⟨m,⟨o,es,ep,ho,r⟩,_⟩:=id I.loc
 obtain ⟨sl,hL⟩:=u.any ho I.free (by simp)
 exact I.step (g':=s.gens) (d':=s.drawn) (ch:=[]) (fun _ z=>nomatch z) (fun b o _ hb _ e n=>u.keep b o e n hb (by simp)) (fun b o _ hb _ e n=>u.slot b o e n hb (by simp)) (fun b o _ e n=>u.free b o e n (by simp)) (fun b o _ e=>u.there b o e (by simp)) u.tups u.frzs u.tbls (fun m' hm=>by
  obtain ⟨o',es',ep',ho',r'⟩:=hm
  rw [ho] at ho'; cases ho'
  exact ⟨_,es',ep',hL,r'⟩) hok I.bare
theorem Inv.call {g':Array GenState} {t':Nat} {d':Drawn} {ch:List Addr} (I:Inv X pins σ H s) (u:Un (frs X.stack) ch H H' s.heap h') (hok:HOk X.prog X.w H' h') (hg:AllBare g')
  (hch:∀ b∈ch,(b∈X.ex∨X.s₀.heap.objs.size≤b)∧b≠X.env.locals∧(∀ x c,X.env.cells.lookup x=some c→c≠b)∧∀ p∈X.pn++pins,p.1≠b) :
  Inv X pins σ H' { s with heap:=h',gens:=g',drawn:=d',toks:=t' }:=by
 obtain ⟨m,⟨o,es,ep,ho,r⟩,_⟩:=id I.loc
 obtain ⟨sl,hL⟩:=u.any ho I.free fun z=>(hch _ z).2.1 rfl
 exact I.step (ch:=ch) hch (fun b o hL hb hc e n=>u.keep b o e n (fun z=>(List.mem_cons.mp (I.stkSub b z)).elim hL hb) hc) (fun b o _ _ hc e n=>u.any e n hc) (fun b o hc e n=>u.free b o e n hc) (fun b o hc e=>u.there b o e hc) u.tups u.frzs u.tbls (fun m' hm=>by
  obtain ⟨o',es',ep',ho',r'⟩:=hm
  rw [ho] at ho'; cases ho'
  exact ⟨_,es',ep',hL,r'⟩) hok hg
theorem Inv.turned {t':Nat} {it:Addr} (I:Inv X pins σ H s) (k:∀ b o,b≠it→s.heap.get? b=some o→h'.get? b=some o) (hn:H it=none) (hL:it≠X.env.locals)
  (h1:it∈X.ex∨X.s₀.heap.objs.size≤it) (h2:∀ x c,X.env.cells.lookup x=some c→c≠it) (h3:∀ p∈X.pn++pins,p.1≠it):Inv X pins σ H { s with heap:=h',toks:=t' }:=by
 have nit:∀ b u,H b=some u→b≠it:=fun b u e z=>by rw [z,hn] at e; cases e
 refine I.step (g':=s.gens) (d':=s.drawn) (ch:=[it]) (fun b hb=>?_) (fun b o _ _ hc e _=>k b o (fun z=>hc (by simp [z])) e) (fun b o _ _ hc e _=>⟨o.slots,k b o (fun z=>hc (by simp [z])) e⟩) (fun _ _ _ _ n=>n)
  (fun b o hc e=>⟨o,k b o (fun z=>hc (by simp [z])) e⟩) (fun _ _ e=>e) (fun _ _ _ e=>e) (fun b ps e=>⟨#[],by rw [e]; simp⟩) (fun m hm=>?_) (fun b u e=>?_) I.bare
 ·have e:b=it:=by simpa using hb
  subst e
  exact ⟨h1,hL,h2,h3⟩
 ·obtain ⟨o,es,ep,ho,r⟩:=hm
  exact ⟨o,es,ep,k _ o (Ne.symm hL) ho,r⟩
 ·refine (I.hok b u e).stay (fun c v hc q=>k c v ?_ q) (fun _ q=>q) fun _ _ q=>q
  rcases hc with z | z
  ·rw [z]; exact nit b u e
  ·exact nit c _ z
theorem Inv.tok (I:Inv X pins σ H s) (t:Nat):Inv X pins σ H { s with toks:=t }:=I.un (h':=s.heap) (t':=t) Un.refl I.hok
theorem Inv.kept {t':Nat} (I:Inv X pins σ H s) (k:∀ b u,s.heap.get? b=some u→h'.get? b=some u):Inv X pins σ H { s with heap:=h',toks:=t' }:=I.un (Un.kept k) (I.hok.kept k)
theorem Inv.laid {a:Addr} {o:HO} {t':Nat} (I:Inv X pins σ H s) (k:∀ b u,s.heap.get? b=some u→h'.get? b=some u) (hp:s.heap.objs.size≤a) (new:ObjOk X.prog X.w (upd H a o) h' a o) :
  Inv X pins σ (upd H a o) { s with heap:=h',toks:=t' }:=I.un (Un.laid k hp (I.hok.fresh hp)) (I.hok.laid k hp new)
theorem Inv.write {x e:Addr} {o:HO} {t':Nat} (I:Inv X pins σ H s) (mu:Mut (H x)) (he:e=x∨H e=some (.own x)) (k:∀ b u,b≠e→s.heap.get? b=some u→h'.get? b=some u) (heo:∃ u,h'.get? e=some u)
  (new:ObjOk X.prog X.w (upd H x o) h' x o):Inv X pins σ (upd H x o) { s with heap:=h',toks:=t' }:=I.un (Un.write mu he k heo) (I.hok.write mu he k heo new)
theorem Inv.pins_of {pins':List (Addr × Obj)} (I:Inv X pins σ H s) (h:∀ p∈pins',s.heap.get? p.1=some p.2∧H p.1=none∧p.1≠X.env.locals∧p.1 ∉ X.fs∧∀ v,p.2.data≠.cell v):Inv X pins' σ H s :=
 ⟨I.ok,I.os,I.bare,I.base,I.loc,I.cell,I.free,I.freeC,fun p hp=>(List.mem_append.mp hp).elim (fun z=>I.pin p (List.mem_append_left _ z)) (h p),I.hok,I.len⟩
theorem mW {N:List Str} (hN:N.Nodup) {i j:Nat} {x:Str} (a:N[i]?=some x) (b:N[j]?=some x):i=j:=by
 obtain ⟨h1,e1⟩:=List.getElem?_eq_some_iff.mp a
 obtain ⟨h2,e2⟩:=List.getElem?_eq_some_iff.mp b
 exact (List.getElem_inj hN).mp (e1.trans e2.symm)
theorem lM {M:Model} {A:Around} {E:Value→Shared→Prop} {i:Nat} {x:Str} {v:V} {u:Value} {Q:Unit→Shared→Prop} (I:Inv X pins σ H s) (hN:X.N.Nodup) (hi:X.N[i]?=some x) (hx:Loc X.env.scope x) (r:RelV v u)
  (h:∀ s',Inv X pins (σ.set i (some v)) H s'→(∃ a,Heap.SameBut a s.heap s'.heap∧(a=X.env.locals∨X.env.cells.lookup x=some a))→Q () s') (hf:X.fn x=true∨X.env.scope.names.lookup x=some .local:=by first | exact .inl rfl | exact .inr rfl | assumption):wpAny M A (storeName X.env x u) Q E s:=by
 obtain ⟨m,hn,hl⟩:=id I.loc
 have hcls:(X.env.scope.kind == .class || (X.env.scope.kind == .module && X.env.locals != X.env.globals))=false:=by rw [I.ok.kind]; rfl
 have hiσ:i < σ.length:=by rw [I.len]; exact (List.getElem?_eq_some_iff.mp hi).1
 have cne:=I.cne
 have tracked:∀ {a:Addr} {h':Heap},(∃ o,s.heap.get? a=some o∧H a=none)→Heap.SameBut a s.heap h'→HOk X.prog X.w H h':=fun {a h'} ha hs b ob e=>by
  obtain ⟨_,_,hfree⟩:=ha
  refine (I.hok b ob e).stay (fun c w' hc q=>(hs.2 c ?_).trans q) (fun _ q=>q) fun _ _ q=>q
  rintro rfl
  rcases hc with rfl | hc
  ·rw [hfree] at e; cases e
  ·rw [hfree] at hc; cases hc
 rcases hx with hk | hk
 ·refine wpAny_storeName_local hk hn (fun h' hn' hs=>?_) hcls
  obtain ⟨oL,_,_,hoL,_⟩:=id hn
  refine h _ ⟨I.ok,I.os,I.bare,⟨fun b o e n hb hx=>?_,fun b o e n hb hx=>?_,I.base.free,fun b o e hx=>?_,I.base.tups,I.base.frzs,I.base.tbls⟩,⟨_,hn',fun j y v' e1 e2 e3=>?_⟩,fun y c e=>?_,I.free,I.freeC,fun p hp=>?_,tracked ⟨oL,hoL,I.free⟩ hs,by simpa using I.len⟩ ⟨_,hs,.inl rfl⟩
  ·exact (hs.2 b (Nat.ne_of_lt (Nat.lt_of_lt_of_le (Heap.lt_size e) I.ok.above))).trans (I.base.keep b o e n hb hx)
  ·obtain ⟨sl,e1⟩:=I.base.slot b o e n hb hx
   exact ⟨sl,(hs.2 b (Nat.ne_of_lt (Nat.lt_of_lt_of_le (Heap.lt_size e) I.ok.above))).trans e1⟩
  ·obtain ⟨o',e1⟩:=I.base.there b o e hx
   exact ⟨o',(hs.2 b (Nat.ne_of_lt (Nat.lt_of_lt_of_le (Heap.lt_size e) I.ok.above))).trans e1⟩
  ·by_cases hj:j=i
   ·subst hj
    rw [hi] at e1; cases e1
    rw [List.getElem?_set_self hiσ] at e2
    cases e2
    exact ⟨u,r,.inl ⟨hk,by simp⟩⟩
   ·rw [List.getElem?_set_ne (Ne.symm hj)] at e2
    obtain ⟨u',r',q⟩:=hl j y v' e1 e2 e3
    refine ⟨u',r',?_⟩
    rcases q with ⟨k,e⟩ | ⟨k,c,e,z⟩
    ·refine .inl ⟨k,?_⟩
     have:y≠x:=fun e=>hj (mW hN e1 (e ▸ hi))
     simp [this,e]
    ·exact .inr ⟨k,c,e,z.sameBut hs (cne y c e)⟩
  ·obtain ⟨w',z⟩:=I.cell y c e
   exact ⟨w',z.sameBut hs (cne y c e)⟩
  ·obtain ⟨e,n,ne,nf,d⟩:=I.pin p hp
   exact ⟨(hs.2 p.1 ne).trans e,n,ne,nf,d⟩
 ·have hfn:X.fn x=true:=by
   rcases hf with z | z
   ·exact z
   ·rw [z] at hk; cases hk
  obtain ⟨c,hc⟩:=I.ok.has x (.inl hk)
  obtain ⟨w',z⟩:=I.cell x c hc
  refine wpAny_storeName_cell I.ok.kind hk hc z (fun h' hc' hs=>?_)
  obtain ⟨oc,hoc,hocd⟩:=id z
  refine h { s with heap:=h' } ⟨I.ok,I.os,I.bare,⟨fun b o e n hb hx=>?_,fun b o e n hb hx=>?_,I.base.free,fun b o e hx=>?_,I.base.tups,I.base.frzs,I.base.tbls⟩,⟨m,hn.sameBut hs (Ne.symm (cne x c hc)),fun j y v' e1 e2 e3=>?_⟩,fun y c' e=>?_,I.free,I.freeC,fun p hp=>?_,tracked ⟨oc,hoc,I.freeC x c hc⟩ hs,by simpa using I.len⟩ ⟨c,hs,.inr hc⟩
  ·exact (hs.2 b (Nat.ne_of_lt (Nat.lt_of_lt_of_le (Heap.lt_size e) (I.ok.cab x c hfn hc)))).trans (I.base.keep b o e n hb hx)
  ·obtain ⟨sl,e1⟩:=I.base.slot b o e n hb hx
   exact ⟨sl,(hs.2 b (Nat.ne_of_lt (Nat.lt_of_lt_of_le (Heap.lt_size e) (I.ok.cab x c hfn hc)))).trans e1⟩
  ·obtain ⟨o',e1⟩:=I.base.there b o e hx
   exact ⟨o',(hs.2 b (Nat.ne_of_lt (Nat.lt_of_lt_of_le (Heap.lt_size e) (I.ok.cab x c hfn hc)))).trans e1⟩
  ·by_cases hj:j=i
   ·subst hj
    rw [hi] at e1; cases e1
    rw [List.getElem?_set_self hiσ] at e2
    cases e2
    exact ⟨u,r,.inr ⟨.inl hk,c,hc,hc'⟩⟩
   ·rw [List.getElem?_set_ne (Ne.symm hj)] at e2
    obtain ⟨u',r',q⟩:=hl j y v' e1 e2 e3
    refine ⟨u',r',?_⟩
    rcases q with q | ⟨k,c',e,z'⟩
    ·exact .inl q
    ·refine .inr ⟨k,c',e,z'.sameBut hs ?_⟩
     rintro rfl
     exact hj (mW hN e1 (I.ok.inj _ _ _ e hc ▸ hi))
  ·by_cases hcc:c'=c
   ·subst hcc; exact ⟨_,hc'⟩
   ·obtain ⟨w2,z2⟩:=I.cell y c' e
    exact ⟨w2,z2.sameBut hs hcc⟩
  ·obtain ⟨e,n,ne,nf,d⟩:=I.pin p hp
   refine ⟨(hs.2 p.1 ?_).trans e,n,ne,nf,d⟩
   intro q
   rw [q,hoc] at e
   have q':oc=p.2:=Option.some.inj e
   exact d w' (by rw [← q']; exact hocd)
theorem mN {M:Model} {A:Around} {E:Value→Shared→Prop} {i:Nat} {x:Str} {v:V} {u:Value} {Q:Unit→Shared→Prop} (I:Inv X pins σ H s) (hN:X.N.Nodup) (hi:X.N[i]?=some x) (hx:Loc X.env.scope x) (r:RelV v u)
  (h:∀ s',Inv X pins (σ.set i (some v)) H s'→Q () s') (hf:X.fn x=true∨X.env.scope.names.lookup x=some .local:=by first | exact .inl rfl | exact .inr rfl | assumption):wpAny M A (storeName X.env x u) Q E s :=
 lM I hN hi hx r (fun s' I' _=>h s' I') hf
theorem Inv.call' {s':Shared} {ch:List Addr} (I:Inv X pins σ H s) (ho:s'.os=s.os) (u:Un (frs X.stack) ch H H' s.heap s'.heap) (hok:HOk X.prog X.w H' s'.heap) (hg:AllBare s'.gens)
  (hch:∀ b∈ch,(b∈X.ex∨X.s₀.heap.objs.size≤b)∧b≠X.env.locals∧(∀ x c,X.env.cells.lookup x=some c→c≠b)∧∀ p∈X.pn++pins,p.1≠b):Inv X pins σ H' s':=by
 obtain ⟨h',g',d',t',o'⟩:=s'
 have e:o'=s.os:=ho
 subst e
 exact I.call (g':=g') (t':=t') (d':=d') u hok hg hch
end
abbrev XK:=Value→Option Addr→Hp→Prop
abbrev St:=List (Option V)
abbrev VK:=V→Hp→Prop
abbrev TE:=St→Hp→VK→Prop
abbrev TT:=St→Hp→(Bool→Hp→Prop)→Prop
abbrev TA:=St→Hp→(List V→Hp→Prop)→Prop
structure Ends where
 nx:St→Hp→Prop
 rt:VK
 bk:St→Hp→Prop:=fun _ _=>False
 ct:St→Hp→Prop:=fun _ _=>False
abbrev TS:=Ends→St→Hp→Prop
def EP (X:Cx) (pins:List (Addr × Obj)) (σ:St) (Q:VK) (u:Value) (s':Shared):Prop:=∃ v H',Inv X pins σ H' s'∧RelV v u∧Q v H'
def TP (X:Cx) (pins:List (Addr × Obj)) (σ:St) (Q:Bool→Hp→Prop) (b:Bool) (s':Shared):Prop:=∃ H',Inv X pins σ H' s'∧Q b H'
def AP (X:Cx) (pins:List (Addr × Obj)) (σ:St) (Q:List V→Hp→Prop) (us:List Value) (s':Shared):Prop:=∃ vs H',Inv X pins σ H' s'∧Vals vs us∧Q vs H'
def SP (X:Cx) (pins:List (Addr × Obj)) (D:Ends) (f:Flow) (s':Shared):Prop :=
 match f with
 | .next=>∃ σ' H',Inv X pins σ' H' s'∧D.nx σ' H'
 | .brk=>∃ σ' H',Inv X pins σ' H' s'∧D.bk σ' H'
 | .cont=>∃ σ' H',Inv X pins σ' H' s'∧D.ct σ' H'
 | .ret u=>∃ v σ' H',Inv X pins σ' H' s'∧RelV v u∧D.rt v H'
def PE (X:Cx) (e:Expr) (t:TE):Prop :=
 ∀ (pins:List (Addr × Obj)) (s:Shared) (σ:St) (H:Hp) (Q:VK),Inv X pins σ H s→t σ H Q→wpAny (model X.prog X.w) X.A (eval e X.env) (EP X pins σ Q) X.xe s
def PT (X:Cx) (e:Expr) (t:TT):Prop :=
 ∀ (pins:List (Addr × Obj)) (s:Shared) (σ:St) (H:Hp) (Q:Bool→Hp→Prop),Inv X pins σ H s→t σ H Q→wpAny (model X.prog X.w) X.A (isTrue e X.env (eval e X.env)) (TP X pins σ Q) X.xe s
def PW (X:Cx) (e:Expr) (t:TT):Prop :=
 ∀ (whole:Sem Value) (pins:List (Addr × Obj)) (s:Shared) (σ:St) (H:Hp) (Q:Bool→Hp→Prop),Inv X pins σ H s→t σ H Q→wpAny (model X.prog X.w) X.A (isTrue e X.env whole) (TP X pins σ Q) X.xe s
theorem PW.pt {X:Cx} {e:Expr} {t:TT} (h:PW X e t):PT X e t:=h _
def PA (X:Cx) (es:List Expr) (t:TA):Prop :=
 ∀ (pos:Pos) (pins:List (Addr × Obj)) (s:Shared) (σ:St) (H:Hp) (Q:List V→Hp→Prop),Inv X pins σ H s→t σ H Q→wpAny (model X.prog X.w) X.A (spliced (backTo pos (starEach es X.env))) (AP X pins σ Q) X.xe s
def PS (X:Cx) (st:Stmt) (t:TS):Prop :=
 ∀ (pins:List (Addr × Obj)) (s:Shared) (σ:St) (H:Hp) (D:Ends),Inv X pins σ H s→t D σ H→wpAny (model X.prog X.w) X.A (exec st X.env) (SP X pins D) X.xe s
def PSs (X:Cx) (st:List Stmt) (t:TS):Prop :=
 ∀ (pins:List (Addr × Obj)) (s:Shared) (σ:St) (H:Hp) (D:Ends),Inv X pins σ H s→t D σ H→wpAny (model X.prog X.w) X.A (execs st X.env) (SP X pins D) X.xe s
theorem thn {α:Type} {t:Sem α} {Q Q':α→Shared→Prop} {M:Model} {A:Around} {E:Value→Shared→Prop} {s:Shared} (h:wpAny M A t Q E s) (hQ:∀ a s,Q a s→Q' a s):wpAny M A t Q' E s:=wpAny_mono h hQ fun _ _ x=>x
end L2
namespace L2
open PySem PySem.Spec PyProof.Rows
section
variable {X:Cx}
theorem bin {a b:Expr} {ta tb:TE} (ha:PE X a ta) (hb:PE X b tb) {pins:List (Addr × Obj)} {s:Shared} {σ:St} {H:Hp} {R:V→V→Hp→Prop} (I:Inv X pins σ H s) (h:ta σ H fun x H1=>tb σ H1 fun y H2=>R x y H2)
  {α:Type} {Q:α→Shared→Prop} {f:Value→Value→Sem α}
  (hf:∀ v u s2 x y H2,Inv X pins σ H2 s2→RelV x v→RelV y u→R x y H2→wpAny (model X.prog X.w) X.A (f v u) Q X.xe s2) :
  wpAny (model X.prog X.w) X.A (eval a X.env) (fun v s₁=>wpAny (model X.prog X.w) X.A (eval b X.env) (fun u s₂=>wpAny (model X.prog X.w) X.A (f v u) Q X.xe s₂) X.xe s₁) X.xe s:=by
 refine thn (ha pins s σ H _ I h) fun v s1 ⟨x,H1,I1,r1,q1⟩=>?_
 refine thn (hb pins s1 σ H1 _ I1 q1) fun u s2 ⟨y,H2,I2,r2,q2⟩=>?_
 exact hf v u s2 x y H2 I2 r1 r2 q2
def jZ (i:Nat):TE:=fun σ H Q=>∃ v,σ[i]?=some (some v)∧Q v H
def tC (v:V):TE:=fun _ H Q=>Q v H
theorem jc {i:Nat} {x:Str} {pos:Pos} (hN:X.N[i]?=some x) (hv:Vis X.env.scope x) (hd:(x == ("__debug__" : Str))=false:=by decide) (hcd:(x == ("__classdict__" : Str))=false:=by decide):PE X (.Name x pos) (jZ i):=by
 intro pins s σ H Q I h
 obtain ⟨v,e,h⟩:=h
 obtain ⟨m,hn,hl⟩:=I.loc
 obtain ⟨u,r,l⟩:=hl i x v hN e hv
 have fin:EP X pins σ Q u s:=⟨v,H,I,r,h⟩
 rcases l with ⟨hk,hm⟩ | ⟨hk,c,hc,hcell⟩
 ·exact wpAny_Name (wpAny_loadName_local I.ok.kind hk hn hm fin) hd
 ·rcases hk with hk | hk
  ·exact wpAny_Name (wpAny_loadName_cell I.ok.kind hk hc hcell fin) hd
  ·exact wpAny_Name (wpAny_loadName_free I.ok.kind hk hc hcell fin hcd) hd
theorem pe_int {i j pos}:PE X (.Constant (.int i) j pos) (tC (.int i)):=fun _ _ _ H _ I h=>wpAny_Constant_int ⟨.int i,H,I.tok _,⟨_,rfl⟩,h⟩
theorem pe_bl {b j pos}:PE X (.Constant (.bool b) j pos) (tC (.bl b)):=fun _ _ _ H _ I h=>Constant_bool ⟨.bl b,H,I,rfl,h⟩
theorem pe_non {j pos}:PE X (.Constant .none j pos) (tC .non):=fun _ _ _ H _ I h=>Constant_none ⟨.non,H,I,rfl,h⟩
theorem pe_str {x j pos}:PE X (.Constant (.str x) j pos) (tC (.str x)):=fun _ _ _ H _ I h=>Calls.Constant_str ⟨.str x,H,I.tok _,⟨_,rfl⟩,h⟩
def Gl (X:Cx) (x:Str):Prop:=X.env.kindOf x=some .globalImplicit
theorem oA {E:Value→Shared→Prop} {pins:List (Addr × Obj)} {s:Shared} {σ:St} {H:Hp} {x:Str} {u:Value} {pos:Pos} {Q:Value→Shared→Prop} (I:Inv X pins σ H s) (hg:Gl X x) (hm:X.mg x=some u) (h:Q u s)
  (hd:(x == ("__debug__" : Str))=false:=by decide):wpAny (model X.prog X.w) X.A (eval (.Name x pos) X.env) Q E s :=
 Calls.Name_function_global I.ok.kind hg (Calls.loadGlobal_global (by rw [I.ok.glob]; exact I.mod.glob.keeps I.bk) hm h) hd
theorem ji {E:Value→Shared→Prop} {pins:List (Addr × Obj)} {s:Shared} {σ:St} {H:Hp} {x:Str} {u:Value} {pos:Pos} {Q:Value→Shared→Prop} (I:Inv X pins σ H s) (hg:Gl X x) (hm:X.mg x=none) (hv:bootBuiltins x=some u) (h:Q u s)
  (hn:x≠"__name__":=by decide) (hd:(x == ("__debug__" : Str))=false:=by decide):wpAny (model X.prog X.w) X.A (eval (.Name x pos) X.env) Q E s:=by
 obtain ⟨mb,h1,h2⟩:=I.mod.blt
 exact Calls.Name_function_global I.ok.kind hg (Calls.loadGlobal_builtin (by rw [I.ok.glob]; exact I.mod.glob.keeps I.bk) hm (by rw [I.ok.blt]; exact h1.keeps I.bk) ((h2 x hn).trans hv) h) hd
theorem zL {x:Str} {v:V} {u:Value} {pos:Pos} (hg:Gl X x) (hm:X.mg x=some u) (r:RelV v u) (hd:(x == ("__debug__" : Str))=false:=by decide):PE X (.Name x pos) (tC v) :=
 fun _ _ _ H _ I h=>oA I hg hm ⟨v,H,I,r,h⟩ hd
theorem zO {x:Str} {v:V} {u:Value} {pos:Pos} (hg:Gl X x) (hm:X.mg x=none) (hv:bootBuiltins x=some u) (r:RelV v u) (hn:x≠"__name__":=by decide) (hd:(x == ("__debug__" : Str))=false:=by decide):PE X (.Name x pos) (tC v) :=
 fun _ _ _ H _ I h=>ji I hg hm hv ⟨v,H,I,r,h⟩ hn hd
variable {a b:Expr} {ta tb:TE} {pos:Pos}
def PC (X:Cx) (op:CmpOp) (a b:Expr) (t:TE):Prop :=
 ∀ (pins:List (Addr × Obj)) (s:Shared) (σ:St) (H:Hp) (Q:VK),Inv X pins σ H s→t σ H Q →
  wpAny (model X.prog X.w) X.A (eval a X.env) (fun v s₁=>wpAny (model X.prog X.w) X.A (eval b X.env) (fun u s₂=>wpAny (model X.prog X.w) X.A (compareOp op v u) (EP X pins σ Q) X.xe s₂) X.xe s₁) X.xe s
theorem su (b:Expr) {op:CmpOp} (h:op≠.In) (h2:op≠.NotIn):behindInMarks op b=false:=by
 have e1:(op == CmpOp.In)=false:=by cases op <;> first | rfl | exact absurd rfl h
 have e2:(op == CmpOp.NotIn)=false:=by cases op <;> first | rfl | exact absurd rfl h2
 cases b <;> simp [behindInMarks,e1,e2]
def tB (t:TE):TT:=fun σ H Q=>t σ H fun x H1=>∃ c,x=.bl c∧Q c H1
theorem FM {op:CmpOp} {t:TE} (h:PC X op a b t) (h1:behindInMarks op b=false:=by first | exact su _ (by decide) (by decide) | rfl):PT X (.Compare a [op] [b] pos) (tB t):=by
 intro pins s σ H Q I hw
 refine wpAny_isTrue_Compare1 (thn (h pins s σ H _ I hw) fun v s1 h1=>thn h1 fun u s2 h2=>thn h2 fun c s3 ⟨x,H1,I1,r1,q1⟩=>?_) h1
 obtain ⟨d,rfl,q⟩:=q1
 cases r1
 exact wpAny_truthy_bool ⟨H1,I1,q⟩
theorem C1 {e:Expr} {t:TE} (h:PE X e t) (he:∀ whole,isTrue e X.env whole=(do let v ← whole; standAt e.pos; holding [v] (truthy v)):=by intro _; rfl):PT X e (tB t):=by
 intro pins s σ H Q I hw
 refine isTrue_plain (thn (h pins s σ H _ I hw) fun v s1 ⟨x,H1,I1,r1,q1⟩=>?_) (he _)
 obtain ⟨d,rfl,q⟩:=q1
 cases r1
 exact wpAny_truthy_bool ⟨H1,I1,q⟩
variable {tA tB':TT} {rest:List Expr}
def CK (t u:TT):TT:=fun σ H Q=>t σ H fun c H1=>if c=true then u σ H1 Q else Q false H1
def tOr (t u:TT):TT:=fun σ H Q=>t σ H fun c H1=>if c=true then Q true H1 else u σ H1 Q
def CF (t:TT):TT:=fun σ H Q=>t σ H fun c H1=>Q (!c) H1
theorem zC (ha:PT X a tA):PW X (.BoolOp .And [a] pos) tA:=by
 intro wh pins s σ H Q I h
 refine isTrue_and (thn (ha pins s σ H Q I h) fun c s1 e=>?_)
 cases c with
 | true=>exact isTrue_and_nil e
 | false=>exact e
theorem CY (ha:PT X a tA):PW X (.BoolOp .Or [a] pos) tA:=by
 intro wh pins s σ H Q I h
 refine isTrue_or (thn (ha pins s σ H Q I h) fun c s1 e=>?_)
 cases c with
 | false=>exact isTrue_or_nil e
 | true=>exact e
theorem CZ (ha:PT X a tA) (hb:PW X (.BoolOp .And (b :: rest) pos) tB'):PW X (.BoolOp .And (a :: b :: rest) pos) (CK tA tB'):=by
 intro wh pins s σ H Q I h
 refine isTrue_and (thn (ha pins s σ H _ I h) fun c s1 ⟨H1,I1,q1⟩=>?_)
 cases c with
 | true=>exact hb wh pins s1 σ H1 Q I1 q1
 | false=>exact ⟨H1,I1,q1⟩
theorem EJ (ha:PT X a tA) (hb:PW X (.BoolOp .Or (b :: rest) pos) tB'):PW X (.BoolOp .Or (a :: b :: rest) pos) (tOr tA tB'):=by
 intro wh pins s σ H Q I h
 refine isTrue_or (thn (ha pins s σ H _ I h) fun c s1 ⟨H1,I1,q1⟩=>?_)
 cases c with
 | true=>exact ⟨H1,I1,q1⟩
 | false=>exact hb wh pins s1 σ H1 Q I1 q1
theorem C2 (ha:PT X a tA):PT X (.UnaryOp .Not a pos) (CF tA):=by
 intro pins s σ H Q I h
 exact isTrue_not (ha pins s σ H (fun c H1=>Q (!c) H1) I h)
def yR (ta tb:TE):TE:=fun σ H Q=>ta σ H fun x H1=>∃ c,x=.bl c∧if c=true then tb σ H1 Q else Q (.bl false) H1
theorem Db {op} {t:TE} (h:PE X a t):PE X (.BoolOp op [a] pos) t:=fun pins s σ H Q I hw=>BoolOp_one (h pins s σ H Q I hw)
theorem Dd (ha:PE X a ta) (hb:PE X (.BoolOp .And (b :: rest) pos) tb):PE X (.BoolOp .And (a :: b :: rest) pos) (yR ta tb):=by
 intro pins s σ H Q I h
 refine BoolOp_and (thn (ha pins s σ H _ I h) fun v s1 ⟨x,H1,I1,r1,q1⟩=>?_)
 obtain ⟨c,rfl,q1⟩:=q1
 cases r1
 refine wpAny_truthy_bool ?_
 cases c with
 | true=>exact hb pins s1 σ H1 Q I1 q1
 | false=>exact ⟨.bl false,H1,I1,rfl,q1⟩
end
end L2
namespace L2
open PySem PySem.Spec PyProof.Rows
def SqL (K:PySem.W.Frag) (H:Hp) (a:Addr) (xs:List V):Prop :=
 Rd H a (.lst xs) ∨
  ∃ (o:Obj) (its:Array Value) (n:Nat),K.lookup a=some o∧o.cls=.type "list"∧o.dict=none∧o.data=.seq its n∧its.size≤sizeLine∧Vals xs its.toList
def SqT (K:PySem.W.Frag) (H:Hp) (a:Addr) (xs:List V):Prop :=
 Rd H a (.tup xs) ∨
  ∃ (o:Obj) (its:Array Value) (n:Nat),K.lookup a=some o∧o.cls=.type "tuple"∧o.data=.seq its n∧its.size≤sizeLine∧Vals xs its.toList
def FE:Value→Option V
 | .none=>some .non
 | .bool b=>some (.bl b)
 | .int i _=>some (.int i)
 | .str x _=>some (.str x)
 | .bytes b _=>some (.byt b)
 | .float b _=>some (.flt b)
 | .ref a=>some (.ref a)
 | .type n=>some (.ty n)
 | _=>none
theorem RelV.abs {x:V} {u:Value} (r:RelV x u):FE u=some x:=by
 cases x with
 | non=>cases r; rfl
 | bl _=>cases r; rfl
 | int _=>obtain ⟨t,rfl⟩:=r; rfl
 | str _=>obtain ⟨t,rfl⟩:=r; rfl
 | byt _=>obtain ⟨t,rfl⟩:=r; rfl
 | flt _=>obtain ⟨t,rfl⟩:=r; rfl
 | ref _=>cases r; rfl
 | ty _=>cases r; rfl
theorem RelV.inj {x y:V} {u:Value} (r:RelV x u) (q:RelV y u):x=y:=Option.some.inj (r.abs.symm.trans q.abs)
theorem Vals.inj:∀ {xs ys:List V} {us:List Value},Vals xs us→Vals ys us→xs=ys
 | _,_,_,.nil,.nil=>rfl
 | _,_,_,.cons r t,.cons r' t'=>by rw [r.inj r',Vals.inj t t']
section
variable {X:Cx} {pins:List (Addr × Obj)} {σ:St} {H:Hp} {s:Shared} {a:Addr} {xs ys:List V}
theorem SqL.of {K:PySem.W.Frag} (h:H a=some (.lst xs)):SqL K H a xs:=.inl (.inl h)
theorem SqT.of {K:PySem.W.Frag} (h:H a=some (.tup xs)):SqT K H a xs:=.inl (.inl h)
theorem Inv.list (I:Inv X pins σ H s) (h:SqL X.K H a xs):∃ its:List Value,Vals xs its∧PlainL s.heap a its.toArray∧xs.length≤sizeLine:=by
 rcases h with h | ⟨o,its,n,hk,hc,hd,hs,hz,r⟩
 ·obtain ⟨z,its,n,r,e⟩:=h.ok I.hok
  exact ⟨its,r,⟨_,n,e,rfl,rfl,rfl⟩,z⟩
 ·refine ⟨its.toList,r,⟨o,n,I.kIn a o hk,hc,hd,by simpa using hs⟩,?_⟩
  have e:=r.length
  simp only [Array.length_toList] at e
  omega
theorem Inv.tuple (I:Inv X pins σ H s) (h:SqT X.K H a xs):∃ its:List Value,Vals xs its∧IsTup s.heap a its.toArray∧xs.length≤sizeLine:=by
 rcases h with h | ⟨o,its,n,hk,hc,hs,hz,r⟩
 ·obtain ⟨z,its,r,p⟩:=h.ok I.hok
  exact ⟨its,r,p.tup,z⟩
 ·refine ⟨its.toList,r,⟨o,I.kIn a o hk,hc,n,by simpa using hs⟩,?_⟩
  have e:=r.length
  simp only [Array.length_toList] at e
  omega
theorem Inv.list_inj (I:Inv X pins σ H s) (h:SqL X.K H a xs) (h':SqL X.K H a ys):xs=ys:=by
 obtain ⟨its,r,⟨o,n,e,_,_,d⟩,_⟩:=I.list h
 obtain ⟨its',r',⟨o',n',e',_,_,d'⟩,_⟩:=I.list h'
 rw [e] at e'; cases e'
 rw [d] at d'
 injection d' with d1 _
 have:its=its':=by simpa using congrArg Array.toList d1
 subst this
 exact r.inj r'
theorem Inv.tuple_inj (I:Inv X pins σ H s) (h:SqT X.K H a xs) (h':SqT X.K H a ys):xs=ys:=by
 obtain ⟨its,r,⟨o,e,_,n,d⟩,_⟩:=I.tuple h
 obtain ⟨its',r',⟨o',e',_,n',d'⟩,_⟩:=I.tuple h'
 rw [e] at e'; cases e'
 rw [d] at d'
 injection d' with d1 _
 have:its=its':=by simpa using congrArg Array.toList d1
 subst this
 exact r.inj r'
end
abbrev Cx.wish (X:Cx) (E:Value→Shared→Prop):Cx:={ X with xe:=E }
abbrev Cx.nox (X:Cx):Cx:=X.wish fun _ _=>False
theorem Cx.Ok.wish {X:Cx} (ok:X.Ok) (E:Value→Shared→Prop):(X.wish E).Ok :=
 ⟨ok.mod,ok.kind,ok.glob,ok.blt,ok.above,ok.inj,ok.has,ok.cab,ok.hd,ok.frames,ok.stk,ok.exf,ok.bs,ok.bsz,ok.noex,ok.exfs,ok.funs,ok.frf⟩
theorem Cx.Ok.unwish {X:Cx} {E:Value→Shared→Prop} (ok:(X.wish E).Ok):X.Ok :=
 ⟨ok.mod,ok.kind,ok.glob,ok.blt,ok.above,ok.inj,ok.has,ok.cab,ok.hd,ok.frames,ok.stk,ok.exf,ok.bs,ok.bsz,ok.noex,ok.exfs,ok.funs,ok.frf⟩
section
variable {X:Cx} {pins:List (Addr × Obj)} {σ:St} {H:Hp} {s:Shared} {E:Value→Shared→Prop}
theorem Inv.wish (I:Inv X pins σ H s) (E:Value→Shared→Prop):Inv (X.wish E) pins σ H s:=⟨I.ok.wish E,I.os,I.bare,I.base,I.loc,I.cell,I.free,I.freeC,I.pin,I.hok,I.len⟩
theorem Inv.unwish (I:Inv (X.wish E) pins σ H s):Inv X pins σ H s:=⟨I.ok.unwish,I.os,I.bare,I.base,I.loc,I.cell,I.free,I.freeC,I.pin,I.hok,I.len⟩
theorem SP.unwish {D:Ends} {f:Flow} {s':Shared} (h:SP (X.wish E) pins D f s'):SP X pins D f s':=by
 cases f with
 | next=>obtain ⟨σ',H',I,q⟩:=h; exact ⟨σ',H',I.unwish,q⟩
 | brk=>obtain ⟨σ',H',I,q⟩:=h; exact ⟨σ',H',I.unwish,q⟩
 | cont=>obtain ⟨σ',H',I,q⟩:=h; exact ⟨σ',H',I.unwish,q⟩
 | ret u=>obtain ⟨v,σ',H',I,r,q⟩:=h; exact ⟨v,σ',H',I.unwish,r,q⟩
theorem PSs.nox {st:List Stmt} {t:TS} (h:PSs X.nox st t):PSs X st t:=fun pins s σ H D I hw =>
 wpAny_mono (h pins s σ H D (I.wish _) hw) (fun _ _ q=>q.unwish) fun _ _ z=>False.elim z
end
section
variable {X:Cx} {st:Stmt} {rest:List Stmt} {t u:TS} {e:Expr} {te:TE} {pos:Pos}
def yP:TS:=fun D σ H=>D.nx σ H
def CC (t u:TS):TS:=fun D σ H=>t { D with nx:=u D } σ H
theorem pss_nil:PSs X [] yP:=fun _ _ σ H _ I h=>wpAny_execs_nil ⟨σ,H,I,h⟩
theorem si (h1:PS X st t) (h2:PSs X rest u):PSs X (st :: rest) (CC t u):=by
 intro pins s σ H D I h
 refine wpAny_execs_cons (thn (h1 pins s σ H { D with nx:=u D } I h) fun f s1 q=>?_)
 cases f with
 | next =>
  obtain ⟨σ',H',I',q⟩:=q
  exact h2 pins s1 σ' H' D I' q
 | ret v=>exact q
 | brk=>exact q
 | cont=>exact q
theorem zG (h1:PS X st t):PSs X [st] t:=by
 intro pins s σ H D I h
 refine wpAny_execs_cons (thn (h1 pins s σ H D I h) fun f s1 q=>?_)
 cases f with
 | next=>exact wpAny_execs_nil q
 | ret v=>exact q
 | brk=>exact q
 | cont=>exact q
theorem Inv.quiet {pins:List (Addr × Obj)} {σ:St} {H:Hp} {s:Shared} (I:Inv X pins σ H s):interactive X.env=false:=by simp [interactive,I.ok.kind]
def yQ (te:TE):TS:=fun D σ H=>te σ H fun _ H1=>D.nx σ H1
theorem zH (he:PE X e te) (hs:swapsWith e none pos.line X.env=pure false:=by rfl):PS X (.Expr e pos) (yQ te):=by
 intro pins s σ H D I h
 exact wpAny_Expr_any (thn (he pins s σ H _ I h) fun v s1 ⟨x,H1,I1,r1,q1⟩=>⟨σ,H1,I1,q1⟩) I.quiet hs
def CD (te:TE):TS:=fun D σ H=>te σ H D.rt
theorem C4 (he:PE X e te):PS X (.Return (some e) pos) (CD te):=by
 intro pins s σ H D I h
 exact wpAny_Return_some (thn (he pins s σ H _ I h) fun v s1 ⟨x,H1,I1,r1,q1⟩=>⟨x,σ,H1,I1,r1,q1⟩)
def CH (c:TT) (t u:TS):TS:=fun D σ H=>c σ H fun b H1=>if b=true then t D σ H1 else u D σ H1
theorem EK {c:Expr} {a b:List Stmt} {tc:TT} (hc:PT X c tc) (ha:PSs X a t) (hb:PSs X b u):PS X (.If c a b pos) (CH tc t u):=by
 intro pins s σ H D I h
 refine wpAny_If (thn (hc pins s σ H _ I h) fun d s1 ⟨H1,I1,q1⟩=>?_)
 cases d with
 | true=>exact ha pins s1 σ H1 D I1 q1
 | false=>exact hb pins s1 σ H1 D I1 q1
end
abbrev TG:=V→St→Hp→(St→Hp→Prop)→Prop
abbrev TGs:=List V→St→Hp→(St→Hp→Prop)→Prop
def PG (X:Cx) (target:Expr) (t:TG):Prop :=
 ∀ (pins:List (Addr × Obj)) (s:Shared) (σ:St) (H:Hp) (v:V) (u:Value) (Q:St→Hp→Prop),Inv X pins σ H s→RelV v u→t v σ H Q →
  wpAny (model X.prog X.w) X.A (assign target X.env u) (fun _ s'=>∃ σ' H',Inv X pins σ' H' s'∧Q σ' H') X.xe s
def PGs (X:Cx) (ts:List Expr) (t:TGs):Prop :=
 ∀ (pins:List (Addr × Obj)) (s:Shared) (σ:St) (H:Hp) (vs:List V) (us:List Value) (Q:St→Hp→Prop),Inv X pins σ H s→Vals vs us→t vs σ H Q →
  wpAny (model X.prog X.w) X.A (assignInOrder ((assignEach ts X.env).map (·.2)) us) (fun _ s'=>∃ σ' H',Inv X pins σ' H' s'∧Q σ' H') X.xe s
abbrev tS:=V→V→V→Hp→(Hp→Prop)→Prop
def Ev (X:Cx) (t:tS):Prop :=
 ∀ (pins:List (Addr × Obj)) (s:Shared) (σ:St) (H:Hp) (o i v:V) (ov iv u:Value) (Q:Hp→Prop),Inv X pins σ H s→RelV o ov→RelV i iv→RelV v u→t o i v H Q →
  wpAny (model X.prog X.w) X.A (setItem ov iv u) (fun _ s'=>∃ H',Inv X pins σ H' s'∧Q H') X.xe s
section
variable {X:Cx} {pos:Pos}
def kH (i:Nat):TG:=fun v σ H Q=>Q (σ.set i (some v)) H
theorem zK {i:Nat} {x:Str} (hN:X.N.Nodup) (hi:X.N[i]?=some x) (hx:Loc X.env.scope x) (hf:X.fn x=true∨X.env.scope.names.lookup x=some .local:=by first | exact .inl rfl | exact .inr rfl | assumption):PG X (.Name x pos) (kH i):=by
 intro pins s σ H v u Q I r h
 exact wpAny_assign_Name (mN I hN hi hx r (fun s' I'=>⟨_,H,I',h⟩) hf)
def DI:TGs:=fun vs σ H Q=>vs=[]∧Q σ H
def zo (t:TG) (u:TGs):TGs:=fun vs σ H Q=>∃ v r,vs=v :: r∧t v σ H fun σ' H'=>u r σ' H' Q
theorem pgs_nil:PGs X [] DI:=by
 intro pins s σ H vs us Q I r h
 obtain ⟨e,h⟩:=h
 subst e
 cases r
 exact assignInOrder_nil ⟨σ,H,I,h⟩
theorem sm {e:Expr} {es:List Expr} {t:TG} {u:TGs} (h1:PG X e t) (h2:PGs X es u)
  (hs:(assignEach (e :: es) X.env).map (·.2)=assign e X.env :: (assignEach es X.env).map (·.2):=by rfl):PGs X (e :: es) (zo t u):=by
 intro pins s σ H vs us Q I r h
 obtain ⟨v,vr,e1,h⟩:=h
 subst e1
 cases r with
 | cons r rr =>
  rw [hs]
  refine assignInOrder_cons (thn (h1 pins s σ H _ _ _ I r h) fun _ s1 ⟨σ1,H1,I1,q1⟩=>?_)
  exact h2 pins s1 σ1 H1 _ _ Q I1 rr q1
def DG (K:PySem.W.Frag) (n:Nat) (t:TGs):TG:=fun v σ H Q=>∃ a xs,v=.ref a∧SqT K H a xs∧xs.length=n∧t xs σ H Q
theorem C8 {es:List Expr} {k:Nat} {t:TGs} {n:Nat} (hc:X.calm=true) (h:PGs X es t)
  (hn:(assignEach es X.env).length=n:=by rfl) (hst:(assignEach es X.env).findIdx? (·.1)=none:=by rfl):PG X (.Tuple es k pos) (DG X.K n t):=by
 intro pins s σ H v u Q I r hw
 obtain ⟨a,xs,e1,hq,hl,hw⟩:=hw
 subst e1
 cases r
 obtain ⟨its,rv,ht,hz⟩:=I.tuple hq
 refine assign_Tuple_tuple (I.ok.hd hc) ht (by simp [hn,← hl,rv.length]) hst fun h' hx=>?_
 have I1:Inv X pins σ H { s with heap:=h' }:=I.kept (t':=s.toks) fun b o e=>hx b o (Nat.ne_of_lt (Heap.lt_size e)) e
 exact h pins _ σ H xs _ Q I1 (by simpa using rv) hw
def DH (to ti:TE) (t:tS):TG:=fun v σ H Q=>to σ H fun o H1=>ti σ H1 fun i H2=>t o i v H2 fun H3=>Q σ H3
theorem C9 {o i:Expr} {to ti:TE} {t:tS} (ho:PE X o to) (hi:PE X i ti) (hs:Ev X t)
  (ha:∀ v,assign (.Subscript o i pos) X.env v=(do
   let ov ← holding [v] (eval o X.env)
   let iv ← holding [v,ov] (eval i X.env)
   standAt pos
   holding [v,ov,iv] (setItem ov iv v)
   release [v,ov,iv] []):=by intro _; rfl):PG X (.Subscript o i pos) (DH to ti t):=by
 intro pins s σ H v u Q I r h
 rw [ha]
 refine wpAny_bind (wpAny_holding (thn (ho pins s σ H _ I h) fun ov s1 ⟨x,H1,I1,r1,q1⟩=>?_))
 refine wpAny_bind (wpAny_holding (thn (hi pins s1 σ H1 _ I1 q1) fun iv s2 ⟨y,H2,I2,r2,q2⟩=>?_))
 refine wpAny_bind (wpAny_standAt (wpAny_bind (wpAny_holding (thn (hs pins s2 σ H2 x y v ov iv u _ I2 r1 r2 r q2) fun _ s3 ⟨H3,I3,q3⟩=>?_))))
 exact wpAny_release ⟨σ,H3,I3,q3⟩
def mM (te:TE) (g:TG):TS:=fun D σ H=>te σ H fun x H1=>g x σ H1 D.nx
theorem C6 {tg e:Expr} {te:TE} {g:TG} (he:PE X e te) (hg:PG X tg g) (hs:swapsWithSole [tg] e pos.line X.env=pure false:=by rfl) (hw:swappedStores [tg] e X.env=pure none:=by rfl)
  (h1:(assignEach [tg] X.env).map (·.2)=[assign tg X.env]:=by rfl):PS X (.Assign [tg] e pos) (mM te g):=by
 intro pins s σ H D I h
 refine wpAny_Assign_stores (thn (he pins s σ H _ I h) fun v s1 ⟨x,H1,I1,r1,q1⟩=>?_) hs hw
 rw [h1]
 exact thn (hg pins s1 σ H1 x v _ I1 r1 q1) fun _ s2 q=>q
theorem C3 {i:Nat} {x:Str} {e:Expr} {te:TE} {pos':Pos} (hN:X.N.Nodup) (hi:X.N[i]?=some x) (hx:Loc X.env.scope x) (he:PE X e te) (hs:swapsWith e (some (.Name x pos')) pos.line X.env=pure false:=by rfl) (hf:X.fn x=true∨X.env.scope.names.lookup x=some .local:=by first | exact .inl rfl | exact .inr rfl | assumption) :
  PS X (.Assign [.Name x pos'] e pos) (mM te (kH i)):=by
 intro pins s σ H D I h
 refine wpAny_Assign_Name (thn (he pins s σ H _ I h) fun v s1 ⟨y,H1,I1,r1,q1⟩=>?_) hs
 exact mN I1 hN hi hx r1 (fun s2 I2=>⟨_,H1,I2,q1⟩) hf
end
section
variable {X:Cx} {pos:Pos}
def qt (c:TT) (tb:TS):TS:=fun D σ H=>∃ W:Nat→St→Hp→Prop,(∃ m,W m σ H)∧∀ m σ H,W m σ H →
 c σ H fun b H1=>if b=true then ∃ N:St→Hp→Prop,(∀ σ' H',N σ' H'→∃ m',m' < m∧W m' σ' H')∧tb { D with nx:=N,ct:=N,bk:=D.nx } σ H1 else D.nx σ H1
theorem sj {c:Expr} {body:List Stmt} {tc:TT} {tb:TS} (hp:PassesOwn (model X.prog X.w) X.A X.env X.xe) (hc:PT X c tc) (hb:PSs X body tb):PS X (.While c body [] pos) (qt tc tb):=by
 intro pins s σ H D I h
 obtain ⟨W,⟨m0,w0⟩,turn⟩:=h
 refine wpAny_While (codeAny_whileLoop (fun n s'=>∃ σ' H',Inv X pins σ' H' s'∧W n σ' H') ?_ m0 ⟨σ,H,I,w0⟩)
 rintro n s1 ⟨σ1,H1,I1,w1⟩
 refine wpAny_passesOwn hp (thn (hc pins s1 σ1 H1 _ I1 (turn n σ1 H1 w1)) fun b s2 ⟨H2,I2,q2⟩=>?_)
 cases b with
 | true =>
  obtain ⟨N,hN,q2⟩:=q2
  rw [if_pos rfl]
  refine wpAny_passesOwn hp (thn (hb pins s2 σ1 H2 _ I2 q2) fun f s3 q3=>?_)
  cases f with
  | next =>
   obtain ⟨σ3,H3,I3,n3⟩:=q3
   obtain ⟨m',hm,w3⟩:=hN σ3 H3 n3
   exact ⟨m',hm,σ3,H3,I3,w3⟩
  | cont =>
   obtain ⟨σ3,H3,I3,n3⟩:=q3
   obtain ⟨m',hm,w3⟩:=hN σ3 H3 n3
   exact ⟨m',hm,σ3,H3,I3,w3⟩
  | brk=>exact q3
  | ret v=>exact q3
 | false =>
  rw [if_neg Bool.false_ne_true]
  exact wpAny_execs_nil ⟨σ1,H2,I2,q2⟩
end
structure It where
 go:Nat→Hp→Prop
 yld:Nat→Hp→V→Hp→Prop
 stop:Nat→Hp→Prop
def ge (X:Cx) (pins:List (Addr × Obj)) (H:Hp) (b:Addr):Prop :=
 H b=none∧b≠X.env.locals∧b ∉ X.fs∧(b∈X.ex∨X.s₀.heap.objs.size≤b)∧(∀ x c,X.env.cells.lookup x=some c→c≠b)∧∀ p∈X.pn++pins,p.1≠b
theorem Inv.fpOk {X:Cx} {pins:List (Addr × Obj)} {σ:St} {H H':Hp} {s:Shared} {b:Addr} (I:Inv X pins σ H s) (hb:s.heap.objs.size≤b) (hn:H' b=none):ge X pins H' b:=by
 refine ⟨hn,Nat.ne_of_gt (Nat.lt_of_lt_of_le I.lt hb),I.nofs hb,.inr (Nat.le_trans I.sz hb),fun x c e z=>?_,fun p hp z=>?_⟩
 ·obtain ⟨v,q⟩:=I.cell x c e
  exact absurd (Nat.lt_of_lt_of_le q.lt (by rw [z]; exact hb)) (Nat.lt_irrefl _)
 ·exact absurd (Nat.lt_of_lt_of_le (Heap.lt_size (I.pin p hp).1) (by rw [z]; exact hb)) (Nat.lt_irrefl _)
structure Turn (P:Program) (w:World) (K:PySem.W.Frag) (tg:Expr) (J:It) (fp:List Addr) (it:Addr) (tn:Nat→Heap→Prop):Prop where
 mem:it∈fp
 obj:∀ i h,tn i h→∀ b∈fp,∃ o,h.get? b=some o∧∀ v,o.data≠.cell v
 keep:∀ i h h',tn i h→(∀ b∈fp,∀ o,h.get? b=some o→h'.get? b=some o)→tn i h'
 item:∀ (X:Cx),X.prog=P→X.w=w→X.K=K→X.calm=true→∀ (i:Nat) (pins:List (Addr × Obj)) (s:Shared) (σ:St) (H:Hp) (E:Value→Shared→Prop),Inv X pins σ H s→(∀ b∈fp,ge X pins H b)→tn i s.heap→J.go i H →
  wpAny (model P w) X.A (pyNext (.ref it)) (fun r s1=>∃ u,r=some u ∧
   wpAny (model P w) X.A (letOwnedTupleGo tg (.ref it) u) (fun _ s2=>∃ x H',Inv X pins σ H' s2∧RelV x u∧J.yld i H x H'∧tn (i+1) s2.heap∧∀ b∈fp,H' b=none) E s1) E s
 done:∀ (X:Cx),X.prog=P→X.w=w→X.K=K→X.calm=true→∀ (i:Nat) (pins:List (Addr × Obj)) (s:Shared) (σ:St) (H:Hp) (E:Value→Shared→Prop),Inv X pins σ H s→(∀ b∈fp,ge X pins H b)→tn i s.heap→J.stop i H →
  wpAny (model P w) X.A (pyNext (.ref it)) (fun r s1=>r=none∧Inv X pins σ H s1) E s
 self:∀ (A:Around) (i:Nat) (s:Shared) (Q:Value→Shared→Prop) (E:Value→Shared→Prop),tn i s.heap→Q (.ref it) s→wpAny (model P w) A (pyIter (.ref it)) Q E s
abbrev TI:=St→Hp→(It→Hp→Prop)→Prop
def PIE (X:Cx) (pins:List (Addr × Obj)) (σ:St) (tg:Expr) (R:It→Hp→Prop) (itv:Value) (s2:Shared):Prop :=
 ∃ (it:Addr) (fp:List Addr) (tn:Nat→Heap→Prop) (J:It) (H':Hp),itv=.ref it∧Inv X pins σ H' s2∧Turn X.prog X.w X.K tg J fp it tn∧tn 0 s2.heap∧(∀ b∈fp,ge X pins H' b)∧R J H'
def PI (X:Cx) (tg iter:Expr) (wi:TI):Prop :=
 ∀ (pins:List (Addr × Obj)) (s:Shared) (σ:St) (H:Hp) (R:It→Hp→Prop),Inv X pins σ H s→wi σ H R →
  wpAny (model X.prog X.w) X.A (eval iter X.env) (fun v s1=>wpAny (model X.prog X.w) X.A (pyIter v) (PIE X pins σ tg R) X.xe s1) X.xe s
theorem mF {M:Model} {A:Around} {E:Value→Shared→Prop} {s:Shared} {tg:Expr} {it:Addr} {u:Value} {o:Obj} {n:String} {vs:Array Value} {Q:Unit→Shared→Prop} (ho:s.heap.get? it=some o) (hc:o.cls=.type n) (hd:o.data=.fields vs)
  (hn:["enumerate", "zip", "dict_itemiterator", "dict_reverseitemiterator", "odict_iterator", "itertools.zip_longest", "itertools.pairwise"].contains n=false) (hQ:Q () s):wpAny M A (letOwnedTupleGo tg (.ref it) u) Q E s:=by
 unfold letOwnedTupleGo
 cases tg <;> first
  | exact wpAny_pure hQ
  | (cases u <;> first
    | exact wpAny_pure hQ
    | (refine wpAny_bind (wpAny_load ho ?_)
       rw [hc,hd]
       show wpAny M A (if (["enumerate", "zip", "dict_itemiterator", "dict_reverseitemiterator", "odict_iterator", "itertools.zip_longest", "itertools.pairwise"].contains n && vs[0]? == some (rawInt _))=true then _ else _) Q E s
       rw [if_neg (by intro h; rw [hn,Bool.false_and] at h; cases h)]
       exact wpAny_pure hQ))
def Itl (K:PySem.W.Frag) (a:Addr):It :=
 ⟨fun i H=>∃ xs x,SqL K H a xs∧xs[i]?=some x,fun i H x H'=>H'=H∧∀ xs,SqL K H a xs→xs[i]?=some x,fun i H=>∃ xs,SqL K H a xs∧xs.length≤i⟩
def Itt (K:PySem.W.Frag) (a:Addr):It :=
 ⟨fun i H=>∃ xs x,SqT K H a xs∧xs[i]?=some x,fun i H x H'=>H'=H∧∀ xs,SqT K H a xs→xs[i]?=some x,fun i H=>∃ xs,SqT K H a xs∧xs.length≤i⟩
def Itr (lo:Int) (n:Nat):It:=⟨fun i _=>i < n,fun i H x H'=>H'=H∧x=.int (lo+i),fun i _=>n≤i⟩
theorem qm {P:Program} {w:World} {K:PySem.W.Frag} {tg:Expr} (a it:Addr):Turn P w K tg (Itl K a) [it] it (fun i h=>h.IsListIter it a i) where
 mem:=by simp
 obj:=fun i h st b hb=>by
  have e:b=it:=by simpa using hb
  subst e
  obtain ⟨o,e,c,d⟩:=st
  exact ⟨o,e,fun v z=>by rw [d] at z; cases z⟩
 keep:=fun i h h' st k=>st.at fun o e=>k it (by simp) o e
 item:=by
  intro X hP hw hK hc i pins s σ H E I hf st hg
  subst hP hw hK
  obtain ⟨xs,x,hq,hx⟩:=hg
  obtain ⟨its,rv,p,hz⟩:=I.list hq
  obtain ⟨u,hu,ru⟩:=rv.get hx
  obtain ⟨f0,f1,f2,f3,f4,f5⟩:=hf it (by simp)
  refine wpAny_pyNext_list_item st p.isList (x:=u) (by simpa using hu) fun h' st' sb=>?_
  have I1:Inv X pins σ H { s with heap:=h' }:=I.turned (t':=s.toks) (fun b o hb e=>(sb.2 b hb).trans e) f0 f1 f3 f4 f5
  obtain ⟨o,e,c,d⟩:=id st'
  exact ⟨u,rfl,mF (s:={ s with heap:=h' }) e c d (by decide) ⟨x,H,I1,ru,⟨rfl,fun ys hy=>by rw [I.list_inj hy hq]; exact hx⟩,st',fun b hb=>(hf b hb).1⟩⟩
 done:=by
  intro X hP hw hK hc i pins s σ H E I hf st hg
  subst hP hw hK
  obtain ⟨xs,hq,hx⟩:=hg
  obtain ⟨its,rv,p,hz⟩:=I.list hq
  obtain ⟨f0,f1,f2,f3,f4,f5⟩:=hf it (by simp)
  have hl:=rv.length
  exact wpAny_pyNext_list_end (I.ok.hd hc) st p.isList (by simp; omega) fun h' eb=>⟨rfl,I.turned (t':=s.toks) (fun b o hb e=>eb b o hb e) f0 f1 f3 f4 f5⟩
 self:=fun _ _ _ _ _ st h=>wpAny_pyIter_listiter st h
theorem oS {P:Program} {w:World} {K:PySem.W.Frag} {tg:Expr} (a it:Addr):Turn P w K tg (Itt K a) [it] it (fun i h=>h.IsTupleIter it a i) where
 mem:=by simp
 obj:=fun i h st b hb=>by
  have e:b=it:=by simpa using hb
  subst e
  obtain ⟨o,e,c,d⟩:=st
  exact ⟨o,e,fun v z=>by rw [d] at z; cases z⟩
 keep:=fun i h h' st k=>st.at fun o e=>k it (by simp) o e
 item:=by
  intro X hP hw hK hc i pins s σ H E I hf st hg
  subst hP hw hK
  obtain ⟨xs,x,hq,hx⟩:=hg
  obtain ⟨its,rv,p,hz⟩:=I.tuple hq
  obtain ⟨u,hu,ru⟩:=rv.get hx
  obtain ⟨f0,f1,f2,f3,f4,f5⟩:=hf it (by simp)
  refine wpAny_pyNext_tuple_item st (show s.heap.IsTuple a its.toArray from p) (x:=u) (by simpa using hu) fun h' st' sb=>?_
  have I1:Inv X pins σ H { s with heap:=h' }:=I.turned (t':=s.toks) (fun b o hb e=>(sb.2 b hb).trans e) f0 f1 f3 f4 f5
  obtain ⟨o,e,c,d⟩:=id st'
  exact ⟨u,rfl,mF (s:={ s with heap:=h' }) e c d (by decide) ⟨x,H,I1,ru,⟨rfl,fun ys hy=>by rw [I.tuple_inj hy hq]; exact hx⟩,st',fun b hb=>(hf b hb).1⟩⟩
 done:=by
  intro X hP hw hK hc i pins s σ H E I hf st hg
  subst hP hw hK
  obtain ⟨xs,hq,hx⟩:=hg
  obtain ⟨its,rv,p,hz⟩:=I.tuple hq
  obtain ⟨f0,f1,f2,f3,f4,f5⟩:=hf it (by simp)
  have hl:=rv.length
  exact wpAny_pyNext_tuple_end (I.ok.hd hc) st (show s.heap.IsTuple a its.toArray from p) (by simp; omega) fun h' eb=>⟨rfl,I.turned (t':=s.toks) (fun b o hb e=>eb b o hb e) f0 f1 f3 f4 f5⟩
 self:=fun _ _ _ _ _ st h=>wpAny_pyIter_tupleiter st h
theorem oT {P:Program} {w:World} {K:PySem.W.Frag} {tg:Expr} (it:Addr) (lo:Int) (n:Nat):Turn P w K tg (Itr lo n) [it] it (fun i h=>IsRangeIter h it (lo+(i:Nat) * 1) ((n:Int) - (i:Nat)) 1) where
 mem:=by simp
 obj:=fun i h st b hb=>by
  have e:b=it:=by simpa using hb
  subst e
  exact ⟨_,st,fun v z=>by
   have z':Data.fields _=Data.cell v:=z
   cases z'⟩
 keep:=fun i h h' st k=>k it (by simp) _ st
 item:=by
  intro X hP hw hK hc i pins s σ H E I hf st hg
  subst hP hw hK
  obtain ⟨f0,f1,f2,f3,f4,f5⟩:=hf it (by simp)
  have W:=Walks.range (prog:=X.prog) (w:=X.w) (I.ok.hd hc) it lo 1 n
  refine W.item i s _ _ hg st fun v h' tk hv st' kk=>?_
  obtain ⟨t,rfl⟩:=hv
  have I1:Inv X pins σ H { s with heap:=h',toks:=tk }:=I.turned (fun b o hb e=>kk b o (by simpa using hb) e) f0 f1 f3 f4 f5
  refine ⟨_,rfl,mF (s:={ s with heap:=h',toks:=tk }) (n:="range_iterator") st' rfl rfl (by decide) ⟨.int (lo+i),H,I1,⟨t,?_⟩,⟨rfl,rfl⟩,st',fun b hb=>(hf b hb).1⟩⟩
  rw [Int.mul_one]
 done:=by
  intro X hP hw hK hc i pins s σ H E I hf st hg
  subst hP hw hK
  obtain ⟨f0,f1,f2,f3,f4,f5⟩:=hf it (by simp)
  exact wpAny_pyNext_range_end (I.ok.hd hc) st (by have:n≤i:=hg; omega) fun h' eb=>⟨rfl,I.turned (t':=s.toks) (fun b o hb e=>eb b o hb e) f0 f1 f3 f4 f5⟩
 self:=fun _ _ _ _ _ st h=>wpAny_pyIter_rangeiter st h
end L2
namespace L2
open PySem PySem.Spec PyProof.Rows
section
variable {X:Cx} {tg:Expr}
theorem sf {pins:List (Addr × Obj)} {σ:St} {H:Hp} {s:Shared} {R:It→Hp→Prop} {E:Value→Shared→Prop} {lo hi:Int} {t u v:Tok} {tk:Nat} (I:Inv X pins σ H s) (h1:-(2 ^ 62)≤lo) (h2:lo < 2 ^ 62) (h3:-(2 ^ 62)≤hi) (h4:hi < 2 ^ 62)
  (q:R (Itr lo (hi - lo).toNat) H):wpAny (model X.prog X.w) X.A (pyIter (.ref s.heap.objs.size)) (PIE X pins σ tg R) E { s with heap:=s.heap.push { cls:=.type "range",data:=.fields #[.int lo t,.int hi u,.int 1 v] },toks:=tk }:=by
 refine wpAny_pyIter_range (IsRange.new ..) (small_one h1 h2 h3 h4) ?_
 have I1:Inv X pins σ H { s with heap:=s.heap.push { cls:=.type "range",data:=.fields #[.int lo t,.int hi u,.int 1 v] },toks:=tk }:=I.kept fun b o e=>Heap.get?_push_of_some _ e
 refine ⟨(s.heap.push { cls:=.type "range",data:=.fields #[.int lo t,.int hi u,.int 1 v] }).objs.size,[(s.heap.push { cls:=.type "range",data:=.fields #[.int lo t,.int hi u,.int 1 v] }).objs.size],_,_,H,rfl,
  I1.kept (t':=tk) fun b o e=>Heap.get?_push_of_some _ e,oT _ lo (hi - lo).toNat,?_,fun b hb=>?_,q⟩
 ·have e1:lo+((0:Nat):Int) * 1=lo:=by simp
  have e2:(((hi - lo).toNat:Nat):Int) - ((0:Nat):Int)=Builtin.Range.rangeSize lo hi 1:=by rw [rangeSize_one]; split <;> omega
  show IsRangeIter _ _ (lo+((0:Nat):Int) * 1) ((((hi - lo).toNat:Nat):Int) - ((0:Nat):Int)) 1
  rw [e1,e2]
  exact Heap.get?_push_size _ rfl
 ·have e:b=(s.heap.push { cls:=.type "range",data:=.fields #[.int lo t,.int hi u,.int 1 v] }).objs.size:=by simpa using hb
  subst e
  exact I1.fpOk (Nat.le_refl _) (I1.hok.fresh (Nat.le_refl _))
def ES (ta:TA):TI:=fun σ H R=>ta σ H fun vs H1=>∃ j:Int,vs=[.int j]∧-(2 ^ 62)≤j∧j < 2 ^ 62∧R (Itr 0 j.toNat) H1
theorem qz {a:Expr} {ta:TA} {p pos:Pos} (hg:Gl X "range") (hm:X.mg "range"=none) (ha:PA X [a] ta) (hs:starEach [a] X.env=[(false,eval a X.env)]:=by rfl):PI X tg (.Call (.Name "range" p) [a] [] pos) (ES ta):=by
 intro pins s σ H R I h
 refine Call_ (ji I hg hm boot_range (PyProof.Rows.callWith_type1 (thn (ha pos pins s σ H _ I h) fun us s1 ⟨vs,H1,I1,r1,q1⟩=>?_) hs rfl))
 obtain ⟨j,e,q1,q2,q⟩:=q1
 subst e
 cases r1 with
 | cons r rr =>
  cases rr
  obtain ⟨t,rfl⟩:=r
  exact call_range_1 (sf I1 (by omega) (by omega) q1 q2 (by simpa using q))
def CI (wi:TI) (g:TG) (tb:TS):TS:=fun D σ H=>wi σ H fun J H1=>∃ W:Nat→Nat→St→Hp→Prop,(∃ m,W 0 m σ H1)∧∀ i m σ H,W i m σ H →
 (J.stop i H∧D.nx σ H)∨(J.go i H∧∃ N:St→Hp→Prop,(∀ σ' H',N σ' H'→∃ m',m' < m∧W (i+1) m' σ' H')∧∀ x H',J.yld i H x H'→g x σ H' fun σ2 H2=>tb { D with nx:=N,ct:=N,bk:=D.nx } σ2 H2)
def ja (fp:List Addr) (h:Heap):List (Addr × Obj):=fp.filterMap fun b=>(h.get? b).map fun o=>(b,o)
theorem fC {fp:List Addr} {h:Heap} {b:Addr} {o:Obj} (hb:b∈fp) (e:h.get? b=some o):(b,o)∈ja fp h:=List.mem_filterMap.mpr ⟨b,hb,by rw [e]; rfl⟩
theorem qG {fp:List Addr} {h:Heap} {p:Addr × Obj} (hp:p∈ja fp h):p.1∈fp∧h.get? p.1=some p.2:=by
 obtain ⟨b,hb,e⟩:=List.mem_filterMap.mp hp
 cases q:h.get? b with
 | none=>rw [q] at e; cases e
 | some o =>
  rw [q] at e
  have e':(b,o)=p:=Option.some.inj e
  subst e'
  exact ⟨hb,q⟩
theorem Inv.pinned {pins:List (Addr × Obj)} {σ:St} {H:Hp} {s:Shared} {fp:List Addr} (I:Inv X pins σ H s) (hf:∀ b∈fp,ge X pins H b) (ho:∀ b∈fp,∃ o,s.heap.get? b=some o∧∀ v,o.data≠.cell v):Inv X (pins++ja fp s.heap) σ H s :=
 I.pins_of fun p hp=>(List.mem_append.mp hp).elim (fun z=>I.pin p (List.mem_append_right _ z)) fun z=>by
  obtain ⟨hb,e⟩:=qG z
  obtain ⟨f0,f1,f2,_⟩:=hf p.1 hb
  obtain ⟨o,e',d⟩:=ho p.1 hb
  rw [e] at e'; cases e'
  exact ⟨e,f0,f1,f2,d⟩
theorem Inv.unpinned {pins pl:List (Addr × Obj)} {σ:St} {H:Hp} {s:Shared} (I:Inv X (pins++pl) σ H s):Inv X pins σ H s:=I.pins_of fun p hp=>I.pin p (List.mem_append_right _ (List.mem_append_left _ hp))
theorem C5 {iter:Expr} {body:List Stmt} {wi:TI} {g:TG} {tb:TS} {pos:Pos} (hp:PassesOwn (model X.prog X.w) X.A X.env X.xe) (hc:X.calm=true) (hi:PI X tg iter wi) (hg:PG X tg g) (hb:PSs X body tb)
  (hs:∀ x,foldedSetIterable iter X.env x=pure x:=by intro _; rfl):PS X (.For tg iter body [] pos) (CI wi g tb):=by
 intro pins s σ H D I h
 refine wpAny_For (thn (hi pins s σ H _ I h) fun v s1 h1=>thn h1 fun itv s2 h2=>?_) hs
 obtain ⟨it,fp,tn,J,H2,e,I2,T,st2,f2,W,⟨m0,w0⟩,turn⟩:=h2
 subst e
 have stat:∀ {H':Hp},(∀ b∈fp,H' b=none)→∀ b∈fp,ge X pins H' b:=fun hn b hb=>⟨hn b hb,(f2 b hb).2⟩
 refine codeAny_forLoop_any (fun n s'=>∃ i σ' H',Inv X pins σ' H' s'∧tn i s'.heap∧(∀ b∈fp,H' b=none)∧W i n σ' H') ?_ m0 ⟨0,σ,H2,I2,st2,fun b hb=>(f2 b hb).1,w0⟩
 rintro n s3 ⟨i,σ3,H3,I3,st3,fr3,w3⟩
 rcases turn i n σ3 H3 w3 with ⟨stop,qn⟩ | ⟨go,N,hN,step⟩
 ·refine wpAny_passesOwn hp (thn (T.done X rfl rfl rfl hc i pins s3 σ3 H3 X.xe I3 (stat fr3) st3 stop) fun r s4 ⟨hr,I4⟩=>?_)
  subst hr
  exact wpAny_execs_nil ⟨σ3,H3,I4,qn⟩
 ·refine wpAny_passesOwn hp (thn (T.item X rfl rfl rfl hc i pins s3 σ3 H3 X.xe I3 (stat fr3) st3 go) fun r s4 ⟨u,hr,h4⟩=>?_)
  subst hr
  refine wpAny_passesOwn hp (thn h4 fun _ s5 ⟨x,H5,I5,r5,y5,st5,fr5⟩=>?_)
  have I5':=I5.pinned (stat fr5) (T.obj _ _ st5)
  refine wpAny_passesOwn hp (thn (hg _ s5 σ3 H5 x u _ I5' r5 (step x H5 y5)) fun _ s6 ⟨σ6,H6,I6,q6⟩=>?_)
  refine wpAny_passesOwn hp (thn (hb _ s6 σ6 H6 _ I6 q6) fun f s7 q7=>?_)
  have again:∀ {σ7:St} {H7:Hp},Inv X (pins++ja fp s5.heap) σ7 H7 s7→N σ7 H7→∃ m,m < n∧∃ i σ' H',Inv X pins σ' H' s7∧tn i s7.heap∧(∀ b∈fp,H' b=none)∧W i m σ' H':=fun {σ7 H7} I7 n7=>by
   obtain ⟨m',hm,w7⟩:=hN σ7 H7 n7
   refine ⟨m',hm,i+1,σ7,H7,I7.unpinned,T.keep _ _ _ st5 fun b hb o e=>(I7.pin (b,o) (List.mem_append_right _ (List.mem_append_right _ (fC hb e)))).1,fun b hb=>?_,w7⟩
   obtain ⟨o,e,d⟩:=T.obj _ _ st5 b hb
   exact (I7.pin (b,o) (List.mem_append_right _ (List.mem_append_right _ (fC hb e)))).2.1
  cases f with
  | next=>obtain ⟨σ7,H7,I7,n7⟩:=q7; exact again I7 n7
  | cont=>obtain ⟨σ7,H7,I7,n7⟩:=q7; exact again I7 n7
  | brk=>obtain ⟨σ7,H7,I7,q7⟩:=q7; exact ⟨σ7,H7,I7.unpinned,q7⟩
  | ret v=>obtain ⟨x7,σ7,H7,I7,r7,q7⟩:=q7; exact ⟨x7,σ7,H7,I7.unpinned,r7,q7⟩
end
end L2
namespace L2
open PySem PySem.Spec PyProof.Rows
abbrev R2:=V→V→Hp→VK→Prop
def OpR (X:Cx) (f:Value→Value→Sem Value) (r:R2):Prop :=
 ∀ (pins:List (Addr × Obj)) (s:Shared) (σ:St) (H:Hp) (x y:V) (v u:Value) (Q:VK),Inv X pins σ H s→RelV x v→RelV y u→r x y H Q →
  wpAny (model X.prog X.w) X.A (f v u) (EP X pins σ Q) X.xe s
def UnR (X:Cx) (f:Value→Sem Value) (r:V→Hp→VK→Prop):Prop :=
 ∀ (pins:List (Addr × Obj)) (s:Shared) (σ:St) (H:Hp) (x:V) (v:Value) (Q:VK),Inv X pins σ H s→RelV x v→r x H Q →
  wpAny (model X.prog X.w) X.A (f v) (EP X pins σ Q) X.xe s
def CallR (X:Cx) (f:Value) (r:List V→Hp→VK→Prop):Prop :=
 ∀ (pins:List (Addr × Obj)) (s:Shared) (σ:St) (H:Hp) (xs:List V) (us:List Value) (Q:VK),Inv X pins σ H s→Vals xs us→r xs H Q →
  wpAny (model X.prog X.w) X.A (call f us) (EP X pins σ Q) X.xe s
def FG (X:Cx) (r:V→Hp→(Bool→Hp→Prop)→Prop):Prop :=
 ∀ (pins:List (Addr × Obj)) (s:Shared) (σ:St) (H:Hp) (x:V) (v:Value) (Q:Bool→Hp→Prop),Inv X pins σ H s→RelV x v→r x H Q →
  wpAny (model X.prog X.w) X.A (truthy v) (TP X pins σ Q) X.xe s
def tOp (r:R2) (ta tb:TE):TE:=fun σ H Q=>ta σ H fun x H1=>tb σ H1 fun y H2=>r x y H2 Q
def tUn (r:V→Hp→VK→Prop) (ta:TE):TE:=fun σ H Q=>ta σ H fun x H1=>r x H1 Q
def rI (C:Int→Int→Prop) (g:Int→Int→V):R2:=fun x y H Q=>∃ i j,x=.int i∧y=.int j∧C i j∧Q (g i j) H
def rI0 (g:Int→Int→V):R2:=fun x y H Q=>∃ i j,x=.int i∧y=.int j∧Q (g i j) H
def rU (g:Int→V):V→Hp→VK→Prop:=fun x H Q=>∃ i,x=.int i∧Q (g i) H
section
variable {X:Cx} {a b c:Expr} {ta tb tc:TE} {pos:Pos}
theorem tQ (ha:PE X a ta) (hb:PE X b tb) {pins:List (Addr × Obj)} {s:Shared} {σ:St} {H:Hp} {R:V→V→Hp→Prop} (I:Inv X pins σ H s)
  (h:ta σ H fun x H1=>tb σ H1 fun y H2=>R x y H2) {Q:Value→Shared→Prop} {f:Value→Value→Sem Value}
  (hf:∀ v u s2 x y H2,Inv X pins σ H2 s2→RelV x v→RelV y u→R x y H2→wpAny (model X.prog X.w) X.A (f v u) Q X.xe s2) :
  wpAny (model X.prog X.w) X.A (eval a X.env) (fun v s₁=>wpAny (model X.prog X.w) X.A (eval b X.env) (fun u s₂=>wpAny (model X.prog X.w) X.A (f v u) Q X.xe s₂) X.xe s₁) X.xe s:=by
 refine thn (ha pins s σ H _ I h) fun v s1 ⟨x,H1,I1,r1,q1⟩=>?_
 refine thn (hb pins s1 σ H1 _ I1 q1) fun u s2 ⟨y,H2,I2,r2,q2⟩=>?_
 exact hf v u s2 x y H2 I2 r1 r2 q2
theorem EM {op:Operator} {r:R2} (ho:OpR X (binaryOp op) r) (ha:PE X a ta) (hb:PE X b tb):PE X (.BinOp a op b pos) (tOp r ta tb):=by
 intro pins s σ H Q I h
 exact wpAny_BinOp (tQ ha hb I h fun v u s2 x y H2 I2 rx ry q=>ho pins s2 σ H2 x y v u Q I2 rx ry q)
theorem EL {op:UnaryOp} {r:V→Hp→VK→Prop} (ho:UnR X (unaryOp op) r) (ha:PE X a ta):PE X (.UnaryOp op a pos) (tUn r ta):=by
 intro pins s σ H Q I h
 exact UnaryOp_ (thn (ha pins s σ H _ I h) fun v s1 ⟨x,H1,I1,r1,q1⟩=>ho pins s1 σ H1 x v Q I1 r1 q1)
theorem opI {f:Value→Value→Sem Value} {C:Int→Int→Prop} {g:Int→Int→Int}
  (rule:∀ (i j:Int) (t u:Tok) (s:Shared) (Q:Value→Shared→Prop) (E:Value→Shared→Prop),C i j→Q (.int (g i j) s.toks) { s with toks:=s.toks+1 }→wpAny (model X.prog X.w) X.A (f (.int i t) (.int j u)) Q E s) :
  OpR X f (rI C fun i j=>.int (g i j)):=by
 intro pins s σ H x y v u Q I rx ry h
 obtain ⟨i,j,rfl,rfl,hc,q⟩:=h
 obtain ⟨t,rfl⟩:=rx
 obtain ⟨t',rfl⟩:=ry
 exact rule i j t t' s _ _ hc ⟨.int (g i j),H,I.tok _,⟨_,rfl⟩,q⟩
theorem De {f:Value→Value→Sem Value} {g:Int→Int→Int}
  (rule:∀ (i j:Int) (t u:Tok) (s:Shared) (Q:Value→Shared→Prop) (E:Value→Shared→Prop),Q (.int (g i j) s.toks) { s with toks:=s.toks+1 }→wpAny (model X.prog X.w) X.A (f (.int i t) (.int j u)) Q E s) :
  OpR X f (rI0 fun i j=>.int (g i j)):=by
 intro pins s σ H x y v u Q I rx ry h
 obtain ⟨i,j,rfl,rfl,q⟩:=h
 obtain ⟨t,rfl⟩:=rx
 obtain ⟨t',rfl⟩:=ry
 exact rule i j t t' s _ _ ⟨.int (g i j),H,I.tok _,⟨_,rfl⟩,q⟩
theorem pf {f:Value→Value→Sem Value} {g:Int→Int→Bool}
  (rule:∀ (i j:Int) (t u:Tok) (s:Shared) (Q:Value→Shared→Prop) (E:Value→Shared→Prop),Q (.bool (g i j)) s→wpAny (model X.prog X.w) X.A (f (.int i t) (.int j u)) Q E s) :
  OpR X f (rI0 fun i j=>.bl (g i j)):=by
 intro pins s σ H x y v u Q I rx ry h
 obtain ⟨i,j,rfl,rfl,q⟩:=h
 obtain ⟨t,rfl⟩:=rx
 obtain ⟨t',rfl⟩:=ry
 exact rule i j t t' s _ _ ⟨.bl (g i j),H,I,rfl,q⟩
def iU (i j:Int):Prop:=0 < j∧j < 1073741824
def gR (i j:Int):Prop:=0≤j∧j≤1000000∧i.natAbs < 2 ^ 64
def CMul (i j:Int):Prop:=(-(2 ^ 64) < i∧i < 2 ^ 64)∨(-(2 ^ 64) < j∧j < 2 ^ 64)
theorem CMul.ok {i j:Int} (h:CMul i j):IntMulOk i j:=by
 rcases h with ⟨h1,h2⟩ | ⟨h1,h2⟩
 ·exact .of_left (intBits_le_64 h1 h2)
 ·exact .of_right (intBits_le_64 h1 h2)
theorem op_add:OpR X (binaryOp .Add) (rI0 fun i j=>.int (i+j)):=De fun _ _ _ _ _ _ _ q=>add_int q
theorem op_sub:OpR X (binaryOp .Sub) (rI0 fun i j=>.int (i - j)):=De fun _ _ _ _ _ _ _ q=>sub_int q
theorem op_mul:OpR X (binaryOp .Mult) (rI CMul fun i j=>.int (i * j)):=opI fun _ _ _ _ _ _ _ hc q=>mul_int q hc.ok
theorem op_fdiv:OpR X (binaryOp .FloorDiv) (rI iU fun i j=>.int (i / j)):=opI fun i j _ _ _ _ _ hc q=>by
 have h1:(0:Int) < j:=hc.1
 have h2:j < 1073741824:=hc.2
 exact floordiv_int (by omega) (by rw [Int.fdiv_eq_ediv_of_nonneg i (by omega)]; exact q) (.inl (PyProof.noPylong_small (by omega)))
theorem op_mod:OpR X (binaryOp .Mod) (rI (fun _ j=>0 < j) fun i j=>.int (i % j)):=opI fun i j _ _ _ _ _ hc q=>by
 have h1:(0:Int) < j:=hc
 exact mod_int' (by omega) (by rw [Int.fmod_eq_emod_of_nonneg i (by omega)]; exact q)
theorem op_pow:OpR X (binaryOp .Pow) (rI gR fun i j=>.int (i ^ j.toNat)):=opI fun _ _ _ _ _ _ _ hc q=>pow_int_small hc.1 hc.2.1 hc.2.2 q
theorem unI {f:Value→Sem Value} {g:Int→Int}
  (rule:∀ (i:Int) (t:Tok) (s:Shared) (Q:Value→Shared→Prop) (E:Value→Shared→Prop),Q (.int (g i) s.toks) { s with toks:=s.toks+1 }→wpAny (model X.prog X.w) X.A (f (.int i t)) Q E s) :
  UnR X f (rU fun i=>.int (g i)):=by
 intro pins s σ H x v Q I rx h
 obtain ⟨i,rfl,q⟩:=h
 obtain ⟨t,rfl⟩:=rx
 exact rule i t s _ _ ⟨.int (g i),H,I.tok _,⟨_,rfl⟩,q⟩
theorem un_neg:UnR X (unaryOp .USub) (rU fun i=>.int (-i)):=unI fun _ _ _ _ _ q=>neg_int q
end
section
variable {X:Cx} {a b c:Expr} {ta tb tc:TE} {pos:Pos}
theorem op_lt:OpR X (compareOp .Lt) (rI0 fun i j=>.bl (decide (i < j))):=pf fun _ _ _ _ _ _ _ q=>lt_int q
theorem op_le:OpR X (compareOp .LtE) (rI0 fun i j=>.bl (decide (i≤j))):=pf fun _ _ _ _ _ _ _ q=>le_int q
theorem op_gt:OpR X (compareOp .Gt) (rI0 fun i j=>.bl (decide (j < i))):=pf fun _ _ _ _ _ _ _ q=>gt_int q
theorem op_ge:OpR X (compareOp .GtE) (rI0 fun i j=>.bl (decide (j≤i))):=pf fun _ _ _ _ _ _ _ q=>ge_int q
theorem aW (b:Expr) {op:CmpOp} (h:op≠.In:=by decide) (h2:op≠.NotIn:=by decide):behindInMarks op b=false:=by
 have e1:(op == CmpOp.In)=false:=by cases op <;> first | rfl | exact absurd rfl h
 have e2:(op == CmpOp.NotIn)=false:=by cases op <;> first | rfl | exact absurd rfl h2
 cases b <;> simp [behindInMarks,e1,e2]
theorem zM {op:CmpOp} {r:R2} (ho:OpR X (compareOp op) r) (ha:PE X a ta) (hb:PE X b tb) (hm:behindInMarks op b=false):PE X (.Compare a [op] [b] pos) (tOp r ta tb):=by
 intro pins s σ H Q I h
 exact wpAny_Compare1 (tQ ha hb I h fun v u s2 x y H2 I2 rx ry q=>ho pins s2 σ H2 x y v u Q I2 rx ry q) hm
def yO (t:TE):TT:=fun σ H Q=>t σ H fun x H'=>∃ k,x=.bl k∧Q k H'
theorem zF {op:CmpOp} {r:R2} (ho:OpR X (compareOp op) r) (ha:PE X a ta) (hb:PE X b tb) (hm:behindInMarks op b=false):PT X (.Compare a [op] [b] pos) (yO (tOp r ta tb)):=by
 intro pins s σ H Q I h
 refine wpAny_isTrue_Compare1 (thn (ha pins s σ H _ I h) fun v s1 ⟨x,H1,I1,r1,q1⟩=>thn (hb pins s1 σ H1 _ I1 q1) fun u s2 ⟨y,H2,I2,r2,q2⟩ =>
  thn (ho pins s2 σ H2 x y v u _ I2 r1 r2 q2) fun c s3 ⟨z,H3,I3,r3,k,e,q3⟩=>?_) hm
 subst e
 cases r3
 exact wpAny_truthy_bool ⟨H3,I3,q3⟩
def mL (r r':R2) (ta tb tc:TE):TE:=fun σ H Q=>ta σ H fun x H1=>tb σ H1 fun y H2=>r x y H2 fun z H3=>∃ k,z=.bl k ∧
 (if k=true then tc σ H3 fun w' H4=>r' y w' H4 Q else Q (.bl false) H3)
theorem so {op op':CmpOp} {r r':R2} (ho:OpR X (compareOp op) r) (ho':OpR X (compareOp op') r') (ha:PE X a ta) (hb:PE X b tb) (hc:PE X c tc)
  (hm:lastMarks [op,op'] [b,c]=false:=by with_unfolding_all rfl):PE X (.Compare a [op,op'] [b,c] pos) (mL r r' ta tb tc):=by
 intro pins s σ H Q I h
 refine Compare_chain (thn (ha pins s σ H _ I h) fun v s1 ⟨x,H1,I1,r1,q1⟩=>chain_link (thn (hb pins s1 σ H1 _ I1 q1) fun u s2 ⟨y,H2,I2,r2,q2⟩ =>
  thn (ho pins s2 σ H2 x y v u _ I2 r1 r2 q2) fun d s3 ⟨z,H3,I3,r3,k,e,q3⟩=>?_)) hm
 subst e
 cases r3
 refine wpAny_truthy_bool ?_
 cases k with
 | false=>exact ite_ff ⟨.bl false,H3,I3,rfl,q3⟩
 | true=>exact ite_tt (chain_last (thn (hc pins s3 σ H3 _ I3 q3) fun w' s4 ⟨z',H4,I4,r4,q4⟩=>ho' pins s4 σ H4 y z' u w' Q I4 r2 r4 q4))
theorem sg {op op':CmpOp} {r r':R2} (ho:OpR X (compareOp op) r) (ho':OpR X (compareOp op') r') (ha:PE X a ta) (hb:PE X b tb) (hc:PE X c tc)
  (hm:lastMarks [op,op'] [b,c]=false:=by with_unfolding_all rfl):PT X (.Compare a [op,op'] [b,c] pos) (yO (mL r r' ta tb tc)):=by
 intro pins s σ H Q I h
 refine isTrue_chain (thn (ha pins s σ H _ I h) fun v s1 ⟨x,H1,I1,r1,q1⟩=>test_link (thn (hb pins s1 σ H1 _ I1 q1) fun u s2 ⟨y,H2,I2,r2,q2⟩ =>
  thn (ho pins s2 σ H2 x y v u _ I2 r1 r2 q2) fun d s3 ⟨z,H3,I3,r3,k,e,q3⟩=>?_)) hm
 subst e
 cases r3
 refine wpAny_truthy_bool ?_
 cases k with
 | false =>
  obtain ⟨k',e',q'⟩:=q3
  cases e'
  exact ite_ff ⟨H3,I3,q'⟩
 | true =>
  refine ite_tt (test_last (thn (hc pins s3 σ H3 _ I3 q3) fun w' s4 ⟨z',H4,I4,r4,q4⟩=>thn (ho' pins s4 σ H4 y z' u w' _ I4 r2 r4 q4) fun d' s5 ⟨z2,H5,I5,r5,k2,e2,q5⟩=>?_))
  subst e2
  cases r5
  exact wpAny_truthy_bool ⟨H5,I5,q5⟩
def FF (K:PySem.W.Frag) (x:V) (H:Hp) (k:Bool):Prop :=
 match x with
 | .non=>k=false
 | .bl b=>k=b
 | .int i=>k=(i != 0)
 | .str y=>y.length≤sizeLine∧k=((y.length:Int) != 0)
 | .byt y=>y.size≤sizeLine∧k=((y.size:Int) != 0)
 | .ref p=>(∃ xs,SqL K H p xs∧k=!xs.isEmpty)∨(∃ xs,SqT K H p xs∧k=!xs.isEmpty)∨∃ kvs,H p=some (.dK kvs)∧k=!kvs.isEmpty
 | _=>False
theorem pK {κ:Type} {kvs:List (κ × V)} {vs:List (κ × Value)} (r:KV kvs vs):(!vs.isEmpty)=!kvs.isEmpty:=by
 cases r <;> rfl
theorem kF {xs:List V} {its:List Value} (r:Vals xs its):(!its.toArray.isEmpty)=!xs.isEmpty:=by
 cases r <;> simp
theorem hW:(sizeLine:Nat) < 2 ^ 63:=by rw [sizeLine_eq]; decide
theorem FJ:FG X (fun x H Q=>∃ k,FF X.K x H k∧Q k H):=by
 intro pins s σ H x v Q I rx h
 obtain ⟨k,e,q⟩:=h
 have hl:=hW
 have hs:sizeLine=16777216:=sizeLine_eq
 cases x with
 | non =>
  cases rx
  have e':k=false:=e
  subst e'
  exact truthy_none ⟨H,I,q⟩
 | bl b =>
  cases rx
  have e':k=b:=e
  subst e'
  exact wpAny_truthy_bool ⟨H,I,q⟩
 | int i =>
  obtain ⟨t,rfl⟩:=rx
  have e':k=(i != 0):=e
  subst e'
  exact PySem.P.truthy_int ⟨H,I,q⟩
 | str y =>
  obtain ⟨t,rfl⟩:=rx
  obtain ⟨hy,e'⟩:y.length≤sizeLine∧k=((y.length:Int) != 0):=e
  subst e'
  exact PySem.P.truthy_str (by omega) ⟨H,I.tok _,q⟩
 | byt y =>
  obtain ⟨t,rfl⟩:=rx
  obtain ⟨hy,e'⟩:y.size≤sizeLine∧k=((y.size:Int) != 0):=e
  subst e'
  exact PySem.W.truthy_bytes (by omega) ⟨H,I.tok _,q⟩
 | ref p =>
  cases rx
  have e':(∃ xs,SqL X.K H p xs∧k=!xs.isEmpty)∨(∃ xs,SqT X.K H p xs∧k=!xs.isEmpty)∨∃ kvs,H p=some (.dK kvs)∧k=!kvs.isEmpty:=e
  rcases e' with ⟨xs,hx,e'⟩ | ⟨xs,hx,e'⟩ | ⟨kvs,hx,e'⟩
  ·subst e'
   obtain ⟨its,r,pl,hz⟩:=I.list hx
   have hlen:=r.length
   exact wpAny_truthy_list pl.isList (by simp only [List.size_toArray]; omega) ⟨H,I.tok _,by rw [kF r]; exact q⟩
  ·subst e'
   obtain ⟨its,r,pl,hz⟩:=I.tuple hx
   have hlen:=r.length
   exact truthy_tuple pl (by simp only [List.size_toArray]; omega) ⟨H,I.tok _,by rw [kF r]; exact q⟩
  ·subst e'
   obtain ⟨hz,hS,vs,r,m⟩:kvs.length≤sizeLine∧(p == sysModules)=false∧∃ vs,KV kvs vs∧s.heap.DictOf (hV X.prog X.w) p vs:=I.hok p _ hx
   have hlen:kvs.length=vs.length:=Paired.length r
   exact wpAny_truthy_dict hS m (by omega) ⟨H,I.tok _,by rw [pK r]; exact q⟩
 | _=>exact (show False from e).elim
theorem pd:OpR X (binaryOp .Add) (fun x y H Q=>∃ i j,x=.str i∧y=.str j∧i.length+j.length≤sizeLine∧Q (.str (i++j)) H):=by
 intro pins s σ H x y v u Q I rx ry h
 obtain ⟨i,j,rfl,rfl,hz,q⟩:=h
 obtain ⟨t,rfl⟩:=rx
 obtain ⟨t',rfl⟩:=ry
 exact add_str (fun t' tk=>⟨.str (i++j),H,I.tok _,⟨_,rfl⟩,q⟩) hz
theorem cX {x:V} {us:List Value} (r:Vals [x] us):∃ u,us=[u]∧RelV x u:=by
 cases r with
 | cons r1 r2=>cases r2; exact ⟨_,rfl,r1⟩
theorem Ey {x y:V} {us:List Value} (r:Vals [x,y] us):∃ u w',us=[u,w']∧RelV x u∧RelV y w':=by
 cases r with
 | cons r1 r2 =>
  cases r2 with
  | cons r3 r4=>cases r4; exact ⟨_,_,rfl,r1,r3⟩
def Ew (K:PySem.W.Frag) (x:V) (H:Hp) (n:Nat):Prop :=
 match x with
 | .str y=>y.length≤sizeLine∧n=y.length
 | .byt y=>y.size≤sizeLine∧n=y.size
 | .ref p=>(∃ xs,SqL K H p xs∧n=xs.length)∨∃ xs,SqT K H p xs∧n=xs.length
 | _=>False
theorem tM:CallR X (.builtin "len") (fun xs H Q=>∃ x n,xs=[x]∧Ew X.K x H n∧Q (.int n) H):=by
 intro pins s σ H xs us Q I r h
 obtain ⟨x,n,rfl,e,q⟩:=h
 obtain ⟨u,rfl,rx⟩:=cX r
 have hl:=hW
 have hs:sizeLine=16777216:=sizeLine_eq
 cases x with
 | str y =>
  obtain ⟨t,rfl⟩:=rx
  obtain ⟨hy,e'⟩:y.length≤sizeLine∧n=y.length:=e
  subst e'
  exact len_str (by omega) ⟨.int _,H,I.tok _,⟨_,rfl⟩,q⟩
 | byt y =>
  obtain ⟨t,rfl⟩:=rx
  obtain ⟨hy,e'⟩:y.size≤sizeLine∧n=y.size:=e
  subst e'
  exact PySem.W.len_bytes (by omega) ⟨.int _,H,I.tok _,⟨_,rfl⟩,q⟩
 | ref p =>
  cases rx
  have e':(∃ xs,SqL X.K H p xs∧n=xs.length)∨∃ xs,SqT X.K H p xs∧n=xs.length:=e
  rcases e' with ⟨xs,hx,e'⟩ | ⟨xs,hx,e'⟩
  ·subst e'
   obtain ⟨its,r',pl,hz⟩:=I.list hx
   have hlen:=r'.length
   exact Calls.call_len_list pl.isList (by simp only [List.size_toArray]; omega) ⟨.int xs.length,H,I.tok _,⟨_,by simp only [List.size_toArray]; rw [hlen]⟩,q⟩
  ·subst e'
   obtain ⟨its,r',pl,hz⟩:=I.tuple hx
   have hlen:=r'.length
   exact len_tuple pl (by simp only [List.size_toArray]; omega) ⟨.int xs.length,H,I.tok _,⟨_,by simp only [List.size_toArray]; rw [hlen]⟩,q⟩
 | _=>exact (show False from e).elim
end
end L2
namespace L2
open PySem PySem.Spec PyProof.Rows
structure ObjM (h:Heap) (x dx C:Addr) (mA:Str→Option Value):Prop where
 obj:h.get? x=some (PySem.W.instObj C dx)
 ns:h.Ns1 dx mA
 ne:dx≠x
theorem qJ {h:Heap} {dx:Addr} {mA:Str→Option Value} (n:h.Ns1 dx mA):∃ od,h.get? dx=some od∧∀ name,PySem.W.lookIn name od=some (mA name):=by
 obtain ⟨o,es,ep,ho,hd,hk,_,hm⟩:=n
 refine ⟨o,ho,fun name=>?_⟩
 have e:=hm name
 unfold nsFind findBy at e
 rw [← Array.find?_toList] at e
 unfold PySem.W.lookIn
 rw [hd]
 dsimp only
 split
 ·rename_i y q
  rw [q] at e
  exact congrArg some e
 ·rename_i q
  rw [q] at e
  have a:es.toList.any (·.refKey)=false:=by
   rw [List.any_eq_false]
   intro y hy
   obtain ⟨z,t,hkey⟩:=hk y (Array.mem_toList_iff.mp hy)
   simp [DictEntry.refKey,hkey]
  have a':¬ es.toList.any (·.refKey)=true:=by rw [a]; exact Bool.false_ne_true
  rw [if_neg a']
  exact congrArg some e
theorem ObjM.look {h:Heap} {x dx C:Addr} {mA:Str→Option Value} (I:ObjM h x dx C mA):∃ od,PySem.W.InstAt h x (PySem.W.instObj C dx) C (some od)∧∀ name,PySem.W.lookIn name od=some (mA name) :=
 let ⟨od,ho,hl⟩:=qJ I.ns
 ⟨od,⟨I.obj,rfl,rfl,ho⟩,hl⟩
section
variable {prog:Program} {w:World} {A:Around} {E:Value→Shared→Prop} {s:Shared} {K:PySem.W.Frag} {x dx C f:Addr} {mA:Str→Option Value} {name:Str} {v:Value}
end
section
variable {P:Program} {w:World} {H H':Hp} {h h':Heap} {a C dx:Addr} {fs fs':List (Str × V)}
theorem zX (hok:HOk P w H h) (e:H a=some (.ins C dx fs)):∃ mA,ObjM h a dx C mA∧(∀ f,tT (fs.lookup f) (mA f))∧PySem.Within mA (fs.map (·.1))∧fs.length≤1000∧H dx=some (.own a):=by
 obtain ⟨d,z,ne,ob,mA,n,r,q⟩:=(show ObjOk P w H h a (.ins C dx fs) from hok a _ e)
 exact ⟨mA,⟨ob,n,ne⟩,r,q,z,d⟩
end
structure Cls (K:PySem.W.Frag) (C:Addr):Prop where
 pg:PySem.W.plainGet K C Str.empty=true
 hd:PySem.W.hasDictIn K C=true
 po:PySem.W.plainOver K C=true
 sa:PySem.W.findIn K (.ref C) "__setattr__"=some (some (.builtin "object.__setattr__"))
theorem Cls.get {K:PySem.W.Frag} {C:Addr} (c:Cls K C) (f:Str):PySem.W.plainGet K C f=true:=c.pg
section
variable {X:Cx} {pins:List (Addr × Obj)} {σ:St} {H:Hp} {s:Shared} {a C dx:Addr} {fs:List (Str × V)} {f:Str} {v:V} {A:Around} {E:Value→Shared→Prop}
end
section
variable {X:Cx} {o e value:Expr} {f:Str} {pos pos' tpos:Pos} {ta tv:TE}
end
section
variable {X:Cx} {pins:List (Addr × Obj)} {σ:St} {H:Hp} {s:Shared} {A:Around} {E:Value→Shared→Prop} {Q:Value→Shared→Prop} {c:Value} {b:Bool}
inductive TyOf (K:PySem.W.Frag) (H:Hp):V→Value→Prop where
 | non:TyOf K H .non (.type "NoneType")
 | bl (x:Bool):TyOf K H (.bl x) (.type "bool")
 | int (i:Int):TyOf K H (.int i) (.type "int")
 | str (x:Str):TyOf K H (.str x) (.type "str")
 | flt (x:UInt64):TyOf K H (.flt x) (.type "float")
 | lst {a:Addr} {xs:List V} (e:H a=some (.lst xs)):TyOf K H (.ref a) (.type "list")
 | frz {a:Addr} {o:Obj} {xs:List V} (e:H a=some (.frz o (.lst xs))):TyOf K H (.ref a) (.type "list")
 | tup {a:Addr} {xs:List V} (e:H a=some (.tup xs)):TyOf K H (.ref a) (.type "tuple")
 | dK {a:Addr} {kvs:List (Key × V)} (e:H a=some (.dK kvs)):TyOf K H (.ref a) (.type "dict")
 | dT {a:Addr} {kvs:List (List Key × V)} (e:H a=some (.dT kvs)):TyOf K H (.ref a) (.type "dict")
 | ins {a C dx:Addr} {fs:List (Str × V)} (e:H a=some (.ins C dx fs)) (cl:Cls K C) (ha:PySem.W.findIn K (.ref C) "__class__"=some (some (.builtin "object.__class__")))
   (hn:PySem.W.specialIn K (.builtin "object.__class__") "__get__"=some (some (.builtin "getset_descriptor.__get__"))) (htk:PySem.W.takesIn K (.builtin "object.__class__")=some true)
   (hm:PySem.W.mroIn K C (.type "object")=some true):TyOf K H (.ref a) (.ref C)
theorem qQ {x:V} {u t:Value} (I:Inv X pins σ H s) (rx:RelV x u) (ty:TyOf X.K H x t) (e:PySem.W.kitOne X.K t c=some b) (h:∀ tk,Q (.bool b) { s with toks:=tk }) :
  wpAny (model X.prog X.w) A (call (.builtin "isinstance") [u,c]) Q E s:=by
 cases ty with
 | non=>cases (show u=Value.none from rx); exact PySem.W.kia_one PySem.W.kitx_none I.kIn True.intro e (fun z=>nomatch z) h
 | bl y=>cases (show u=Value.bool y from rx); exact PySem.W.kia_one PySem.W.kitx_bool I.kIn True.intro e (fun z=>nomatch z) h
 | int i=>obtain ⟨t,q⟩:=(show ∃ t,u=Value.int i t from rx); cases q; exact PySem.W.kia_one PySem.W.kitx_int I.kIn True.intro e (fun z=>nomatch z) h
 | str y=>obtain ⟨t,q⟩:=(show ∃ t,u=Value.str y t from rx); cases q; exact PySem.W.kia_one PySem.W.kitx_str I.kIn True.intro e (fun z=>nomatch z) h
 | flt y=>obtain ⟨t,q⟩:=(show ∃ t,u=Value.float y t from rx); cases q; exact PySem.W.kia_one PySem.W.kitx_float I.kIn True.intro e (fun z=>nomatch z) h
 | @lst a xs ea =>
  cases (show u=Value.ref a from rx)
  obtain ⟨_,_,n,_,h1⟩:=(show ObjOk X.prog X.w H s.heap a (.lst xs) from I.hok a _ ea)
  exact PySem.W.kia_one PySem.W.kitx_list I.kIn ⟨_,h1,rfl⟩ e (fun z=>nomatch z) h
 | @frz a ob xs ea =>
  cases (show u=Value.ref a from rx)
  obtain ⟨_,_,_,n,_,h1⟩:=(show ObjOk X.prog X.w H s.heap a (.frz ob (.lst xs)) from I.hok a _ ea)
  exact PySem.W.kia_one PySem.W.kitx_list I.kIn ⟨_,h1,rfl⟩ e (fun z=>nomatch z) h
 | @tup a xs ea =>
  cases (show u=Value.ref a from rx)
  obtain ⟨_,_,_,p⟩:=(show ObjOk X.prog X.w H s.heap a (.tup xs) from I.hok a _ ea)
  obtain ⟨o,h1,h2,_⟩:=p
  exact PySem.W.kia_one PySem.W.kitx_tuple I.kIn ⟨o,h1,h2⟩ e (fun z=>nomatch z) h
 | @dK a kvs ea =>
  cases (show u=Value.ref a from rx)
  obtain ⟨_,_,vs,_,p⟩:=(show ObjOk X.prog X.w H s.heap a (.dK kvs) from I.hok a _ ea)
  obtain ⟨o,es,ep,h1,h2,_⟩:=p
  exact PySem.W.kia_one PySem.W.kitx_dict I.kIn ⟨o,h1,h2.1⟩ e (fun z=>nomatch z) h
 | @dT a kvs ea =>
  cases (show u=Value.ref a from rx)
  obtain ⟨_,_,xs,_,o,es,ep,h1,h2,_⟩:=(show ObjOk X.prog X.w H s.heap a (.dT kvs) from I.hok a _ ea)
  exact PySem.W.kia_one PySem.W.kitx_dict I.kIn ⟨o,h1,h2.1⟩ e (fun z=>nomatch z) h
 | @ins a C dx fs ea cl ha hn htk hm =>
  cases (show u=Value.ref a from rx)
  obtain ⟨mA,O,_⟩:=zX I.hok ea
  obtain ⟨od,J,_⟩:=O.look
  exact PySem.W.kia_one (PySem.W.kitx_own (cl.get _) cl.hd ha hn htk hm) I.kIn J e (fun z=>nomatch z) h
end
end L2
namespace L2
open PySem PySem.Spec PyProof.Rows
structure Room (k:Nat) (A:Around):Prop where
 hd:A.handled=none
 dp:A.depth+3 * k+5 < recursionLimit
 un:A.units+16 * k+200 < cLine
 gd:A.guards=some []
theorem Room.mono {j k:Nat} {A:Around} (r:Room k A) (h:j≤k):Room j A:=⟨r.hd,by have:=r.dp; omega,by have:=r.un; omega,r.gd⟩
theorem Room.deeper {k:Nat} {A:Around} (r:Room (k+1) A) (env:Env):Room k (A.deeper env) :=
 ⟨r.hd,by have:=r.dp; show A.depth+1+3 * k+5 < _; omega,by have:=r.un; show A.units+3+16 * k+200 < _; omega,r.gd⟩
theorem Room.depth {k:Nat} {A:Around} (r:Room k A):A.depth < recursionLimit:=by have:=r.dp; omega
theorem Room.units {k:Nat} {A:Around} (r:Room k A):A.units+64 < cLine:=by have:=r.un; omega
def rY:TA:=fun _ H Q=>Q [] H
def mB (ta:TE) (tr:TA):TA:=fun σ H Q=>ta σ H fun x H1=>tr σ H1 fun xs H2=>Q (x :: xs) H2
section
variable {X:Cx} {e:Expr} {es:List Expr} {te:TE} {t:TA} {pos:Pos}
theorem pa_nil:PA X [] rY:=fun _ _ _ _ H Q I h=>Calls.spliced_nil ⟨[],H,I,.nil,h⟩
theorem dQ (ha:PE X e te) (hr:PA X es t) (hs:starEach (e :: es) X.env=(false,eval e X.env) :: starEach es X.env:=by rfl):PA X (e :: es) (mB te t):=by
 intro pos pins s σ H Q I h
 rw [hs]
 show wpAny _ _ (spliced ((false,eval e X.env) :: backTo pos (starEach es X.env))) _ _ s
 refine Calls.spliced_cons (thn (ha pins s σ H _ I h) fun u s1 ⟨x,H1,I1,r1,q1⟩=>?_)
 exact thn (hr pos pins s1 σ H1 _ I1 q1) fun us s2 ⟨xs,H2,I2,r2,q2⟩=>⟨x :: xs,H2,I2,.cons r1 r2,q2⟩
def CB (t:TA):TE:=fun σ H Q=>t σ H fun xs H1=>xs.length≤sizeLine∧∀ p,H1 p=none→Q (.ref p) (upd H1 p (.tup xs))
def CG (t:TA):TE:=fun σ H Q=>t σ H fun xs H1=>xs.length≤sizeLine∧∀ p,H1 p=none→Q (.ref p) (upd H1 p (.lst xs))
theorem Da {x1} (h:PA X es t):PE X (.Tuple es x1 pos) (CB t):=by
 intro pins s σ H Q I hq
 refine wpAny_Tuple_spliced (thn (h pos pins s σ H _ I hq) fun us s1 ⟨xs,H1,I1,r,z,q⟩=>⟨by rw [← r.length]; exact z,?_⟩)
 have hf:H1 s1.heap.objs.size=none:=I1.hok.fresh (Nat.le_refl _)
 refine ⟨.ref s1.heap.objs.size,upd H1 s1.heap.objs.size (.tup xs),I1.laid (t':=s1.toks) (fun b u e=>Heap.get?_push_of_some _ e) (Nat.le_refl _) ?_,rfl,q _ hf⟩
 exact ⟨z,us,r,⟨_,Heap.get?_push_size _ rfl,rfl,_,rfl,rfl⟩⟩
theorem Dc (h:PA X es t):PE X (.List es pos) (CG t):=by
 intro pins s σ H Q I hq
 refine wpAny_List_spliced (thn (h pos pins s σ H _ I hq) fun us s1 ⟨xs,H1,I1,r,z,q⟩=>⟨by rw [← r.length]; exact z,?_⟩)
 have hf:H1 s1.heap.objs.size=none:=I1.hok.fresh (Nat.le_refl _)
 refine ⟨.ref s1.heap.objs.size,upd H1 s1.heap.objs.size (.lst xs),I1.laid (t':=s1.toks) (fun b u e=>Heap.get?_push_of_some _ e) (Nat.le_refl _) ?_,rfl,q _ hf⟩
 exact ⟨z,us,0,r,Heap.get?_push_size _ rfl⟩
end
abbrev Sp:=List V→Hp→VK→XK→Prop
abbrev CXT:=List Env→Hp→Shared→XK→Value→Shared→Prop
structure Env0 (P:Program) (w:World) (K:PySem.W.Frag) (mg:Str→Option Value) (base:Heap) (A:Around) (outer:List Env) (s:Shared) (H:Hp):Prop where
 frames:A.frames=some outer
 mod:Mod K mg base
 bs:∀ b o,base.get? b=some o→s.heap.get? b=some o∧H b=none
 bsz:base.objs.size≤s.heap.objs.size
 funs:s.heap.FunFrames base outer
 frf:∀ b∈frs outer,H b=none
 hok:HOk P w H s.heap
 bare:AllBare s.gens
def CE (outer:List Env) (P:Program) (w:World) (H:Hp) (s:Shared) (Q:VK) (u:Value) (s':Shared):Prop :=
 ∃ v H',s'.os=s.os∧AllBare s'.gens∧Un (frs outer) [] H H' s.heap s'.heap∧HOk P w H' s'.heap∧RelV v u∧Q v H'
def CR (CX:CXT) (outer:List Env) (P:Program) (w:World) (H:Hp) (s:Shared) (Q:VK) (E:XK) (r:Result) (s':Shared):Prop :=
 match r with
 | .ok (.ret u)=>CE outer P w H s Q u s'
 | .ok _=>False
 | .error e=>CX outer H s E e s'
structure FnOk (P:Program) (w:World) (K:PySem.W.Frag) (mg:Str→Option Value) (base:Heap) (CX:CXT) (k:Nat) (f:Addr) (fd:FuncData) (ps:List Str) (sp:Sp):Prop where
 len:∀ vs H Q E,sp vs H Q E→vs.length=ps.length
 run:∀ (A:Around) (outer:List Env) (s:Shared) (H:Hp) (args:Args) (us:List Value) (vs:List V) (Q:VK) (E:XK),Room k A→Env0 P w K mg base A outer s H→BindsTo s fd args (ps.zip us)→Vals vs us→sp vs H Q E →
  codeAny (model P w) A (.call (.ref f) args) (CR CX outer P w H s Q E) s
theorem FnOk.mono {P:Program} {w:World} {K:PySem.W.Frag} {mg:Str→Option Value} {base:Heap} {CX:CXT} {j k:Nat} {f:Addr} {fd:FuncData} {ps:List Str} {sp:Sp} (F:FnOk P w K mg base CX j f fd ps sp) (h:j≤k) :
  FnOk P w K mg base CX k f fd ps sp:=⟨F.len,fun A outer s H args us vs Q E hr=>F.run A outer s H args us vs Q E (hr.mono h)⟩
theorem FnOk.imp {P:Program} {w:World} {K:PySem.W.Frag} {mg:Str→Option Value} {base:Heap} {CX:CXT} {k:Nat} {f:Addr} {fd:FuncData} {ps:List Str} {sp sp':Sp} (F:FnOk P w K mg base CX k f fd ps sp)
  (h:∀ vs H Q E,sp' vs H Q E→sp vs H Q E):FnOk P w K mg base CX k f fd ps sp' :=
 ⟨fun vs H Q E q=>F.len vs H Q E (h _ _ _ _ q),fun A outer s H args us vs Q E hr he hb hv hs=>F.run A outer s H args us vs Q E hr he hb hv (h _ _ _ _ hs)⟩
section
variable {X:Cx} {pins:List (Addr × Obj)} {σ:St} {H:Hp} {s s':Shared}
theorem Inv.env0 (I:Inv X pins σ H s):Env0 X.prog X.w X.K X.mg X.base X.A X.stack s H :=
 ⟨I.ok.frames,I.ok.mod,I.bs,Nat.le_trans I.ok.bsz I.sz,I.stack,I.stkFree,I.hok,I.bare⟩
theorem Inv.after {Q:VK} {u:Value} (I:Inv X pins σ H s) (h:CE X.stack X.prog X.w H s Q u s'):EP X pins σ Q u s':=by
 obtain ⟨v,H',os,bare,un,hok,r,q⟩:=h
 obtain ⟨hh,g,d,t,os'⟩:=s'
 obtain rfl:os'=s.os:=os
 exact ⟨v,H',I.call (h':=hh) (g':=g) (d':=d) (t':=t) (ch:=[]) un hok bare (fun b z=>absurd z (by simp)),r,q⟩
end
def oW (sp:Sp) (dvs:List V) (E:XK) (t:TA):TE:=fun σ H Q=>t σ H fun vs H1=>sp (vs++dvs) H1 Q E
def Binds (K:PySem.W.Frag) (fd:FuncData) (ps:List Str) (ds:List Value):Prop :=
 ∀ (s:Shared) (us:List Value),K.In s.heap→(us++ds).length=ps.length→BindsTo s fd ⟨us,[]⟩ (ps.zip (us++ds))
theorem Binds.all {K:PySem.W.Frag} {fd:FuncData} {ps:List Str} (h:∀ us:List Value,us.length=ps.length→bindArgs fd ⟨us,[]⟩=pure (ps.zip us)):Binds K fd ps []:=fun s us _ hl=>by
 rw [List.append_nil] at hl ⊢
 exact .of_eq (h us hl)
def nH (CX:CXT) (X:Cx) (E:XK):Prop:=∀ (pins:List (Addr × Obj)) (σ:St) (H:Hp) (s:Shared) (e:Value) (s':Shared),Inv X pins σ H s→CX X.stack H s E e s'→X.xe e s'
section
variable {X:Cx} {CX:CXT} {k:Nat} {f C:Addr} {fd:FuncData} {ps:List Str} {sp:Sp} {dvs:List V} {ds:List Value} {E:XK} {x m:Str} {p pos apos:Pos} {e o:Expr} {es:List Expr} {ta:TE} {t:TA}
theorem CO {pins:List (Addr × Obj)} {σ:St} {H:Hp} {s:Shared} {Q:VK} {us:List Value} {vs:List V} (F:FnOk X.prog X.w X.K X.mg X.base CX k f fd ps sp) (hr:Room k X.A) (hb:Binds X.K fd ps ds) (hd:Vals dvs ds) (hx:nH CX X E)
  (I:Inv X pins σ H s) (r:Vals vs us) (h:sp (vs++dvs) H Q E):wpAny (model X.prog X.w) X.A (call (.ref f) us) (EP X pins σ Q) X.xe s:=by
 have r2:Vals (vs++dvs) (us++ds):=r.append hd
 have hl:(us++ds).length=ps.length:=by rw [← r2.length]; exact F.len _ _ _ _ h
 refine wpAny_call (codeAny_mono (F.run X.A X.stack s H ⟨us,[]⟩ (us++ds) (vs++dvs) Q E hr I.env0 (hb s us I.kIn hl) r2 h) fun r s' hq=>?_)
 cases r with
 | error e=>exact hx pins σ H s e s' I hq
 | ok fl =>
  cases fl with
  | ret u=>exact I.after hq
  | next=>exact False.elim hq
  | brk=>exact False.elim hq
  | cont=>exact False.elim hq
theorem zN (F:FnOk X.prog X.w X.K X.mg X.base CX k f fd ps sp) (hr:Room k X.A) (hg:Gl X x) (hm:X.mg x=some (.ref f)) (hk:PySem.W.keepIn X.K (.ref f)=true) (hb:Binds X.K fd ps ds) (hd:Vals dvs ds) (hx:nH CX X E)
  (ha:PA X (e :: es) t) (hdb:(x == ("__debug__" : Str))=false:=by decide) (he:starEach (e :: es) X.env=(false,eval e X.env) :: starEach es X.env:=by rfl) (hpl:(backTo pos (starEach es X.env)).any (·.1)=false:=by rfl) :
  PE X (.Call (.Name x p) (e :: es) [] pos) (oW sp dvs E t):=by
 intro pins s σ H Q I h
 refine wpAny_Call_Name_kw (oA I hg hm ?_ hdb)
 refine PySem.W.callWith_K (h₀:=X.base) I.ok.mod.kin hk (thn (ha pos pins s σ H _ I h) fun us s1 ⟨vs,H1,I1,r,q⟩=>⟨I1.kIn,?_⟩) he hpl
 exact CO F hr hb hd hx I1 r q
end
section
variable {X:Cx} {CX:CXT} {k:Nat} {f C:Addr} {fd:FuncData} {ps ks:List Str} {sp:Sp} {E:XK} {x m:Str} {p pos apos kpos:Pos} {e o:Expr} {es:List Expr} {kws:List Keyword} {te ta:TE} {t tk:TA} {nm:Option Str}
variable {g:List Value→List Value→List Value} {gV:List V→List V→List V}
end
structure FnScope (N P:List Str) (sc:Scope):Prop where
 kind:sc.kind=.function
 co:sc.isCoroutine=false
 gen:sc.isGenerator=false
 nd:N.Nodup
 pre:N.take P.length=P
 par:∀ x∈P,sc.names.lookup x=some .local∨sc.names.lookup x=some .cell
 nofree:∀ y∈sc.names,y.2≠.free
theorem l8 {kindOf:Str→Option NameKind} {x:Str}:∀ {binds:List (Str × Value)} {m:Str→Option Value},(∀ v,(x,v) ∉ binds)→bindL kindOf binds m x=m x
 | [],_,_=>rfl
 | (n,v) :: r,m,h=>by
  unfold bindL
  rw [l8 fun w hw=>h w (List.mem_cons_of_mem _ hw)]
  split
  ·have:x≠n:=by rintro rfl; exact h v List.mem_cons_self
   simp [this]
  ·rfl
theorem ma {kindOf:Str→Option NameKind} {x:Str}:∀ {binds:List (Str × Value)} {m:Str→Option Value},(∀ v,(x,v) ∉ binds)→bindC kindOf binds m x=m x
 | [],_,_=>rfl
 | (n,v) :: r,m,h=>by
  unfold bindC
  rw [ma fun w hw=>h w (List.mem_cons_of_mem _ hw)]
  split
  ·rfl
  ·have:x≠n:=by rintro rfl; exact h v List.mem_cons_self
   simp [this]
theorem l9 {kindOf:Str→Option NameKind} {x:Str} {v:Value}:∀ {P:List Str} {vs:List Value} {i:Nat} {m:Str→Option Value},P.Nodup→P[i]?=some x→vs[i]?=some v→kindOf x=some .local →
  bindL kindOf (P.zip vs) m x=some v
 | [],_,_,_,_,h,_,_=>by simp at h
 | _ :: _,[],_,_,_,_,h,_=>by simp at h
 | p :: P,w :: vs,0,m,nd,h1,h2,hk=>by
  simp at h1 h2; subst h1; subst h2
  show bindL kindOf ((p,w) :: P.zip vs) m p=_
  unfold bindL
  rw [l8 fun v hv=>(List.nodup_cons.mp nd).1 (List.of_mem_zip hv).1,if_pos hk]
  simp
 | p :: P,w :: vs,i+1,m,nd,h1,h2,hk=>by
  show bindL kindOf ((p,w) :: P.zip vs) m x=_
  unfold bindL
  exact l9 (i:=i) (List.nodup_cons.mp nd).2 (by simpa using h1) (by simpa using h2) hk
theorem me {kindOf:Str→Option NameKind} {x:Str} {v:Value}:∀ {P:List Str} {vs:List Value} {i:Nat} {m:Str→Option Value},P.Nodup→P[i]?=some x→vs[i]?=some v→kindOf x≠some .local →
  bindC kindOf (P.zip vs) m x=some v
 | [],_,_,_,_,h,_,_=>by simp at h
 | _ :: _,[],_,_,_,_,h,_=>by simp at h
 | p :: P,w :: vs,0,m,nd,h1,h2,hk=>by
  simp at h1 h2; subst h1; subst h2
  show bindC kindOf ((p,w) :: P.zip vs) m p=_
  unfold bindC
  rw [ma fun v hv=>(List.nodup_cons.mp nd).1 (List.of_mem_zip hv).1,if_neg hk]
  simp
 | p :: P,w :: vs,i+1,m,nd,h1,h2,hk=>by
  show bindC kindOf ((p,w) :: P.zip vs) m x=_
  unfold bindC
  exact me (i:=i) (List.nodup_cons.mp nd).2 (by simpa using h1) (by simpa using h2) hk
def cZ (N:List Str) (vs:List V):St:=vs.map some++List.replicate (N.length - vs.length) none
def kf (CX:CXT) (P:Program) (w:World) (K:PySem.W.Frag) (mg:Str→Option Value) (base:Heap) (N:List Str) (qual:Str) (scope:Scope) (f:Addr) (cd:Value) (A:Around) (outer:List Env) (s:Shared) (H:Hp) (E:XK):Cx where
 prog:=P
 w:=w
 K:=K
 mg:=mg
 base:=base
 A:=A.deeper (envOfC qual scope s.heap.objs.size f cd)
 N:=N
 s₀:=s
 H₀:=H
 env:=envOfC qual scope s.heap.objs.size f cd
 outer:=outer
 stack:=envOfC qual scope s.heap.objs.size f cd :: outer
 ex:=[]
 calm:=true
 fn:=fun _=>true
 pn:=[]
 xe:=fun e s'=>wpAny (model P w) (A.deeper (envOfC qual scope s.heap.objs.size f cd)) (leaving (envOfC qual scope s.heap.objs.size f cd) e) (fun _ s''=>CX outer H s E e s'') (fun e' s''=>CX outer H s E e' s'') s'
theorem nz {sc:Scope} {n:Nat} {x:Str} (h:sc.names.lookup x=some .cell):∃ c,(cellsFrom n sc.names []).lookup x=some c:=by
 have q:=PySem.W.cellsFrom_some sc.names n [] (.inl h)
 exact Option.isSome_iff_exists.mp q
theorem qR {CX:CXT} {P:Program} {w:World} {K:PySem.W.Frag} {mg:Str→Option Value} {base:Heap} {N ps:List Str} {qual:Str} {scope:Scope} {f:Addr} {cd:Value} {A:Around} {outer:List Env} {s s1:Shared} {H:Hp} {E:XK} {us:List Value} {vs:List V}
  (S:FnScope N ps scope) (hd:A.handled=none) (e0:Env0 P w K mg base A outer s H) (hl:vs.length=ps.length) (r:Vals vs us)
  (x:InCallC s s.heap.objs.size (bindL (envOfC qual scope s.heap.objs.size f cd).kindOf (ps.zip us) fun _=>none) (cellsFrom (s.heap.objs.size+1) scope.names []) (bindC (envOfC qual scope s.heap.objs.size f cd).kindOf (ps.zip us) fun _=>none) s1) :
  Inv (kf CX P w K mg base N qual scope f cd A outer s H E) [] (cZ N vs) H s1:=by
 have hpl:ps.length≤N.length:=by have:=congrArg List.length S.pre; rw [List.length_take] at this; omega
 obtain ⟨h1,tk,rfl,hk⟩:=x.done
 have noA:∀ b:Addr,b ∉ (kf CX P w K mg base N qual scope f cd A outer s H E).ex:=fun b z=>absurd (show b∈([]:List Addr) from z) (by simp)
 refine ⟨⟨e0.mod,S.kind,rfl,rfl,Nat.le_refl _,fun y z c h1 h2=>?_,fun y hy=>?_,fun y c _ h=>?_,fun _=>hd,Around.frames_deeper e0.frames,.inr ⟨rfl,rfl⟩,fun b z=>absurd z (noA b),e0.bs,e0.bsz,fun b _ _=>noA b,fun b z=>absurd z (noA b),e0.funs,e0.frf⟩,
  rfl,e0.bare,Un.kept hk,⟨_,x.toInCall.ns,fun i y v h1 h2 h3=>?_⟩,fun y c h=>⟨_,x.cell y c h⟩,e0.hok.fresh (Nat.le_refl _),fun y c h=>?_,fun p hp=>absurd (show p∈([]:List (Addr × Obj)) from hp) (by simp),e0.hok.kept hk,?_⟩
 ·exact name_of_addr x.apart (PySem.mem_of_lookup h1) (PySem.mem_of_lookup h2)
 ·have hy:scope.names.lookup y=some .cell∨scope.names.lookup y=some .free:=hy
  rcases hy with hy | hy
  ·exact nz hy
  ·exact absurd rfl (S.nofree _ (PySem.mem_of_lookup hy))
 ·exact Nat.le_of_lt (x.above y c (PySem.mem_of_lookup h))
 ·have hi:i < vs.length:=by
   unfold cZ at h2
   by_cases hi:i < vs.length
   ·exact hi
   ·rw [List.getElem?_append_right (by simpa using hi)] at h2
    rw [List.getElem?_replicate] at h2
    split at h2 <;> cases h2
  have ha:vs[i]?=some v:=by
   unfold cZ at h2
   rw [List.getElem?_append_left (by simpa using hi),List.getElem?_map] at h2
   cases e:vs[i]? with
   | none=>rw [e] at h2; cases h2
   | some a=>rw [e] at h2; cases h2; rfl
  obtain ⟨u,hu,rv⟩:=r.get ha
  have hp:ps[i]?=some y:=by
   rw [← S.pre,List.getElem?_take_of_lt (by omega)]; exact h1
  have ndP:ps.Nodup:=by rw [← S.pre]; exact S.nd.sublist (List.take_sublist _ _)
  refine ⟨u,rv,?_⟩
  rcases S.par y (List.mem_of_getElem? hp) with k | k
  ·exact .inl ⟨k,l9 ndP hp hu k⟩
  ·obtain ⟨c,e⟩:=nz (n:=s.heap.objs.size+1) k
   refine .inr ⟨.inl k,c,e,?_⟩
   have q:=x.cell y c e
   rw [me ndP hp hu (by show scope.names.lookup y≠_; rw [k]; decide)] at q
   exact q
 ·exact e0.hok.fresh (Nat.le_of_lt (x.above y c (PySem.mem_of_lookup h)))
 ·unfold cZ
  show _=N.length
  rw [List.length_append,List.length_map,List.length_replicate]
  omega
theorem EY {CX:CXT} {P:Program} {w:World} {K:PySem.W.Frag} {mg:Str→Option Value} {base:Heap} {k:Nat} {f:Addr} {name qual:Str} {params:Arguments} {body:List Stmt} {scope:Scope} {dV kV doc pm cdv ct oc:Value} {an od:Option Addr}
  {osl:Array (Option Value)} {N ps:List Str} {sp:Sp} (lk:K.lookup f=some ⟨oc,od,.func (PySem.W.fnOf name qual params body scope dV kV doc pm an cdv ct),osl⟩) (hcd:PySem.W.codeIn K cdv qual=true) (S:FnScope N ps scope)
  (len:∀ vs H Q E,sp vs H Q E→vs.length=ps.length)
  (hbody:∀ (A:Around) (outer:List Env) (s:Shared) (H:Hp) (vs:List V) (Q:VK) (E:XK),Room k (A.deeper (envOfC qual scope s.heap.objs.size f cdv))→sp vs H Q E →
   ∃ t,PSs (kf CX P w K mg base N qual scope f cdv A outer s H E) body t∧t { nx:=fun _ H'=>Q .non H',rt:=Q } (cZ N vs) H) :
  FnOk P w K mg base CX (k+1) f (PySem.W.fnOf name qual params body scope dV kV doc pm an cdv ct) ps sp:=by
 refine ⟨len,fun A outer s H args us vs Q E hr e0 hb r hsp=>?_⟩
 have hl:=len _ _ _ _ hsp
 have KX:K.In s.heap:=e0.mod.kin.keeps fun b o e=>(e0.bs b o e).1
 have lim:s.heap.NoLimit:=e0.mod.nolimit.keeps fun b o e=>(e0.bs b o e).1
 have hkind:∀ y∈ps.zip us,scope.names.lookup y.1=some .local∨(scope.names.lookup y.1=some .cell∧((cellsFrom (s.heap.objs.size+1) scope.names []).lookup y.1).isSome=true):=fun ⟨n,v⟩ hy=>by
  rcases S.par n (List.of_mem_zip hy).1 with q | q
  ·exact .inl q
  ·exact .inr ⟨q,PySem.W.cellsFrom_some _ _ _ (.inl q)⟩
 refine codeAny_call_function hr.depth (KX _ _ lk) rfl S.co S.gen rfl (PySem.W.codeRec_of KX hcd) (hb _ _ _ _ ?_)
 refine wpAny_newFunctionEnv_cells S.kind hkind fun env he s1 x=>?_
 subst he
 refine ⟨lim.keeps x.toInCall.keep,codeAny_func ?_⟩
 obtain ⟨t,ht,hq⟩:=hbody A outer s H vs Q E (hr.deeper _) hsp
 have I:Inv (kf CX P w K mg base N qual scope f cdv A outer s H E) [] (cZ N vs) H s1:=qR S hr.hd e0 hl r x
 refine wpAny_mono (ht [] s1 (cZ N vs) H _ I hq) (fun fl s' hs=>?_) fun e s' hs=>hs
 have fin:∀ {σ':St} {H':Hp} {v:V} {u:Value},Inv (kf CX P w K mg base N qual scope f cdv A outer s H E) [] σ' H' s'→RelV v u→Q v H'→CE outer P w H s Q u s' :=
  fun {σ' H' v u} J rv q=>⟨v,H',J.os,J.bare,J.base,J.hok,rv,q⟩
 cases fl with
 | ret u =>
  obtain ⟨v,σ',H',J,rv,q⟩:=hs
  exact fin J rv q
 | next =>
  obtain ⟨σ',H',J,q⟩:=hs
  exact fin (v:=V.non) (u:=Value.none) J rfl q
 | brk =>
  obtain ⟨_,_,_,q⟩:=hs
  exact False.elim q
 | cont =>
  obtain ⟨_,_,_,q⟩:=hs
  exact False.elim q
end L2
namespace L2
open PySem PySem.Spec PyProof.Rows
section
variable {X:Cx} {x:Str} {p pos:Pos} {e:Expr} {es:List Expr} {t:TA} {id T:String} {r:List V→Hp→VK→Prop}
def tCB (r:List V→Hp→VK→Prop) (t:TA):TE:=fun σ H Q=>t σ H fun vs H1=>r vs H1 Q
theorem j7 (hc:CallR X (.builtin id) r) (hg:Gl X x) (hm:X.mg x=none) (hv:bootBuiltins x=some (.builtin id)) (ha:PA X (e :: es) t) (hn:x≠"__name__":=by decide) (hdb:(x == ("__debug__" : Str))=false:=by decide)
  (he:starEach (e :: es) X.env=(false,eval e X.env) :: starEach es X.env:=by rfl) (hpl:(backTo pos (starEach es X.env)).any (·.1)=false:=by rfl):PE X (.Call (.Name x p) (e :: es) [] pos) (tCB r t):=by
 intro pins s σ H Q I h
 refine wpAny_Call_Name_kw (ji I hg hm hv ?_ hn hdb)
 exact PyProof.Rows.callWith_builtin1 (thn (ha pos pins s σ H _ I h) fun us s1 ⟨vs,H1,I1,r1,q1⟩=>hc pins s1 σ H1 vs us Q I1 r1 q1) he hpl
theorem lN (hc:CallR X (.type T) r) (hg:Gl X x) (hm:X.mg x=none) (hv:bootBuiltins x=some (.type T)) (ha:PA X (e :: es) t) (hn:x≠"__name__":=by decide) (hdb:(x == ("__debug__" : Str))=false:=by decide)
  (he:starEach (e :: es) X.env=(false,eval e X.env) :: starEach es X.env:=by rfl) (hpl:(backTo pos (starEach es X.env)).any (·.1)=false:=by rfl):PE X (.Call (.Name x p) (e :: es) [] pos) (tCB r t):=by
 intro pins s σ H Q I h
 refine wpAny_Call_Name_kw (ji I hg hm hv ?_ hn hdb)
 exact PyProof.Rows.callWith_type1 (thn (ha pos pins s σ H _ I h) fun us s1 ⟨vs,H1,I1,r1,q1⟩=>hc pins s1 σ H1 vs us Q I1 r1 q1) he hpl
end
end L2
namespace HT
open PySem PyProof.Rows
section
open PySem.SeqAt
open PySem.AutoSeq1 (wpAny_loadPart')
open PySem.MeetsSeq PySem.MeetsSeq2 PySem.MeetsSeq3
end
section
variable {prog:Program} {w:World} {A:Around} {E:Value→Shared→Prop} {s:Shared}
theorem cat_tup {t b:Addr} {vs ws:List Value} {Q:Value→Shared→Prop} (ht:IsTup s.heap t vs.toArray) (hb:IsTup s.heap b ws.toArray) (hv:vs≠[])
  (h1:ws=[]→Q (.ref t) s) (h2:ws≠[]→Q (.ref s.heap.objs.size) { s with heap:=s.heap.push { cls:=.type "tuple",data:=.seq (vs++ws).toArray } })
  (hsz:vs.length+ws.length≤sizeLine):wpAny (model prog w) A (binaryOp .Add (.ref t) (.ref b)) Q E s:=by
 obtain ⟨⟨cls,dd,data,sl⟩,ho,hc,n,hd⟩:=id ht
 obtain ⟨⟨cls2,dd2,data2,sl2⟩,ho2,hc2,n2,hd2⟩:=id hb
 simp only at hc hd hc2 hd2
 subst hc hd hc2 hd2
 have e:vs.toArray++ws.toArray=(vs++ws).toArray:=by simp
 by_cases hw:ws=[]
 ·exact concat_meets ⟨_,ho,rfl⟩ ⟨_,ho2,rfl⟩ noFill_tuple_add seq_tuple_add PySem.F.slot_tuple_add PySem.F.entry_tuple_add (PySem.F.args_tuple_add_2 _ _)
   (tuple_addW1 t b vs.toArray ws.toArray n n2 dd dd2 sl sl2 (by simpa using hv) (by simp [hw])) ⟨ho,ho2,h1 hw⟩
 ·refine concat_meets ⟨_,ho,rfl⟩ ⟨_,ho2,rfl⟩ noFill_tuple_add seq_tuple_add PySem.F.slot_tuple_add PySem.F.entry_tuple_add (PySem.F.args_tuple_add_2 _ _)
   (tuple_addW2 t b vs.toArray ws.toArray n n2 dd dd2 sl sl2 (by simpa using hv) (by simpa using hw) (by rw [List.size_toArray,List.size_toArray]; exact hsz)) ⟨ho,ho2,?_⟩
  rw [e]
  exact h2 hw
def sIx (n d:Nat):Option Int→Nat
 | none=>d
 | some v=>if v < 0 then (v+(n:Int)).toNat else min v.toNat n
theorem sIx_none (n d:Nat):sIx n d none=d:=rfl
theorem sIx_nat (n d k:Nat):sIx n d (some (k:Int))=min k n:=by
 show (if (k:Int) < 0 then ((k:Int)+(n:Int)).toNat else min (k:Int).toNat n)=min k n
 rw [if_neg (by omega),Int.toNat_natCast]
theorem mO (n d:Nat) (hd:d≤n) (o:Option Int):sIx n d o≤n:=by
 cases o with
 | none=>exact hd
 | some v =>
  show (if v < 0 then (v+(n:Int)).toNat else min v.toNat n)≤n
  by_cases hv:v < 0
  ·rw [if_pos hv]; omega
  ·rw [if_neg hv]; exact Nat.min_le_right _ _
theorem oK (v:Int) (n d:Nat):(if v < 0 then max (v+(n:Int)) 0 else min v (n:Int))=((sIx n d (some v):Nat):Int):=by
 show (if v < 0 then max (v+(n:Int)) 0 else min v (n:Int))=(((if v < 0 then (v+(n:Int)).toNat else min v.toNat n):Nat):Int)
 by_cases hv:v < 0
 ·simp only [if_pos hv]; omega
 ·simp only [if_neg hv]; omega
theorem p6 (lo hi:Option Int) (n:Nat):Builtin.Slice.sliceAdjust lo hi 1 (n:Int)=(((sIx n 0 lo:Nat):Int),((sIx n n hi:Nat):Int)):=by
 have h1:¬ ((1:Int) < 0):=by omega
 unfold Builtin.Slice.sliceAdjust
 simp only [h1,if_false]
 refine Prod.ext ?_ ?_
 ·cases lo with
  | none=>rfl
  | some v=>exact oK v n 0
 ·cases hi with
  | none=>rfl
  | some v=>exact oK v n n
theorem pb (i j:Nat):Builtin.Slice.slicePlaces (i:Int) (j:Int) 1=j - i:=by
 unfold Builtin.Slice.slicePlaces
 have h1:(1:Int) > 0:=by omega
 simp only [h1,if_true,Int.ediv_one]
 split <;> omega
theorem kt {v:Value} {o:Option Int} {Q:Option Int→Shared→Prop} (p:IsPart v o) (h:Q o s):wpAny (model prog w) A (Builtin.Slice.slicePartIndex v) Q E s:=by
 cases p with
 | none=>exact slicePart_none h
 | int i t=>exact slicePart_int h
theorem fP {sl:Addr} {vl vu:Value} {lo hi:Option Int} {n:Nat} {Q:Int × Int × Nat→Shared→Prop} (hs:s.heap.IsSliceOf sl vl vu .none) (pl:IsPart vl lo) (pu:IsPart vu hi)
  (h:Q (((sIx n 0 lo:Nat):Int),1,sIx n n hi - sIx n 0 lo) s):wpAny (model prog w) A (Builtin.Slice.sliceApplied (.ref sl) (pure (n:Int))) Q E s:=by
 obtain ⟨os,hos,hcs,hds⟩:=id hs
 unfold Builtin.Slice.sliceApplied Builtin.Slice.sliceFields
 refine wpAny_bind (wpAny_bind (wpAny_field hos hds (x:=vl) rfl (wpAny_bind (wpAny_field hos hds (x:=vu) rfl (wpAny_bind (wpAny_field hos hds (x:=.none) rfl (wpAny_pure ?_)))))))
 refine wpAny_bind (slicePart_none ?_)
 show wpAny _ _ (if ((1:Int) == 0)=true then _ else _) _ _ s
 rw [if_neg (by decide)]
 refine wpAny_bind (kt pl (wpAny_bind (kt pu (wpAny_bind (wpAny_pure ?_)))))
 show wpAny _ _ (match Builtin.Slice.sliceAdjust lo hi 1 (n:Int) with | (lo,hi)=>pure (lo,(1:Int),Builtin.Slice.slicePlaces lo hi 1)) _ _ s
 rw [p6 lo hi n]
 show wpAny _ _ (pure (((sIx n 0 lo:Nat):Int),(1:Int),Builtin.Slice.slicePlaces ((sIx n 0 lo:Nat):Int) ((sIx n n hi:Nat):Int) 1)) _ _ s
 rw [pb]
 exact wpAny_pure h
theorem sk (xs:Array Value) (i k:Nat):((List.range k).filterMap fun (m:Nat)=>xs[((i:Int)+(m:Int) * 1).toNat]?).toArray=((xs.toList.drop i).take k).toArray:=by
 have e:(fun (m:Nat)=>xs[((i:Int)+(m:Int) * 1).toNat]?)=fun m=>xs[i+m]?:=by
  funext m
  have:((i:Int)+(m:Int) * 1).toNat=i+m:=by omega
  rw [this]
 rw [e]
 have:=pick_run xs i k
 rw [List.filterMap_map] at this
 have e2:((fun x=>xs[x]?) ∘ fun x=>i+x)=fun m=>xs[i+m]?:=rfl
 rw [e2] at this
 rw [this]
theorem getItem_tuple_cut {t sl:Addr} {items:Array Value} {vl vu:Value} {lo hi:Option Int} {Q:Value→Shared→Prop} (ht:IsTup s.heap t items) (hs:s.heap.IsSliceOf sl vl vu .none) (pl:IsPart vl lo) (pu:IsPart vu hi)
  (hw:¬ (sIx items.size 0 lo=0∧sIx items.size items.size hi=items.size))
  (h:Q (.ref s.heap.objs.size) { s with heap:=s.heap.push { cls:=.type "tuple",data:=.seq ((items.toList.drop (sIx items.size 0 lo)).take (sIx items.size items.size hi - sIx items.size 0 lo)).toArray } })
  (hsz:items.size≤sizeLine):wpAny (model prog w) A (getItem (.ref t) (.ref sl)) Q E s:=by
 have htake:sizeOk (.seq ((items.toList.drop (sIx items.size 0 lo)).take (sIx items.size items.size hi - sIx items.size 0 lo)).toArray):=by
  show ((items.toList.drop (sIx items.size 0 lo)).take (sIx items.size items.size hi - sIx items.size 0 lo)).toArray.size≤sizeLine
  rw [List.size_toArray,List.length_take,List.length_drop,Array.length_toList]
  omega
 have hj:sIx items.size items.size hi≤items.size:=mO _ _ (Nat.le_refl _) hi
 obtain ⟨os,hos,hcs,hds⟩:=id hs
 have hTs:s.TypeIs (.ref sl) "slice":=⟨os,hos,hcs⟩
 unfold getItem
 try with_reducible refine wpAny_holding ?_
 first | refine wpAny_bind (wpAny_pure ?_) | skip
 refine wpAny_bind (wpAny_sequenceKey ht.typeIs (by decide) ?_)
 refine wpAny_bind (wpAny_callSpecial?_slot (name:=Str.ofString "__getitem__") ht.typeIs PyProof.Rows.slot_tuple_getitem
  (wpAny_call_entry PyProof.Rows.slot_tuple_getitem ht.typeIs entry_tuple_getitem ?_ (args_tuple_getitem _ _)))
 show wpAny _ _ (Builtin.Tuple.tupleItemsOf (.ref t) >>= _) _ _ s
 refine wpAny_bind (tupleItemsOf_ ht ?_)
 refine wpAny_bind (wpAny_typeOf hTs ?_)
 rw [if_pos (by decide)]
 refine wpAny_bind (fP hs pl pu ?_)
 have hno:¬ ((((sIx items.size 0 lo:Nat):Int) == 0 && (1:Int) == 1 && (sIx items.size items.size hi - sIx items.size 0 lo) == items.size)=true):=by
  intro q
  rw [Bool.and_eq_true,Bool.and_eq_true] at q
  have q1:((sIx items.size 0 lo:Nat):Int)=0:=eq_of_beq q.1.1
  have q2:sIx items.size items.size hi - sIx items.size 0 lo=items.size:=eq_of_beq q.2
  exact hw ⟨by omega,by omega⟩
 show wpAny _ _ (if (((sIx items.size 0 lo:Nat):Int) == 0 && (1:Int) == 1 && (sIx items.size items.size hi - sIx items.size 0 lo) == items.size)=true then _ else _) _ _ s
 rw [if_neg hno,sk]
 first
  | exact wpAny_bind (m:=Builtin.Tuple.tupleExact _) (wpAny_newObj_type (wpAny_pure ⟨_,rfl,wpAny_pure h⟩) htake)
  | exact wpAny_bind (m:=Builtin.Tuple.tupleExact _) (wpAny_newObj_type (wpAny_bind (wpAny_pure (wpAny_pure ⟨_,rfl,wpAny_pure h⟩))) htake)
  | exact wpAny_bind (wpAny_bind (m:=Builtin.Tuple.tupleExact _) (wpAny_newObj_type (wpAny_pure (wpAny_pure ⟨_,rfl,wpAny_pure h⟩)) htake))
  | exact wpAny_bind (wpAny_bind (m:=Builtin.Tuple.tupleExact _) (wpAny_newObj_type (wpAny_pure ⟨_,rfl,wpAny_pure h⟩) htake))
end
end HT
namespace L2
open PySem PySem.Spec PyProof.Rows
abbrev TO:=St→Hp→(Option Int→Hp→Prop)→Prop
def PO (X:Cx) (e:Option Expr) (t:TO):Prop :=
 ∀ (pins:List (Addr × Obj)) (s:Shared) (σ:St) (H:Hp) (Q:Option Int→Hp→Prop),Inv X pins σ H s→t σ H Q →
  wpAny (model X.prog X.w) X.A (evalPart e X.env) (fun u s'=>∃ o H',Inv X pins σ H' s'∧IsPart u o∧Q o H') X.xe s
def zx:TO:=fun _ H Q=>Q none H
def Ez (t:TE):TO:=fun σ H Q=>t σ H fun x H1=>∃ i,x=.int i∧Q (some i) H1
theorem pL {ns:List Int}:∀ {us:List Value},Vals (ns.map V.int) us→IntsAre us ns:=by
 induction ns with
 | nil=>intro us r; rw [List.map_nil] at r; cases r; exact .nil
 | cons n ns ih =>
  intro us r
  rw [List.map_cons] at r
  cases r with
  | cons r1 r2 =>
   obtain ⟨t,e⟩:=r1
   subst e
   exact .cons n t (ih r2)
section
variable {X:Cx} {e:Expr} {te:TE} {lo hi:Option Expr} {tl th:TO} {pos p2:Pos}
theorem po_none:PO X none zx:=by
 intro pins s σ H Q I h
 rw [evalPart_none]
 exact wpAny_pure ⟨none,H,I,.none,h⟩
theorem zI (h:PE X e te):PO X (some e) (Ez te):=by
 intro pins s σ H Q I hw
 rw [evalPart_some]
 refine thn (h pins s σ H _ I hw) fun u s1 ⟨x,H1,I1,r1,q1⟩=>?_
 obtain ⟨i,rfl,q⟩:=q1
 obtain ⟨t,rfl⟩:=r1
 exact ⟨some i,H1,I1,.int i t,q⟩
def SlR (X:Cx) (r:V→Option Int→Option Int→Hp→VK→Prop):Prop :=
 ∀ (pins:List (Addr × Obj)) (s:Shared) (σ:St) (H:Hp) (x:V) (v vl vu:Value) (lo hi:Option Int) (sl:Addr) (Q:VK),Inv X pins σ H s→RelV x v→s.heap.IsSliceOf sl vl vu .none→IsPart vl lo→IsPart vu hi→r x lo hi H Q →
  ∃ T id,typeLookup (.type T) "__getitem__"=pure (some (.builtin id))∧s.TypeIs v T∧wpAny (model X.prog X.w) X.A (getItem v (.ref sl)) (EP X pins σ Q) X.xe s
def tSl (r:V→Option Int→Option Int→Hp→VK→Prop) (te:TE) (tl th:TO):TE:=fun σ H Q=>te σ H fun x H1=>tl σ H1 fun l H2=>th σ H2 fun u H3=>r x l u H3 Q
theorem sn {r:V→Option Int→Option Int→Hp→VK→Prop} (hr:SlR X r) (he:PE X e te) (hl:PO X lo tl) (hu:PO X hi th):PE X (.Subscript e (.Slice lo hi none p2) pos) (tSl r te tl th):=by
 intro pins s σ H Q I h
 refine Subscript_ (thn (he pins s σ H _ I h) fun v s1 ⟨x,H1,I1,r1,q1⟩=>?_)
 refine wpAny_Slice (thn (hl pins s1 σ H1 _ I1 q1) fun vl s2 ⟨l,H2,I2,pl,q2⟩=>thn (hu pins s2 σ H2 _ I2 q2) fun vu s3 ⟨u,H3,I3,pu,q3⟩=>?_)
 rw [evalPart_none]
 refine wpAny_pure ?_
 have I4:Inv X pins σ H3 { s3 with heap:=s3.heap.push { cls:=.type "slice",data:=.fields #[vl,vu,.none] } }:=I3.kept (t':=s3.toks) fun b ob q=>Heap.get?_push_of_some _ q
 obtain ⟨T,id,hT,ht,hg⟩:=hr pins { s3 with heap:=s3.heap.push { cls:=.type "slice",data:=.fields #[vl,vu,.none] } } σ H3 x v vl vu l u s3.heap.objs.size Q I4 r1 (Heap.IsSliceOf.new ..) pl pu q3
 show wpAny (model X.prog X.w) X.A (subscriptTail e (.Slice lo hi none p2) v (.ref s3.heap.objs.size)) (EP X pins σ Q) X.xe { s3 with heap:=s3.heap.push { cls:=.type "slice",data:=.fields #[vl,vu,.none] } }
 exact tail_any (ops:=[.ref s3.heap.objs.size,v]) ht hT hg (by with_unfolding_all rfl)
def ju (xs:List V) (lo hi:Option Int):List V:=(xs.drop (HT.sIx xs.length 0 lo)).take (HT.sIx xs.length xs.length hi - HT.sIx xs.length 0 lo)
theorem jU (xs:List V) (lo hi:Option Int):(ju xs lo hi).length≤xs.length:=by
 unfold ju
 rw [List.length_take,List.length_drop]
 omega
def CQ (K:PySem.W.Frag):V→Option Int→Option Int→Hp→VK→Prop:=fun x lo hi H Q=>∃ a xs,x=.ref a∧SqT K H a xs ∧
 ¬ (HT.sIx xs.length 0 lo=0∧HT.sIx xs.length xs.length hi=xs.length)∧∀ p,H p=none→Q (.ref p) (upd H p (.tup (ju xs lo hi)))
theorem CM:SlR X (CQ X.K):=by
 intro pins s σ H x v vl vu lo hi sl Q I rx hs pl pu h
 obtain ⟨a,xs,rfl,hx,hw,q⟩:=h
 cases rx
 obtain ⟨its,r,ht,hz⟩:=I.tuple hx
 have hlen:its.toArray.size=xs.length:=by rw [List.size_toArray]; exact r.length.symm
 refine ⟨"tuple",_,PyProof.Rows.slot_tuple_getitem.lookup,ht.typeIs,?_⟩
 refine HT.getItem_tuple_cut ht hs pl pu (by rw [hlen]; exact hw) ?_ (by rw [hlen]; exact hz)
 rw [hlen]
 refine ⟨.ref s.heap.objs.size,_,I.laid (t':=s.toks) (o:=.tup (ju xs lo hi)) (fun b ob q=>Heap.get?_push_of_some _ q) (Nat.le_refl _) ?_,rfl,q _ (I.hok.fresh (Nat.le_refl _))⟩
 exact ⟨Nat.le_trans (jU xs lo hi) hz,_,(r.drop (HT.sIx xs.length 0 lo)).take (HT.sIx xs.length xs.length hi - HT.sIx xs.length 0 lo),IsTupN.new _ _⟩
def yX (K:PySem.W.Frag):R2:=fun x y H Q=>∃ a b xs ys,x=.ref a∧y=.ref b∧SqT K H a xs∧SqT K H b ys∧xs≠[]∧xs.length+ys.length≤sizeLine ∧
 (ys=[]→Q (.ref a) H)∧(ys≠[]→∀ p,H p=none→Q (.ref p) (upd H p (.tup (xs++ys))))
theorem Vals.nil_iff {xs:List V} {us:List Value} (r:Vals xs us):us=[]↔xs=[]:=by
 cases r with
 | nil=>simp
 | cons _ _=>simp
theorem zQ:OpR X (binaryOp .Add) (yX X.K):=by
 intro pins s σ H x y v u Q I rx ry h
 obtain ⟨a,b,xs,ys,rfl,rfl,ha,hb,hx,hz,q1,q2⟩:=h
 cases rx
 cases ry
 obtain ⟨its,r1,p1,_⟩:=I.tuple ha
 obtain ⟨its2,r2,p2,_⟩:=I.tuple hb
 refine HT.cat_tup p1 p2 (fun z=>hx (r1.nil_iff.mp z)) (fun z=>⟨.ref a,H,I,rfl,q1 (r2.nil_iff.mp z)⟩) (fun z=>?_) (by rw [← r1.length,← r2.length]; exact hz)
 refine ⟨.ref s.heap.objs.size,_,I.laid (t':=s.toks) (o:=.tup (xs++ys)) (fun b ob q=>Heap.get?_push_of_some _ q) (Nat.le_refl _) ?_,rfl,q2 (fun w=>z (r2.nil_iff.mpr w)) _ (I.hok.fresh (Nat.le_refl _))⟩
 exact ⟨by rw [List.length_append]; exact hz,_,r1.append r2,IsTupN.new _ _⟩
end
end L2
namespace L2
open PySem PySem.Spec PyProof.Rows
def ixN (n:Nat) (i:Int):Option Nat:=if 0≤i then (if i < n then some i.toNat else none) else if -(n:Int)≤i then some (i+n).toNat else none
def atI {α:Type} (xs:List α) (i:Int):Option α:=(ixN xs.length i).bind fun j=>xs[j]?
theorem oC {n:Nat} {i:Int} {j:Nat} (h:ixN n i=some j):seqIndex? i n=some j∧j < n∧-(n:Int)≤i∧i < n:=by
 unfold ixN at h
 by_cases h0:0≤i
 ·rw [if_pos h0] at h
  by_cases h1:i < n
  ·rw [if_pos h1] at h
   have e:i.toNat=j:=Option.some.inj h
   exact ⟨by rw [seqIndex_of h0 h1,e],by omega,by omega,h1⟩
  ·rw [if_neg h1] at h; cases h
 ·rw [if_neg h0] at h
  by_cases h1:-(n:Int)≤i
  ·rw [if_pos h1] at h
   have e:(i+n).toNat=j:=Option.some.inj h
   exact ⟨by rw [seqIndex_neg (by omega) h1,e],by omega,h1,by omega⟩
  ·rw [if_neg h1] at h; cases h
theorem lJ {α:Type} {xs:List α} {i:Int} {v:α} (h:atI xs i=some v):∃ j,seqIndex? i xs.length=some j∧xs[j]?=some v∧j < xs.length∧-(xs.length:Int)≤i∧i < xs.length:=by
 unfold atI at h
 cases e:ixN xs.length i with
 | none=>rw [e] at h; cases h
 | some j =>
  rw [e] at h
  obtain ⟨h1,h2,h3,h4⟩:=oC e
  exact ⟨j,h1,h,h2,h3,h4⟩
def eP (b:Expr):Prop:=∀ o i,subscripted b false o i=operate [o,i] (getItem o i)
def IxR (X:Cx) (r:R2):Prop :=
 ∀ (value slice:Expr) (pins:List (Addr × Obj)) (s:Shared) (σ:St) (H:Hp) (x y:V) (v u:Value) (Q:VK),Inv X pins σ H s→RelV x v→RelV y u→r x y H Q →
  subscripted slice false v u=operate [v,u] (getItem v u)→wpAny (model X.prog X.w) X.A (subscriptTail value slice v u) (EP X pins σ Q) X.xe s
def MtR (X:Cx) (id:String) (r:V→List V→Hp→VK→Prop):Prop :=
 ∀ (pins:List (Addr × Obj)) (s:Shared) (σ:St) (H:Hp) (x:V) (xs:List V) (v:Value) (us:List Value) (Q:VK),Inv X pins σ H s→RelV x v→Vals xs us→r x xs H Q →
  wpAny (model X.prog X.w) X.A (call (.builtin id) (v :: us)) (EP X pins σ Q) X.xe s
section
variable {X:Cx} {a b:Expr} {ta tb:TE} {pos:Pos}
theorem IxR.or {r r':R2} (h:IxR X r) (h':IxR X r'):IxR X (fun x y H Q=>r x y H Q∨r' x y H Q):=by
 intro value slice pins s σ H x y v u Q I rx ry q hs
 rcases q with q | q
 ·exact h value slice pins s σ H x y v u Q I rx ry q hs
 ·exact h' value slice pins s σ H x y v u Q I rx ry q hs
theorem pc {r:R2} (hr:IxR X r) (ha:PE X a ta) (hb:PE X b tb) (hs:eP b):PE X (.Subscript a b pos) (tOp r ta tb):=by
 intro pins s σ H Q I h
 exact Subscript_ (tQ ha hb I h fun v u s2 x y H2 I2 rx ry q=>hr a b pins s2 σ H2 x y v u Q I2 rx ry q (hs _ _))
def oZ (K:PySem.W.Frag):R2:=fun x y H Q=>∃ p xs i v,x=.ref p∧y=.int i∧SqL K H p xs∧atI xs i=some v∧Q v H
def CT (K:PySem.W.Frag):R2:=fun x y H Q=>∃ p xs i v,x=.ref p∧y=.int i∧SqT K H p xs∧atI xs i=some v∧Q v H
def CU:R2:=fun x y H Q=>∃ z i c,x=.str z∧y=.int i∧z.length≤sizeLine∧atI z.cps.toList i=some c∧Q (.str ⟨#[c]⟩) H
theorem ix_list:IxR X (oZ X.K):=by
 intro value slice pins s σ H x y v u Q I rx ry h hs
 obtain ⟨p,xs,i,z,rfl,rfl,hq,he,q⟩:=h
 cases rx
 obtain ⟨t,rfl⟩:=ry
 obtain ⟨its,r,pl,hz⟩:=I.list hq
 obtain ⟨j,h1,h2,h3,h4,h5⟩:=lJ he
 obtain ⟨w,ew,rw'⟩:=r.get h2
 have hl:=r.length
 have hn:=hW
 have fin:EP X pins σ Q w s:=⟨z,H,I,rw',q⟩
 by_cases h0:0≤i
 ·have hj:i.toNat=j:=by
   rw [seqIndex_of h0 h5] at h1
   exact Option.some.inj h1
  exact item_listR pl.isList h0 (by omega) (by rw [hj]; simpa using ew) fin hs
 ·have hj:(i+(its.toArray.size:Int)).toNat=j:=by
   rw [seqIndex_neg (by omega) h4] at h1
   rw [List.size_toArray,← hl]
   exact Option.some.inj h1
  exact subscriptTail_builtinR (x:=w) pl.isList.typeIs slot_list_getitem.lookup
   (wpAny_getItem_list_neg (Q:=fun r s'=>r=w∧EP X pins σ Q r s') pl.isList (by omega) (by rw [List.size_toArray] <;> omega) (by omega) (by rw [hj]; simpa using ew) ⟨rfl,fin⟩) hs
theorem ix_tup:IxR X (CT X.K):=by
 intro value slice pins s σ H x y v u Q I rx ry h hs
 obtain ⟨p,xs,i,z,rfl,rfl,hq,he,q⟩:=h
 cases rx
 obtain ⟨t,rfl⟩:=ry
 obtain ⟨its,r,pl,hz⟩:=I.tuple hq
 obtain ⟨j,h1,h2,h3,h4,h5⟩:=lJ he
 obtain ⟨w,ew,rw'⟩:=r.get h2
 have hl:=r.length
 have hn:=hW
 have fin:EP X pins σ Q w s:=⟨z,H,I,rw',q⟩
 exact subscriptTail_builtinR (x:=w) pl.typeIs slot_tuple_getitem.lookup
  (getItem_tuple (j:=j) (Q:=fun r s'=>r=w∧EP X pins σ Q r s') pl (by omega) (by omega) (by rw [List.size_toArray,← hl]; exact h1) (by simpa using ew) ⟨rfl,fin⟩) hs
theorem ix_str:IxR X CU:=by
 intro value slice pins s σ H x y v u Q I rx ry h hs
 obtain ⟨z,i,c,rfl,rfl,hz,he,q⟩:=h
 obtain ⟨t,rfl⟩:=rx
 obtain ⟨t',rfl⟩:=ry
 obtain ⟨j,h1,h2,h3,h4,h5⟩:=lJ he
 have hl:z.cps.toList.length=z.length:=by simp [Str.length]
 rw [hl] at h1 h4 h5
 have hn:=hW
 exact tail_any (typeIs_str s z t) slot_str_getitem.lookup (getItem_str (c:=c) (by
  have e1:decide (i < -(2 ^ 63:Int))=false:=decide_eq_false (by omega)
  have e2:decide (i ≥ 2 ^ 63)=false:=decide_eq_false (by omega)
  rw [e1,e2,Bool.or_false]) (by rw [h1]; simpa using h2) ⟨.str ⟨#[c]⟩,H,I.tok _,⟨_,rfl⟩,q⟩) hs
def rIx (K:PySem.W.Frag):R2:=fun x y H Q=>oZ K x y H Q∨CT K x y H Q∨CU x y H Q
theorem ix_seq:IxR X (rIx X.K):=ix_list.or (ix_tup.or ix_str)
theorem pq (its:List Value) (n j:Nat) (u:Value):Obj.mapSeq (·.setIfInBounds j u) { cls:=.type "list",data:=.seq its.toArray n }={ cls:=.type "list",data:=.seq (its.set j u).toArray n }:=by
 simp [Obj.mapSeq]
theorem Inv.lst {pins:List (Addr × Obj)} {σ:St} {H:Hp} {s:Shared} {p:Addr} {xs:List V} (I:Inv X pins σ H s) (h:H p=some (.lst xs)) :
  ∃ (its:List Value) (n:Nat),Vals xs its∧s.heap.get? p=some { cls:=.type "list",data:=.seq its.toArray n }∧xs.length≤sizeLine:=by
 obtain ⟨z,its,n,r,e⟩:=I.hok p _ h
 exact ⟨its,n,r,e,z⟩
theorem Inv.lstUpd {pins:List (Addr × Obj)} {σ:St} {H:Hp} {s:Shared} {p:Addr} {xs ys:List V} {its its':List Value} {n n':Nat} {f:Obj→Obj} (I:Inv X pins σ H s) (h:H p=some (.lst xs))
  (ho:s.heap.get? p=some { cls:=.type "list",data:=.seq its.toArray n }) (hf:f { cls:=.type "list",data:=.seq its.toArray n }={ cls:=.type "list",data:=.seq its'.toArray n' }) (r:Vals ys its') (hz:ys.length≤sizeLine) (t:Nat) :
  Inv X pins σ (upd H p (.lst ys)) { s with heap:=s.heap.update p f,toks:=t }:=by
 have e:(s.heap.update p f).get? p=some { cls:=.type "list",data:=.seq its'.toArray n' }:=by
  rw [Heap.get?_update_self f ho (by rw [hf] <;> rfl),hf]
 refine I.write (x:=p) (e:=p) (by rw [h]; trivial) (.inl rfl) (fun b u hb q=>(Heap.get?_update_other _ _ (Ne.symm hb)).trans q) ⟨_,e⟩ ?_
 exact ⟨hz,its',n',r,e⟩
def yU:V→V→V→Hp→(Hp→Prop)→Prop:=fun o i v H Q=>∃ p xs k j,o=.ref p∧i=.int k∧H p=some (.lst xs)∧ixN xs.length k=some j∧Q (upd H p (.lst (xs.set j v)))
theorem se:Ev X yU:=by
 intro pins s σ H o i v ov iv u Q I ro ri rv h
 obtain ⟨p,xs,k,j,rfl,rfl,hp,hj,q⟩:=h
 cases ro
 obtain ⟨t,rfl⟩:=ri
 obtain ⟨its,n,r,ho,hz⟩:=I.lst hp
 obtain ⟨h1,h2,h3,h4⟩:=oC hj
 have hl:=r.length
 have hn:=hW
 have I':Inv X pins σ (upd H p (.lst (xs.set j v))) { s with heap:=s.heap.update p (Obj.mapSeq (·.setIfInBounds j u)) } :=
  I.lstUpd hp ho (pq its n j u) (r.set rv j) (by rw [List.length_set]; exact hz) s.toks
 by_cases h0:0≤k
 ·have hk:k.toNat=j:=by
   rw [seqIndex_of h0 h4] at h1
   exact Option.some.inj h1
  exact PySem.W.ki_setAt ho h0 (by omega) (by rw [List.size_toArray,← hl]; exact h4) (by rw [hk]; exact ⟨_,I',q⟩)
 ·have hk:(k+(its.toArray.size:Int)).toNat=j:=by
   rw [seqIndex_neg (by omega) h3] at h1
   rw [List.size_toArray,← hl]
   exact Option.some.inj h1
  exact PySem.W.ki_setBack ho (by omega) (by rw [List.size_toArray,← hl]; exact h3) (by omega) (by rw [hk]; exact ⟨_,I',q⟩)
theorem i9 (lo hi:Option Int) (n:Nat):(sliceBounds lo hi none n).1=((HT.sIx n 0 lo:Nat):Int)∧(sliceBounds lo hi none n).2.1=((HT.sIx n n hi:Nat):Int)∧(sliceBounds lo hi none n).2.2=1:=by
 refine ⟨?_,?_,rfl⟩
 ·cases lo with
  | none=>simp [sliceBounds,HT.sIx]
  | some i =>
   simp only [sliceBounds,HT.sIx,Option.getD_none,show (1:Int) > 0 by decide,if_true]
   by_cases h:i < 0
   ·simp only [h,if_true] <;> omega
   ·simp only [h,if_false] <;> omega
 ·cases hi with
  | none=>simp [sliceBounds,HT.sIx]
  | some i =>
   simp only [sliceBounds,HT.sIx,Option.getD_none,show (1:Int) > 0 by decide,if_true]
   by_cases h:i < 0
   ·simp only [h,if_true] <;> omega
   ·simp only [h,if_false] <;> omega
theorem mq (its:List Value) (lo hi:Option Int):slicePick its.toArray lo hi none=((its.drop (HT.sIx its.length 0 lo)).take (HT.sIx its.length its.length hi - HT.sIx its.length 0 lo)).toArray:=by
 obtain ⟨h1,h2,h3⟩:=i9 lo hi its.toArray.size
 unfold slicePick
 rw [h1,h2,h3]
 simp only [sliceRange_one,pick_run,List.size_toArray] <;> rfl
def Fs (K:PySem.W.Frag):V→Option Int→Option Int→Hp→VK→Prop:=fun x lo hi H Q=>∃ a xs,x=.ref a∧SqL K H a xs∧∀ p,H p=none→Q (.ref p) (upd H p (.lst (ju xs lo hi)))
theorem FI:SlR X (Fs X.K):=by
 intro pins s σ H x v vl vu lo hi sl Q I rx hs pl pu h
 obtain ⟨a,xs,rfl,hx,q⟩:=h
 cases rx
 obtain ⟨its,r,ht,hz⟩:=I.list hx
 have hlen:=r.length
 refine ⟨"list",_,slot_list_getitem.lookup,ht.isList.typeIs,?_⟩
 refine wpAny_getItem_list_slice ht.isList hs pl pu .none (by simp) ?_ (by rw [List.size_toArray] <;> omega)
 rw [mq,← hlen]
 refine ⟨.ref s.heap.objs.size,_,I.laid (t':=s.toks) (o:=.lst (ju xs lo hi)) (fun b ob q=>Heap.get?_push_of_some _ q) (Nat.le_refl _) ?_,rfl,q _ (I.hok.fresh (Nat.le_refl _))⟩
 exact ⟨Nat.le_trans (jU xs lo hi) hz,_,0,(r.drop (HT.sIx xs.length 0 lo)).take (HT.sIx xs.length xs.length hi - HT.sIx xs.length 0 lo),Heap.get?_push_size _ rfl⟩
theorem nB:CallR X (.type "list") (fun xs H Q=>∃ p ys,xs=[.ref p]∧(SqL X.K H p ys∨SqT X.K H p ys)∧∀ l,H l=none→Q (.ref l) (upd H l (.lst ys))):=by
 intro pins s σ H xs us Q I r h
 obtain ⟨p,ys,rfl,hq,q⟩:=h
 obtain ⟨u,rfl,rx⟩:=cX r
 cases rx
 have fin:∀ (its:List Value),Vals ys its→ys.length≤sizeLine→∀ (h':Heap) (c':Nat),(∀ b o',s.heap.get? b=some o'→h'.get? b=some o') →
   h'.get? s.heap.objs.size=some { cls:=.type "list",dict:=none,data:=.seq its.toArray c',slots:=#[] }→EP X pins σ Q (.ref s.heap.objs.size) { s with heap:=h' }:=fun its r' hz h' c' kp e =>
  ⟨.ref s.heap.objs.size,_,I.laid (t':=s.toks) kp (Nat.le_refl _) (show ObjOk X.prog X.w _ h' _ (.lst ys) from ⟨hz,its,c',r',e⟩),rfl,q _ (I.hok.fresh (Nat.le_refl _))⟩
 rcases hq with hq | hq
 ·obtain ⟨its,r',pl,hz⟩:=I.list hq
  have hlen:=r'.length
  obtain ⟨o,ho,hc,n,hd⟩:=pl.isList
  exact call_list_seq p (.inl rfl) ho hc hd (fun h' c' kp e=>fin its r' hz h' c' kp e) (by simp only [List.size_toArray] <;> omega)
 ·obtain ⟨its,r',pl,hz⟩:=I.tuple hq
  have hlen:=r'.length
  obtain ⟨o,ho,hc,n,hd⟩:=pl
  exact call_list_seq p (.inr rfl) ho hc hd (fun h' c' kp e=>fin its r' hz h' c' kp e) (by simp only [List.size_toArray] <;> omega)
theorem mt:CallR X (.type "tuple") (fun xs H Q=>∃ p ys,xs=[.ref p]∧((SqL X.K H p ys∧∀ l,H l=none→Q (.ref l) (upd H l (.tup ys)))∨(SqT X.K H p ys∧Q (.ref p) H))):=by
 intro pins s σ H xs us Q I r h
 obtain ⟨p,ys,rfl,h⟩:=h
 obtain ⟨u,rfl,rx⟩:=cX r
 cases rx
 rcases h with ⟨hq,q⟩ | ⟨hq,q⟩
 ·obtain ⟨its,r',pl,hz⟩:=I.list hq
  have hlen:=r'.length
  refine call_tuple_list pl.isList (fun h' kp=>?_) (by simp only [List.size_toArray] <;> omega)
  have I1:Inv X pins σ H { s with heap:=h' }:=I.kept (t':=s.toks) kp
  have I2:Inv X pins σ (upd H h'.objs.size (.tup ys)) { s with heap:=h'.push { cls:=.type "tuple",data:=.seq its.toArray } } :=
   I1.laid (t':=s.toks) (fun b o e=>Heap.get?_push_of_some _ e) (Nat.le_refl _) (show ObjOk X.prog X.w _ _ _ (.tup ys) from ⟨hz,its,r',IsTupN.new _ _⟩)
  exact ⟨.ref h'.objs.size,_,I2,rfl,q _ (I1.hok.fresh (Nat.le_refl _))⟩
 ·obtain ⟨its,r',pl,hz⟩:=I.tuple hq
  exact call_tuple_same pl ⟨.ref p,H,I,rfl,q⟩
def tyV (K:PySem.W.Frag) (T:String) (x:V) (H:Hp):Prop:=match x with
 | .str _=>T="str"
 | .int _=>T="int"
 | .ref p=>(T="list"∧∃ xs,SqL K H p xs)∨(T="tuple"∧∃ o,K.lookup p=some o∧o.cls=.type "tuple"∧o.dict=none) ∨
   (T="dict"∧((∃ kvs,H p=some (.dK kvs))∨∃ kvs,H p=some (.dT kvs)))∨(T="set"∧∃ S n,H p=some (.set S n))
 | _=>False
theorem Cy {pins:List (Addr × Obj)} {σ:St} {H:Hp} {s:Shared} {T:String} {x:V} {v:Value} (I:Inv X pins σ H s) (r:RelV x v) (ty:tyV X.K T x H) :
  s.TypeIs v T∧∀ a,v=.ref a→∃ ob,s.heap.get? a=some ob∧ob.dict=none:=by
 cases x with
 | str z =>
  obtain ⟨t,rfl⟩:=r
  cases (show T="str" from ty)
  exact ⟨typeIs_str s z t,fun _ e=>nomatch e⟩
 | int i =>
  obtain ⟨t,rfl⟩:=r
  cases (show T="int" from ty)
  exact ⟨typeIs_int s i t,fun _ e=>nomatch e⟩
 | ref p =>
  cases r
  rcases ty with ⟨rfl,xs,hq⟩ | ⟨rfl,o,hk,hc,hd⟩ | ⟨rfl,hk⟩ | ⟨rfl,S,n,hk⟩
  ·obtain ⟨its,_,pl,_⟩:=I.list hq
   refine ⟨pl.isList.typeIs,fun a e=>?_⟩
   cases e
   obtain ⟨o,n,e,c,hd,_⟩:=pl
   exact ⟨o,e,hd⟩
  ·refine ⟨⟨o,I.kIn p o hk,hc⟩,fun a e=>?_⟩
   cases e
   exact ⟨o,I.kIn _ o hk,hd⟩
  ·have z:∃ o,s.heap.get? p=some o∧o.ExactDict:=by
    rcases hk with ⟨kvs,hk⟩ | ⟨kvs,hk⟩
    ·obtain ⟨_,_,_,_,o,_,_,e,ex,_⟩:=I.hok p _ hk
     exact ⟨o,e,ex⟩
    ·obtain ⟨_,_,_,_,o,_,_,e,ex,_⟩:=I.hok p _ hk
     exact ⟨o,e,ex⟩
   obtain ⟨o,e,ex⟩:=z
   refine ⟨⟨o,e,ex.1⟩,fun a e2=>?_⟩
   cases e2
   exact ⟨o,e,ex.2.1⟩
  ·obtain ⟨o,_,_,_,e,ex,_⟩:=I.hok p _ hk
   refine ⟨⟨o,e,ex.1⟩,fun a e2=>?_⟩
   cases e2
   exact ⟨o,e,ex.2.1⟩
 | _=>exact False.elim ty
def tBM (K:PySem.W.Frag) (T:String) (r:V→List V→Hp→VK→Prop) (to:TE) (t:TA):TE:=fun σ H Q=>to σ H fun x H1=>tyV K T x H1∧t σ H1 fun xs H2=>r x xs H2 Q
variable {o e:Expr} {es:List Expr} {to:TE} {t:TA} {name:Str} {apos cpos:Pos} {T id:String} {r:V→List V→Hp→VK→Prop}
theorem yZ (pa:PlainAttrs T) (slot:Slot T name id) (hty:typeOf (.builtin id)=pure (.type "method_descriptor")) (hm:MtR X id r) (ho:PE X o to) (ha:PA X (e :: es) t)
  (hbase:attributeBase o name X.env (eval o X.env)=eval o X.env:=by rfl)
  (hfew:((backTo cpos (starEach (e :: es) X.env)).all (fun x=>!x.1) && (backToKw cpos (keywordEach [] X.env)).all (fun x=>x.1.isSome)
   && decide ((e :: es).length+([]:List Keyword).length+(if ([]:List Keyword).isEmpty then 0 else 1) < 30))=true:=by rfl)
  (hline:(apos.endLine == cpos.line)=true:=by rfl) (hs:starEach (e :: es) X.env=(false,eval e X.env) :: starEach es X.env:=by rfl) (hplain:(backTo cpos (starEach es X.env)).any (·.1)=false:=by rfl) :
  PE X (.Call (.Attribute o name apos) (e :: es) [] cpos) (tBM X.K T r to t):=by
 intro pins s σ H Q I h
 refine wpAny_Call_method_late hbase hfew hline rfl (thn (ho pins s σ H _ I h) fun v s1 ⟨x,H1,I1,r1,ty,q1⟩=>?_)
 obtain ⟨h1,h2⟩:=Cy I1 r1 ty
 refine ⟨T,id,pa,slot,hty,h1,h2,?_⟩
 have hA:=ha cpos pins s1 σ H1 _ I1 q1
 rw [hs] at hA ⊢
 refine Calls.callWith_builtin (by show (false || (backTo cpos (starEach es X.env)).any (·.1))=false; rw [hplain] <;> rfl) (Calls.evalArgs_plain ?_)
 exact thn hA fun us s2 ⟨vs,H2,I2,r2,q2⟩=>hm pins s2 σ H2 x vs v us Q I2 r1 r2 q2
end
end L2
namespace L2
open PySem PySem.Spec PyProof.Rows
def MtM (X:Cx) (id:String) (r:V→List V→Hp→VK→Prop):Prop :=
 ∀ (pins:List (Addr × Obj)) (s:Shared) (σ:St) (H:Hp) (x:V) (xs:List V) (v:Value) (us:List Value) (Q:VK),Inv X pins σ H s→RelV x v→Vals xs us→r x xs H Q →
  wpAny (model X.prog X.w) X.A (call (.builtin id) (v :: us)) (EP X pins σ Q) X.xe s
theorem Vals.one:∀ {x:V} {us:List Value},Vals [x] us→∃ u,us=[u]∧RelV x u
 | _,_,.cons r .nil=>⟨_,rfl,r⟩
theorem Vals.two:∀ {x y:V} {us:List Value},Vals [x,y] us→∃ u v,us=[u,v]∧RelV x u∧RelV y v
 | _,_,_,.cons r (.cons q .nil)=>⟨_,_,rfl,r,q⟩
theorem Vals.rep {xs:List V} {us:List Value} (h:Vals xs us):∀ k:Nat,Vals (List.replicate k xs).flatten (List.replicate k us).flatten
 | 0=>.nil
 | k+1=>by
  rw [List.replicate_succ,List.replicate_succ,List.flatten_cons,List.flatten_cons]
  exact Vals.append h (Vals.rep h k)
section
variable {X:Cx} {pins:List (Addr × Obj)} {σ:St} {H:Hp} {s:Shared} {l b:Addr} {xs ys zs:List V}
theorem Inv.lset {its its':List Value} {n:Nat} {f:Array Value→Array Value} {t':Nat} (I:Inv X pins σ H s) (hH:H l=some (.lst xs))
  (e:s.heap.get? l=some { cls:=.type "list",data:=.seq its.toArray n }) (hf:f its.toArray=its'.toArray) (hv:Vals ys its') (hz:ys.length≤sizeLine) :
  Inv X pins σ (upd H l (.lst ys)) { s with heap:=s.heap.update l (Obj.mapSeq f),toks:=t' }:=by
 have q:=PySem.IsL.update e f
 rw [hf] at q
 refine I.write (x:=l) (e:=l) (by rw [hH]; exact trivial) (.inl rfl) (fun b' u hb hu=>(Heap.get?_update_other s.heap (Obj.mapSeq f) (Ne.symm hb)).trans hu) ⟨_,q⟩ ?_
 exact ⟨hz,its',_,hv,q⟩
theorem Inv.lnew {its:List Value} {t':Nat} (I:Inv X pins σ H s) (hv:Vals ys its) (hz:ys.length≤sizeLine) :
  Inv X pins σ (upd H s.heap.objs.size (.lst ys)) { s with heap:=s.heap.push { cls:=.type "list",data:=.seq its.toArray },toks:=t' } :=
 I.laid (fun _ _ q=>Heap.get?_push_of_some _ q) (Nat.le_refl _) ⟨hz,its,0,hv,Heap.get?_push_size _ rfl⟩
theorem Inv.fresh (I:Inv X pins σ H s):H s.heap.objs.size=none:=I.hok.fresh (Nat.le_refl _)
theorem Inv.lstM (I:Inv X pins σ H s) (hH:H l=some (.lst xs)):xs.length≤sizeLine∧∃ (its:List Value) (n:Nat),Vals xs its∧xs.length=its.length∧s.heap.get? l=some { cls:=.type "list",data:=.seq its.toArray n }:=by
 obtain ⟨z,its,n,r,e⟩:=I.hok l _ hH
 exact ⟨z,its,n,r,r.length,e⟩
end
section
variable {X:Cx}
def oh:V→List V→Hp→VK→Prop:=fun x vs H Q=>∃ l xs y,x=.ref l∧vs=[y]∧H l=some (.lst xs)∧xs.length < sizeLine∧Q .non (upd H l (.lst (xs++[y])))
theorem lP:MtM X "list.append" oh:=by
 intro pins s σ H x vs v us Q I rx rv h
 obtain ⟨l,xs,y,rfl,rfl,hH,hz,q⟩:=h
 cases rx
 obtain ⟨u,rfl,ru⟩:=rv.one
 obtain ⟨z,its,n,r,hl,e⟩:=I.lstM hH
 refine call_meets F.slot_list_append ⟨_,e,rfl⟩ F.entry_list_append (F.args_list_append_2 _ _) (PySem.list_append l its.toArray n u (by rw [List.size_toArray]; omega)) ⟨e,?_⟩
 refine ⟨.non,_,I.lset (its':=its++[u]) hH e (by simp) (r.append (.cons ru .nil)) ?_,rfl,q⟩
 rw [List.length_append,List.length_singleton]
 omega
theorem zU {α:Type} (xs:List α) (k:Nat):(List.replicate k xs).flatten.length=k * xs.length:=by
 induction k with
 | zero=>simp
 | succ k ih=>rw [List.replicate_succ,List.flatten_cons,List.length_append,ih,Nat.succ_mul,Nat.add_comm]
end
section
variable {prog:Program} {w:World} {A:Around} {E:Value→Shared→Prop} {s:Shared}
end
section
variable {X:Cx}
end
end L2
namespace Att
open PySem PySem.W PySem.Calls PyProof.Rows
theorem kG {P:Params} {h:Heap}:∀ (ns:List Int) (vs:List Value),WellAll P h vs (ns.map WData.int)→IntsAre vs ns:=by
 intro ns
 induction ns with
 | nil =>
  intro vs w
  rw [List.map_nil] at w
  cases w
  exact .nil
 | cons n ns ih =>
  intro vs w
  rw [List.map_cons] at w
  cases w with
  | cons a b =>
   cases a
   exact .cons _ _ (ih _ b)
theorem qv {l:OpenLaw} {n:Nat} (hn:l.most=some n) {P:Params} {h:Heap} {args:List WData} {vals:List Value}
  (hpre:l.row.toRowW.claim.pre args=true) (hwl:WellAll P h vals args) :
  ∃ a vs ns,vals=[Value.ref a]∧args=[WData.list (ns.map WData.int)]∧h.get? a=some { cls:=.type "list",data:=.seq vs.toArray }∧IntsAre vs ns∧ns.length≤n:=by
 have hsh:WShape.hasAll [] args [.list .int]=true:=(pre_splitW hpre).1
 have hc:l.pre.holds [] { args:=args }=true:=(pre_splitW hpre).2
 obtain ⟨d,r,rfl,h1,h2⟩:=hasAllW_cons hsh
 obtain rfl:=hasAllW_nil h2
 obtain ⟨xs,rfl,h3⟩:=hasW_list h1
 obtain ⟨ns,rfl⟩:=items_int h3
 have hlen:ns.length≤n:=by
  unfold OpenLaw.pre at hc
  have h4:(WTm.not (.lt (.lit (.int (n:Int))) (.len (.arg 0)))).holds [] { args:=[.list (ns.map .int)] }=true:=by
   have h4:=(holds_andW hc).1
   rw [hn] at h4
   exact h4
  have h5:=condW_of h4 (w_not (w_lt w_lit (w_len_list (w_arg rfl))))
  rw [List.length_map] at h5
  refine Nat.le_of_not_lt fun q=>?_
  have q':(n:Int) < ((ns.length:Nat):Int):=by omega
  first
   | (rw [decide_eq_true q'] at h5; exact absurd h5 (by decide))
   | (simp at h5; omega)
 cases hwl with
 | cons w1 w2 =>
  cases w2
  cases w1 with
  | list ho hall=>exact ⟨_,_,ns,rfl,rfl,ho,kG ns _ hall,hlen⟩
theorem qy (l:OpenLaw) (args:List WData):l.row.toRowW.claim.post args (.bool true) args=true :=
 postW_of (r:=l.row.toRowW) (X:=(true == true))
  (show WShape.has [] (.bool true) .bool=true by first | rfl | decide | simp [WShape.has,WShape.arms,WShape.armsAll])
  (show (WTm.eq .res (.lit (.bool true))).value [] { args:=args,res:=some (.bool true),after:=args }=some (.bool (true == true)) from w_eq_bool (w_res rfl) w_lit) rfl
theorem attach_call {l:OpenLaw} {n:Nat} {q:Program} {loose:List Str} {XP:(Str→Option Value)→Heap→Prop} {YP:World→Heap→Prop} {d:DefRec}
  (hn:l.most=some n) (hdf:d.params.defaults=[])
  (call:∀ (w:World) (s₀ s₁:Shared) (mg mb:Str→Option Value) (fa:Addr) (o:Obj) (pm cd doc:Value) (a:Addr) (vs:List Value) (ns:List Int),
   Ground q loose [] XP w s₀ mg mb s₁.heap→YP w s₁.heap →
   s₁.heap.get? fa=some o→o.data=.func (docDef d.name d.params d.body d.scope pm cd doc)→s₁.heap.CodeRec cd d.name→mg d.name=some (.ref fa) →
   s₁.heap.get? a=some { cls:=.type "list",data:=.seq vs.toArray }→IntsAre vs ns→ns.length≤n→s₁.gens=#[] →
   codeAny (model l.prog w) callerA (.call (.ref fa) ⟨[.ref a],[]⟩) (fun r s'=>r=.ok (.ret (.bool true))∧OldK s₁.heap s'.heap∧s'.os=s₁.os∧AllBare s'.gens) s₁) :
  WalkO q loose XP YP l.row.toRowW d [] (fun f vs=>PySem.call f vs):=by
 intro w s₀ s₁ mg mb G Y fa o pm cd doc dV kV ho hd hcd hD hmg hg args vals as hpre hlay hrd hwl hlo
 obtain rfl:dV=.none:=Dflts.none hD hdf
 obtain rfl:kV=.none:=Dflts.noKw hD
 obtain ⟨a,vs,ns,rfl,rfl,hobj,hints,hlen⟩:=qv hn hpre hwl
 refine enter_call (codeAny_mono (call w s₀ s₁ mg mb fa o pm cd doc a vs ns G Y ho (fd_plain hd) hcd hmg hobj hints hlen hg) fun r s' hq=>?_)
 obtain ⟨rfl,h2,h3,h4⟩:=hq
 exact ⟨.inl ⟨.bool true,.bool true,[],rfl,fun _=>rfl,.bool true,qy l _,fun _=>⟨List.Pairwise.nil,fun _ hm=>(nomatch hm)⟩⟩,h2,h3,h4⟩
section
variable {prog:Program} {w:World} {A:Around} {E:Value→Shared→Prop} {s:Shared} {K:Frag}
end
end Att
namespace L2
open PySem PySem.Spec PyProof.Rows
theorem lK:∀ {vs:List Value} {ns:List Int},IntsAre vs ns→Vals (ns.map V.int) vs
 | _,_,.nil=>.nil
 | _,_,.cons n t h=>.cons ⟨t,rfl⟩ (lK h)
def tU (H:Hp):Prop:=∀ b,H b=none∨∃ o xs,H b=some (.frz o (.lst xs))
theorem sF {P:Program} {w:World} {K:PySem.W.Frag} {mg mb:Str→Option Value} {CX:CXT} {k:Nat} {fa a:Addr} {fd:FuncData} {x:Str} {sp:Sp} {s₁:Shared} {vs:List Value} {ns:List Int}
  (KX:K.In s₁.heap) (hns:s₁.heap.Ns mainGlobals mg) (hb:s₁.heap.Ns builtinsNs mb) (hbb:∀ x:Str,x≠"__name__"→mb x=bootBuiltins x) (hlim:s₁.heap.NoLimit) (hg:s₁.gens=#[])
  (ha:s₁.heap.get? a=some { cls:=.type "list",data:=.seq vs.toArray }) (hi:IntsAre vs ns) (hl:ns.length≤sizeLine) (hr:Room k callerA)
  (F:∀ base:Heap,K.In base→base.Ns mainGlobals mg→FnOk P w K mg base CX k fa fd [x] sp) (hbind:∀ (s:Shared) (u:Value),BindsTo s fd ⟨[u],[]⟩ [(x,u)])
  (hsp:∀ H:Hp,tU H→SqL K H a (ns.map V.int)→sp [.ref a] H (fun v _=>v=.bl true) fun _ _ _=>False)
  (hCX:∀ H e s',CX [] H s₁ (fun _ _ _=>False) e s'→False) :
  codeAny (model P w) callerA (.call (.ref fa) ⟨[.ref a],[]⟩) (fun r s'=>r=.ok (.ret (.bool true))∧OldK s₁.heap s'.heap∧s'.os=s₁.os∧AllBare s'.gens) s₁:=by
 have rv:=lK hi
 have lenV:=hi.length
 have core:∀ H:Hp,tU H→SqL K H a (ns.map V.int)→HOk P w H s₁.heap→(∀ b,H b≠none→b=a)→(H a≠none→K.lookup a=none) →
   codeAny (model P w) callerA (.call (.ref fa) ⟨[.ref a],[]⟩) (fun r s'=>r=.ok (.ret (.bool true))∧OldK s₁.heap s'.heap∧s'.os=s₁.os∧AllBare s'.gens) s₁:=by
  intro H hO hS hok hA hK
  have base_of:∀ {b:Addr} {o:Obj},s₁.heap.get? b=some o→H b=none→(iz s₁.heap H).get? b=some o:=fun e n=>sR e n
  have noA:∀ {b:Addr} {o:Obj} {es:Array DictEntry} {ep:Nat},s₁.heap.get? b=some o→o.data=.dict es ep→H b=none:=fun {b o es ep} e d=>by
   cases q:H b with
   | none=>rfl
   | some u =>
    have e':b=a:=hA b (by rw [q]; simp)
    subst e'
    rw [ha] at e; cases e
    have d':Data.seq vs.toArray _=Data.dict es ep:=d
    cases d'
  have nsK:∀ {b:Addr} {m:Str→Option Value},s₁.heap.Ns b m→(iz s₁.heap H).Ns b m:=fun {b m} ⟨o,es,ep,e,d,r⟩=>⟨o,es,ep,base_of e (noA e d),d,r⟩
  have hKb:K.In (iz s₁.heap H):=fun b o e=>base_of (KX b o e) (by
   cases q:H b with
   | none=>rfl
   | some u =>
    have e':b=a:=hA b (by rw [q]; simp)
    subst e'
    rw [hK (by rw [q]; simp)] at e; cases e)
  have hM:Mod K mg (iz s₁.heap H):=⟨hKb,nsK hns,⟨mb,nsK hb,hbb⟩,let ⟨mc,h1,h2⟩:=hlim; ⟨mc,nsK h1,h2⟩⟩
  have e0:Env0 P w K mg (iz s₁.heap H) callerA [] s₁ H:=⟨rfl,hM,fun b o e=>zR e,Nat.le_of_eq (qS _ _),trivial,fun b hb=>absurd (show b∈([]:List Addr) from hb) (by simp),hok,.of_eq hg⟩
  refine codeAny_mono ((F _ hKb (nsK hns)).run callerA [] s₁ H ⟨[.ref a],[]⟩ [.ref a] [.ref a] _ _ hr e0 (hbind s₁ (.ref a)) (.cons rfl .nil) (hsp H hO hS)) fun r s' h=>?_
  cases r with
  | error e=>exact (hCX H e s' h).elim
  | ok fl =>
   cases fl with
   | next=>exact False.elim h
   | brk=>exact False.elim h
   | cont=>exact False.elim h
   | ret u =>
    obtain ⟨v,H',os,bare,un,hok',r',q⟩:=h
    have q':v=.bl true:=q
    subst q'
    obtain rfl:u=Value.bool true:=r'
    refine ⟨rfl,OldK.of_keep fun b o e=>?_,os,bare⟩
    cases q:H b with
    | none=>exact un.keep b o e q (by intro z; exact absurd (show b∈([]:List Addr) from z) (by simp)) (by simp)
    | some u =>
     rcases hO b with z | ⟨ob,xs,z⟩
     ·rw [q] at z; cases z
     ·have z2:=un.frzs b ob _ z
      obtain ⟨e1,_⟩:=hok b _ z
      obtain ⟨e2,_⟩:=hok' b _ z2
      rw [e] at e1; cases e1
      exact e2
 cases hk:K.lookup a with
 | some o =>
  have e:=KX a o hk
  rw [ha] at e
  cases e
  refine core (fun _=>none) (fun _=>.inl rfl) (.inr ⟨_,vs.toArray,_,hk,rfl,rfl,rfl,by rw [List.size_toArray,lenV]; exact hl,by simpa using rv⟩) (fun b u z=>by have z':(none:Option HO)=some u:=z; cases z') (fun b z=>absurd rfl z) fun z=>absurd rfl z
 | none =>
  refine core (fun b=>if b=a then some (.frz { cls:=.type "list",data:=.seq vs.toArray } (.lst (ns.map V.int))) else none) (fun b=>?_) (.inl (.inr ⟨{ cls:=.type "list",data:=.seq vs.toArray },if_pos rfl⟩)) (fun b u z=>?_) (fun b z=>?_) fun _=>hk
  ·by_cases hb:b=a
   ·exact .inr ⟨_,_,if_pos hb⟩
   ·exact .inl (if_neg hb)
  ·by_cases hb:b=a
   ·have z':=(if_pos hb).symm.trans z
    cases z'
    subst hb
    exact ⟨ha,by rw [List.length_map]; exact hl,vs,_,rv,ha⟩
   ·have z':=(if_neg hb).symm.trans z
    cases z'
  ·by_cases hb:b=a
   ·exact hb
   ·exact absurd (if_neg hb) z
end L2
namespace L2
open PySem PySem.Spec PyProof.Rows
theorem walk_of {l:PySem.W.OpenLaw} {n k:Nat} {q:Program} {loose:List Str} {XP:(Str→Option Value)→Heap→Prop} {YP:World→Heap→Prop} {d:DefRec} {K:Params→PySem.W.Frag} {CX:World→CXT} {sp:World→Sp} {x:Str}
  (hn:l.most=some n) (hn2:n≤sizeLine) (hdf:d.params.defaults=[]) (hr:Room k callerA)
  (hY:∀ (w:World) (h:Heap),YP w h→(K w.params).In h)
  (F:∀ (w:World) (mg:Str→Option Value) (fa:Addr) (h:Heap),(K w.params).In h→h.Ns mainGlobals mg→mg d.name=some (.ref fa) →
   ∃ fd:FuncData,(∀ (s:Shared) (u:Value),BindsTo s fd ⟨[u],[]⟩ [(x,u)]) ∧
    ∀ base:Heap,(K w.params).In base→base.Ns mainGlobals mg→FnOk l.prog w (K w.params) mg base (CX w) k fa fd [x] (sp w))
  (hsp:∀ (w:World) (H:Hp) (a:Addr) (ns:List Int),ns.length≤n→tU H→SqL (K w.params) H a (ns.map V.int)→sp w [.ref a] H (fun v _=>v=.bl true) fun _ _ _=>False)
  (hCX:∀ (w:World) (H:Hp) (s:Shared) (e:Value) (s':Shared),CX w [] H s (fun _ _ _=>False) e s'→False) :
  PySem.W.WalkO q loose XP YP l.row.toRowW d [] (fun f vs=>PySem.call f vs):=by
 refine Att.attach_call hn hdf fun w s₀ s₁ mg mb fa o pm cd doc a vs ns G Y ho hd hcd hmg hobj hints hlen hg=>?_
 have KX:=hY w _ Y
 obtain ⟨fd,hb,hF⟩:=F w mg fa _ KX G.T.g hmg
 exact sF KX G.T.g G.T.b G.T.builtins G.T.nolimit hg hobj hints (Nat.le_trans hlen hn2) hr hF hb (fun H hO hS=>hsp w H a ns hlen hO hS) fun H e s'=>hCX w H s₁ e s'
end L2
namespace L2
open PySem PySem.Spec PyProof.Rows
def dU (s:Stmt):Arguments:=match s with
 | .FunctionDef _ a _ _ _ _ _ _ _ _=>a
 | _=>{ posonlyargs:=[],args:=[],vararg:=none,kwonlyargs:=[],kw_defaults:=[],kwarg:=none,defaults:=[] }
def cF (s:Stmt):List Stmt:=match s with
 | .FunctionDef _ _ b _ _ _ _ _ _ _=>b
 | _=>[]
def aq (s:Stmt):Scope:=match s with
 | .FunctionDef _ _ _ _ _ _ sc _ _ _=>sc
 | _=>{ kind:=.function,names:=[],isGenerator:=false,isCoroutine:=false }
abbrev CX0:CXT:=fun _ _ _ _ _ _=>False
abbrev E0:XK:=fun _ _ _=>False
theorem EN {X:Cx}:nH CX0 X E0:=fun _ _ _ _ _ _ _ h=>h.elim
structure Fun (K:PySem.W.Frag) (x qual:Str) (st:Stmt) (f:Addr) (fd:FuncData):Prop where
 ex:∃ (oc:Value) (od:Option Addr) (kV doc pm:Value) (an:Option Addr) (cdv ct:Value) (osl:Array (Option Value)),
  fd=PySem.W.fnOf x qual (dU st) (cF st) (aq st) .none kV doc pm an cdv ct∧K.lookup f=some ⟨oc,od,.func fd,osl⟩∧PySem.W.codeIn K cdv qual=true
 kp:PySem.W.keepIn K (.ref f)=true
section
variable {P:Program} {w:World} {K:PySem.W.Frag} {mg:Str→Option Value} {base:Heap}
theorem Fun.ok {x qual:Str} {st:Stmt} {f:Addr} {fd:FuncData} {N ps:List Str} {k:Nat} {sp:Sp} (F:Fun K x qual st f fd) (S:FnScope N ps (aq st)) (len:∀ vs H Q E,sp vs H Q E→vs.length=ps.length)
  (hbody:∀ (cdv:Value) (A:Around) (outer:List Env) (s:Shared) (H:Hp) (vs:List V) (Q:VK) (E:XK),Room k (A.deeper (envOfC qual (aq st) s.heap.objs.size f cdv))→sp vs H Q E →
   ∃ t,PSs (kf CX0 P w K mg base N qual (aq st) f cdv A outer s H E).nox (cF st) t∧t { nx:=fun _ H'=>Q .non H',rt:=Q } (cZ N vs) H):FnOk P w K mg base CX0 (k+1) f fd ps sp:=by
 obtain ⟨oc,od,kV,doc,pm,an,cdv,ct,osl,rfl,lk,hcd⟩:=F.ex
 refine EY lk hcd S len fun A outer s H vs Q E hr hsp=>?_
 obtain ⟨t,h,q⟩:=hbody cdv A outer s H vs Q E hr hsp
 exact ⟨t,h.nox,q⟩
theorem Fun.binds {x qual:Str} {st:Stmt} {f:Addr} {fd:FuncData} {ps:List Str} (F:Fun K x qual st f fd)
  (h:∀ (kV doc pm:Value) (an:Option Addr) (cdv ct:Value) (us:List Value),us.length=ps.length→bindArgs (PySem.W.fnOf x qual (dU st) (cF st) (aq st) .none kV doc pm an cdv ct) ⟨us,[]⟩=pure (ps.zip us)):Binds K fd ps []:=by
 obtain ⟨oc,od,kV,doc,pm,an,cdv,ct,osl,rfl,lk,hcd⟩:=F.ex
 exact .all (h kV doc pm an cdv ct)
theorem qT {x qual:Str} {st:Stmt} {f:Addr} {oc:Value} {od an:Option Addr} {osl:Array (Option Value)} {kV doc pm cdv ct:Value} (l:K.lookup f=some ⟨oc,od,.func (PySem.W.fnOf x qual (dU st) (cF st) (aq st) .none kV doc pm an cdv ct),osl⟩)
  (c:PySem.W.codeIn K cdv qual=true) (k:PySem.W.keepIn K (.ref f)=true):Fun K x qual st f (PySem.W.fnOf x qual (dU st) (cF st) (aq st) .none kV doc pm an cdv ct):=⟨⟨oc,od,kV,doc,pm,an,cdv,ct,osl,rfl,l,c⟩,k⟩
end
section
variable {X:Cx}
end
end L2
namespace L2
open PySem PySem.Spec PyProof.Rows
section
variable {κ:Type} [DecidableEq κ]
theorem KV.length {kvs:List (κ × V)} {vs:List (κ × Value)} (r:KV kvs vs):kvs.length=vs.length:=Paired.length r
end
section
variable {P:Program} {w:World} {H:Hp} {h:Heap} {a:Addr}
theorem EB {u:HO} (ok:HOk P w H h) (e:Rd H a u):ObjOk P w H h a u:=e.ok ok
theorem Fk {kvs:List (Key × V)} (ok:HOk P w H h) (e:Rd H a (.dK kvs)):kvs.length≤sizeLine∧(a == sysModules)=false∧∃ vs,KV kvs vs∧h.DictOf (hV P w) a vs :=
 show ObjOk P w H h a (.dK kvs) from EB ok e
theorem zt {kvs:List (Key × V)} (ok:HOk P w H h) (e:H a=some (.dK kvs)):kvs.length≤sizeLine∧(a == sysModules)=false∧∃ vs,KV kvs vs∧h.DictOf (hV P w) a vs:=Fk ok (.inl e)
end
section
variable {X:Cx} {pins:List (Addr × Obj)} {σ:St} {H:Hp} {s:Shared} {a:Addr} {y v:V} {u r:Value} {o:Option V} {A:Around} {E:Value→Shared→Prop}
theorem Inv.big (I:Inv X pins σ H s):sysModules < s.heap.objs.size:=by
 have h:mainGlobals < s.heap.objs.size:=(I.mod.glob.keeps I.bk).lt
 exact Nat.lt_trans (by decide) h
end
section
variable {X:Cx} {pins:List (Addr × Obj)} {σ:St} {H:Hp} {s:Shared} {a:Addr} {kvs:List (Key × V)} {k:Key} {u:Value} {A:Around} {E:Value→Shared→Prop}
end
section
variable {X:Cx} {o i e value:Expr} {pos pos' tpos:Pos} {td ty tv:TE}
end
theorem tJ {P:Program} {w:World} {H:Hp} (h:Heap) (hb:sysModules < h.objs.size):ObjOk P w H (h.push { cls:=.type "dict",data:=.dict #[] }) h.objs.size (.dK []) :=
 ⟨Nat.zero_le _,beq_eq_false_iff_ne.mpr (Ne.symm (Nat.ne_of_lt hb)),[],.nil,Heap.DictOf.new h⟩
def CJ:TE:=fun _ H Q=>∀ p,H p=none→Q (.ref p) (upd H p (.dK []))
section
variable {X:Cx} {pos:Pos}
theorem pe_dnewK:PE X (.Dict [] [] pos) CJ:=fun pins s σ H Q I h =>
 wpAny_Dict_empty ⟨.ref s.heap.objs.size,_,I.laid (a:=s.heap.objs.size) (o:=.dK []) (t':=s.toks) (fun _ _ q=>Heap.get?_push_of_some _ q) (Nat.le_refl _) (tJ s.heap I.big),rfl,h _ (I.hok.fresh (Nat.le_refl _))⟩
end
section
variable {X:Cx} {pins:List (Addr × Obj)} {σ:St} {H:Hp} {s:Shared} {a:Addr} {y d:V} {u r:Value} {o:Option V} {A:Around} {E:Value→Shared→Prop}
end
section
variable {X:Cx} {o e f:Expr} {apos cpos:Pos} {td ty tx:TE}
end
section
variable {X:Cx} {pins:List (Addr × Obj)} {σ:St} {H:Hp} {s:Shared} {a:Addr} {kvs:List (Key × V)} {A:Around} {E:Value→Shared→Prop}
end
section
variable {X:Cx} {pins:List (Addr × Obj)} {σ:St} {H:Hp} {s:Shared} {a:Addr} {y:V} {u:Value} {A:Around} {E:Value→Shared→Prop}
end
end L2
namespace L2
open PySem PySem.Spec PyProof.Rows
section
variable {X:Cx}
end
section
variable {κ:Type} [DecidableEq κ]
end
end L2
set_option maxHeartbeats 4000000
namespace L2
open PySem PySem.Spec PyProof.Rows
theorem Aq {α β:Type} {l:List α} {f:α→β→Sem (ForInStep β)} {g:β→α→β} (h:∀ x∈l,∀ c,f x c=pure (.yield (g c x))):∀ c,forIn l c f=pure (l.foldl g c):=by
 induction l with
 | nil=>intro c; rfl
 | cons x l ih =>
  intro c
  rw [List.forIn_cons,h x List.mem_cons_self,pure_bind]
  exact ih (fun y hy=>h y (List.mem_cons_of_mem _ hy)) (g c x)
def dB (env:Env) (acc:List (Str × Addr)) (x:Str × NameKind):List (Str × Addr) :=
 if x.2 == NameKind.free then (x.1,(env.cells.lookup x.1).getD 0) :: acc else acc
def cU (env:Env) (names:List (Str × NameKind)):List (Str × Addr):=names.foldl (dB env) []
theorem kL {scope:Scope} {env:Env} (h:∀ y∈scope.names,y.2=.free→∃ c,env.cells.lookup y.1=some c):closureFor scope env=pure (cU env scope.names):=by
 simp only [closureFor]
 rw [Aq (g:=dB env) (fun x hx c=>by
  obtain ⟨n,kind⟩:=x
  by_cases hk:kind=.free
  ·obtain ⟨a,e⟩:=h _ hx hk
   subst hk
   have e':env.cells.lookup n=some a:=e
   simp [cellOf,dB,e']
  ·have hb:(kind == NameKind.free)=false:=by simpa using hk
   simp [dB,hb])]
 rfl
theorem kO {env:Env}:∀ (names:List (Str × NameKind)) (acc:List (Str × Addr)) (p:Str × Addr),
  p∈names.foldl (dB env) acc→p∈acc∨((p.1,NameKind.free)∈names∧p.2=(env.cells.lookup p.1).getD 0)
 | [],_,_,h=>.inl h
 | (n,k) :: r,acc,p,h=>by
  rw [List.foldl_cons] at h
  rcases kO r _ p h with q | ⟨q,e⟩
  ·unfold dB at q
   by_cases hk:(k == NameKind.free)=true
   ·rw [if_pos hk] at q
    rcases List.mem_cons.mp q with z | z
    ·subst z
     have hk':k=NameKind.free:=by simpa using hk
     subst hk'
     exact .inr ⟨List.mem_cons_self,rfl⟩
    ·exact .inl z
   ·rw [if_neg hk] at q
    exact .inl q
  ·exact .inr ⟨List.mem_cons_of_mem _ q,e⟩
theorem jV {env:Env}:∀ (names:List (Str × NameKind)) (acc:List (Str × Addr)) (p:Str × Addr),p∈acc→p∈names.foldl (dB env) acc
 | [],_,_,h=>h
 | x :: r,acc,p,h=>by
  rw [List.foldl_cons]
  refine jV r _ p ?_
  unfold dB
  split
  ·exact List.mem_cons_of_mem _ h
  ·exact h
theorem kP {env:Env} {n:Str}:∀ (names:List (Str × NameKind)) (acc:List (Str × Addr)),(n,NameKind.free)∈names→∃ c,(n,c)∈names.foldl (dB env) acc
 | (m,k) :: r,acc,h=>by
  rw [List.foldl_cons]
  rcases List.mem_cons.mp h with e | e
  ·cases e
   exact ⟨(env.cells.lookup n).getD 0,jV r _ _ (by unfold dB; rw [if_pos (show (((n,NameKind.free):Str × NameKind).2 == NameKind.free)=true from rfl)]; exact List.mem_cons_self)⟩
  ·exact kP r _ e
theorem fc {α:Type}:∀ {l:List (Str × α)} {n:Str} {c:α},(n,c)∈l→∃ c',l.lookup n=some c'
 | (m,d) :: r,n,c,h=>by
  rw [List.lookup_cons]
  cases hb:n == m with
  | true=>exact ⟨d,rfl⟩
  | false =>
   rcases List.mem_cons.mp h with e | e
   ·cases e
    simp at hb
   ·exact fc e
theorem ny {env:Env} {names:List (Str × NameKind)} {n:Str} (h:(n,NameKind.free)∈names):∃ c,(cU env names).lookup n=some c :=
 let ⟨_,e⟩:=kP (env:=env) names [] h
 fc e
theorem lZ {env:Env} {names:List (Str × NameKind)} {n:Str} {c:Addr} (h:∀ y∈names,y.2=.free→∃ c,env.cells.lookup y.1=some c) (e:(cU env names).lookup n=some c):env.cells.lookup n=some c:=by
 rcases kO names [] (n,c) (PySem.mem_of_lookup e) with q | ⟨q,z⟩
 ·simp at q
 ·obtain ⟨a,ea⟩:=h _ q rfl
  have z':c=(env.cells.lookup n).getD 0:=z
  have ea':env.cells.lookup n=some a:=ea
  rw [ea'] at z'
  rw [ea',z']
  rfl
theorem im {env:Env}:∀ {names:List (Str × NameKind)} {x:Str} {k:NameKind},
  (names.map fun (n,k)=>if (k == NameKind.free && env.scope.kind == .function && env.kindOf n == some .cell) then (n,NameKind.cell) else (n,k)).lookup x=some k →
  names.lookup x=some k∨(names.lookup x=some .free∧k=.cell)
 | [],_,_,h=>by simp at h
 | (n,k0) :: r,x,k,h=>by
  rw [List.map_cons] at h
  cases hx:x == n with
  | true =>
   rcases Bool.eq_false_or_eq_true (k0 == NameKind.free && env.scope.kind == .function && env.kindOf n == some .cell) with hc | hc
   ·simp only [hc,if_true,List.lookup_cons,hx] at h
    have hk:k0=.free:=by
     simp only [Bool.and_eq_true,beq_iff_eq] at hc
     exact hc.1.1
    refine .inr ⟨?_,?_⟩
    ·simp only [List.lookup_cons,hx,hk]
    ·exact (Option.some.inj h).symm
   ·simp only [hc,Bool.false_eq_true,if_false,List.lookup_cons,hx] at h
    refine .inl ?_
    simp only [List.lookup_cons,hx]
    exact h
  | false =>
   have h':(r.map fun (n,k)=>if (k == NameKind.free && env.scope.kind == .function && env.kindOf n == some .cell) then (n,NameKind.cell) else (n,k)).lookup x=some k:=by
    rcases Bool.eq_false_or_eq_true (k0 == NameKind.free && env.scope.kind == .function && env.kindOf n == some .cell) with hc | hc
    ·simp only [hc,if_true,List.lookup_cons,hx] at h
     exact h
    ·simp only [hc,Bool.false_eq_true,if_false,List.lookup_cons,hx] at h
     exact h
   simp only [List.lookup_cons,hx]
   exact im h'
theorem ku {env:Env}:∀ {names:List (Str × NameKind)} {x:Str},names.lookup x=some .free →
  (names.map fun (n,k)=>if (k == NameKind.free && env.scope.kind == .function && env.kindOf n == some .cell) then (n,NameKind.cell) else (n,k)).lookup x=some .cell ∨
  (names.map fun (n,k)=>if (k == NameKind.free && env.scope.kind == .function && env.kindOf n == some .cell) then (n,NameKind.cell) else (n,k)).lookup x=some .free
 | [],_,h=>by simp at h
 | (n,k0) :: r,x,h=>by
  rw [List.map_cons]
  cases hx:x == n with
  | true =>
   simp only [List.lookup_cons,hx] at h
   rcases Bool.eq_false_or_eq_true (k0 == NameKind.free && env.scope.kind == .function && env.kindOf n == some .cell) with hc | hc
   ·refine .inl ?_
    simp only [hc,if_true,List.lookup_cons,hx]
   ·refine .inr ?_
    simp only [hc,Bool.false_eq_true,if_false,List.lookup_cons,hx]
    exact h
  | false =>
   simp only [List.lookup_cons,hx] at h
   have ih:=ku (env:=env) h
   rcases Bool.eq_false_or_eq_true (k0 == NameKind.free && env.scope.kind == .function && env.kindOf n == some .cell) with hc | hc
   ·simp only [hc,if_true,List.lookup_cons,hx]
    exact ih
   ·simp only [hc,Bool.false_eq_true,if_false,List.lookup_cons,hx]
    exact ih
def dH (js:List (Option Nat)) (σ:St):St:=js.map fun j=>match j with
 | some j=>(σ[j]?).join
 | none=>none
end L2
namespace L2
open PySem PySem.Spec PyProof.Rows
def PTs (X:Cx) (ifs:List Expr) (tt:TT):Prop :=
 ∀ (pins:List (Addr × Obj)) (s:Shared) (σ:St) (H:Hp) (Q:Bool→Hp→Prop),Inv X pins σ H s→tt σ H Q →
  wpAny (model X.prog X.w) X.A (forIn ifs true fun c r=>if r=true then do let ok ← isTrue c X.env (eval c X.env); pure (ForInStep.yield ok) else pure (ForInStep.yield r)) (TP X pins σ Q) X.xe s
def Fp:TT:=fun _ H Q=>Q true H
theorem pts_nil {X:Cx}:PTs X [] Fp:=fun _ _ _ H _ I h=>wpAny_tests_nil ⟨H,I,h⟩
theorem zE {X:Cx} {c:Expr} {tc:TT} (hc:PT X c tc):PTs X [c] tc:=fun pins s σ H Q I h=>wpAny_tests_one (hc pins s σ H Q I h)
def Do (g:TG) (tt:TT) (te:TE) (D:Addr) (x:V) (τ:St) (H:Hp) (N:St→Hp→Prop):Prop :=
 g x τ H fun τ4 H4=>tt τ4 H4 fun b H5=>if b=true then te τ4 H5 fun v H6=>∃ xs,H6 D=some (.lst xs)∧xs.length < sizeLine∧N τ4 (upd H6 D (.lst (xs++[v]))) else N τ4 H5
def zb (J:It) (g:TG) (tt:TT) (te:TE) (σ0:St) (H1:Hp) (D:Addr) (Q:VK):Prop :=
 ∃ W:Nat→Nat→St→Hp→Prop,(∃ m,W 0 m σ0 (upd H1 D (.lst []))) ∧
  ∀ i m τ H2,W i m τ H2→(J.stop i H2∧Q (.ref D) H2)∨(J.go i H2∧∃ N:St→Hp→Prop,(∀ τ' H',N τ' H'→∃ m',m' < m∧W (i+1) m' τ' H')∧∀ x H3,J.yld i H2 x H3→Do g tt te D x τ H3 N)
def tLC (wi:TI) (g:TG) (tt:TT) (te:TE) (js:List (Option Nat)):TE:=fun σ H Q =>
 wi σ H fun J H1=>∀ D,H1 D=none→zb J g tt te (dH js σ) H1 D Q
theorem thF {α:Type} {t:Sem α} {Q Q':α→Shared→Prop} {M:Model} {A:Around} {E:Value→Shared→Prop} {s:Shared} (h:wpAny M A t Q (fun _ _=>False) s) (hQ:∀ a s,Q a s→Q' a s):wpAny M A t Q' E s :=
 wpAny_mono h hQ fun _ _ x=>x.elim
section
variable {X:Cx} {elt tg iter:Expr} {ifs:List Expr} {scope:Scope} {pos:Pos} {ns:List Str} {js:List (Option Nat)} {wi:TI} {g:TG} {tt:TT} {te:TE}
end
end L2
namespace L2
open PySem PySem.Spec PyProof.Rows
section
variable {X:Cx}
theorem pY:∀ (bs:List Bool),(List.range bs.length).all (fun i=>bs.getD i true)=bs.all id:=fun bs=>by
 rw [Bool.eq_iff_iff,List.all_eq_true,List.all_eq_true]
 constructor
 ·intro h b hb
  obtain ⟨i,hi,e⟩:=List.mem_iff_getElem.mp hb
  have q:=h i (List.mem_range.mpr hi)
  rw [List.getD_eq_getElem?_getD,List.getElem?_eq_getElem hi,e] at q
  exact q
 ·intro h i hi
  have hi':=List.mem_range.mp hi
  rw [List.getD_eq_getElem?_getD,List.getElem?_eq_getElem hi']
  exact h _ (List.getElem_mem hi')
theorem tO (hc:X.calm=true):CallR X (.builtin "all") (fun xs H Q=>∃ (p:Addr) (bs:List Bool),xs=[.ref p]∧SqL X.K H p (bs.map V.bl)∧Q (.bl (bs.all id)) H):=by
 intro pins s σ H xs us Q I r h
 obtain ⟨p,bs,rfl,hp,q⟩:=h
 obtain ⟨u,rfl,ru⟩:=cX r
 cases ru
 obtain ⟨its,rv,pl,hz⟩:=I.list hp
 have hl:its.length=bs.length:=by rw [← rv.length,List.length_map]
 have hlt:p < s.heap.objs.size:=by
  obtain ⟨o,n,e,_⟩:=id pl
  exact Heap.lt_size e
 refine call_all_walk (wpAny_pyIter_list pl.isList ?_)
 refine ⟨s.heap.objs.size,[s.heap.objs.size,p],[s.heap.objs.size],its.toArray.size,fun i v=>its.toArray[i]?=some v,_,fun i=>bs.getD i true,rfl,Walks.list (A:=X.A.in1) (show X.A.in1.handled=none from I.ok.hd hc) s.heap.objs.size p (Nat.ne_of_lt hlt) its.toArray,?_,?_,?_⟩
 ·exact ⟨⟨_,Heap.get?_push_size _ rfl,rfl,rfl⟩,pl.isList.push _⟩
 ·intro i v s' Q' E' hv hq
  have hv':its[i]?=some v:=by simpa using hv
  have hi:i < bs.length:=by
   rw [← hl]
   exact (List.getElem?_eq_some_iff.mp hv').1
  obtain ⟨u,hu,ru⟩:=rv.get (i:=i) (x:=V.bl bs[i]) (by rw [List.getElem?_map,List.getElem?_eq_getElem hi]; rfl)
  rw [hu] at hv'
  cases hv'
  cases ru
  have e:bs.getD i true=bs[i]:=by rw [List.getD_eq_getElem?_getD,List.getElem?_eq_getElem hi]; rfl
  have hq':Q' (bs.getD i true) s':=hq
  rw [e] at hq'
  exact wpAny_truthy_bool hq'
 ·intro h' tk hk
  have e:(List.range its.toArray.size).all (fun i=>bs.getD i true)=bs.all id:=by
   rw [← pY bs,List.size_toArray,hl]
  rw [e]
  refine ⟨.bl (bs.all id),H,I.kept (t':=tk) fun b o z=>hk b o ?_ (Heap.get?_push_of_some _ z),rfl,q⟩
  intro z'
  have z'':b=s.heap.objs.size:=by simpa using z'
  exact Nat.ne_of_lt (Heap.lt_size z) z''
theorem tN:CallR X (.builtin "isinstance") (fun xs H Q=>∃ x t n b,xs=[x,.ty n]∧TyOf X.K H x t∧PySem.W.kitOne X.K t (.type n)=some b∧Q (.bl b) H):=by
 intro pins s σ H xs us Q I r h
 obtain ⟨x,t,n,b,rfl,ty,e,q⟩:=h
 obtain ⟨u,w',rfl,r1,r2⟩:=Ey r
 cases r2
 exact qQ I r1 ty e fun tk=>⟨.bl b,H,I.tok _,rfl,q⟩
end
section
open PySem.SeqAt
variable {X:Cx} {pins:List (Addr × Obj)} {σ:St} {H:Hp} {s:Shared}
end
section
variable {X:Cx}
theorem Inv.turnedLaid {pins:List (Addr × Obj)} {σ:St} {H:Hp} {s:Shared} {h':Heap} {t':Nat} {fp:List Addr} {p:Addr} {o:HO} (I:Inv X pins σ H s) (f:∀ b∈fp,ge X pins H b) (hp:s.heap.objs.size≤p)
  (k:∀ b ob,b ∉ fp→s.heap.get? b=some ob→h'.get? b=some ob) (th:∀ b∈fp,∃ ob,h'.get? b=some ob) (new:ObjOk X.prog X.w (upd H p o) h' p o):Inv X pins σ (upd H p o) { s with heap:=h',toks:=t' }:=by
 have hn:H p=none:=I.hok.fresh hp
 have ne:∀ b ob,s.heap.get? b=some ob→b≠p:=fun b ob e=>Nat.ne_of_lt (Nat.lt_of_lt_of_le (Heap.lt_size e) hp)
 have nf:∀ b u,H b=some u→b ∉ fp:=fun b u e z=>by rw [(f b z).1] at e; cases e
 refine I.step (g':=s.gens) (d':=s.drawn) (ch:=fp) (fun b hb=>⟨(f b hb).2.2.2.1,(f b hb).2.1,(f b hb).2.2.2.2.1,(f b hb).2.2.2.2.2⟩) (fun b ob _ _ hc e _=>k b ob hc e) (fun b ob _ _ hc e _=>⟨ob.slots,k b ob hc e⟩)
  (fun b ob _ e n=>by rw [aR (ne b ob e)]; exact n) (fun b ob hc e=>⟨ob,k b ob hc e⟩) (fun b xs e=>by rw [aR (bL e hn)]; exact e) (fun b ob u e=>by rw [aR (bL e hn)]; exact e)
  (fun b ps e=>⟨#[],by rw [aR (bL e hn),e]; simp⟩) (fun m hm=>?_) (fun b u e=>?_) I.bare
 ·obtain ⟨ob,es,ep,ho,r⟩:=hm
  exact ⟨ob,es,ep,k _ ob (fun z=>(f _ z).2.1 rfl) ho,r⟩
 ·by_cases hb:b=p
  ·subst hb
   rw [a6] at e
   cases e
   exact new
  ·rw [aR hb] at e
   refine (I.hok b u e).stay (fun c v hc q=>k c v ?_ q) (fun c q=>by rw [aR (bL q hn)]; exact q) fun c xs q=>by rw [aR (bL q hn)]; exact q
   rcases hc with z | z
   ·rw [z]; exact nf b u e
   ·exact nf c _ z
def Ite (K:PySem.W.Frag) (a:Addr):It :=
 ⟨fun i H=>∃ xs x,SqL K H a xs∧xs[i]?=some x,
  fun i H y H'=>∃ p x,y=.ref p∧H p=none∧H'=upd H p (.tup [.int i,x])∧∀ xs,SqL K H a xs→xs[i]?=some x,
  fun i H=>∃ xs,SqL K H a xs∧xs.length≤i⟩
theorem qo {P:Program} {w:World} {K:PySem.W.Frag} {elts:List Expr} {k:Nat} {tp:Pos} (a e it:Addr) (hei:e≠it) :
  Turn P w K (.Tuple elts k tp) (Ite K a) [e,it] e (fun i h=>(∃ old,IsEnum h e it i old)∧h.IsListIter it a i) where
 mem:=by simp
 obj:=fun i h st b hb=>by
  obtain ⟨⟨old,he⟩,o,ho,hc,hd⟩:=st
  have hb':b=e∨b=it:=by simpa using hb
  rcases hb' with rfl | rfl
  ·exact ⟨_,he,fun v z=>by
    have z':Data.fields _=Data.cell v:=z
    cases z'⟩
  ·exact ⟨o,ho,fun v z=>by rw [hd] at z; cases z⟩
 keep:=fun i h h' st kp=>⟨let ⟨old,he⟩:=st.1; ⟨old,kp e (by simp) _ he⟩,st.2.at fun o q=>kp it (by simp) o q⟩
 item:=by
  intro X hP hw hK hc i pins s σ H E I hf st hg
  subst hP hw hK
  obtain ⟨xs,x,hq,hx⟩:=hg
  obtain ⟨its,rv,p,hz⟩:=I.list hq
  obtain ⟨u,hu,ru⟩:=rv.get hx
  obtain ⟨⟨old,he⟩,hit⟩:=st
  refine wpAny_pyNext_enum_item he hit p.isList (x:=u) (by simpa using hu) hei fun h1 ho1 hit1 ht1 hz1 hk1=>?_
  refine ⟨_,rfl,wpAny_letOwnedTupleGo_enum ho1 fun h2 he2 hs2=>?_⟩
  have eL:e < s.heap.objs.size:=Heap.lt_size he
  have ht2:h2.get? s.heap.objs.size=some { cls:=.type "tuple",data:=.seq #[.int i s.toks,u] }:=(hs2.2 _ (Nat.ne_of_gt eL)).trans ht1
  have hit2:h2.IsListIter it a (i+1):=hit1.extBut hs2.extBut hei.symm
  have I2:Inv X pins σ (upd H s.heap.objs.size (.tup [.int i,x])) { s with heap:=h2,toks:=s.toks+1 }:=by
   refine I.turnedLaid (fp:=[e,it]) hf (Nat.le_refl _) (fun b ob hb q=>?_) (fun b hb=>?_) ?_
   ·have h1:b≠e:=fun z=>hb (by simp [z])
    have h2':b≠it:=fun z=>hb (by simp [z])
    exact (hs2.2 b h1).trans (hk1 b ob h1 h2' q)
   ·have hb':b=e∨b=it:=by simpa using hb
    rcases hb' with rfl | rfl
    ·exact ⟨_,he2⟩
    ·obtain ⟨o,ho,_⟩:=hit2
     exact ⟨o,ho⟩
   ·refine ⟨(by show 2≤sizeLine; decide),[.int i s.toks,u],.cons ⟨_,rfl⟩ (.cons ru .nil),?_⟩
    exact ⟨_,ht2,rfl,_,rfl,rfl⟩
  have fr:∀ b∈[e,it],upd H s.heap.objs.size (.tup [.int i,x]) b=none:=fun b hb=>by
   have hlt:b < s.heap.objs.size:=by
    have hb':b=e∨b=it:=by simpa using hb
    rcases hb' with rfl | rfl
    ·exact eL
    ·obtain ⟨o,ho,_⟩:=hit
     exact Heap.lt_size ho
   rw [aR (Nat.ne_of_lt hlt)]
   exact (hf b hb).1
  exact ⟨.ref s.heap.objs.size,_,I2,rfl,⟨_,x,rfl,I.fresh,rfl,fun ys hy=>by rw [I.list_inj hy hq]; exact hx⟩,⟨⟨_,he2⟩,hit2⟩,fr⟩
 done:=by
  intro X hP hw hK hc i pins s σ H E I hf st hg
  subst hP hw hK
  obtain ⟨xs,hq,hx⟩:=hg
  obtain ⟨its,rv,p,hz⟩:=I.list hq
  obtain ⟨⟨old,he⟩,hit⟩:=st
  obtain ⟨f0,f1,f2,f3,f4,f5⟩:=hf it (by simp)
  have hl:=rv.length
  exact wpAny_pyNext_enum_end (I.ok.hd hc) he hit p.isList (by simp; omega) fun h' eb=>⟨rfl,I.turned (t':=s.toks) (fun b o hb q=>eb b o hb q) f0 f1 f3 f4 f5⟩
 self:=fun _ _ _ _ _ st h=>let ⟨⟨_,he⟩,_⟩:=st; wpAny_pyIter_enum he h
end
end L2
namespace L2
open PySem PySem.Spec PyProof.Rows
def Kn (P:Program) (w:World) (K:PySem.W.Frag) (mg:Str→Option Value) (base:Heap) (k:Nat) (x:Str) (ps:List Str) (sp:Sp):Prop :=
 ∃ f fd,FnOk P w K mg base CX0 k f fd ps sp∧mg x=some (.ref f)∧PySem.W.keepIn K (.ref f)=true∧Binds K fd ps []
theorem Kn.mono {P:Program} {w:World} {K:PySem.W.Frag} {mg:Str→Option Value} {base:Heap} {j k:Nat} {x:Str} {ps:List Str} {sp:Sp} (G:Kn P w K mg base j x ps sp) (h:j≤k):Kn P w K mg base k x ps sp :=
 let ⟨f,fd,a,b,c,d⟩:=G
 ⟨f,fd,a.mono h,b,c,d⟩
section
variable {X:Cx} {k:Nat} {x:Str} {ps:List Str} {sp:Sp} {p pos:Pos} {e:Expr} {es:List Expr} {t:TA}
theorem yY (G:Kn X.prog X.w X.K X.mg X.base k x ps sp) (hr:Room k X.A) (hg:Gl X x) (ha:PA X (e :: es) t) (hdb:(x == ("__debug__" : Str))=false:=by decide)
  (he:starEach (e :: es) X.env=(false,eval e X.env) :: starEach es X.env:=by rfl) (hpl:(backTo pos (starEach es X.env)).any (·.1)=false:=by rfl) :
  PE X (.Call (.Name x p) (e :: es) [] pos) (oW sp [] E0 t):=by
 obtain ⟨f,fd,F,hm,hk,hb⟩:=G
 exact zN F hr hg hm hk hb .nil EN ha hdb he hpl
end
def Ft (K:PySem.W.Frag):List V→Hp→VK→Prop:=fun xs H Q=>∃ x n,xs=[x]∧Ew K x H n∧Q (.int n) H
def zB (K:PySem.W.Frag):List V→Hp→VK→Prop:=fun xs H Q=>∃ p ys,xs=[.ref p]∧(SqL K H p ys∨SqT K H p ys)∧∀ l,H l=none→Q (.ref l) (upd H l (.lst ys))
def CP (K:PySem.W.Frag):List V→Hp→VK→Prop:=fun xs H Q=>∃ p ys,xs=[.ref p]∧((SqL K H p ys∧∀ l,H l=none→Q (.ref l) (upd H l (.tup ys)))∨(SqT K H p ys∧Q (.ref p) H))
def Fu (K:PySem.W.Frag):List V→Hp→VK→Prop:=fun xs H Q=>∃ (p:Addr) (bs:List Bool),xs=[.ref p]∧SqL K H p (bs.map V.bl)∧Q (.bl (bs.all id)) H
section
variable {X:Cx} {K:PySem.W.Frag}
theorem Fx (hK:X.K=K):CallR X (.builtin "len") (Ft K):=by subst hK; exact tM
theorem zW (hK:X.K=K):CallR X (.type "list") (zB K):=by subst hK; exact nB
theorem Dv (hK:X.K=K):CallR X (.type "tuple") (CP K):=by subst hK; exact mt
theorem Fz (hK:X.K=K) (hc:X.calm=true):CallR X (.builtin "all") (Fu K):=by subst hK; exact tO hc
theorem Fy (hK:X.K=K):IxR X (oZ K):=by subst hK; exact ix_list
theorem Fw (hK:X.K=K):SlR X (CQ K):=by subst hK; exact CM
theorem ER (hK:X.K=K):OpR X (binaryOp .Add) (yX K):=by subst hK; exact zQ
variable {tg l:Expr} {tl:TE} {es:List Expr} {t:TGs} {n k:Nat} {pos p p2 cpos apos:Pos}
end
end L2
namespace L2
open PySem PySem.Spec PyProof.Rows
def sgn (c:Nat):V:=.str ⟨#[c]⟩
def Its (z:Str):It:=⟨fun i _=>i < z.cps.size,fun i H x H'=>H'=H∧∃ c,z.cps[i]?=some c∧x=sgn c,fun i _=>z.cps.size≤i⟩
theorem rW {P:Program} {w:World} {K:PySem.W.Frag} {tg:Expr} (it:Addr) (z:Str) (t:Tok) (ty:String) (hty:ty="str_ascii_iterator"∨ty="str_iterator") :
  Turn P w K tg (Its z) [it] it (fun i h=>h.IsStrIter it ty z t i) where
 mem:=by simp
 obj:=fun i h st b hb=>by
  have e:b=it:=by simpa using hb
  subst e
  obtain ⟨o,e,c,d⟩:=st
  exact ⟨o,e,fun v q=>by rw [d] at q; cases q⟩
 keep:=fun i h h' st k=>let ⟨o,e,r⟩:=st; ⟨o,k it (by simp) o e,r⟩
 item:=by
  intro X hP hw hK hc i pins s σ H E I hf st hg
  subst hP hw hK
  obtain ⟨f0,f1,f2,f3,f4,f5⟩:=hf it (by simp)
  have W:Walks X.prog X.w X.A it [it] [it] z.cps.size (SignAt z) (fun i h=>h.IsStrIter it ty z t i):=by
   rcases hty with rfl | rfl
   ·exact Walks.strAscii (I.ok.hd hc) it z t
   ·exact Walks.strWide (I.ok.hd hc) it z t
  refine W.item i s _ _ hg st fun v h' tk hv st' kk=>?_
  obtain ⟨c,u,hcv,rfl⟩:=hv
  have I1:Inv X pins σ H { s with heap:=h',toks:=tk }:=I.turned (fun b o hb e=>kk b o (by simpa using hb) e) f0 f1 f3 f4 f5
  obtain ⟨o,e,ec,ed⟩:=id st'
  refine ⟨_,rfl,mF (s:={ s with heap:=h',toks:=tk }) (n:=ty) e ec ed (by rcases hty with rfl | rfl <;> decide) ⟨sgn c,H,I1,⟨u,rfl⟩,⟨rfl,c,hcv,rfl⟩,st',fun b hb=>(hf b hb).1⟩⟩
 done:=by
  intro X hP hw hK hc i pins s σ H E I hf st hg
  subst hP hw hK
  obtain ⟨f0,f1,f2,f3,f4,f5⟩:=hf it (by simp)
  have hle:z.cps.size≤i:=hg
  rcases hty with rfl | rfl
  ·exact wpAny_pyNext_ascii_end (I.ok.hd hc) st (by simpa using hle) fun h' he=>⟨rfl,I.turned (t':=s.toks) (fun b o hb e=>he b o hb e) f0 f1 f3 f4 f5⟩
  ·exact wpAny_pyNext_wide_end (I.ok.hd hc) st (by simpa using hle) fun h' he=>⟨rfl,I.turned (t':=s.toks) (fun b o hb e=>he b o hb e) f0 f1 f3 f4 f5⟩
 self:=fun A i s Q E st h=>by
  rcases hty with rfl | rfl
  ·exact wpAny_pyIter_striter_ascii st h
  ·exact wpAny_pyIter_striter_wide st h
section
variable {X:Cx} {tg:Expr} {K:PySem.W.Frag}
def c7 (z:Str):List V:=z.cps.toList.map sgn
theorem jR:∀ {xs:List V} {us:List Value},xs.length=us.length→(∀ (i:Nat) x u,xs[i]?=some x→us[i]?=some u→RelV x u)→Vals xs us
 | [],[],_,_=>.nil
 | [],_ :: _,h,_=>by cases h
 | _ :: _,[],h,_=>by cases h
 | x :: xs,u :: us,h,f=>.cons (f 0 x u rfl rfl) (jR (Nat.succ.inj h) fun i y v a b=>f (i+1) y v (by simpa using a) (by simpa using b))
theorem lH (hc:X.calm=true):CallR X (.type "list") (fun xs H Q=>∃ z,xs=[.str z]∧z.cps.size≤sizeLine∧∀ l,H l=none→Q (.ref l) (upd H l (.lst (c7 z)))):=by
 intro pins s σ H xs us Q I r h
 obtain ⟨z,rfl,hz,q⟩:=h
 obtain ⟨u,rfl,t,rfl⟩:=cX r
 refine call_list_str (I.ok.hd hc) z t (fun h' tk acc c' hk ho hi=>?_) hz
 have hl:(c7 z).length=acc.toList.length:=by
  unfold c7
  rw [List.length_map,Array.length_toList,Array.length_toList,hi.1]
 have rv:Vals (c7 z) acc.toList:=jR hl fun i x v a b=>by
  obtain ⟨c,tk',hcv,rfl⟩:=hi.2 i v (by simpa using b)
  unfold c7 at a
  rw [List.getElem?_map] at a
  have e:z.cps.toList[i]?=some c:=by simpa using hcv
  rw [e] at a
  cases a
  exact ⟨_,rfl⟩
 refine ⟨.ref s.heap.objs.size,_,I.laid (t':=tk) (o:=.lst (c7 z)) hk (Nat.le_refl _) ⟨?_,acc.toList,c',rv,by simpa using ho⟩,rfl,q _ I.fresh⟩
 unfold c7
 rw [List.length_map,Array.length_toList]
 exact hz
theorem kq {ys:List Str}:∀ {us:List Value},Vals (ys.map V.str) us→StrsAre us ys:=by
 induction ys with
 | nil=>intro us r; cases r; exact .nil
 | cons y ys ih =>
  intro us r
  cases r with
  | cons r1 r2 =>
   obtain ⟨t,e⟩:=r1
   subst e
   exact .cons y t (ih r2)
def yV (K:PySem.W.Frag):V→List V→Hp→VK→Prop:=fun x xs H Q=>∃ sep ys p,x=.str sep∧xs=[.ref p]∧(SqL K H p (ys.map V.str)∨SqT K H p (ys.map V.str))∧sep.length≤16∧(ys.map (·.length)).sum+ys.length≤1048576∧Q (.str (Txt.join sep ys)) H
theorem eF (hK:X.K=K):MtR X "str.join" (yV K):=by
 subst hK
 intro pins s σ H x xs v us Q I rx rs h
 obtain ⟨sep,ys,p,rfl,rfl,hp,hs,hw,q⟩:=h
 obtain ⟨t,rfl⟩:=rx
 obtain ⟨u,rfl,ru⟩:=cX rs
 cases ru
 rcases hp with hp | hp
 ·obtain ⟨its,rv,pl,_⟩:=I.list hp
  exact join_listW pl.isList (by simpa using kq rv) hs hw fun t' k=>⟨.str _,H,I.tok k,⟨_,rfl⟩,q⟩
 ·obtain ⟨its,rv,pl,_⟩:=I.tuple hp
  exact join_tupleW pl (by simpa using kq rv) hs hw fun t' k=>⟨.str _,H,I.tok k,⟨_,rfl⟩,q⟩
def cI (xs:List Nat) (lo hi:Option Int):List Nat:=(xs.drop (HT.sIx xs.length 0 lo)).take (HT.sIx xs.length xs.length hi - HT.sIx xs.length 0 lo)
theorem mO (n d:Nat) (v:Option Int) (h:d≤n):HT.sIx n d v≤n:=by
 cases v with
 | none=>exact h
 | some i =>
  unfold HT.sIx
  dsimp only
  split <;> omega
theorem r8 (lo hi:Option Int) (n:Nat):Builtin.Str.strSliceIndices lo hi 1 n=(List.range (HT.sIx n n hi - HT.sIx n 0 lo)).map (HT.sIx n 0 lo+·):=by
 obtain ⟨h1,h2,h3⟩:=i9 lo hi n
 have e:Builtin.Str.strSliceIndices lo hi 1 n=sliceRange (sliceBounds lo hi none n).1 (sliceBounds lo hi none n).2.1 (sliceBounds lo hi none n).2.2:=by
  cases lo <;> cases hi <;> rfl
 rw [e,h1,h2,h3,sliceRange_one]
theorem oX (x:Str) (lo hi:Option Int):Txt.slice x lo hi=⟨(cI x.cps.toList lo hi).toArray⟩:=by
 unfold Txt.slice
 have hl:x.length=x.cps.toList.length:=by simp [Str.length]
 rw [r8]
 have e:(((List.range (HT.sIx x.length x.length hi - HT.sIx x.length 0 lo)).map (HT.sIx x.length 0 lo+·)).filterMap (x.cps[·]?))=cI x.cps.toList lo hi:=by
  rw [pick_run,hl]
  rfl
 rw [e]
 split
 ·rename_i hc
  have hc':HT.sIx x.length x.length hi - HT.sIx x.length 0 lo=x.length:=by simpa using hc
  have h1:=mO x.length x.length hi (Nat.le_refl _)
  have ha:HT.sIx x.length 0 lo=0∨x.length=0:=by omega
  have:cI x.cps.toList lo hi=x.cps.toList:=by
   unfold cI
   rw [← hl,hc']
   rcases ha with z | z
   ·rw [z,List.drop_zero,hl,List.take_length]
   ·rw [z,List.take_zero]
    rw [hl] at z
    exact (List.eq_nil_of_length_eq_zero z).symm
  rw [this]
 ·rfl
def Fq:V→Option Int→Option Int→Hp→VK→Prop:=fun x lo hi H Q=>∃ z,x=.str z∧z.length≤sizeLine∧Q (.str ⟨(cI z.cps.toList lo hi).toArray⟩) H
theorem sl_str:SlR X Fq:=by
 intro pins s σ H x v vl vu lo hi sl Q I rx hs pl pu h
 obtain ⟨z,rfl,hz,q⟩:=h
 obtain ⟨t,rfl⟩:=rx
 rw [← oX] at q
 have go:∀ (l u:Option (Int × Tok)),s.heap.IsSlice sl l u none→l.map (·.1)=lo→u.map (·.1)=hi→wpAny (model X.prog X.w) X.A (getItem (.str z t) (.ref sl)) (EP X pins σ Q) X.xe s:=fun l u hsl e1 e2=>by
  subst e1 e2
  exact wpAny_getItem_str_slice (st:=none) hsl rfl (post_val_or_str ⟨Nat.le_trans (Txt.slice_le z _ _) hz,fun t' k=>⟨.str _,H,I.tok k,⟨_,rfl⟩,q⟩⟩)
 refine ⟨"str",_,F.slot_str_getitem.lookup,typeIs_str _ _ _,?_⟩
 cases pl with
 | none =>
  cases pu with
  | none=>exact go none none hs rfl rfl
  | int j u=>exact go none (some (j,u)) hs rfl rfl
 | int i t =>
  cases pu with
  | none=>exact go (some (i,t)) none hs rfl rfl
  | int j u=>exact go (some (i,t)) (some (j,u)) hs rfl rfl
def CW (K:PySem.W.Frag):R2:=fun x y H Q=>∃ a b ys,x=.ref a∧y=.ref b∧SqT K H a []∧SqT K H b ys∧Q (.ref b) H
theorem ss (hK:X.K=K):OpR X (binaryOp .Add) (CW K):=by
 subst hK
 intro pins s σ H x y v u Q I rx ry h
 obtain ⟨a,b,ys,rfl,rfl,ha,hb,q⟩:=h
 cases rx
 cases ry
 obtain ⟨its,r1,p1,_⟩:=I.tuple ha
 obtain ⟨its2,r2,p2,_⟩:=I.tuple hb
 cases r1
 obtain ⟨⟨cls,dd,data,sl⟩,ho,hc,n,hd⟩:=id p1
 obtain ⟨⟨cls2,dd2,data2,sl2⟩,ho2,hc2,n2,hd2⟩:=id p2
 simp only at hc hd hc2 hd2
 subst hc hd hc2 hd2
 exact concat_meets ⟨_,ho,rfl⟩ ⟨_,ho2,rfl⟩ noFill_tuple_add seq_tuple_add PySem.F.slot_tuple_add PySem.F.entry_tuple_add (PySem.F.args_tuple_add_2 _ _)
  (tuple_addW0 a b _ _ n n2 dd dd2 sl sl2 (by simp)) ⟨ho,ho2,⟨.ref b,H,I,rfl,q⟩⟩
end
end L2
namespace L2
open PySem PySem.Spec PyProof.Rows
section
variable {l l':List Addr} {H H':Hp} {a b:Addr} {o:HO}
end
section
variable {K:PySem.W.Frag}
end
end L2
namespace L2
open PySem PySem.Spec PyProof.Rows
section
variable {X:Cx} {tg:Expr} {K:PySem.W.Frag}
end
section
variable {prog:Program} {w:World} {A:Around} {E:Value→Shared→Prop} {s:Shared}
end
section
variable {X:Cx} {tg:Expr} {K:PySem.W.Frag}
end
end L2
namespace L2
open PySem PySem.Spec PyProof.Rows
abbrev li (z:Str):List Nat:=z.cps.toList
def mk1 (c:Nat):Str:=⟨#[c]⟩
def ofL (l:List Nat):Str:=⟨l.toArray⟩
theorem qH (z:Str):ofL (li z)=z:=rfl
theorem Dm {a b:Str} (h:li a=li b):a=b:=by rw [← qH a,← qH b,h]
theorem m5 (z:Str):z.length=(li z).length:=rfl
theorem qK (a b:Str):li (a++b)=li a++li b:=by
 show (a.cps++b.cps).toList=_
 rw [Array.toList_append]
def emp:Str:=""
def cat (ks:List Str):Str:=Txt.join emp ks
def av (ks:List Str):List Nat:=(ks.map li).flatten
theorem Et (ks:List Str):li (cat ks)=av ks:=by
 unfold cat Txt.join av
 rw [StrLaws.glued_eq_join]
 induction ks with
 | nil=>rfl
 | cons x r ih =>
  cases r with
  | nil =>
   show li x=_
   simp
  | cons y r =>
   show li (x++emp++Str.join emp (y :: r))=_
   rw [qK,qK,ih]
   show li x++[]++_=li x++((y :: r).map li).flatten
   rw [List.append_nil]
theorem rL (ks:List Str) (x:Str):av (ks++[x])=av ks++li x:=by
 unfold av
 rw [List.map_append,List.flatten_append]
 simp
theorem nF (ks:List Str):(ks.map (·.length)).sum=(av ks).length:=by
 unfold av
 rw [List.length_flatten,List.map_map]
 rfl
def Sub (x z:List Nat):Prop:=∀ c∈x,c∈z
end L2
namespace L2
open PySem PySem.Spec PyProof.Rows
section
variable {prog:Program} {w:World} {A:Around} {E:Value→Shared→Prop} {s:Shared}
end
section
variable {prog:Program} {w:World} {A:Around} {E:Value→Shared→Prop} {s:Shared}
end
section
variable {X:Cx} {K:PySem.W.Frag}
def og:V→List V→Hp→VK→Prop:=fun x xs H Q=>∃ z y,x=.str z∧xs=[.str y]∧Q (.bl (Txt.startswith z y)) H
theorem jf:MtR X "str.startswith" og:=by
 intro pins s σ H x xs v us Q I rx rs h
 obtain ⟨z,y,rfl,rfl,q⟩:=h
 obtain ⟨t,rfl⟩:=rx
 obtain ⟨u,rfl,ru⟩:=cX rs
 obtain ⟨t2,rfl⟩:=ru
 exact SC.startswith ⟨.bl _,H,I,rfl,q⟩
def bB (z y:Str):Bool:=!(Builtin.Str.occurrences z y 0 z.length 1).isEmpty
def CV (neg:Bool):R2:=fun x y H Q=>∃ a b,x=.str a∧y=.str b∧Q (.bl (if neg then !bB b a else bB b a)) H
theorem op_inS:OpR X (compareOp .In) (CV false):=by
 intro pins s σ H x y v u Q I rx ry h
 obtain ⟨a,b,rfl,rfl,q⟩:=h
 obtain ⟨t,rfl⟩:=rx
 obtain ⟨t2,rfl⟩:=ry
 exact PySem.P.in_str ⟨.bl _,H,I,rfl,q⟩
theorem op_notInS:OpR X (compareOp .NotIn) (CV true):=by
 intro pins s σ H x y v u Q I rx ry h
 obtain ⟨a,b,rfl,rfl,q⟩:=h
 obtain ⟨t,rfl⟩:=rx
 obtain ⟨t2,rfl⟩:=ry
 exact PySem.P.notIn_str ⟨.bl _,H,I,rfl,q⟩
end
section
open PySem.SeqAt
end
end L2
namespace L2
open PySem PySem.Spec PyProof.Rows
theorem dG:∀ (names:List (Str × NameKind)) (n:Nat) (acc:List (Str × Addr)),cellsFrom n names acc=cellsFrom n names []++acc
 | [],_,_=>rfl
 | (x,k) :: r,n,acc=>by
  unfold cellsFrom
  split
  ·rw [dG r (n+1) ((x,n) :: acc),dG r (n+1) [(x,n)],List.append_assoc]
   rfl
  ·exact dG r n acc
theorem ff:∀ (names:List (Str × NameKind)) (n:Nat) (acc:List (Str × Addr)) {x:Str} {c:Addr},(x,c)∈cellsFrom n names acc→(x,c)∈acc∨(x,NameKind.cell)∈names
 | [],_,_,_,_,h=>.inl h
 | (y,k) :: r,n,acc,x,c,h=>by
  unfold cellsFrom at h
  split at h
  ·rename_i hk
   rcases ff r _ _ h with h | h
   ·rcases List.mem_cons.mp h with e | e
    ·have hk':k=.cell:=by simpa using hk
     have e':=(Prod.mk.inj e).1
     rw [e',← hk']
     exact .inr List.mem_cons_self
    ·exact .inl e
   ·exact .inr (List.mem_cons_of_mem _ h)
  ·rcases ff r _ _ h with h | h
   ·exact .inl h
   ·exact .inr (List.mem_cons_of_mem _ h)
theorem eK:∀ (names:List (Str × NameKind)) (n:Nat) (acc:List (Str × Addr)) {p:Str × Addr},p∈acc→p∈cellsFrom n names acc
 | [],_,_,_,h=>h
 | (y,k) :: r,n,acc,p,h=>by
  unfold cellsFrom
  split
  ·exact eK r _ _ (List.mem_cons_of_mem _ h)
  ·exact eK r _ _ h
theorem fg:∀ (names:List (Str × NameKind)) (n:Nat) (acc:List (Str × Addr)) {x:Str},(x,NameKind.cell)∈names→∃ c,(x,c)∈cellsFrom n names acc
 | [],_,_,_,h=>by simp at h
 | (y,k) :: r,n,acc,x,h=>by
  unfold cellsFrom
  rcases List.mem_cons.mp h with e | e
  ·cases e
   rw [if_pos (by rfl)]
   exact ⟨n,eK r _ _ List.mem_cons_self⟩
  ·split
   ·exact fg r _ _ e
   ·exact fg r _ _ e
theorem mZ {α:Type}:∀ {a b:List (Str × α)} {x:Str} {c:α},(a++b).lookup x=some c→a.lookup x=some c∨(a.lookup x=none∧b.lookup x=some c)
 | [],_,_,_,h=>.inr ⟨rfl,h⟩
 | (n,v) :: r,b,x,c,h=>by
  rw [List.cons_append,List.lookup_cons] at h
  rw [List.lookup_cons]
  cases e:x == n with
  | true=>rw [e] at h; exact .inl h
  | false=>rw [e] at h; exact mZ h
theorem jg {α:Type}:∀ {a b:List (Str × α)} {x:Str} {c:α},a.lookup x=some c→(a++b).lookup x=some c
 | [],_,_,_,h=>by simp at h
 | (n,v) :: r,b,x,c,h=>by
  rw [List.cons_append,List.lookup_cons]
  rw [List.lookup_cons] at h
  cases e:x == n with
  | true=>rw [e] at h; exact h
  | false=>rw [e] at h; exact jg h
theorem iu {α:Type}:∀ {a b:List (Str × α)} {x:Str} {c:α},a.lookup x=none→b.lookup x=some c→(a++b).lookup x=some c
 | [],_,_,_,_,h=>h
 | (n,v) :: r,b,x,c,hn,h=>by
  rw [List.cons_append,List.lookup_cons]
  rw [List.lookup_cons] at hn
  cases e:x == n with
  | true=>rw [e] at hn; cases hn
  | false=>rw [e] at hn; exact iu hn h
abbrev aQ (X:Cx) (scope:Scope) (ns:List Str) (C:Addr) (cl:List (Str × Addr)) (s₀:Shared) (H₀:Hp) (fp:List Addr):Cx :=
 { X with N:=ns,s₀:=s₀,H₀:=H₀,env:=compEnvC scope cl C X.env,outer:=X.stack,ex:=fp,fn:=fun x=>scope.names.lookup x == some NameKind.cell,pn:=[],xe:=fun _ _=>False }
structure BlkOkC (X:Cx) (scope:Scope) (ns:List Str) (js:List (Option Nat)):Prop where
 kind:scope.kind=.function
 uniq:∀ y∈scope.names,y.2=.cell→scope.names.lookup y.1=some .cell
 names:∀ y∈scope.names,y.2=.local→scope.names.lookup y.1=some .local
 free:∀ y∈scope.names,y.2=.free→X.env.kindOf y.1=some .cell∨X.env.kindOf y.1=some .free
 nd:ns.Nodup
 len:js.length=ns.length
 out:∀ (i:Nat) (x:Str) (j:Nat),ns[i]?=some x→js[i]?=some (some j)→X.N[j]?=some x∧scope.names.lookup x=some .free
def oM (N:List Str) (sc scope:Scope) (ns:List Str) (js:List (Option Nat)):Bool :=
 decide (scope.kind=.function) && scope.names.all (fun y=>decide (y.2=.cell→scope.names.lookup y.1=some .cell)) && scope.names.all (fun y=>decide (y.2=.local→scope.names.lookup y.1=some .local)) &&
 scope.names.all (fun y=>decide (y.2=.free→sc.names.lookup y.1=some .cell∨sc.names.lookup y.1=some .free)) && decide ns.Nodup && decide (js.length=ns.length) &&
 (List.range ns.length).all (fun i=>match js[i]?,ns[i]? with
  | some (some j),some x=>decide (N[j]?=some x) && decide (scope.names.lookup x=some .free)
  | _,_=>true)
theorem AK {N:List Str} {scope:Scope} {ns:List Str} {js:List (Option Nat)} (h7:∀ i < ns.length,(match js[i]?,ns[i]? with
  | some (some j),some x=>decide (N[j]?=some x) && decide (scope.names.lookup x=some .free)
  | _,_=>true)=true) {i:Nat} {x:Str} {j:Nat} (e1:ns[i]?=some x) (e2:js[i]?=some (some j)):N[j]?=some x∧scope.names.lookup x=some .free:=by
 have q:=h7 i (List.getElem?_eq_some_iff.mp e1).1
 rw [e1,e2] at q
 simpa using q
theorem BlkOkC.of {X:Cx} {scope:Scope} {ns:List Str} {js:List (Option Nat)} {N0:List Str} {sc0:Scope} (hN:X.N=N0) (hS:X.env.scope=sc0) (h:oM N0 sc0 scope ns js=true):BlkOkC X scope ns js:=by
 unfold oM at h
 simp only [Bool.and_eq_true,List.all_eq_true,decide_eq_true_eq,List.mem_range] at h
 obtain ⟨⟨⟨⟨⟨⟨h1,h2⟩,h3⟩,h4⟩,h5⟩,h6⟩,h7⟩:=h
 refine ⟨h1,fun y hy=>h2 y hy,fun y hy=>h3 y hy,fun y hy hk=>?_,h5,h6,fun i x j e1 e2=>?_⟩
 ·have q:=h4 y hy hk
  rw [← hS] at q
  exact q
 ·rw [hN]
  exact AK h7 e1 e2
section
variable {M:Model} {A:Around} {E:Value→Shared→Prop} {s:Shared}
theorem gj {scope:Scope} {globals:Addr} {closure:List (Str × Addr)} {qual:Str} {outer:Env} {builtins:Addr} {Q:Env→Shared→Prop}
  (hQ:Q (newEnv scope s.heap.objs.size globals (cellsFrom (s.heap.objs.size+1) scope.names closure) qual none .none (some outer) builtins) { s with heap:=pushCells (s.heap.push { cls:=.type "dict",data:=.dict #[] }) scope.names }) :
  wpAny M A (newFunctionEnv scope globals closure [] qual none .none (some outer) builtins) Q E s:=by
 simp only [newFunctionEnv,Option.isSome_some,if_true]
 refine wpAny_bind (wpAny_alloc ?_)
 refine wpAny_bind (wpAny_layCells _ (fun name kind cells=>by cases hkc:kind == NameKind.cell <;> simp [hkc]) _ _ _ _ ?_)
 rw [show ({ s with heap:=s.heap.push { cls:=.type "dict",data:=.dict #[] } }:Shared).heap.objs.size=s.heap.objs.size+1 from Heap.size_push ..]
 rw [List.forIn_nil]
 exact wpAny_bind (wpAny_pure (wpAny_pure hQ))
end
section
variable {X:Cx} {elt tg iter:Expr} {ifs:List Expr} {scope:Scope} {pos:Pos} {ns:List Str} {js:List (Option Nat)} {wi:TI} {g:TG} {tt:TT} {te:TE}
theorem tP {pins:List (Addr × Obj)} {s3:Shared} {σ:St} {H3:Hp} {fp:List Addr} {h₁:Heap} {tk:Nat} (B:BlkOkC X scope ns js) (I3:Inv X pins σ H3 s3)
  (f3:∀ b∈fp,ge X pins H3 b) (lt3:∀ b∈fp,b < s3.heap.objs.size) (hns:h₁.Ns s3.heap.objs.size (fun _=>none)) (old:∀ b u,s3.heap.get? b=some u→h₁.get? b=some u)
  (cok:CellsOk h₁ (s3.heap.objs.size+1) (cellsFrom (s3.heap.objs.size+1) scope.names [])) :
  Inv (aQ X scope ns s3.heap.objs.size (cellsFrom (s3.heap.objs.size+1) scope.names (cU X.env scope.names)) s3 H3 fp) [] (dH js σ) H3 { s3 with heap:=h₁,toks:=tk }:=by
 rw [dG]
 have hmem:∀ {x:Str} {c:Addr},(x,c)∈cellsFrom (s3.heap.objs.size+1) scope.names []→scope.names.lookup x=some .cell:=fun {x c} h=>by
  rcases ff _ _ _ h with h | h
  ·simp at h
  ·exact B.uniq _ h rfl
 have hhas:∀ {x:Str},scope.names.lookup x=some .cell→∃ c,(cellsFrom (s3.heap.objs.size+1) scope.names []).lookup x=some c:=fun {x} h=>by
  obtain ⟨c,hc⟩:=fg scope.names (s3.heap.objs.size+1) [] (PySem.mem_of_lookup h)
  exact fc hc
 generalize cellsFrom (s3.heap.objs.size+1) scope.names []=CS at cok hmem hhas
 have has:∀ y∈scope.names,y.2=.free→∃ c,X.env.cells.lookup y.1=some c:=fun y hy hk=>I3.ok.has y.1 (B.free y hy hk)
 have look:∀ {n:Str} {c:Addr},(CS++cU X.env scope.names).lookup n=some c→(CS.lookup n=some c∧h₁.IsCell c none∧s3.heap.objs.size+1≤c)∨(CS.lookup n=none∧X.env.cells.lookup n=some c∧c < s3.heap.objs.size):=fun {n c} e=>by
  rcases mZ e with e | ⟨e1,e2⟩
  ·exact .inl ⟨e,cok.empty n c (PySem.mem_of_lookup e)⟩
  ·have e3:=lZ has e2
   obtain ⟨v,hv⟩:=I3.cell n c e3
   exact .inr ⟨e1,e3,hv.lt⟩
 refine ⟨⟨I3.ok.mod,B.kind,I3.ok.glob,I3.ok.blt,Nat.le_refl _,fun y z c h1 h2=>?_,fun y hy=>?_,fun y c hf h=>?_,I3.ok.hd,I3.ok.frames,.inl rfl,fun b hb=>?_,I3.bs,Nat.le_trans I3.ok.bsz I3.sz,
   fun b o e hb=>?_,fun b hb z=>?_,I3.stack,I3.stkFree⟩,
  rfl,I3.bare,Un.kept old,⟨_,hns,fun i x v h1 h2 h3=>?_⟩,fun y c h=>?_,I3.fresh,fun y c h=>?_,fun p hp=>absurd (show p∈([]:List (Addr × Obj)) from hp) (by simp),I3.hok.kept old,?_⟩
 ·rcases look h1 with ⟨a1,_,a3⟩ | ⟨_,a2,a3⟩ <;> rcases look h2 with ⟨b1,_,b3⟩ | ⟨_,b2,b3⟩
  ·exact name_of_addr cok.apart (PySem.mem_of_lookup a1) (PySem.mem_of_lookup b1)
  ·exact absurd (Nat.lt_of_lt_of_le (Nat.lt_of_lt_of_le b3 (Nat.le_succ _)) a3) (Nat.lt_irrefl _)
  ·exact absurd (Nat.lt_of_lt_of_le (Nat.lt_of_lt_of_le a3 (Nat.le_succ _)) b3) (Nat.lt_irrefl _)
  ·exact I3.ok.inj y z c a2 b2
 ·have hf:scope.names.lookup y=some .cell∨scope.names.lookup y=some .free:=by
   rcases hy with hy | hy
   ·rcases im (env:=X.env) hy with q | q
    ·exact .inl q
    ·exact .inr q.1
   ·rcases im (env:=X.env) hy with q | q
    ·exact .inr q
    ·exact .inr q.1
  show ∃ c,(CS++cU X.env scope.names).lookup y=some c
  rcases hf with hf | hf
  ·obtain ⟨c,hc⟩:=hhas hf
   exact ⟨c,jg hc⟩
  ·obtain ⟨c,hc⟩:=ny (env:=X.env) (PySem.mem_of_lookup hf)
   cases e:CS.lookup y with
   | none=>exact ⟨c,iu e hc⟩
   | some d=>exact ⟨d,jg e⟩
 ·rcases look h with ⟨_,_,a3⟩ | ⟨a1,_,_⟩
  ·show s3.heap.objs.size≤c
   omega
  ·have hf':(scope.names.lookup y == some NameKind.cell)=true:=hf
   obtain ⟨d,hd⟩:=hhas (by simpa using hf')
   rw [a1] at hd
   cases hd
 ·refine ⟨Nat.ne_of_lt (lt3 b hb),fun x c e=>?_⟩
  rcases look e with ⟨_,_,a3⟩ | ⟨_,a2,_⟩
  ·have:=lt3 b hb
   intro z
   subst z
   exact Nat.lt_irrefl _ (Nat.lt_of_lt_of_le (Nat.lt_of_lt_of_le this (Nat.le_succ _)) a3)
  ·exact (f3 b hb).2.2.2.2.1 x c a2
 ·rcases (f3 b hb).2.2.2.1 with z | z
  ·exact I3.ok.noex b o e z
  ·exact absurd (Nat.lt_of_lt_of_le (Nat.lt_of_lt_of_le (Heap.lt_size e) I3.ok.bsz) z) (Nat.lt_irrefl _)
 ·rcases List.mem_cons.mp (I3.stkSub b z) with q | q
  ·exact (f3 b hb).2.1 q
  ·exact (f3 b hb).2.2.1 q
 ·have h2':(js.map fun j=>match j with | some j=>(σ[j]?).join | none=>none)[i]?=some (some v):=h2
  rw [List.getElem?_map] at h2'
  obtain ⟨j,hj,hσ⟩:∃ j,js[i]?=some (some j)∧σ[j]?=some (some v):=by
   cases e:js[i]? with
   | none=>rw [e] at h2'; simp at h2'
   | some oj =>
    rw [e] at h2'
    cases oj with
    | none=>simp at h2'
    | some j =>
     refine ⟨j,rfl,?_⟩
     have q:(σ[j]?).join=some v:=by simpa using h2'
     cases e2:σ[j]? with
     | none=>rw [e2] at q; simp at q
     | some ov =>
      rw [e2] at q
      simp at q
      rw [q]
  obtain ⟨hN,hfr⟩:=B.out i x j h1 hj
  have hf:=B.free (x,.free) (PySem.mem_of_lookup hfr) rfl
  have hf':X.env.kindOf x=some .cell∨X.env.kindOf x=some .free:=hf
  obtain ⟨m,hn,hl⟩:=I3.loc
  obtain ⟨u,r,l⟩:=hl j x v hN hσ (by
   rcases hf' with z | z
   ·exact .inr (.inl z)
   ·exact .inr (.inr z))
  refine ⟨u,r,?_⟩
  rcases l with ⟨hk,_⟩ | ⟨hk,c,hc,hcell⟩
  ·rcases hf' with z | z
   ·rw [z] at hk; cases hk
   ·rw [z] at hk; cases hk
  ·obtain ⟨c',hc'⟩:=ny (env:=X.env) (PySem.mem_of_lookup hfr)
   have e':=lZ has hc'
   rw [hc] at e'
   cases e'
   obtain ⟨o,ho,hd⟩:=hcell
   have hno:CS.lookup x=none:=by
    cases e:CS.lookup x with
    | none=>rfl
    | some d =>
     have q:=hmem (PySem.mem_of_lookup e)
     rw [hfr] at q
     cases q
   exact .inr ⟨ku (env:=X.env) hfr,c,iu hno hc',⟨o,old c o ho,hd⟩⟩
 ·rcases look h with ⟨_,a2,_⟩ | ⟨_,a2,_⟩
  ·exact ⟨_,a2⟩
  ·obtain ⟨v,o,ho,hd⟩:=I3.cell y c a2
   exact ⟨v,o,old c o ho,hd⟩
 ·rcases look h with ⟨_,_,a3⟩ | ⟨_,a2,_⟩
  ·exact I3.hok.fresh (by omega)
  ·exact I3.freeC y c a2
 ·show (js.map _).length=ns.length
  rw [List.length_map]
  exact B.len
theorem m6 {pins:List (Addr × Obj)} {s2:Shared} {σ:St} {H2:Hp} {Qv:VK} {J:It} {fp:List Addr} {it:Addr} {tn:Nat→Heap→Prop} {RR:Value→Addr→Result→Shared→Prop}
  (B:BlkOkC X scope ns js) (hc:X.calm=true) (I2:Inv X pins σ H2 s2) (T:Turn X.prog X.w X.K tg J fp it tn) (st2:tn 0 s2.heap) (f2:∀ b∈fp,ge X pins H2 b)
  (hg:∀ C cl s₀ H₀ fp,PG (aQ X scope ns C cl s₀ H₀ fp) tg g) (ht:∀ C cl s₀ H₀ fp,PTs (aQ X scope ns C cl s₀ H₀ fp) ifs tt) (he:∀ C cl s₀ H₀ fp,PE (aQ X scope ns C cl s₀ H₀ fp) elt te)
  (hw:∀ D,H2 D=none→zb J g tt te (dH js σ) H2 D Qv)
  (hRR:∀ D C s' H',Inv X pins σ H' s'→Qv (.ref D) H'→(∃ m,s'.heap.Ns C m)→H' C=none→C≠X.env.locals→X.s₀.heap.objs.size≤C→(∀ x c,X.env.cells.lookup x=some c→c≠C)→(∀ p∈X.pn++pins,p.1≠C)→RR (.ref D) C (.ok .next) s') :
  wpAny (model X.prog X.w) X.A (newList []) (fun acc s₃=>wpAny (model X.prog X.w) X.A (newFunctionEnv scope X.env.globals (cU X.env scope.names) [] X.env.qual none .none (some X.env)) (fun cenv s₄ =>
   codeAny (model X.prog X.w) X.A (.compStart (.ListComp elt [⟨tg,iter,ifs,0⟩] scope pos) 0 (.ref it) acc { cenv with scope:=relabel scope X.env }) (RR acc cenv.locals) s₄) X.xe s₃) X.xe s2:=by
 refine wpAny_newObj_type (gj ?_)
 dsimp only
 have I3:Inv X pins σ (upd H2 s2.heap.objs.size (.lst [])) { s2 with heap:=s2.heap.push { cls:=.type "list",data:=.seq ([]:List Value).toArray },toks:=s2.toks }:=I2.lnew .nil (Nat.zero_le _)
 generalize hs3:({ s2 with heap:=s2.heap.push { cls:=.type "list",data:=.seq ([]:List Value).toArray },toks:=s2.toks }:Shared)=s3 at I3
 have e3:s3.heap=s2.heap.push { cls:=.type "list",data:=.seq ([]:List Value).toArray }:=by rw [← hs3]
 have k3:∀ b u,s2.heap.get? b=some u→s3.heap.get? b=some u:=fun b u e=>by rw [e3]; exact Heap.get?_push_of_some _ e
 have sz3:s3.heap.objs.size=s2.heap.objs.size+1:=by rw [e3,Heap.size_push]
 have hD:H2 s2.heap.objs.size=none:=I2.fresh
 obtain ⟨h₁,hh₁⟩:∃ h₁,h₁=pushCells (s3.heap.push { cls:=.type "dict",data:=.dict #[] }) scope.names:=⟨_,rfl⟩
 have old:∀ b u,s3.heap.get? b=some u→h₁.get? b=some u:=fun b u e=>by
  rw [hh₁]
  exact pushCells_keeps _ _ b u (Heap.get?_push_of_some _ e)
 have hns:h₁.Ns s3.heap.objs.size (fun _=>none):=by
  rw [hh₁]
  exact (Heap.Ns.new s3.heap (.type "dict")).keeps (pushCells_keeps _ _)
 have cok:CellsOk h₁ (s3.heap.objs.size+1) (cellsFrom (s3.heap.objs.size+1) scope.names []):=by
  have q:=cellsFrom_ok scope.names (s3.heap.push { cls:=.type "dict",data:=.dict #[] }) (s3.heap.objs.size+1) [] ⟨fun _ _ hm=>(nomatch hm),List.Pairwise.nil⟩ (by rw [Heap.size_push]; exact Nat.le_refl _)
  rw [Heap.size_push,← hh₁] at q
  exact q
 have obj2:∀ b∈fp,b < s2.heap.objs.size:=fun b hb=>let ⟨o,e,_⟩:=T.obj 0 _ st2 b hb; Heap.lt_size e
 have f3:∀ b∈fp,ge X pins (upd H2 s2.heap.objs.size (.lst [])) b:=fun b hb=>⟨by rw [aR (Nat.ne_of_lt (obj2 b hb))]; exact (f2 b hb).1,(f2 b hb).2⟩
 have lt3:∀ b∈fp,b < s3.heap.objs.size:=fun b hb=>by rw [sz3]; exact Nat.lt_succ_of_lt (obj2 b hb)
 obtain ⟨W,⟨m0,w0⟩,turn⟩:=hw _ hD
 have J0:=fun tk=>tP (tk:=tk) B I3 f3 lt3 hns old cok
 have has:∀ y∈scope.names,y.2=.free→∃ c,X.env.cells.lookup y.1=some c:=fun y hy hk=>I2.ok.has y.1 (B.free y hy hk)
 have stat:∀ {H':Hp},(∀ b∈fp,H' b=none)→∀ b∈fp,ge (aQ X scope ns s3.heap.objs.size (cellsFrom (s3.heap.objs.size+1) scope.names (cU X.env scope.names)) s3 (upd H2 s2.heap.objs.size (.lst [])) fp) [] H' b:=fun hn b hb =>
  ⟨hn b hb,Nat.ne_of_lt (lt3 b hb),(J0 0).ok.exfs b hb,.inl hb,fun x c e=>(J0 0).ok.exf b hb |>.2 x c e,fun p hp=>absurd (show p∈([]:List (Addr × Obj)) from hp) (by simp)⟩
 have fin:∀ {τ:St} {H':Hp} {s':Shared},Inv (aQ X scope ns s3.heap.objs.size (cellsFrom (s3.heap.objs.size+1) scope.names (cU X.env scope.names)) s3 (upd H2 s2.heap.objs.size (.lst [])) fp) [] τ H' s'→Qv (.ref s2.heap.objs.size) H'→RR (.ref s2.heap.objs.size) s3.heap.objs.size (.ok .next) s':=fun {τ H' s'} I6 q=>by
  have u1:Un (frs X.stack) fp H2 (upd H2 s2.heap.objs.size (.lst [])) s2.heap s3.heap:=Un.laid k3 (Nat.le_refl _) hD
  have os3:s3.os=s2.os:=by rw [← hs3]
  have I7:Inv X pins σ H' s':=I2.call' (ch:=fp) (I6.os.trans os3) (u1.trans I6.base) I6.hok I6.bare fun b hb=>⟨(f2 b hb).2.2.2.1,(f2 b hb).2.1,(f2 b hb).2.2.2.2.1,(f2 b hb).2.2.2.2.2⟩
  have le2:s2.heap.objs.size≤s3.heap.objs.size:=by rw [sz3]; exact Nat.le_succ _
  refine hRR _ _ s' H' I7 q ?_ I6.free (Nat.ne_of_gt (Nat.lt_of_lt_of_le I2.lt le2)) (Nat.le_trans I2.sz le2) (fun x c e z=>?_) fun p hp z=>?_
  ·obtain ⟨m,hn,_⟩:=I6.loc
   exact ⟨m,hn⟩
  ·obtain ⟨v,hv⟩:=I2.cell x c e
   exact absurd (Nat.lt_of_lt_of_le hv.lt (by rw [z]; exact le2)) (Nat.lt_irrefl _)
  ·exact absurd (Nat.lt_of_lt_of_le (Heap.lt_size (I2.pin p hp).1) (by rw [z]; exact le2)) (Nat.lt_irrefl _)
 rw [← e3,← hh₁]
 have loop:∀ tk,codeAny (model X.prog X.w) X.A (.compLoop (.ListComp elt [⟨tg,iter,ifs,0⟩] scope pos) 0 (.ref it) (.ref s2.heap.objs.size) (compEnvC scope (cellsFrom (s3.heap.objs.size+1) scope.names (cU X.env scope.names)) s3.heap.objs.size X.env))
   (RR (.ref s2.heap.objs.size) s3.heap.objs.size) { s3 with heap:=h₁,toks:=tk }:=fun tk=>by
  refine codeAny_loop rfl (fun n s'=>∃ i τ H',Inv (aQ X scope ns s3.heap.objs.size (cellsFrom (s3.heap.objs.size+1) scope.names (cU X.env scope.names)) s3 (upd H2 s2.heap.objs.size (.lst [])) fp) [] τ H' s'∧tn i s'.heap∧(∀ b∈fp,H' b=none)∧W i n τ H') (fun n s5 hI=>?_) m0
   ⟨0,_,_,J0 tk,T.keep _ _ _ st2 fun b _ o e=>old b o (k3 b o e),fun b hb=>(f3 b hb).1,w0⟩
  obtain ⟨i,τ,H5,I5,st5,fr5,w5⟩:=hI
  show wpAny _ X.A ((compTurn (.ListComp elt [⟨tg,iter,ifs,0⟩] scope pos) 0 (.ref it) (.ref s2.heap.objs.size) (compEnvC scope (cellsFrom (s3.heap.objs.size+1) scope.names (cU X.env scope.names)) s3.heap.objs.size X.env)).onRaise (fun x=>do noteFrame x (compEnvC scope (cellsFrom (s3.heap.objs.size+1) scope.names (cU X.env scope.names)) s3.heap.objs.size X.env); theTreesLotGoes x)) _ _ s5
  refine wpAny_noted ?_
  rw [compTurn_list]
  refine wpAny_bind (wpAny_standAt (wpAny_bind ?_))
  rcases turn i n τ H5 w5 with ⟨stop,qn⟩ | ⟨go,N,hN,step⟩
  ·refine thn (T.done (aQ X scope ns s3.heap.objs.size (cellsFrom (s3.heap.objs.size+1) scope.names (cU X.env scope.names)) s3 (upd H2 s2.heap.objs.size (.lst [])) fp) rfl rfl rfl hc i [] s5 τ H5 _ I5 (stat fr5) st5 stop) fun r s6 ⟨hr,I6⟩=>?_
   subst hr
   exact wpAny_pure (fin I6 qn)
  ·refine thn (T.item (aQ X scope ns s3.heap.objs.size (cellsFrom (s3.heap.objs.size+1) scope.names (cU X.env scope.names)) s3 (upd H2 s2.heap.objs.size (.lst [])) fp) rfl rfl rfl hc i [] s5 τ H5 _ I5 (stat fr5) st5 go) fun r s6 ⟨u,hr,h6⟩=>?_
   subst hr
   dsimp only
   refine wpAny_bind (thn h6 fun _ s7 ⟨x,H7,I7,r7,y7,st7,fr7⟩=>?_)
   have I7':=I7.pinned (stat fr7) (T.obj _ _ st7)
   have back:∀ {τ9:St} {H9:Hp} {s9:Shared},Inv (aQ X scope ns s3.heap.objs.size (cellsFrom (s3.heap.objs.size+1) scope.names (cU X.env scope.names)) s3 (upd H2 s2.heap.objs.size (.lst [])) fp) ([]++ja fp s7.heap) τ9 H9 s9 →
     Inv (aQ X scope ns s3.heap.objs.size (cellsFrom (s3.heap.objs.size+1) scope.names (cU X.env scope.names)) s3 (upd H2 s2.heap.objs.size (.lst [])) fp) [] τ9 H9 s9∧tn (i+1) s9.heap∧∀ b∈fp,H9 b=none:=fun {τ9 H9 s9} I9=>by
    refine ⟨I9.unpinned,T.keep _ _ _ st7 fun b hb o e=>(I9.pin (b,o) (List.mem_append_right _ (List.mem_append_right _ (fC hb e)))).1,fun b hb=>?_⟩
    obtain ⟨o,e,d⟩:=T.obj _ _ st7 b hb
    exact (I9.pin (b,o) (List.mem_append_right _ (List.mem_append_right _ (fC hb e)))).2.1
   refine wpAny_bind (thF (hg _ _ _ _ _ _ s7 τ H7 x u _ I7' r7 (step x H7 y7)) fun _ s8 ⟨τ8,H8,I8,q8⟩=>?_)
   refine wpAny_bind (thF (ht _ _ _ _ _ _ s8 τ8 H8 _ I8 q8) fun b s9 ⟨H9,I9,q9⟩=>?_)
   cases b with
   | false =>
    rw [if_neg Bool.false_ne_true] at q9
    obtain ⟨m',hm,w9⟩:=hN _ _ q9
    obtain ⟨a1,a2,a3⟩:=back I9
    exact wpAny_pure ⟨rfl,m',hm,i+1,τ8,H9,a1,a2,a3,w9⟩
   | true =>
    rw [if_pos rfl] at q9
    refine wpAny_bind (wpAny_bind (thF (he _ _ _ _ _ _ s9 τ8 H9 _ I9 q9) fun v s10 ⟨y,H10,I10,r10,q10⟩=>?_))
    obtain ⟨xs,hx,hz,n10⟩:=q10
    obtain ⟨m',hm,w10⟩:=hN _ _ n10
    refine wpAny_bind (thF (lP _ s10 τ8 H10 (.ref s2.heap.objs.size) [y] (.ref s2.heap.objs.size) [v] (fun _ H11=>W (i+1) m' τ8 H11) I10 rfl (.cons r10 .nil) ⟨_,xs,y,rfl,rfl,hx,hz,w10⟩) fun _ s11 ⟨_,H11,I11,_,q11⟩=>?_)
    obtain ⟨a1,a2,a3⟩:=back I11
    exact wpAny_pure (wpAny_pure ⟨rfl,m',hm,i+1,τ8,H11,a1,a2,a3,q11⟩)
 have hst1:tn 0 h₁:=T.keep _ _ _ st2 fun b _ o e=>old b o (k3 b o e)
 subst hs3
 exact codeAny_compStart_list (loop _) (T.self _ 0 _ _ _ hst1 (loop _))
theorem qA (B:BlkOkC X scope ns js) (hc:X.calm=true) (hi:PI X tg iter wi)
  (hg:∀ C cl s₀ H₀ fp,PG (aQ X scope ns C cl s₀ H₀ fp) tg g) (ht:∀ C cl s₀ H₀ fp,PTs (aQ X scope ns C cl s₀ H₀ fp) ifs tt) (he:∀ C cl s₀ H₀ fp,PE (aQ X scope ns C cl s₀ H₀ fp) elt te)
  (hs:∀ x,foldedSetIterable iter X.env x=pure x:=by intro _; rfl):PE X (.ListComp elt [⟨tg,iter,ifs,0⟩] scope pos) (tLC wi g tt te js):=by
 intro pins s σ H Q I h
 rw [eval_ListComp]
 have hclos:=kL (scope:=scope) (env:=X.env) (fun y hy hk=>I.ok.has y.1 (B.free y hy hk))
 refine wpAny_comprehension_free (use:=none) rfl hs hclos B.kind B.names (thn (hi pins s σ H _ I h) fun v s1 h1=>thn h1 fun itv s2 h2=>?_)
 obtain ⟨it,fp,tn,J,H2,e,I2,T,st2,f2,hw⟩:=h2
 subst e
 refine m6 (RR:=fun acc C=>compPost (model X.prog X.w) X.A X.xe none (EP X pins σ Q) acc C) B hc I2 T st2 f2 hg ht he hw ?_
 intro D C s' H' I' q hm c0 c1 c2 c3 c4
 obtain ⟨m,hn⟩:=hm
 exact ⟨m,hn,fun h' hs'=>⟨.ref D,H',I'.turned (t':=s'.toks) (fun b o hb e=>(hs'.2 b hb).trans e) c0 c1 (.inr c2) c3 c4,rfl,q⟩⟩
theorem qx {i:Nat} {x:Str} {spos pos':Pos} (hN:X.N.Nodup) (hi':X.N[i]?=some x) (hx:X.env.scope.names.lookup x=some .local) (B:BlkOkC X scope ns js) (hc:X.calm=true) (hi:PI X tg iter wi)
  (hg:∀ C cl s₀ H₀ fp,PG (aQ X scope ns C cl s₀ H₀ fp) tg g) (ht:∀ C cl s₀ H₀ fp,PTs (aQ X scope ns C cl s₀ H₀ fp) ifs tt) (he:∀ C cl s₀ H₀ fp,PE (aQ X scope ns C cl s₀ H₀ fp) elt te)
  (hsw:swapsWith (.ListComp elt [⟨tg,iter,ifs,0⟩] scope pos) (some (.Name x pos')) spos.line X.env=pure true:=by rfl)
  (hs:∀ x,foldedSetIterable iter X.env x=pure x:=by intro _; rfl):PS X (.Assign [.Name x pos'] (.ListComp elt [⟨tg,iter,ifs,0⟩] scope pos) spos) (mM (tLC wi g tt te js) (kH i)):=by
 intro pins s σ H D I h
 rw [exec_Assign_Name_used _ _ _ _ hsw]
 have hclos:=kL (scope:=scope) (env:=X.env) (fun y hy hk=>I.ok.has y.1 (B.free y hy hk))
 refine wpAny_bind (wpAny_standAt (wpAny_bind ?_))
 show wpAny _ X.A (do let _ ← comprehension (.ListComp elt [⟨tg,iter,ifs,0⟩] scope pos) scope X.env _ (newList []) false (eval iter X.env) (some (assign (.Name x pos') X.env))) _ _ s
 refine wpAny_bind (wpAny_mono (wpAny_comprehension_free (use:=some (assign (.Name x pos') X.env)) (Q:=fun _ s'=>SP X pins D .next s') rfl hs hclos B.kind B.names
  (thn (hi pins s σ H _ I h) fun v s1 h1=>thn h1 fun itv s2 h2=>?_)) (fun _ s' hq=>wpAny_pure (wpAny_pure hq)) fun _ _ e=>e)
 obtain ⟨it,fp,tn,J,H2,e,I2,T,st2,f2,hw⟩:=h2
 subst e
 refine m6 (RR:=fun acc C=>compPost (model X.prog X.w) X.A X.xe (some (assign (.Name x pos') X.env)) (fun _ s'=>SP X pins D .next s') acc C) B hc I2 T st2 f2 hg ht he hw ?_
 intro D' C s' H' I' q hm c0 c1 c2 c3 c4
 obtain ⟨m,hn⟩:=hm
 show wpAny _ X.A (assign (.Name x pos') X.env (.ref D')) _ _ _
 refine wpAny_assign_Name (lM (v:=.ref D') I' hN hi' (.inl hx) rfl (fun s4 I4 ⟨a,hsb,ha⟩=>?_) (.inr hx))
 have ne:C≠a:=by
  rcases ha with z | z
  ·rw [z]; exact c1
  ·exact (c3 x a z).symm
 exact ⟨m,hn.sameBut hsb ne,fun h' hs'=>⟨_,H',I4.turned (t':=s4.toks) (fun b o hb e=>(hs'.2 b hb).trans e) c0 c1 (.inr c2) c3 c4,q⟩⟩
end
end L2
namespace L2
open PySem PySem.Spec PyProof.Rows
section
variable {X:Cx} {K:PySem.W.Frag}
def EE:R2:=fun x y H Q=>∃ z n,x=.str z∧y=.int n∧z.length≤4000∧-(2 ^ 63)≤n∧n≤4000∧Q (.str (Txt.mul z n)) H
theorem op_mulS:OpR X (binaryOp .Mult) EE:=by
 intro pins s σ H x y v u Q I rx ry h
 obtain ⟨z,n,rfl,rfl,hz,h0,h1,q⟩:=h
 obtain ⟨t,rfl⟩:=rx
 obtain ⟨t2,rfl⟩:=ry
 exact SB.mul (mulOk_of 4000 4000 hz h1 h0 (by decide) (by decide)) fun t' k=>⟨.str _,H,I.tok _,⟨_,rfl⟩,q⟩
theorem lq {z:Str} {n:Int} {L N:Nat} (hz:z.length≤L) (hn:n≤(N:Int)):(Txt.mul z n).length≤L * N:=PyProof.Rows.len_mul_leN hz hn
theorem jS (ns:List Int):∀ k,k≤ns.length→preSum (fun i=>ns.getD i 0) k=(ns.take k).sum
 | 0,_=>rfl
 | k+1,h=>by
  show preSum (fun i=>ns.getD i 0) k+ns.getD k 0=_
  rw [jS ns k (by omega),PyProof.Rows.take_sum_succ ns k (by omega)]
end
end L2
namespace L2
open PySem PySem.Spec PyProof.Rows
mutual
def DV (H:Hp):V→PyData→Prop
 | v,.none=>v=.non
 | v,.bool b=>v=.bl b
 | v,.int i=>v=.int i
 | v,.str x=>v=.str x
 | v,.list ds=>∃ a xs,v=.ref a∧H a=some (.lst xs)∧DVs H xs ds
 | v,.tuple ds=>∃ a xs,v=.ref a∧H a=some (.tup xs)∧DVs H xs ds
 | _,.dict _=>False
def DVs (H:Hp):List V→List PyData→Prop
 | vs,[]=>vs=[]
 | vs,d :: ds=>∃ v r,vs=v :: r∧DV H v d∧DVs H r ds
end
section
variable {X:Cx} {pins:List (Addr × Obj)} {σ:St} {H:Hp} {s:Shared}
end
section
variable {X:Cx}
end
end L2
namespace L2
open PySem PySem.Spec PyProof.Rows
section
variable {prog:Program} {w:World} {A:Around} {E:Value→Shared→Prop} {s:Shared}
theorem oV {jt tu:Addr} {n:Nat} {vals:Array Value} {y:Value} {R:Value→Shared→Prop} (a1:s.heap.IsTupleIter jt tu n) (a2:s.heap.IsTuple tu vals) (a3:vals[n]?=some y)
  (q:∀ g,g.IsTupleIter jt tu (n+1)→Heap.SameBut jt s.heap g→R y { s with heap:=g }):wpAny (model prog w) A (Builtin.SmallTypes.nextOf (.ref jt)) R E s:=by
 obtain ⟨ob,b1,b2,b3⟩:=id a1
 obtain ⟨ot,c1,_,m,c2⟩:=a2
 unfold Builtin.SmallTypes.nextOf
 refine wpAny_bind (wpAny_callSpecial?_slot (name:=Str.ofString "__next__") a1.typeIs F.slot_tuple_iterator_next (wpAny_call_entry F.slot_tuple_iterator_next a1.typeIs F.entry_tuple_iterator_next ?_ (F.args_tuple_iterator_next_1 _)))
 show wpAny _ _ (field (.ref jt) 0 >>= _) _ _ s
 refine wpAny_bind (wpAny_field b1 b3 (x:=.ref tu) rfl ?_)
 show wpAny _ _ (if (Value.ref tu == Value.none)=true then _ else _) _ _ s
 rw [if_neg (show ¬ ((Value.ref tu == Value.none)=true) from Bool.false_ne_true)]
 show wpAny _ _ (field (.ref jt) 1 >>= _) _ _ s
 refine wpAny_bind (wpAny_field b1 b3 (x:=.int n 0) rfl ?_)
 show wpAny _ _ (seqItems? (.ref tu) >>= _) _ _ s
 refine wpAny_bind (wpAny_seqItems c1 c2 ?_)
 simp only [Int.toNat_natCast,a3]
 refine wpAny_bind (wpAny_setField b1 b3 (by simp) (wpAny_pure ⟨y,rfl,wpAny_pure (q _ ?_ (Heap.SameBut.update ..))⟩))
 refine ⟨_,Heap.get?_update_self _ b1 (Obj.isFreed_of_fields (Obj.data_mapFields b3 _)),(Obj.cls_mapFields ..).trans b2,?_⟩
 rw [Obj.data_mapFields b3]
 simp [rawInt]
theorem lL {jt tu:Addr} {n:Nat} {vals:Array Value} {R:Value→Shared→Prop} (hh:A.handled=none) (a1:s.heap.IsTupleIter jt tu n) (a2:s.heap.IsTuple tu vals) (a3:vals[n]?=none)
  (q:∀ g e,Heap.ExtBut jt s.heap g→(∃ o,g.get? e=some o∧o.cls=.type "StopIteration")→E (.ref e) { s with heap:=g }):wpAny (model prog w) A (Builtin.SmallTypes.nextOf (.ref jt)) R E s:=by
 obtain ⟨ob,b1,b2,b3⟩:=id a1
 obtain ⟨ot,c1,_,m,c2⟩:=a2
 unfold Builtin.SmallTypes.nextOf
 refine wpAny_bind (wpAny_callSpecial?_slot (name:=Str.ofString "__next__") a1.typeIs F.slot_tuple_iterator_next (wpAny_call_entry F.slot_tuple_iterator_next a1.typeIs F.entry_tuple_iterator_next ?_ (F.args_tuple_iterator_next_1 _)))
 show wpAny _ _ (field (.ref jt) 0 >>= _) _ _ s
 refine wpAny_bind (wpAny_field b1 b3 (x:=.ref tu) rfl ?_)
 show wpAny _ _ (if (Value.ref tu == Value.none)=true then _ else _) _ _ s
 rw [if_neg (show ¬ ((Value.ref tu == Value.none)=true) from Bool.false_ne_true)]
 show wpAny _ _ (field (.ref jt) 1 >>= _) _ _ s
 refine wpAny_bind (wpAny_field b1 b3 (x:=.int n 0) rfl ?_)
 show wpAny _ _ (seqItems? (.ref tu) >>= _) _ _ s
 refine wpAny_bind (wpAny_seqItems c1 c2 ?_)
 simp only [Int.toNat_natCast,a3]
 refine wpAny_bind (wpAny_rule (wpAny_bind (wpAny_setField b1 b3 (by simp) ?_)))
 show wpAny _ _ (newExc (.type "StopIteration") [] >>= _) _ _ _
 refine wpAny_bind ?_
 simp only [newExc,newTuple]
 refine wpAny_bind (wpAny_newObj_type ?_ (by show (0:Nat)≤_; exact Nat.zero_le _))
 refine wpAny_bind (m:=firstArgMember _ _) (wpAny_of_eq (a:=Value.none) (by first | rfl | (simp only [firstArgMember]; rfl)) ?_)
 refine wpAny_newObj_type ?_
 simp only [raiseNew]
 refine wpAny_bind (wpAny_handled ?_)
 first | rw [show A.in1.handled=none from hh] | rw [hh]
 refine wpAny_bind (wpAny_pure (wpAny_throw ?_))
 exact q _ _ (((Heap.SameBut.update ..).extBut.push _).push _) ⟨_,Heap.get?_push_size _ rfl,rfl⟩
theorem rD (hh:A.handled=none) (jt tu:Addr) (hne:tu≠jt) (vals:Array Value):Draws prog w A jt [jt,tu] vals.size (fun i v=>vals[i]?=some v) (fun i h=>h.IsTupleIter jt tu i∧h.IsTuple tu vals) where
 live:=fun _ _ st=>let ⟨o,ho,_⟩:=st.1; ⟨o,ho⟩
 frame:=fun _ _ _ st hk=>⟨st.1.at fun o e=>hk jt (by simp) o e,let ⟨o,ho,r⟩:=st.2; ⟨o,hk tu (by simp) o ho,r⟩⟩
 item:=fun i s Q E hi st hQ=>by
  refine oV st.1 st.2 (y:=vals[i]) (by simp [hi]) fun g st' sb=>?_
  exact hQ _ g s.toks (by simp [hi]) ⟨st',let ⟨o,ho,r⟩:=st.2; ⟨o,sb.extBut _ _ hne ho,r⟩⟩ sb
 done:=fun s Q E st hE=>lL hh st.1 st.2 (by simp) hE
end
theorem lr (tu:Addr) (vals:Array Value) (n:Nat) (dct:Option Addr) (sl:Array (Option Value)) :
  Meets (Builtin.«enumerate.__new__» ⟨[.type "enumerate",.ref tu],[]⟩) (fun _ R s=>s.heap.get? tu=some { cls:=.type "tuple",dict:=dct,data:=.seq vals n,slots:=sl } ∧
   R (.ok (.ret (.ref (s.heap.push { cls:=.type "tuple_iterator",data:=.fields #[.ref tu,.int 0 0] }).objs.size)))
    { s with heap:=(s.heap.push { cls:=.type "tuple_iterator",data:=.fields #[.ref tu,.int 0 0] }).push { cls:=.type "enumerate",data:=.fields #[.none,.bool false,.ref s.heap.objs.size,rawInt 0,.none,.none] } }) :=
 .of_wp fun prog w A R s h=>by
  obtain ⟨hp,g,d,tk,os⟩:=s
  obtain ⟨ht,h⟩:=h
  have hsub:=sub_enumerate
  have hT:Heap.IsTuple (Shared.heap ⟨hp,g,d,tk,os⟩) tu vals:=⟨_,ht,rfl,n,rfl⟩
  wp_walk using AutoSeq1.wpAny_loadPart' ht
  refine wpAny_stack_any fun st=>wpAny_pure ?_
  split
  ·rename_i c _ _ _ _ _
   cases (c == Value.type "enumerate")
   ·wp_walk using AutoSeq1.wpAny_loadPart' ht,wpAny_pyIter_tuple hT
    exact ⟨_,rfl,h⟩
   ·wp_walk using AutoSeq1.wpAny_loadPart' ht,wpAny_pyIter_tuple hT
    exact ⟨_,rfl,h⟩
  ·wp_walk using AutoSeq1.wpAny_loadPart' ht,wpAny_pyIter_tuple hT
   exact ⟨_,rfl,h⟩
end L2
namespace L2
open PySem PySem.Spec PyProof.Rows
section
variable {prog:Program} {w:World} {A:Around} {E:Value→Shared→Prop} {s:Shared}
theorem mw {tu:Addr} {vals:Array Value} {Q:Value→Shared→Prop} (hT:s.heap.IsTuple tu vals)
  (h:∀ g,IsEnum g (s.heap.objs.size+1) s.heap.objs.size 0 .none→g.IsTupleIter s.heap.objs.size tu 0→g.objs.size=s.heap.objs.size+2 →
   (∀ b o,s.heap.get? b=some o→g.get? b=some o)→Q (.ref (s.heap.objs.size+1)) { s with heap:=g }) :
  wpAny (model prog w) A (call (.type "enumerate") [.ref tu]) Q E s:=by
 obtain ⟨⟨c,dct,dt,sl⟩,hl,hc,n,hd⟩:=hT
 have hc':c=.type "tuple":=hc
 have hd':dt=.seq vals n:=hd
 subst hc' hd'
 refine callType_new F.called_enumerate (by decide) (F.typeCall_enumerate_1 _) (F.newCall_enumerate_1 _) (fun ob=>F.args_object_init_2 ob _) F.entry_enumerate_new (lr tu vals n dct sl) ⟨hl,?_⟩
 have sz1:(s.heap.push { cls:=.type "tuple_iterator",data:=.fields #[.ref tu,.int 0 0] }).objs.size=s.heap.objs.size+1:=Heap.size_push ..
 show _∧_
 rw [sz1]
 have g2:=Heap.get?_push_size (s.heap.push { cls:=.type "tuple_iterator",data:=.fields #[.ref tu,.int 0 0] }) (o:={ cls:=.type "enumerate",data:=.fields #[.none,.bool false,.ref s.heap.objs.size,rawInt 0,.none,.none] }) rfl
 rw [sz1] at g2
 refine ⟨⟨_,g2,rfl⟩,h _ g2 ⟨_,Heap.get?_push_of_some _ (Heap.get?_push_size _ rfl),rfl,rfl⟩ (by rw [Heap.size_push,sz1]) fun b o x=>Heap.get?_push_of_some _ (Heap.get?_push_of_some _ x)⟩
theorem rB {e it tu:Addr} {i:Int} {n:Nat} {vals:Array Value} {old:Value} {Q:Option Value→Shared→Prop} (hh:A.handled=none) (he:IsEnum s.heap e it i old) (a1:s.heap.IsTupleIter it tu n) (a2:s.heap.IsTuple tu vals) (a3:vals[n]?=none)
  (q:∀ g,Heap.ExtBut it s.heap g→Q none { s with heap:=g }):wpAny (model prog w) A (pyNext (.ref e)) Q E s:=by
 have ty:s.TypeIs (.ref e) "enumerate":=⟨_,he,rfl⟩
 unfold pyNext
 refine wpAny_bind (wpAny_attempt (wpAny_callSpecial?_slot (name:=Str.ofString "__next__") ty F.slot_enumerate_next (wpAny_call_entry F.slot_enumerate_next ty F.entry_enumerate_next ?_ (F.args_enumerate_next_1 _))))
 show wpAny _ _ (field (.ref e) 2 >>= _) _ _ _
 refine wpAny_bind (wpAny_field he rfl (x:=.ref it) rfl ?_)
 refine wpAny_bind (lL hh a1 a2 a3 fun g x k hx=>?_)
 obtain ⟨o,ho,hc⟩:=hx
 exact wpAny_bind (wpAny_isInstance (T:="StopIteration") (b:=true) ⟨o,ho,hc⟩ isSubtype_stop (wpAny_pure (q _ k)))
end
def ItT (K:PySem.W.Frag) (a:Addr):It :=
 ⟨fun i H=>∃ xs x,SqT K H a xs∧xs[i]?=some x,
  fun i H y H'=>∃ p x,y=.ref p∧H p=none∧H'=upd H p (.tup [.int i,x])∧∀ xs,SqT K H a xs→xs[i]?=some x,
  fun i H=>∃ xs,SqT K H a xs∧xs.length≤i⟩
theorem oU {P:Program} {w:World} {K:PySem.W.Frag} {elts:List Expr} {k:Nat} {tp:Pos} (a e it:Addr) (hei:e≠it) (hai:a≠it) :
  Turn P w K (.Tuple elts k tp) (ItT K a) [e,it] e (fun i h=>(∃ old,IsEnum h e it i old)∧h.IsTupleIter it a i) where
 mem:=by simp
 obj:=fun i h st b hb=>by
  obtain ⟨⟨old,he⟩,o,ho,hc,hd⟩:=st
  have hb':b=e∨b=it:=by simpa using hb
  rcases hb' with rfl | rfl
  ·exact ⟨_,he,fun v z=>by
    have z':Data.fields _=Data.cell v:=z
    cases z'⟩
  ·exact ⟨o,ho,fun v z=>by rw [hd] at z; cases z⟩
 keep:=fun i h h' st kp=>⟨let ⟨old,he⟩:=st.1; ⟨old,kp e (by simp) _ he⟩,st.2.at fun o q=>kp it (by simp) o q⟩
 item:=by
  intro X hP hw hK hc i pins s σ H E I hf st hg
  subst hP hw hK
  obtain ⟨xs,x,hq,hx⟩:=hg
  obtain ⟨its,rv,pt,hz⟩:=I.tuple hq
  obtain ⟨u,hu,ru⟩:=rv.get hx
  obtain ⟨⟨old,he⟩,hit⟩:=st
  have hT:s.heap.IsTuple a its.toArray:=pt
  have hea:e≠a:=fun z=>by
   subst z
   obtain ⟨o,e1,e2,_⟩:=id hT
   have he':s.heap.get? e=some _:=he
   rw [e1] at he'
   cases he'
   simp at e2
  have hu':its.toArray[i]?=some u:=by simpa using hu
  have hlt:i < its.toArray.size:=(Array.getElem?_eq_some_iff.mp hu').1
  refine wpAny_pyNext_enum_itemD (rD (A:=X.A.in1) (show X.A.in1.handled=none from I.ok.hd hc) it a hai its.toArray) he ⟨hit,hT⟩ hlt hei (by simp [hei,hea]) fun y h1 tk hy ho1 st1 ht1 hz1 hk1=>?_
  rw [hu'] at hy
  cases hy
  refine ⟨_,rfl,wpAny_letOwnedTupleGo_enum ho1 fun h2 he2 hs2=>?_⟩
  have eL:e < s.heap.objs.size:=Heap.lt_size he
  have ht2:h2.get? s.heap.objs.size=some { cls:=.type "tuple",data:=.seq #[.int i tk,u] }:=(hs2.2 _ (Nat.ne_of_gt eL)).trans ht1
  have hit2:h2.IsTupleIter it a (i+1):=st1.1.at fun o q=>hs2.extBut _ _ hei.symm q
  have I2:Inv X pins σ (upd H s.heap.objs.size (.tup [.int i,x])) { s with heap:=h2,toks:=tk+1 }:=by
   refine I.turnedLaid (fp:=[e,it]) hf (Nat.le_refl _) (fun b ob hb q=>?_) (fun b hb=>?_) ?_
   ·have h1:b≠e:=fun z=>hb (by simp [z])
    have h2':b≠it:=fun z=>hb (by simp [z])
    exact (hs2.2 b h1).trans (hk1 b ob h1 h2' q)
   ·have hb':b=e∨b=it:=by simpa using hb
    rcases hb' with rfl | rfl
    ·exact ⟨_,he2⟩
    ·obtain ⟨o,ho,_⟩:=hit2
     exact ⟨o,ho⟩
   ·refine ⟨(by show 2≤sizeLine; decide),[.int i tk,u],.cons ⟨_,rfl⟩ (.cons ru .nil),?_⟩
    exact ⟨_,ht2,rfl,_,rfl,rfl⟩
  have fr:∀ b∈[e,it],upd H s.heap.objs.size (.tup [.int i,x]) b=none:=fun b hb=>by
   have hlt:b < s.heap.objs.size:=by
    have hb':b=e∨b=it:=by simpa using hb
    rcases hb' with rfl | rfl
    ·exact eL
    ·obtain ⟨o,ho,_⟩:=hit
     exact Heap.lt_size ho
   rw [aR (Nat.ne_of_lt hlt)]
   exact (hf b hb).1
  exact ⟨.ref s.heap.objs.size,_,I2,rfl,⟨_,x,rfl,I.fresh,rfl,fun ys hy=>by rw [I.tuple_inj hy hq]; exact hx⟩,⟨⟨_,he2⟩,hit2⟩,fr⟩
 done:=by
  intro X hP hw hK hc i pins s σ H E I hf st hg
  subst hP hw hK
  obtain ⟨xs,hq,hx⟩:=hg
  obtain ⟨its,rv,pt,hz⟩:=I.tuple hq
  obtain ⟨⟨old,he⟩,hit⟩:=st
  obtain ⟨f0,f1,f2,f3,f4,f5⟩:=hf it (by simp)
  have hl:=rv.length
  have hT:s.heap.IsTuple a its.toArray:=pt
  exact rB (I.ok.hd hc) he hit hT (by simp; omega) fun h' eb=>⟨rfl,I.turned (t':=s.toks) (fun b o hb q=>eb b o hb q) f0 f1 f3 f4 f5⟩
 self:=fun _ _ _ _ _ st h=>let ⟨⟨_,he⟩,_⟩:=st; wpAny_pyIter_enum he h
section
variable {X:Cx} {K:PySem.W.Frag}
end
end L2
namespace L2
open PySem PySem.Spec PyProof.Rows
section
open PySem.SeqAt
end
end L2
namespace L2
open PySem PySem.Spec PyProof.Rows
def Rp (H:Hp) (v:V) (txt:Str):Prop:=(∃ d,DV H v d∧d.showable=true∧d.depth≤60∧d.shown.length≤sizeLine∧txt=d.shown)∨∃ a,v=.ref a∧H a=some (.dK [])∧txt=("{}" : Str)
section
variable {X:Cx}
end
end L2
namespace L2
open PySem PySem.Spec PyProof.Rows
abbrev D:=PyData
abbrev En:=List (Option D)
abbrev AS:=Addr→Prop
def dn:Nat→Nat
 | 0=>0
 | 1=>0
 | 2=>1
 | n+3=>n+3
theorem lF:∀ {a b:Nat},a≤b→dn a≤dn b
 | 0,_,_=>Nat.zero_le _
 | 1,_,_=>Nat.zero_le _
 | 2,2,_=>Nat.le_refl _
 | 2,b+3,_=>by show 1≤b+3; omega
 | a+3,b+3,h=>h
 | a+3,0,h=>by omega
 | a+3,1,h=>by omega
 | a+3,2,h=>by omega
 | 2,0,h=>by omega
 | 2,1,h=>by omega
def kD:Key→D
 | .inl i=>.int i
 | .inr x=>.str x
def FzL (K:PySem.W.Frag) (O:AS) (H:Hp) (a:Addr) (vs:List V):Prop:=(Rd H a (.lst vs)∧¬ O a)∨∀ H',SqL K H' a vs
def FzT (K:PySem.W.Frag) (O:AS) (H:Hp) (a:Addr) (vs:List V):Prop:=H a=some (.tup vs)∧¬ O a
theorem FzL.sq {K:PySem.W.Frag} {O:AS} {H:Hp} {a:Addr} {vs:List V} (h:FzL K O H a vs):SqL K H a vs:=h.elim (fun h=>.inl h.1) fun h=>h H
theorem FzT.sq {K:PySem.W.Frag} {O:AS} {H:Hp} {a:Addr} {vs:List V} (h:FzT K O H a vs):SqT K H a vs:=SqT.of h.1
mutual
def Ow (K:PySem.W.Frag) (O:AS) (H:Hp):D→Nat→V→AS→Prop
 | .none,_,v,_=>v=.non
 | .bool b,_,v,_=>v=.bl b
 | .int i,_,v,_=>v=.int i
 | .str x,_,v,_=>v=.str x
 | .tuple ts,d,v,F=>∃ a vs,v=.ref a∧((d=0∧FzT K O H a vs∧Ows K O H ts 0 vs F)∨(d≠0∧H a=some (.tup vs)∧F a∧∃ F':AS,(∀ b,F' b→F b∧b≠a)∧Ows K O H ts (dn d) vs F'))
 | .list ts,d,v,F=>∃ a vs,v=.ref a∧((d=0∧FzL K O H a vs∧Ows K O H ts 0 vs F)∨(d≠0∧H a=some (.lst vs)∧F a∧∃ F':AS,(∀ b,F' b→F b∧b≠a)∧Ows K O H ts (dn d) vs F'))
 | .dict ks,d,v,F=>∃ a vs,v=.ref a∧((d=0∧H a=some (.dK vs)∧¬ O a∧Owd K O H ks 0 vs F)∨(d≠0∧H a=some (.dK vs)∧F a∧∃ F':AS,(∀ b,F' b→F b∧b≠a)∧Owd K O H ks (dn d) vs F'))
def Ows (K:PySem.W.Frag) (O:AS) (H:Hp):List D→Nat→List V→AS→Prop
 | [],_,vs,_=>vs=[]
 | t :: ts,d,vs,F=>∃ v r,∃ F1 F2:AS,vs=v :: r∧(∀ b,F1 b→F b)∧(∀ b,F2 b→F b)∧(∀ b,F1 b→¬ F2 b)∧Ow K O H t d v F1∧Ows K O H ts d r F2
def Owd (K:PySem.W.Frag) (O:AS) (H:Hp):List (D × D)→Nat→List (Key × V)→AS→Prop
 | [],_,vs,_=>vs=[]
 | (k,t) :: ts,d,vs,F=>∃ q v r,∃ F1 F2:AS,vs=(q,v) :: r∧k=kD q∧(∀ b,F1 b→F b)∧(∀ b,F2 b→F b)∧(∀ b,F1 b→¬ F2 b)∧Ow K O H t d v F1∧Owd K O H ts d r F2
end
section
variable {K:PySem.W.Frag} {O O':AS} {H H':Hp}
theorem Rd.mv {a:Addr} {u:HO} (hk:∀ o,H a=some o→H' a=some o) (h:Rd H a u):Rd H' a u:=by
 rcases h with h | ⟨o,h⟩
 ·exact .inl (hk _ h)
 ·exact .inr ⟨o,hk _ h⟩
theorem Rd.there {a:Addr} {u:HO} (h:Rd H a u):H a≠none:=by
 rcases h with h | ⟨o,h⟩ <;> rw [h] <;> exact fun z=>nomatch z
structure Mv (O O':AS) (G:AS) (H H':Hp):Prop where
 k:∀ a o,H a=some o→(¬ O a∨G a)→H' a=some o
 o:∀ a,O' a→O a∨H a=none
theorem FzL.mv {G:AS} {a:Addr} {vs:List V} (m:Mv O O' G H H') (h:FzL K O H a vs):FzL K O' H' a vs:=by
 rcases h with ⟨h,n⟩ | h
 ·refine .inl ⟨h.mv fun o e=>m.k _ _ e (.inl n),fun z=>?_⟩
  rcases m.o _ z with z | z
  ·exact n z
  ·exact h.there z
 ·exact .inr h
theorem FzT.mv {G:AS} {a:Addr} {vs:List V} (m:Mv O O' G H H') (h:FzT K O H a vs):FzT K O' H' a vs:=by
 obtain ⟨h,n⟩:=h
 refine ⟨m.k _ _ h (.inl n),fun z=>?_⟩
 rcases m.o _ z with z | z
 ·exact n z
 ·rw [h] at z; cases z
mutual
theorem Ow.mv {G:AS} (m:Mv O O' G H H'):∀ (t:D) {d:Nat} {v:V} {F:AS},(∀ b,F b→G b)→Ow K O H t d v F→Ow K O' H' t d v F
 | .none,_,_,_,_,h=>h
 | .bool _,_,_,_,_,h=>h
 | .int _,_,_,_,_,h=>h
 | .str _,_,_,_,_,h=>h
 | .tuple ts,_,_,_,g,h=>by
  obtain ⟨a,vs,e,⟨h0,h1,h2⟩ | ⟨h0,h1,h2,F',hf,h3⟩⟩:=h
  ·exact ⟨a,vs,e,.inl ⟨h0,h1.mv m,Ows.mv m ts g h2⟩⟩
  ·exact ⟨a,vs,e,.inr ⟨h0,m.k _ _ h1 (.inr (g _ h2)),h2,F',hf,Ows.mv m ts (fun b hb=>g _ (hf b hb).1) h3⟩⟩
 | .list ts,_,_,_,g,h=>by
  obtain ⟨a,vs,e,⟨h0,h1,h2⟩ | ⟨h0,h1,h2,F',hf,h3⟩⟩:=h
  ·exact ⟨a,vs,e,.inl ⟨h0,h1.mv m,Ows.mv m ts g h2⟩⟩
  ·exact ⟨a,vs,e,.inr ⟨h0,m.k _ _ h1 (.inr (g _ h2)),h2,F',hf,Ows.mv m ts (fun b hb=>g _ (hf b hb).1) h3⟩⟩
 | .dict ks,_,_,_,g,h=>by
  obtain ⟨a,vs,e,⟨h0,h1,hn,h2⟩ | ⟨h0,h1,h2,F',hf,h3⟩⟩:=h
  ·refine ⟨a,vs,e,.inl ⟨h0,m.k _ _ h1 (.inl hn),fun z=>?_,Owd.mv m ks g h2⟩⟩
   rcases m.o _ z with z | z
   ·exact hn z
   ·rw [h1] at z; cases z
  ·exact ⟨a,vs,e,.inr ⟨h0,m.k _ _ h1 (.inr (g _ h2)),h2,F',hf,Owd.mv m ks (fun b hb=>g _ (hf b hb).1) h3⟩⟩
theorem Ows.mv {G:AS} (m:Mv O O' G H H'):∀ (ts:List D) {d:Nat} {vs:List V} {F:AS},(∀ b,F b→G b)→Ows K O H ts d vs F→Ows K O' H' ts d vs F
 | [],_,_,_,_,h=>h
 | t :: ts,_,_,_,g,h=>by
  obtain ⟨v,r,F1,F2,e,h1,h2,h3,h4,h5⟩:=h
  exact ⟨v,r,F1,F2,e,h1,h2,h3,Ow.mv m t (fun b hb=>g _ (h1 b hb)) h4,Ows.mv m ts (fun b hb=>g _ (h2 b hb)) h5⟩
theorem Owd.mv {G:AS} (m:Mv O O' G H H'):∀ (ts:List (D × D)) {d:Nat} {vs:List (Key × V)} {F:AS},(∀ b,F b→G b)→Owd K O H ts d vs F→Owd K O' H' ts d vs F
 | [],_,_,_,_,h=>h
 | (k,t) :: ts,_,_,_,g,h=>by
  obtain ⟨q,v,r,F1,F2,e,e2,h1,h2,h3,h4,h5⟩:=h
  exact ⟨q,v,r,F1,F2,e,e2,h1,h2,h3,Ow.mv m t (fun b hb=>g _ (h1 b hb)) h4,Owd.mv m ts (fun b hb=>g _ (h2 b hb)) h5⟩
end
theorem FzL.sub {a:Addr} {vs:List V} (ho:∀ a,O' a→O a) (h:FzL K O H a vs):FzL K O' H a vs:=h.imp (fun h=>⟨h.1,fun z=>h.2 (ho _ z)⟩) id
theorem FzT.sub {a:Addr} {vs:List V} (ho:∀ a,O' a→O a) (h:FzT K O H a vs):FzT K O' H a vs:=⟨h.1,fun z=>h.2 (ho _ z)⟩
mutual
theorem Ow.cut:∀ (t:D) {d d':Nat} {v:V} {F:AS},d'≤d→Ow K O H t d v F→∃ F':AS,(∀ b,F' b→F b)∧∀ O':AS,(∀ a,O' a→O a)→(∀ a,F a→O' a→F' a)→Ow K O' H t d' v F'
 | .none,_,_,_,F,_,h=>⟨F,fun _ z=>z,fun _ _ _=>h⟩
 | .bool _,_,_,_,F,_,h=>⟨F,fun _ z=>z,fun _ _ _=>h⟩
 | .int _,_,_,_,F,_,h=>⟨F,fun _ z=>z,fun _ _ _=>h⟩
 | .str _,_,_,_,F,_,h=>⟨F,fun _ z=>z,fun _ _ _=>h⟩
 | .tuple ts,d,d',_,F,hd,h=>by
  obtain ⟨a,vs,e,⟨h0,h1,h2⟩ | ⟨h0,h1,h2,G,hg,h3⟩⟩:=h
  ·subst h0
   have e0:d'=0:=by omega
   subst e0
   obtain ⟨F',s1,s2⟩:=Ows.cut ts (Nat.le_refl _) h2
   exact ⟨F',s1,fun O' ho hx=>⟨a,vs,e,.inl ⟨rfl,h1.sub ho,s2 O' ho hx⟩⟩⟩
  ·by_cases e0:d'=0
   ·subst e0
    obtain ⟨F',s1,s2⟩:=Ows.cut ts (Nat.zero_le _) h3
    refine ⟨F',fun b hb=>(hg _ (s1 b hb)).1,fun O' ho hx=>⟨a,vs,e,.inl ⟨rfl,⟨h1,fun z=>(hg _ (s1 _ (hx _ h2 z))).2 rfl⟩,s2 O' ho fun b hb=>hx b (hg b hb).1⟩⟩⟩
   ·obtain ⟨F',s1,s2⟩:=Ows.cut ts (lF hd) h3
    refine ⟨fun b=>b=a∨F' b,fun b hb=>hb.elim (fun z=>z ▸ h2) fun z=>(hg _ (s1 b z)).1,fun O' ho hx=>⟨a,vs,e,.inr ⟨e0,h1,.inl rfl,F',fun b hb=>⟨.inr hb,(hg _ (s1 b hb)).2⟩,s2 O' ho fun b hb hz=>?_⟩⟩⟩
    exact (hx b (hg b hb).1 hz).elim (fun z=>absurd z (hg b hb).2) id
 | .list ts,d,d',_,F,hd,h=>by
  obtain ⟨a,vs,e,⟨h0,h1,h2⟩ | ⟨h0,h1,h2,G,hg,h3⟩⟩:=h
  ·subst h0
   have e0:d'=0:=by omega
   subst e0
   obtain ⟨F',s1,s2⟩:=Ows.cut ts (Nat.le_refl _) h2
   exact ⟨F',s1,fun O' ho hx=>⟨a,vs,e,.inl ⟨rfl,h1.sub ho,s2 O' ho hx⟩⟩⟩
  ·by_cases e0:d'=0
   ·subst e0
    obtain ⟨F',s1,s2⟩:=Ows.cut ts (Nat.zero_le _) h3
    refine ⟨F',fun b hb=>(hg _ (s1 b hb)).1,fun O' ho hx=>⟨a,vs,e,.inl ⟨rfl,.inl ⟨.inl h1,fun z=>(hg _ (s1 _ (hx _ h2 z))).2 rfl⟩,s2 O' ho fun b hb=>hx b (hg b hb).1⟩⟩⟩
   ·obtain ⟨F',s1,s2⟩:=Ows.cut ts (lF hd) h3
    refine ⟨fun b=>b=a∨F' b,fun b hb=>hb.elim (fun z=>z ▸ h2) fun z=>(hg _ (s1 b z)).1,fun O' ho hx=>⟨a,vs,e,.inr ⟨e0,h1,.inl rfl,F',fun b hb=>⟨.inr hb,(hg _ (s1 b hb)).2⟩,s2 O' ho fun b hb hz=>?_⟩⟩⟩
    exact (hx b (hg b hb).1 hz).elim (fun z=>absurd z (hg b hb).2) id
 | .dict ts,d,d',_,F,hd,h=>by
  obtain ⟨a,vs,e,⟨h0,h1,hn,h2⟩ | ⟨h0,h1,h2,G,hg,h3⟩⟩:=h
  ·subst h0
   have e0:d'=0:=by omega
   subst e0
   obtain ⟨F',s1,s2⟩:=Owd.cut ts (Nat.le_refl _) h2
   exact ⟨F',s1,fun O' ho hx=>⟨a,vs,e,.inl ⟨rfl,h1,fun z=>hn (ho _ z),s2 O' ho hx⟩⟩⟩
  ·by_cases e0:d'=0
   ·subst e0
    obtain ⟨F',s1,s2⟩:=Owd.cut ts (Nat.zero_le _) h3
    refine ⟨F',fun b hb=>(hg _ (s1 b hb)).1,fun O' ho hx=>⟨a,vs,e,.inl ⟨rfl,h1,fun z=>(hg _ (s1 _ (hx _ h2 z))).2 rfl,s2 O' ho fun b hb=>hx b (hg b hb).1⟩⟩⟩
   ·obtain ⟨F',s1,s2⟩:=Owd.cut ts (lF hd) h3
    refine ⟨fun b=>b=a∨F' b,fun b hb=>hb.elim (fun z=>z ▸ h2) fun z=>(hg _ (s1 b z)).1,fun O' ho hx=>⟨a,vs,e,.inr ⟨e0,h1,.inl rfl,F',fun b hb=>⟨.inr hb,(hg _ (s1 b hb)).2⟩,s2 O' ho fun b hb hz=>?_⟩⟩⟩
    exact (hx b (hg b hb).1 hz).elim (fun z=>absurd z (hg b hb).2) id
theorem Ows.cut:∀ (ts:List D) {d d':Nat} {vs:List V} {F:AS},d'≤d→Ows K O H ts d vs F→∃ F':AS,(∀ b,F' b→F b)∧∀ O':AS,(∀ a,O' a→O a)→(∀ a,F a→O' a→F' a)→Ows K O' H ts d' vs F'
 | [],_,_,_,F,_,h=>⟨F,fun _ z=>z,fun _ _ _=>h⟩
 | t :: ts,_,_,_,F,hd,h=>by
  obtain ⟨v,r,F1,F2,e,h1,h2,h3,h4,h5⟩:=h
  obtain ⟨G1,a1,a2⟩:=Ow.cut t hd h4
  obtain ⟨G2,b1,b2⟩:=Ows.cut ts hd h5
  refine ⟨fun b=>G1 b∨G2 b,fun b hb=>hb.elim (fun z=>h1 _ (a1 _ z)) fun z=>h2 _ (b1 _ z),fun O' ho hx=>⟨v,r,G1,G2,e,fun b=>.inl,fun b=>.inr,fun b z1 z2=>h3 b (a1 b z1) (b1 b z2),a2 O' ho fun b hb hz=>?_,b2 O' ho fun b hb hz=>?_⟩⟩
  ·exact (hx b (h1 b hb) hz).elim id fun z=>absurd (b1 b z) (h3 b hb)
  ·exact (hx b (h2 b hb) hz).elim (fun z=>absurd hb (h3 b (a1 b z))) id
theorem Owd.cut:∀ (ts:List (D × D)) {d d':Nat} {vs:List (Key × V)} {F:AS},d'≤d→Owd K O H ts d vs F→∃ F':AS,(∀ b,F' b→F b)∧∀ O':AS,(∀ a,O' a→O a)→(∀ a,F a→O' a→F' a)→Owd K O' H ts d' vs F'
 | [],_,_,_,F,_,h=>⟨F,fun _ z=>z,fun _ _ _=>h⟩
 | (k,t) :: ts,_,_,_,F,hd,h=>by
  obtain ⟨q,v,r,F1,F2,e,e2,h1,h2,h3,h4,h5⟩:=h
  obtain ⟨G1,a1,a2⟩:=Ow.cut t hd h4
  obtain ⟨G2,b1,b2⟩:=Owd.cut ts hd h5
  refine ⟨fun b=>G1 b∨G2 b,fun b hb=>hb.elim (fun z=>h1 _ (a1 _ z)) fun z=>h2 _ (b1 _ z),fun O' ho hx=>⟨q,v,r,G1,G2,e,e2,fun b=>.inl,fun b=>.inr,fun b z1 z2=>h3 b (a1 b z1) (b1 b z2),a2 O' ho fun b hb hz=>?_,b2 O' ho fun b hb hz=>?_⟩⟩
  ·exact (hx b (h1 b hb) hz).elim id fun z=>absurd (b1 b z) (h3 b hb)
  ·exact (hx b (h2 b hb) hz).elim (fun z=>absurd hb (h3 b (a1 b z))) id
end
mutual
theorem Ow.grow (ho:∀ a,O' a→O a):∀ (t:D) {d:Nat} {v:V} {F F':AS},(∀ b,F b→F' b)→Ow K O H t d v F→Ow K O' H t d v F'
 | .none,_,_,_,_,_,h=>h
 | .bool _,_,_,_,_,_,h=>h
 | .int _,_,_,_,_,_,h=>h
 | .str _,_,_,_,_,_,h=>h
 | .tuple ts,_,_,_,_,hf,h=>by
  obtain ⟨a,vs,e,⟨h0,h1,h2⟩ | ⟨h0,h1,h2,G,hg,h3⟩⟩:=h
  ·exact ⟨a,vs,e,.inl ⟨h0,h1.sub ho,Ows.grow ho ts hf h2⟩⟩
  ·exact ⟨a,vs,e,.inr ⟨h0,h1,hf _ h2,G,fun b hb=>⟨hf _ (hg b hb).1,(hg b hb).2⟩,Ows.grow ho ts (fun _ z=>z) h3⟩⟩
 | .list ts,_,_,_,_,hf,h=>by
  obtain ⟨a,vs,e,⟨h0,h1,h2⟩ | ⟨h0,h1,h2,G,hg,h3⟩⟩:=h
  ·exact ⟨a,vs,e,.inl ⟨h0,h1.sub ho,Ows.grow ho ts hf h2⟩⟩
  ·exact ⟨a,vs,e,.inr ⟨h0,h1,hf _ h2,G,fun b hb=>⟨hf _ (hg b hb).1,(hg b hb).2⟩,Ows.grow ho ts (fun _ z=>z) h3⟩⟩
 | .dict ts,_,_,_,_,hf,h=>by
  obtain ⟨a,vs,e,⟨h0,h1,hn,h2⟩ | ⟨h0,h1,h2,G,hg,h3⟩⟩:=h
  ·exact ⟨a,vs,e,.inl ⟨h0,h1,fun z=>hn (ho _ z),Owd.grow ho ts hf h2⟩⟩
  ·exact ⟨a,vs,e,.inr ⟨h0,h1,hf _ h2,G,fun b hb=>⟨hf _ (hg b hb).1,(hg b hb).2⟩,Owd.grow ho ts (fun _ z=>z) h3⟩⟩
theorem Ows.grow (ho:∀ a,O' a→O a):∀ (ts:List D) {d:Nat} {vs:List V} {F F':AS},(∀ b,F b→F' b)→Ows K O H ts d vs F→Ows K O' H ts d vs F'
 | [],_,_,_,_,_,h=>h
 | t :: ts,_,_,_,_,hf,h=>by
  obtain ⟨v,r,F1,F2,e,h1,h2,h3,h4,h5⟩:=h
  exact ⟨v,r,F1,F2,e,fun b z=>hf _ (h1 b z),fun b z=>hf _ (h2 b z),h3,Ow.grow ho t (fun _ z=>z) h4,Ows.grow ho ts (fun _ z=>z) h5⟩
theorem Owd.grow (ho:∀ a,O' a→O a):∀ (ts:List (D × D)) {d:Nat} {vs:List (Key × V)} {F F':AS},(∀ b,F b→F' b)→Owd K O H ts d vs F→Owd K O' H ts d vs F'
 | [],_,_,_,_,_,h=>h
 | (k,t) :: ts,_,_,_,_,hf,h=>by
  obtain ⟨q,v,r,F1,F2,e,e2,h1,h2,h3,h4,h5⟩:=h
  exact ⟨q,v,r,F1,F2,e,e2,fun b z=>hf _ (h1 b z),fun b z=>hf _ (h2 b z),h3,Ow.grow ho t (fun _ z=>z) h4,Owd.grow ho ts (fun _ z=>z) h5⟩
end
mutual
theorem Ow.full:∀ (t:D) {d:Nat} {v:V} {F:AS},Ow K O H t (d+3) v F→Ow K O' H t (d+3) v F
 | .none,_,_,_,h=>h
 | .bool _,_,_,_,h=>h
 | .int _,_,_,_,h=>h
 | .str _,_,_,_,h=>h
 | .tuple ts,_,_,_,h=>by
  obtain ⟨a,vs,e,⟨h0,h1,h2⟩ | ⟨h0,h1,h2,G,hg,h3⟩⟩:=h
  ·cases h0
  ·exact ⟨a,vs,e,.inr ⟨h0,h1,h2,G,hg,Ows.full ts h3⟩⟩
 | .list ts,_,_,_,h=>by
  obtain ⟨a,vs,e,⟨h0,h1,h2⟩ | ⟨h0,h1,h2,G,hg,h3⟩⟩:=h
  ·cases h0
  ·exact ⟨a,vs,e,.inr ⟨h0,h1,h2,G,hg,Ows.full ts h3⟩⟩
 | .dict ts,_,_,_,h=>by
  obtain ⟨a,vs,e,⟨h0,h1,hn,h2⟩ | ⟨h0,h1,h2,G,hg,h3⟩⟩:=h
  ·cases h0
  ·exact ⟨a,vs,e,.inr ⟨h0,h1,h2,G,hg,Owd.full ts h3⟩⟩
theorem Ows.full:∀ (ts:List D) {d:Nat} {vs:List V} {F:AS},Ows K O H ts (d+3) vs F→Ows K O' H ts (d+3) vs F
 | [],_,_,_,h=>h
 | t :: ts,_,_,_,h=>by
  obtain ⟨v,r,F1,F2,e,h1,h2,h3,h4,h5⟩:=h
  exact ⟨v,r,F1,F2,e,h1,h2,h3,Ow.full t h4,Ows.full ts h5⟩
theorem Owd.full:∀ (ts:List (D × D)) {d:Nat} {vs:List (Key × V)} {F:AS},Owd K O H ts (d+3) vs F→Owd K O' H ts (d+3) vs F
 | [],_,_,_,h=>h
 | (k,t) :: ts,_,_,_,h=>by
  obtain ⟨q,v,r,F1,F2,e,e2,h1,h2,h3,h4,h5⟩:=h
  exact ⟨q,v,r,F1,F2,e,e2,h1,h2,h3,Ow.full t h4,Owd.full ts h5⟩
end
mutual
theorem Ow.any0:∀ (t:D) {v:V} {F F':AS},Ow K O H t 0 v F→Ow K O H t 0 v F'
 | .none,_,_,_,h=>h
 | .bool _,_,_,_,h=>h
 | .int _,_,_,_,h=>h
 | .str _,_,_,_,h=>h
 | .tuple ts,_,_,_,h=>by
  obtain ⟨a,vs,e,⟨h0,h1,h2⟩ | ⟨h0,_⟩⟩:=h
  ·exact ⟨a,vs,e,.inl ⟨rfl,h1,Ows.any0 ts h2⟩⟩
  ·exact absurd rfl h0
 | .list ts,_,_,_,h=>by
  obtain ⟨a,vs,e,⟨h0,h1,h2⟩ | ⟨h0,_⟩⟩:=h
  ·exact ⟨a,vs,e,.inl ⟨rfl,h1,Ows.any0 ts h2⟩⟩
  ·exact absurd rfl h0
 | .dict ts,_,_,_,h=>by
  obtain ⟨a,vs,e,⟨h0,h1,hn,h2⟩ | ⟨h0,_⟩⟩:=h
  ·exact ⟨a,vs,e,.inl ⟨rfl,h1,hn,Owd.any0 ts h2⟩⟩
  ·exact absurd rfl h0
theorem Ows.any0:∀ (ts:List D) {vs:List V} {F F':AS},Ows K O H ts 0 vs F→Ows K O H ts 0 vs F'
 | [],_,_,_,h=>h
 | t :: ts,_,_,_,h=>by
  obtain ⟨v,r,F1,F2,e,_,_,_,h4,h5⟩:=h
  exact ⟨v,r,fun _=>False,fun _=>False,e,fun _ z=>z.elim,fun _ z=>z.elim,fun _ z=>z.elim,Ow.any0 t h4,Ows.any0 ts h5⟩
theorem Owd.any0:∀ (ts:List (D × D)) {vs:List (Key × V)} {F F':AS},Owd K O H ts 0 vs F→Owd K O H ts 0 vs F'
 | [],_,_,_,h=>h
 | (k,t) :: ts,_,_,_,h=>by
  obtain ⟨q,v,r,F1,F2,e,e2,_,_,_,h4,h5⟩:=h
  exact ⟨q,v,r,fun _=>False,fun _=>False,e,e2,fun _ z=>z.elim,fun _ z=>z.elim,fun _ z=>z.elim,Ow.any0 t h4,Owd.any0 ts h5⟩
end
theorem Ow.fz {t:D} {d:Nat} {v:V} {F F2:AS} (ho:∀ a,O' a→O a) (hn:∀ a,F a→¬ O' a) (h:Ow K O H t d v F):Ow K O' H t 0 v F2:=by
 obtain ⟨F',s1,s2⟩:=Ow.cut t (Nat.zero_le d) h
 exact Ow.any0 t (s2 O' ho fun a z1 z2=>absurd z2 (hn a z1))
end
def U (A B:AS):AS:=fun a=>A a∨B a
def Own (R:Nat→AS) (Ox:AS):AS:=fun a=>(∃ i,R i a)∨Ox a
theorem fH {A B:AS} (h:∀ a,A a↔B a):A=B:=funext fun a=>propext (h a)
structure EnvOk (K:PySem.W.Frag) (ds:List Nat) (Ox:AS) (H:Hp) (σ:St) (en:En) (R:Nat→AS):Prop where
 at_:∀ (i:Nat) (t:D),en[i]?=some (some t)→∃ v d,σ[i]?=some (some v)∧ds[i]?=some d∧Ow K (Own R Ox) H t d v (R i)
 dj:∀ i j a,R i a→R j a→i=j
 dx:∀ i a,R i a→¬ Ox a
 dom:∀ a,Own R Ox a→∃ o,H a=some o
 l1:en.length=σ.length
 l2:ds.length=σ.length
structure Post (K:PySem.W.Frag) (p:Bool) (ds':List Nat) (Ox:AS) (σ:St) (H:Hp) (en:En) (R:Nat→AS) (en':En) (H':Hp) (R':Nat→AS) (F:AS):Prop where
 env:EnvOk K ds' (U F Ox) H' σ en' R'
 fx:∀ a,F a→¬ Ox a
 keep:∀ a o,H a=some o→(∀ i,¬ R i a)→H' a=some o
 own:∀ a,(F a∨∃ i,R' i a)→(∃ i,R i a)∨H a=none
 dom:∀ a o,H a=some o→∃ o',H' a=some o'
 pure:p=true→en'=en∧R'=R∧∀ a o,H a=some o→H' a=some o
section
variable {K:PySem.W.Frag} {p p1 p2:Bool} {ds ds1 ds2 ds':List Nat} {Ox Ox':AS} {H H':Hp} {σ:St} {en en' en1 en2:En} {R R':Nat→AS} {d d1 d2:Nat} {t1 t2:D}
theorem EnvOk.grow (e:EnvOk K ds Ox H σ en R) (hk:∀ a o,H a=some o→H' a=some o) {F:AS} (hf:∀ a,F a→H a=none∧∃ o,H' a=some o):EnvOk K ds (U F Ox) H' σ en R:=by
 have fo:∀ a,F a→¬ Own R Ox a:=fun a z z2=>by
  obtain ⟨o,q⟩:=e.dom a z2
  rw [(hf a z).1] at q
  cases q
 refine ⟨fun i t h=>?_,e.dj,fun i a h z=>?_,fun a h=>?_,e.l1,e.l2⟩
 ·obtain ⟨v,d,h1,h2,h3⟩:=e.at_ i t h
  refine ⟨v,d,h1,h2,Ow.mv (G:=R i) ⟨fun a o q _=>hk a o q,fun a z=>?_⟩ t (fun _ z=>z) h3⟩
  rcases z with z | z | z
  ·exact .inl (.inl z)
  ·exact .inr (hf a z).1
  ·exact .inl (.inr z)
 ·rcases z with z | z
  ·exact fo a z (.inl ⟨i,h⟩)
  ·exact e.dx i a h z
 ·rcases h with h | h | h
  ·obtain ⟨o,q⟩:=e.dom a (.inl h)
   exact ⟨o,hk a o q⟩
  ·exact (hf a h).2
  ·obtain ⟨o,q⟩:=e.dom a (.inr h)
   exact ⟨o,hk a o q⟩
theorem EnvOk.fewer (e:EnvOk K ds Ox H σ en R) (h:∀ a,Ox' a→Ox a):EnvOk K ds Ox' H σ en R:=by
 refine ⟨fun i t q=>?_,e.dj,fun i a z1 z2=>e.dx i a z1 (h a z2),fun a z=>e.dom a (z.imp id (h a)),e.l1,e.l2⟩
 obtain ⟨v,d,h1,h2,h3⟩:=e.at_ i t q
 exact ⟨v,d,h1,h2,Ow.grow (fun a z=>z.imp id (h a)) t (fun _ z=>z) h3⟩
def tF (K:PySem.W.Frag) (p:Bool) (ds ds':List Nat) (d:Nat) (f:En→Option (D × En)):TE:=fun σ H Q =>
 ∃ Ox en R t en',EnvOk K ds Ox H σ en R∧f en=some (t,en')∧∀ v H' R' F,Post K p ds' Ox σ H en R en' H' R' F→Ow K (Own R' (U F Ox)) H' t d v F→Q v H'
theorem Post.refl (e:EnvOk K ds Ox H σ en R):Post K p ds Ox σ H en R en H R (fun _=>False):=by
 have eq:U (fun _=>False) Ox=Ox:=fH fun a=>⟨fun z=>z.elim (fun z=>z.elim) id,.inr⟩
 exact ⟨eq.symm ▸ e,fun _ z=>z.elim,fun _ _ q _=>q,fun a z=>z.elim (fun z=>z.elim) .inl,fun a o q=>⟨o,q⟩,fun _=>⟨rfl,rfl,fun _ _ q=>q⟩⟩
theorem Post.new (e:EnvOk K ds Ox H σ en R) (hk:∀ a o,H a=some o→H' a=some o) {F:AS} (hf:∀ a,F a→H a=none∧∃ o,H' a=some o):Post K p ds Ox σ H en R en H' R F:=by
 refine ⟨e.grow hk hf,fun a z z2=>?_,fun a o q _=>hk a o q,fun a z=>z.elim (fun z=>.inr (hf a z).1) .inl,fun a o q=>⟨o,hk a o q⟩,fun _=>⟨rfl,rfl,hk⟩⟩
 obtain ⟨o,q⟩:=e.dom a (.inr z2)
 rw [(hf a z).1] at q
 cases q
theorem Post.trans {H1 H2:Hp} {R1 R2:Nat→AS} {F1 F2:AS} (P1:Post K p1 ds1 Ox σ H en R en1 H1 R1 F1) (P2:Post K p2 ds2 (U F1 Ox) σ H1 en1 R1 en2 H2 R2 F2) :
  Post K (p1 && p2) ds2 Ox σ H en R en2 H2 R2 (U F1 F2):=by
 have eq:U F2 (U F1 Ox)=U (U F1 F2) Ox:=fH fun a=>by unfold U; exact ⟨fun z=>by rcases z with z | z | z; exact .inl (.inr z); exact .inl (.inl z); exact .inr z,fun z=>by rcases z with (z | z) | z; exact .inr (.inl z); exact .inl z; exact .inr (.inr z)⟩
 have n1:∀ a,H1 a=none→H a=none:=fun a z=>by
  cases q:H a with
  | none=>rfl
  | some o =>
   obtain ⟨o',q'⟩:=P1.dom a o q
   rw [z] at q'
   cases q'
 refine ⟨eq ▸ P2.env,fun a z z2=>?_,fun a o q n=>?_,fun a z=>?_,fun a o q=>?_,fun hp=>?_⟩
 ·rcases z with z | z
  ·exact P1.fx a z z2
  ·exact P2.fx a z (.inr z2)
 ·refine P2.keep a o (P1.keep a o q n) fun i z=>?_
  rcases P1.own a (.inr ⟨i,z⟩) with ⟨j,z⟩ | z
  ·exact n j z
  ·rw [q] at z; cases z
 ·rcases z with (z | z) | z
  ·exact P1.own a (.inl z)
  ·rcases P2.own a (.inl z) with z | z
   ·exact P1.own a (.inr z)
   ·exact .inr (n1 a z)
  ·rcases P2.own a (.inr z) with z | z
   ·exact P1.own a (.inr z)
   ·exact .inr (n1 a z)
 ·obtain ⟨o',q'⟩:=P1.dom a o q
  exact P2.dom a o' q'
 ·have h1:p1=true:=by cases p1 <;> simp_all
  have h2:p2=true:=by cases p2 <;> simp_all
  obtain ⟨a1,a2,a3⟩:=P1.pure h1
  obtain ⟨b1,b2,b3⟩:=P2.pure h2
  exact ⟨b1.trans a1,b2.trans a2,fun a o q=>b3 a o (a3 a o q)⟩
theorem Ow.over {H1 H2:Hp} {R1 R2:Nat→AS} {F1 F2:AS} {t:D} {v:V} (P1:EnvOk K ds1 (U F1 Ox) H1 σ en1 R1) (P2:Post K p2 ds2 (U F1 Ox) σ H1 en1 R1 en2 H2 R2 F2) (h:Ow K (Own R1 (U F1 Ox)) H1 t d v F1) :
  Ow K (Own R2 (U (U F1 F2) Ox)) H2 t d v F1:=by
 refine Ow.mv (G:=F1) ⟨fun a o q z=>P2.keep a o q fun i zi=>?_,fun a z=>?_⟩ t (fun _ z=>z) h
 ·rcases z with z | z
  ·exact z (.inl ⟨i,zi⟩)
  ·exact P1.dx i a zi (.inl z)
 ·rcases z with z | (z | z) | z
  ·rcases P2.own a (.inr z) with z | z
   ·exact .inl (.inl z)
   ·exact .inr z
  ·exact .inl (.inr (.inl z))
  ·rcases P2.own a (.inl z) with z | z
   ·exact .inl (.inl z)
   ·exact .inr z
  ·exact .inl (.inr (.inr z))
theorem jy {F1 F2:AS}:U F2 (U F1 Ox)=U (U F1 F2) Ox:=fH fun a=>by unfold U; exact ⟨fun z=>by rcases z with z | z | z; exact .inl (.inr z); exact .inl (.inl z); exact .inr z,fun z=>by rcases z with (z | z) | z; exact .inr (.inl z); exact .inl z; exact .inr (.inr z)⟩
theorem two {f g:En→Option (D × En)} {Q:V→V→Hp→Prop} (e:EnvOk K ds Ox H σ en R) (h1:f en=some (t1,en1)) (h2:g en1=some (t2,en2))
  (k:∀ x y H2 R2 F1 F2,Post K (p1 && p2) ds2 Ox σ H en R en2 H2 R2 (U F1 F2)→Ow K (Own R2 (U (U F1 F2) Ox)) H2 t1 d1 x F1→Ow K (Own R2 (U (U F1 F2) Ox)) H2 t2 d2 y F2→Q x y H2) :
  tF K p1 ds ds1 d1 f σ H fun x H1=>tF K p2 ds1 ds2 d2 g σ H1 fun y H2=>Q x y H2:=by
 refine ⟨Ox,en,R,t1,en1,e,h1,fun x H1 R1 F1 P1 o1=>?_⟩
 refine ⟨U F1 Ox,en1,R1,t2,en2,P1.env,h2,fun y H2 R2 F2 P2 o2=>?_⟩
 exact k x y H2 R2 F1 F2 (P1.trans P2) (Ow.over P1.env P2 o1) (jy ▸ o2)
end
end L2
namespace L2
open PySem PySem.Spec PyProof.Rows
abbrev ME:=En→Option (D × En)
abbrev MT:=En→Option (Bool × En)
abbrev MA:=En→Option (List (D ⊕ Nat) × En)
def af (i:Nat):ME:=fun en=>(en[i]?).join.map fun t=>(t,en)
def eMv (i:Nat):ME:=fun en=>(en[i]?).join.map fun t=>(t,en.set i none)
def eC (t:D):ME:=fun en=>some (t,en)
def e1 (g:D→Option D) (f:ME):ME:=fun en=>(f en).bind fun r=>(g r.1).map fun t=>(t,r.2)
def e2 (g:D→D→Option D) (f1 f2:ME):ME:=fun en=>(f1 en).bind fun r=>(f2 r.2).bind fun q=>(g r.1 q.1).map fun t=>(t,q.2)
def jq (f g:ME):ME:=fun en=>(f en).bind fun r=>match r.1 with
 | .bool true=>g r.2
 | .bool false=>some (.bool false,r.2)
 | _=>none
def eOr (f g:ME):ME:=fun en=>(f en).bind fun r=>match r.1 with
 | .bool true=>some (.bool true,r.2)
 | .bool false=>g r.2
 | _=>none
def Gg (f:ME):ME:=fun en=>(f en).bind fun r=>match r.1 with
 | .bool b=>some (.bool (!b),r.2)
 | _=>none
def eIf (c:MT) (f g:ME):ME:=fun en=>(c en).bind fun r=>if r.1 then f r.2 else g r.2
def tV (f:ME):MT:=fun en=>(f en).bind fun r=>match r.1 with
 | .bool b=>some (b,r.2)
 | _=>none
def fm (f g:MT):MT:=fun en=>(f en).bind fun r=>if r.1 then g r.2 else some (false,r.2)
def bOr (f g:MT):MT:=fun en=>(f en).bind fun r=>if r.1 then some (true,r.2) else g r.2
def bu (f:MT):MT:=fun en=>(f en).map fun r=>(!r.1,r.2)
def ah:MA:=fun en=>some ([],en)
def ad (f:ME) (r:MA):MA:=fun en=>(f en).bind fun x=>(r x.2).map fun y=>(.inl x.1 :: y.1,y.2)
def aS (i:Nat) (r:MA):MA:=fun en=>(en[i]?).join.bind fun _=>(r en).map fun y=>(.inr i :: y.1,y.2)
def vals:List (D ⊕ Nat)→Option (List D)
 | []=>some []
 | .inl t :: r=>(vals r).map (t :: ·)
 | .inr _ :: _=>none
def eN (g:List D→Option D) (fa:MA):ME:=fun en=>(fa en).bind fun r=>(vals r.1).bind fun ts=>(g ts).map fun t=>(t,r.2)
def NewTo (H H':Hp) (F:AS):Prop:=(∀ a o,H a=some o→H' a=some o)∧∀ a,F a→H a=none∧∃ o,H' a=some o
def NoA:AS:=fun _=>False
theorem dO {A:AS}:U NoA A=A:=fH fun a=>⟨fun z=>z.elim (fun z=>z.elim) id,.inr⟩
def rF1 (K:PySem.W.Frag) (g:D→Option D) (d:Nat):V→Hp→VK→Prop:=fun x H Q=>∃ (O:AS) (a t:D),Ow K O H a 0 x NoA∧(∀ a,O a→∃ o,H a=some o)∧g a=some t∧∀ v H' F,NewTo H H' F→Ow K (U F O) H' t d v F→Q v H'
def rF2 (K:PySem.W.Frag) (g:D→D→Option D) (d:Nat):R2:=fun x y H Q=>∃ (O:AS) (a b t:D),Ow K O H a 0 x NoA∧Ow K O H b 0 y NoA∧(∀ a,O a→∃ o,H a=some o)∧g a b=some t∧∀ v H' F,NewTo H H' F→Ow K (U F O) H' t d v F→Q v H'
def rFn (K:PySem.W.Frag) (g:List D→Option D) (d:Nat):List V→Hp→VK→Prop:=fun xs H Q=>∃ (O:AS) (ts:List D) (t:D),Ows K O H ts 0 xs NoA∧(∀ a,O a→∃ o,H a=some o)∧g ts=some t∧∀ v H' F,NewTo H H' F→Ow K (U F O) H' t d v F→Q v H'
section
variable {K:PySem.W.Frag} {p p1 p2:Bool} {ds ds0 ds1 ds2 ds':List Nat} {Ox Ox':AS} {H H':Hp} {σ:St} {en en' en1 en2:En} {R R':Nat→AS} {d d' d1 d2:Nat} {t t1 t2:D} {Q:VK} {f f1 f2 fa fb:ME}
theorem jN {F:AS}:U F (Own R Ox)=Own R (U F Ox):=fH fun a=>by
 unfold U Own
 exact ⟨fun z=>by rcases z with z | z | z; exact .inr (.inl z); exact .inl z; exact .inr (.inr z),fun z=>by rcases z with z | z | z; exact .inr (.inl z); exact .inl z; exact .inr (.inr z)⟩
theorem Post.fin {H1:Hp} {F0 F:AS} (P:Post K p ds' Ox σ H en R en' H1 R' F0) (n:NewTo H1 H' F):Post K p ds' Ox σ H en R en' H' R' F:=by
 have e:=P.env.fewer (Ox':=Ox) fun a z=>.inr z
 have n1:∀ a,H1 a=none→H a=none:=fun a z=>by
  cases q:H a with
  | none=>rfl
  | some o =>
   obtain ⟨o',q'⟩:=P.dom a o q
   rw [z] at q'
   cases q'
 refine ⟨e.grow n.1 n.2,fun a z z2=>?_,fun a o q nn=>n.1 a o (P.keep a o q nn),fun a z=>?_,fun a o q=>?_,fun hp=>?_⟩
 ·obtain ⟨o,q⟩:=e.dom a (.inr z2)
  rw [(n.2 a z).1] at q
  cases q
 ·rcases z with z | z
  ·exact .inr (n1 a (n.2 a z).1)
  ·exact P.own a (.inr z)
 ·obtain ⟨o',q'⟩:=P.dom a o q
  exact ⟨o',n.1 a o' q'⟩
 ·obtain ⟨a1,a2,a3⟩:=P.pure hp
  exact ⟨a1,a2,fun a o q=>n.1 a o (a3 a o q)⟩
theorem Post.less {F F':AS} (P:Post K p ds' Ox σ H en R en' H' R' F) (h:∀ a,F' a→F a):Post K p ds' Ox σ H en R en' H' R' F' :=
 ⟨P.env.fewer fun a z=>z.imp (h a) id,fun a z=>P.fx a (h a z),P.keep,fun a z=>P.own a (z.imp (h a) id),P.dom,P.pure⟩
theorem Ow.letgo {F F0:AS} {v:V} (P:Post K p ds' Ox σ H en R en' H' R' F0) (hf:∀ a,F a→F0 a) (h:Ow K (Own R' (U F0 Ox)) H' t d v F):Ow K (Own R' Ox) H' t 0 v NoA:=by
 refine Ow.fz (fun a z=>z.imp id .inr) (fun a z z2=>?_) h
 rcases z2 with ⟨i,z2⟩ | z2
 ·exact P.env.dx i a z2 (.inl (hf a z))
 ·exact P.fx a (hf a z) z2
theorem Post.doms {F0:AS} (P:Post K p ds' Ox σ H en R en' H' R' F0):∀ a,Own R' Ox a→∃ o,H' a=some o:=fun a z=>P.env.dom a (z.imp id .inr)
theorem E8 (hd:ds[i]?=some 0) (h:tF K true ds ds 0 (af i) σ H Q):jZ i σ H Q:=by
 obtain ⟨Ox,en,R,t,en',e,hf,k⟩:=h
 unfold af at hf
 cases q:en[i]? with
 | none=>rw [q] at hf; cases hf
 | some o =>
  rw [q] at hf
  cases o with
  | none=>cases hf
  | some t' =>
   cases hf
   obtain ⟨v,d,h1,h2,h3⟩:=e.at_ i t q
   rw [hd] at h2
   cases h2
   exact ⟨v,h1,k v H R NoA (Post.refl e) (by rw [dO]; exact Ow.any0 t h3)⟩
theorem Ge (hd:ds[i]?=some d) (h:tF K false ds (ds.set i 0) d (eMv i) σ H Q):jZ i σ H Q:=by
 obtain ⟨Ox,en,R,t,en',e,hf,k⟩:=h
 unfold eMv at hf
 cases q:en[i]? with
 | none=>rw [q] at hf; cases hf
 | some o =>
  rw [q] at hf
  cases o with
  | none=>cases hf
  | some t' =>
   cases hf
   obtain ⟨v,d',h1,h2,h3⟩:=e.at_ i t q
   rw [hd] at h2
   cases h2
   have eq:Own (fun j=>if j=i then NoA else R j) (U (R i) Ox)=Own R Ox:=fH fun a=>by
    unfold Own U
    constructor
    ·rintro (⟨j,z⟩ | z | z)
     ·by_cases hj:j=i
      ·rw [if_pos hj] at z; exact z.elim
      ·rw [if_neg hj] at z; exact .inl ⟨j,z⟩
     ·exact .inl ⟨i,z⟩
     ·exact .inr z
    ·rintro (⟨j,z⟩ | z)
     ·by_cases hj:j=i
      ·subst hj; exact .inr (.inl z)
      ·exact .inl ⟨j,by show (if j=i then NoA else R j) a; rw [if_neg hj]; exact z⟩
     ·exact .inr (.inr z)
   refine ⟨v,h1,k v H (fun j=>if j=i then NoA else R j) (R i) ⟨⟨fun j u hu=>?_,fun j j' a z z'=>?_,fun j a z=>?_,fun a z=>e.dom a (eq ▸ z),?_,?_⟩,e.dx i,fun a o q _=>q,fun a z=>?_,fun a o q=>⟨o,q⟩,fun z=>nomatch z⟩ (eq.symm ▸ h3)⟩
   ·by_cases hj:j=i
    ·subst hj
     rw [List.getElem?_set_self' ] at hu
     rw [q] at hu
     cases hu
    ·rw [List.getElem?_set_ne (Ne.symm hj)] at hu
     obtain ⟨v',d',a1,a2,a3⟩:=e.at_ j u hu
     refine ⟨v',d',a1,by rw [List.getElem?_set_ne (Ne.symm hj)]; exact a2,?_⟩
     rw [if_neg hj,eq]
     exact a3
   ·by_cases hj:j=i
    ·rw [if_pos hj] at z; exact z.elim
    ·rw [if_neg hj] at z
     by_cases hj':j'=i
     ·rw [if_pos hj'] at z'; exact z'.elim
     ·rw [if_neg hj'] at z'; exact e.dj j j' a z z'
   ·by_cases hj:j=i
    ·rw [if_pos hj] at z; exact z.elim
    ·rw [if_neg hj] at z
     rintro (z2 | z2)
     ·exact hj (e.dj j i a z z2)
     ·exact e.dx j a z z2
   ·rw [List.length_set]; exact e.l1
   ·rw [List.length_set]; exact e.l2
   ·rcases z with z | ⟨j,z⟩
    ·exact .inl ⟨i,z⟩
    ·by_cases hj:j=i
     ·rw [if_pos hj] at z; exact z.elim
     ·rw [if_neg hj] at z; exact .inl ⟨j,z⟩
theorem f_c {v:V} (hv:∀ K O H F,Ow K O H t 3 v F) (h:tF K true ds ds 3 (eC t) σ H Q):tC v σ H Q:=by
 obtain ⟨Ox,en,R,t',en',e,hf,k⟩:=h
 cases hf
 exact k v H R NoA (Post.refl e) (hv _ _ _ _)
theorem Fb (hd:d'≤d) (h:tF K p ds ds' d' f σ H Q):tF K p ds ds' d f σ H Q:=by
 obtain ⟨Ox,en,R,t,en',e,hf,k⟩:=h
 refine ⟨Ox,en,R,t,en',e,hf,fun v H' R' F P o=>?_⟩
 obtain ⟨F',s1,s2⟩:=Ow.cut t hd o
 refine k v H' R' F' (P.less s1) (s2 _ (fun a z=>z.imp id fun z=>z.imp (s1 a) id) fun a z z2=>?_)
 rcases z2 with ⟨i,z2⟩ | z2 | z2
 ·exact absurd (.inl z) (P.env.dx i a z2)
 ·exact z2
 ·exact absurd z2 (P.fx a z)
theorem iF (hp:p'=true→p=true) (h:tF K p' ds ds' d f σ H Q):tF K p ds ds' d f σ H Q:=by
 obtain ⟨Ox,en,R,t,en',e,hf,k⟩:=h
 exact ⟨Ox,en,R,t,en',e,hf,fun v H' R' F P o=>k v H' R' F ⟨P.env,P.fx,P.keep,P.own,P.dom,fun z=>P.pure (hp z)⟩ o⟩
theorem EnvOk.cut (e:EnvOk K ds Ox H σ en R) (hl:ds0.length=ds.length) (hd:∀ (i:Nat) a b,ds0[i]?=some a→ds[i]?=some b→a≤b):∃ R',(∀ i a,R' i a→R i a)∧EnvOk K ds0 Ox H σ en R':=by
 have ch:∀ i,∃ F':AS,(∀ b,F' b→R i b)∧∀ t v d0,en[i]?=some (some t)→σ[i]?=some (some v)→ds0[i]?=some d0→∀ O':AS,(∀ a,O' a→Own R Ox a)→(∀ a,R i a→O' a→F' a)→Ow K O' H t d0 v F':=fun i=>by
  by_cases h:∃ t,en[i]?=some (some t)
  ·obtain ⟨t,ht⟩:=h
   obtain ⟨v,d,h1,h2,h3⟩:=e.at_ i t ht
   cases q:ds0[i]? with
   | none=>exact ⟨NoA,fun _ z=>z.elim,fun _ _ _ _ _ z=>nomatch z⟩
   | some d0 =>
    obtain ⟨F',s1,s2⟩:=Ow.cut t (hd i d0 d q h2) h3
    refine ⟨F',s1,fun t' v' d0' h1' h2' h3' O'=>?_⟩
    rw [ht] at h1'; cases h1'
    rw [h1] at h2'; cases h2'
    cases h3'
    exact s2 O'
  ·exact ⟨NoA,fun _ z=>z.elim,fun t _ _ ht=>absurd ⟨t,ht⟩ h⟩
 refine ⟨fun i=>(ch i).choose,fun i=>(ch i).choose_spec.1,fun i t ht=>?_,fun i j a z1 z2=>e.dj i j a ((ch i).choose_spec.1 a z1) ((ch j).choose_spec.1 a z2),fun i a z=>e.dx i a ((ch i).choose_spec.1 a z),fun a z=>e.dom a (z.imp (fun ⟨i,z⟩=>⟨i,(ch i).choose_spec.1 a z⟩) id),e.l1,hl.trans e.l2⟩
 obtain ⟨v,d,h1,h2,h3⟩:=e.at_ i t ht
 have hi:i < ds0.length:=by rw [hl]; exact (List.getElem?_eq_some_iff.mp h2).1
 refine ⟨v,ds0[i],h1,List.getElem?_eq_getElem hi,(ch i).choose_spec.2 t v _ ht h1 (List.getElem?_eq_getElem hi) _ (fun a z=>z.imp (fun ⟨j,z⟩=>⟨j,(ch j).choose_spec.1 a z⟩) id) fun a z z2=>?_⟩
 rcases z2 with ⟨j,z2⟩ | z2
 ·have:=e.dj i j a z ((ch j).choose_spec.1 a z2)
  subst this
  exact z2
 ·exact absurd z2 (e.dx i a z)
def leD:List Nat→List Nat→Bool
 | [],[]=>true
 | a :: r,b :: s=>decide (a≤b) && leD r s
 | _,_=>false
theorem da:∀ {a b:List Nat},leD a b=true→a.length=b.length∧∀ (i:Nat) x y,a[i]?=some x→b[i]?=some y→x≤y
 | [],[],_=>⟨rfl,fun i x y h=>by simp at h⟩
 | a :: r,b :: s,h=>by
  unfold leD at h
  rw [Bool.and_eq_true] at h
  obtain ⟨h1,h2⟩:=h
  obtain ⟨h3,h4⟩:=da h2
  refine ⟨by rw [List.length_cons,List.length_cons,h3],fun i x y e1 e2=>?_⟩
  cases i with
  | zero=>cases e1; cases e2; exact of_decide_eq_true h1
  | succ i=>exact h4 i x y e1 e2
 | [],_ :: _,h=>nomatch h
 | _ :: _,[],h=>nomatch h
theorem FB (hd:leD ds0 ds=true) (h:tF K false ds ds' d f σ H Q):tF K p ds0 ds' d f σ H Q:=by
 obtain ⟨Ox,en,R,t,en',e,hf,k⟩:=h
 obtain ⟨R1,s1,e1⟩:=e.cut (da hd).1 (da hd).2
 refine ⟨Ox,en,R1,t,en',e1,hf,fun v H' R' F P o=>k v H' R' F ⟨P.env,P.fx,fun a o q n=>P.keep a o q fun i z=>n i (s1 i a z),fun a z=>(P.own a z).imp (fun ⟨i,z⟩=>⟨i,s1 i a z⟩) id,P.dom,fun z=>nomatch z⟩ o⟩
theorem Ff (hd:leD ds0 ds=true) (h:tF K true ds ds 3 f σ H Q):tF K true ds0 ds0 3 f σ H Q:=by
 obtain ⟨Ox,en,R,t,en',e,hf,k⟩:=h
 obtain ⟨R1,s1,e1⟩:=e.cut (da hd).1 (da hd).2
 refine ⟨Ox,en,R1,t,en',e1,hf,fun v H' R' F P o=>?_⟩
 obtain ⟨a1,a2,a3⟩:=P.pure rfl
 subst a1 a2
 have nf:∀ a,F a→H a=none:=fun a z=>by
  rcases P.own a (.inl z) with ⟨i,z2⟩ | z2
  ·exact absurd (.inl z) (P.env.dx i a z2)
  ·exact z2
 have nt:NewTo H H' F:=⟨a3,fun a z=>⟨nf a z,P.env.dom a (.inr (.inl z))⟩⟩
 exact k v H' R F (Post.new e nt.1 nt.2) (Ow.full t o)
theorem Fc {g:D→Option D} (h:tF K p ds ds1 d (e1 g f) σ H Q):tUn (rF1 K g d) (tF K p ds ds1 d1 f) σ H Q:=by
 obtain ⟨Ox,en,R,t,en',e,hf,k⟩:=h
 unfold e1 at hf
 obtain ⟨⟨t1,en1⟩,h1,hf⟩:=Option.bind_eq_some_iff.mp hf
 obtain ⟨t',h3,hf⟩:=Option.map_eq_some_iff.mp hf
 cases hf
 refine ⟨Ox,en,R,t1,en1,e,h1,fun v H' R' F P o=>?_⟩
 refine ⟨Own R' Ox,t1,t,Ow.letgo P (fun _ z=>z) o,P.doms,h3,fun v2 H2 F2 n o2=>k v2 H2 R' F2 (P.fin n) (jN ▸ o2)⟩
theorem mH {g:D→D→Option D} (h:tF K (p1 && p2) ds ds2 d (e2 g f1 f2) σ H Q):tOp (rF2 K g d) (tF K p1 ds ds1 d1 f1) (tF K p2 ds1 ds2 d2 f2) σ H Q:=by
 obtain ⟨Ox,en,R,t,en',e,hf,k⟩:=h
 unfold e2 at hf
 obtain ⟨⟨t1,en1⟩,h1,hf⟩:=Option.bind_eq_some_iff.mp hf
 obtain ⟨⟨t2,en2⟩,h2,hf⟩:=Option.bind_eq_some_iff.mp hf
 obtain ⟨t',h3,hf⟩:=Option.map_eq_some_iff.mp hf
 cases hf
 refine two e h1 h2 fun x y H2 R2 F1 F2 P o1 o2=>?_
 exact ⟨Own R2 Ox,t1,t2,t,Ow.letgo P (fun _=>.inl) o1,Ow.letgo P (fun _=>.inr) o2,P.doms,h3,fun v2 H3 F3 n o3=>k v2 H3 R2 F3 (P.fin n) (jN ▸ o3)⟩
theorem Post.after {H1:Hp} {R1 R2:Nat→AS} {F1 F:AS} (P1:Post K p1 ds1 Ox σ H en R en1 H1 R1 F1) (P2:Post K p2 ds2 Ox σ H1 en1 R1 en2 H' R2 F):Post K (p1 && p2) ds2 Ox σ H en R en2 H' R2 F:=by
 have P1':=P1.less (F':=NoA) fun _ z=>z.elim
 have P2':Post K p2 ds2 (U NoA Ox) σ H1 en1 R1 en2 H' R2 F:=by rw [dO]; exact P2
 have:=P1'.trans P2'
 rw [dO] at this
 exact this
theorem Post.env0 {F:AS} (P:Post K p ds' Ox σ H en R en' H' R' F):EnvOk K ds' Ox H' σ en' R':=P.env.fewer fun a z=>.inr z
theorem Fh (h:tF K (p1 && p2) ds ds1 d (jq f1 f2) σ H Q):yR (tF K p1 ds ds1 d1 f1) (tF K p2 ds1 ds1 d f2) σ H Q:=by
 obtain ⟨Ox,en,R,t,en',e,hf,k⟩:=h
 unfold jq at hf
 obtain ⟨⟨t1,en1⟩,h1,hf⟩:=Option.bind_eq_some_iff.mp hf
 refine ⟨Ox,en,R,t1,en1,e,h1,fun v H1 R1 F1 P1 o1=>?_⟩
 cases t1 with
 | bool b =>
  have ev:v=.bl b:=o1
  refine ⟨b,ev,?_⟩
  cases b with
  | true =>
   rw [if_pos rfl]
   exact ⟨Ox,en1,R1,t,en',P1.env0,hf,fun v2 H2 R2 F2 P2 o2=>k v2 H2 R2 F2 (P1.after P2) o2⟩
  | false =>
   cases hf
   rw [if_neg Bool.false_ne_true]
   refine k _ H1 R1 NoA ?_ rfl
   have:=(P1.less (F':=NoA) fun _ z=>z.elim)
   exact ⟨this.env,this.fx,this.keep,this.own,this.dom,fun hp=>this.pure (by cases p1 <;> simp_all)⟩
 | _=>cases hf
def tFT (K:PySem.W.Frag) (p:Bool) (ds ds':List Nat) (f:MT):TT:=fun σ H Q =>
 ∃ Ox en R b en',EnvOk K ds Ox H σ en R∧f en=some (b,en')∧∀ H' R',Post K p ds' Ox σ H en R en' H' R' NoA→Q b H'
variable {c c1 c2:MT} {QT:Bool→Hp→Prop}
theorem ni (h:tFT K p ds ds' (tV f) σ H QT):tB (tF K p ds ds' d f) σ H QT:=by
 obtain ⟨Ox,en,R,b,en',e,hf,k⟩:=h
 unfold tV at hf
 obtain ⟨⟨t1,en1⟩,h1,hf⟩:=Option.bind_eq_some_iff.mp hf
 refine ⟨Ox,en,R,t1,en1,e,h1,fun v H1 R1 F1 P1 o1=>?_⟩
 cases t1 with
 | bool b =>
  cases hf
  exact ⟨_,o1,k H1 R1 (P1.less fun _ z=>z.elim)⟩
 | _=>cases hf
theorem DN (h:tFT K (p1 && p2) ds ds1 (fm c1 c2) σ H QT):CK (tFT K p1 ds ds1 c1) (tFT K p2 ds1 ds1 c2) σ H QT:=by
 obtain ⟨Ox,en,R,b,en',e,hf,k⟩:=h
 unfold fm at hf
 obtain ⟨⟨b1,en1⟩,h1,hf⟩:=Option.bind_eq_some_iff.mp hf
 refine ⟨Ox,en,R,b1,en1,e,h1,fun H1 R1 P1=>?_⟩
 cases b1 with
 | true =>
  rw [if_pos rfl]
  exact ⟨Ox,en1,R1,b,en',P1.env0,hf,fun H2 R2 P2=>k H2 R2 (P1.after P2)⟩
 | false =>
  cases hf
  rw [if_neg Bool.false_ne_true]
  exact k H1 R1 ⟨P1.env,P1.fx,P1.keep,P1.own,P1.dom,fun hp=>P1.pure (by cases p1 <;> simp_all)⟩
theorem EU (h:tFT K (p1 && p2) ds ds1 (bOr c1 c2) σ H QT):tOr (tFT K p1 ds ds1 c1) (tFT K p2 ds1 ds1 c2) σ H QT:=by
 obtain ⟨Ox,en,R,b,en',e,hf,k⟩:=h
 unfold bOr at hf
 obtain ⟨⟨b1,en1⟩,h1,hf⟩:=Option.bind_eq_some_iff.mp hf
 refine ⟨Ox,en,R,b1,en1,e,h1,fun H1 R1 P1=>?_⟩
 cases b1 with
 | false =>
  rw [if_neg Bool.false_ne_true]
  exact ⟨Ox,en1,R1,b,en',P1.env0,hf,fun H2 R2 P2=>k H2 R2 (P1.after P2)⟩
 | true =>
  cases hf
  rw [if_pos rfl]
  exact k H1 R1 ⟨P1.env,P1.fx,P1.keep,P1.own,P1.dom,fun hp=>P1.pure (by cases p1 <;> simp_all)⟩
theorem DL (h:tFT K p ds ds1 (bu c) σ H QT):CF (tFT K p ds ds1 c) σ H QT:=by
 obtain ⟨Ox,en,R,b,en',e,hf,k⟩:=h
 unfold bu at hf
 obtain ⟨⟨b1,en1⟩,h1,hf⟩:=Option.map_eq_some_iff.mp hf
 cases hf
 exact ⟨Ox,en,R,b1,_,e,h1,fun H1 R1 P1=>k H1 R1 P1⟩
theorem DM (hd:leD ds0 ds=true) (h:tFT K true ds ds c σ H QT):tFT K true ds0 ds0 c σ H QT:=by
 obtain ⟨Ox,en,R,t,en',e,hf,k⟩:=h
 obtain ⟨R1,s1,e1⟩:=e.cut (da hd).1 (da hd).2
 refine ⟨Ox,en,R1,t,en',e1,hf,fun H' R' P=>?_⟩
 obtain ⟨a1,a2,a3⟩:=P.pure rfl
 subst a1 a2
 exact k H' R (Post.new e a3 fun _ z=>z.elim)
end
end L2
namespace L2
open PySem PySem.Spec PyProof.Rows
abbrev Sh:=List (Nat ⊕ Nat)
def OwA (K:PySem.W.Frag) (O:AS) (H:Hp) (σ:St):List (D ⊕ Nat)→Sh→List V→AS→Prop
 | [],ds,vs,_=>ds=[]∧vs=[]
 | .inl t :: as,ds,vs,F=>∃ v r d dr,∃ F1 F2:AS,vs=v :: r∧ds=.inl d :: dr∧(∀ b,F1 b→F b)∧(∀ b,F2 b→F b)∧(∀ b,F1 b→¬ F2 b)∧Ow K O H t d v F1∧OwA K O H σ as dr r F2
 | .inr i :: as,ds,vs,F=>∃ v r dr,vs=v :: r∧ds=.inr i :: dr∧σ[i]?=some (some v)∧OwA K O H σ as dr r F
def tFA (K:PySem.W.Frag) (p:Bool) (ds ds':List Nat) (sh:Sh) (f:MA):TA:=fun σ H Q =>
 ∃ Ox en R as en',EnvOk K ds Ox H σ en R∧f en=some (as,en')∧∀ vs H' R' F,Post K p ds' Ox σ H en R en' H' R' F→OwA K (Own R' (U F Ox)) H' σ as sh vs F→Q vs H'
def bh (fa:MA):ME:=fun en=>(fa en).bind fun r=>(vals r.1).bind fun ts=>if ts.length≤sizeLine then some (.list ts,r.2) else none
def aG (fa:MA):ME:=fun en=>(fa en).bind fun r=>(vals r.1).bind fun ts=>if ts.length≤sizeLine then some (.tuple ts,r.2) else none
section
variable {K:PySem.W.Frag} {p p1 p2:Bool} {ds ds0 ds1 ds2 ds':List Nat} {Ox Ox' O O':AS} {H H':Hp} {σ:St} {en en' en1 en2:En} {R R':Nat→AS} {d d' d1 d2:Nat} {t t1 t2:D} {Q:VK} {f f1 f2:ME} {fa:MA} {sh:Sh} {QA:List V→Hp→Prop} {i:Nat}
theorem rp (h:tFA K true ds ds [] ah σ H QA):rY σ H QA:=by
 obtain ⟨Ox,en,R,as,en',e,hf,k⟩:=h
 cases hf
 exact k [] H R NoA (Post.refl e) ⟨rfl,rfl⟩
theorem lE (h:tFA K (p1 && p2) ds ds2 (.inl d :: sh) (ad f fa) σ H QA):mB (tF K p1 ds ds1 d f) (tFA K p2 ds1 ds2 sh fa) σ H QA:=by
 obtain ⟨Ox,en,R,as,en',e,hf,k⟩:=h
 unfold ad at hf
 obtain ⟨⟨t1,en1⟩,h1,hf⟩:=Option.bind_eq_some_iff.mp hf
 obtain ⟨⟨as2,en2⟩,h2,hf⟩:=Option.map_eq_some_iff.mp hf
 cases hf
 refine ⟨Ox,en,R,t1,en1,e,h1,fun x H1 R1 F1 P1 o1=>?_⟩
 refine ⟨U F1 Ox,en1,R1,as2,en2,P1.env,h2,fun vs H2 R2 F2 P2 o2=>?_⟩
 refine k (x :: vs) H2 R2 (U F1 F2) (P1.trans P2) ⟨x,vs,d,sh,F1,F2,rfl,rfl,fun _=>.inl,fun _=>.inr,fun b z1 z2=>P2.fx b z2 (.inl z1),Ow.over P1.env P2 o1,?_⟩
 rw [← jy]
 exact o2
theorem AD (h:tFA K p ds ds2 (.inr i :: sh) (aS i fa) σ H QA):mB (jZ i) (tFA K p ds ds2 sh fa) σ H QA:=by
 obtain ⟨Ox,en,R,as,en',e,hf,k⟩:=h
 unfold aS at hf
 obtain ⟨t0,h0,hf⟩:=Option.bind_eq_some_iff.mp hf
 obtain ⟨⟨as2,en2⟩,h2,hf⟩:=Option.map_eq_some_iff.mp hf
 cases hf
 have q:en[i]?=some (some t0):=by
  cases q:en[i]? with
  | none=>rw [q] at h0; cases h0
  | some o=>rw [q] at h0; exact congrArg some h0
 obtain ⟨v,d,h1,_⟩:=e.at_ i t0 q
 exact ⟨v,h1,Ox,en,R,as2,en2,e,h2,fun vs H2 R2 F2 P2 o2=>k (v :: vs) H2 R2 F2 P2 ⟨v,vs,sh,rfl,rfl,h1,o2⟩⟩
def b8 (c:Nat):Sh→Bool
 | []=>true
 | .inl d :: r=>decide (c≤d) && b8 c r
 | .inr _ :: _=>false
theorem OwA.ows:∀ {as:List (D ⊕ Nat)} {sh:Sh} {vs:List V} {F:AS} {ts:List D} {c:Nat},b8 c sh=true→vals as=some ts→OwA K O H σ as sh vs F →
  ∃ F':AS,(∀ b,F' b→F b)∧∀ O':AS,(∀ a,O' a→O a)→(∀ a,F a→O' a→F' a)→Ows K O' H ts c vs F'
 | [],_,_,F,ts,c,_,hv,h=>by
  cases hv
  exact ⟨F,fun _ z=>z,fun _ _ _=>h.2⟩
 | .inl t :: as,_,_,F,ts,c,hs,hv,h=>by
  obtain ⟨v,r,d,dr,F1,F2,e1,e2,s1,s2,s3,h1,h2⟩:=h
  subst e1 e2
  unfold vals at hv
  obtain ⟨ts',hv',e⟩:=Option.map_eq_some_iff.mp hv
  subst e
  unfold b8 at hs
  rw [Bool.and_eq_true] at hs
  obtain ⟨G1,a1,a2⟩:=Ow.cut t (of_decide_eq_true hs.1) h1
  obtain ⟨G2,b1,b2⟩:=OwA.ows hs.2 hv' h2
  refine ⟨fun b=>G1 b∨G2 b,fun b hb=>hb.elim (fun z=>s1 _ (a1 _ z)) fun z=>s2 _ (b1 _ z),fun O' ho hx=>⟨v,r,G1,G2,rfl,fun b=>.inl,fun b=>.inr,fun b z1 z2=>s3 b (a1 b z1) (b1 b z2),a2 O' ho fun b hb hz=>?_,b2 O' ho fun b hb hz=>?_⟩⟩
  ·exact (hx b (s1 b hb) hz).elim id fun z=>absurd (b1 b z) (s3 b hb)
  ·exact (hx b (s2 b hb) hz).elim (fun z=>absurd hb (s3 b (a1 b z))) id
 | .inr i :: as,_,_,F,ts,c,_,hv,_=>by cases hv
theorem OwA.len:∀ {as:List (D ⊕ Nat)} {sh:Sh} {vs:List V} {F:AS},OwA K O H σ as sh vs F→vs.length=as.length
 | [],_,_,_,h=>by rw [h.2]; rfl
 | .inl t :: as,_,_,_,h=>by
  obtain ⟨v,r,d,dr,F1,F2,e1,e2,s1,s2,s3,h1,h2⟩:=h
  rw [e1,List.length_cons,List.length_cons,h2.len]
 | .inr i :: as,_,_,_,h=>by
  obtain ⟨v,r,dr,e1,e2,e3,h2⟩:=h
  rw [e1,List.length_cons,List.length_cons,h2.len]
theorem jY:∀ {as:List (D ⊕ Nat)} {ts:List D},vals as=some ts→ts.length=as.length
 | [],_,h=>by cases h; rfl
 | .inl t :: as,_,h=>by
  unfold vals at h
  obtain ⟨ts',hv',e⟩:=Option.map_eq_some_iff.mp h
  subst e
  rw [List.length_cons,List.length_cons,jY hv']
 | .inr _ :: _,_,h=>by cases h
theorem rq {g:List D→Option D} (hs:b8 0 sh=true) (h:tF K p ds ds1 d (eN g fa) σ H Q):tCB (rFn K g d) (tFA K p ds ds1 sh fa) σ H Q:=by
 obtain ⟨Ox,en,R,t,en',e,hf,k⟩:=h
 unfold eN at hf
 obtain ⟨⟨as,en1⟩,h1,hf⟩:=Option.bind_eq_some_iff.mp hf
 obtain ⟨ts,h2,hf⟩:=Option.bind_eq_some_iff.mp hf
 obtain ⟨t',h3,hf⟩:=Option.map_eq_some_iff.mp hf
 cases hf
 refine ⟨Ox,en,R,as,en1,e,h1,fun vs H1 R1 F P o=>?_⟩
 obtain ⟨F',s1,s2⟩:=OwA.ows hs h2 o
 have o2:Ows K (Own R1 Ox) H1 ts 0 vs F':=s2 _ (fun a z=>z.imp id .inr) fun a z z2=>by
  rcases z2 with ⟨i,z2⟩ | z2
  ·exact absurd (.inl z) (P.env.dx i a z2)
  ·exact absurd z2 (P.fx a z)
 exact ⟨Own R1 Ox,ts,t,Ows.any0 ts o2,P.doms,h3,fun v2 H2 F2 n o2=>k v2 H2 R1 F2 (P.fin n) (jN ▸ o2)⟩
theorem Post.add {H1:Hp} {F G:AS} (P:Post K p ds' Ox σ H en R en' H1 R' F) (n:NewTo H1 H' G):Post K p ds' Ox σ H en R en' H' R' (U F G):=by
 have P2:Post K true ds' (U F Ox) σ H1 en' R' en' H' R' G:=Post.new P.env n.1 n.2
 have:=P.trans P2
 rw [Bool.and_true] at this
 exact this
theorem bP {l:Addr} {o:HO} (hl:H l=none):NewTo H (upd H l o) (fun b=>b=l):=by
 refine ⟨fun a u q=>?_,fun a z=>?_⟩
 ·rw [aR]
  ·exact q
  ·intro z
   subst z
   rw [hl] at q
   cases q
 ·subst z
  exact ⟨hl,_,a6⟩
theorem Fd {c:Nat} (hs:b8 c sh=true) (hd:dn d=c) (hz:d≠0) (h:tF K p ds ds1 d (bh fa) σ H Q):CG (tFA K p ds ds1 sh fa) σ H Q:=by
 obtain ⟨Ox,en,R,t,en',e,hf,k⟩:=h
 unfold bh at hf
 obtain ⟨⟨as,en1⟩,h1,hf⟩:=Option.bind_eq_some_iff.mp hf
 obtain ⟨ts,h2,hf⟩:=Option.bind_eq_some_iff.mp hf
 by_cases hlen:ts.length≤sizeLine
 case neg=>rw [if_neg hlen] at hf; cases hf
 rw [if_pos hlen] at hf
 cases hf
 refine ⟨Ox,en,R,as,en1,e,h1,fun vs H1 R1 F P o=>⟨?_,fun l hl=>?_⟩⟩
 ·rw [o.len,← jY h2]; exact hlen
 obtain ⟨F',s1,s2⟩:=OwA.ows hs h2 o
 have o2:=s2 (Own R1 (U F' Ox)) (fun a z=>z.imp id fun z=>z.imp (s1 a) id) fun a z z2=>by
  rcases z2 with ⟨i,z2⟩ | z2 | z2
  ·exact absurd (.inl z) (P.env.dx i a z2)
  ·exact z2
  ·exact absurd z2 (P.fx a z)
 have P':=(P.less s1).add (bP (o:=.lst vs) hl)
 have nl:∀ a,F' a→a≠l:=fun a z z2=>by
  subst z2
  obtain ⟨o',q⟩:=P.env.dom a (.inr (.inl (s1 a z)))
  rw [hl] at q
  cases q
 refine k (.ref l) (upd H1 l (.lst vs)) R1 _ P' ⟨l,vs,rfl,.inr ⟨hz,a6,.inr rfl,F',fun b z=>⟨.inl z,nl b z⟩,?_⟩⟩
 rw [hd]
 refine Ows.mv (G:=F') ⟨fun a o q _=>(bP (o:=.lst vs) hl).1 a o q,fun a z=>?_⟩ ts (fun _ z=>z) o2
 rcases z with z | (z | z) | z
 ·exact .inl (.inl z)
 ·exact .inl (.inr (.inl z))
 ·exact .inr (by rw [show a=l from z]; exact hl)
 ·exact .inl (.inr (.inr z))
theorem E9 {c:Nat} (hs:b8 c sh=true) (hd:dn d=c) (h:tF K p ds ds1 d (aG fa) σ H Q):CB (tFA K p ds ds1 sh fa) σ H Q:=by
 obtain ⟨Ox,en,R,t,en',e,hf,k⟩:=h
 unfold aG at hf
 obtain ⟨⟨as,en1⟩,h1,hf⟩:=Option.bind_eq_some_iff.mp hf
 obtain ⟨ts,h2,hf⟩:=Option.bind_eq_some_iff.mp hf
 by_cases hlen:ts.length≤sizeLine
 case neg=>rw [if_neg hlen] at hf; cases hf
 rw [if_pos hlen] at hf
 cases hf
 refine ⟨Ox,en,R,as,en1,e,h1,fun vs H1 R1 F P o=>⟨?_,fun l hl=>?_⟩⟩
 ·rw [o.len,← jY h2]; exact hlen
 obtain ⟨F',s1,s2⟩:=OwA.ows hs h2 o
 have o2:=s2 (Own R1 (U F' Ox)) (fun a z=>z.imp id fun z=>z.imp (s1 a) id) fun a z z2=>by
  rcases z2 with ⟨i,z2⟩ | z2 | z2
  ·exact absurd (.inl z) (P.env.dx i a z2)
  ·exact z2
  ·exact absurd z2 (P.fx a z)
 have nl:∀ a,Own R1 (U F' Ox) a→a≠l:=fun a z z2=>by
  subst z2
  obtain ⟨o',q⟩:=P.env.dom a (z.imp id fun z=>z.imp (s1 a) id)
  rw [hl] at q
  cases q
 by_cases hz:d=0
 ·subst hz
  have P':=(P.less s1).add (G:=NoA) (H':=upd H1 l (.tup vs)) ⟨(bP (o:=.tup vs) hl).1,fun _ z=>z.elim⟩
  have eq:U F' NoA=F':=fH fun a=>⟨fun z=>z.elim id fun z=>z.elim,.inl⟩
  rw [eq] at P'
  refine k (.ref l) (upd H1 l (.tup vs)) R1 _ P' ⟨l,vs,rfl,.inl ⟨rfl,⟨a6,fun z=>nl l z rfl⟩,?_⟩⟩
  have hc:c=0:=hd.symm
  subst hc
  exact Ows.mv (G:=F') ⟨fun a o q _=>(bP (o:=.tup vs) hl).1 a o q,fun a z=>.inl z⟩ ts (fun _ z=>z) o2
 ·have P':=(P.less s1).add (bP (o:=.tup vs) hl)
  refine k (.ref l) (upd H1 l (.tup vs)) R1 _ P' ⟨l,vs,rfl,.inr ⟨hz,a6,.inr rfl,F',fun b z=>⟨.inl z,nl b (.inr (.inl z))⟩,?_⟩⟩
  rw [hd]
  refine Ows.mv (G:=F') ⟨fun a o q _=>(bP (o:=.tup vs) hl).1 a o q,fun a z=>?_⟩ ts (fun _ z=>z) o2
  rcases z with z | (z | z) | z
  ·exact .inl (.inl z)
  ·exact .inl (.inr (.inl z))
  ·exact .inr (by rw [show a=l from z]; exact hl)
  ·exact .inl (.inr (.inr z))
end
def spF (K:PySem.W.Frag) (dps:List Nat) (dr:Nat) (F:List D→Option (D × En)):Sp:=fun vs H Q _ =>
 ∃ Ox ts R r outs,EnvOk K dps Ox H (vs.map some) (ts.map some) R∧F ts=some (r,outs) ∧
  ∀ v H' R' Fr,Post K false dps Ox (vs.map some) H (ts.map some) R outs H' R' Fr→Ow K (Own R' (U Fr Ox)) H' r dr v Fr→Q v H'
def dZ:List (D ⊕ Nat)→En→Option (List D)
 | [],_=>some []
 | .inl t :: r,en=>(dZ r en).map (t :: ·)
 | .inr i :: r,en=>(en[i]?).join.bind fun t=>(dZ r en).map (t :: ·)
def wb:List (D ⊕ Nat)→En→En→En
 | .inr i :: r,o :: outs,en=>wb r outs (en.set i o)
 | .inl _ :: r,_ :: outs,en=>wb r outs en
 | _,_,en=>en
def ax (F:List D→Option (D × En)) (fa:MA):ME:=fun en=>(fa en).bind fun r=>(dZ r.1 r.2).bind fun ts=>(F ts).map fun q=>(q.1,wb r.1 q.2 r.2)
def gZ:Sh→List Nat
 | []=>[]
 | .inl _ :: r=>gZ r
 | .inr i :: r=>i :: gZ r
def eU (ds:List Nat):Sh→List Nat→Bool
 | [],[]=>true
 | .inl d :: r,q :: s=>decide (d=q) && eU ds r s
 | .inr i :: r,q :: s=>decide (ds[i]?=some q) && (decide (i ∉ gZ r) && eU ds r s)
 | _,_=>false
def hR:Sh→Bool
 | []=>true
 | .inl _ :: r=>hR r
 | .inr _ :: _=>false
section
variable {K:PySem.W.Frag} {p p1 p2:Bool} {ds ds0 ds1 ds2 ds' dps:List Nat} {Ox Ox' O O':AS} {H H':Hp} {σ:St} {en en' en1 en2:En} {R R':Nat→AS} {d d' d1 d2 dr:Nat} {t t1 t2:D} {Q:VK} {f f1 f2:ME} {fa:MA} {sh:Sh} {QA:List V→Hp→Prop} {i:Nat}
theorem OwA.parts:∀ {as:List (D ⊕ Nat)} {sh:Sh} {vs:List V} {F:AS},OwA K O H σ as sh vs F →
  ∃ Rp:Nat→AS,(∀ (j:Nat) t,as[j]?=some (.inl t)→∃ v d,vs[j]?=some v∧sh[j]?=some (.inl d)∧Ow K O H t d v (Rp j))∧(∀ (j i:Nat),as[j]?=some (.inr i)→∃ v,vs[j]?=some v∧sh[j]?=some (.inr i)∧σ[i]?=some (some v)) ∧
   (∀ j a,Rp j a→F a)∧(∀ j j' a,Rp j a→Rp j' a→j=j')
 | [],sh,vs,F,h=>⟨fun _=>NoA,fun j t z=>by simp at z,fun j i z=>by simp at z,fun _ _ z=>z.elim,fun _ _ _ z=>z.elim⟩
 | .inl t :: as,sh,vs,F,h=>by
  obtain ⟨v,r,d,dr,F1,F2,e1,e2,s1,s2,s3,h1,h2⟩:=h
  subst e1 e2
  obtain ⟨Rp,a1,a2,a3,a4⟩:=h2.parts
  refine ⟨fun j=>match j with | 0=>F1 | j+1=>Rp j,fun j u hj=>?_,fun j i hj=>?_,fun j a z=>?_,fun j j' a z z'=>?_⟩
  ·cases j with
   | zero =>
    have:t=u:=by simpa using hj
    subst this
    exact ⟨v,d,rfl,rfl,h1⟩
   | succ j=>exact a1 j u (by simpa using hj)
  ·cases j with
   | zero=>simp at hj
   | succ j=>exact a2 j i (by simpa using hj)
  ·cases j with
   | zero=>exact s1 a z
   | succ j=>exact s2 a (a3 j a z)
  ·cases j with
   | zero =>
    cases j' with
    | zero=>rfl
    | succ j'=>exact absurd (a3 j' a z') (s3 a z)
   | succ j =>
    cases j' with
    | zero=>exact absurd (a3 j a z) (s3 a z')
    | succ j'=>rw [a4 j j' a z z']
 | .inr i :: as,sh,vs,F,h=>by
  obtain ⟨v,r,dr,e1,e2,e3,h2⟩:=h
  subst e1 e2
  obtain ⟨Rp,a1,a2,a3,a4⟩:=h2.parts
  refine ⟨fun j=>match j with | 0=>NoA | j+1=>Rp j,fun j u hj=>?_,fun j i' hj=>?_,fun j a z=>?_,fun j j' a z z'=>?_⟩
  ·cases j with
   | zero=>simp at hj
   | succ j=>exact a1 j u (by simpa using hj)
  ·cases j with
   | zero =>
    have:i=i':=by simpa using hj
    subst this
    exact ⟨v,rfl,rfl,e3⟩
   | succ j=>exact a2 j i' (by simpa using hj)
  ·cases j with
   | zero=>exact z.elim
   | succ j=>exact a3 j a z
  ·cases j with
   | zero=>exact z.elim
   | succ j =>
    cases j' with
    | zero=>exact z'.elim
    | succ j'=>rw [a4 j j' a z z']
theorem kh:∀ {as:List (D ⊕ Nat)} {en:En} {ts:List D},dZ as en=some ts→ts.length=as.length∧∀ (j:Nat) t,ts[j]?=some t→as[j]?=some (.inl t)∨∃ i,as[j]?=some (.inr i)∧en[i]?=some (some t)
 | [],_,_,h=>by cases h; exact ⟨rfl,fun j t z=>by simp at z⟩
 | .inl t :: as,en,_,h=>by
  unfold dZ at h
  obtain ⟨ts',h',e⟩:=Option.map_eq_some_iff.mp h
  subst e
  obtain ⟨l,g⟩:=kh h'
  refine ⟨by rw [List.length_cons,List.length_cons,l],fun j u z=>?_⟩
  cases j with
  | zero=>simp at z; subst z; exact .inl rfl
  | succ j=>exact g j u (by simpa using z)
 | .inr i :: as,en,_,h=>by
  unfold dZ at h
  obtain ⟨t,ht,h⟩:=Option.bind_eq_some_iff.mp h
  obtain ⟨ts',h',e⟩:=Option.map_eq_some_iff.mp h
  subst e
  obtain ⟨l,g⟩:=kh h'
  refine ⟨by rw [List.length_cons,List.length_cons,l],fun j u z=>?_⟩
  cases j with
  | zero =>
   simp at z
   subst z
   refine .inr ⟨i,rfl,?_⟩
   cases q:en[i]? with
   | none=>rw [q] at ht; cases ht
   | some o=>rw [q] at ht; exact congrArg some ht
  | succ j=>exact g j u (by simpa using z)
theorem jw:∀ {sh:Sh} {dps:List Nat},eU ds sh dps=true→sh.length=dps.length∧(∀ (j d:Nat),sh[j]?=some (.inl d)→dps[j]?=some d)∧(∀ (j i:Nat),sh[j]?=some (.inr i)→∃ q,dps[j]?=some q∧ds[i]?=some q) ∧
   (∀ (j j' i:Nat),sh[j]?=some (.inr i)→sh[j']?=some (.inr i)→j=j')
 | [],[],_=>⟨rfl,fun j d z=>by simp at z,fun j d z=>by simp at z,fun j j' d z=>by simp at z⟩
 | .inl d :: r,q :: s,h=>by
  unfold eU at h
  rw [Bool.and_eq_true] at h
  obtain ⟨h1,h2⟩:=h
  have h1':=of_decide_eq_true h1
  subst h1'
  obtain ⟨l,a,b,c⟩:=jw h2
  refine ⟨by rw [List.length_cons,List.length_cons,l],fun j u z=>?_,fun j i z=>?_,fun j j' i z z'=>?_⟩
  ·cases j with
   | zero=>simp at z; subst z; rfl
   | succ j=>exact a j u (by simpa using z)
  ·cases j with
   | zero=>simp at z
   | succ j=>exact b j i (by simpa using z)
  ·cases j with
   | zero=>simp at z
   | succ j =>
    cases j' with
    | zero=>simp at z'
    | succ j'=>rw [c j j' i (by simpa using z) (by simpa using z')]
 | .inr i0 :: r,q :: s,h=>by
  unfold eU at h
  rw [Bool.and_eq_true,Bool.and_eq_true] at h
  obtain ⟨h1,h2,h3⟩:=h
  have h1':=of_decide_eq_true h1
  have h2':=of_decide_eq_true h2
  obtain ⟨l,a,b,c⟩:=jw h3
  have mem:∀ {r:Sh} {j i:Nat},r[j]?=some (.inr i)→i∈gZ r:=fun {r}=>by
   induction r with
   | nil=>intro j i z; simp at z
   | cons x r ih =>
    intro j i z
    cases j with
    | zero =>
     simp at z
     subst z
     unfold gZ
     exact List.mem_cons_self
    | succ j =>
     have:=ih (j:=j) (i:=i) (by simpa using z)
     cases x with
     | inl _=>exact this
     | inr _=>exact List.mem_cons_of_mem _ this
  refine ⟨by rw [List.length_cons,List.length_cons,l],fun j u z=>?_,fun j i z=>?_,fun j j' i z z'=>?_⟩
  ·cases j with
   | zero=>simp at z
   | succ j=>exact a j u (by simpa using z)
  ·cases j with
   | zero=>simp at z; subst z; exact ⟨q,rfl,h1'⟩
   | succ j=>exact b j i (by simpa using z)
  ·cases j with
   | zero =>
    simp at z
    subst z
    cases j' with
    | zero=>rfl
    | succ j'=>exact absurd (mem (by simpa using z')) h2'
   | succ j =>
    cases j' with
    | zero =>
     simp at z'
     subst z'
     exact absurd (mem (by simpa using z)) h2'
    | succ j'=>rw [c j j' i (by simpa using z) (by simpa using z')]
 | [],_ :: _,h=>nomatch h
 | .inl _ :: _,[],h=>nomatch h
 | .inr _ :: _,[],h=>nomatch h
theorem mI:∀ (as:List (D ⊕ Nat)) (outs en:En),(wb as outs en).length=en.length
 | [],_,_=>by unfold wb; rfl
 | .inl _ :: as,[],_=>by unfold wb; rfl
 | .inr _ :: as,[],_=>by unfold wb; rfl
 | .inl _ :: as,o :: outs,en=>by unfold wb; exact mI as outs en
 | .inr i :: as,o :: outs,en=>by unfold wb; rw [mI as outs _,List.length_set]
theorem i7:∀ (as:List (D ⊕ Nat)) (outs en:En) (i:Nat),(∀ j:Nat,as[j]?≠some (.inr i))→(wb as outs en)[i]?=en[i]?
 | [],_,_,_,_=>by unfold wb; rfl
 | .inl _ :: as,[],_,_,_=>by unfold wb; rfl
 | .inr _ :: as,[],_,_,_=>by unfold wb; rfl
 | .inl _ :: as,o :: outs,en,i,h=>by unfold wb; exact i7 as outs en i fun j=>h (j+1)
 | .inr k :: as,o :: outs,en,i,h=>by
  unfold wb
  rw [i7 as outs _ i fun j=>h (j+1),List.getElem?_set_ne]
  intro e
  subst e
  exact h 0 rfl
theorem oQ:∀ (as:List (D ⊕ Nat)) (outs en:En) (i j:Nat),as[j]?=some (.inr i)→(∀ j':Nat,as[j']?=some (.inr i)→j'=j)→outs.length=as.length→i < en.length→(wb as outs en)[i]?=outs[j]?
 | [],_,_,_,_,h,_,_,_=>by simp at h
 | .inl _ :: as,[],_,_,_,_,_,h,_=>by simp at h
 | .inr _ :: as,[],_,_,_,_,_,h,_=>by simp at h
 | .inl _ :: as,o :: outs,en,i,j,h,u,l,b=>by
  unfold wb
  cases j with
  | zero=>simp at h
  | succ j=>exact oQ as outs en i j (by simpa using h) (fun j' z=>by have:=u (j'+1) (by simpa using z); omega) (by simpa using l) b
 | .inr k :: as,o :: outs,en,i,j,h,u,l,b=>by
  unfold wb
  cases j with
  | zero =>
   have e:k=i:=by simpa using h
   subst e
   rw [i7 as outs _ k fun j' z=>by have:=u (j'+1) (by simpa using z); omega]
   rw [List.getElem?_set_self b]
   rfl
  | succ j=>exact oQ as outs _ i j (by simpa using h) (fun j' z=>by have:=u (j'+1) (by simpa using z); omega) (by simpa using l) (by rw [List.length_set]; exact b)
end
end L2
namespace L2
open PySem PySem.Spec PyProof.Rows
section
variable {K:PySem.W.Frag} {p p1 p2:Bool} {ds ds0 ds1 ds2 ds' dps:List Nat} {Ox Ox' O O':AS} {H H':Hp} {σ:St} {en en' en1 en2:En} {R R':Nat→AS} {d d' d1 d2 dr:Nat} {t t1 t2:D} {Q:VK} {f f1 f2:ME} {fa:MA} {sh:Sh} {QA:List V→Hp→Prop} {i:Nat}
theorem OwA.shl:∀ {as:List (D ⊕ Nat)} {sh:Sh} {vs:List V} {F:AS},OwA K O H σ as sh vs F→sh.length=as.length
 | [],_,_,_,h=>by rw [h.1]; rfl
 | .inl t :: as,_,_,_,h=>by
  obtain ⟨v,r,d,dr,F1,F2,e1,e2,s1,s2,s3,h1,h2⟩:=h
  rw [e2,List.length_cons,List.length_cons,h2.shl]
 | .inr i :: as,_,_,_,h=>by
  obtain ⟨v,r,dr,e1,e2,e3,h2⟩:=h
  rw [e2,List.length_cons,List.length_cons,h2.shl]
theorem kw:∀ {sh:Sh},hR sh=true→∀ (j i:Nat),sh[j]?≠some (.inr i)
 | [],_,j,i,z=>by simp at z
 | .inl _ :: r,h,j,i,z=>by
  cases j with
  | zero=>simp at z
  | succ j=>exact kw (sh:=r) h j i (by simpa using z)
 | .inr _ :: r,h,_,_,_=>nomatch h
theorem Em {E:XK} {F:List D→Option (D × En)} (hc:eU ds1 sh dps=true) (h:tF K (p && hR sh) ds ds1 dr (ax F fa) σ H Q):oW (spF K dps dr F) [] E (tFA K p ds ds1 sh fa) σ H Q:=by
 obtain ⟨Ox,en,R,t,en',e,hf,k⟩:=h
 unfold ax at hf
 obtain ⟨⟨as,en1⟩,h1,hf⟩:=Option.bind_eq_some_iff.mp hf
 obtain ⟨ts,h2,hf⟩:=Option.bind_eq_some_iff.mp hf
 obtain ⟨⟨r,outs⟩,h3,hf⟩:=Option.map_eq_some_iff.mp hf
 cases hf
 refine ⟨Ox,en,R,as,en1,e,h1,fun vs H1 R1 F0 P o=>?_⟩
 obtain ⟨cl,c1,c2,c3⟩:=jw hc
 obtain ⟨Rp,a1,a2,a3,a4⟩:=o.parts
 obtain ⟨tl,tg⟩:=kh h2
 have ol:=o.len
 have asl:∀ (j i:Nat),as[j]?=some (.inr i)→sh[j]?=some (.inr i):=fun j i z=>(a2 j i z).choose_spec.2.1
 have asr:∀ (j i:Nat),sh[j]?=some (.inr i)→as[j]?=some (.inr i):=fun j i z=>by
  cases q:as[j]? with
  | none =>
   have e1:as.length≤j:=List.getElem?_eq_none_iff.mp q
   have e2:j < sh.length:=(List.getElem?_eq_some_iff.mp z).1
   have:=o.shl
   omega
  | some x =>
   cases x with
   | inl t =>
    obtain ⟨_,_,_,e2,_⟩:=a1 j t q
    rw [z] at e2; cases e2
   | inr i' =>
    have:=asl j i' q
    rw [z] at this
    cases this
    rfl
 let Rq:Nat→AS:=fun j=>match sh[j]? with | some (.inr i)=>R1 i | _=>Rp j
 have rq1:∀ j i:Nat,sh[j]?=some (.inr i)→Rq j=R1 i:=fun j i z=>by show (match sh[j]? with | some (.inr i)=>R1 i | _=>Rp j)=R1 i; rw [z]
 have rq2:∀ j:Nat,(∀ i:Nat,sh[j]?≠some (.inr i))→Rq j=Rp j:=fun j z=>by
  show (match sh[j]? with | some (.inr i)=>R1 i | _=>Rp j)=Rp j
  split
  ·next i q=>exact absurd q (z i)
  ·rfl
 have rqc:∀ (j:Nat) a,Rq j a→(∃ i,sh[j]?=some (.inr i)∧R1 i a)∨Rp j a:=fun j a z=>by
  by_cases q:∃ i,sh[j]?=some (.inr i)
  ·obtain ⟨i,q⟩:=q
   rw [rq1 j i q] at z
   exact .inl ⟨i,q,z⟩
  ·rw [rq2 j fun i z=>q ⟨i,z⟩] at z
   exact .inr z
 let Oxp:AS:=fun a=>Ox a∨∃ i,R1 i a∧∀ j:Nat,sh[j]?≠some (.inr i)
 have sub:∀ a,Own Rq Oxp a→Own R1 (U F0 Ox) a:=fun a z=>by
  rcases z with ⟨j,z⟩ | z | ⟨i,z,_⟩
  ·rcases rqc j a z with ⟨i,_,z⟩ | z
   ·exact .inl ⟨i,z⟩
   ·exact .inr (.inl (a3 j a z))
  ·exact .inr (.inr z)
  ·exact .inl ⟨i,z⟩
 have ec:EnvOk K dps Oxp H1 (vs.map some) (ts.map some) Rq:=by
  refine ⟨fun j u hu=>?_,fun j j' a z z'=>?_,fun j a z z2=>?_,fun a z=>P.env.dom a (sub a z),by rw [List.length_map,List.length_map,tl,ol],?_⟩
  ·rw [List.getElem?_map] at hu
   obtain ⟨u',hu,eu⟩:=Option.map_eq_some_iff.mp hu
   cases eu
   rcases tg j u hu with q | ⟨i,q,qe⟩
   ·obtain ⟨v,d,b1,b2,b3⟩:=a1 j u q
    refine ⟨v,d,by rw [List.getElem?_map,b1]; rfl,c1 j d b2,?_⟩
    rw [rq2 j fun i z=>by rw [b2] at z; cases z]
    exact Ow.grow sub u (fun _ z=>z) b3
   ·obtain ⟨v,b1,b2,b3⟩:=a2 j i q
    obtain ⟨v',d,g1,g2,g3⟩:=P.env.at_ i u qe
    rw [b3] at g1
    cases g1
    obtain ⟨qd,q1,q2⟩:=c2 j i b2
    rw [g2] at q2
    cases q2
    refine ⟨v,d,by rw [List.getElem?_map,b1]; rfl,q1,?_⟩
    rw [rq1 j i b2]
    exact Ow.grow sub u (fun _ z=>z) g3
  ·rcases rqc j a z with ⟨i,q,z⟩ | z <;> rcases rqc j' a z' with ⟨i',q',z'⟩ | z'
   ·have:=P.env.dj i i' a z z'
    subst this
    exact c3 j j' i q q'
   ·exact absurd (.inl (a3 j' a z')) (P.env.dx i a z)
   ·exact absurd (.inl (a3 j a z)) (P.env.dx i' a z')
   ·exact a4 j j' a z z'
  ·rcases rqc j a z with ⟨i,q,z⟩ | z
   ·rcases z2 with z2 | ⟨i',z2,n⟩
    ·exact P.env.dx i a z (.inr z2)
    ·have:=P.env.dj i i' a z z2
     subst this
     exact n j q
   ·rcases z2 with z2 | ⟨i',z2,n⟩
    ·exact P.fx a (a3 j a z) z2
    ·exact P.env.dx i' a z2 (.inl (a3 j a z))
  ·have:=o.shl
   rw [List.length_map]
   omega
 rw [List.append_nil]
 refine ⟨Oxp,ts,Rq,r,outs,ec,h3,fun v H2 R2 Fr Pc oc=>?_⟩
 have outl:outs.length=as.length:=by rw [Pc.env.l1,List.length_map]; exact ol
 classical
 let R3:Nat→AS:=fun i=>if q:∃ j:Nat,sh[j]?=some (.inr i) then R2 q.choose else R1 i
 have r31:∀ (i j:Nat),sh[j]?=some (.inr i)→R3 i=R2 j:=fun i j z=>by
  have q:∃ j:Nat,sh[j]?=some (.inr i):=⟨j,z⟩
  have:q.choose=j:=c3 _ _ i q.choose_spec z
  show (if q:∃ j:Nat,sh[j]?=some (.inr i) then R2 q.choose else R1 i)=R2 j
  rw [dif_pos q,this]
 have r32:∀ i:Nat,(∀ j:Nat,sh[j]?≠some (.inr i))→R3 i=R1 i:=fun i z=>by
  show (if q:∃ j:Nat,sh[j]?=some (.inr i) then R2 q.choose else R1 i)=R1 i
  rw [dif_neg fun ⟨j,q⟩=>z j q]
 have r3c:∀ (i:Nat) a,R3 i a→(∃ j:Nat,sh[j]?=some (.inr i)∧R2 j a)∨((∀ j:Nat,sh[j]?≠some (.inr i))∧R1 i a):=fun i a z=>by
  by_cases q:∃ j:Nat,sh[j]?=some (.inr i)
  ·obtain ⟨j,q⟩:=q
   rw [r31 i j q] at z
   exact .inl ⟨j,q,z⟩
  ·rw [r32 i fun j z=>q ⟨j,z⟩] at z
   exact .inr ⟨fun j z=>q ⟨j,z⟩,z⟩
 have sub3:∀ a,Own R3 (U Fr Ox) a→Own R2 (U Fr Oxp) a:=fun a z=>by
  rcases z with ⟨i,z⟩ | z | z
  ·rcases r3c i a z with ⟨j,_,z⟩ | ⟨n,z⟩
   ·exact .inl ⟨j,z⟩
   ·exact .inr (.inr (.inr ⟨i,z,n⟩))
  ·exact .inr (.inl z)
  ·exact .inr (.inr (.inl z))
 have back:∀ a,(Fr a∨∃ j,R2 j a)→Own R1 (U F0 Ox) a∨H1 a=none:=fun a z=>by
  rcases Pc.own a z with ⟨j,z⟩ | z
  ·exact .inl (sub a (.inl ⟨j,z⟩))
  ·exact .inr z
 have back2:∀ a,(Fr a∨∃ j,R2 j a)→(F0 a∨∃ i,R1 i a)∨H1 a=none:=fun a z=>by
  rcases Pc.own a z with ⟨j,z⟩ | z
  ·rcases rqc j a z with ⟨i,_,z⟩ | z
   ·exact .inl (.inr ⟨i,z⟩)
   ·exact .inl (.inl (a3 j a z))
  ·exact .inr z
 have n1:∀ a,H1 a=none→H a=none:=fun a z=>by
  cases q:H a with
  | none=>rfl
  | some o =>
   obtain ⟨o',q'⟩:=P.dom a o q
   rw [z] at q'
   cases q'
 have rqsub:∀ j a,Rq j a→Own R1 (U F0 Ox) a:=fun j a z=>sub a (.inl ⟨j,z⟩)
 have env3:EnvOk K ds1 (U Fr Ox) H2 σ (wb as outs en1) R3:=by
  refine ⟨fun i u hu=>?_,fun i i' a z z'=>?_,fun i a z z2=>?_,fun a z=>Pc.env.dom a (sub3 a z),by rw [mI]; exact P.env.l1,P.env.l2⟩
  ·by_cases q:∃ j:Nat,as[j]?=some (.inr i)
   ·obtain ⟨j,q⟩:=q
    obtain ⟨v,b1,b2,b3⟩:=a2 j i q
    have hil:i < en1.length:=by rw [P.env.l1]; exact (List.getElem?_eq_some_iff.mp b3).1
    rw [oQ as outs en1 i j q (fun j' z=>c3 j' j i (asl j' i z) b2) outl hil] at hu
    obtain ⟨v',d,g1,g2,g3⟩:=Pc.env.at_ j u hu
    rw [List.getElem?_map,b1] at g1
    cases g1
    obtain ⟨qd,q1,q2⟩:=c2 j i b2
    rw [g2] at q1
    cases q1
    refine ⟨v,d,b3,q2,?_⟩
    rw [r31 i j b2]
    exact Ow.grow sub3 u (fun _ z=>z) g3
   ·rw [i7 as outs en1 i fun j z=>q ⟨j,z⟩] at hu
    have ns:∀ j:Nat,sh[j]?≠some (.inr i):=fun j z=>q ⟨j,asr j i z⟩
    obtain ⟨v,d,g1,g2,g3⟩:=P.env.at_ i u hu
    refine ⟨v,d,g1,g2,?_⟩
    rw [r32 i ns]
    refine Ow.mv (G:=R1 i) ⟨fun a o q z=>Pc.keep a o q fun j zj=>?_,fun a z=>?_⟩ u (fun _ z=>z) g3
    ·rcases z with z | z
     ·exact z (rqsub j a zj)
     ·rcases rqc j a zj with ⟨i',q',z'⟩ | z'
      ·have:=P.env.dj i i' a z z'
       subst this
       exact ns j q'
      ·exact P.env.dx i a z (.inl (a3 j a z'))
    ·rcases z with ⟨i',z⟩ | z | z
     ·rcases r3c i' a z with ⟨j,_,z⟩ | ⟨n,z⟩
      ·exact back a (.inr ⟨j,z⟩)
      ·exact .inl (.inl ⟨i',z⟩)
     ·exact back a (.inl z)
     ·exact .inl (.inr (.inr z))
  ·rcases r3c i a z with ⟨j,q,z⟩ | ⟨n,z⟩ <;> rcases r3c i' a z' with ⟨j',q',z'⟩ | ⟨n',z'⟩
   ·have:=Pc.env.dj j j' a z z'
    subst this
    rw [q] at q'
    cases q'
    rfl
   ·exact absurd (.inr (.inr ⟨i',z',n'⟩)) (Pc.env.dx j a z)
   ·exact absurd (.inr (.inr ⟨i,z,n⟩)) (Pc.env.dx j' a z')
   ·exact P.env.dj i i' a z z'
  ·rcases r3c i a z with ⟨j,q,z⟩ | ⟨n,z⟩
   ·exact Pc.env.dx j a z (z2.imp id .inl)
   ·rcases z2 with z2 | z2
    ·exact Pc.fx a z2 (.inr ⟨i,z,n⟩)
    ·exact P.env.dx i a z (.inr z2)
 refine k v H2 R3 Fr ⟨env3,fun a z z2=>Pc.fx a z (.inl z2),fun a o q n=>?_,fun a z=>?_,fun a o q=>?_,fun hp=>?_⟩ (Ow.grow sub3 r (fun _ z=>z) oc)
 ·refine Pc.keep a o (P.keep a o q n) fun j z=>?_
  have nn:∀ i,¬ R1 i a:=fun i z=>by
   rcases P.own a (.inr ⟨i,z⟩) with ⟨i',z⟩ | z
   ·exact n i' z
   ·rw [q] at z; cases z
  rcases rqc j a z with ⟨i,_,z⟩ | z
  ·exact nn i z
  ·rcases P.own a (.inl (a3 j a z)) with ⟨i',z⟩ | z
   ·exact n i' z
   ·rw [q] at z; cases z
 ·have:(F0 a∨∃ i,R1 i a)∨H1 a=none:=by
   rcases z with z | ⟨i,z⟩
   ·exact back2 a (.inl z)
   ·rcases r3c i a z with ⟨j,_,z⟩ | ⟨n,z⟩
    ·exact back2 a (.inr ⟨j,z⟩)
    ·exact .inl (.inr ⟨i,z⟩)
  rcases this with z | z
  ·exact P.own a z
  ·exact .inr (n1 a z)
 ·obtain ⟨o',q'⟩:=P.dom a o q
  exact Pc.dom a o' q'
 ·obtain ⟨hp1,hp2⟩:=(Bool.and_eq_true _ _ ▸ hp:p=true∧hR sh=true)
  obtain ⟨b1,b2,b3⟩:=P.pure hp1
  have ns:=kw hp2
  refine ⟨?_,?_,fun a o q=>?_⟩
  ·show wb as outs en1=en
   rw [← b1]
   refine List.ext_getElem? fun i=>?_
   exact i7 as outs en1 i fun j z=>ns j i (asl j i z)
  ·rw [← b2]
   funext i
   exact r32 i fun j=>ns j i
  ·refine Pc.keep a o (b3 a o q) fun j z=>?_
   rcases rqc j a z with ⟨i,z,_⟩ | z
   ·exact ns j i z
   ·have zf:=a3 j a z
    rcases P.own a (.inl zf) with ⟨i,z2⟩ | z2
    ·rw [← b2] at z2
     exact P.env.dx i a z2 (.inl zf)
    ·rw [q] at z2; cases z2
end
end L2
namespace L2
open PySem PySem.Spec PyProof.Rows
inductive Fl where
 | nx (en:En) | rt (t:D) (en:En) | ct (en:En)
abbrev MS:=En→Option Fl
structure Jd where
 lk:List Nat
 dsr:List Nat
 dr:Nat
 dsl:List Nat
structure PostS (K:PySem.W.Frag) (lk:List Nat) (ds':List Nat) (Ox:AS) (σ:St) (H:Hp) (R:Nat→AS) (σ':St) (en':En) (H':Hp) (R':Nat→AS) (F:AS):Prop where
 env:EnvOk K ds' (U F Ox) H' σ' en' R'
 fx:∀ a,F a→¬ Ox a
 keep:∀ a o,H a=some o→(∀ i,¬ R i a)→H' a=some o
 own:∀ a,(F a∨∃ i,R' i a)→(∃ i,R i a)∨H a=none
 dom:∀ a o,H a=some o→∃ o',H' a=some o'
 lk:∀ j∈lk,σ'[j]?=σ[j]?
def tFS (K:PySem.W.Frag) (J:Jd) (ds ds':List Nat) (f:MS):TS:=fun D σ H =>
 ∃ Ox en R fl,EnvOk K ds Ox H σ en R∧f en=some fl∧match fl with
  | .nx en'=>∀ σ' H' R',PostS K J.lk ds' Ox σ H R σ' en' H' R' NoA→D.nx σ' H'
  | .ct en'=>∀ σ' H' R',PostS K J.lk J.dsl Ox σ H R σ' en' H' R' NoA→D.ct σ' H'
  | .rt t en'=>∀ v σ' H' R' F,PostS K J.lk J.dsr Ox σ H R σ' en' H' R' F→Ow K (Own R' (U F Ox)) H' t J.dr v F→D.rt v H'
def au (f g:MS):MS:=fun en=>(f en).bind fun fl=>match fl with
 | .nx en1=>g en1
 | .rt t en1=>some (.rt t en1)
 | .ct en1=>some (.ct en1)
def aF (i:Nat) (f:ME):MS:=fun en=>(f en).map fun r=>.nx (r.2.set i (some r.1))
def ik (f:ME):MS:=fun en=>(f en).map fun r=>.nx r.2
def aL (f:ME):MS:=fun en=>(f en).map fun r=>.rt r.1 r.2
def FR:MS:=fun en=>some (.rt .none en)
def bc:MS:=fun en=>some (.nx en)
def FS:MS:=fun en=>some (.ct en)
def FK:MS:=fun _=>none
def sIf (c:MT) (f g:MS):MS:=fun en=>(c en).bind fun r=>if r.1 then f r.2 else g r.2
section
variable {K:PySem.W.Frag} {p p1 p2:Bool} {J:Jd} {lk:List Nat} {ds ds0 ds1 ds2 ds':List Nat} {Ox Ox' O O':AS} {H H':Hp} {σ σ':St} {en en' en1 en2:En} {R R':Nat→AS} {d d' d1 d2 dr:Nat} {t t1 t2:D} {f f1 f2:ME} {c:MT} {m m1 m2:MS} {i:Nat} {D:Ends}
theorem PostS.refl (e:EnvOk K ds Ox H σ en R):PostS K lk ds Ox σ H R σ en H R NoA :=
 ⟨by rw [dO]; exact e,fun _ z=>z.elim,fun _ _ q _=>q,fun a z=>z.elim (fun z=>z.elim) .inl,fun a o q=>⟨o,q⟩,fun _ _=>rfl⟩
theorem PostS.env0 {F:AS} (P:PostS K lk ds' Ox σ H R σ' en' H' R' F):EnvOk K ds' Ox H' σ' en' R':=P.env.fewer fun a z=>.inr z
theorem PostS.less {F F':AS} (P:PostS K lk ds' Ox σ H R σ' en' H' R' F) (h:∀ a,F' a→F a):PostS K lk ds' Ox σ H R σ' en' H' R' F' :=
 ⟨P.env.fewer fun a z=>z.imp (h a) id,fun a z=>P.fx a (h a z),P.keep,fun a z=>P.own a (z.imp (h a) id),P.dom,P.lk⟩
theorem PostS.after {σ1 σ2:St} {H1:Hp} {R1 R2:Nat→AS} {F:AS} (P1:PostS K lk ds1 Ox σ H R σ1 en1 H1 R1 NoA) (P2:PostS K lk ds2 Ox σ1 H1 R1 σ2 en2 H' R2 F):PostS K lk ds2 Ox σ H R σ2 en2 H' R2 F:=by
 have n1:∀ a,H1 a=none→H a=none:=fun a z=>by
  cases q:H a with
  | none=>rfl
  | some o =>
   obtain ⟨o',q'⟩:=P1.dom a o q
   rw [z] at q'
   cases q'
 refine ⟨P2.env,P2.fx,fun a o q n=>?_,fun a z=>?_,fun a o q=>?_,fun j hj=>(P2.lk j hj).trans (P1.lk j hj)⟩
 ·refine P2.keep a o (P1.keep a o q n) fun i z=>?_
  rcases P1.own a (.inr ⟨i,z⟩) with ⟨j,z⟩ | z
  ·exact n j z
  ·rw [q] at z; cases z
 ·rcases P2.own a z with z | z
  ·exact P1.own a (.inr z)
  ·exact .inr (n1 a z)
 ·obtain ⟨o',q'⟩:=P1.dom a o q
  exact P2.dom a o' q'
theorem Post.s {F:AS} (P:Post K p ds' Ox σ H en R en' H' R' F):PostS K lk ds' Ox σ H R σ en' H' R' F:=⟨P.env,P.fx,P.keep,P.own,P.dom,fun _ _=>rfl⟩
theorem PostS.cut {F:AS} (P:PostS K lk ds1 Ox σ H R σ' en' H' R' F) (hd:leD ds2 ds1=true):∃ R2,(∀ i a,R2 i a→R' i a)∧PostS K lk ds2 Ox σ H R σ' en' H' R2 F:=by
 obtain ⟨R2,s1,e2⟩:=P.env.cut (da hd).1 (da hd).2
 exact ⟨R2,s1,e2,P.fx,P.keep,fun a z=>P.own a (z.imp id fun ⟨i,z⟩=>⟨i,s1 i a z⟩),P.dom,P.lk⟩
theorem DR (h:tFS K J ds ds bc D σ H):yP D σ H:=by
 obtain ⟨Ox,en,R,fl,e,hf,k⟩:=h
 cases hf
 exact k σ H R (PostS.refl e)
theorem DP (h:tFS K J ds ds2 (au m1 m2) D σ H):CC (tFS K J ds ds1 m1) (tFS K J ds1 ds2 m2) D σ H:=by
 obtain ⟨Ox,en,R,fl,e,hf,k⟩:=h
 unfold au at hf
 obtain ⟨fl1,h1,hf⟩:=Option.bind_eq_some_iff.mp hf
 refine ⟨Ox,en,R,fl1,e,h1,?_⟩
 cases fl1 with
 | nx en1 =>
  intro σ1 H1 R1 P1
  refine ⟨Ox,en1,R1,fl,P1.env0,hf,?_⟩
  cases fl with
  | nx en2=>exact fun σ2 H2 R2 P2=>k σ2 H2 R2 (P1.after P2)
  | ct en2=>exact fun σ2 H2 R2 P2=>k σ2 H2 R2 (P1.after P2)
  | rt t en2=>exact fun v σ2 H2 R2 F P2 o=>k v σ2 H2 R2 F (P1.after P2) o
 | ct en1=>cases hf; exact k
 | rt t en1=>cases hf; exact k
theorem qW (hd:leD ds1 ds2=true) (h:tFS K J ds ds1 m D σ H):tFS K J ds ds2 m D σ H:=by
 obtain ⟨Ox,en,R,fl,e,hf,k⟩:=h
 refine ⟨Ox,en,R,fl,e,hf,?_⟩
 cases fl with
 | nx en2 =>
  intro σ2 H2 R2 P2
  obtain ⟨R3,_,P3⟩:=P2.cut hd
  exact k σ2 H2 R3 P3
 | ct en2=>exact k
 | rt t en2=>exact k
theorem DT (h:tFS K J ds ds1 (ik f) D σ H):yQ (tF K p ds ds1 d f) D σ H:=by
 obtain ⟨Ox,en,R,fl,e,hf,k⟩:=h
 unfold ik at hf
 obtain ⟨⟨t,en1⟩,h1,hf⟩:=Option.map_eq_some_iff.mp hf
 cases hf
 exact ⟨Ox,en,R,t,en1,e,h1,fun v H1 R1 F P o=>k σ H1 R1 (P.s.less fun _ z=>z.elim)⟩
theorem DQ (hd:leD J.dsr ds1=true) (h:tFS K J ds ds' (aL f) D σ H):CD (tF K p ds ds1 J.dr f) D σ H:=by
 obtain ⟨Ox,en,R,fl,e,hf,k⟩:=h
 unfold aL at hf
 obtain ⟨⟨t,en1⟩,h1,hf⟩:=Option.map_eq_some_iff.mp hf
 cases hf
 refine ⟨Ox,en,R,t,en1,e,h1,fun v H1 R1 F P o=>?_⟩
 obtain ⟨R2,s1,P2⟩:=(P.s (lk:=J.lk)).cut hd
 exact k v σ H1 R2 F P2 (Ow.grow (fun a z=>z.imp (fun ⟨i,z⟩=>⟨i,s1 i a z⟩) id) t (fun _ z=>z) o)
theorem EW (h:tFS K J ds ds2 (sIf c m1 m2) D σ H):CH (tFT K p ds ds1 c) (tFS K J ds1 ds2 m1) (tFS K J ds1 ds2 m2) D σ H:=by
 obtain ⟨Ox,en,R,fl,e,hf,k⟩:=h
 unfold sIf at hf
 obtain ⟨⟨b,en1⟩,h1,hf⟩:=Option.bind_eq_some_iff.mp hf
 refine ⟨Ox,en,R,b,en1,e,h1,fun H1 R1 P1=>?_⟩
 have fin:∀ m,m en1=some fl→tFS K J ds1 ds2 m D σ H1:=fun m hm=>by
  refine ⟨Ox,en1,R1,fl,P1.env0,hm,?_⟩
  cases fl with
  | nx en2=>exact fun σ2 H2 R2 P2=>k σ2 H2 R2 (P1.s.after P2)
  | ct en2=>exact fun σ2 H2 R2 P2=>k σ2 H2 R2 (P1.s.after P2)
  | rt t en2=>exact fun v σ2 H2 R2 F P2 o=>k v σ2 H2 R2 F (P1.s.after P2) o
 cases b with
 | true=>exact fin m1 hf
 | false=>exact fin m2 hf
theorem PostS.store {F:AS} {v:V} (P:Post K p ds1 Ox σ H en R en1 H' R' F) (o:Ow K (Own R' (U F Ox)) H' t d v F) (hi:i < ds1.length) (hl:i ∉ lk) :
  PostS K lk (ds1.set i d) Ox σ H R (σ.set i (some v)) (en1.set i (some t)) H' (fun j=>if j=i then F else R' j) NoA:=by
 have l1:=P.env.l1
 have l2:=P.env.l2
 have sub:∀ a,Own (fun j=>if j=i then F else R' j) Ox a→Own R' (U F Ox) a:=fun a z=>by
  rcases z with ⟨j,z⟩ | z
  ·by_cases hj:j=i
   ·rw [if_pos hj] at z; exact .inr (.inl z)
   ·rw [if_neg hj] at z; exact .inl ⟨j,z⟩
  ·exact .inr (.inr z)
 refine ⟨?_,fun _ z=>z.elim,P.keep,fun a z=>?_,P.dom,fun j hj=>?_⟩
 ·rw [dO]
  refine ⟨fun j u hu=>?_,fun j j' a z z'=>?_,fun j a z z2=>?_,fun a z=>P.env.dom a (sub a z),by rw [List.length_set,List.length_set]; exact l1,by rw [List.length_set,List.length_set]; exact l2⟩
  ·by_cases hj:j=i
   ·subst hj
    rw [List.getElem?_set_self (by omega)] at hu
    cases hu
    refine ⟨v,d,List.getElem?_set_self (by omega),List.getElem?_set_self hi,?_⟩
    rw [if_pos rfl]
    exact Ow.grow sub t (fun _ z=>z) o
   ·rw [List.getElem?_set_ne (Ne.symm hj)] at hu
    obtain ⟨v',d',g1,g2,g3⟩:=P.env.at_ j u hu
    refine ⟨v',d',by rw [List.getElem?_set_ne (Ne.symm hj)]; exact g1,by rw [List.getElem?_set_ne (Ne.symm hj)]; exact g2,?_⟩
    rw [if_neg hj]
    exact Ow.grow sub u (fun _ z=>z) g3
  ·by_cases hj:j=i <;> by_cases hj':j'=i
   ·rw [hj,hj']
   ·rw [if_pos hj] at z; rw [if_neg hj'] at z'
    exact absurd (.inl z) (P.env.dx j' a z')
   ·rw [if_neg hj] at z; rw [if_pos hj'] at z'
    exact absurd (.inl z') (P.env.dx j a z)
   ·rw [if_neg hj] at z; rw [if_neg hj'] at z'
    exact P.env.dj j j' a z z'
  ·by_cases hj:j=i
   ·rw [if_pos hj] at z
    exact P.fx a z z2
   ·rw [if_neg hj] at z
    exact P.env.dx j a z (.inr z2)
 ·rcases z with z | ⟨j,z⟩
  ·exact z.elim
  ·by_cases hj:j=i
   ·rw [if_pos hj] at z; exact P.own a (.inl z)
   ·rw [if_neg hj] at z; exact P.own a (.inr ⟨j,z⟩)
 ·rw [List.getElem?_set_ne]
  intro z
  subst z
  exact hl hj
theorem qX (hi:i < ds1.length) (hl:i ∉ J.lk) (h:tFS K J ds (ds1.set i d) (aF i f) D σ H):mM (tF K p ds ds1 d f) (kH i) D σ H:=by
 obtain ⟨Ox,en,R,fl,e,hf,k⟩:=h
 unfold aF at hf
 obtain ⟨⟨t,en1⟩,h1,hf⟩:=Option.map_eq_some_iff.mp hf
 cases hf
 exact ⟨Ox,en,R,t,en1,e,h1,fun v H1 R1 F P o=>k _ H1 _ (PostS.store P o hi hl)⟩
abbrev MG:=PyData→En→Option En
def tFG (K:PySem.W.Frag) (lk:List Nat) (ds ds':List Nat) (g:MG):TG:=fun v σ H Q =>
 ∃ Ox en R t en',EnvOk K ds Ox H σ en R∧Ow K (Own R Ox) H t 0 v NoA∧g t en=some en'∧∀ σ' R',PostS K lk ds' Ox σ H R σ' en' H R' NoA→(∀ j∈lk,R' j=R j)→Q σ' H
def e8 (K:PySem.W.Frag) (lk:List Nat) (ds ds':List Nat) (g:List PyData→En→Option En):TGs:=fun vs σ H Q =>
 ∃ Ox en R ts en',EnvOk K ds Ox H σ en R∧Ows K (Own R Ox) H ts 0 vs NoA∧g ts en=some en'∧∀ σ' R',PostS K lk ds' Ox σ H R σ' en' H R' NoA→(∀ j∈lk,R' j=R j)→Q σ' H
def gN (i:Nat):MG:=fun t en=>some (en.set i (some t))
def gs0:List PyData→En→Option En:=fun ts en=>match ts with
 | []=>some en
 | _=>none
def gsC (g:MG) (r:List PyData→En→Option En):List PyData→En→Option En:=fun ts en=>match ts with
 | t :: ts=>(g t en).bind fun en1=>r ts en1
 | []=>none
def gT (g:List PyData→En→Option En):MG:=fun t en=>match t with
 | .tuple ts=>g ts en
 | _=>none
variable {g g1:MG} {gs:List PyData→En→Option En} {v:V} {vs:List V} {QS:St→Hp→Prop}
theorem Az (hi:i < ds.length) (hl:i ∉ lk) (h:tFG K lk ds (ds.set i 0) (gN i) v σ H QS):kH i v σ H QS:=by
 obtain ⟨Ox,en,R,t,en',e,o,hf,k⟩:=h
 cases hf
 exact k _ _ (PostS.store (p:=true) (Post.refl e) (by rw [show (fun _=>False:AS)=NoA from rfl,dO]; exact o) hi hl) fun j hj=>if_neg (fun (z:j=i)=>hl (by rw [← z]; exact hj))
theorem Ax (h:e8 K lk ds ds gs0 vs σ H QS):DI vs σ H QS:=by
 obtain ⟨Ox,en,R,ts,en',e,o,hf,k⟩:=h
 cases ts with
 | nil=>cases hf; exact ⟨o,k σ R (PostS.refl e) fun _ _=>rfl⟩
 | cons t ts=>cases hf
theorem tf (h:e8 K lk ds ds2 (gsC g gs) vs σ H QS):zo (tFG K lk ds ds1 g) (e8 K lk ds1 ds2 gs) vs σ H QS:=by
 obtain ⟨Ox,en,R,ts,en',e,o,hf,k⟩:=h
 cases ts with
 | nil=>cases hf
 | cons t ts =>
  obtain ⟨en1,h1,h2⟩:=Option.bind_eq_some_iff.mp hf
  obtain ⟨v,r,F1,F2,e1,s1,s2,s3,o1,o2⟩:=o
  refine ⟨v,r,e1,Ox,en,R,t,en1,e,Ow.any0 t o1,h1,fun σ1 R1 P1 r1=>?_⟩
  refine ⟨Ox,en1,R1,ts,en',P1.env0,Ows.any0 ts (Ows.mv (G:=NoA) ⟨fun a o q _=>q,fun a z=>?_⟩ ts (F:=NoA) (fun _ z=>z) (Ows.any0 ts o2)),h2,fun σ2 R2 P2 r2=>k σ2 R2 (P1.after P2) fun j hj=>(r2 j hj).trans (r1 j hj)⟩
  rcases z with z | z
  ·exact (P1.own a (.inr z)).imp .inl id
  ·exact .inl (.inr z)
theorem D2 {n:Nat} (hn:∀ ts en,(∃ en',gs ts en=some en')→ts.length=n) (h:tFG K lk ds ds1 (gT gs) v σ H QS):DG K n (e8 K lk ds ds1 gs) v σ H QS:=by
 obtain ⟨Ox,en,R,t,en',e,o,hf,k⟩:=h
 cases t with
 | tuple ts =>
  have hf':gs ts en=some en':=hf
  obtain ⟨a,vs,e1,⟨_,h1,h2⟩ | ⟨z,_⟩⟩:=o
  ·refine ⟨a,vs,e1,h1.sq,?_,Ox,en,R,ts,en',e,h2,hf',k⟩
   rw [← hn ts en ⟨en',hf'⟩]
   have:∀ {ts:List PyData} {vs:List V} {F:AS},Ows K (Own R Ox) H ts 0 vs F→vs.length=ts.length:=fun {ts}=>by
    induction ts with
    | nil=>intro vs F h; rw [show vs=[] from h]; rfl
    | cons t ts ih =>
     intro vs F h
     obtain ⟨v,r,F1,F2,e,h1,h2,h3,h4,h5⟩:=h
     rw [e,List.length_cons,List.length_cons,ih h5]
   exact this h2
  ·exact absurd rfl z
 | _=>cases hf
abbrev MI:=En→Option (List PyData × En)
def ki (K:PySem.W.Frag) (O:AS) (H0:Hp) (J:It) (ts:List PyData):Prop :=
 ∀ (i:Nat) (H:Hp) (O1:AS),(∀ a o,H0 a=some o→¬ O a→H a=some o)→(∀ a,O1 a→O a∨H0 a=none)→(∀ a,O1 a→∃ o,H a=some o) →
  (∀ t,ts[i]?=some t→J.go i H∧∀ x H1,J.yld i H x H1→(∀ a o,H a=some o→H1 a=some o)∧Ow K O1 H1 t 0 x NoA)∧(ts.length=i→J.stop i H)
def tFI (K:PySem.W.Frag) (p:Bool) (ds ds':List Nat) (f:MI):TI:=fun σ H RJ =>
 ∃ Ox en R ts en',EnvOk K ds Ox H σ en R∧f en=some (ts,en')∧∀ J H' R',Post K p ds' Ox σ H en R en' H' R' NoA→ki K (Own R' Ox) H' J ts→RJ J H'
def b6 (g:MG) (b:MS):List PyData→En→Option Fl
 | [],en=>some (.nx en)
 | t :: ts,en=>(g t en).bind fun en1=>(b en1).bind fun fl=>match fl with
  | .nx en2=>b6 g b ts en2
  | .ct en2=>b6 g b ts en2
  | .rt r en2=>some (.rt r en2)
def ck (fi:MI) (g:MG) (b:MS):MS:=fun en=>(fi en).bind fun r=>b6 g b r.1 r.2
theorem DS {fi:MI} (h:tFS K J ds ds1 (ck fi g m) D σ H):CI (tFI K p ds ds1 fi) (tFG K J.lk ds1 ds2 g) (tFS K { J with dsl:=ds1 } ds2 ds1 m) D σ H:=by
 obtain ⟨Ox,en,R,fl,e,hf,k⟩:=h
 unfold ck at hf
 obtain ⟨⟨ts,en1⟩,h1,hf⟩:=Option.bind_eq_some_iff.mp hf
 refine ⟨Ox,en,R,ts,en1,e,h1,fun Jt H1 R1 P1 wk=>?_⟩
 refine ⟨fun i n σ' H'=>∃ en' R',n=ts.length - i∧i≤ts.length∧PostS K J.lk ds1 Ox σ H1 R1 σ' en' H' R' NoA∧b6 g m (ts.drop i) en'=some fl,⟨_,en1,R1,rfl,Nat.zero_le _,PostS.refl P1.env0,hf⟩,?_⟩
 rintro i n σ2 H2 ⟨en2,R2,rfl,hi,P2,hr⟩
 obtain ⟨w1,w2⟩:=wk i H2 (Own R2 Ox) (fun a o q z=>P2.keep a o q fun j zj=>z (.inl ⟨j,zj⟩)) (fun a z=>by
  rcases z with z | z
  ·exact (P2.own a (.inr z)).imp .inl id
  ·exact .inl (.inr z)) fun a z=>P2.env0.dom a z
 by_cases hlt:i < ts.length
 ·obtain ⟨go,yl⟩:=w1 ts[i] (List.getElem?_eq_getElem hlt)
  have hd:ts.drop i=ts[i] :: ts.drop (i+1):=List.drop_eq_getElem_cons hlt
  rw [hd] at hr
  obtain ⟨en3,h3,hr⟩:=Option.bind_eq_some_iff.mp hr
  obtain ⟨fl2,h4,hr⟩:=Option.bind_eq_some_iff.mp hr
  refine .inr ⟨go,fun σ' H'=>∃ en' R',PostS K J.lk ds1 Ox σ H1 R1 σ' en' H' R' NoA∧b6 g m (ts.drop (i+1)) en'=some fl,fun σ' H' ⟨en',R',P',h'⟩=>⟨ts.length - (i+1),by omega,en',R',rfl,hlt,P',h'⟩,fun x H3 y=>?_⟩
  obtain ⟨gr,ox⟩:=yl x H3 y
  have P3:Post K true ds1 Ox σ2 H2 en2 R2 en2 H3 R2 NoA:=Post.new P2.env0 gr fun _ z=>z.elim
  refine ⟨Ox,en2,R2,ts[i],en3,P3.env0,ox,h3,fun σ4 R4 P4 _=>?_⟩
  have P4':=(P2.after P3.s).after P4
  refine ⟨Ox,en3,R4,fl2,P4.env0,h4,?_⟩
  cases fl2 with
  | nx en5=>exact fun σ5 H5 R5 P5=>⟨en5,R5,P4'.after P5,hr⟩
  | ct en5=>exact fun σ5 H5 R5 P5=>⟨en5,R5,P4'.after P5,hr⟩
  | rt t en5 =>
   cases hr
   exact fun v σ5 H5 R5 F P5 o=>k v σ5 H5 R5 F (P1.s.after (P4'.after P5)) o
 ·have e2:i=ts.length:=by omega
  subst e2
  rw [List.drop_length] at hr
  cases hr
  exact .inl ⟨w2 rfl,k σ2 H2 R2 (P1.s.after P2)⟩
def whN (c:MT) (b:MS):Nat→En→Option Fl
 | 0,_=>none
 | n+1,en=>(c en).bind fun r=>if r.1 then (b r.2).bind fun fl=>match fl with
   | .nx en2=>whN c b n en2
   | .ct en2=>whN c b n en2
   | .rt t en2=>some (.rt t en2)
  else some (.nx r.2)
open Classical in
noncomputable def b9 (c:MT) (b:MS):MS:=fun en=>if h:∃ n fl,whN c b n en=some fl then some h.choose_spec.choose else none
theorem gF {b:MS} {fl:Fl} (h:b9 c b en=some fl):∃ n,whN c b n en=some fl:=by
 unfold b9 at h
 split at h
 ·next q =>
  cases h
  exact ⟨q.choose,q.choose_spec.choose_spec⟩
 ·cases h
theorem sV (h:tFS K J ds ds1 (b9 c m) D σ H):qt (tFT K p ds ds1 c) (tFS K { J with dsl:=ds } ds1 ds m) D σ H:=by
 obtain ⟨Ox,en,R,fl,e,hf,k⟩:=h
 obtain ⟨n0,hn⟩:=gF hf
 refine ⟨fun n σ' H'=>∃ en' R',PostS K J.lk ds Ox σ H R σ' en' H' R' NoA∧whN c m n en'=some fl,⟨n0,en,R,PostS.refl e,hn⟩,?_⟩
 rintro n σ2 H2 ⟨en2,R2,P2,hr⟩
 cases n with
 | zero=>cases hr
 | succ n =>
  unfold whN at hr
  obtain ⟨⟨b,en3⟩,h3,hr⟩:=Option.bind_eq_some_iff.mp hr
  refine ⟨Ox,en2,R2,b,en3,P2.env0,h3,fun H3 R3 P3=>?_⟩
  cases b with
  | false =>
   cases hr
   rw [if_neg Bool.false_ne_true]
   exact k σ2 H3 R3 (P2.after P3.s)
  | true =>
   rw [if_pos rfl] at hr ⊢
   obtain ⟨fl2,h4,hr⟩:=Option.bind_eq_some_iff.mp hr
   refine ⟨fun σ' H'=>∃ en' R',PostS K J.lk ds Ox σ H R σ' en' H' R' NoA∧whN c m n en'=some fl,fun σ' H' q=>⟨n,Nat.lt_succ_self _,q⟩,Ox,en3,R3,fl2,P3.env0,h4,?_⟩
   have P3':=P2.after (P3.s (lk:=J.lk))
   cases fl2 with
   | nx en5=>exact fun σ5 H5 R5 P5=>⟨en5,R5,P3'.after P5,hr⟩
   | ct en5=>exact fun σ5 H5 R5 P5=>⟨en5,R5,P3'.after P5,hr⟩
   | rt t en5 =>
    cases hr
    exact fun v σ5 H5 R5 F P5 o=>k v σ5 H5 R5 F (P3'.after P5) o
end
end L2
namespace L2
open PySem PySem.Spec PyProof.Rows
def lcF (g:MG) (c:MT) (f:ME):List D→List D→En→Option (List D × En)
 | [],acc,en=>some (acc,en)
 | t :: ts,acc,en=>(g t en).bind fun en1=>(c en1).bind fun r=>if r.1 then (f r.2).bind fun q=>if acc.length < sizeLine then lcF g c f ts (acc++[q.1]) q.2 else none else lcF g c f ts acc r.2
def cK (js:List (Option Nat)) (en:En):En:=js.map fun j=>match j with
 | some j=>(en[j]?).join
 | none=>none
def wbB:List (Option Nat)→En→En→En
 | some j :: js,o :: r,en=>wbB js r (en.set j o)
 | none :: js,_ :: r,en=>wbB js r en
 | _,_,en=>en
def eLC (q:Bool) (fi:MI) (g:MG) (c:MT) (f:ME) (js:List (Option Nat)):ME:=fun en=>(fi en).bind fun r=>(lcF g c f r.1 [] (cK js r.2)).map fun z=>(.list z.1,if q then r.2 else wbB js z.2 r.2)
def fj (ds:List Nat):List (Option Nat)→List Nat→Bool
 | [],[]=>true
 | some j :: js,d :: r=>decide (ds[j]?=some d) && (decide (some j ∉ js) && fj ds js r)
 | none :: js,_ :: r=>fj ds js r
 | _,_=>false
section
variable {K:PySem.W.Frag} {p p1 p2 q:Bool} {lk:List Nat} {ds ds0 ds1 ds2 ds' dsi:List Nat} {Ox Ox' O O':AS} {H H':Hp} {σ σ':St} {en en' en1 en2:En} {R R':Nat→AS} {d d' d1 d2 dr:Nat} {t t1 t2:D} {Q:VK} {f f1 f2:ME} {c:MT} {g:MG} {fi:MI} {i:Nat} {js:List (Option Nat)}
theorem kg:∀ {js:List (Option Nat)} {dsi:List Nat},fj ds js dsi=true→dsi.length=js.length∧(∀ (k j:Nat),js[k]?=some (some j)→∃ d,dsi[k]?=some d∧ds[j]?=some d)∧(∀ (k k' j:Nat),js[k]?=some (some j)→js[k']?=some (some j)→k=k')
 | [],[],_=>⟨rfl,fun k j z=>by simp at z,fun k k' j z=>by simp at z⟩
 | some j0 :: js,d :: r,h=>by
  unfold fj at h
  rw [Bool.and_eq_true,Bool.and_eq_true] at h
  obtain ⟨h1,h2,h3⟩:=h
  obtain ⟨a,b,c⟩:=kg h3
  have n:=of_decide_eq_true h2
  refine ⟨by rw [List.length_cons,List.length_cons,a],fun k j z=>?_,fun k k' j z z'=>?_⟩
  ·cases k with
   | zero=>simp at z; subst z; exact ⟨d,rfl,of_decide_eq_true h1⟩
   | succ k=>exact b k j (by simpa using z)
  ·cases k with
   | zero =>
    simp at z
    subst z
    cases k' with
    | zero=>rfl
    | succ k'=>exact absurd (List.mem_of_getElem? (by simpa using z':js[k']?=some (some j0))) n
   | succ k =>
    cases k' with
    | zero =>
     simp at z'
     subst z'
     exact absurd (List.mem_of_getElem? (by simpa using z:js[k]?=some (some j0))) n
    | succ k'=>rw [c k k' j (by simpa using z) (by simpa using z')]
 | none :: js,d :: r,h=>by
  unfold fj at h
  obtain ⟨a,b,c⟩:=kg h
  refine ⟨by rw [List.length_cons,List.length_cons,a],fun k j z=>?_,fun k k' j z z'=>?_⟩
  ·cases k with
   | zero=>simp at z
   | succ k=>exact b k j (by simpa using z)
  ·cases k with
   | zero=>simp at z
   | succ k =>
    cases k' with
    | zero=>simp at z'
    | succ k'=>rw [c k k' j (by simpa using z) (by simpa using z')]
 | [],_ :: _,h=>nomatch h
 | some _ :: _,[],h=>nomatch h
 | none :: _,[],h=>nomatch h
theorem k7:∀ (js:List (Option Nat)) (r en:En),(wbB js r en).length=en.length
 | [],_,_=>by unfold wbB; rfl
 | some _ :: _,[],_=>by unfold wbB; rfl
 | none :: _,[],_=>by unfold wbB; rfl
 | some j :: js,o :: r,en=>by unfold wbB; rw [k7 js r _,List.length_set]
 | none :: js,o :: r,en=>by unfold wbB; exact k7 js r _
theorem jH:∀ (js:List (Option Nat)) (r en:En) (i:Nat),(∀ k:Nat,js[k]?≠some (some i))→(wbB js r en)[i]?=en[i]?
 | [],_,_,_,_=>by unfold wbB; rfl
 | some _ :: _,[],_,_,_=>by unfold wbB; rfl
 | none :: _,[],_,_,_=>by unfold wbB; rfl
 | none :: js,o :: r,en,i,h=>by unfold wbB; exact jH js r en i fun j=>h (j+1)
 | some k :: js,o :: r,en,i,h=>by
  unfold wbB
  rw [jH js r _ i fun j=>h (j+1),List.getElem?_set_ne]
  intro e
  subst e
  exact h 0 rfl
theorem mJ:∀ (js:List (Option Nat)) (r en:En) (i k:Nat),js[k]?=some (some i)→(∀ k':Nat,js[k']?=some (some i)→k'=k)→r.length=js.length→i < en.length→(wbB js r en)[i]?=r[k]?
 | [],_,_,_,_,h,_,_,_=>by simp at h
 | some _ :: js,[],_,_,_,_,_,h,_=>by simp at h
 | none :: js,[],_,_,_,_,_,h,_=>by simp at h
 | none :: js,o :: r,en,i,k,h,u,l,b=>by
  unfold wbB
  cases k with
  | zero=>simp at h
  | succ k=>exact mJ js r en i k (by simpa using h) (fun j' z=>by have:=u (j'+1) (by simpa using z); omega) (by simpa using l) b
 | some j :: js,o :: r,en,i,k,h,u,l,b=>by
  unfold wbB
  cases k with
  | zero =>
   have e:j=i:=by simpa using h
   subst e
   rw [jH js r _ j fun j' z=>by have:=u (j'+1) (by simpa using z); omega]
   rw [List.getElem?_set_self b]
   rfl
  | succ k=>exact mJ js r _ i k (by simpa using h) (fun j' z=>by have:=u (j'+1) (by simpa using z); omega) (by simpa using l) (by rw [List.length_set]; exact b)
theorem Ows.snoc:∀ {ts:List D} {vs:List V} {F1 F2:AS} {v:V},Ows K O H ts d vs F1→Ow K O H t d v F2→(∀ b,F1 b→¬ F2 b)→Ows K O H (ts++[t]) d (vs++[v]) (U F1 F2)
 | [],vs,F1,F2,v,h,h2,_=>by
  have e:vs=[]:=h
  subst e
  exact ⟨v,[],F2,NoA,rfl,fun _ z=>.inr z,fun _ z=>z.elim,fun _ _ z=>z.elim,h2,rfl⟩
 | u :: ts,vs,F1,F2,v,h,h2,hd=>by
  obtain ⟨w,r,G1,G2,e,s1,s2,s3,h4,h5⟩:=h
  subst e
  refine ⟨w,r++[v],G1,U G2 F2,rfl,fun b z=>.inl (s1 b z),fun b z=>z.imp (s2 b) id,fun b z z2=>?_,h4,Ows.snoc h5 h2 fun b z=>hd b (s2 b z)⟩
  rcases z2 with z2 | z2
  ·exact s3 b z z2
  ·exact hd b (s1 b z) z2
theorem Ows.len:∀ {ts:List D} {vs:List V} {F:AS},Ows K O H ts d vs F→vs.length=ts.length
 | [],_,_,h=>by rw [show _=[] from h]; rfl
 | t :: ts,_,_,h=>by
  obtain ⟨v,r,F1,F2,e,h1,h2,h3,h4,h5⟩:=h
  rw [e,List.length_cons,List.length_cons,h5.len]
def fh:List (Option Nat)→Nat→List Nat
 | [],_=>[]
 | some _ :: r,n=>n :: fh r (n+1)
 | none :: r,n=>fh r (n+1)
theorem ir:∀ {js:List (Option Nat)} {n k j:Nat},js[k]?=some (some j)→n+k∈fh js n
 | [],n,k,j,h=>by simp at h
 | some x :: r,n,k,j,h=>by
  unfold fh
  cases k with
  | zero=>exact List.mem_cons_self
  | succ k =>
   refine List.mem_cons_of_mem _ ?_
   have:=ir (n:=n+1) (k:=k) (j:=j) (by simpa using h)
   rw [show n+(k+1)=n+1+k by omega]
   exact this
 | none :: r,n,k,j,h=>by
  unfold fh
  cases k with
  | zero=>simp at h
  | succ k =>
   have:=ir (n:=n+1) (k:=k) (j:=j) (by simpa using h)
   rw [show n+(k+1)=n+1+k by omega]
   exact this
def nA (js:List (Option Nat)) (R1:Nat→AS):Nat→AS:=fun k=>match js[k]? with
 | some (some j)=>R1 j
 | _=>NoA
theorem AM {R1:Nat→AS} {k j:Nat} (h:js[k]?=some (some j)):nA js R1 k=R1 j:=by unfold nA; rw [h]
theorem AL {R1:Nat→AS} {k:Nat} {a:Addr} (h:nA js R1 k a):∃ j,js[k]?=some (some j)∧R1 j a:=by
 unfold nA at h
 cases q:js[k]? with
 | none=>rw [q] at h; exact h.elim
 | some o =>
  rw [q] at h
  cases o with
  | none=>exact h.elim
  | some j=>exact ⟨j,rfl,h⟩
theorem tI {cd:Nat} (hc:fj ds1 js dsi=true) (hd:dn d=cd) (hz:d≠0) (hl:lk=fh js 0) (h:tF K (p && q) ds ds1 d (eLC q fi g c f js) σ H Q) :
  tLC (tFI K p ds ds1 fi) (tFG K lk dsi dsi g) (tFT K q dsi dsi c) (tF K q dsi dsi cd f) js σ H Q:=by
 obtain ⟨Ox,en,R,t,en',e,hf,k⟩:=h
 unfold eLC at hf
 obtain ⟨⟨ts,en1⟩,h1,hf⟩:=Option.bind_eq_some_iff.mp hf
 obtain ⟨⟨fin,enf⟩,h2,hf⟩:=Option.map_eq_some_iff.mp hf
 cases hf
 obtain ⟨cl,c1,c2⟩:=kg hc
 refine ⟨Ox,en,R,ts,en1,e,h1,fun J H1 R1 P1 wk D hD=>?_⟩
 have E1:=P1.env0
 generalize hRI:nA js R1=RI
 have ri1:∀ k j:Nat,js[k]?=some (some j)→RI k=R1 j:=fun k j z=>by rw [← hRI]; exact AM z
 have ric:∀ (k:Nat) a,RI k a→∃ j,js[k]?=some (some j)∧R1 j a:=fun k a z=>by rw [← hRI] at z; exact AL z
 let OxI:AS:=fun a=>Ox a∨a=D∨∃ i,R1 i a∧∀ k:Nat,js[k]?≠some (some i)
 have nD:∀ a,Own R1 Ox a→a≠D:=fun a z z2=>by
  subst z2
  obtain ⟨o,q⟩:=E1.dom a z
  rw [hD] at q
  cases q
 have lI:(cK js en1).length=js.length:=by unfold cK; rw [List.length_map]
 have lS:(dH js σ).length=js.length:=by unfold dH; rw [List.length_map]
 have getE:∀ (k:Nat) t,(cK js en1)[k]?=some (some t)→∃ j,js[k]?=some (some j)∧en1[j]?=some (some t):=fun k t z=>by
  unfold cK at z
  rw [List.getElem?_map] at z
  obtain ⟨oj,h1,h2⟩:=Option.map_eq_some_iff.mp z
  cases oj with
  | none=>cases h2
  | some j =>
   refine ⟨j,h1,?_⟩
   have h2':(en1[j]?).join=some t:=h2
   cases q:en1[j]? with
   | none=>rw [q] at h2'; cases h2'
   | some o=>rw [q] at h2'; exact congrArg some h2'
 have getS:∀ (k j:Nat) v,js[k]?=some (some j)→σ[j]?=some (some v)→(dH js σ)[k]?=some (some v):=fun k j v z1 z2=>by
  unfold dH
  rw [List.getElem?_map,z1]
  show some ((σ[j]?).join)=_
  rw [z2]
  rfl
 have u2:∀ a o,H1 a=some o→upd H1 D (.lst []) a=some o:=fun a o q=>(bP (o:=.lst []) hD).1 a o q
 have EI:EnvOk K dsi OxI (upd H1 D (.lst [])) (dH js σ) (cK js en1) RI:=by
  refine ⟨fun k t hk=>?_,fun k k' a z z'=>?_,fun k a z z2=>?_,fun a z=>?_,by rw [lI,lS],by rw [cl,lS]⟩
  ·obtain ⟨j,hj,ht⟩:=getE k t hk
   obtain ⟨v,d,g1,g2,g3⟩:=E1.at_ j t ht
   obtain ⟨d',q1,q2⟩:=c1 k j hj
   rw [g2] at q2
   cases q2
   refine ⟨v,d,getS k j v hj g1,q1,?_⟩
   rw [ri1 k j hj]
   refine Ow.mv (G:=R1 j) ⟨fun a o q _=>u2 a o q,fun a z=>?_⟩ t (fun _ z=>z) g3
   rcases z with ⟨k',z⟩ | z | z | ⟨i,z,_⟩
   ·obtain ⟨j',_,z⟩:=ric k' a z
    exact .inl (.inl ⟨j',z⟩)
   ·exact .inl (.inr z)
   ·exact .inr (z ▸ hD)
   ·exact .inl (.inl ⟨i,z⟩)
  ·obtain ⟨j,hj,z⟩:=ric k a z
   obtain ⟨j',hj',z'⟩:=ric k' a z'
   have:=E1.dj j j' a z z'
   subst this
   exact c2 k k' j hj hj'
  ·obtain ⟨j,hj,z⟩:=ric k a z
   rcases z2 with z2 | z2 | ⟨i,z2,n⟩
   ·exact E1.dx j a z z2
   ·exact nD a (.inl ⟨j,z⟩) z2
   ·have:=E1.dj j i a z z2
    subst this
    exact n k hj
  ·rcases z with ⟨k,z⟩ | z | z | ⟨i,z,_⟩
   ·obtain ⟨j,hj,z⟩:=ric k a z
    obtain ⟨o,q⟩:=E1.dom a (.inl ⟨j,z⟩)
    exact ⟨o,u2 a o q⟩
   ·obtain ⟨o,q⟩:=E1.dom a (.inr z)
    exact ⟨o,u2 a o q⟩
   ·subst z
    exact ⟨_,a6⟩
   ·obtain ⟨o,q⟩:=E1.dom a (.inl ⟨i,z⟩)
    exact ⟨o,u2 a o q⟩
 refine ⟨fun i n τ H'=>∃ eni RI' acc vs Fa,n=ts.length - i∧i≤ts.length∧PostS K lk dsi OxI (dH js σ) H1 RI τ eni H' RI' Fa∧H' D=some (.lst vs)∧Ows K (Own RI' (U Fa OxI)) H' acc cd vs Fa∧lcF g c f (ts.drop i) acc eni=some (fin,enf) ∧
   (q=true→(∀ k j:Nat,js[k]?=some (some j)→RI' k=RI k)∧(∀ a o,H1 a=some o→H' a=some o)),
  ⟨_,cK js en1,RI,[],[],NoA,rfl,Nat.zero_le _,⟨by rw [dO]; exact EI,fun _ z=>z.elim,fun a o q _=>u2 a o q,fun a z=>z.elim (fun z=>z.elim) .inl,fun a o q=>⟨o,u2 a o q⟩,fun _ _=>rfl⟩,a6,rfl,h2,fun _=>⟨fun _ _ _=>rfl,u2⟩⟩,?_⟩
 rintro i n τ H2 ⟨eni,RI2,acc,vs,Fa,rfl,hi,P2,hDl,oacc,hr,pu⟩
 have e9:∀ a,Own RI2 (U Fa OxI) a→Own R1 Ox a∨H1 a=none:=fun a z=>by
  rcases z with z | z | z | z | ⟨i,z,_⟩
  ·rcases P2.own a (.inr z) with ⟨k,z⟩ | z
   ·obtain ⟨j,_,z⟩:=ric k a z
    exact .inl (.inl ⟨j,z⟩)
   ·exact .inr z
  ·rcases P2.own a (.inl z) with ⟨k,z⟩ | z
   ·obtain ⟨j,_,z⟩:=ric k a z
    exact .inl (.inl ⟨j,z⟩)
   ·exact .inr z
  ·exact .inl (.inr z)
  ·exact .inr (z ▸ hD)
  ·exact .inl (.inl ⟨i,z⟩)
 obtain ⟨w1,w2⟩:=wk i H2 (Own RI2 (U Fa OxI)) (fun a o q z=>P2.keep a o q fun k zk=>by
  obtain ⟨j,_,zj⟩:=ric k a zk
  exact z (.inl ⟨j,zj⟩)) e9 fun a z=>P2.env.dom a z
 have DO:OxI D:=.inr (.inl rfl)
 by_cases hlt:i < ts.length
 ·obtain ⟨go,yl⟩:=w1 ts[i] (List.getElem?_eq_getElem hlt)
  rw [List.drop_eq_getElem_cons hlt] at hr
  obtain ⟨en3,h3,hr⟩:=Option.bind_eq_some_iff.mp hr
  obtain ⟨⟨b,en4⟩,h4,hr⟩:=Option.bind_eq_some_iff.mp hr
  refine .inr ⟨go,fun τ' H'=>∃ eni RI' acc vs Fa,PostS K lk dsi OxI (dH js σ) H1 RI τ' eni H' RI' Fa∧H' D=some (.lst vs)∧Ows K (Own RI' (U Fa OxI)) H' acc cd vs Fa∧lcF g c f (ts.drop (i+1)) acc eni=some (fin,enf)∧(q=true→(∀ k j:Nat,js[k]?=some (some j)→RI' k=RI k)∧(∀ a o,H1 a=some o→H' a=some o)),
   fun τ' H' ⟨eni,RI',acc,vs,Fa,P',x1,x2,x3,x4⟩=>⟨_,by omega,eni,RI',acc,vs,Fa,rfl,hlt,P',x1,x2,x3,x4⟩,fun x H3 y=>?_⟩
  obtain ⟨gr,ox⟩:=yl x H3 y
  have P3:Post K true dsi (U Fa OxI) τ H2 eni RI2 eni H3 RI2 NoA:=Post.new P2.env gr fun _ z=>z.elim
  have chain:∀ {τ5 en5 H5 RI5 F5},PostS K lk dsi (U Fa OxI) τ H2 RI2 τ5 en5 H5 RI5 F5→PostS K lk dsi OxI (dH js σ) H1 RI τ5 en5 H5 RI5 (U Fa F5):=fun {τ5 en5 H5 RI5 F5} P5=>by
   have n1:∀ a,H2 a=none→H1 a=none:=fun a z=>by
    cases q:H1 a with
    | none=>rfl
    | some o =>
     obtain ⟨o',q'⟩:=P2.dom a o q
     rw [z] at q'
     cases q'
   refine ⟨jy ▸ P5.env,fun a z z2=>?_,fun a o q n=>?_,fun a z=>?_,fun a o q=>?_,fun j hj=>(P5.lk j hj).trans (P2.lk j hj)⟩
   ·rcases z with z | z
    ·exact P2.fx a z z2
    ·exact P5.fx a z (.inr z2)
   ·refine P5.keep a o (P2.keep a o q n) fun i z=>?_
    rcases P2.own a (.inr ⟨i,z⟩) with ⟨j,z⟩ | z
    ·exact n j z
    ·rw [q] at z; cases z
   ·rcases z with (z | z) | z
    ·exact P2.own a (.inl z)
    ·rcases P5.own a (.inl z) with z | z
     ·exact P2.own a (.inr z)
     ·exact .inr (n1 a z)
    ·rcases P5.own a (.inr z) with z | z
     ·exact P2.own a (.inr z)
     ·exact .inr (n1 a z)
   ·obtain ⟨o',q'⟩:=P2.dom a o q
    exact P5.dom a o' q'
  have carry:∀ {τ5 en5 H5 RI5 F5},PostS K lk dsi (U Fa OxI) τ H2 RI2 τ5 en5 H5 RI5 F5→Ows K (Own RI5 (U (U Fa F5) OxI)) H5 acc cd vs Fa:=fun {τ5 en5 H5 RI5 F5} P5=>by
   refine Ows.mv (G:=Fa) ⟨fun a o q z=>P5.keep a o q fun i zi=>?_,fun a z=>?_⟩ acc (fun _ z=>z) oacc
   ·rcases z with z | z
    ·exact z (.inl ⟨i,zi⟩)
    ·exact P2.env.dx i a zi (.inl z)
   ·rcases z with z | (z | z) | z
    ·exact (P5.own a (.inr z)).imp .inl id
    ·exact .inl (.inr (.inl z))
    ·exact (P5.own a (.inl z)).imp .inl id
    ·exact .inl (.inr (.inr z))
  have UFN:U Fa NoA=Fa:=fH fun a=>⟨fun z=>z.elim id fun z=>z.elim,.inl⟩
  refine ⟨U Fa OxI,eni,RI2,ts[i],en3,P3.env0,ox,h3,fun τ4 R4 P4 r4=>?_⟩
  have P4':=(P3.s (lk:=lk)).after P4
  refine ⟨U Fa OxI,en3,R4,b,en4,P4.env0,h4,fun H5 R5 P5=>?_⟩
  have P5':=P4'.after (P5.s (lk:=lk))
  have pu5:q=true→(∀ k j:Nat,js[k]?=some (some j)→R5 k=RI k)∧(∀ a o,H1 a=some o→H5 a=some o):=fun hq=>by
   obtain ⟨_,b2,b3⟩:=P5.pure hq
   obtain ⟨e1,e2⟩:=pu hq
   refine ⟨fun k j z=>?_,fun a o qq=>b3 a o (gr a o (e2 a o qq))⟩
   rw [b2,r4 k (by rw [hl]; have:=ir (n:=0) z; rw [Nat.zero_add] at this; exact this)]
   exact e1 k j z
  cases b with
  | false =>
   dsimp only
   rw [if_neg Bool.false_ne_true]
   have c5:=chain P5'
   have o5:=carry P5'
   rw [UFN] at c5 o5
   exact ⟨en4,R5,acc,vs,Fa,c5,P5'.keep D _ hDl fun k z=>P2.env.dx k D z (.inr DO),o5,hr,pu5⟩
  | true =>
   dsimp only
   rw [if_pos rfl]
   obtain ⟨⟨t6,en6⟩,h6,hr⟩:=Option.bind_eq_some_iff.mp (show ((f en4).bind fun q=>if acc.length < sizeLine then lcF g c f (ts.drop (i+1)) (acc++[q.1]) q.2 else none)=some (fin,enf) from hr)
   refine ⟨U Fa OxI,en4,R5,t6,en6,P5.env0,h6,fun v H6 R6 F6 P6 o6=>?_⟩
   have P6':=P5'.after (P6.s (lk:=lk))
   by_cases hlen:acc.length < sizeLine
   case neg=>rw [if_neg hlen] at hr; cases hr
   rw [if_pos hlen] at hr
   have hD6:=P6'.keep D _ hDl fun k z=>P2.env.dx k D z (.inr DO)
   refine ⟨vs,hD6,by rw [oacc.len]; exact hlen,en6,R6,acc++[t6],vs++[v],U Fa F6,?_,a6,?_,hr,?_⟩
   ·have c6:=chain P6'
    have keepD:∀ a o,H6 a=some o→a≠D→upd H6 D (.lst (vs++[v])) a=some o:=fun a o q n=>by rw [aR n]; exact q
    refine ⟨⟨fun k t hk=>?_,c6.env.dj,c6.env.dx,fun a z=>?_,c6.env.l1,c6.env.l2⟩,c6.fx,fun a o q n=>?_,c6.own,fun a o q=>?_,c6.lk⟩
    ·obtain ⟨v',d',g1,g2,g3⟩:=c6.env.at_ k t hk
     refine ⟨v',d',g1,g2,Ow.mv (G:=R6 k) ⟨fun a o q z=>keepD a o q fun zD=>?_,fun a z=>.inl z⟩ t (fun _ z=>z) g3⟩
     subst zD
     rcases z with z | z
     ·exact z (.inr (.inr DO))
     ·exact c6.env.dx k a z (.inr DO)
    ·by_cases ha:a=D
     ·subst ha; exact ⟨_,a6⟩
     ·obtain ⟨o,q⟩:=c6.env.dom a z
      exact ⟨o,keepD a o q ha⟩
    ·refine keepD a o (c6.keep a o q n) fun zD=>?_
     subst zD
     rw [hD] at q
     cases q
    ·obtain ⟨o',q'⟩:=c6.dom a o q
     by_cases ha:a=D
     ·subst ha; exact ⟨_,a6⟩
     ·exact ⟨o',keepD a o' q' ha⟩
   ·have o1:=carry P6'
    have o2:Ow K (Own R6 (U (U Fa F6) OxI)) H6 t6 cd v F6:=jy ▸ o6
    have:=Ows.snoc o1 o2 fun b z1 z2=>P6.fx b z2 (.inl z1)
    refine Ows.mv (G:=U Fa F6) ⟨fun a o q z=>?_,fun a z=>.inl z⟩ _ (fun _ z=>z) this
    rw [aR]
    ·exact q
    ·intro zD
     subst zD
     rcases z with z | z | z
     ·exact z (.inr (.inr DO))
     ·exact P2.fx a z DO
     ·exact P6.fx a z (.inr DO)
   ·intro hq
    obtain ⟨_,b2,b3⟩:=P6.pure hq
    obtain ⟨e1,e2⟩:=pu5 hq
    refine ⟨fun k j z=>by rw [b2]; exact e1 k j z,fun a o qq=>?_⟩
    rw [aR]
    ·exact b3 a o (e2 a o qq)
    ·intro zD
     subst zD
     rw [hD] at qq
     cases qq
 ·have e2:i=ts.length:=by omega
  subst e2
  rw [List.drop_length] at hr
  obtain ⟨e3,e4⟩:acc=fin∧eni=enf:=by cases hr; exact ⟨rfl,rfl⟩
  subst e3 e4
  refine .inl ⟨w2 rfl,?_⟩
  have fD:∀ a,Fa a→a≠D:=fun a z z2=>by
   subst z2
   exact P2.fx a z DO
  cases hq:q with
  | true =>
   obtain ⟨e1,e2⟩:=pu hq
   subst hq
   have fn:∀ a,Fa a→H1 a=none:=fun a z=>by
    rcases P2.own a (.inl z) with ⟨k,z2⟩ | z2
    ·obtain ⟨j,hj,z3⟩:=ric k a z2
     rw [← e1 k j hj] at z2
     exact absurd (.inl z) (P2.env.dx k a z2)
    ·exact z2
   have nt:NewTo H1 H2 (fun a=>a=D∨Fa a):=⟨e2,fun a z=>by
    rcases z with z | z
    ·subst z
     exact ⟨hD,_,hDl⟩
    ·exact ⟨fn a z,P2.env.dom a (.inr (.inl z))⟩⟩
   have PF:=P1.fin nt
   rw [Bool.and_true] at k
   refine k (.ref D) H2 R1 _ PF ⟨D,vs,rfl,.inr ⟨hz,hDl,.inl rfl,Fa,fun b z=>⟨.inr z,fD b z⟩,?_⟩⟩
   rw [hd]
   refine Ows.grow (fun a z=>?_) _ (fun _ z=>z) oacc
   rcases z with ⟨i,z⟩ | (z | z) | z
   ·by_cases hc2:∃ kk:Nat,js[kk]?=some (some i)
    ·obtain ⟨kk,hk⟩:=hc2
     refine .inl ⟨kk,?_⟩
     rw [e1 kk i hk,ri1 kk i hk]
     exact z
    ·exact .inr (.inr (.inr (.inr ⟨i,z,fun kk hk=>hc2 ⟨kk,hk⟩⟩)))
   ·exact .inr (.inr (z ▸ DO))
   ·exact .inr (.inl z)
   ·exact .inr (.inr (.inl z))
  | false =>
   subst hq
   rw [Bool.and_false] at k
   classical
   let R3:Nat→AS:=fun i=>if hh:∃ kk:Nat,js[kk]?=some (some i) then RI2 hh.choose else R1 i
   have r31:∀ (i kk:Nat),js[kk]?=some (some i)→R3 i=RI2 kk:=fun i kk z=>by
    have hh:∃ kk:Nat,js[kk]?=some (some i):=⟨kk,z⟩
    have:hh.choose=kk:=c2 _ _ i hh.choose_spec z
    show (if hh:∃ kk:Nat,js[kk]?=some (some i) then RI2 hh.choose else R1 i)=RI2 kk
    rw [dif_pos hh,this]
   have r32:∀ i:Nat,(∀ kk:Nat,js[kk]?≠some (some i))→R3 i=R1 i:=fun i z=>by
    show (if hh:∃ kk:Nat,js[kk]?=some (some i) then RI2 hh.choose else R1 i)=R1 i
    rw [dif_neg fun ⟨j,q⟩=>z j q]
   have r3c:∀ (i:Nat) a,R3 i a→(∃ kk:Nat,js[kk]?=some (some i)∧RI2 kk a)∨((∀ kk:Nat,js[kk]?≠some (some i))∧R1 i a):=fun i a z=>by
    by_cases hh:∃ kk:Nat,js[kk]?=some (some i)
    ·obtain ⟨kk,hk⟩:=hh
     rw [r31 i kk hk] at z
     exact .inl ⟨kk,hk,z⟩
    ·rw [r32 i fun j z=>hh ⟨j,z⟩] at z
     exact .inr ⟨fun j z=>hh ⟨j,z⟩,z⟩
   have sub3:∀ a,Own R3 (U (fun a=>a=D∨Fa a) Ox) a→Own RI2 (U Fa OxI) a:=fun a z=>by
    rcases z with ⟨i,z⟩ | (z | z) | z
    ·rcases r3c i a z with ⟨j,_,z⟩ | ⟨n,z⟩
     ·exact .inl ⟨j,z⟩
     ·exact .inr (.inr (.inr (.inr ⟨i,z,n⟩)))
    ·exact .inr (.inr (z ▸ DO))
    ·exact .inr (.inl z)
    ·exact .inr (.inr (.inl z))
   have el:eni.length=js.length:=by rw [P2.env.l1,← P2.env.l2]; exact cl
   have riO:∀ (kk:Nat) a,RI kk a→Own R1 Ox a:=fun kk a z=>by
    obtain ⟨j,_,z⟩:=ric kk a z
    exact .inl ⟨j,z⟩
   have env3:EnvOk K ds1 (U (fun a=>a=D∨Fa a) Ox) H2 σ (wbB js eni en1) R3:=by
    refine ⟨fun i u hu=>?_,fun i i' a z z'=>?_,fun i a z z2=>?_,fun a z=>P2.env.dom a (sub3 a z),by rw [k7]; exact E1.l1,E1.l2⟩
    ·by_cases hh:∃ kk:Nat,js[kk]?=some (some i)
     ·obtain ⟨kk,hk⟩:=hh
      obtain ⟨dd,q1,q2⟩:=c1 kk i hk
      have hil:i < en1.length:=by rw [E1.l1,← E1.l2]; exact (List.getElem?_eq_some_iff.mp q2).1
      rw [mJ js eni en1 i kk hk (fun k' z=>c2 k' kk i z hk) el hil] at hu
      obtain ⟨v,d',g1,g2,g3⟩:=P2.env.at_ kk u hu
      rw [q1] at g2
      cases g2
      have hlk:=P2.lk kk (by rw [hl]; have:=ir (n:=0) hk; rw [Nat.zero_add] at this; exact this)
      rw [hlk] at g1
      refine ⟨v,dd,?_,q2,?_⟩
      ·unfold dH at g1
       rw [List.getElem?_map,hk] at g1
       have g1':(σ[i]?).join=some v:=Option.some.inj g1
       cases q3:σ[i]? with
       | none=>rw [q3] at g1'; cases g1'
       | some o=>rw [q3] at g1'; exact congrArg some g1'
      ·rw [r31 i kk hk]
       exact Ow.grow sub3 u (fun _ z=>z) g3
     ·rw [jH js eni en1 i fun j z=>hh ⟨j,z⟩] at hu
      have ns:∀ j:Nat,js[j]?≠some (some i):=fun j z=>hh ⟨j,z⟩
      obtain ⟨v,d',g1,g2,g3⟩:=E1.at_ i u hu
      refine ⟨v,d',g1,g2,?_⟩
      rw [r32 i ns]
      refine Ow.mv (G:=R1 i) ⟨fun a o q z=>P2.keep a o q fun j zj=>?_,fun a z=>e9 a (sub3 a z)⟩ u (fun _ z=>z) g3
      obtain ⟨j',hj',zj⟩:=ric j a zj
      rcases z with z | z
      ·exact z (.inl ⟨j',zj⟩)
      ·have:=E1.dj i j' a z zj
       subst this
       exact ns j hj'
    ·rcases r3c i a z with ⟨j,q,z⟩ | ⟨n,z⟩ <;> rcases r3c i' a z' with ⟨j',q',z'⟩ | ⟨n',z'⟩
     ·have:=P2.env.dj j j' a z z'
      subst this
      rw [q] at q'
      cases q'
      rfl
     ·exact absurd (.inr (.inr (.inr ⟨i',z',n'⟩))) (P2.env.dx j a z)
     ·exact absurd (.inr (.inr (.inr ⟨i,z,n⟩))) (P2.env.dx j' a z')
     ·exact E1.dj i i' a z z'
    ·rcases r3c i a z with ⟨j,q,z⟩ | ⟨n,z⟩
     ·refine P2.env.dx j a z ?_
      rcases z2 with (z2 | z2) | z2
      ·exact .inr (z2 ▸ DO)
      ·exact .inl z2
      ·exact .inr (.inl z2)
     ·rcases z2 with (z2 | z2) | z2
      ·exact nD a (.inl ⟨i,z⟩) z2
      ·exact P2.fx a z2 (.inr (.inr ⟨i,z,n⟩))
      ·exact E1.dx i a z z2
   have n1:∀ a,H1 a=none→H a=none:=fun a z=>by
    cases q:H a with
    | none=>rfl
    | some o =>
     obtain ⟨o',q'⟩:=P1.dom a o q
     rw [z] at q'
     cases q'
   refine k (.ref D) H2 R3 (fun a=>a=D∨Fa a) ⟨env3,fun a z z2=>?_,fun a o q n=>?_,fun a z=>?_,fun a o q=>?_,fun z=>nomatch z⟩ ⟨D,vs,rfl,.inr ⟨hz,hDl,.inl rfl,Fa,fun b z=>⟨.inr z,fD b z⟩,?_⟩⟩
   ·rcases z with z | z
    ·exact nD a (.inr z2) z
    ·exact P2.fx a z (.inl z2)
   ·refine P2.keep a o (P1.keep a o q n) fun kk z=>?_
    obtain ⟨j,_,z⟩:=ric kk a z
    rcases P1.own a (.inr ⟨j,z⟩) with ⟨i',z⟩ | z
    ·exact n i' z
    ·rw [q] at z; cases z
   ·have h3:(∃ i,R1 i a)∨H1 a=none:=by
     have h4:(Fa a∨∃ kk,RI2 kk a)→(∃ i,R1 i a)∨H1 a=none:=fun z=>by
      rcases P2.own a z with ⟨kk,z⟩ | z
      ·obtain ⟨j,_,z⟩:=ric kk a z
       exact .inl ⟨j,z⟩
      ·exact .inr z
     rcases z with (z | z) | ⟨i,z⟩
     ·exact .inr (z ▸ hD)
     ·exact h4 (.inl z)
     ·rcases r3c i a z with ⟨j,_,z⟩ | ⟨n,z⟩
      ·exact h4 (.inr ⟨j,z⟩)
      ·exact .inl ⟨i,z⟩
    rcases h3 with h3 | h3
    ·exact P1.own a (.inr h3)
    ·exact .inr (n1 a h3)
   ·obtain ⟨o',q'⟩:=P1.dom a o q
    exact P2.dom a o' q'
   ·rw [hd]
    exact Ows.grow sub3 _ (fun _ z=>z) oacc
end
end L2
namespace L2
open PySem PySem.Spec PyProof.Rows
def msk:List Nat→En→En
 | d :: ds,o :: en=>(if d=0 then none else o) :: msk ds en
 | _,_=>[]
def fnF (n:Nat) (dps:List Nat) (b:MS):List PyData→Option (PyData × En):=fun ts=>(b (ts.map some++List.replicate n none)).bind fun fl=>match fl with
 | .rt t en=>some (t,msk dps en)
 | .nx en=>some (.none,msk dps en)
 | .ct _=>none
def m4 (dps:List Nat):List Nat:=(List.range dps.length).filter fun j=>dps[j]? != some 0
section
variable {K:PySem.W.Frag} {p p1 p2 q:Bool} {J:Jd} {lk:List Nat} {ds ds0 ds1 ds2 ds' dps:List Nat} {Ox Ox' O O':AS} {H H' H1:Hp} {σ σ':St} {en en' en1 en2:En} {R R' R1:Nat→AS} {d d' d1 d2 dr:Nat} {t t1 t2:PyData} {Q:VK} {f f1 f2:ME} {i:Nat} {v:V} {D:Ends}
theorem ou:∀ {dps:List Nat} {en:En} {j:Nat} {u:PyData},(msk dps en)[j]?=some (some u)→∃ d,dps[j]?=some d∧d≠0∧en[j]?=some (some u)
 | [],en,j,u,h=>by unfold msk at h; simp at h
 | d :: ds,[],j,u,h=>by unfold msk at h; simp at h
 | d :: ds,o :: en,j,u,h=>by
  unfold msk at h
  cases j with
  | zero =>
   by_cases hd:d=0
   ·simp [hd] at h
   ·refine ⟨d,rfl,hd,?_⟩
    simpa [hd] using h
  | succ j =>
   have:=ou (dps:=ds) (en:=en) (j:=j) (u:=u) (by simpa using h)
   simpa using this
theorem oq:∀ {dps:List Nat} {en:En},dps.length≤en.length→(msk dps en).length=dps.length
 | [],en,_=>by unfold msk; rfl
 | d :: ds,[],h=>by simp at h
 | d :: ds,o :: en,h=>by
  unfold msk
  rw [List.length_cons,List.length_cons,oq (by simpa using h)]
theorem Au {N:List Str} {vs:List V} {E:XK} {n:Nat} {b:MS} (hn:N.length - dps.length=n) (h:spF K dps dr (fnF n dps b) vs H Q E) :
  tFS K ⟨m4 dps,dps++List.replicate n 0,dr,[]⟩ (dps++List.replicate n 0) (dps++List.replicate n 0) b { nx:=fun _ H'=>Q .non H',rt:=Q } (cZ N vs) H:=by
 obtain ⟨Ox,ts,R,r,outs,e,hf,k⟩:=h
 have lv:dps.length=vs.length:=by have:=e.l2; rw [List.length_map] at this; exact this
 have lt:ts.length=vs.length:=by have:=e.l1; rw [List.length_map,List.length_map] at this; exact this
 have hs:cZ N vs=vs.map some++List.replicate n none:=by unfold cZ; rw [← lv,hn]
 unfold fnF at hf
 obtain ⟨fl,h1,hf⟩:=Option.bind_eq_some_iff.mp hf
 have get0:∀ {α:Type} (xs:List α) (i:Nat) (u:α),(xs.map some++List.replicate n none)[i]?=some (some u)→(xs.map some)[i]?=some (some u)∧i < xs.length:=fun xs i u z=>by
  by_cases hi:i < xs.length
  ·rw [List.getElem?_append_left (by rw [List.length_map]; exact hi)] at z
   exact ⟨z,hi⟩
  ·rw [List.getElem?_append_right (by rw [List.length_map]; omega),List.getElem?_replicate] at z
   split at z
   ·cases z
   ·cases z
 have e0:EnvOk K (dps++List.replicate n 0) Ox H (cZ N vs) (ts.map some++List.replicate n none) R:=by
  rw [hs]
  refine ⟨fun i u hu=>?_,e.dj,e.dx,e.dom,by simp [lt],by simp [lv]⟩
  obtain ⟨hu',hi⟩:=get0 ts i u hu
  obtain ⟨v,d,g1,g2,g3⟩:=e.at_ i u hu'
  refine ⟨v,d,?_,?_,g3⟩
  ·rw [List.getElem?_append_left (by rw [List.length_map]; omega)]; exact g1
  ·rw [List.getElem?_append_left (by omega)]; exact g2
 have back:∀ {σ' en' H' R' F},PostS K (m4 dps) (dps++List.replicate n 0) Ox (cZ N vs) H R σ' en' H' R' F→Post K false dps Ox (vs.map some) H (ts.map some) R (msk dps en') H' R' F:=fun {σ' en' H' R' F} P=>by
  have l1:=P.env.l1
  have l2:=P.env.l2
  rw [List.length_append,List.length_replicate] at l2
  refine ⟨⟨fun j u hu=>?_,P.env.dj,P.env.dx,P.env.dom,by rw [oq (by omega),List.length_map]; exact lv,by rw [List.length_map]; exact lv⟩,P.fx,P.keep,P.own,P.dom,fun z=>nomatch z⟩
  obtain ⟨d,a1,a2,a3⟩:=ou hu
  obtain ⟨v,d',g1,g2,g3⟩:=P.env.at_ j u a3
  have hj:j < dps.length:=(List.getElem?_eq_some_iff.mp a1).1
  have hlk:j∈m4 dps:=by
   unfold m4
   rw [List.mem_filter,List.mem_range]
   refine ⟨hj,?_⟩
   rw [a1]
   simpa using a2
  rw [P.lk j hlk,hs,List.getElem?_append_left (by rw [List.length_map]; omega)] at g1
  rw [List.getElem?_append_left hj] at g2
  exact ⟨v,d',g1,g2,g3⟩
 refine ⟨Ox,_,R,fl,e0,h1,?_⟩
 cases fl with
 | nx en2 =>
  cases hf
  exact fun σ2 H2 R2 P2=>k .non H2 R2 NoA (back P2) rfl
 | ct en2=>cases hf
 | rt t en2 =>
  cases hf
  exact fun v σ2 H2 R2 F P2 o=>k v H2 R2 F (back P2) o
theorem Post.slot {F G F':AS} {l:Addr} {o2:HO} (P:Post K p ds1 Ox σ H en R en1 H1 R1 F) (hl:R1 i l) (hi:i < en1.length) (hv:σ[i]?=some (some v)) (hd:ds1[i]?=some d)
  (hg:∀ a,G a→R1 i a∨F a) (hf:∀ a,F' a→R1 i a∨F a) (hx:∀ a,G a→¬ F' a)
  (ho:Ow K (Own (fun j=>if j=i then G else R1 j) (U F' Ox)) (upd H1 l o2) t d v G) :
  Post K false ds1 Ox σ H en R (en1.set i (some t)) (upd H1 l o2) (fun j=>if j=i then G else R1 j) F':=by
 have rc:∀ (j:Nat) a,(if j=i then G else R1 j) a→R1 j a∨(j=i∧F a):=fun j a z=>by
  by_cases hj:j=i
  ·rw [if_pos hj] at z
   rcases hg a z with z | z
   ·exact .inl (hj ▸ z)
   ·exact .inr ⟨hj,z⟩
  ·rw [if_neg hj] at z; exact .inl z
 have sub:∀ a,Own (fun j=>if j=i then G else R1 j) (U F' Ox) a→Own R1 (U F Ox) a:=fun a z=>by
  rcases z with ⟨j,z⟩ | z | z
  ·rcases rc j a z with z | ⟨_,z⟩
   ·exact .inl ⟨j,z⟩
   ·exact .inr (.inl z)
  ·rcases hf a z with z | z
   ·exact .inl ⟨i,z⟩
   ·exact .inr (.inl z)
  ·exact .inr (.inr z)
 have dom2:∀ a o,H1 a=some o→∃ o',upd H1 l o2 a=some o':=fun a o q=>by
  by_cases ha:a=l
  ·subst ha; exact ⟨_,a6⟩
  ·exact ⟨o,by rw [aR ha]; exact q⟩
 have nl:∀ a o,H1 a=some o→a≠l→upd H1 l o2 a=some o:=fun a o q n=>by rw [aR n]; exact q
 refine ⟨⟨fun j u hu=>?_,fun j j' a z z'=>?_,fun j a z z2=>?_,fun a z=>?_,by rw [List.length_set]; exact P.env.l1,P.env.l2⟩,fun a z z2=>?_,fun a o q n=>?_,fun a z=>?_,fun a o q=>?_,fun z=>nomatch z⟩
 ·by_cases hj:j=i
  ·subst hj
   rw [List.getElem?_set_self hi] at hu
   cases hu
   refine ⟨v,d,hv,hd,?_⟩
   rw [if_pos rfl]
   exact ho
  ·rw [List.getElem?_set_ne (Ne.symm hj)] at hu
   obtain ⟨v',d',g1,g2,g3⟩:=P.env.at_ j u hu
   refine ⟨v',d',g1,g2,?_⟩
   rw [if_neg hj]
   refine Ow.mv (G:=R1 j) ⟨fun a o q z=>nl a o q fun za=>?_,fun a z=>.inl (sub a z)⟩ u (fun _ z=>z) g3
   subst za
   rcases z with z | z
   ·exact z (.inl ⟨i,hl⟩)
   ·exact hj (P.env.dj j i a z hl)
 ·have z0:=z
  have z0':=z'
  by_cases hj:j=i <;> by_cases hj':j'=i
  ·rw [hj,hj']
  ·rw [if_pos hj] at z0; rw [if_neg hj'] at z0'
   rcases hg a z0 with z1 | z1
   ·exact absurd (P.env.dj i j' a z1 z0') (fun e=>hj' e.symm)
   ·exact absurd (.inl z1) (P.env.dx j' a z0')
  ·rw [if_neg hj] at z0; rw [if_pos hj'] at z0'
   rcases hg a z0' with z1 | z1
   ·exact absurd (P.env.dj j i a z0 z1) hj
   ·exact absurd (.inl z1) (P.env.dx j a z0)
  ·rw [if_neg hj] at z0; rw [if_neg hj'] at z0'
   exact P.env.dj j j' a z0 z0'
 ·have z0:=z
  by_cases hj:j=i
  ·rw [if_pos hj] at z0
   rcases z2 with z2 | z2
   ·exact hx a z0 z2
   ·rcases hg a z0 with z1 | z1
    ·exact P.env.dx i a z1 (.inr z2)
    ·exact P.fx a z1 z2
  ·rw [if_neg hj] at z0
   rcases z2 with z2 | z2
   ·rcases hf a z2 with z1 | z1
    ·exact hj (P.env.dj j i a z0 z1)
    ·exact P.env.dx j a z0 (.inl z1)
   ·exact P.env.dx j a z0 (.inr z2)
 ·obtain ⟨o,q⟩:=P.env.dom a (sub a z)
  exact dom2 a o q
 ·rcases hf a z with z1 | z1
  ·exact P.env.dx i a z1 (.inr z2)
  ·exact P.fx a z1 z2
 ·refine nl a o (P.keep a o q n) fun za=>?_
  subst za
  rcases P.own a (.inr ⟨i,hl⟩) with ⟨j,z⟩ | z
  ·exact n j z
  ·rw [q] at z; cases z
 ·have:F a∨∃ j,R1 j a:=by
   rcases z with z | ⟨j,z⟩
   ·rcases hf a z with z | z
    ·exact .inr ⟨i,z⟩
    ·exact .inl z
   ·rcases rc j a z with z | ⟨_,z⟩
    ·exact .inr ⟨j,z⟩
    ·exact .inl z
  exact P.own a this
 ·obtain ⟨o',q'⟩:=P.dom a o q
  exact dom2 a o' q'
theorem rN {G F' F:AS} (hg:∀ a,G a→R1 i a∨F a) (hf:∀ a,F' a→R1 i a∨F a):∀ a,Own (fun j=>if j=i then G else R1 j) (U F' Ox) a→Own R1 (U F Ox) a:=fun a z=>by
 rcases z with ⟨j,z⟩ | z | z
 ·by_cases hj:j=i
  ·rw [if_pos hj] at z
   rcases hg a z with z | z
   ·exact .inl ⟨i,z⟩
   ·exact .inr (.inl z)
  ·rw [if_neg hj] at z; exact .inl ⟨j,z⟩
 ·rcases hf a z with z | z
  ·exact .inl ⟨i,z⟩
  ·exact .inr (.inl z)
 ·exact .inr (.inr z)
theorem cP {α:Type} {en:List (Option α)} {i:Nat} {t:α} (h:(en[i]?).join=some t):en[i]?=some (some t):=by
 cases q:en[i]? with
 | none=>rw [q] at h; cases h
 | some o=>rw [q] at h; exact congrArg some h
theorem Ow.sqL {ts:List PyData} {F:AS} (h:Ow K O H (.list ts) d v F):∃ a vs,v=.ref a∧SqL K H a vs:=by
 obtain ⟨a,vs,e,⟨_,h1,_⟩ | ⟨_,h1,_⟩⟩:=h
 ·exact ⟨a,vs,e,h1.sq⟩
 ·exact ⟨a,vs,e,SqL.of h1⟩
theorem Ow.ownL {ts:List PyData} {F:AS} (hd:d≠0) (h:Ow K O H (.list ts) d v F):∃ a vs,v=.ref a∧H a=some (.lst vs)∧F a∧∃ F':AS,(∀ b,F' b→F b∧b≠a)∧Ows K O H ts (dn d) vs F':=by
 obtain ⟨a,vs,e,⟨h0,_⟩ | ⟨_,h1,h2,h3⟩⟩:=h
 ·exact absurd h0 hd
 ·exact ⟨a,vs,e,h1,h2,h3⟩
theorem Ows.past {ts:List PyData} {vs:List V} {F:AS} {l:Addr} {o:HO} (ho:∀ a,O' a→O a) (hl:O l) (hf:∀ b,F b→b≠l) (h:Ows K O H ts d vs F):Ows K O' (upd H l o) ts d vs F :=
 Ows.mv (G:=F) ⟨fun a u q z=>by
  rw [aR]
  ·exact q
  ·intro za
   subst za
   rcases z with z | z
   ·exact z hl
   ·exact hf a z rfl,fun a z=>.inl (ho a z)⟩ ts (fun _ z=>z) h
theorem Ow.past {F:AS} {l:Addr} {o:HO} (ho:∀ a,O' a→O a) (hl:O l) (hf:∀ b,F b→b≠l) (h:Ow K O H t d v F):Ow K O' (upd H l o) t d v F :=
 Ow.mv (G:=F) ⟨fun a u q z=>by
  rw [aR]
  ·exact q
  ·intro za
   subst za
   rcases z with z | z
   ·exact z hl
   ·exact hf a z rfl,fun a z=>.inl (ho a z)⟩ t (fun _ z=>z) h
def gK (i:Nat) (f:ME):ME:=fun en=>match (en[i]?).join with
 | some (.list _)=>(f en).bind fun r=>match (r.2[i]?).join with
  | some (.list ts)=>if ts.length < sizeLine then some (.none,r.2.set i (some (.list (ts++[r.1])))) else none
  | _=>none
 | _=>none
theorem Fg {c:Nat} (hd:ds1[i]?=some d) (hz:d≠0) (hc:dn d=c) (h:tF K false ds ds1 3 (gK i f) σ H Q):tBM K "list" oh (jZ i) (mB (tF K p ds ds1 c f) rY) σ H Q:=by
 obtain ⟨Ox,en,R,t,en',e,hf,k⟩:=h
 unfold gK at hf
 split at hf
 case h_2=>cases hf
 next ts0 h0 =>
 obtain ⟨⟨t1,en1⟩,h1,hf⟩:=Option.bind_eq_some_iff.mp hf
 dsimp only at hf
 split at hf
 case h_2=>cases hf
 next ts h2 =>
 by_cases hlen:ts.length < sizeLine
 case neg=>rw [if_neg hlen] at hf; cases hf
 rw [if_pos hlen] at hf
 cases hf
 obtain ⟨v,d0,a1,_,a3⟩:=e.at_ i _ (cP h0)
 obtain ⟨l0,vs0,e0,sq⟩:=a3.sqL
 refine ⟨v,a1,?_,Ox,en,R,t1,en1,e,h1,fun x H1 R1 F P o=>?_⟩
 ·rw [e0]; exact .inl ⟨rfl,vs0,sq⟩
 obtain ⟨v',d',b1,b2,b3⟩:=P.env.at_ i _ (cP h2)
 rw [a1] at b1
 cases b1
 rw [hd] at b2
 cases b2
 obtain ⟨l,vs,el,hl,hr,F',hf',ow⟩:=b3.ownL hz
 refine ⟨l,vs,x,el,rfl,hl,by rw [ow.len]; exact hlen,?_⟩
 have hi:i < en1.length:=(List.getElem?_eq_some_iff.mp (cP h2)).1
 have Fn:∀ a,F a→a≠l:=fun a z z2=>by
  subst z2
  exact P.env.dx i a hr (.inl z)
 have sub:=rN (i:=i) (R1:=R1) (Ox:=Ox) (G:=fun a=>R1 i a∨F a) (F':=NoA) (F:=F) (fun _ z=>z) (fun _ z=>z.elim)
 have Ol:Own R1 (U F Ox) l:=.inl ⟨i,hr⟩
 refine k .non (upd H1 l (.lst (vs++[x]))) _ NoA (P.slot (G:=fun a=>R1 i a∨F a) hr hi a1 hd (fun _ z=>z) (fun _ z=>z.elim) (fun _ _ z=>z) ?_) rfl
 refine ⟨l,vs++[x],el,.inr ⟨hz,a6,.inl hr,U F' F,fun b z=>?_,?_⟩⟩
 ·rcases z with z | z
  ·exact ⟨.inl (hf' b z).1,(hf' b z).2⟩
  ·exact ⟨.inr z,Fn b z⟩
 ·refine Ows.snoc (Ows.past sub Ol (fun b z=>(hf' b z).2) ow) ?_ fun b z1 z2=>P.env.dx i b (hf' b z1).1 (.inl z2)
  rw [hc]
  exact Ow.past sub Ol Fn o
theorem Ows.out:∀ {ts:List PyData} {vs:List V} {F:AS} {k:Nat} {t:PyData},Ows K O H ts d vs F→ts[k]?=some t →
  ∃ v,∃ F1 F2:AS,vs[k]?=some v∧(∀ b,F1 b→F b)∧(∀ b,F2 b→F b)∧(∀ b,F1 b→¬ F2 b)∧Ow K O H t d v F1∧Ows K O H (ts.eraseIdx k) d (vs.eraseIdx k) F2
 | [],_,_,k,t,_,h=>by simp at h
 | u :: ts,_,F,k,t,h,hk=>by
  obtain ⟨v,r,F1,F2,e,s1,s2,s3,h4,h5⟩:=h
  subst e
  cases k with
  | zero =>
   have:u=t:=by simpa using hk
   subst this
   exact ⟨v,F1,F2,rfl,s1,s2,s3,h4,h5⟩
  | succ k =>
   obtain ⟨w,G1,G2,g1,g2,g3,g4,g5,g6⟩:=Ows.out (k:=k) h5 (by simpa using hk)
   refine ⟨w,G1,U F1 G2,by simpa using g1,fun b z=>s2 b (g2 b z),fun b z=>z.elim (s1 b) fun z=>s2 b (g3 b z),fun b z z2=>?_,g5,v,r.eraseIdx k,F1,G2,rfl,fun b=>.inl,fun b=>.inr,fun b z1 z2=>s3 b z1 (g3 b z2),h4,g6⟩
   rcases z2 with z2 | z2
   ·exact s3 b z2 (g2 b z)
   ·exact g4 b z z2
def rC (i:Nat) (f:ME):ME:=fun en=>match (en[i]?).join with
 | some (.list _)=>(f en).bind fun r=>match r.1,(r.2[i]?).join with
  | .int n,some (.list ts)=>if -(2 ^ 63)≤n∧n < 2 ^ 63 then (seqIndex? n ts.length).bind fun k=>(ts[k]?).map fun t=>(t,r.2.set i (some (.list (ts.eraseIdx k)))) else none
  | _,_=>none
 | _=>none
theorem Ows.setAt:∀ {ts:List PyData} {vs:List V} {F F2:AS} {k:Nat} {t:PyData} {v:V},Ows K O H ts d vs F→Ow K O H t d v F2→(∀ b,F b→¬ F2 b)→Ows K O H (ts.set k t) d (vs.set k v) (U F F2)
 | [],_,_,_,_,_,_,h,_,_=>by rw [show _=[] from h]; rfl
 | u :: ts,_,F,F2,k,t,v,h,h2,hd=>by
  obtain ⟨w,r,G1,G2,e,s1,s2,s3,h4,h5⟩:=h
  subst e
  cases k with
  | zero=>exact ⟨v,r,F2,G2,rfl,fun _ z=>.inr z,fun b z=>.inl (s2 b z),fun b z z2=>hd b (s2 b z2) z,h2,h5⟩
  | succ k =>
   refine ⟨w,r.set k v,G1,U G2 F2,rfl,fun b z=>.inl (s1 b z),fun b z=>z.imp (s2 b) id,fun b z z2=>?_,h4,Ows.setAt h5 h2 fun b z=>hd b (s2 b z)⟩
   rcases z2 with z2 | z2
   ·exact s3 b z z2
   ·exact hd b (s1 b z) z2
def dX (i:Nat) (fk fe:ME):MS:=fun en=>(fe en).bind fun r=>match (r.2[i]?).join with
 | some _=>(fk r.2).bind fun q=>match q.1,(q.2[i]?).join with
  | .int n,some (.list ts)=>(ixN ts.length n).map fun k=>.nx (q.2.set i (some (.list (ts.set k r.1))))
  | _,_=>none
 | none=>none
theorem Aj {c:Nat} {fk fe:ME} (hd:ds2[i]?=some d) (hz:d≠0) (hc:dn d=c) (h:tFS K J ds ds2 (dX i fk fe) D σ H) :
  mM (tF K p1 ds ds1 c fe) (DH (jZ i) (tF K p2 ds1 ds2 d2 fk) yU) D σ H:=by
 obtain ⟨Ox,en,R,fl,e,hf,k⟩:=h
 unfold dX at hf
 obtain ⟨⟨t1,en1⟩,h1,hf⟩:=Option.bind_eq_some_iff.mp hf
 dsimp only at hf
 split at hf
 case h_2=>cases hf
 next tt h0 =>
 obtain ⟨⟨t2,en2⟩,h2,hf⟩:=Option.bind_eq_some_iff.mp hf
 dsimp only at hf
 split at hf
 case h_2=>cases hf
 next n ts h3 =>
 obtain ⟨kk,h4,hf⟩:=Option.map_eq_some_iff.mp hf
 cases hf
 refine ⟨Ox,en,R,t1,en1,e,h1,fun x H1 R1 F1 P1 o1=>?_⟩
 obtain ⟨v0,d0,a1,_,_⟩:=P1.env.at_ i tt (cP h0)
 refine ⟨v0,a1,?_⟩
 refine ⟨U F1 Ox,en1,R1,.int n,en2,P1.env,h2,fun y H2 R2 F2 P2 o2=>?_⟩
 have P:=P1.trans P2
 have o1':=Ow.over P1.env P2 o1
 obtain ⟨v',d',b1,b2,b3⟩:=P.env.at_ i _ (cP h3)
 rw [a1] at b1
 cases b1
 rw [hd] at b2
 cases b2
 obtain ⟨l,vs,el,hl,hr,F',hf',ow⟩:=b3.ownL hz
 refine ⟨l,vs,n,kk,el,o2,hl,by rw [ow.len]; exact h4,?_⟩
 have hi:i < en2.length:=(List.getElem?_eq_some_iff.mp (cP h3)).1
 have Fn:∀ a,F1 a→a≠l:=fun a z z2=>by
  subst z2
  exact P.env.dx i a hr (.inl (.inl z))
 have gG:∀ a,(fun a=>R2 i a∨F1 a) a→R2 i a∨U F1 F2 a:=fun a z=>z.imp id .inl
 have sub:=rN (i:=i) (R1:=R2) (Ox:=Ox) (G:=fun a=>R2 i a∨F1 a) (F':=NoA) (F:=U F1 F2) gG (fun _ z=>z.elim)
 have Ol:Own R2 (U (U F1 F2) Ox) l:=.inl ⟨i,hr⟩
 have PS:=P.slot (G:=fun a=>R2 i a∨F1 a) (F':=NoA) (o2:=.lst (vs.set kk x)) (t:=.list (ts.set kk t1)) hr hi a1 hd gG (fun _ z=>z.elim) (fun _ _ z=>z) ?_
 ·exact k σ _ _ PS.s
 refine ⟨l,vs.set kk x,el,.inr ⟨hz,a6,.inl hr,U F' F1,fun b z=>?_,?_⟩⟩
 ·rcases z with z | z
  ·exact ⟨.inl (hf' b z).1,(hf' b z).2⟩
  ·exact ⟨.inr z,Fn b z⟩
 ·refine Ows.setAt (Ows.past sub Ol (fun b z=>(hf' b z).2) ow) ?_ fun b z1 z2=>P.env.dx i b (hf' b z1).1 (.inl (.inl z2))
  rw [hc]
  exact Ow.past sub Ol Fn o1'
theorem Ows.get:∀ {ts:List PyData} {vs:List V} {F:AS} {k:Nat} {t:PyData},Ows K O H ts d vs F→ts[k]?=some t→∃ v,vs[k]?=some v∧Ow K O H t d v F
 | [],_,_,k,t,_,h=>by simp at h
 | u :: ts,_,F,k,t,h,hk=>by
  obtain ⟨v,r,F1,F2,e,s1,s2,s3,h4,h5⟩:=h
  subst e
  cases k with
  | zero =>
   have:u=t:=by simpa using hk
   subst this
   exact ⟨v,rfl,Ow.grow (fun _ z=>z) u s1 h4⟩
  | succ k =>
   obtain ⟨w,g1,g2⟩:=Ows.get (k:=k) h5 (by simpa using hk)
   exact ⟨w,by simpa using g1,Ow.grow (fun _ z=>z) t s2 g2⟩
theorem Ows.atI {ts:List PyData} {vs:List V} {F:AS} {n:Int} {t:PyData} (h:Ows K O H ts d vs F) (ht:L2.atI ts n=some t):∃ v,L2.atI vs n=some v∧Ow K O H t d v F:=by
 unfold L2.atI at ht ⊢
 rw [h.len]
 obtain ⟨k,h1,h2⟩:=Option.bind_eq_some_iff.mp ht
 obtain ⟨v,g1,g2⟩:=h.get h2
 exact ⟨v,by rw [h1]; exact g1,g2⟩
def cq (i:Nat) (f:ME):ME:=fun en=>(en[i]?).join.bind fun _=>(f en).bind fun r=>match r.1,(r.2[i]?).join with
 | .int n,some (.list ts)=>(atI ts n).map fun t=>(t,r.2)
 | _,_=>none
theorem Fe (hd:ds1[i]?=some 1) (h:tF K p ds ds1 0 (cq i f) σ H Q):tOp (oZ K) (jZ i) (tF K p ds ds1 d1 f) σ H Q:=by
 obtain ⟨Ox,en,R,t,en',e,hf,k⟩:=h
 unfold cq at hf
 obtain ⟨t0,h0,hf⟩:=Option.bind_eq_some_iff.mp hf
 obtain ⟨⟨t1,en1⟩,h1,hf⟩:=Option.bind_eq_some_iff.mp hf
 dsimp only at hf
 split at hf
 case h_2=>cases hf
 next n ts h2 =>
 obtain ⟨t',h3,hf⟩:=Option.map_eq_some_iff.mp hf
 cases hf
 obtain ⟨v,d0,a1,_,a3⟩:=e.at_ i _ (cP h0)
 refine ⟨v,a1,Ox,en,R,.int n,_,e,h1,fun x H1 R1 F P o=>?_⟩
 obtain ⟨v',d',b1,b2,b3⟩:=P.env.at_ i _ (cP h2)
 rw [a1] at b1
 cases b1
 rw [hd] at b2
 cases b2
 obtain ⟨l,vs,el,hl,hr,F',hf',ow⟩:=b3.ownL (by decide)
 obtain ⟨w,g1,g2⟩:=ow.atI h3
 refine ⟨l,vs,n,w,el,o,SqL.of hl,g1,k w H1 R1 NoA (P.less fun _ z=>z.elim) ?_⟩
 exact Ow.any0 _ (Ow.grow (fun a z=>z.imp id fun z=>z.elim (fun z=>False.elim z) Or.inr) _ (fun _ z=>z) g2)
end
end L2
namespace L2
open PySem PySem.Spec PyProof.Rows
theorem PE.imp {X:Cx} {e:Expr} {t t':TE} (h:PE X e t) (hi:∀ σ H Q,t' σ H Q→t σ H Q):PE X e t':=fun pins s σ H Q I hw=>h pins s σ H Q I (hi _ _ _ hw)
theorem PT.imp {X:Cx} {e:Expr} {t t':TT} (h:PT X e t) (hi:∀ σ H Q,t' σ H Q→t σ H Q):PT X e t':=fun pins s σ H Q I hw=>h pins s σ H Q I (hi _ _ _ hw)
theorem PW.imp {X:Cx} {e:Expr} {t t':TT} (h:PW X e t) (hi:∀ σ H Q,t' σ H Q→t σ H Q):PW X e t':=fun wh pins s σ H Q I hw=>h wh pins s σ H Q I (hi _ _ _ hw)
theorem PA.imp {X:Cx} {e:List Expr} {t t':TA} (h:PA X e t) (hi:∀ σ H Q,t' σ H Q→t σ H Q):PA X e t':=fun pos pins s σ H Q I hw=>h pos pins s σ H Q I (hi _ _ _ hw)
theorem PS.imp {X:Cx} {e:Stmt} {t t':TS} (h:PS X e t) (hi:∀ D σ H,t' D σ H→t D σ H):PS X e t':=fun pins s σ H D I hw=>h pins s σ H D I (hi _ _ _ hw)
theorem PSs.imp {X:Cx} {e:List Stmt} {t t':TS} (h:PSs X e t) (hi:∀ D σ H,t' D σ H→t D σ H):PSs X e t':=fun pins s σ H D I hw=>h pins s σ H D I (hi _ _ _ hw)
theorem PG.imp {X:Cx} {e:Expr} {t t':TG} (h:PG X e t) (hi:∀ v σ H Q,t' v σ H Q→t v σ H Q):PG X e t':=fun pins s σ H v u Q I r hw=>h pins s σ H v u Q I r (hi _ _ _ _ hw)
theorem PGs.imp {X:Cx} {e:List Expr} {t t':TGs} (h:PGs X e t) (hi:∀ v σ H Q,t' v σ H Q→t v σ H Q):PGs X e t':=fun pins s σ H v u Q I r hw=>h pins s σ H v u Q I r (hi _ _ _ _ hw)
theorem PI.imp {X:Cx} {tg e:Expr} {t t':TI} (h:PI X tg e t) (hi:∀ σ H R,t' σ H R→t σ H R):PI X tg e t':=fun pins s σ H R I hw=>h pins s σ H R I (hi _ _ _ hw)
theorem PTs.imp {X:Cx} {e:List Expr} {t t':TT} (h:PTs X e t) (hi:∀ σ H Q,t' σ H Q→t σ H Q):PTs X e t':=fun pins s σ H Q I hw=>h pins s σ H Q I (hi _ _ _ hw)
def aY:Expr→Bool
 | .Starred _ _=>false
 | _=>true
theorem bE {e:Expr} {es:List Expr} {env:Env} (h:aY e=true):starEach (e :: es) env=(false,eval e env) :: starEach es env:=by
 cases e <;> first | rfl | cases h
theorem fO {pos:Pos} {env:Env}:∀ {es:List Expr},es.all aY=true→(backTo pos (starEach es env)).any (·.1)=false
 | [],_=>rfl
 | e :: es,h=>by
  rw [List.all_cons,Bool.and_eq_true] at h
  rw [bE h.1]
  show (false || (backTo pos (starEach es env)).any (·.1))=false
  rw [fO h.2]
  rfl
section
variable {X:Cx} {K:PySem.W.Frag} {p p1 p2 q:Bool} {ds ds0 ds1 ds2 ds' dsi:List Nat} {d d' d1 d2:Nat} {a b c e:Expr} {es:List Expr} {f f1 f2:ME} {m c1 c2:MT} {fa:MA} {sh:Sh} {pos:Pos} {i:Nat} {x:Str}
theorem D3 {x:Str} (hN:X.N[i]?=some x) (hv:Vis X.env.scope x) (h0:ds[i]?=some 0) (hd:(x == ("__debug__" : Str))=false) (hcd:(x == ("__classdict__" : Str))=false):PE X (.Name x pos) (tF K p ds ds 0 (af i)) :=
 (jc hN hv hd hcd).imp fun _ _ _ h=>E8 h0 (iF (fun _=>rfl) h)
theorem Ee {n:Int} {j}:PE X (.Constant (.int n) j pos) (tF K p ds ds 3 (eC (.int n))):=pe_int.imp fun _ _ _ h=>f_c (t:=.int n) (fun _ _ _ _=>rfl) (iF (fun _=>rfl) h)
theorem E7 {n:Bool} {j}:PE X (.Constant (.bool n) j pos) (tF K p ds ds 3 (eC (.bool n))):=pe_bl.imp fun _ _ _ h=>f_c (t:=.bool n) (fun _ _ _ _=>rfl) (iF (fun _=>rfl) h)
theorem D8 {j}:PE X (.Constant .none j pos) (tF K p ds ds 3 (eC .none)):=pe_non.imp fun _ _ _ h=>f_c (t:=.none) (fun _ _ _ _=>rfl) (iF (fun _=>rfl) h)
theorem D6 {n:Str} {j}:PE X (.Constant (.str n) j pos) (tF K p ds ds 3 (eC (.str n))):=pe_str.imp fun _ _ _ h=>f_c (t:=.str n) (fun _ _ _ _=>rfl) (iF (fun _=>rfl) h)
theorem tw {x:Str} {n:Int} {t:Tok} (hg:Gl X x) (hm:X.mg x=some (.int n t)) (hd:(x == ("__debug__" : Str))=false):PE X (.Name x pos) (tF K p ds ds 3 (eC (.int n))) :=
 (zL (v:=.int n) hg hm ⟨t,rfl⟩ hd).imp fun _ _ _ h=>f_c (t:=.int n) (fun _ _ _ _=>rfl) (iF (fun _=>rfl) h)
theorem D5 (h:PE X e (tF K p ds ds' d f)) (hd:d'≤d):PE X e (tF K p ds ds' d' f):=h.imp fun _ _ _=>Fb hd
theorem E5 (h:PE X e (tF K p ds0 ds' d f)) (hd:leD ds0 ds=true):PE X e (tF K false ds ds' d f):=h.imp fun _ _ _=>FB hd
theorem Eh (h:PE X e (tF K true ds0 ds0 3 f)) (hd:leD ds0 ds=true):PE X e (tF K p ds ds 3 f):=h.imp fun _ _ _ h=>Ff hd (iF (fun _=>rfl) h)
theorem E2 {op:Operator} {g:D→D→Option D} (ho:OpR X (binaryOp op) (rF2 K g d)) (ha:PE X a (tF K p ds ds1 d1 f1)) (hb:PE X b (tF K p ds1 ds2 d2 f2)):PE X (.BinOp a op b pos) (tF K p ds ds2 d (e2 g f1 f2)) :=
 (EM ho ha hb).imp fun _ _ _ h=>mH (by rw [Bool.and_self]; exact h)
theorem EZ {op:UnaryOp} {g:D→Option D} (ho:UnR X (unaryOp op) (rF1 K g d)) (ha:PE X a (tF K p ds ds1 d1 f1)):PE X (.UnaryOp op a pos) (tF K p ds ds1 d (e1 g f1)) :=
 (EL ho ha).imp fun _ _ _=>Fc
theorem Eg {op:CmpOp} {g:D→D→Option D} (ho:OpR X (compareOp op) (rF2 K g d)) (ha:PE X a (tF K p ds ds1 d1 f1)) (hb:PE X b (tF K p ds1 ds2 d2 f2)) (hm:behindInMarks op b=false):PE X (.Compare a [op] [b] pos) (tF K p ds ds2 d (e2 g f1 f2)) :=
 (zM ho ha hb hm).imp fun _ _ _ h=>mH (by rw [Bool.and_self]; exact h)
theorem Ae {op:CmpOp} {g:D→D→Option D} (ho:OpR X (compareOp op) (rF2 K g d)) (ha:PE X a (tF K p ds ds1 d1 f1)) (hb:PE X b (tF K p ds1 ds2 d2 f2)) (hm:behindInMarks op b=false):PT X (.Compare a [op] [b] pos) (tFT K p ds ds2 (tV (e2 g f1 f2))) :=
 (zF ho ha hb hm).imp fun σ H Q h=>by
  obtain ⟨Ox,en,R,t,en',e,hf,k⟩:=ni (d:=d) h
  exact mH (by rw [Bool.and_self]; exact ⟨Ox,en,R,t,en',e,hf,k⟩)
theorem Ac (h:PE X e (tF K p ds ds' d f)) (he:∀ whole,isTrue e X.env whole=(do let v ← whole; standAt e.pos; holding [v] (truthy v))):PT X e (tFT K p ds ds' (tV f)):=(C1 h he).imp fun _ _ _=>ni
theorem zZ (ha:PT X a (tFT K p ds ds1 c1)):PW X (.BoolOp .And [a] pos) (tFT K p ds ds1 c1):=zC ha
theorem DJ (ha:PT X a (tFT K p ds ds1 c1)):PW X (.BoolOp .Or [a] pos) (tFT K p ds ds1 c1):=CY ha
theorem DK {rest:List Expr} (ha:PT X a (tFT K p ds ds1 c1)) (hb:PW X (.BoolOp .And (b :: rest) pos) (tFT K p ds1 ds1 c2)):PW X (.BoolOp .And (a :: b :: rest) pos) (tFT K p ds ds1 (fm c1 c2)):=(CZ ha hb).imp fun _ _ _ h=>DN (by rw [Bool.and_self]; exact h)
theorem ET {rest:List Expr} (ha:PT X a (tFT K p ds ds1 c1)) (hb:PW X (.BoolOp .Or (b :: rest) pos) (tFT K p ds1 ds1 c2)):PW X (.BoolOp .Or (a :: b :: rest) pos) (tFT K p ds ds1 (bOr c1 c2)):=(EJ ha hb).imp fun _ _ _ h=>EU (by rw [Bool.and_self]; exact h)
theorem Ad (ha:PT X a (tFT K p ds ds1 c1)):PT X (.UnaryOp .Not a pos) (tFT K p ds ds1 (bu c1)):=(C2 ha).imp fun _ _ _=>DL
theorem Af (h:PT X e (tFT K true ds0 ds0 c1)) (hd:leD ds0 ds=true):PT X e (tFT K p ds ds c1):=h.imp fun _ _ _ ⟨Ox,en,R,t,en',e,hf,k⟩=>DM hd ⟨Ox,en,R,t,en',e,hf,fun H' R' P=>k H' R' ⟨P.env,P.fx,P.keep,P.own,P.dom,fun _=>P.pure rfl⟩⟩
theorem D7 {op} (h:PE X a (tF K p ds ds1 d f)):PE X (.BoolOp op [a] pos) (tF K p ds ds1 d f):=Db h
theorem Ej {rest:List Expr} (ha:PE X a (tF K p ds ds1 d1 f1)) (hb:PE X (.BoolOp .And (b :: rest) pos) (tF K p ds1 ds1 d f2)):PE X (.BoolOp .And (a :: b :: rest) pos) (tF K p ds ds1 d (jq f1 f2)):=(Dd ha hb).imp fun _ _ _ h=>Fh (by rw [Bool.and_self]; exact h)
theorem AE:PA X [] (tFA K p ds ds [] ah):=pa_nil.imp fun _ _ _ ⟨Ox,en,R,t,en',e,hf,k⟩=>rp ⟨Ox,en,R,t,en',e,hf,fun vs H' R' F P=>k vs H' R' F ⟨P.env,P.fx,P.keep,P.own,P.dom,fun _=>P.pure rfl⟩⟩
theorem tH (ha:PE X e (tF K p ds ds1 d f)) (hr:PA X es (tFA K p ds1 ds2 sh fa)) (hs:aY e=true):PA X (e :: es) (tFA K p ds ds2 (.inl d :: sh) (ad f fa)):=(dQ ha hr (bE hs)).imp fun _ _ _ h=>lE (by rw [Bool.and_self]; exact h)
theorem tG {x:Str} (hN:X.N[i]?=some x) (hv:Vis X.env.scope x) (hr:PA X es (tFA K p ds ds2 sh fa)) (hd:(x == ("__debug__" : Str))=false) (hcd:(x == ("__classdict__" : Str))=false) :
  PA X (.Name x pos :: es) (tFA K p ds ds2 (.inr i :: sh) (aS i fa)):=(dQ (jc hN hv hd hcd) hr (bE rfl)).imp fun _ _ _=>AD
theorem D9 {c:Nat} (h:PA X es (tFA K p ds ds1 sh fa)) (hs:b8 c sh=true) (hd:dn d=c) (hz:d≠0):PE X (.List es pos) (tF K p ds ds1 d (bh fa)):=(Dc h).imp fun _ _ _=>Fd hs hd hz
theorem D4 {c:Nat} {x1} (h:PA X es (tFA K p ds ds1 sh fa)) (hs:b8 c sh=true) (hd:dn d=c):PE X (.Tuple es x1 pos) (tF K p ds ds1 d (aG fa)):=(Da h).imp fun _ _ _=>E9 hs hd
theorem tE {id:String} {x:Str} {px:Pos} {g:List D→Option D} (hc:CallR X (.builtin id) (rFn K g d)) (hg:Gl X x) (hm:X.mg x=none) (hv:bootBuiltins x=some (.builtin id)) (ha:PA X (e :: es) (tFA K p ds ds1 sh fa)) (hsh:b8 0 sh=true) (hn:x≠"__name__") (hdb:(x == ("__debug__" : Str))=false)
  (he:aY e=true) (hpl:es.all aY=true):PE X (.Call (.Name x px) (e :: es) [] pos) (tF K p ds ds1 d (eN g fa)) :=
 (j7 hc hg hm hv ha hn hdb (bE he) (fO hpl)).imp fun _ _ _=>rq hsh
theorem rn {T:String} {x:Str} {px:Pos} {g:List D→Option D} (hc:CallR X (.type T) (rFn K g d)) (hg:Gl X x) (hm:X.mg x=none) (hv:bootBuiltins x=some (.type T)) (ha:PA X (e :: es) (tFA K p ds ds1 sh fa)) (hsh:b8 0 sh=true) (hn:x≠"__name__") (hdb:(x == ("__debug__" : Str))=false)
  (he:aY e=true) (hpl:es.all aY=true):PE X (.Call (.Name x px) (e :: es) [] pos) (tF K p ds ds1 d (eN g fa)) :=
 (lN hc hg hm hv ha hn hdb (bE he) (fO hpl)).imp fun _ _ _=>rq hsh
theorem E6 {k:Nat} {x:Str} {ps:List Str} {px:Pos} {dps:List Nat} {dr:Nat} {F:List D→Option (D × En)} (G:Kn X.prog X.w X.K X.mg X.base k x ps (spF K dps dr F)) (hr:Room k X.A) (hg:Gl X x) (ha:PA X (e :: es) (tFA K p ds ds1 sh fa)) (hns:hR sh=true) (hcd:eU ds1 sh dps=true) (hdb:(x == ("__debug__" : Str))=false)
  (he:aY e=true) (hpl:es.all aY=true) :
  PE X (.Call (.Name x px) (e :: es) [] pos) (tF K p ds ds1 dr (ax F fa)):=(yY G hr hg ha hdb (bE he) (fO hpl)).imp fun _ _ _ h=>Em hcd (by rw [hns,Bool.and_true]; exact h)
theorem Ef {k:Nat} {x:Str} {ps:List Str} {px:Pos} {dps:List Nat} {dr:Nat} {F:List D→Option (D × En)} (G:Kn X.prog X.w X.K X.mg X.base k x ps (spF K dps dr F)) (hr:Room k X.A) (hg:Gl X x) (ha:PA X (e :: es) (tFA K false ds ds1 sh fa)) (hcd:eU ds1 sh dps=true) (hdb:(x == ("__debug__" : Str))=false)
  (he:aY e=true) (hpl:es.all aY=true) :
  PE X (.Call (.Name x px) (e :: es) [] pos) (tF K false ds ds1 dr (ax F fa)):=(yY G hr hg ha hdb (bE he) (fO hpl)).imp fun _ _ _ h=>Em hcd h
theorem E4 {g:D→D→Option D} (ho:IxR X (rF2 K g d)) (ha:PE X a (tF K p ds ds1 d1 f1)) (hb:PE X b (tF K p ds1 ds2 d2 f2)) (hs:eP b):PE X (.Subscript a b pos) (tF K p ds ds2 d (e2 g f1 f2)) :=
 (pc ho ha hb hs).imp fun _ _ _ h=>mH (by rw [Bool.and_self]; exact h)
theorem Ec {x:Str} {px:Pos} (hK:X.K=K) (hN:X.N[i]?=some x) (hv:Vis X.env.scope x) (h1:ds1[i]?=some 1) (hb:PE X b (tF K p ds ds1 d1 f)) (hs:eP b) (hd:(x == ("__debug__" : Str))=false) (hcd:(x == ("__classdict__" : Str))=false) :
  PE X (.Subscript (.Name x px) b pos) (tF K p ds ds1 0 (cq i f)):=(pc (Fy hK) (jc hN hv hd hcd) hb hs).imp fun _ _ _=>Fe h1
theorem Ei {c:Nat} {x:Str} {px apos cpos:Pos} (hK:X.K=K) (hN:X.N[i]?=some x) (hv:Vis X.env.scope x) (h1:ds1[i]?=some d) (he:PE X e (tF K false ds ds1 c f)) (hz:d≠0) (hc:dn d=c)
  (hd:(x == ("__debug__" : Str))=false) (hcd:(x == ("__classdict__" : Str))=false)
  (hbase:attributeBase (.Name x px) "append" X.env (eval (.Name x px) X.env)=eval (.Name x px) X.env)
  (hfew:((backTo cpos (starEach [e] X.env)).all (fun x=>!x.1) && (backToKw cpos (keywordEach [] X.env)).all (fun x=>x.1.isSome) && decide (([e]:List Expr).length+([]:List Keyword).length+(if ([]:List Keyword).isEmpty then 0 else 1) < 30))=true)
  (hline:(apos.endLine == cpos.line)=true) (hs:starEach [e] X.env=[(false,eval e X.env)]) (hplain:(backTo cpos (starEach [] X.env)).any (·.1)=false) :
  PE X (.Call (.Attribute (.Name x px) "append" apos) [e] [] cpos) (tF K false ds ds1 3 (gK i f)):=by
 subst hK
 exact (yZ PySem.F.plainAttrs_list PySem.F.slot_list_append PySem.F.type_list_append lP (jc hN hv hd hcd) (dQ he pa_nil hs) hbase hfew hline hs hplain).imp fun _ _ _=>Fg h1 hz hc
def cY:MT:=fun en=>some (true,en)
theorem Ab:PTs X [] (tFT K p ds ds cY):=pts_nil.imp fun σ H Q ⟨Ox,en,R,b,en',e,hf,k⟩=>by
 cases hf
 exact k H R (Post.refl e)
theorem Aa (hc:PT X c (tFT K p ds ds1 c1)):PTs X [c] (tFT K p ds ds1 c1):=zE hc
theorem E3 {elt tg iter:Expr} {ifs:List Expr} {scope:Scope} {ns:List Str} {js:List (Option Nat)} {fi:MI} {g:MG} {lk:List Nat} {cd:Nat} (B:BlkOkC X scope ns js) (hc:X.calm=true) (hi:PI X tg iter (tFI K p ds ds1 fi))
  (hg:∀ C cl s₀ H₀ fp,PG (aQ X scope ns C cl s₀ H₀ fp) tg (tFG K lk dsi dsi g)) (ht:∀ C cl s₀ H₀ fp,PTs (aQ X scope ns C cl s₀ H₀ fp) ifs (tFT K true dsi dsi c1)) (he:∀ C cl s₀ H₀ fp,PE (aQ X scope ns C cl s₀ H₀ fp) elt (tF K true dsi dsi cd f))
  (hcap:fj ds1 js dsi=true) (hd:dn d=cd) (hz:d≠0) (hlk:lk=fh js 0)
  (hs:∀ x,foldedSetIterable iter X.env x=pure x):PE X (.ListComp elt [⟨tg,iter,ifs,0⟩] scope pos) (tF K p ds ds1 d (eLC true fi g c1 f js)) :=
 (qA B hc hi hg ht he hs).imp fun _ _ _ h=>tI hcap hd hz hlk (by rw [Bool.and_true]; exact h)
theorem Ea {elt tg iter:Expr} {ifs:List Expr} {scope:Scope} {ns:List Str} {js:List (Option Nat)} {fi:MI} {g:MG} {lk:List Nat} {cd:Nat} (B:BlkOkC X scope ns js) (hc:X.calm=true) (hi:PI X tg iter (tFI K false ds ds1 fi))
  (hg:∀ C cl s₀ H₀ fp,PG (aQ X scope ns C cl s₀ H₀ fp) tg (tFG K lk dsi dsi g)) (ht:∀ C cl s₀ H₀ fp,PTs (aQ X scope ns C cl s₀ H₀ fp) ifs (tFT K false dsi dsi c1)) (he:∀ C cl s₀ H₀ fp,PE (aQ X scope ns C cl s₀ H₀ fp) elt (tF K false dsi dsi cd f))
  (hcap:fj ds1 js dsi=true) (hd:dn d=cd) (hz:d≠0) (hlk:lk=fh js 0)
  (hs:∀ x,foldedSetIterable iter X.env x=pure x):PE X (.ListComp elt [⟨tg,iter,ifs,0⟩] scope pos) (tF K false ds ds1 d (eLC false fi g c1 f js)) :=
 (qA B hc hi hg ht he hs).imp fun _ _ _ h=>tI hcap hd hz hlk h
end
end L2
namespace L2
open PySem PySem.Spec PyProof.Rows
def F9 (f:ME) (g:MG):MS:=fun en=>(f en).bind fun r=>(g r.1 r.2).map .nx
section
variable {K:PySem.W.Frag} {p p1 p2 q:Bool} {J:Jd} {ds ds0 ds1 ds2 ds' dsi dps:List Nat} {d d' d1 d2 dr:Nat} {f f1 f2 fk fe:ME} {c1 c2:MT} {fa:MA} {sh:Sh} {i:Nat} {m m1 m2:MS} {g:MG} {lk:List Nat} {σ:St} {H:Hp} {Dn:Ends}
end
section
variable {X:Cx} {K:PySem.W.Frag} {p p1 p2 q:Bool} {J:Jd} {ds ds0 ds1 ds2 ds' dsi dps:List Nat} {d d' d1 d2 dr:Nat} {a b c e tg iter:Expr} {es:List Expr} {st:Stmt} {rest body bodyB:List Stmt} {f f1 f2 fk fe:ME} {c1 c2:MT} {fa:MA} {sh:Sh} {pos px:Pos} {i:Nat} {x:Str} {m m1 m2:MS} {g:MG} {gs:List D→En→Option En} {fi:MI} {lk:List Nat}
theorem Ai:PSs X [] (tFS K J ds ds bc):=pss_nil.imp fun _ _ _=>DR
theorem sU (h1:PS X st (tFS K J ds ds1 m1)) (h2:PSs X rest (tFS K J ds1 ds2 m2)):PSs X (st :: rest) (tFS K J ds ds2 (au m1 m2)):=(si h1 h2).imp fun _ _ _=>DP
theorem Ah (h1:PS X st (tFS K J ds ds1 m1)):PSs X [st] (tFS K J ds ds1 m1):=zG h1
theorem Ag (h:PSs X rest (tFS K J ds ds2 m)) (hd:leD ds1 ds2=true):PSs X rest (tFS K J ds ds1 m):=h.imp fun _ _ _=>qW hd
theorem Ap (he:PE X e (tF K false ds ds1 d f)) (hs:swapsWith e none pos.line X.env=pure false):PS X (.Expr e pos) (tFS K J ds ds1 (ik f)):=(zH he hs).imp fun _ _ _=>DT
theorem An (he:PE X e (tF K false ds ds1 J.dr f)) (hd:leD J.dsr ds1=true):PS X (.Return (some e) pos) (tFS K J ds ds' (aL f)):=(C4 he).imp fun _ _ _=>DQ hd
theorem DU (hc:PT X c (tFT K false ds ds1 c1)) (ha:PSs X body (tFS K J ds1 ds2 m1)) (hb:PSs X bodyB (tFS K J ds1 ds2 m2)):PS X (.If c body bodyB pos) (tFS K J ds ds2 (sIf c1 m1 m2)):=(EK hc ha hb).imp fun _ _ _=>EW
theorem Am {x:Str} {pos':Pos} (hN:X.N.Nodup) (hi:X.N[i]?=some x) (hx:Loc X.env.scope x) (he:PE X e (tF K false ds ds1 d f)) (hds:ds1.set i d=ds') (hl:i < ds1.length) (hk:i ∉ J.lk)
  (hs:swapsWith e (some (.Name x pos')) pos.line X.env=pure false) (hf:X.fn x=true∨X.env.scope.names.lookup x=some .local) :
  PS X (.Assign [.Name x pos'] e pos) (tFS K J ds ds' (aF i f)):=by
 subst hds
 exact (C3 hN hi hx he hs hf).imp fun _ _ _=>qX hl hk
theorem rd {x:Str} {spos pos':Pos} {elt:Expr} {ifs:List Expr} {scope:Scope} {ns:List Str} {js:List (Option Nat)} {cd:Nat} (hN:X.N.Nodup) (hi':X.N[i]?=some x) (hx:X.env.scope.names.lookup x=some .local) (B:BlkOkC X scope ns js) (hc:X.calm=true) (hi:PI X tg iter (tFI K false ds ds1 fi))
  (hg:∀ C cl s₀ H₀ fp,PG (aQ X scope ns C cl s₀ H₀ fp) tg (tFG K lk dsi dsi g)) (ht:∀ C cl s₀ H₀ fp,PTs (aQ X scope ns C cl s₀ H₀ fp) ifs (tFT K q dsi dsi c1)) (he:∀ C cl s₀ H₀ fp,PE (aQ X scope ns C cl s₀ H₀ fp) elt (tF K q dsi dsi cd f))
  (hds:ds1.set i d=ds') (hcap:fj ds1 js dsi=true) (hd:dn d=cd) (hz:d≠0) (hlk:lk=fh js 0) (hl:i < ds1.length) (hk:i ∉ J.lk)
  (hsw:swapsWith (.ListComp elt [⟨tg,iter,ifs,0⟩] scope pos) (some (.Name x pos')) spos.line X.env=pure true)
  (hs:∀ x,foldedSetIterable iter X.env x=pure x):PS X (.Assign [.Name x pos'] (.ListComp elt [⟨tg,iter,ifs,0⟩] scope pos) spos) (tFS K J ds ds' (aF i (eLC q fi g c1 f js))):=by
 subst hds
 exact (qx hN hi' hx B hc hi hg ht he hsw hs).imp fun D σ H h=>tI (p:=false) hcap hd hz hlk (qX (p:=false && q) hl hk h)
theorem sX {c:Nat} {x:Str} {spos:Pos} {k:Expr} (hN:X.N[i]?=some x) (hv:Vis X.env.scope x) (he:PE X e (tF K false ds ds1 c fe)) (hk:PE X k (tF K false ds1 ds2 d2 fk)) (h1:ds2[i]?=some d) (hz:d≠0) (hc:dn d=c)
  (hdb:(x == ("__debug__" : Str))=false) (hcd:(x == ("__classdict__" : Str))=false)
  (ha:∀ v,assign (.Subscript (.Name x px) k spos) X.env v=(do
   let ov ← holding [v] (eval (.Name x px) X.env)
   let iv ← holding [v,ov] (eval k X.env)
   standAt spos
   holding [v,ov,iv] (setItem ov iv v)
   release [v,ov,iv] []))
  (hs:swapsWithSole [.Subscript (.Name x px) k spos] e pos.line X.env=pure false) (hw:swappedStores [.Subscript (.Name x px) k spos] e X.env=pure none)
  (h2:(assignEach [.Subscript (.Name x px) k spos] X.env).map (·.2)=[assign (.Subscript (.Name x px) k spos) X.env]) :
  PS X (.Assign [.Subscript (.Name x px) k spos] e pos) (tFS K J ds ds2 (dX i fk fe)) :=
 (C6 he (C9 (jc hN hv hdb hcd) hk se ha) hs hw h2).imp fun _ _ _=>Aj h1 hz hc
theorem tj {x:Str} (hN:X.N.Nodup) (hi:X.N[i]?=some x) (hx:Loc X.env.scope x) (hds:ds.set i 0=ds') (hl:i < ds.length) (hk:i ∉ lk) (hf:X.fn x=true∨X.env.scope.names.lookup x=some .local) :
  PG X (.Name x pos) (tFG K lk ds ds' (gN i)):=by
 subst hds
 exact (zK hN hi hx hf).imp fun _ _ _ _=>Az hl hk
theorem s0:PGs X [] (e8 K lk ds ds gs0):=pgs_nil.imp fun _ _ _ _=>Ax
theorem rh (h1:PG X e (tFG K lk ds ds1 g)) (h2:PGs X es (e8 K lk ds1 ds2 gs)) (hs:(assignEach (e :: es) X.env).map (·.2)=assign e X.env :: (assignEach es X.env).map (·.2)):PGs X (e :: es) (e8 K lk ds ds2 (gsC g gs)):=(sm h1 h2 hs).imp fun _ _ _ _=>tf
theorem lB {g1 g2:MG}:∀ ts en,(∃ en',gsC g1 (gsC g2 gs0) ts en=some en')→ts.length=2:=fun ts en ⟨en',h⟩=>by
 match ts,h with
 | [],h=>cases h
 | [_],h =>
  obtain ⟨_,_,h⟩:=Option.bind_eq_some_iff.mp h
  cases h
 | [_,_],_=>rfl
 | a :: b :: c :: r,h =>
  obtain ⟨_,_,h⟩:=Option.bind_eq_some_iff.mp h
  obtain ⟨_,_,h⟩:=Option.bind_eq_some_iff.mp h
  cases h
theorem Ay {k n:Nat} (hK:X.K=K) (hc:X.calm=true) (h:PGs X es (e8 K lk ds ds1 gs)) (hl:∀ ts en,(∃ en',gs ts en=some en')→ts.length=n) (hn:(assignEach es X.env).length=n) (hst:(assignEach es X.env).findIdx? (·.1)=none) :
  PG X (.Tuple es k pos) (tFG K lk ds ds1 (gT gs)):=by
 subst hK
 exact (C8 hc h hn hst).imp fun _ _ _ _=>D2 hl
theorem Ao (hc:X.calm=true) (hi:PI X tg iter (tFI K false ds ds1 fi)) (hg:PG X tg (tFG K J.lk ds1 ds2 g)) (hb:PSs X body (tFS K { J with dsl:=ds1 } ds2 ds1 m)) (hp:PassesOwn (model X.prog X.w) X.A X.env X.xe)
  (hs:∀ x,foldedSetIterable iter X.env x=pure x):PS X (.For tg iter body [] pos) (tFS K J ds ds1 (ck fi g m)):=(C5 hp hc hi hg hb hs).imp fun _ _ _=>DS
theorem qZ (hc:PT X c (tFT K false ds ds1 c1)) (hb:PSs X body (tFS K { J with dsl:=ds } ds1 ds m)) (hp:PassesOwn (model X.prog X.w) X.A X.env X.xe):PS X (.While c body [] pos) (tFS K J ds ds1 (b9 c1 m)):=(sj hp hc hb).imp fun _ _ _=>sV
end
def yS:D→Option (List D)
 | .list ts=>some ts
 | .tuple ts=>some ts
 | .str z=>some ((li z).map fun c=>.str (mk1 c))
 | _=>none
def b4 (f:ME):MI:=fun en=>(f en).bind fun r=>(yS r.1).map fun ts=>(ts,r.2)
section
variable {K:PySem.W.Frag} {O O1:AS} {H0 H:Hp} {ts:List D} {vs:List V} {a:Addr} {F:AS}
theorem dP {O O1:AS} (h1:∀ a o,H0 a=some o→¬ O a→H a=some o) (h2:∀ a,O1 a→O a∨H0 a=none):Mv O O1 NoA H0 H:=⟨fun a o q z=>z.elim (h1 a o q) fun z=>z.elim,h2⟩
theorem qj (h:FzL K O H0 a vs) (ho:Ows K O H0 ts 0 vs NoA):ki K O H0 (Itl K a) ts:=fun i H O1 h1 h2 h3=>by
 have sq:=(h.mv (dP h1 h2)).sq
 refine ⟨fun t ht=>?_,fun hl=>⟨vs,sq,by rw [ho.len]; omega⟩⟩
 obtain ⟨v,hv,ov⟩:=ho.get ht
 refine ⟨⟨vs,v,sq,hv⟩,fun x H1 ⟨e,y⟩=>?_⟩
 subst e
 have e2:=y vs sq
 rw [hv] at e2
 cases e2
 exact ⟨fun _ _ q=>q,Ow.mv (dP h1 h2) t (fun _ z=>z) ov⟩
theorem rS (h:FzT K O H0 a vs) (ho:Ows K O H0 ts 0 vs NoA):ki K O H0 (Itt K a) ts:=fun i H O1 h1 h2 h3=>by
 have sq:=(h.mv (dP h1 h2)).sq
 refine ⟨fun t ht=>?_,fun hl=>⟨vs,sq,by rw [ho.len]; omega⟩⟩
 obtain ⟨v,hv,ov⟩:=ho.get ht
 refine ⟨⟨vs,v,sq,hv⟩,fun x H1 ⟨e,y⟩=>?_⟩
 subst e
 have e2:=y vs sq
 rw [hv] at e2
 cases e2
 exact ⟨fun _ _ q=>q,Ow.mv (dP h1 h2) t (fun _ z=>z) ov⟩
theorem rT {z:Str}:ki K O H0 (Its z) ((li z).map fun c=>.str (mk1 c)):=fun i H O1 h1 h2 h3=>by
 refine ⟨fun t ht=>?_,fun hl=>?_⟩
 ·rw [List.getElem?_map] at ht
  obtain ⟨c,hc,e⟩:=Option.map_eq_some_iff.mp ht
  have hi:i < z.cps.size:=by
   have:=(List.getElem?_eq_some_iff.mp hc).1
   simpa [li] using this
  have hc':z.cps[i]?=some c:=by
   have:z.cps.toList[i]?=some c:=hc
   simpa using this
  refine ⟨hi,fun x H1 ⟨e1,c',e2,e3⟩=>?_⟩
  subst e1 e e3
  rw [hc'] at e2
  cases e2
  exact ⟨fun _ _ q=>q,rfl⟩
 ·have:z.cps.size=i:=by
   rw [List.length_map] at hl
   simpa [li] using hl
  show z.cps.size≤i
  omega
theorem rV {lo:Int} {n:Nat}:ki K O H0 (Itr lo n) ((List.range n).map fun k=>.int (lo+(k:Nat))):=fun i H O1 h1 h2 h3=>by
 refine ⟨fun t ht=>?_,fun hl=>?_⟩
 ·rw [List.getElem?_map] at ht
  obtain ⟨c,hc,e⟩:=Option.map_eq_some_iff.mp ht
  have hi:=(List.getElem?_eq_some_iff.mp hc).1
  rw [List.length_range] at hi
  rw [List.getElem?_range hi] at hc
  cases hc
  refine ⟨hi,fun x H1 ⟨e1,e2⟩=>?_⟩
  subst e1 e e2
  exact ⟨fun _ _ q=>q,rfl⟩
 ·rw [List.length_map,List.length_range] at hl
  show n≤i
  omega
theorem om {t:D} {v:V} {i:Nat} {p:Addr} (hp:H p=none) (h3:∀ a,O1 a→∃ o,H a=some o) (ov:Ow K O1 H t 0 v NoA):(∀ a o,H a=some o→upd H p (.tup [.int i,v]) a=some o)∧Ow K O1 (upd H p (.tup [.int (i:Nat),v])) (.tuple [.int i,t]) 0 (.ref p) NoA:=by
 have g:=(bP (o:=.tup [.int i,v]) hp).1
 refine ⟨g,p,[.int i,v],rfl,.inl ⟨rfl,⟨a6,fun z=>?_⟩,.int i,[v],NoA,NoA,rfl,fun _ z=>z,fun _ z=>z,fun _ z=>z.elim,rfl,v,[],NoA,NoA,rfl,fun _ z=>z,fun _ z=>z,fun _ z=>z.elim,?_,rfl⟩⟩
 ·obtain ⟨o,q⟩:=h3 p z
  rw [hp] at q
  cases q
 ·exact Ow.mv (G:=NoA) ⟨fun a o q _=>g a o q,fun a z=>.inl z⟩ t (fun _ z=>z) ov
def b5 (ts:List D):List D:=ts.zipIdx.map fun p=>.tuple [.int (p.2:Nat),p.1]
theorem eY {i:Nat} {u:D} (h:(b5 ts)[i]?=some u):∃ t,ts[i]?=some t∧u=.tuple [.int (i:Nat),t]:=by
 unfold b5 at h
 rw [List.getElem?_map] at h
 obtain ⟨⟨t,k⟩,h1,h2⟩:=Option.map_eq_some_iff.mp h
 rw [List.getElem?_zipIdx] at h1
 obtain ⟨t',h3,h4⟩:=Option.map_eq_some_iff.mp h1
 cases h4
 refine ⟨t,h3,?_⟩
 rw [← h2,Nat.zero_add]
theorem lW:(b5 ts).length=ts.length:=by unfold b5; rw [List.length_map,List.length_zipIdx]
theorem qk (h:FzL K O H0 a vs) (ho:Ows K O H0 ts 0 vs NoA):ki K O H0 (Ite K a) (b5 ts):=fun i H O1 h1 h2 h3=>by
 have sq:=(h.mv (dP h1 h2)).sq
 refine ⟨fun u hu=>?_,fun hl=>⟨vs,sq,by rw [lW] at hl; rw [ho.len]; omega⟩⟩
 obtain ⟨t,ht,rfl⟩:=eY hu
 obtain ⟨v,hv,ov⟩:=ho.get ht
 refine ⟨⟨vs,v,sq,hv⟩,fun x H1 ⟨p,v',e1,hp,e2,y⟩=>?_⟩
 have e3:=y vs sq
 rw [hv] at e3
 cases e3
 subst e1 e2
 exact om hp h3 (Ow.mv (dP h1 h2) t (fun _ z=>z) ov)
theorem oR (h:FzT K O H0 a vs) (ho:Ows K O H0 ts 0 vs NoA):ki K O H0 (ItT K a) (b5 ts):=fun i H O1 h1 h2 h3=>by
 have sq:=(h.mv (dP h1 h2)).sq
 refine ⟨fun u hu=>?_,fun hl=>⟨vs,sq,by rw [lW] at hl; rw [ho.len]; omega⟩⟩
 obtain ⟨t,ht,rfl⟩:=eY hu
 obtain ⟨v,hv,ov⟩:=ho.get ht
 refine ⟨⟨vs,v,sq,hv⟩,fun x H1 ⟨p,v',e1,hp,e2,y⟩=>?_⟩
 have e3:=y vs sq
 rw [hv] at e3
 cases e3
 subst e1 e2
 exact om hp h3 (Ow.mv (dP h1 h2) t (fun _ z=>z) ov)
end
def ca (fa:MA):MI:=fun en=>(fa en).bind fun r=>match r.1 with
 | [.inl (.int j)]=>if -(2 ^ 62)≤j∧j < 2 ^ 62 then some ((List.range j.toNat).map fun k=>.int (0+(k:Nat)),r.2) else none
 | _=>none
def FP (fa:MA):MI:=fun en=>(fa en).bind fun r=>match r.1 with
 | [.inl (.int i),.inl (.int j)]=>if -(2 ^ 62)≤i∧i < 2 ^ 62∧-(2 ^ 62)≤j∧j < 2 ^ 62 then some ((List.range (j - i).toNat).map fun k=>.int (i+(k:Nat)),r.2) else none
 | _=>none
def fT (fa:MA):MI:=fun en=>(fa en).bind fun r=>match r.1 with
 | [.inl (.list ts)]=>some (b5 ts,r.2)
 | [.inl (.tuple ts)]=>some (b5 ts,r.2)
 | _=>none
section
variable {X:Cx} {K:PySem.W.Frag} {p:Bool} {ds ds1:List Nat} {d:Nat} {e tg l:Expr} {f:ME} {fa:MA} {sh:Sh}
theorem D1 (hK:X.K=K) (hl:PE X l (tF K p ds ds1 d f)):PI X tg l (tFI K p ds ds1 (b4 f)):=by
 subst hK
 intro pins s σ H R I h
 obtain ⟨Ox,en,Rg,ts,en',e,hf,k⟩:=h
 unfold b4 at hf
 obtain ⟨⟨t,en1⟩,h1,hf⟩:=Option.bind_eq_some_iff.mp hf
 obtain ⟨ts',h2,hf⟩:=Option.map_eq_some_iff.mp hf
 cases hf
 refine thn (hl pins s σ H (fun v H1=>∃ R1,Post X.K p ds1 Ox σ H en Rg en1 H1 R1 NoA∧Ow X.K (Own R1 Ox) H1 t 0 v NoA) I ⟨Ox,en,Rg,t,en1,e,h1,fun v H1 R1 F P o=>⟨R1,P.less fun _ z=>z.elim,Ow.letgo P (fun _ z=>z) o⟩⟩) fun v s1 ⟨x,H1,I1,r1,R1,P,o⟩=>?_
 cases t with
 | list ts0 =>
  cases h2
  obtain ⟨a,vs,e1,⟨_,fz,ow⟩ | ⟨z,_⟩⟩:=o
  ·subst e1
   cases r1
   obtain ⟨its,rv,pl,hz⟩:=I1.list fz.sq
   refine wpAny_pyIter_list pl.isList ?_
   refine ⟨s1.heap.objs.size,[s1.heap.objs.size],_,_,H1,rfl,I1.kept (t':=s1.toks) fun b o e=>Heap.get?_push_of_some _ e,qm a _,⟨_,Heap.get?_push_size _ rfl,rfl,rfl⟩,fun b hb=>?_,k _ H1 R1 P (qj fz ow)⟩
   have e:b=s1.heap.objs.size:=by simpa using hb
   subst e
   exact I1.fpOk (Nat.le_refl _) (I1.hok.fresh (Nat.le_refl _))
  ·exact absurd rfl z
 | tuple ts0 =>
  cases h2
  obtain ⟨a,vs,e1,⟨_,fz,ow⟩ | ⟨z,_⟩⟩:=o
  ·subst e1
   cases r1
   obtain ⟨its,rv,pl,hz⟩:=I1.tuple fz.sq
   refine wpAny_pyIter_tuple (show s1.heap.IsTuple a its.toArray from pl) ?_
   refine ⟨s1.heap.objs.size,[s1.heap.objs.size],_,_,H1,rfl,I1.kept (t':=s1.toks) fun b o e=>Heap.get?_push_of_some _ e,oS a _,⟨_,Heap.get?_push_size _ rfl,rfl,rfl⟩,fun b hb=>?_,k _ H1 R1 P (rS fz ow)⟩
   have e:b=s1.heap.objs.size:=by simpa using hb
   subst e
   exact I1.fpOk (Nat.le_refl _) (I1.hok.fresh (Nat.le_refl _))
  ·exact absurd rfl z
 | str z =>
  cases h2
  have e1:x=.str z:=o
  subst e1
  obtain ⟨t,rfl⟩:=r1
  have fin:∀ (ty:String) (o:Obj),(ty="str_ascii_iterator"∨ty="str_iterator")→(s1.heap.push o).IsStrIter s1.heap.objs.size ty z t 0→PIE X pins σ tg R (.ref s1.heap.objs.size) { s1 with heap:=s1.heap.push o }:=fun ty o hty st=>by
   refine ⟨s1.heap.objs.size,[s1.heap.objs.size],_,_,H1,rfl,I1.kept (t':=s1.toks) fun b o e=>Heap.get?_push_of_some _ e,rW _ z t ty hty,st,fun b hb=>?_,k _ H1 R1 P rT⟩
   have e:b=s1.heap.objs.size:=by simpa using hb
   subst e
   exact I1.fpOk (Nat.le_refl _) (I1.hok.fresh (Nat.le_refl _))
  cases ha:z.cps.all (· < 128)
  ·exact wpAny_pyIter_wide ha (fin _ _ (.inr rfl) ⟨_,Heap.get?_push_size _ rfl,rfl,rfl⟩)
  ·exact wpAny_pyIter_ascii ha (fin _ _ (.inl rfl) ⟨_,Heap.get?_push_size _ rfl,rfl,rfl⟩)
 | _=>cases h2
theorem Av {a:Expr} {px pos:Pos} (hg:Gl X "range") (hm:X.mg "range"=none) (ha:PA X [a] (tFA K p ds ds1 sh fa)) (hs:aY a=true):PI X tg (.Call (.Name "range" px) [a] [] pos) (tFI K p ds ds1 (ca fa)) :=
 (qz hg hm ha (bE hs)).imp fun σ H R ⟨Ox,en,Rg,ts,en',e,hf,k⟩=>by
  unfold ca at hf
  obtain ⟨⟨as,en1⟩,h1,hf⟩:=Option.bind_eq_some_iff.mp hf
  refine ⟨Ox,en,Rg,as,en1,e,h1,fun vs H1 R1 F P o=>?_⟩
  dsimp only at hf
  split at hf
  case h_2=>cases hf
  next j =>
  by_cases hj:-(2 ^ 62)≤j∧j < 2 ^ 62
  case neg=>rw [if_neg hj] at hf; cases hf
  rw [if_pos hj] at hf
  cases hf
  obtain ⟨v,r,d,dr,F1,F2,e1,e2,_,_,_,o1,o2⟩:=o
  obtain ⟨_,o2⟩:=o2
  subst e1 o2
  have ev:v=.int j:=o1
  subst ev
  exact ⟨j,rfl,hj.1,hj.2,k _ H1 R1 (P.less fun _ z=>z.elim) rV⟩
theorem Aw {px pos:Pos} {elts:List Expr} {k:Nat} {tp:Pos} (hK:X.K=K) (hg:Gl X "enumerate") (hm:X.mg "enumerate"=none) (ha:PA X [l] (tFA K p ds ds1 sh fa)) (hs:starEach [l] X.env=[(false,eval l X.env)]) :
  PI X (.Tuple elts k tp) (.Call (.Name "enumerate" px) [l] [] pos) (tFI K p ds ds1 (fT fa)):=by
 subst hK
 intro pins s σ H R I h
 obtain ⟨Ox,en,Rg,ts,en',e,hf,k⟩:=h
 unfold fT at hf
 obtain ⟨⟨as,en1⟩,h1,hf⟩:=Option.bind_eq_some_iff.mp hf
 refine Call_ (ji I hg hm boot_enumerate (PyProof.Rows.callWith_type1 (thn (ha pos pins s σ H (fun vs H1=>∃ R1 t v,as=[.inl t]∧vs=[v]∧Post X.K p ds1 Ox σ H en Rg en1 H1 R1 NoA∧Ow X.K (Own R1 Ox) H1 t 0 v NoA) I ⟨Ox,en,Rg,as,en1,e,h1,fun vs H1 R1 F P o=>?_⟩) fun us s1 ⟨vs,H1,I1,r1,R1,t,v,ea,ev,P,o⟩=>?_) hs rfl))
 ·have one:∃ t,as=[.inl t]:=by
   dsimp only at hf
   split at hf
   ·exact ⟨_,rfl⟩
   ·exact ⟨_,rfl⟩
   ·cases hf
  obtain ⟨t,rfl⟩:=one
  obtain ⟨v,r,d,dr,F1,F2,e1,e2,s1,_,_,o1,o2⟩:=o
  obtain ⟨_,o2⟩:=o2
  subst o2
  exact ⟨R1,t,v,rfl,e1,P.less fun _ z=>z.elim,Ow.letgo P s1 o1⟩
 subst ea ev
 obtain ⟨u,rfl,ru⟩:=cX r1
 cases t with
 | list ts0 =>
  cases hf
  obtain ⟨a,vs,e1,⟨_,fz,ow⟩ | ⟨z,_⟩⟩:=o
  ·subst e1
   cases ru
   obtain ⟨its,rv,pl,hz⟩:=I1.list fz.sq
   refine call_enumerate_list pl.isList fun h' hE hI hsz hk=>?_
   refine wpAny_pyIter_enum hE ?_
   have I2:Inv X pins σ H1 { s1 with heap:=h' }:=I1.kept (t':=s1.toks) hk
   refine ⟨s1.heap.objs.size+1,[s1.heap.objs.size+1,s1.heap.objs.size],_,_,H1,rfl,I2,qo a _ _ (Nat.succ_ne_self _),⟨⟨_,hE⟩,hI⟩,fun b hb=>?_,k _ H1 R1 P (qk fz ow)⟩
   have hb':b=s1.heap.objs.size+1∨b=s1.heap.objs.size:=by simpa using hb
   rcases hb' with rfl | rfl
   ·exact I1.fpOk (Nat.le_succ _) (I1.hok.fresh (Nat.le_succ _))
   ·exact I1.fpOk (Nat.le_refl _) (I1.hok.fresh (Nat.le_refl _))
  ·exact absurd rfl z
 | tuple ts0 =>
  cases hf
  obtain ⟨a,vs,e1,⟨_,fz,ow⟩ | ⟨z,_⟩⟩:=o
  ·subst e1
   cases ru
   obtain ⟨its,rv,pt,hz⟩:=I1.tuple fz.sq
   have hT:s1.heap.IsTuple a its.toArray:=pt
   have hlt:a < s1.heap.objs.size:=by
    obtain ⟨o,e1,_⟩:=id hT
    exact Heap.lt_size e1
   refine mw hT fun h' hE hI hsz hk=>?_
   refine wpAny_pyIter_enum hE ?_
   have I2:Inv X pins σ H1 { s1 with heap:=h' }:=I1.kept (t':=s1.toks) hk
   refine ⟨s1.heap.objs.size+1,[s1.heap.objs.size+1,s1.heap.objs.size],_,_,H1,rfl,I2,oU a _ _ (Nat.succ_ne_self _) (Nat.ne_of_lt hlt),⟨⟨_,hE⟩,hI⟩,fun b hb=>?_,k _ H1 R1 P (oR fz ow)⟩
   have hb':b=s1.heap.objs.size+1∨b=s1.heap.objs.size:=by simpa using hb
   rcases hb' with rfl | rfl
   ·exact I1.fpOk (Nat.le_succ _) (I1.hok.fresh (Nat.le_succ _))
   ·exact I1.fpOk (Nat.le_refl _) (I1.hok.fresh (Nat.le_refl _))
  ·exact absurd rfl z
 | _=>cases hf
end
end L2
namespace L2
open PySem PySem.Spec PyProof.Rows
theorem NewTo.refl {H:Hp}:NewTo H H NoA:=⟨fun _ _ q=>q,fun _ z=>z.elim⟩
theorem OpR.imp {X:Cx} {fn:Value→Value→Sem Value} {r r':R2} (h:OpR X fn r) (hi:∀ x y H Q,r' x y H Q→r x y H Q):OpR X fn r':=fun pins s σ H x y v u Q I rx ry q=>h pins s σ H x y v u Q I rx ry (hi _ _ _ _ q)
theorem OpR.or' {X:Cx} {fn:Value→Value→Sem Value} {r r':R2} (h:OpR X fn r) (h':OpR X fn r'):OpR X fn (fun x y H Q=>r x y H Q∨r' x y H Q):=fun pins s σ H x y v u Q I rx ry q=>q.elim (h pins s σ H x y v u Q I rx ry) (h' pins s σ H x y v u Q I rx ry)
theorem UnR.imp {X:Cx} {fn:Value→Sem Value} {r r':V→Hp→VK→Prop} (h:UnR X fn r) (hi:∀ x H Q,r' x H Q→r x H Q):UnR X fn r':=fun pins s σ H x v Q I rx q=>h pins s σ H x v Q I rx (hi _ _ _ q)
theorem CallR.imp {X:Cx} {fn:Value} {r r':List V→Hp→VK→Prop} (h:CallR X fn r) (hi:∀ x H Q,r' x H Q→r x H Q):CallR X fn r':=fun pins s σ H x v Q I rx q=>h pins s σ H x v Q I rx (hi _ _ _ q)
theorem CallR.or' {X:Cx} {fn:Value} {r r':List V→Hp→VK→Prop} (h:CallR X fn r) (h':CallR X fn r'):CallR X fn (fun x H Q=>r x H Q∨r' x H Q):=fun pins s σ H x v Q I rx q=>q.elim (h pins s σ H x v Q I rx) (h' pins s σ H x v Q I rx)
theorem IxR.imp {X:Cx} {r r':R2} (h:IxR X r) (hi:∀ x y H Q,r' x y H Q→r x y H Q):IxR X r':=fun value slice pins s σ H x y v u Q I rx ry q=>h value slice pins s σ H x y v u Q I rx ry (hi _ _ _ _ q)
section
variable {X:Cx} {K:PySem.W.Frag} {O:AS} {H:Hp} {ts us:List D} {vs ws:List V} {x y:V} {d:Nat} {Q:VK}
theorem eE {l:Addr} (hl:H l=none) (hd:∀ a,O a→∃ o,H a=some o) (h:Ows K O H ts 0 vs NoA):NewTo H (upd H l (.lst vs)) (fun b=>b=l)∧Ow K (U (fun b=>b=l) O) (upd H l (.lst vs)) (.list ts) 1 (.ref l) (fun b=>b=l):=by
 refine ⟨bP hl,l,vs,rfl,.inr ⟨by decide,a6,rfl,NoA,fun _ z=>z.elim,?_⟩⟩
 refine Ows.mv (G:=NoA) ⟨fun a o q _=>(bP (o:=.lst vs) hl).1 a o q,fun a z=>?_⟩ ts (fun _ z=>z) h
 rcases z with z | z
 ·exact .inr (by rw [show a=l from z]; exact hl)
 ·exact .inl z
theorem eD {l:Addr} (hl:H l=none) (hd:∀ a,O a→∃ o,H a=some o) (h:Ows K O H ts 0 vs NoA):NewTo H (upd H l (.tup vs)) NoA∧Ow K (U NoA O) (upd H l (.tup vs)) (.tuple ts) 0 (.ref l) NoA:=by
 refine ⟨⟨(bP hl).1,fun _ z=>z.elim⟩,l,vs,rfl,.inl ⟨rfl,⟨a6,fun z=>?_⟩,?_⟩⟩
 ·rcases z with z | z
  ·exact z
  ·obtain ⟨o,q⟩:=hd l z
   rw [hl] at q
   cases q
 ·refine Ows.mv (G:=NoA) ⟨fun a o q _=>(bP (o:=.tup vs) hl).1 a o q,fun a z=>?_⟩ ts (fun _ z=>z) h
  rcases z with z | z
  ·exact z.elim
  ·exact .inl z
theorem Ows.app:∀ {ts:List D} {vs:List V},Ows K O H ts 0 vs NoA→Ows K O H us 0 ws NoA→Ows K O H (ts++us) 0 (vs++ws) NoA
 | [],_,h,h2=>by rw [show _=[] from h]; exact h2
 | t :: ts,_,h,h2=>by
  obtain ⟨v,r,F1,F2,e,_,_,_,h4,h5⟩:=h
  subst e
  exact ⟨v,r++ws,NoA,NoA,rfl,fun _ z=>z,fun _ z=>z,fun _ z=>z.elim,Ow.any0 t h4,Ows.app (Ows.any0 ts h5) h2⟩
theorem Ows.drop:∀ {ts:List D} {vs:List V} (n:Nat),Ows K O H ts 0 vs NoA→Ows K O H (ts.drop n) 0 (vs.drop n) NoA
 | ts,vs,0,h=>h
 | [],_,n+1,h=>by rw [show _=[] from h]; rfl
 | t :: ts,_,n+1,h=>by
  obtain ⟨v,r,F1,F2,e,_,_,_,h4,h5⟩:=h
  subst e
  exact Ows.drop n (Ows.any0 ts h5)
theorem Ows.take:∀ {ts:List D} {vs:List V} (n:Nat),Ows K O H ts 0 vs NoA→Ows K O H (ts.take n) 0 (vs.take n) NoA
 | ts,vs,0,h=>rfl
 | [],_,n+1,h=>by rw [show _=[] from h]; rfl
 | t :: ts,_,n+1,h=>by
  obtain ⟨v,r,F1,F2,e,_,_,_,h4,h5⟩:=h
  subst e
  exact ⟨v,r.take n,NoA,NoA,rfl,fun _ z=>z,fun _ z=>z,fun _ z=>z.elim,Ow.any0 t h4,Ows.take n (Ows.any0 ts h5)⟩
theorem Ow.lst0 {v:V} (h:Ow K O H (.list ts) 0 v NoA):∃ a vs,v=.ref a∧FzL K O H a vs∧Ows K O H ts 0 vs NoA:=by
 obtain ⟨a,vs,e,⟨_,h1,h2⟩ | ⟨z,_⟩⟩:=h
 ·exact ⟨a,vs,e,h1,h2⟩
 ·exact absurd rfl z
theorem Ow.tup0 {v:V} (h:Ow K O H (.tuple ts) 0 v NoA):∃ a vs,v=.ref a∧FzT K O H a vs∧Ows K O H ts 0 vs NoA:=by
 obtain ⟨a,vs,e,⟨_,h1,h2⟩ | ⟨z,_⟩⟩:=h
 ·exact ⟨a,vs,e,h1,h2⟩
 ·exact absurd rfl z
theorem Ows.one {t:D} (h:Ows K O H [t] 0 vs NoA):∃ v,vs=[v]∧Ow K O H t 0 v NoA:=by
 obtain ⟨v,r,F1,F2,e,_,_,_,h4,h5⟩:=h
 rw [show r=[] from h5] at e
 exact ⟨v,e,Ow.any0 t h4⟩
def bj:D→D→Option D
 | .int a,.int b=>some (.int (a+b))
 | .str a,.str b=>if a.length+b.length≤sizeLine then some (.str (a++b)) else none
 | _,_=>none
theorem a8:OpR X (binaryOp .Add) (rF2 K bj 3):=(op_add.or' pd).imp fun x y H Q ⟨O,a,b,t,oa,ob,hd,hg,k⟩=>by
 cases a with
 | int i=>cases b with
  | int j=>cases hg; exact .inl ⟨i,j,oa,ob,k _ H NoA .refl rfl⟩
  | _=>cases hg
 | str i=>cases b with
  | str j =>
   dsimp only [bj] at hg
   by_cases hl:i.length+j.length≤sizeLine
   ·rw [if_pos hl] at hg; cases hg; exact .inr ⟨i,j,oa,ob,hl,k _ H NoA .refl rfl⟩
   ·rw [if_neg hl] at hg; cases hg
  | _=>cases hg
 | _=>cases hg
def gH (g:Int→Int→Option D):D→D→Option D
 | .int a,.int b=>g a b
 | _,_=>none
theorem cv {g:Int→Int→Option D} {a b t:D} (h:gH g a b=some t):∃ i j,a=.int i∧b=.int j∧g i j=some t:=by
 cases a with
 | int i=>cases b with
  | int j=>exact ⟨i,j,rfl,rfl,h⟩
  | _=>cases h
 | _=>cases h
def e9:D→D→Option D:=gH fun a b=>some (.int (a - b))
theorem hX:OpR X (binaryOp .Sub) (rF2 K e9 3):=op_sub.imp fun x y H Q ⟨O,a,b,t,oa,ob,hd,hg,k⟩=>by
 obtain ⟨i,j,rfl,rfl,h⟩:=cv hg
 cases h
 exact ⟨i,j,oa,ob,k _ H NoA .refl rfl⟩
instance (i j:Int):Decidable (CMul i j):=by unfold CMul; exact inferInstance
instance (i j:Int):Decidable (iU i j):=by unfold iU; exact inferInstance
instance (i j:Int):Decidable (gR i j):=by unfold gR; exact inferInstance
def cO:D→D→Option D:=gH fun a b=>if CMul a b then some (.int (a * b)) else none
theorem hZ:OpR X (binaryOp .Mult) (rF2 K cO 3):=op_mul.imp fun x y H Q ⟨O,a,b,t,oa,ob,hd,hg,k⟩=>by
 obtain ⟨i,j,rfl,rfl,h⟩:=cv hg
 by_cases hc:CMul i j
 ·rw [if_pos hc] at h; cases h; exact ⟨i,j,oa,ob,hc,k _ H NoA .refl rfl⟩
 ·rw [if_neg hc] at h; cases h
def eT:D→D→Option D:=gH fun a b=>if iU a b then some (.int (a / b)) else none
theorem lD:OpR X (binaryOp .FloorDiv) (rF2 K eT 3):=op_fdiv.imp fun x y H Q ⟨O,a,b,t,oa,ob,hd,hg,k⟩=>by
 obtain ⟨i,j,rfl,rfl,h⟩:=cv hg
 by_cases hc:iU i j
 ·rw [if_pos hc] at h; cases h; exact ⟨i,j,oa,ob,hc,k _ H NoA .refl rfl⟩
 ·rw [if_neg hc] at h; cases h
def bX:D→D→Option D:=gH fun a b=>if 0 < b then some (.int (a % b)) else none
theorem cR:OpR X (binaryOp .Mod) (rF2 K bX 3):=op_mod.imp fun x y H Q ⟨O,a,b,t,oa,ob,hd,hg,k⟩=>by
 obtain ⟨i,j,rfl,rfl,h⟩:=cv hg
 by_cases hc:0 < j
 ·rw [if_pos hc] at h; cases h; exact ⟨i,j,oa,ob,hc,k _ H NoA .refl rfl⟩
 ·rw [if_neg hc] at h; cases h
def lb:D→D→Option D:=gH fun a b=>if gR a b then some (.int (a ^ b.toNat)) else none
theorem re:OpR X (binaryOp .Pow) (rF2 K lb 3):=op_pow.imp fun x y H Q ⟨O,a,b,t,oa,ob,hd,hg,k⟩=>by
 obtain ⟨i,j,rfl,rfl,h⟩:=cv hg
 by_cases hc:gR i j
 ·rw [if_pos hc] at h; cases h; exact ⟨i,j,oa,ob,hc,k _ H NoA .refl rfl⟩
 ·rw [if_neg hc] at h; cases h
def ltI:D→D→Option D:=gH fun a b=>some (.bool (decide (a < b)))
def leI:D→D→Option D:=gH fun a b=>some (.bool (decide (a≤b)))
def gtI:D→D→Option D:=gH fun a b=>some (.bool (decide (b < a)))
def geI:D→D→Option D:=gH fun a b=>some (.bool (decide (b≤a)))
theorem zq:OpR X (compareOp .Lt) (rF2 K ltI 3):=op_lt.imp fun x y H Q ⟨O,a,b,t,oa,ob,hd,hg,k⟩=>by
 obtain ⟨i,j,rfl,rfl,h⟩:=cv hg
 cases h
 exact ⟨i,j,oa,ob,k _ H NoA .refl rfl⟩
theorem gu:OpR X (compareOp .LtE) (rF2 K leI 3):=op_le.imp fun x y H Q ⟨O,a,b,t,oa,ob,hd,hg,k⟩=>by
 obtain ⟨i,j,rfl,rfl,h⟩:=cv hg
 cases h
 exact ⟨i,j,oa,ob,k _ H NoA .refl rfl⟩
theorem fF:OpR X (compareOp .Gt) (rF2 K gtI 3):=op_gt.imp fun x y H Q ⟨O,a,b,t,oa,ob,hd,hg,k⟩=>by
 obtain ⟨i,j,rfl,rfl,h⟩:=cv hg
 cases h
 exact ⟨i,j,oa,ob,k _ H NoA .refl rfl⟩
theorem EX:OpR X (compareOp .GtE) (rF2 K geI 3):=op_ge.imp fun x y H Q ⟨O,a,b,t,oa,ob,hd,hg,k⟩=>by
 obtain ⟨i,j,rfl,rfl,h⟩:=cv hg
 cases h
 exact ⟨i,j,oa,ob,k _ H NoA .refl rfl⟩
def oD:D→Bool
 | .none=>true
 | _=>false
def isN:D→D→Option D
 | a,.none=>some (.bool (oD a))
 | _,_=>none
def Gb:D→D→Option D
 | a,.none=>some (.bool (!oD a))
 | _,_=>none
def sQ:D→D→Option D
 | .str a,.str b=>some (.bool (bB b a))
 | _,_=>none
def hG:D→D→Option D
 | .str a,.str b=>some (.bool (!bB b a))
 | _,_=>none
theorem DY:OpR X (compareOp .In) (rF2 K sQ 3):=op_inS.imp fun x y H Q ⟨O,a,b,t,oa,ob,hd,hg,k⟩=>by
 cases a with
 | str i=>cases b with
  | str j=>cases hg; exact ⟨i,j,oa,ob,k _ H NoA .refl rfl⟩
  | _=>cases hg
 | _=>cases hg
theorem jl:OpR X (compareOp .NotIn) (rF2 K hG 3):=op_notInS.imp fun x y H Q ⟨O,a,b,t,oa,ob,hd,hg,k⟩=>by
 cases a with
 | str i=>cases b with
  | str j=>cases hg; exact ⟨i,j,oa,ob,k _ H NoA .refl rfl⟩
  | _=>cases hg
 | _=>cases hg
def ixA:D→D→Option D
 | .list ts,.int n=>atI ts n
 | .tuple ts,.int n=>atI ts n
 | .str z,.int n=>if z.length≤sizeLine then (atI z.cps.toList n).map fun c=>.str (mk1 c) else none
 | _,_=>none
theorem de (hK:X.K=K):IxR X (rF2 K ixA 0):=by
 subst hK
 refine ix_seq.imp fun x y H Q ⟨O,a,b,t,oa,ob,hd,hg,k⟩=>?_
 cases b with
 | int n =>
  cases a with
  | list ts =>
   obtain ⟨a,vs,e,fz,ow⟩:=oa.lst0
   obtain ⟨v,h1,h2⟩:=ow.atI hg
   exact .inl ⟨a,vs,n,v,e,ob,fz.sq,h1,k v H NoA .refl (by rw [dO]; exact h2)⟩
  | tuple ts =>
   obtain ⟨a,vs,e,fz,ow⟩:=oa.tup0
   obtain ⟨v,h1,h2⟩:=ow.atI hg
   exact .inr (.inl ⟨a,vs,n,v,e,ob,fz.sq,h1,k v H NoA .refl (by rw [dO]; exact h2)⟩)
  | str z =>
   dsimp only [ixA] at hg
   by_cases hl:z.length≤sizeLine
   ·rw [if_pos hl] at hg
    obtain ⟨c,h1,h2⟩:=Option.map_eq_some_iff.mp hg
    cases h2
    exact .inr (.inr ⟨z,n,c,oa,ob,hl,h1,k _ H NoA .refl rfl⟩)
   ·rw [if_neg hl] at hg; cases hg
  | _=>cases hg
 | _=>cases a <;> cases hg
def ixT:D→D→Option D
 | .str z,.int n=>if z.length≤sizeLine then (atI z.cps.toList n).map fun c=>.str (mk1 c) else none
 | _,_=>none
theorem jm:IxR X (rF2 K ixT 3):=by
 refine ix_str.imp fun x y H Q ⟨O,a,b,t,oa,ob,hd,hg,k⟩=>?_
 cases a with
 | str z=>cases b with
  | int n =>
   dsimp only [ixT] at hg
   by_cases hl:z.length≤sizeLine
   ·rw [if_pos hl] at hg
    obtain ⟨c,h1,h2⟩:=Option.map_eq_some_iff.mp hg
    cases h2
    exact ⟨z,n,c,oa,ob,hl,h1,k _ H NoA .refl rfl⟩
   ·rw [if_neg hl] at hg; cases hg
  | _=>cases hg
 | _=>cases hg
def p7:D→D→Option D
 | .list a,.list b=>if a.length+b.length≤sizeLine then some (.list (a++b)) else none
 | _,_=>none
def du:D→D→Option D
 | .tuple a,.tuple b=>if a.length+b.length≤sizeLine then some (.tuple (a++b)) else none
 | _,_=>none
end
end L2
namespace L2
open PySem PySem.Spec PyProof.Rows
def grd {α:Type} (c:Prop) [Decidable c] (t:α):Option α:=if c then some t else none
theorem bn {α:Type} {c:Prop} [Decidable c] {t u:α} (h:grd c t=some u):c∧t=u:=by
 unfold grd at h
 by_cases hc:c
 ·rw [if_pos hc] at h; exact ⟨hc,Option.some.inj h⟩
 ·rw [if_neg hc] at h; cases h
section
variable {X:Cx} {K:PySem.W.Frag} {O:AS} {H:Hp} {ts us:List D} {vs ws:List V} {x y:V} {d:Nat} {Q:VK}
def EH (K:PySem.W.Frag):R2:=fun x y H Q=>∃ l b xs zs,x=.ref l∧y=.ref b∧SqL K H l xs∧SqL K H b zs∧xs.length+zs.length≤sizeLine∧∀ p,H p=none→Q (.ref p) (upd H p (.lst (xs++zs)))
theorem op_catL:OpR X (binaryOp .Add) (EH X.K):=by
 intro pins s σ H x y v u Q I rx ry h
 obtain ⟨l,b,xs,zs,rfl,rfl,hH,hB,hz,q⟩:=h
 cases rx
 cases ry
 obtain ⟨its,r,⟨⟨c1,dd,da1,sl⟩,n,ho,hc,hdd,hda⟩,_⟩:=I.list hH
 obtain ⟨its2,r2,⟨⟨c2,dd2,da2,sl2⟩,n2,ho2,hc2,hdd2,hda2⟩,_⟩:=I.list hB
 have hl:=r.length
 have hl2:=r2.length
 simp only at hc hda hc2 hda2
 subst hc hda hc2 hda2
 refine concat_meets ⟨_,ho,rfl⟩ ⟨_,ho2,rfl⟩ noFill_list_add seq_list_add PySem.F.slot_list_add PySem.F.entry_list_add (PySem.F.args_list_add_2 _ _) (list_addW l b its.toArray its2.toArray n n2 dd dd2 sl sl2 (by simp only [List.size_toArray]; omega)) ⟨ho,ho2,?_⟩
 have ea:its.toArray++its2.toArray=(its++its2).toArray:=by simp
 rw [ea]
 exact ⟨.ref _,_,I.lnew (t':=s.toks) (r.append r2) (by rw [List.length_append]; omega),rfl,q _ I.fresh⟩
theorem At (hK:X.K=K):OpR X (binaryOp .Add) (rF2 K p7 1):=by
 subst hK
 refine op_catL.imp fun x y H Q ⟨O,a,b,t,oa,ob,hd,hg,k⟩=>?_
 cases a with
 | list ts=>cases b with
  | list us =>
   dsimp only [p7] at hg
   by_cases hl:ts.length+us.length≤sizeLine
   case neg=>rw [if_neg hl] at hg; cases hg
   rw [if_pos hl] at hg
   cases hg
   obtain ⟨a,vs,e1,f1,w1⟩:=oa.lst0
   obtain ⟨b,ws,e2,f2,w2⟩:=ob.lst0
   refine ⟨a,b,vs,ws,e1,e2,f1.sq,f2.sq,by rw [w1.len,w2.len]; exact hl,fun p hp=>?_⟩
   obtain ⟨n1,n2⟩:=eE hp hd (w1.app w2)
   exact k _ _ _ n1 n2
  | _=>cases hg
 | _=>cases hg
theorem cp (hK:X.K=K):OpR X (binaryOp .Add) (rF2 K du 0):=by
 intro pins s σ H x y v u Q I rx ry ⟨O,a,b,t,oa,ob,hd,hg,k⟩
 cases a with
 | tuple ts=>cases b with
  | tuple us =>
   dsimp only [du] at hg
   by_cases hl:ts.length+us.length≤sizeLine
   case neg=>rw [if_neg hl] at hg; cases hg
   rw [if_pos hl] at hg
   cases hg
   obtain ⟨a,vs,e1,f1,w1⟩:=oa.tup0
   obtain ⟨b,ws,e2,f2,w2⟩:=ob.tup0
   have l1:=w1.len
   have l2:=w2.len
   by_cases hx:vs=[]
   ·subst hx
    have et:ts=[]:=List.length_eq_zero_iff.mp l1.symm
    subst et
    refine ss hK pins s σ H x y v u Q I rx ry ⟨a,b,ws,e1,e2,f1.sq,f2.sq,?_⟩
    rw [← e2]
    exact k y H NoA .refl (by rw [dO]; exact ob)
   ·refine ER hK pins s σ H x y v u Q I rx ry ⟨a,b,vs,ws,e1,e2,f1.sq,f2.sq,hx,by omega,fun hy=>?_,fun hy p hp=>?_⟩
    ·subst hy
     have et:us=[]:=List.length_eq_zero_iff.mp l2.symm
     subst et
     rw [← e1]
     exact k x H NoA .refl (by rw [dO,List.append_nil]; exact oa)
    ·obtain ⟨n1,n2⟩:=eD hp hd (w1.app w2)
     exact k _ _ _ n1 n2
  | _=>cases hg
 | _=>cases hg
theorem Ows.rep (h:Ows K O H ts 0 vs NoA):∀ n:Nat,Ows K O H (List.replicate n ts).flatten 0 (List.replicate n vs).flatten NoA
 | 0=>rfl
 | n+1=>by
  rw [List.replicate_succ,List.replicate_succ,List.flatten_cons,List.flatten_cons]
  exact h.app (Ows.rep h n)
def Gc:D→D→Option D
 | .list ts,.int k=>grd (-(2 ^ 63)≤k∧k < 2 ^ 63∧ts.length * k.toNat≤sizeLine) (.list (List.replicate k.toNat ts).flatten)
 | _,_=>none
def pp:D→D→Option D
 | .str z,.int k=>grd (z.length≤4000∧-(2 ^ 63)≤k∧k≤4000) (.str (Txt.mul z k))
 | _,_=>none
theorem oF:OpR X (binaryOp .Mult) (rF2 K pp 3):=op_mulS.imp fun x y H Q ⟨O,a,b,t,oa,ob,hd,hg,k⟩=>by
 cases a with
 | str z=>cases b with
  | int n =>
   obtain ⟨⟨c1,c2,c3⟩,rfl⟩:=bn hg
   exact ⟨z,n,oa,ob,c1,c2,c3,k _ H NoA .refl rfl⟩
  | _=>cases hg
 | _=>cases hg
def sv:D→Option D
 | .int i=>some (.int (-i))
 | _=>none
theorem DX:UnR X (unaryOp .USub) (rF1 K sv 3):=un_neg.imp fun x H Q ⟨O,a,t,oa,hd,hg,k⟩=>by
 cases a with
 | int i=>cases hg; exact ⟨i,oa,k _ H NoA .refl rfl⟩
 | _=>cases hg
def bd:List D→Option D
 | [.list ts]=>some (.int ts.length)
 | [.tuple ts]=>some (.int ts.length)
 | [.str z]=>grd (z.length≤sizeLine) (.int z.length)
 | _=>none
theorem bf (hK:X.K=K):CallR X (.builtin "len") (rFn K bd 3):=(Fx hK).imp fun xs H Q ⟨O,as,t,oa,hd,hg,k⟩=>by
 match as,hg with
 | [.list ts],hg =>
  cases hg
  obtain ⟨v,rfl,o⟩:=oa.one
  obtain ⟨a,vs,rfl,fz,w⟩:=o.lst0
  exact ⟨_,_,rfl,.inl ⟨vs,fz.sq,rfl⟩,by rw [w.len]; exact k _ H NoA .refl rfl⟩
 | [.tuple ts],hg =>
  cases hg
  obtain ⟨v,rfl,o⟩:=oa.one
  obtain ⟨a,vs,rfl,fz,w⟩:=o.tup0
  exact ⟨_,_,rfl,.inr ⟨vs,fz.sq,rfl⟩,by rw [w.len]; exact k _ H NoA .refl rfl⟩
 | [.str z],hg =>
  obtain ⟨c,rfl⟩:=bn hg
  obtain ⟨v,rfl,o⟩:=oa.one
  exact ⟨_,_,rfl,by rw [show v=.str z from o]; exact ⟨c,rfl⟩,k _ H NoA .refl rfl⟩
def p8:List D→Option D
 | [.int i]=>some (.int (if i < 0 then -i else i))
 | _=>none
def FW:List D→Option D
 | [.int i,.int j]=>some (.int (if j > i then j else i))
 | _=>none
def FV:List D→Option D
 | [.int i,.int j]=>some (.int (if j < i then j else i))
 | _=>none
def Gd:List D→Option D
 | [.int i]=>some (.int i)
 | [.bool b]=>some (.int (if b then 1 else 0))
 | _=>none
def dE (z:Str):List D:=(li z).map fun c=>.str (mk1 c)
theorem mQ {z:Str}:Ows K O H (dE z) 0 (c7 z) NoA:=by
 unfold dE c7
 show Ows K O H ((li z).map fun c=>.str (mk1 c)) 0 ((li z).map sgn) NoA
 generalize li z=l
 induction l with
 | nil=>rfl
 | cons c r ih=>exact ⟨sgn c,r.map sgn,NoA,NoA,rfl,fun _ z=>z,fun _ z=>z,fun _ z=>z.elim,rfl,ih⟩
def iw:List D→Option D
 | [.list ts]=>some (.list ts)
 | [.tuple ts]=>some (.list ts)
 | [.str z]=>grd (z.cps.size≤sizeLine) (.list (dE z))
 | _=>none
theorem lC (hK:X.K=K) (hc:X.calm=true):CallR X (.type "list") (rFn K iw 1):=((zW hK).or' (lH hc)).imp fun xs H Q ⟨O,as,t,oa,hd,hg,k⟩=>by
 match as,hg with
 | [.list ts],hg =>
  cases hg
  obtain ⟨v,rfl,o⟩:=oa.one
  obtain ⟨a,vs,rfl,fz,w⟩:=o.lst0
  exact .inl ⟨a,vs,rfl,.inl fz.sq,fun l hl=>k _ _ _ (eE hl hd w).1 (eE hl hd w).2⟩
 | [.tuple ts],hg =>
  cases hg
  obtain ⟨v,rfl,o⟩:=oa.one
  obtain ⟨a,vs,rfl,fz,w⟩:=o.tup0
  exact .inl ⟨a,vs,rfl,.inr fz.sq,fun l hl=>k _ _ _ (eE hl hd w).1 (eE hl hd w).2⟩
 | [.str z],hg =>
  obtain ⟨c,rfl⟩:=bn hg
  obtain ⟨v,rfl,o⟩:=oa.one
  exact .inr ⟨z,by rw [show v=.str z from o],c,fun l hl=>k _ _ _ (eE (K:=K) hl hd mQ).1 (eE hl hd mQ).2⟩
def gE:List D→Option D
 | [.list ts]=>some (.tuple ts)
 | [.tuple ts]=>some (.tuple ts)
 | _=>none
theorem fU (hK:X.K=K):CallR X (.type "tuple") (rFn K gE 0):=(Dv hK).imp fun xs H Q ⟨O,as,t,oa,hd,hg,k⟩=>by
 match as,hg with
 | [.list ts],hg =>
  cases hg
  obtain ⟨v,rfl,o⟩:=oa.one
  obtain ⟨a,vs,rfl,fz,w⟩:=o.lst0
  exact ⟨a,vs,rfl,.inl ⟨fz.sq,fun l hl=>k _ _ _ (eD hl hd w).1 (eD hl hd w).2⟩⟩
 | [.tuple ts],hg =>
  cases hg
  obtain ⟨v,rfl,o⟩:=oa.one
  obtain ⟨a,vs,rfl,fz,w⟩:=o.tup0
  exact ⟨a,vs,rfl,.inr ⟨fz.sq,k _ H NoA .refl (by rw [dO]; exact o)⟩⟩
def fM:List D→Option (List Bool)
 | []=>some []
 | .bool b :: r=>(fM r).map (b :: ·)
 | _ :: _=>none
theorem lO:∀ {ts:List D} {vs:List V} {bs:List Bool},Ows K O H ts 0 vs NoA→fM ts=some bs→vs=bs.map V.bl
 | [],_,_,h,hb=>by cases hb; exact h
 | .bool b :: r,_,_,h,hb=>by
  obtain ⟨v,w,F1,F2,e,_,_,_,h4,h5⟩:=h
  obtain ⟨bs',h6,h7⟩:=Option.map_eq_some_iff.mp hb
  subst e h7
  rw [show v=.bl b from h4,lO (Ows.any0 r h5) h6]
  rfl
 | .none :: _,_,_,_,hb=>by cases hb
 | .int _ :: _,_,_,_,hb=>by cases hb
 | .str _ :: _,_,_,_,hb=>by cases hb
 | .list _ :: _,_,_,_,hb=>by cases hb
 | .tuple _ :: _,_,_,_,hb=>by cases hb
 | .dict _ :: _,_,_,_,hb=>by cases hb
def fX:List D→Option D
 | [.list ts]=>(fM ts).map fun bs=>.bool (bs.all id)
 | _=>none
theorem ia (hK:X.K=K) (hc:X.calm=true):CallR X (.builtin "all") (rFn K fX 3):=(Fz hK hc).imp fun xs H Q ⟨O,as,t,oa,hd,hg,k⟩=>by
 match as,hg with
 | [.list ts],hg =>
  obtain ⟨bs,h1,rfl⟩:=Option.map_eq_some_iff.mp hg
  obtain ⟨v,rfl,o⟩:=oa.one
  obtain ⟨a,vs,rfl,fz,w⟩:=o.lst0
  have e:=lO w h1
  subst e
  exact ⟨a,bs,rfl,fz.sq,k _ H NoA .refl rfl⟩
def tyN:D→String
 | .none=>"NoneType" | .bool _=>"bool" | .int _=>"int" | .str _=>"str" | .list _=>"list" | .tuple _=>"tuple" | .dict _=>"dict"
def aV (n T:String):Bool:=n == T || (n == "bool" && T == "int")
theorem oB {T:String} (hT:T∈["int", "bool", "str", "list", "tuple", "dict"]) (a:D):PySem.W.kitOne K (.type (tyN a)) (.type T)=some (aV (tyN a) T):=by
 simp only [List.mem_cons,List.not_mem_nil,or_false] at hT
 rcases hT with rfl | rfl | rfl | rfl | rfl | rfl <;> cases a <;> rfl
def EG (K:PySem.W.Frag):List V→Hp→VK→Prop:=fun xs H Q=>∃ x T,∃ (O:AS) (a:D),xs=[x,.ty T]∧Ow K O H a 0 x NoA∧T∈["int", "bool", "str", "list", "tuple", "dict"]∧Q (.bl (aV (tyN a) T)) H
theorem rJ:CallR X (.builtin "isinstance") (EG X.K):=by
 intro pins s σ H xs us Q I r h
 obtain ⟨x,T,O,a,rfl,oa,hT,q⟩:=h
 have base:∀ ty,TyOf X.K H x (.type ty)→tyN a=ty→wpAny (model X.prog X.w) X.A (call (.builtin "isinstance") us) (EP X pins σ Q) X.xe s:=fun ty h1 h2=>by
  refine tN pins s σ H _ us Q I r ⟨x,.type ty,T,aV (tyN a) T,rfl,h1,?_,q⟩
  rw [← h2]
  exact oB hT a
 cases a with
 | none=>exact base _ (by rw [show x=.non from oa]; exact .non) rfl
 | bool b=>exact base _ (by rw [show x=.bl b from oa]; exact .bl b) rfl
 | int b=>exact base _ (by rw [show x=.int b from oa]; exact .int b) rfl
 | str b=>exact base _ (by rw [show x=.str b from oa]; exact .str b) rfl
 | tuple ts =>
  obtain ⟨p,vs,rfl,fz,w⟩:=oa.tup0
  exact base _ (.tup fz.1) rfl
 | dict ts =>
  obtain ⟨p,vs,rfl,⟨_,h1,_⟩ | ⟨_,h1,_⟩⟩:=oa
  ·exact base _ (.dK h1) rfl
  ·exact base _ (.dK h1) rfl
 | list ts =>
  obtain ⟨p,vs,rfl,fz,w⟩:=oa.lst0
  obtain ⟨u,u2,rfl,r1,r2⟩:=r.two
  cases r1
  cases r2
  obtain ⟨its,rv,pl,_⟩:=I.list fz.sq
  have e:=oB (K:=X.K) hT (.list ts)
  obtain ⟨o,n,h1,h2,_⟩:=pl
  exact PySem.W.kia_one PySem.W.kitx_list I.kIn ⟨o,h1,h2⟩ e (fun z=>nomatch z) fun tk=>⟨.bl _,H,I.tok tk,rfl,q⟩
end
def aP (T:String):D→Option D:=fun a=>some (.bool (aV (tyN a) T))
section
variable {X:Cx} {K:PySem.W.Frag} {p:Bool} {ds ds1:List Nat} {d1:Nat} {e:Expr} {f:ME}
theorem Ed {T:Str} {n:String} {px pt pos:Pos} (hK:X.K=K) (hg:Gl X "isinstance") (hm:X.mg "isinstance"=none) (hgT:Gl X T) (hmT:X.mg T=none) (hbT:bootBuiltins T=some (.type n)) (hT:n∈["int", "bool", "str", "list", "tuple", "dict"]) (he:PE X e (tF K p ds ds1 d1 f))
  (hnT:T≠"__name__") (hdT:(T == ("__debug__" : Str))=false)
  (hs1:starEach [e,.Name T pt] X.env=(false,eval e X.env) :: starEach [.Name T pt] X.env) (hs2:starEach [.Name T pt] X.env=(false,eval (.Name T pt) X.env) :: starEach [] X.env) (hpl:(backTo pos (starEach [.Name T pt] X.env)).any (·.1)=false) :
  PE X (.Call (.Name "isinstance" px) [e,.Name T pt] [] pos) (tF K p ds ds1 3 (e1 (aP n) f)):=by
 subst hK
 refine (j7 rJ hg hm boot_isinstance (dQ he (dQ (zO (v:=.ty n) hgT hmT hbT rfl hnT hdT) pa_nil hs2) hs1) (by decide) (by decide) hs1 hpl).imp fun σ H Q h=>?_
 obtain ⟨Ox,en,R,t,en',e,hf,k⟩:=h
 unfold e1 at hf
 obtain ⟨⟨t1,en1⟩,h1,hf⟩:=Option.bind_eq_some_iff.mp hf
 obtain ⟨t',h3,hf⟩:=Option.map_eq_some_iff.mp hf
 cases hf
 cases h3
 refine ⟨Ox,en,R,t1,en1,e,h1,fun v H' R' F P o=>?_⟩
 exact ⟨v,n,Own R' Ox,t1,rfl,Ow.letgo P (fun _ z=>z) o,hT,k _ H' R' NoA (P.less fun _ z=>z.elim) rfl⟩
end
end L2
namespace L2
open PySem PySem.Spec PyProof.Rows
mutual
def peq:D→D→Bool
 | .none,.none=>true
 | .bool a,.bool b=>a == b
 | .bool a,.int b=>(if a then (1:Int) else 0) == b
 | .int a,.bool b=>a == (if b then (1:Int) else 0)
 | .int a,.int b=>a == b
 | .str a,.str b=>a == b
 | .list a,.list b=>cN a b
 | .tuple a,.tuple b=>cN a b
 | _,_=>false
def cN:List D→List D→Bool
 | [],[]=>true
 | a :: r,b :: s=>peq a b && cN r s
 | _,_=>false
end
mutual
def ao:D→Bool
 | .dict _=>false
 | .list ts=>aD ts
 | .tuple ts=>aD ts
 | _=>true
def aD:List D→Bool
 | []=>true
 | t :: r=>ao t && aD r
end
mutual
theorem io:∀ a:D,ao a=true→peq a a=true
 | .none,_=>rfl
 | .bool b,_=>by cases b <;> rfl
 | .int i,_=>by simp [peq]
 | .str i,_=>by simp [peq]
 | .list ts,h=>by simp only [peq]; exact jb ts (by simpa [ao] using h)
 | .tuple ts,h=>by simp only [peq]; exact jb ts (by simpa [ao] using h)
 | .dict _,h=>by simp [ao] at h
theorem jb:∀ a:List D,aD a=true→cN a a=true
 | [],_=>rfl
 | t :: r,h=>by
  have h':ao t=true∧aD r=true:=by simpa [aD] using h
  simp only [cN,io t h'.1,jb r h'.2,Bool.and_self]
end
mutual
def aI:D→Nat
 | .list ts=>a5 ts+1
 | .tuple ts=>a5 ts+1
 | _=>0
def a5:List D→Nat
 | []=>0
 | t :: r=>max (aI t) (a5 r)
end
theorem dS:∀ {ts:List D} {i:Nat} {t:D},ts[i]?=some t→aI t≤a5 ts
 | [],_,_,h=>by simp at h
 | u :: r,i,t,h=>by
  simp only [a5]
  cases i with
  | zero=>simp at h; subst h; exact Nat.le_max_left _ _
  | succ i=>exact Nat.le_trans (dS (by simpa using h)) (Nat.le_max_right _ _)
theorem dz:∀ {ts:List D} {i:Nat} {t:D},aD ts=true→ts[i]?=some t→ao t=true
 | [],_,_,_,h=>by simp at h
 | u :: r,i,t,hn,h=>by
  have h':ao u=true∧aD r=true:=by simpa [aD] using hn
  cases i with
  | zero=>simp at h; subst h; exact h'.1
  | succ i=>exact dz h'.2 (by simpa using h)
theorem j5:∀ {a b:List D},a.length≠b.length→cN a b=false
 | [],[],h=>absurd rfl h
 | [],_ :: _,_=>rfl
 | _ :: _,[],_=>rfl
 | a :: r,b :: s,h=>by
  simp only [cN,j5 (a:=r) (b:=s) (fun z=>h (by rw [List.length_cons,List.length_cons,z])),Bool.and_false]
def eAt (a b:List D) (j:Nat):Bool:=match a[j]?,b[j]? with
 | some x,some y=>peq x y
 | _,_=>true
theorem ic (n:Nat) (f:Nat→Bool):(List.range (n+1)).all f=(f 0 && (List.range n).all fun j=>f (j+1)):=by
 rw [List.range_succ_eq_map,List.all_cons,List.all_map]
 rfl
theorem j6:∀ {a b:List D},a.length=b.length→(List.range a.length).all (eAt a b)=cN a b
 | [],[],_=>rfl
 | a :: r,b :: s,h=>by
  rw [List.length_cons,ic]
  have e:(List.range r.length).all (fun j=>eAt (a :: r) (b :: s) (j+1))=(List.range r.length).all (eAt r s):=by
   congr 1
  rw [e,j6 (by simpa using h)]
  rfl
 | [],_ :: _,h=>by simp at h
 | _ :: _,[],h=>by simp at h
section
open PySem.SeqAt
variable {X:Cx} {pins:List (Addr × Obj)} {σ:St} {H:Hp} {s:Shared} {O:AS}
theorem y6 {p:Addr} {vs ws:List V} (I:Inv X pins σ H s) (h:SqL X.K H p vs) (g:SqT X.K H p ws):False:=by
 obtain ⟨its,_,p1,_⟩:=I.list h
 obtain ⟨its2,_,p2,_⟩:=I.tuple g
 exact ne_of_list_tuple p1.isList (show s.heap.IsTuple p its2.toArray from p2) rfl
theorem EQ {p:Addr} {vs:List V} {ks:List (Key × V)} (I:Inv X pins σ H s) (h:SqL X.K H p vs) (g:H p=some (.dK ks)):False:=by
 obtain ⟨its,_,⟨o,n,e1,e2,_⟩,_⟩:=I.list h
 obtain ⟨_,_,_,_,o',_,_,g1,g2,_⟩:=zt I.hok g
 rw [e1] at g1
 cases g1
 rw [g2.1] at e2
 simp at e2
mutual
theorem Ow.inj (I:Inv X pins σ H s):∀ (a b:D) {x:V},Ow X.K O H a 0 x NoA→Ow X.K O H b 0 x NoA→ao a=true→a=b
 | .none,b,_,h,g,_=>by
  cases (show _=_ from h)
  cases b with
  | none=>rfl
  | list ts=>obtain ⟨_,_,z,_⟩:=g; cases z
  | tuple ts=>obtain ⟨_,_,z,_⟩:=g; cases z
  | dict ts=>obtain ⟨_,_,z,_⟩:=g; cases z
  | bool c=>cases (show V.non=V.bl c from g)
  | int c=>cases (show V.non=V.int c from g)
  | str c=>cases (show V.non=V.str c from g)
 | .bool c,b,_,h,g,_=>by
  cases (show _=_ from h)
  cases b with
  | none=>cases (show V.bl c=V.non from g)
  | list ts=>obtain ⟨_,_,z,_⟩:=g; cases z
  | tuple ts=>obtain ⟨_,_,z,_⟩:=g; cases z
  | dict ts=>obtain ⟨_,_,z,_⟩:=g; cases z
  | bool c'=>cases (show V.bl c=V.bl c' from g); rfl
  | int c'=>cases (show V.bl c=V.int c' from g)
  | str c'=>cases (show V.bl c=V.str c' from g)
 | .int c,b,_,h,g,_=>by
  cases (show _=_ from h)
  cases b with
  | none=>cases (show V.int c=V.non from g)
  | list ts=>obtain ⟨_,_,z,_⟩:=g; cases z
  | tuple ts=>obtain ⟨_,_,z,_⟩:=g; cases z
  | dict ts=>obtain ⟨_,_,z,_⟩:=g; cases z
  | bool c'=>cases (show V.int c=V.bl c' from g)
  | int c'=>cases (show V.int c=V.int c' from g); rfl
  | str c'=>cases (show V.int c=V.str c' from g)
 | .str c,b,_,h,g,_=>by
  cases (show _=_ from h)
  cases b with
  | none=>cases (show V.str c=V.non from g)
  | list ts=>obtain ⟨_,_,z,_⟩:=g; cases z
  | tuple ts=>obtain ⟨_,_,z,_⟩:=g; cases z
  | dict ts=>obtain ⟨_,_,z,_⟩:=g; cases z
  | bool c'=>cases (show V.str c=V.bl c' from g)
  | int c'=>cases (show V.str c=V.int c' from g)
  | str c'=>cases (show V.str c=V.str c' from g); rfl
 | .list ts,b,_,h,g,hn=>by
  obtain ⟨p,vs,rfl,fz,w⟩:=h.lst0
  cases b with
  | none=>cases (show V.ref p=V.non from g)
  | bool c'=>cases (show V.ref p=V.bl c' from g)
  | int c'=>cases (show V.ref p=V.int c' from g)
  | str c'=>cases (show V.ref p=V.str c' from g)
  | list us =>
   obtain ⟨p',vs',e,fz',w'⟩:=g.lst0
   cases e
   have:=I.list_inj fz.sq fz'.sq
   subst this
   rw [Ows.inj I ts us w w' (by simpa [ao] using hn)]
  | tuple us =>
   obtain ⟨p',vs',e,fz',w'⟩:=g.tup0
   cases e
   exact (y6 I fz.sq fz'.sq).elim
  | dict us =>
   obtain ⟨p',vs',e,⟨_,g1,_⟩ | ⟨z,_⟩⟩:=g
   ·cases e
    exact (EQ I fz.sq g1).elim
   ·exact absurd rfl z
 | .tuple ts,b,_,h,g,hn=>by
  obtain ⟨p,vs,rfl,fz,w⟩:=h.tup0
  cases b with
  | none=>cases (show V.ref p=V.non from g)
  | bool c'=>cases (show V.ref p=V.bl c' from g)
  | int c'=>cases (show V.ref p=V.int c' from g)
  | str c'=>cases (show V.ref p=V.str c' from g)
  | tuple us =>
   obtain ⟨p',vs',e,fz',w'⟩:=g.tup0
   cases e
   have:=fz.1.symm.trans fz'.1
   cases this
   rw [Ows.inj I ts us w w' (by simpa [ao] using hn)]
  | list us =>
   obtain ⟨p',vs',e,fz',w'⟩:=g.lst0
   cases e
   exact (y6 I fz'.sq fz.sq).elim
  | dict us =>
   obtain ⟨p',vs',e,⟨_,g1,_⟩ | ⟨z,_⟩⟩:=g
   ·cases e
    rw [fz.1] at g1
    cases g1
   ·exact absurd rfl z
 | .dict _,_,_,_,_,hn=>by simp [ao] at hn
theorem Ows.inj (I:Inv X pins σ H s):∀ (a b:List D) {x:List V},Ows X.K O H a 0 x NoA→Ows X.K O H b 0 x NoA→aD a=true→a=b
 | [],b,_,h,g,_=>by
  cases (show _=_ from h)
  cases b with
  | nil=>rfl
  | cons u us=>obtain ⟨_,_,_,_,e,_⟩:=g; cases e
 | t :: ts,b,_,h,g,hn=>by
  obtain ⟨v,r,F1,F2,e,_,_,_,h4,h5⟩:=h
  subst e
  have hn':ao t=true∧aD ts=true:=by simpa [aD] using hn
  cases b with
  | nil=>cases (show v :: r=[] from g)
  | cons u us =>
   obtain ⟨v',r',G1,G2,e,_,_,_,g4,g5⟩:=g
   cases e
   rw [Ow.inj I t u (Ow.any0 t h4) (Ow.any0 u g4) hn'.1,Ows.inj I ts us (Ows.any0 ts h5) (Ows.any0 us g5) hn'.2]
end
theorem na {A:Around} {ts us:List D} {vs ws:List V} {its its2:List Value} (w:Ows X.K O H ts 0 vs NoA) (w2:Ows X.K O H us 0 ws NoA) (rv:Vals vs its) (rv2:Vals ws its2)
  (ih:∀ (j:Nat) a b x y v u,ts[j]?=some a→us[j]?=some b→Ow X.K O H a 0 x NoA→Ow X.K O H b 0 y NoA→RelV x v→RelV y u→EqAt A s v u (peq a b)) :
  ∀ j (h1:j < its.toArray.size) (h2:j < its2.toArray.size),EqAt A s its.toArray[j] its2.toArray[j] (eAt ts us j):=fun j h1 h2=>by
 have h1':j < its.length:=by simpa using h1
 have h2':j < its2.length:=by simpa using h2
 have l1:=rv.length
 have l2:=rv2.length
 have m1:=w.len
 have m2:=w2.len
 have e1:ts[j]?=some ts[j]:=List.getElem?_eq_getElem (by omega)
 have e2:us[j]?=some us[j]:=List.getElem?_eq_getElem (by omega)
 obtain ⟨x,g1,o1⟩:=w.get e1
 obtain ⟨y,g2,o2⟩:=w2.get e2
 obtain ⟨u1,f1,q1⟩:=rv.get g1
 obtain ⟨u2,f2,q2⟩:=rv2.get g2
 have z:=ih j _ _ x y u1 u2 e1 e2 o1 o2 q1 q2
 rw [List.getElem?_eq_getElem h1'] at f1
 rw [List.getElem?_eq_getElem h2'] at f2
 have i1:its.toArray[j]=u1:=by simpa using Option.some.inj f1
 have i2:its2.toArray[j]=u2:=by simpa using Option.some.inj f2
 rw [i1,i2]
 unfold eAt
 rw [e1,e2]
 exact z
theorem kK (I:Inv X pins σ H s):∀ (n:Nat) (a b:D) (A:Around) (x y:V) (v u:Value),aI a≤n→ao a=true→ao b=true→Ow X.K O H a 0 x NoA→Ow X.K O H b 0 y NoA→RelV x v→RelV y u→A.units+n+1 < cLine →
  EqAt A s v u (peq a b)∧RcAt A s v u (peq a b)∧RcNeAt A s v u (!peq a b):=by
 intro n
 induction n with
 | zero =>
  intro a b A x y v u hdp hna hnb o1 o2 r1 r2 hun
  have hu:A.units < cLine:=by omega
  cases a with
  | none =>
   cases b with
   | none =>
    cases (show x=V.non from o1)
    cases r1
    cases (show y=V.non from o2)
    cases r2
    exact ⟨EqAt.same _,RcAt.none_none,RcNeAt.none_none⟩
   | bool c2 =>
    cases (show x=V.non from o1)
    cases r1
    cases (show y=V.bl c2 from o2)
    cases r2
    exact ⟨EqAt.none_bool _,RcAt.none_bool _,RcNeAt.none_bool _⟩
   | int c2 =>
    cases (show x=V.non from o1)
    cases r1
    cases (show y=V.int c2 from o2)
    obtain ⟨tk2,rfl⟩:=r2
    exact ⟨EqAt.none_int _ _,RcAt.none_int _ _,RcNeAt.none_int _ _⟩
   | str c2 =>
    cases (show x=V.non from o1)
    cases r1
    cases (show y=V.str c2 from o2)
    obtain ⟨tk2,rfl⟩:=r2
    exact ⟨EqAt.none_str _ _,RcAt.none_str _ _,RcNeAt.none_str _ _⟩
   | list c2 =>
    cases (show x=V.non from o1)
    cases r1
    obtain ⟨p2,vs2,rfl,fz2,w2⟩:=o2.lst0
    cases r2
    obtain ⟨its2,rv2,pl2,_⟩:=I.list fz2.sq
    have hl2:=pl2.isList
    exact ⟨EqAt.none_list  hl2 hu,RcAt.none_list  hl2 hu,RcNeAt.none_list  hl2 hu⟩
   | tuple c2 =>
    cases (show x=V.non from o1)
    cases r1
    obtain ⟨p2,vs2,rfl,fz2,w2⟩:=o2.tup0
    cases r2
    obtain ⟨its2,rv2,pl2,_⟩:=I.tuple fz2.sq
    have hl2:s.heap.IsTuple p2 its2.toArray:=pl2
    exact ⟨EqAt.none_tuple  hl2 hu,RcAt.none_tuple  hl2 hu,RcNeAt.none_tuple  hl2 hu⟩
   | dict c2=>simp [ao] at hnb
  | bool c1 =>
   cases b with
   | none =>
    cases (show x=V.bl c1 from o1)
    cases r1
    cases (show y=V.non from o2)
    cases r2
    exact ⟨EqAt.bool_none _,RcAt.bool_none _,RcNeAt.bool_none _⟩
   | bool c2 =>
    cases (show x=V.bl c1 from o1)
    cases r1
    cases (show y=V.bl c2 from o2)
    cases r2
    exact ⟨EqAt.bool_bool _ _,RcAt.bool_bool _ _,RcNeAt.bool_bool _ _⟩
   | int c2 =>
    cases (show x=V.bl c1 from o1)
    cases r1
    cases (show y=V.int c2 from o2)
    obtain ⟨tk2,rfl⟩:=r2
    exact ⟨EqAt.bool_int _ _ _,RcAt.bool_int _ _ _,RcNeAt.bool_int _ _ _⟩
   | str c2 =>
    cases (show x=V.bl c1 from o1)
    cases r1
    cases (show y=V.str c2 from o2)
    obtain ⟨tk2,rfl⟩:=r2
    exact ⟨EqAt.bool_str _ _ _,RcAt.bool_str _ _ _,RcNeAt.bool_str _ _ _⟩
   | list c2 =>
    cases (show x=V.bl c1 from o1)
    cases r1
    obtain ⟨p2,vs2,rfl,fz2,w2⟩:=o2.lst0
    cases r2
    obtain ⟨its2,rv2,pl2,_⟩:=I.list fz2.sq
    have hl2:=pl2.isList
    exact ⟨EqAt.bool_list _ hl2 hu,RcAt.bool_list _ hl2 hu,RcNeAt.bool_list _ hl2 hu⟩
   | tuple c2 =>
    cases (show x=V.bl c1 from o1)
    cases r1
    obtain ⟨p2,vs2,rfl,fz2,w2⟩:=o2.tup0
    cases r2
    obtain ⟨its2,rv2,pl2,_⟩:=I.tuple fz2.sq
    have hl2:s.heap.IsTuple p2 its2.toArray:=pl2
    exact ⟨EqAt.bool_tuple _ hl2 hu,RcAt.bool_tuple _ hl2 hu,RcNeAt.bool_tuple _ hl2 hu⟩
   | dict c2=>simp [ao] at hnb
  | int c1 =>
   cases b with
   | none =>
    cases (show x=V.int c1 from o1)
    obtain ⟨tk1,rfl⟩:=r1
    cases (show y=V.non from o2)
    cases r2
    exact ⟨EqAt.int_none _ _,RcAt.int_none _ _,RcNeAt.int_none _ _⟩
   | bool c2 =>
    cases (show x=V.int c1 from o1)
    obtain ⟨tk1,rfl⟩:=r1
    cases (show y=V.bl c2 from o2)
    cases r2
    exact ⟨EqAt.int_bool _ _ _,RcAt.int_bool _ _ _,RcNeAt.int_bool _ _ _⟩
   | int c2 =>
    cases (show x=V.int c1 from o1)
    obtain ⟨tk1,rfl⟩:=r1
    cases (show y=V.int c2 from o2)
    obtain ⟨tk2,rfl⟩:=r2
    exact ⟨EqAt.int_int _ _ _ _,RcAt.int_int _ _ _ _,RcNeAt.int_int _ _ _ _⟩
   | str c2 =>
    cases (show x=V.int c1 from o1)
    obtain ⟨tk1,rfl⟩:=r1
    cases (show y=V.str c2 from o2)
    obtain ⟨tk2,rfl⟩:=r2
    exact ⟨EqAt.int_str _ _ _ _,RcAt.int_str _ _ _ _,RcNeAt.int_str _ _ _ _⟩
   | list c2 =>
    cases (show x=V.int c1 from o1)
    obtain ⟨tk1,rfl⟩:=r1
    obtain ⟨p2,vs2,rfl,fz2,w2⟩:=o2.lst0
    cases r2
    obtain ⟨its2,rv2,pl2,_⟩:=I.list fz2.sq
    have hl2:=pl2.isList
    exact ⟨EqAt.int_list _ _ hl2 hu,RcAt.int_list _ _ hl2 hu,RcNeAt.int_list _ _ hl2 hu⟩
   | tuple c2 =>
    cases (show x=V.int c1 from o1)
    obtain ⟨tk1,rfl⟩:=r1
    obtain ⟨p2,vs2,rfl,fz2,w2⟩:=o2.tup0
    cases r2
    obtain ⟨its2,rv2,pl2,_⟩:=I.tuple fz2.sq
    have hl2:s.heap.IsTuple p2 its2.toArray:=pl2
    exact ⟨EqAt.int_tuple _ _ hl2 hu,RcAt.int_tuple _ _ hl2 hu,RcNeAt.int_tuple _ _ hl2 hu⟩
   | dict c2=>simp [ao] at hnb
  | str c1 =>
   cases b with
   | none =>
    cases (show x=V.str c1 from o1)
    obtain ⟨tk1,rfl⟩:=r1
    cases (show y=V.non from o2)
    cases r2
    exact ⟨EqAt.str_none _ _,RcAt.str_none _ _,RcNeAt.str_none _ _⟩
   | bool c2 =>
    cases (show x=V.str c1 from o1)
    obtain ⟨tk1,rfl⟩:=r1
    cases (show y=V.bl c2 from o2)
    cases r2
    exact ⟨EqAt.str_bool _ _ _,RcAt.str_bool _ _ _,RcNeAt.str_bool _ _ _⟩
   | int c2 =>
    cases (show x=V.str c1 from o1)
    obtain ⟨tk1,rfl⟩:=r1
    cases (show y=V.int c2 from o2)
    obtain ⟨tk2,rfl⟩:=r2
    exact ⟨EqAt.str_int _ _ _ _,RcAt.str_int _ _ _ _,RcNeAt.str_int _ _ _ _⟩
   | str c2 =>
    cases (show x=V.str c1 from o1)
    obtain ⟨tk1,rfl⟩:=r1
    cases (show y=V.str c2 from o2)
    obtain ⟨tk2,rfl⟩:=r2
    exact ⟨EqAt.str_str _ _ _ _,RcAt.str_str _ _ _ _,RcNeAt.str_str _ _ _ _⟩
   | list c2 =>
    cases (show x=V.str c1 from o1)
    obtain ⟨tk1,rfl⟩:=r1
    obtain ⟨p2,vs2,rfl,fz2,w2⟩:=o2.lst0
    cases r2
    obtain ⟨its2,rv2,pl2,_⟩:=I.list fz2.sq
    have hl2:=pl2.isList
    exact ⟨EqAt.str_list _ _ hl2 hu,RcAt.str_list _ _ hl2 hu,RcNeAt.str_list _ _ hl2 hu⟩
   | tuple c2 =>
    cases (show x=V.str c1 from o1)
    obtain ⟨tk1,rfl⟩:=r1
    obtain ⟨p2,vs2,rfl,fz2,w2⟩:=o2.tup0
    cases r2
    obtain ⟨its2,rv2,pl2,_⟩:=I.tuple fz2.sq
    have hl2:s.heap.IsTuple p2 its2.toArray:=pl2
    exact ⟨EqAt.str_tuple _ _ hl2 hu,RcAt.str_tuple _ _ hl2 hu,RcNeAt.str_tuple _ _ hl2 hu⟩
   | dict c2=>simp [ao] at hnb
  | list c1 =>
   simp only [aI] at hdp
   omega
  | tuple c1 =>
   simp only [aI] at hdp
   omega
  | dict c1=>simp [ao] at hna
 | succ n ih =>
  intro a b A x y v u hdp hna hnb o1 o2 r1 r2 hun
  have hu:A.units < cLine:=by omega
  have hu1:A.in1.units+n+1 < cLine:=by
   show A.units+1+n+1 < cLine
   omega
  cases a with
  | none =>
   cases b with
   | none =>
    cases (show x=V.non from o1)
    cases r1
    cases (show y=V.non from o2)
    cases r2
    exact ⟨EqAt.same _,RcAt.none_none,RcNeAt.none_none⟩
   | bool c2 =>
    cases (show x=V.non from o1)
    cases r1
    cases (show y=V.bl c2 from o2)
    cases r2
    exact ⟨EqAt.none_bool _,RcAt.none_bool _,RcNeAt.none_bool _⟩
   | int c2 =>
    cases (show x=V.non from o1)
    cases r1
    cases (show y=V.int c2 from o2)
    obtain ⟨tk2,rfl⟩:=r2
    exact ⟨EqAt.none_int _ _,RcAt.none_int _ _,RcNeAt.none_int _ _⟩
   | str c2 =>
    cases (show x=V.non from o1)
    cases r1
    cases (show y=V.str c2 from o2)
    obtain ⟨tk2,rfl⟩:=r2
    exact ⟨EqAt.none_str _ _,RcAt.none_str _ _,RcNeAt.none_str _ _⟩
   | list c2 =>
    cases (show x=V.non from o1)
    cases r1
    obtain ⟨p2,vs2,rfl,fz2,w2⟩:=o2.lst0
    cases r2
    obtain ⟨its2,rv2,pl2,_⟩:=I.list fz2.sq
    have hl2:=pl2.isList
    exact ⟨EqAt.none_list  hl2 hu,RcAt.none_list  hl2 hu,RcNeAt.none_list  hl2 hu⟩
   | tuple c2 =>
    cases (show x=V.non from o1)
    cases r1
    obtain ⟨p2,vs2,rfl,fz2,w2⟩:=o2.tup0
    cases r2
    obtain ⟨its2,rv2,pl2,_⟩:=I.tuple fz2.sq
    have hl2:s.heap.IsTuple p2 its2.toArray:=pl2
    exact ⟨EqAt.none_tuple  hl2 hu,RcAt.none_tuple  hl2 hu,RcNeAt.none_tuple  hl2 hu⟩
   | dict c2=>simp [ao] at hnb
  | bool c1 =>
   cases b with
   | none =>
    cases (show x=V.bl c1 from o1)
    cases r1
    cases (show y=V.non from o2)
    cases r2
    exact ⟨EqAt.bool_none _,RcAt.bool_none _,RcNeAt.bool_none _⟩
   | bool c2 =>
    cases (show x=V.bl c1 from o1)
    cases r1
    cases (show y=V.bl c2 from o2)
    cases r2
    exact ⟨EqAt.bool_bool _ _,RcAt.bool_bool _ _,RcNeAt.bool_bool _ _⟩
   | int c2 =>
    cases (show x=V.bl c1 from o1)
    cases r1
    cases (show y=V.int c2 from o2)
    obtain ⟨tk2,rfl⟩:=r2
    exact ⟨EqAt.bool_int _ _ _,RcAt.bool_int _ _ _,RcNeAt.bool_int _ _ _⟩
   | str c2 =>
    cases (show x=V.bl c1 from o1)
    cases r1
    cases (show y=V.str c2 from o2)
    obtain ⟨tk2,rfl⟩:=r2
    exact ⟨EqAt.bool_str _ _ _,RcAt.bool_str _ _ _,RcNeAt.bool_str _ _ _⟩
   | list c2 =>
    cases (show x=V.bl c1 from o1)
    cases r1
    obtain ⟨p2,vs2,rfl,fz2,w2⟩:=o2.lst0
    cases r2
    obtain ⟨its2,rv2,pl2,_⟩:=I.list fz2.sq
    have hl2:=pl2.isList
    exact ⟨EqAt.bool_list _ hl2 hu,RcAt.bool_list _ hl2 hu,RcNeAt.bool_list _ hl2 hu⟩
   | tuple c2 =>
    cases (show x=V.bl c1 from o1)
    cases r1
    obtain ⟨p2,vs2,rfl,fz2,w2⟩:=o2.tup0
    cases r2
    obtain ⟨its2,rv2,pl2,_⟩:=I.tuple fz2.sq
    have hl2:s.heap.IsTuple p2 its2.toArray:=pl2
    exact ⟨EqAt.bool_tuple _ hl2 hu,RcAt.bool_tuple _ hl2 hu,RcNeAt.bool_tuple _ hl2 hu⟩
   | dict c2=>simp [ao] at hnb
  | int c1 =>
   cases b with
   | none =>
    cases (show x=V.int c1 from o1)
    obtain ⟨tk1,rfl⟩:=r1
    cases (show y=V.non from o2)
    cases r2
    exact ⟨EqAt.int_none _ _,RcAt.int_none _ _,RcNeAt.int_none _ _⟩
   | bool c2 =>
    cases (show x=V.int c1 from o1)
    obtain ⟨tk1,rfl⟩:=r1
    cases (show y=V.bl c2 from o2)
    cases r2
    exact ⟨EqAt.int_bool _ _ _,RcAt.int_bool _ _ _,RcNeAt.int_bool _ _ _⟩
   | int c2 =>
    cases (show x=V.int c1 from o1)
    obtain ⟨tk1,rfl⟩:=r1
    cases (show y=V.int c2 from o2)
    obtain ⟨tk2,rfl⟩:=r2
    exact ⟨EqAt.int_int _ _ _ _,RcAt.int_int _ _ _ _,RcNeAt.int_int _ _ _ _⟩
   | str c2 =>
    cases (show x=V.int c1 from o1)
    obtain ⟨tk1,rfl⟩:=r1
    cases (show y=V.str c2 from o2)
    obtain ⟨tk2,rfl⟩:=r2
    exact ⟨EqAt.int_str _ _ _ _,RcAt.int_str _ _ _ _,RcNeAt.int_str _ _ _ _⟩
   | list c2 =>
    cases (show x=V.int c1 from o1)
    obtain ⟨tk1,rfl⟩:=r1
    obtain ⟨p2,vs2,rfl,fz2,w2⟩:=o2.lst0
    cases r2
    obtain ⟨its2,rv2,pl2,_⟩:=I.list fz2.sq
    have hl2:=pl2.isList
    exact ⟨EqAt.int_list _ _ hl2 hu,RcAt.int_list _ _ hl2 hu,RcNeAt.int_list _ _ hl2 hu⟩
   | tuple c2 =>
    cases (show x=V.int c1 from o1)
    obtain ⟨tk1,rfl⟩:=r1
    obtain ⟨p2,vs2,rfl,fz2,w2⟩:=o2.tup0
    cases r2
    obtain ⟨its2,rv2,pl2,_⟩:=I.tuple fz2.sq
    have hl2:s.heap.IsTuple p2 its2.toArray:=pl2
    exact ⟨EqAt.int_tuple _ _ hl2 hu,RcAt.int_tuple _ _ hl2 hu,RcNeAt.int_tuple _ _ hl2 hu⟩
   | dict c2=>simp [ao] at hnb
  | str c1 =>
   cases b with
   | none =>
    cases (show x=V.str c1 from o1)
    obtain ⟨tk1,rfl⟩:=r1
    cases (show y=V.non from o2)
    cases r2
    exact ⟨EqAt.str_none _ _,RcAt.str_none _ _,RcNeAt.str_none _ _⟩
   | bool c2 =>
    cases (show x=V.str c1 from o1)
    obtain ⟨tk1,rfl⟩:=r1
    cases (show y=V.bl c2 from o2)
    cases r2
    exact ⟨EqAt.str_bool _ _ _,RcAt.str_bool _ _ _,RcNeAt.str_bool _ _ _⟩
   | int c2 =>
    cases (show x=V.str c1 from o1)
    obtain ⟨tk1,rfl⟩:=r1
    cases (show y=V.int c2 from o2)
    obtain ⟨tk2,rfl⟩:=r2
    exact ⟨EqAt.str_int _ _ _ _,RcAt.str_int _ _ _ _,RcNeAt.str_int _ _ _ _⟩
   | str c2 =>
    cases (show x=V.str c1 from o1)
    obtain ⟨tk1,rfl⟩:=r1
    cases (show y=V.str c2 from o2)
    obtain ⟨tk2,rfl⟩:=r2
    exact ⟨EqAt.str_str _ _ _ _,RcAt.str_str _ _ _ _,RcNeAt.str_str _ _ _ _⟩
   | list c2 =>
    cases (show x=V.str c1 from o1)
    obtain ⟨tk1,rfl⟩:=r1
    obtain ⟨p2,vs2,rfl,fz2,w2⟩:=o2.lst0
    cases r2
    obtain ⟨its2,rv2,pl2,_⟩:=I.list fz2.sq
    have hl2:=pl2.isList
    exact ⟨EqAt.str_list _ _ hl2 hu,RcAt.str_list _ _ hl2 hu,RcNeAt.str_list _ _ hl2 hu⟩
   | tuple c2 =>
    cases (show x=V.str c1 from o1)
    obtain ⟨tk1,rfl⟩:=r1
    obtain ⟨p2,vs2,rfl,fz2,w2⟩:=o2.tup0
    cases r2
    obtain ⟨its2,rv2,pl2,_⟩:=I.tuple fz2.sq
    have hl2:s.heap.IsTuple p2 its2.toArray:=pl2
    exact ⟨EqAt.str_tuple _ _ hl2 hu,RcAt.str_tuple _ _ hl2 hu,RcNeAt.str_tuple _ _ hl2 hu⟩
   | dict c2=>simp [ao] at hnb
  | list c1 =>
   cases b with
   | none =>
    obtain ⟨p1,vs1,rfl,fz1,w1⟩:=o1.lst0
    cases r1
    obtain ⟨its1,rv1,pl1,_⟩:=I.list fz1.sq
    have hl1:=pl1.isList
    cases (show y=V.non from o2)
    cases r2
    exact ⟨EqAt.list_none  hl1 hu,RcAt.list_none  hl1 hu,RcNeAt.list_none  hl1 hu⟩
   | bool c2 =>
    obtain ⟨p1,vs1,rfl,fz1,w1⟩:=o1.lst0
    cases r1
    obtain ⟨its1,rv1,pl1,_⟩:=I.list fz1.sq
    have hl1:=pl1.isList
    cases (show y=V.bl c2 from o2)
    cases r2
    exact ⟨EqAt.list_bool _ hl1 hu,RcAt.list_bool _ hl1 hu,RcNeAt.list_bool _ hl1 hu⟩
   | int c2 =>
    obtain ⟨p1,vs1,rfl,fz1,w1⟩:=o1.lst0
    cases r1
    obtain ⟨its1,rv1,pl1,_⟩:=I.list fz1.sq
    have hl1:=pl1.isList
    cases (show y=V.int c2 from o2)
    obtain ⟨tk2,rfl⟩:=r2
    exact ⟨EqAt.list_int _ _ hl1 hu,RcAt.list_int _ _ hl1 hu,RcNeAt.list_int _ _ hl1 hu⟩
   | str c2 =>
    obtain ⟨p1,vs1,rfl,fz1,w1⟩:=o1.lst0
    cases r1
    obtain ⟨its1,rv1,pl1,_⟩:=I.list fz1.sq
    have hl1:=pl1.isList
    cases (show y=V.str c2 from o2)
    obtain ⟨tk2,rfl⟩:=r2
    exact ⟨EqAt.list_str _ _ hl1 hu,RcAt.list_str _ _ hl1 hu,RcNeAt.list_str _ _ hl1 hu⟩
   | list c2 =>
    obtain ⟨p1,vs1,rfl,fz1,w1⟩:=o1.lst0
    cases r1
    obtain ⟨its1,rv1,pl1,_⟩:=I.list fz1.sq
    have hl1:=pl1.isList
    obtain ⟨p2,vs2,rfl,fz2,w2⟩:=o2.lst0
    cases r2
    obtain ⟨its2,rv2,pl2,_⟩:=I.list fz2.sq
    have hl2:=pl2.isList
    have dl:a5 c1≤n:=by simp only [aI] at hdp; omega
    have nd1:aD c1=true:=by simpa [ao] using hna
    have nd2:aD c2=true:=by simpa [ao] using hnb
    have el:=na (A:=A.in1) w1 w2 rv1 rv2 fun j a b x y v u e1 e2 q1 q2 q3 q4=>(ih a b A.in1 x y v u (Nat.le_trans (dS e1) dl) (dz nd1 e1) (dz nd2 e2) q1 q2 q3 q4 hu1).1
    have l1:=rv1.length
    have l2:=rv2.length
    have m1:=w1.len
    have m2:=w2.len
    have rc:RcAt A s (.ref p1) (.ref p2) (cN c1 c2)∧RcNeAt A s (.ref p1) (.ref p2) (!cN c1 c2):=by
     by_cases hz:c1.length=c2.length
     ·have hs1:its1.toArray.size=its2.toArray.size:=by rw [List.size_toArray,List.size_toArray]; omega
      have hs2:its1.toArray.size=c1.length:=by rw [List.size_toArray]; omega
      have z1:=RcAt.lists hl1 hl2 hs1 hu el
      have z2:=RcNeAt.lists hl1 hl2 hs1 hu el
      rw [hs2,j6 hz] at z1 z2
      exact ⟨z1,z2⟩
     ·have hs1:(its1.toArray.size != its2.toArray.size)=true:=by rw [List.size_toArray,List.size_toArray,bne_iff_ne]; omega
      rw [j5 hz]
      exact ⟨RcAt.lists_lengths hl1 hl2 hs1 hu,RcNeAt.lists_lengths hl1 hl2 hs1 hu⟩
    have pe:peq (.list c1) (.list c2)=cN c1 c2:=by simp only [peq]
    refine ⟨?_,by rw [pe]; exact rc.1,by rw [pe]; exact rc.2⟩
    by_cases hp:p1=p2
    ·subst hp
     have:=Ow.inj I _ _ o1 o2 hna
     cases this
     rw [io _ hna]
     exact EqAt.same _
    ·rw [pe]
     exact EqAt.of_refs hp rc.1
   | tuple c2 =>
    obtain ⟨p1,vs1,rfl,fz1,w1⟩:=o1.lst0
    cases r1
    obtain ⟨its1,rv1,pl1,_⟩:=I.list fz1.sq
    have hl1:=pl1.isList
    obtain ⟨p2,vs2,rfl,fz2,w2⟩:=o2.tup0
    cases r2
    obtain ⟨its2,rv2,pl2,_⟩:=I.tuple fz2.sq
    have hl2:s.heap.IsTuple p2 its2.toArray:=pl2
    exact ⟨EqAt.list_tuple hl1 hl2 hu,RcAt.list_tuple hl1 hl2 hu,RcNeAt.list_tuple hl1 hl2 hu⟩
   | dict c2=>simp [ao] at hnb
  | tuple c1 =>
   cases b with
   | none =>
    obtain ⟨p1,vs1,rfl,fz1,w1⟩:=o1.tup0
    cases r1
    obtain ⟨its1,rv1,pl1,_⟩:=I.tuple fz1.sq
    have hl1:s.heap.IsTuple p1 its1.toArray:=pl1
    cases (show y=V.non from o2)
    cases r2
    exact ⟨EqAt.tuple_none  hl1 hu,RcAt.tuple_none  hl1 hu,RcNeAt.tuple_none  hl1 hu⟩
   | bool c2 =>
    obtain ⟨p1,vs1,rfl,fz1,w1⟩:=o1.tup0
    cases r1
    obtain ⟨its1,rv1,pl1,_⟩:=I.tuple fz1.sq
    have hl1:s.heap.IsTuple p1 its1.toArray:=pl1
    cases (show y=V.bl c2 from o2)
    cases r2
    exact ⟨EqAt.tuple_bool _ hl1 hu,RcAt.tuple_bool _ hl1 hu,RcNeAt.tuple_bool _ hl1 hu⟩
   | int c2 =>
    obtain ⟨p1,vs1,rfl,fz1,w1⟩:=o1.tup0
    cases r1
    obtain ⟨its1,rv1,pl1,_⟩:=I.tuple fz1.sq
    have hl1:s.heap.IsTuple p1 its1.toArray:=pl1
    cases (show y=V.int c2 from o2)
    obtain ⟨tk2,rfl⟩:=r2
    exact ⟨EqAt.tuple_int _ _ hl1 hu,RcAt.tuple_int _ _ hl1 hu,RcNeAt.tuple_int _ _ hl1 hu⟩
   | str c2 =>
    obtain ⟨p1,vs1,rfl,fz1,w1⟩:=o1.tup0
    cases r1
    obtain ⟨its1,rv1,pl1,_⟩:=I.tuple fz1.sq
    have hl1:s.heap.IsTuple p1 its1.toArray:=pl1
    cases (show y=V.str c2 from o2)
    obtain ⟨tk2,rfl⟩:=r2
    exact ⟨EqAt.tuple_str _ _ hl1 hu,RcAt.tuple_str _ _ hl1 hu,RcNeAt.tuple_str _ _ hl1 hu⟩
   | list c2 =>
    obtain ⟨p1,vs1,rfl,fz1,w1⟩:=o1.tup0
    cases r1
    obtain ⟨its1,rv1,pl1,_⟩:=I.tuple fz1.sq
    have hl1:s.heap.IsTuple p1 its1.toArray:=pl1
    obtain ⟨p2,vs2,rfl,fz2,w2⟩:=o2.lst0
    cases r2
    obtain ⟨its2,rv2,pl2,_⟩:=I.list fz2.sq
    have hl2:=pl2.isList
    exact ⟨EqAt.tuple_list hl1 hl2 hu,RcAt.tuple_list hl1 hl2 hu,RcNeAt.tuple_list hl1 hl2 hu⟩
   | tuple c2 =>
    obtain ⟨p1,vs1,rfl,fz1,w1⟩:=o1.tup0
    cases r1
    obtain ⟨its1,rv1,pl1,_⟩:=I.tuple fz1.sq
    have hl1:s.heap.IsTuple p1 its1.toArray:=pl1
    obtain ⟨p2,vs2,rfl,fz2,w2⟩:=o2.tup0
    cases r2
    obtain ⟨its2,rv2,pl2,_⟩:=I.tuple fz2.sq
    have hl2:s.heap.IsTuple p2 its2.toArray:=pl2
    have dl:a5 c1≤n:=by simp only [aI] at hdp; omega
    have nd1:aD c1=true:=by simpa [ao] using hna
    have nd2:aD c2=true:=by simpa [ao] using hnb
    have el:=na (A:=A.in1) w1 w2 rv1 rv2 fun j a b x y v u e1 e2 q1 q2 q3 q4=>(ih a b A.in1 x y v u (Nat.le_trans (dS e1) dl) (dz nd1 e1) (dz nd2 e2) q1 q2 q3 q4 hu1).1
    have l1:=rv1.length
    have l2:=rv2.length
    have m1:=w1.len
    have m2:=w2.len
    have rc:RcAt A s (.ref p1) (.ref p2) (cN c1 c2)∧RcNeAt A s (.ref p1) (.ref p2) (!cN c1 c2):=by
     have z1:=RcAt.tuples hl1 hl2 hu el
     have z2:=RcNeAt.tuples hl1 hl2 hu el
     have ez:((List.range (min its1.toArray.size its2.toArray.size)).all (eAt c1 c2) && its1.toArray.size == its2.toArray.size)=cN c1 c2:=by
      rw [List.size_toArray,List.size_toArray]
      by_cases hz:c1.length=c2.length
      ·have h3:its1.length=its2.length:=by omega
       have h4:min its1.length its2.length=c1.length:=by omega
       rw [h4,j6 hz,h3,beq_self_eq_true,Bool.and_true]
      ·have h3:(its1.length == its2.length)=false:=by rw [beq_eq_false_iff_ne]; omega
       rw [h3,Bool.and_false,j5 hz]
     rw [ez] at z1 z2
     exact ⟨z1,z2⟩
    have pe:peq (.tuple c1) (.tuple c2)=cN c1 c2:=by simp only [peq]
    refine ⟨?_,by rw [pe]; exact rc.1,by rw [pe]; exact rc.2⟩
    by_cases hp:p1=p2
    ·subst hp
     have:=Ow.inj I _ _ o1 o2 hna
     cases this
     rw [io _ hna]
     exact EqAt.same _
    ·rw [pe]
     exact EqAt.of_refs hp rc.1
   | dict c2=>simp [ao] at hnb
  | dict c1=>simp [ao] at hna
end
def eqD (a b:D):Option D:=grd (ao a=true∧ao b=true∧aI a≤60) (.bool (peq a b))
def neD (a b:D):Option D:=grd (ao a=true∧ao b=true∧aI a≤60) (.bool (!peq a b))
section
variable {X:Cx} {K:PySem.W.Frag}
theorem df (hK:X.K=K) (hu:X.A.units+64 < cLine):OpR X (compareOp .Eq) (rF2 K eqD 3):=by
 subst hK
 intro pins s σ H x y v u Q I rx ry ⟨O,a,b,t,oa,ob,hd,hg,k⟩
 obtain ⟨⟨c1,c2,c3⟩,rfl⟩:=bn hg
 exact (kK I 60 a b X.A x y v u c3 c1 c2 oa ob rx ry (by omega)).2.1 X.prog X.w _ _ ⟨.bl _,H,I,rfl,k _ H NoA .refl rfl⟩
theorem pP (hK:X.K=K) (hu:X.A.units+64 < cLine):OpR X (compareOp .NotEq) (rF2 K neD 3):=by
 subst hK
 intro pins s σ H x y v u Q I rx ry ⟨O,a,b,t,oa,ob,hd,hg,k⟩
 obtain ⟨⟨c1,c2,c3⟩,rfl⟩:=bn hg
 exact (kK I 60 a b X.A x y v u c3 c1 c2 oa ob rx ry (by omega)).2.2 X.prog X.w _ _ ⟨.bl _,H,I,rfl,k _ H NoA .refl rfl⟩
end
end L2
namespace L2
open PySem PySem.Spec PyProof.Rows
theorem zz {K:PySem.W.Frag} {dps:List Nat} {dr n:Nat} {F:List D→Option (D × En)} {vs:List V} {H:Hp} {Q:VK} {E:XK} (hn:dps.length=n) (h:spF K dps dr F vs H Q E):vs.length=n:=by
 obtain ⟨Ox,ts,R,r,outs,e,_⟩:=h
 have:=e.l2
 rw [List.length_map] at this
 omega
section
variable {X:Cx} {K:PySem.W.Frag} {p:Bool} {J:Jd} {ds ds0 ds1 ds2 ds3 ds':List Nat} {d d' d1 d2 d3:Nat} {a b c e:Expr} {st:Stmt} {f f1 f2 f3:ME} {m:MS} {pos p2:Pos}
theorem Al (h:PS X st (tFS K J ds ds2 m)) (hd:leD ds1 ds2=true):PS X st (tFS K J ds ds1 m):=h.imp fun _ _ _=>qW hd
def cT (g g':D→D→Option D) (f1 f2 f3:ME):ME:=fun en=>(f1 en).bind fun r=>(f2 r.2).bind fun q=>(g r.1 q.1).bind fun t=>match t with
 | .bool true=>(f3 q.2).bind fun z=>(g' q.1 z.1).map fun t=>(t,z.2)
 | .bool false=>some (.bool false,q.2)
 | _=>none
theorem oH {g g':D→D→Option D} {σ:St} {H:Hp} {Q:VK} (h:tF K p ds ds1 3 (cT g g' f1 f2 f3) σ H Q) :
  mL (rF2 K g 3) (rF2 K g' 3) (tF K p ds ds0 d1 f1) (tF K p ds0 ds1 d2 f2) (tF K p ds1 ds1 d3 f3) σ H Q:=by
 obtain ⟨Ox,en,R,t,en',e,hf,k⟩:=h
 unfold cT at hf
 obtain ⟨⟨t1,en1⟩,h1,hf⟩:=Option.bind_eq_some_iff.mp hf
 obtain ⟨⟨t2,en2⟩,h2,hf⟩:=Option.bind_eq_some_iff.mp hf
 obtain ⟨tb,h3,hf⟩:=Option.bind_eq_some_iff.mp hf
 refine two (p1:=p) (p2:=p) e h1 h2 fun x y H2 R2 F1 F2 P o1 o2=>?_
 rw [Bool.and_self] at P
 have oy:=Ow.letgo P (fun _=>.inr) o2
 refine ⟨Own R2 Ox,t1,t2,tb,Ow.letgo P (fun _=>.inl) o1,oy,P.doms,h3,fun v3 H3 F3 n3 o3=>?_⟩
 have P3:=P.fin n3
 cases tb with
 | bool bb =>
  refine ⟨bb,o3,?_⟩
  cases bb with
  | false =>
   cases hf
   exact k _ H3 R2 NoA (P3.less fun _ z=>z.elim) rfl
  | true =>
   obtain ⟨⟨t4,en4⟩,h4,hf⟩:=Option.bind_eq_some_iff.mp hf
   obtain ⟨t5,h5,hf⟩:=Option.map_eq_some_iff.mp hf
   cases hf
   have P30:=P3.less (F':=NoA) fun _ z=>z.elim
   refine ⟨Ox,en2,R2,t4,en4,P30.env0,h4,fun v4 H4 R4 F4 P4 o4=>?_⟩
   have P34:=P30.after P4
   rw [Bool.and_self] at P34
   have oy3:Ow K (Own R2 Ox) H3 t2 0 y NoA:=Ow.mv (G:=NoA) ⟨fun a o q _=>n3.1 a o q,fun a z=>.inl z⟩ t2 (fun _ z=>z) oy
   have oy4:Ow K (Own R4 Ox) H4 t2 0 y NoA:=by
    refine Ow.mv (G:=NoA) ⟨fun a o q z=>P4.keep a o q fun i zi=>?_,fun a z=>?_⟩ t2 (fun _ z=>z) oy3
    ·rcases z with z | z
     ·exact z (.inl ⟨i,zi⟩)
     ·exact z
    ·rcases z with z | z
     ·exact (P4.own a (.inr z)).imp .inl id
     ·exact .inl (.inr z)
   exact ⟨Own R4 Ox,t2,t4,_,oy4,Ow.letgo P4 (fun _ z=>z) o4,P4.doms,h5,fun v5 H5 F5 n5 o5=>k v5 H5 R4 F5 (P34.fin n5) (jN ▸ o5)⟩
 | _=>cases hf
theorem tz {op op':CmpOp} {g g':D→D→Option D} (ho:OpR X (compareOp op) (rF2 K g 3)) (ho':OpR X (compareOp op') (rF2 K g' 3)) (ha:PE X a (tF K p ds ds0 d1 f1)) (hb:PE X b (tF K p ds0 ds1 d2 f2)) (hc:PE X c (tF K p ds1 ds1 d3 f3))
  (hm:lastMarks [op,op'] [b,c]=false):PE X (.Compare a [op,op'] [b,c] pos) (tF K p ds ds1 3 (cT g g' f1 f2 f3)):=(so ho ho' ha hb hc hm).imp fun _ _ _=>oH
theorem sS {op op':CmpOp} {g g':D→D→Option D} (ho:OpR X (compareOp op) (rF2 K g 3)) (ho':OpR X (compareOp op') (rF2 K g' 3)) (ha:PE X a (tF K p ds ds0 d1 f1)) (hb:PE X b (tF K p ds0 ds1 d2 f2)) (hc:PE X c (tF K p ds1 ds1 d3 f3))
  (hm:lastMarks [op,op'] [b,c]=false):PT X (.Compare a [op,op'] [b,c] pos) (tFT K p ds ds1 (tV (cT g g' f1 f2 f3))) :=
 (sg ho ho' ha hb hc hm).imp fun σ H Q h=>by
  obtain ⟨Ox,en,R,t,en',e,hf,k⟩:=ni (d:=3) h
  exact oH ⟨Ox,en,R,t,en',e,hf,k⟩
abbrev MO:=En→Option (Option Int × En)
def tFO (K:PySem.W.Frag) (p:Bool) (ds ds':List Nat) (f:MO):TO:=fun σ H Q=>∃ Ox en R o en',EnvOk K ds Ox H σ en R∧f en=some (o,en')∧∀ H' R',Post K p ds' Ox σ H en R en' H' R' NoA→Q o H'
def bO:MO:=fun en=>some (none,en)
def bA (f:ME):MO:=fun en=>(f en).bind fun r=>match r.1 with
 | .int i=>some (some i,r.2)
 | _=>none
theorem PO.imp {X:Cx} {e:Option Expr} {t t':TO} (h:PO X e t) (hi:∀ σ H Q,t' σ H Q→t σ H Q):PO X e t':=fun pins s σ H Q I hw=>h pins s σ H Q I (hi _ _ _ hw)
theorem As:PO X none (tFO K p ds ds bO):=po_none.imp fun σ H Q ⟨Ox,en,R,o,en',e,hf,k⟩=>by
 cases hf
 exact k H R (Post.refl e)
theorem Ar (h:PE X e (tF K p ds ds1 d f)):PO X (some e) (tFO K p ds ds1 (bA f)):=(zI h).imp fun σ H Q ⟨Ox,en,R,o,en',e,hf,k⟩=>by
 unfold bA at hf
 obtain ⟨⟨t1,en1⟩,h1,hf⟩:=Option.bind_eq_some_iff.mp hf
 refine ⟨Ox,en,R,t1,en1,e,h1,fun v H' R' F P o=>?_⟩
 cases t1 with
 | int i=>cases hf; exact ⟨i,o,k H' R' (P.less fun _ z=>z.elim)⟩
 | _=>cases hf
def rFs (K:PySem.W.Frag) (g:D→Option Int→Option Int→Option D) (d:Nat):V→Option Int→Option Int→Hp→VK→Prop:=fun x lo hi H Q=>∃ (O:AS) (a t:D),Ow K O H a 0 x NoA∧(∀ a,O a→∃ o,H a=some o)∧g a lo hi=some t∧∀ v H' F,NewTo H H' F→Ow K (U F O) H' t d v F→Q v H'
def eSl (g:D→Option Int→Option Int→Option D) (f:ME) (lo hi:MO):ME:=fun en=>(f en).bind fun r=>(lo r.2).bind fun l=>(hi l.2).bind fun h=>(g r.1 l.1 h.1).map fun t=>(t,h.2)
variable {lo hi:MO}
theorem Ow.past0 {H1 H2:Hp} {R1 R2:Nat→AS} {Ox:AS} {σ:St} {en1 en2:En} {F2:AS} {t:D} {v:V} (P2:Post K p ds2 Ox σ H1 en1 R1 en2 H2 R2 F2) (h:Ow K (Own R1 Ox) H1 t 0 v NoA):Ow K (Own R2 Ox) H2 t 0 v NoA:=by
 refine Ow.mv (G:=NoA) ⟨fun a o q z=>P2.keep a o q fun i zi=>?_,fun a z=>?_⟩ t (fun _ z=>z) h
 ·rcases z with z | z
  ·exact z (.inl ⟨i,zi⟩)
  ·exact z
 ·rcases z with z | z
  ·exact (P2.own a (.inr z)).imp .inl id
  ·exact .inl (.inr z)
theorem FA {g:D→Option Int→Option Int→Option D} {σ:St} {H:Hp} {Q:VK} (h:tF K p ds ds3 d (eSl g f lo hi) σ H Q):tSl (rFs K g d) (tF K p ds ds1 d1 f) (tFO K p ds1 ds2 lo) (tFO K p ds2 ds3 hi) σ H Q:=by
 obtain ⟨Ox,en,R,t,en',e,hf,k⟩:=h
 unfold eSl at hf
 obtain ⟨⟨t1,en1⟩,h1,hf⟩:=Option.bind_eq_some_iff.mp hf
 obtain ⟨⟨l,en2⟩,h2,hf⟩:=Option.bind_eq_some_iff.mp hf
 obtain ⟨⟨u,en3⟩,h3,hf⟩:=Option.bind_eq_some_iff.mp hf
 obtain ⟨t',h4,hf⟩:=Option.map_eq_some_iff.mp hf
 cases hf
 refine ⟨Ox,en,R,t1,en1,e,h1,fun v H1 R1 F1 P1 o1=>?_⟩
 have o0:=Ow.letgo P1 (fun _ z=>z) o1
 refine ⟨Ox,en1,R1,l,en2,P1.env0,h2,fun H2 R2 P2=>?_⟩
 refine ⟨Ox,en2,R2,u,en3,P2.env0,h3,fun H3 R3 P3=>?_⟩
 have P:=(P1.after P2).after P3
 rw [Bool.and_self,Bool.and_self] at P
 exact ⟨Own R3 Ox,t1,t,(o0.past0 P2).past0 P3,P3.doms,h4,fun v4 H4 F4 n4 o4=>k v4 H4 R3 F4 (P.fin n4) (jN ▸ o4)⟩
theorem SlR.imp {r r':V→Option Int→Option Int→Hp→VK→Prop} (h:SlR X r) (hi:∀ x lo hi H Q,r' x lo hi H Q→r x lo hi H Q):SlR X r':=fun pins s σ H x v vl vu lo hi' sl Q I rx hs pl pu q=>h pins s σ H x v vl vu lo hi' sl Q I rx hs pl pu (hi _ _ _ _ _ q)
theorem tm {g:D→Option Int→Option Int→Option D} {elo ehi:Option Expr} (hr:SlR X (rFs K g d)) (he:PE X e (tF K p ds ds1 d1 f)) (hl:PO X elo (tFO K p ds1 ds2 lo)) (hu:PO X ehi (tFO K p ds2 ds3 hi)):PE X (.Subscript e (.Slice elo ehi none p2) pos) (tF K p ds ds3 d (eSl g f lo hi)) :=
 (sn hr he hl hu).imp fun _ _ _=>FA
def bt {α:Type} (xs:List α) (lo hi:Option Int):List α:=(xs.drop (HT.sIx xs.length 0 lo)).take (HT.sIx xs.length xs.length hi - HT.sIx xs.length 0 lo)
def F7:D→Option Int→Option Int→Option D
 | .list ts,lo,hi=>some (.list (bt ts lo hi))
 | _,_,_=>none
def gL:D→Option Int→Option Int→Option D
 | .str z,lo,hi=>grd (z.length≤sizeLine) (.str ⟨(cI z.cps.toList lo hi).toArray⟩)
 | _,_,_=>none
theorem eX:SlR X (rFs K gL 3):=sl_str.imp fun x lo hi H Q ⟨O,a,t,oa,hd,hg,k⟩=>by
 cases a with
 | str z =>
  obtain ⟨c,rfl⟩:=bn hg
  exact ⟨z,oa,c,k _ H NoA .refl rfl⟩
 | _=>cases hg
end
end L2
namespace L2
open PySem PySem.Spec PyProof.Rows
def kEq:D→D→Bool
 | .int a,.int b=>a == b
 | .str a,.str b=>a == b
 | _,_=>false
def kOf:D→Option Key
 | .int i=>some (.inl i)
 | .str x=>some (.inr x)
 | _=>none
def zr (ks:List (D × D)) (q:D):Option D:=(ks.find? fun kv=>kEq kv.1 q).map (·.2)
def FC (ks:List (D × D)) (q t:D):List (D × D):=if ks.any (fun kv=>kEq kv.1 q) then ks.map (fun kv=>if kEq kv.1 q then (kv.1,t) else kv) else ks++[(q,t)]
section
variable {K:PySem.W.Frag} {O:AS} {H:Hp} {d:Nat}
end
def iI:ME:=eC (.dict [])
def Gh:D→D→Option D
 | .dict ks,q=>(kOf q).bind fun _=>zr ks q
 | _,_=>none
section
variable {X:Cx} {K:PySem.W.Frag} {p:Bool} {J:Jd} {ds ds0 ds1 ds2 ds':List Nat} {d d' d1 d2:Nat} {a b c e o k:Expr} {f f1 f2 fk fe:ME} {pos px spos:Pos} {i:Nat} {σ:St} {H:Hp} {Q:VK} {Dn:Ends}
theorem AC:PE X (.Dict [] [] pos) (tF K p ds ds 3 iI):=pe_dnewK.imp fun σ H Q ⟨Ox,en,R,t,en',e,hf,k⟩=>by
 cases hf
 intro l hl
 have n:NewTo H (upd H l (.dK [])) (fun b=>b=l):=bP hl
 exact k (.ref l) _ R _ (Post.new e n.1 n.2) ⟨l,[],rfl,.inr ⟨by decide,a6,rfl,NoA,fun _ z=>z.elim,rfl⟩⟩
def FQ (i:Nat) (f:ME):ME:=fun en=>(en[i]?).join.bind fun _=>(f en).bind fun r=>match (r.2[i]?).join with
 | some (.dict ks)=>(kOf r.1).bind fun _=>(zr ks r.1).map fun t=>(t,r.2)
 | _=>none
end
end L2
namespace L2
open PySem PySem.Spec PyProof.Rows
def evP:List (ME × ME)→En→Option (List (D × D) × En)
 | [],en=>some ([],en)
 | (fk,fv) :: r,en=>(fk en).bind fun x=>(fv x.2).bind fun y=>(evP r y.2).bind fun z=>(kOf x.1).map fun _=>((x.1,y.1) :: z.1,z.2)
def Dl (ks:List (D × D)):List (D × D):=ks.foldl (fun acc kv=>FC acc kv.1 kv.2) []
def Fj (fs:List (ME × ME)):ME:=fun en=>(evP fs en).bind fun r=>if r.1.length≤15 then some (.dict (Dl r.1),r.2) else none
section
variable {X:Cx} {K:PySem.W.Frag} {p:Bool} {J:Jd} {ds ds0 ds1 ds2 ds':List Nat} {d d' d1 d2:Nat} {a b c e o k:Expr} {es:List Expr} {f f1 f2 fk fe:ME} {fa:MA} {sh:Sh} {pos px spos:Pos} {i j:Nat} {σ:St} {H:Hp} {Q:VK} {Dn:Ends}
def F8 (i j:Nat) (fa:MA):MS:=fun en=>(fa en).bind fun r=>match r.1 with
 | [.inl a,.inl b]=>some (.nx ((r.2.set i (some a)).set j (some b)))
 | _=>none
end
section
variable {X:Cx} {K:PySem.W.Frag}
end
end L2
namespace L2
open PySem PySem.Spec PyProof.Rows
section
variable {X:Cx} {K:PySem.W.Frag} {O:AS} {H:Hp} {ts us:List D} {vs ws:List V} {x y:V} {d:Nat} {Q:VK}
def EC (K:PySem.W.Frag):List V→Hp→VK→Prop:=fun xs H Q=>∃ (p:Addr) (ns:List Int),xs=[.ref p]∧SqL K H p (ns.map V.int)∧Q (.int ns.sum) H
theorem rF (hc:X.calm=true):CallR X (.builtin "sum") (EC X.K):=by
 intro pins s σ H xs us Q I r h
 obtain ⟨p,ns,rfl,hp,q⟩:=h
 obtain ⟨u,rfl,ru⟩:=cX r
 cases ru
 obtain ⟨its,rv,pl,hz⟩:=I.list hp
 have hl:its.length=ns.length:=by rw [← rv.length,List.length_map]
 have hlt:p < s.heap.objs.size:=by
  obtain ⟨o,n,e,_⟩:=id pl
  exact Heap.lt_size e
 have hsz:its.toArray.size=ns.length:=by rw [List.size_toArray,hl]
 refine call_sum_walkAnyS (wpAny_pyIter_list pl.isList ?_)
 refine ⟨s.heap.objs.size,[s.heap.objs.size,p],[s.heap.objs.size],_,its.toArray.size,fun i v=>its.toArray[i]?=some v,_,fun i=>ns.getD i 0,rfl,(Walks.list (A:=X.A.in1) (show X.A.in1.handled=none from I.ok.hd hc) s.heap.objs.size p (Nat.ne_of_lt hlt) its.toArray).toS,?_,?_,?_,?_⟩
 ·exact ⟨⟨_,Heap.get?_push_size _ rfl,rfl,rfl⟩,pl.isList.push _⟩
 ·intro b hb
  show b < (s.heap.push _).objs.size
  rw [Heap.size_push]
  have hb':b=s.heap.objs.size∨b=p:=by simpa using hb
  rcases hb' with rfl | rfl
  ·exact Nat.lt_succ_self _
  ·exact Nat.lt_succ_of_lt hlt
 ·intro i v hv
  have hv':its[i]?=some v:=by simpa using hv
  have hi:i < ns.length:=by
   rw [← hl]
   exact (List.getElem?_eq_some_iff.mp hv').1
  obtain ⟨u,hu,ru⟩:=rv.get (i:=i) (x:=V.int ns[i]) (by rw [List.getElem?_map,List.getElem?_eq_getElem hi]; rfl)
  rw [hu] at hv'
  cases hv'
  obtain ⟨t,rfl⟩:=ru
  refine ⟨t,?_⟩
  show Value.int ns[i] t=Value.int (ns.getD i 0) t
  rw [List.getD_eq_getElem?_getD,List.getElem?_eq_getElem hi]
  rfl
 ·intro s' t' hm
  have e:preSum (fun i=>ns.getD i 0) its.toArray.size=ns.sum:=by
   rw [hsz,jS ns ns.length (Nat.le_refl _),List.take_length]
  rw [e]
  obtain ⟨hh,g,dr,tk,os'⟩:=s'
  have e1:dr=s.drawn:=hm.drawn
  have e2:os'=s.os:=hm.os
  have e3:g=s.gens:=hm.gens
  subst e1 e2 e3
  refine ⟨.int ns.sum,H,I.kept (t':=tk) fun b o z=>hm.heap b o ?_ (Heap.get?_push_of_some _ z),⟨_,rfl⟩,q⟩
  intro z'
  have z'':b=s.heap.objs.size:=by simpa using z'
  exact Nat.ne_of_lt (Heap.lt_size z) z''
def dA:List D→Option (List Int)
 | []=>some []
 | .int i :: r=>(dA r).map (i :: ·)
 | _ :: _=>none
theorem iq:∀ {ts:List D} {vs:List V} {bs:List Int},Ows K O H ts 0 vs NoA→dA ts=some bs→vs=bs.map V.int
 | [],_,_,h,hb=>by cases hb; exact h
 | .int b :: r,_,_,h,hb=>by
  obtain ⟨v,w,F1,F2,e,_,_,_,h4,h5⟩:=h
  obtain ⟨bs',h6,h7⟩:=Option.map_eq_some_iff.mp hb
  subst e h7
  rw [show v=.int b from h4,iq (Ows.any0 r h5) h6]
  rfl
 | .none :: _,_,_,_,hb=>by cases hb
 | .bool _ :: _,_,_,_,hb=>by cases hb
 | .str _ :: _,_,_,_,hb=>by cases hb
 | .list _ :: _,_,_,_,hb=>by cases hb
 | .tuple _ :: _,_,_,_,hb=>by cases hb
 | .dict _ :: _,_,_,_,hb=>by cases hb
def la:List D→Option D
 | [.list ts]=>(dA ts).map fun ns=>.int ns.sum
 | _=>none
theorem DW (hK:X.K=K) (hc:X.calm=true):CallR X (.builtin "sum") (rFn K la 3):=by
 subst hK
 refine (rF hc).imp fun xs H Q ⟨O,as,t,oa,hd,hg,k⟩=>?_
 match as,hg with
 | [.list ts],hg =>
  obtain ⟨ns,h1,rfl⟩:=Option.map_eq_some_iff.mp hg
  obtain ⟨v,rfl,o⟩:=oa.one
  obtain ⟨a,vs,rfl,fz,w⟩:=o.lst0
  have e:=iq w h1
  subst e
  exact ⟨a,ns,rfl,fz.sq,k _ H NoA .refl rfl⟩
end
end L2
namespace L2
open PySem PySem.Spec PyProof.Rows
section
variable {X:Cx} {K:PySem.W.Frag} {p:Bool} {ds ds1:List Nat} {O:AS} {H:Hp} {σ:St} {d:Nat} {f:ME} {i:Nat} {e:Expr} {Q:VK}
end
end L2
namespace L2
open PySem PySem.Spec PyProof.Rows
section
variable {X:Cx} {K:PySem.W.Frag} {p:Bool} {ds ds1:List Nat} {d:Nat} {fa:MA} {sh:Sh} {O O1:AS} {H0 H:Hp} {ts us:List D} {vs ws:List V} {a b:Addr}
def AU (ts us:List D):List D:=List.zipWith (fun x y=>.tuple [x,y]) ts us
def FX (fa:MA):MI:=fun en=>(fa en).bind fun r=>match r.1 with
 | [.inl (.list ts),.inl (.list us)]=>some (AU ts us,r.2)
 | _=>none
end
end L2
namespace L2
open PySem PySem.Spec PyProof.Rows
section
variable {X:Cx} {K:PySem.W.Frag} {p:Bool} {ds ds1:List Nat} {d1:Nat} {e:Expr} {f:ME}
end
end L2
namespace L2
open PySem PySem.Spec PyProof.Rows
section
variable {X:Cx} {K:PySem.W.Frag} {p p1 p2:Bool} {ds ds1 ds2:List Nat} {d d1:Nat} {e:Expr} {f:ME} {fa:MA} {sh:Sh} {σ:St} {H:Hp} {Q:VK}
def eM (g:Str→List D→Option D) (f:ME) (fa:MA):ME:=fun en=>(f en).bind fun r=>match r.1 with
 | .str z=>(fa r.2).bind fun q=>(vals q.1).bind fun ts=>(g z ts).map fun t=>(t,q.2)
 | _=>none
structure MtF (K:PySem.W.Frag) (r:V→List V→Hp→VK→Prop) (g:Str→List D→Option D):Prop where
 h:∀ {O:AS} {H:Hp} {z:Str} {ts:List D} {xs:List V} {t:D} {Q:VK},Ows K O H ts 0 xs NoA→g z ts=some t→(∀ v,Ow K O H t 3 v NoA→Q v H)→r (.str z) xs H Q
theorem Ek {r:V→List V→Hp→VK→Prop} {g:Str→List D→Option D} (hr:MtF K r g) (hs:b8 0 sh=true) (h:tF K (p1 && p2) ds ds2 3 (eM g f fa) σ H Q):tBM K "str" r (tF K p1 ds ds1 d1 f) (tFA K p2 ds1 ds2 sh fa) σ H Q:=by
 obtain ⟨Ox,en,R,t,en',e,hf,k⟩:=h
 unfold eM at hf
 obtain ⟨⟨t1,en1⟩,h1,hf⟩:=Option.bind_eq_some_iff.mp hf
 dsimp only at hf
 split at hf
 case h_2=>cases hf
 next z =>
 obtain ⟨⟨as,en2⟩,h2,hf⟩:=Option.bind_eq_some_iff.mp hf
 obtain ⟨ts,h3,hf⟩:=Option.bind_eq_some_iff.mp hf
 obtain ⟨t',h4,hf⟩:=Option.map_eq_some_iff.mp hf
 cases hf
 refine ⟨Ox,en,R,.str z,en1,e,h1,fun x H1 R1 F1 P1 o1=>?_⟩
 have ex:x=.str z:=o1
 subst ex
 refine ⟨rfl,Ox,en1,R1,as,en2,P1.env0,h2,fun vs H2 R2 F P2 o=>?_⟩
 have P:=P1.after P2
 obtain ⟨F',s1,s2⟩:=OwA.ows hs h3 o
 have o2:Ows K (Own R2 Ox) H2 ts 0 vs F':=s2 _ (fun a z=>z.imp id .inr) fun a z z2=>by
  rcases z2 with ⟨i,z2⟩ | z2
  ·exact absurd (.inl z) (P.env.dx i a z2)
  ·exact absurd z2 (P.fx a z)
 refine hr.h (Ows.any0 ts o2) h4 fun v ov=>k v H2 R2 NoA (P.less fun _ z=>z.elim) ?_
 rw [dO]
 exact ov
def joinD:Str→List D→Option D
 | sep,[.list ts]=>(strsOf ts).bind fun ys=>if sep.length≤16∧(ys.map (·.length)).sum+ys.length≤1048576 then some (.str (Txt.join sep ys)) else none
 | sep,[.tuple ts]=>(strsOf ts).bind fun ys=>if sep.length≤16∧(ys.map (·.length)).sum+ys.length≤1048576 then some (.str (Txt.join sep ys)) else none
 | _,_=>none
where strsOf:List D→Option (List Str)
 | []=>some []
 | .str z :: r=>(strsOf r).map (z :: ·)
 | _ :: _=>none
theorem ip {O:AS}:∀ {ts:List D} {ys:List Str} {xs:List V},joinD.strsOf ts=some ys→Ows K O H ts 0 xs NoA→xs=ys.map V.str
 | [],ys,xs,h,o=>by
  cases h
  exact o
 | t :: ts,ys,xs,h,o=>by
  obtain ⟨v,r,F1,F2,e,_,_,_,h4,h5⟩:=o
  cases t with
  | str z =>
   obtain ⟨ys',h6,rfl⟩:=Option.map_eq_some_iff.mp h
   have e4:v=.str z:=h4
   rw [e,e4,ip h6 (Ows.any0 ts h5)]
   rfl
  | _=>cases h
theorem eH:MtF K (yV K) joinD where
 h:=fun {O H z ts xs t Q} o hg q=>by
  unfold joinD at hg
  split at hg
  ·next us =>
   obtain ⟨ys,h1,h2⟩:=Option.bind_eq_some_iff.mp hg
   by_cases hc:z.length≤16∧(ys.map (·.length)).sum+ys.length≤1048576
   case neg=>rw [if_neg hc] at h2; cases h2
   rw [if_pos hc] at h2
   cases h2
   obtain ⟨v,r,F1,F2,e,_,_,_,h4,h5⟩:=o
   have e5:r=[]:=h5
   subst e5 e
   obtain ⟨a,vs,rfl,fz,w⟩:=(Ow.any0 _ h4).lst0
   have e6:=ip h1 w
   subst e6
   exact ⟨z,ys,a,rfl,rfl,.inl fz.sq,hc.1,hc.2,q _ rfl⟩
  ·next us =>
   obtain ⟨ys,h1,h2⟩:=Option.bind_eq_some_iff.mp hg
   by_cases hc:z.length≤16∧(ys.map (·.length)).sum+ys.length≤1048576
   case neg=>rw [if_neg hc] at h2; cases h2
   rw [if_pos hc] at h2
   cases h2
   obtain ⟨v,r,F1,F2,e,_,_,_,h4,h5⟩:=o
   have e5:r=[]:=h5
   subst e5 e
   obtain ⟨a,vs,rfl,fz,w⟩:=(Ow.any0 _ h4).tup0
   have e6:=ip h1 w
   subst e6
   exact ⟨z,ys,a,rfl,rfl,.inr fz.sq,hc.1,hc.2,q _ rfl⟩
  ·cases hg
def fJ:Str→List D→Option D
 | z,[.str y]=>some (.bool (Txt.startswith z y))
 | _,_=>none
def FZ:Str→List D→Option D
 | z,[.str y]=>some (.bool (Txt.endswith z y))
 | _,_=>none
theorem sr {O:AS} {y:Str} {xs:List V} (o:Ows K O H [.str y] 0 xs NoA):xs=[.str y]:=by
 obtain ⟨v,r,F1,F2,e,_,_,_,h4,h5⟩:=o
 have e4:v=.str y:=h4
 have e5:r=[]:=h5
 rw [e,e4,e5]
theorem jn:MtF K og fJ where
 h:=fun {O H z ts xs t Q} o hg q=>by
  unfold fJ at hg
  split at hg
  ·next y =>
   cases hg
   exact ⟨z,y,rfl,sr o,q _ rfl⟩
  ·cases hg
theorem AB {o:Expr} {es:List Expr} {name:Str} {id:String} {apos cpos:Pos} {r:V→List V→Hp→VK→Prop} {g:Str→List D→Option D} (hK:X.K=K) (slot:Slot "str" name id) (hty:typeOf (.builtin id)=pure (.type "method_descriptor")) (hm:MtR X id r) (hr:MtF K r g) (ho:PE X o (tF K p ds ds1 d1 f)) (ha:PA X (e :: es) (tFA K p ds1 ds2 sh fa))
  (hsh:b8 0 sh=true) (hbase:attributeBase o name X.env (eval o X.env)=eval o X.env)
  (hfew:((backTo cpos (starEach (e :: es) X.env)).all (fun x=>!x.1) && (backToKw cpos (keywordEach [] X.env)).all (fun x=>x.1.isSome)
   && decide ((e :: es).length+([]:List Keyword).length+(if ([]:List Keyword).isEmpty then 0 else 1) < 30))=true)
  (hline:(apos.endLine == cpos.line)=true) (hs:starEach (e :: es) X.env=(false,eval e X.env) :: starEach es X.env) (hplain:(backTo cpos (starEach es X.env)).any (·.1)=false) :
  PE X (.Call (.Attribute o name apos) (e :: es) [] cpos) (tF K p ds ds2 3 (eM g f fa)):=by
 subst hK
 exact (yZ PySem.F.plainAttrs_str slot hty hm ho ha hbase hfew hline hs hplain).imp fun _ _ _ h=>Ek hr hsh (by rw [Bool.and_self]; exact h)
end
end L2
namespace L2
open PySem PySem.Spec PyProof.Rows
section
variable {X:Cx} {K:PySem.W.Frag} {pins:List (Addr × Obj)} {σ:St} {H:Hp} {s:Shared} {O:AS}
mutual
theorem Ow.reads (I:Inv X pins σ H s):∀ (t:D) {v:V} {u:Value},ao t=true→Ow X.K O H t 0 v NoA→RelV v u→∃ as,Reads s.heap u t as
 | .none,_,_,_,h,r=>by
  cases (show _=V.non from h)
  cases r
  exact ⟨_,.none⟩
 | .bool b,_,_,_,h,r=>by
  cases (show _=V.bl b from h)
  cases r
  exact ⟨_,.bool _⟩
 | .int i,_,_,_,h,r=>by
  cases (show _=V.int i from h)
  obtain ⟨t,rfl⟩:=r
  exact ⟨_,.int _ _⟩
 | .str x,_,_,_,h,r=>by
  cases (show _=V.str x from h)
  obtain ⟨t,rfl⟩:=r
  exact ⟨_,.str _ _⟩
 | .list ts,_,_,hn,h,r=>by
  obtain ⟨p,vs,rfl,fz,w⟩:=h.lst0
  cases r
  obtain ⟨its,rv,⟨o,n,e1,e2,_,e3⟩,_⟩:=I.list fz.sq
  obtain ⟨as,ra⟩:=Ows.reads I ts (by simpa [ao] using hn) w rv
  exact ⟨_,.list e1 e2 e3 (by simpa using ra)⟩
 | .tuple ts,_,_,hn,h,r=>by
  obtain ⟨p,vs,rfl,fz,w⟩:=h.tup0
  cases r
  obtain ⟨its,rv,⟨o,e1,e2,n,e3⟩,_⟩:=I.tuple fz.sq
  obtain ⟨as,ra⟩:=Ows.reads I ts (by simpa [ao] using hn) w rv
  exact ⟨_,.tuple e1 e2 e3 (by simpa using ra)⟩
 | .dict _,_,_,hn,_,_=>by simp [ao] at hn
theorem Ows.reads (I:Inv X pins σ H s):∀ (ts:List D) {vs:List V} {us:List Value},aD ts=true→Ows X.K O H ts 0 vs NoA→Vals vs us→∃ as,ReadsAll s.heap us ts as
 | [],_,_,_,h,r=>by
  cases (show _=[] from h)
  cases r
  exact ⟨_,.nil⟩
 | t :: ts,_,_,hn,h,r=>by
  obtain ⟨v,q,F1,F2,e,_,_,_,h4,h5⟩:=h
  subst e
  have hn':ao t=true∧aD ts=true:=by simpa [aD] using hn
  cases r with
  | cons ru rr =>
   obtain ⟨as,a1⟩:=Ow.reads I t hn'.1 (Ow.any0 t h4) ru
   obtain ⟨bs,a2⟩:=Ows.reads I ts hn'.2 (Ows.any0 ts h5) rr
   exact ⟨_,.cons a1 a2⟩
end
end
section
open PySem.SeqAt Classical
variable {X:Cx} {K:PySem.W.Frag} {pins:List (Addr × Obj)} {σ:St} {H:Hp} {s:Shared} {O:AS}
noncomputable def eqF (X:Cx) (O:AS) (H:Hp) (a:D) (u:Value):Bool:=decide (∃ d v,RelV v u∧ao d=true∧Ow X.K O H d 0 v NoA∧peq d a=true)
theorem nq (I:Inv X pins σ H s) {a d:D} {v:V} {u:Value} (r:RelV v u) (hn:ao d=true) (o:Ow X.K O H d 0 v NoA):eqF X O H a u=peq d a:=by
 unfold eqF
 cases h:peq d a with
 | true=>exact decide_eq_true ⟨d,v,r,hn,o,h⟩
 | false =>
  refine decide_eq_false fun ⟨d',v',r',hn',o',h'⟩=>?_
  have e:=r.inj r'
  subst e
  have:=Ow.inj I d d' o o' hn
  subst this
  rw [h] at h'
  cases h'
theorem ib (I:Inv X pins σ H s) {a:D}:∀ {ts:List D} {vs:List V} {us:List Value},aD ts=true→Ows X.K O H ts 0 vs NoA→Vals vs us→us.any (eqF X O H a)=ts.any fun t=>peq t a
 | [],_,_,_,h,r=>by
  cases (show _=[] from h)
  cases r
  rfl
 | t :: ts,_,_,hn,h,r=>by
  obtain ⟨v,q,F1,F2,e,_,_,_,h4,h5⟩:=h
  subst e
  have hn':ao t=true∧aD ts=true:=by simpa [aD] using hn
  cases r with
  | cons ru rr=>rw [List.any_cons,List.any_cons,nq I ru hn'.1 (Ow.any0 t h4),ib I hn'.2 (Ows.any0 ts h5) rr]
theorem fK (I:Inv X pins σ H s) {A:Around} {a:D} {x:V} {v:Value} (hna:ao a=true) (oa:Ow X.K O H a 0 x NoA) (ra:RelV x v) (hu:A.units+60+1 < cLine):∀ {ts:List D} {vs:List V} {us:List Value},aD ts=true→a5 ts≤60→Ows X.K O H ts 0 vs NoA→Vals vs us→∀ u∈us,EqAt A s u v (eqF X O H a u)
 | [],_,_,_,_,h,r=>by
  cases (show _=[] from h)
  cases r
  exact fun u hu=>by cases hu
 | t :: ts,_,_,hn,hdp,h,r=>by
  obtain ⟨w,q,F1,F2,e,_,_,_,h4,h5⟩:=h
  subst e
  have hn':ao t=true∧aD ts=true:=by simpa [aD] using hn
  have hd':aI t≤60∧a5 ts≤60:=by simp only [a5] at hdp; omega
  cases r with
  | cons ru rr =>
   intro u' hu'
   rcases List.mem_cons.mp hu' with rfl | hu'
   ·rw [nq I ru hn'.1 (Ow.any0 t h4)]
    exact (kK I 60 t a A w x _ v hd'.1 hn'.1 hna (Ow.any0 t h4) oa ru ra hu).1
   ·exact fK I hna oa ra hu hn'.2 hd'.2 (Ows.any0 ts h5) rr u' hu'
def inL:D→D→Option D
 | x,.list ts=>grd (ao x=true∧aD ts=true∧a5 ts≤60) (.bool (ts.any fun t=>peq t x))
 | x,.tuple ts=>grd (ao x=true∧aD ts=true∧a5 ts≤60) (.bool (ts.any fun t=>peq t x))
 | _,_=>none
def mV:D→D→Option D
 | x,.list ts=>grd (ao x=true∧aD ts=true∧a5 ts≤60) (.bool (!ts.any fun t=>peq t x))
 | x,.tuple ts=>grd (ao x=true∧aD ts=true∧a5 ts≤60) (.bool (!ts.any fun t=>peq t x))
 | _,_=>none
theorem FY (hK:X.K=K) (hu:X.A.units+64 < cLine):OpR X (compareOp .In) (rF2 K inL 3):=by
 subst hK
 intro pins s σ H x y v u Q I rx ry ⟨O,a,b,t,oa,ob,hd,hg,k⟩
 have hu1:X.A.in1.units+60+1 < cLine:=by show X.A.units+1+60+1 < cLine; omega
 cases b with
 | list ts =>
  obtain ⟨⟨c1,c2,c3⟩,rfl⟩:=bn hg
  obtain ⟨p,vs,rfl,fz,w⟩:=ob.lst0
  cases ry
  obtain ⟨its,r,pl,hz⟩:=I.list fz.sq
  refine SeqAt.in_listAt (eqF X O H a) pl.isList (fun z hz=>fK I c1 oa rx hu1 c2 c3 w r z (by simpa using hz)) ⟨.bl _,H,I,rfl,?_⟩
  rw [show its.toArray.any (eqF X O H a)=its.any (eqF X O H a) by simp,ib I c2 w r]
  exact k _ H NoA .refl rfl
 | tuple ts =>
  obtain ⟨⟨c1,c2,c3⟩,rfl⟩:=bn hg
  obtain ⟨p,vs,rfl,fz,w⟩:=ob.tup0
  cases ry
  obtain ⟨its,r,pl,hz⟩:=I.tuple fz.sq
  refine SeqAt.in_tupleAt (eqF X O H a) pl (fun z hz=>fK I c1 oa rx hu1 c2 c3 w r z (by simpa using hz)) ⟨.bl _,H,I,rfl,?_⟩
  rw [show its.toArray.any (eqF X O H a)=its.any (eqF X O H a) by simp,ib I c2 w r]
  exact k _ H NoA .refl rfl
 | _=>cases hg
theorem sY (hK:X.K=K) (hu:X.A.units+64 < cLine):OpR X (compareOp .NotIn) (rF2 K mV 3):=by
 subst hK
 intro pins s σ H x y v u Q I rx ry ⟨O,a,b,t,oa,ob,hd,hg,k⟩
 have hu1:X.A.in1.units+60+1 < cLine:=by show X.A.units+1+60+1 < cLine; omega
 cases b with
 | list ts =>
  obtain ⟨⟨c1,c2,c3⟩,rfl⟩:=bn hg
  obtain ⟨p,vs,rfl,fz,w⟩:=ob.lst0
  cases ry
  obtain ⟨its,r,pl,hz⟩:=I.list fz.sq
  refine SeqAt.notIn_listAt (eqF X O H a) pl.isList (fun z hz=>fK I c1 oa rx hu1 c2 c3 w r z (by simpa using hz)) ⟨.bl _,H,I,rfl,?_⟩
  rw [show its.toArray.any (eqF X O H a)=its.any (eqF X O H a) by simp,ib I c2 w r]
  exact k _ H NoA .refl rfl
 | tuple ts =>
  obtain ⟨⟨c1,c2,c3⟩,rfl⟩:=bn hg
  obtain ⟨p,vs,rfl,fz,w⟩:=ob.tup0
  cases ry
  obtain ⟨its,r,pl,hz⟩:=I.tuple fz.sq
  refine SeqAt.notIn_tupleAt (eqF X O H a) pl (fun z hz=>fK I c1 oa rx hu1 c2 c3 w r z (by simpa using hz)) ⟨.bl _,H,I,rfl,?_⟩
  rw [show its.toArray.any (eqF X O H a)=its.any (eqF X O H a) by simp,ib I c2 w r]
  exact k _ H NoA .refl rfl
 | _=>cases hg
end
end L2
namespace L2
open PySem PySem.Spec PyProof.Rows
section
variable {K:PySem.W.Frag} {O:AS} {H:Hp}
end
abbrev MP:=En→Option (List Nat × En)
section
variable {X:Cx} {K:PySem.W.Frag} {p p1 p2:Bool} {J:Jd} {ds ds1 ds2:List Nat} {H:Hp} {σ:St} {d d1 d2 i m:Nat} {f fk fe:ME} {mp:MP} {e b o:Expr} {Q:VK}
end
end L2
namespace L2
open PySem PySem.Spec PyProof.Rows
end L2
namespace L2
open PySem PySem.Spec PyProof.Rows
def bw (f:Nat→Str):Nat→List Str
 | 0=>[]
 | i+1=>if (bw f i).any (· == f i)=true then bw f i else bw f i++[f i]
theorem gq (f:Nat→Str) (i:Nat):bw f (i+1)=if (bw f i).any (· == f i)=true then bw f i else bw f i++[f i]:=rfl
theorem jI (f:Nat→Str):∀ i,(bw f i).length≤i
 | 0=>Nat.le_refl _
 | i+1=>by
  have h:=jI f i
  rw [gq]
  by_cases q:(bw f i).any (· == f i)=true
  ·rw [if_pos q]; omega
  ·rw [if_neg q,List.length_append]; show _+1≤_; omega
theorem sx (f:Nat→Str) (i:Nat) (x:Str):(bw f (i+1)).any (· == x)=((bw f i).any (· == x) || decide (x=f i)):=by
 rw [gq]
 by_cases q:(bw f i).any (· == f i)=true
 ·rw [if_pos q]
  by_cases e:x=f i
  ·rw [e,q,decide_eq_true rfl]; rfl
  ·rw [decide_eq_false e,Bool.or_false]
 ·rw [if_neg q,List.any_append]
  congr 1
  by_cases e:x=f i
  ·rw [e,decide_eq_true rfl]; simp
  ·rw [decide_eq_false e]
   simp only [List.any_cons,List.any_nil,Bool.or_false,beq_eq_false_iff_ne]
   exact fun z=>e z.symm
theorem mX (f:Nat→Str) (i:Nat):(bw f (i+1)).length=if (bw f i).any (· == f i) then (bw f i).length else (bw f i).length+1:=by
 rw [gq]
 by_cases q:(bw f i).any (· == f i)=true
 ·rw [if_pos q,if_pos q]
 ·rw [if_neg q,if_neg q,List.length_append]; rfl
abbrev SetS (P:Program) (w:World) (h:Heap) (a:Addr) (f:Nat→Str) (n:Nat):Prop:=h.SetOf (strKind P w) a (fun k=>(bw f n).any (· == k)) (bw f n).length
section
variable {P:Program} {w:World} {A:Around} {R:Result→Shared→Prop} {I:Addr} {fp wr:List Addr} {G:Array GenState→Array GenState→Prop} {n:Nat} {Pi:Nat→Value→Prop} {St:Nat→Shared→Prop}
theorem SetS.mv {h h':Heap} {a:Addr} {f:Nat→Str} {n:Nat} (x:SetS P w h a f n) (k:∀ o,h.get? a=some o→h'.get? a=some o):SetS P w h' a f n:=by
 obtain ⟨o,es,ep,t,e,r⟩:=x
 exact ⟨o,es,ep,t,k o e,r⟩
theorem sd (W:WalksS P w A.in1 I fp wr G n Pi St) (a:Addr) (ha:a ∉ fp) (f:Nat→Str) (hf:∀ i v,Pi i v→∃ t,v=.str (f i) t) (hb:n+1 < scanBound) :
  ∀ (k i:Nat) (s:Shared),n - i=k→i≤n→St i s→SetS P w s.heap a f i →
   (∀ s',Moved (a :: wr) G s s'→SetS P w s'.heap a f n→R (.ok (.ret .none)) s')→codeAny (model P w) A (.builtin "set.update.loop" ⟨[.ref a,.ref I],[]⟩) R s:=by
 have hw:a ∉ wr:=fun h=>ha (W.sub _ h)
 intro k
 induction k with
 | zero =>
  intro i s hk hi st hS q
  obtain rfl:i=n:=by omega
  refine codeAny_builtin PyProof.Rows.F.entry_set_update_loop ?_
  rw [Around.under_plainId PyProof.Rows.F.plain_set_update_loop _]
  show wpAny _ _ (pyNext (.ref I) >>= _) _ _ s
  exact wpAny_bind (W.done s _ _ st fun s1 m=>wpAny_pure (q s1 (m.mono fun b h=>List.mem_cons_of_mem _ h) (hS.mv fun o e=>m.heap a o hw e)))
 | succ k ih =>
  intro i s hk hi st hS q
  have lt:i < n:=by omega
  refine codeAny_builtin PyProof.Rows.F.entry_set_update_loop ?_
  rw [Around.under_plainId PyProof.Rows.F.plain_set_update_loop _]
  show wpAny _ _ (pyNext (.ref I) >>= _) _ _ s
  refine wpAny_bind (W.item i s _ _ lt st fun v s1 hv st1 m=>?_)
  obtain ⟨t,rfl⟩:=hf i v hv
  have h1:SetS P w s1.heap a f i:=hS.mv fun o e=>m.heap a o hw e
  show wpAny _ _ (holding [Value.str (f i) t] (setAdd a (.str (f i) t)) >>= _) _ _ s1
  refine wpAny_bind (wpAny_holding ?_)
  unfold setAdd
  refine wpAny_holding (wpAny_bind ((strKind P w).pyHash (k:=f i) (strKind_is P w (f i) t) ?_))
  have le:=jI f i
  refine wpAny_setAddHashed_of (knd:=strKind P w) (s:={ s1 with toks:=s1.toks+1 }) (strKind_is P w (f i) t) rfl h1 (by omega) fun h2 sb h3=>?_
  have h4:SetS P w h2 a f (i+1):=SetOf_congr h3 (fun x=>(sx f i x).symm) (mX f i).symm
  refine wpAny_pure ⟨plainId_quiet PyProof.Rows.F.plain_set_update_loop _,ih (i+1) _ (by omega) lt (W.frame _ s1 _ _ st1 (Nat.le_succ _) fun b hb o e=>?_) h4 fun s3 m3 h5=>?_⟩
  ·rw [sb.2 b fun z=>ha (z ▸ hb)]; exact e
  ·refine q s3 (Moved.trans W.gtrans ((m.mono fun b h=>List.mem_cons_of_mem _ h).then_heap (Nat.le_succ _) fun b o hb e=>?_) m3) h5
   rw [sb.2 b fun z=>hb (z ▸ List.mem_cons_self)]; exact e
end
section
variable {P:Program} {w:World} {A:Around} {E:Value→Shared→Prop} {s:Shared}
def EA (z:Str) (i:Nat):Str:=match z.cps[i]? with
 | some c=>mk1 c
 | none=>""
abbrev fB (led:Bool):Obj:={ cls:=.type "set",dict:=none,data:=.set #[] 0 (.fresh 0 0 led) }
end
end L2
namespace L2
open PySem PySem.Spec PyProof.Rows
section
variable {X:Cx} {K:PySem.W.Frag} {p p1 p2:Bool} {ds ds1 ds2:List Nat} {d d1 d2:Nat} {e k:Expr} {f f1 f2:ME} {fa:MA} {sh:Sh} {σ:St} {H:Hp} {Q Q':VK} {pos pos2 px py:Pos}
theorem mK (h:∀ v H,Q v H→Q' v H):tF K p ds ds1 d f σ H Q→tF K p ds ds1 d f σ H Q'
 | ⟨Ox,en,R,t,en',e,hf,k⟩=>⟨Ox,en,R,t,en',e,hf,fun v H' R' F P o=>h _ _ (k v H' R' F P o)⟩
def FN:D→Option D
 | .str z=>grd (z.length < 4000) (.int (bw (EA z) z.length).length)
 | _=>none
def Ga:D→D→Option D
 | .list ts,.int (-1)=>some (.list ts.reverse)
 | _,_=>none
def FT:D→D→Option D
 | .tuple ts,.int (-1)=>some (.tuple ts.reverse)
 | _,_=>none
def FU:D→D→Option D
 | .str z,.int (-1)=>grd (z.length≤sizeLine) (.str ⟨z.cps.toList.reverse.toArray⟩)
 | _,_=>none
def FO (fa:MA):MI:=fun en=>(fa en).bind fun r=>match r.1 with
 | [.inl (.str x),.inl (.str y)]=>some (AU (dE x) (dE y),r.2)
 | _=>none
def isB:D→D→Option D
 | .bool a,.bool b=>some (.bool (a == b))
 | _,_=>none
end
end L2
namespace L2
open PySem PySem.Spec PyProof.Rows
section
variable {X:Cx} {K:PySem.W.Frag} {pins:List (Addr × Obj)} {σ:St} {H:Hp} {s:Shared} {O:AS}
end
end L2
namespace L2
open PySem PySem.Spec PyProof.Rows
section
variable {X:Cx} {K:PySem.W.Frag} {p p1 p2:Bool} {ds ds1 ds2:List Nat} {d d1 d2:Nat} {a b:Expr} {f f1 f2:ME} {σ:St} {H:Hp} {Q Q':VK} {pos:Pos} {ta tb:TE} {rest:List Expr}
def FD:D→Option Int→Option Int→Option D
 | .tuple ts,lo,hi=>grd (¬ (HT.sIx ts.length 0 lo=0∧HT.sIx ts.length ts.length hi=ts.length)) (.tuple (bt ts lo hi))
 | _,_,_=>none
theorem D0 (hK:X.K=K):SlR X (rFs K FD 0):=(Fw hK).imp fun x lo hi H Q ⟨O,a,t,oa,hd,hg,k⟩=>by
 cases a with
 | tuple ts =>
  obtain ⟨c,rfl⟩:=bn hg
  obtain ⟨a,vs,e1,f1,w1⟩:=oa.tup0
  refine ⟨a,vs,e1,f1.sq,by rw [w1.len]; exact c,fun p hp=>?_⟩
  have w2:Ows K O H (bt ts lo hi) 0 (ju vs lo hi) NoA:=by
   unfold bt ju
   rw [w1.len]
   exact (w1.drop _).take _
  exact k _ _ _ (eD hp hd w2).1 (eD hp hd w2).2
 | _=>cases hg
def Fo:D→Option Bool
 | .none=>some false
 | .bool b=>some b
 | .list ts=>some (!ts.isEmpty)
 | .tuple ts=>some (!ts.isEmpty)
 | _=>none
def Gf (f g:ME):ME:=fun en=>(f en).bind fun r=>(Fo r.1).bind fun c=>if c then some r else g r.2
end
end L2
namespace L2
open PySem PySem.Spec PyProof.Rows
section
variable {X:Cx} {K:PySem.W.Frag} {p p1 p2:Bool} {ds ds1 ds2:List Nat} {d d1 d2:Nat} {a b:Expr} {f f1 f2:ME} {σ:St} {H:Hp} {Q Q':VK} {pos:Pos}
theorem Eb (hK:X.K=K) (ha:PE X a (tF K p ds ds1 d f1)) (hb:PE X b (tF K p ds1 ds2 d2 f2)) (hs:eP b) (hz:d≠0):PE X (.Subscript a b pos) (tF K p ds ds2 (dn d) (e2 ixA f1 f2)):=by
 subst hK
 refine (pc ix_seq ha hb hs).imp fun σ H Q h=>?_
 obtain ⟨Ox,en,R,t,en',e,hf,k⟩:=h
 unfold e2 at hf
 obtain ⟨⟨t1,en1⟩,h1,hf⟩:=Option.bind_eq_some_iff.mp hf
 obtain ⟨⟨t2,en2⟩,h2,hf⟩:=Option.bind_eq_some_iff.mp hf
 obtain ⟨t',h3,hf⟩:=Option.map_eq_some_iff.mp hf
 cases hf
 have go:tFA X.K (p && (p && true)) ds ds2 [.inl d,.inl d2] (ad f1 (ad f2 ah)) σ H (fun vs H2=>∃ x y,vs=[x,y]∧((∃ (a:Addr) (us:List V) (n:Int) (v:V),x=.ref a∧y=.int n∧(SqL X.K H2 a us∨SqT X.K H2 a us)∧atI us n=some v∧Q v H2)∨(∃ (z:Str) (n:Int) (c:Nat),x=.str z∧y=.int n∧z.length≤sizeLine∧atI z.cps.toList n=some c∧Q (.str (mk1 c)) H2))):=by
  refine ⟨Ox,en,R,[.inl t1,.inl t2],en2,e,?_,fun vs H1 R1 F P o=>?_⟩
  ·unfold ad ah
   rw [h1]
   show Option.map _ ((f2 en1).bind _)=_
   rw [h2]
   rfl
  ·obtain ⟨x,r,d',dr,F1,F2,e1,e2',s1,s2,_,o1,y,r2,d2',dr2,G1,G2,e3,e4,s3,_,_,o2,o3⟩:=o
   obtain ⟨_,o3⟩:=o3
   cases e2'
   subst e1 e3 o3
   cases e4
   refine ⟨x,y,rfl,?_⟩
   have P':Post X.K p ds2 Ox σ H en R en2 H1 R1 F:=by
    rw [Bool.and_true,Bool.and_self] at P
    exact P
   cases t2 with
   | int n =>
    cases (show y=V.int n from o2)
    cases t1 with
    | list ts =>
     obtain ⟨a,vs,rfl,⟨z,_⟩ | ⟨_,g1,g2,G,hg,g3⟩⟩:=o1
     ·exact absurd z hz
     ·have h3':atI ts n=some t:=h3
      unfold atI at h3'
      obtain ⟨j,hj,hj2⟩:=Option.bind_eq_some_iff.mp h3'
      obtain ⟨v,hv,ov⟩:=g3.get hj2
      refine .inl ⟨a,vs,n,v,rfl,rfl,.inl (.inl (.inl g1)),?_,?_⟩
      ·unfold atI
       rw [g3.len,hj]
       exact hv
      ·have sub:∀ b,G b→F b:=fun b hb=>s1 b (hg b hb).1
       exact k v H1 R1 G (P'.less sub) (Ow.grow (fun b hb=>hb.imp id fun hb=>hb.imp (sub b) id) _ (fun _ z=>z) ov)
    | tuple ts =>
     obtain ⟨a,vs,rfl,⟨z,_⟩ | ⟨_,g1,g2,G,hg,g3⟩⟩:=o1
     ·exact absurd z hz
     ·have h3':atI ts n=some t:=h3
      unfold atI at h3'
      obtain ⟨j,hj,hj2⟩:=Option.bind_eq_some_iff.mp h3'
      obtain ⟨v,hv,ov⟩:=g3.get hj2
      refine .inl ⟨a,vs,n,v,rfl,rfl,.inr (.inl (.inl g1)),?_,?_⟩
      ·unfold atI
       rw [g3.len,hj]
       exact hv
      ·have sub:∀ b,G b→F b:=fun b hb=>s1 b (hg b hb).1
       exact k v H1 R1 G (P'.less sub) (Ow.grow (fun b hb=>hb.imp id fun hb=>hb.imp (sub b) id) _ (fun _ z=>z) ov)
    | str z =>
     dsimp only [ixA] at h3
     by_cases hl:z.length≤sizeLine
     ·rw [if_pos hl] at h3
      obtain ⟨c,h5,h6⟩:=Option.map_eq_some_iff.mp h3
      cases h6
      exact .inr ⟨z,n,c,o1,rfl,hl,h5,k _ H1 R1 NoA (P'.less fun _ z=>z.elim) rfl⟩
     ·rw [if_neg hl] at h3; cases h3
    | _=>cases h3
   | _=>cases t1 <;> cases h3
 have go2:=lE (ds1:=ds1) (p1:=p) (p2:=p && true) go
 refine mK (fun x H1 q1=>?_) go2
 have q2:=lE (ds1:=ds2) (p1:=p) (p2:=true) q1
 refine mK (fun y H2 q3=>?_) q2
 obtain ⟨x',y',ee,q⟩:=rp q3
 cases ee
 rcases q with ⟨a,us,n,v,rfl,rfl,hs | hs,hv,q⟩ | ⟨z,n,c,rfl,rfl,hl,hv,q⟩
 ·exact .inl ⟨a,us,n,v,rfl,rfl,hs,hv,q⟩
 ·exact .inr (.inl ⟨a,us,n,v,rfl,rfl,hs,hv,q⟩)
 ·exact .inr (.inr ⟨z,n,c,rfl,rfl,hl,hv,q⟩)
end
end L2
namespace L2
open PySem PySem.Spec PyProof.Rows PySem.SeqAt PySem.MeetsSeq
theorem nw (l:Addr) (es:Array DictEntry) (n:Nat) (dd:Option Addr) (sl:Array (Option Value)) (b:Bool) :
  Meets (Builtin.«dict.__eq__» ⟨[.ref l,.bool b],[]⟩) (fun _ R s=>s.heap.get? l=some { cls:=.type "dict",dict:=dd,data:=.dict es n,slots:=sl }∧R (.ok (.ret .notImplemented)) s) :=
 .of_wp fun prog w A R s h=>by
  obtain ⟨hp,g,d,tk,os⟩:=s
  obtain ⟨hl,h⟩:=h
  have f1:=F.sub_bool_dict
  unfold Builtin.«dict.__eq__»
  wp_walk using wpAny_loadPart' hl
  exact ⟨_,rfl,h⟩
theorem nu (l:Addr) (es:Array DictEntry) (n:Nat) (dd:Option Addr) (sl:Array (Option Value)) (b:Bool) :
  Meets (Builtin.«dict.__ne__» ⟨[.ref l,.bool b],[]⟩) (fun _ R s=>s.heap.get? l=some { cls:=.type "dict",dict:=dd,data:=.dict es n,slots:=sl }∧R (.ok (.ret .notImplemented)) s) :=
 .of_wp fun prog w A R s h=>by
  obtain ⟨hp,g,d,tk,os⟩:=s
  obtain ⟨hl,h⟩:=h
  have f1:=F.sub_bool_dict
  unfold Builtin.«dict.__ne__»
  wp_walk using wpAny_loadPart' hl
  exact ⟨_,rfl,h⟩
theorem nE (l:Addr) (es:Array DictEntry) (n:Nat) (dd:Option Addr) (sl:Array (Option Value)) (b:Bool) :
  Meets (Builtin.«int.__eq__» ⟨[.bool b,.ref l],[]⟩) (fun _ R s=>s.heap.get? l=some { cls:=.type "dict",dict:=dd,data:=.dict es n,slots:=sl }∧R (.ok (.ret .notImplemented)) s) :=
 .of_wp fun prog w A R s h=>by
  obtain ⟨hp,g,d,tk,os⟩:=s
  obtain ⟨hl,h⟩:=h
  wp_walk using wpAny_loadPart' hl,wpAny_load hl
  exact ⟨_,rfl,h⟩
theorem nC (l:Addr) (es:Array DictEntry) (n:Nat) (dd:Option Addr) (sl:Array (Option Value)) (b:Bool) :
  Meets (Builtin.«int.__ne__» ⟨[.bool b,.ref l],[]⟩) (fun _ R s=>s.heap.get? l=some { cls:=.type "dict",dict:=dd,data:=.dict es n,slots:=sl }∧R (.ok (.ret .notImplemented)) s) :=
 .of_wp fun prog w A R s h=>by
  obtain ⟨hp,g,d,tk,os⟩:=s
  obtain ⟨hl,h⟩:=h
  wp_walk using wpAny_loadPart' hl,wpAny_load hl
  exact ⟨_,rfl,h⟩
theorem iY:isSubtype (.type "dict") (.type "dict")=pure true:=by rw [isSubtype_type]; kernel_rfl
theorem nv (l m:Addr) (n n2:Nat) (dd dd2:Option Addr) (sl sl2:Array (Option Value)) (hl0:(l == sysModules)=false) (hm0:(m == sysModules)=false) :
  Meets (Builtin.«dict.__eq__» ⟨[.ref l,.ref m],[]⟩) (fun _ R s=>s.heap.get? l=some { cls:=.type "dict",dict:=dd,data:=.dict #[] n,slots:=sl }∧s.heap.get? m=some { cls:=.type "dict",dict:=dd2,data:=.dict #[] n2,slots:=sl2 }∧R (.ok (.ret (.bool true))) s) :=
 .of_wp fun prog w A R s h=>by
  obtain ⟨hp,g,d,tk,os⟩:=s
  obtain ⟨hl,hm,h⟩:=h
  have f1:=iY
  unfold Builtin.«dict.__eq__»
  wp_walk using wpAny_loadPart' hl,wpAny_loadPart' hm
  first
   | (with_unfolding_all exact wpAny_pure (wpAny_pure (wpAny_pure ⟨_,rfl,h⟩)))
   | (with_unfolding_all exact wpAny_pure (wpAny_pure ⟨_,rfl,h⟩))
   | (with_unfolding_all exact wpAny_pure ⟨_,rfl,h⟩)
theorem nr (l m:Addr) (n n2:Nat) (dd dd2:Option Addr) (sl sl2:Array (Option Value)) (hl0:(l == sysModules)=false) (hm0:(m == sysModules)=false) :
  Meets (Builtin.«dict.__ne__» ⟨[.ref l,.ref m],[]⟩) (fun _ R s=>s.heap.get? l=some { cls:=.type "dict",dict:=dd,data:=.dict #[] n,slots:=sl }∧s.heap.get? m=some { cls:=.type "dict",dict:=dd2,data:=.dict #[] n2,slots:=sl2 }∧R (.ok (.ret (.bool false))) s) :=
 .of_wp fun prog w A R s h=>by
  obtain ⟨hp,g,d,tk,os⟩:=s
  obtain ⟨hl,hm,h⟩:=h
  have f1:=iY
  unfold Builtin.«dict.__ne__»
  wp_walk using wpAny_loadPart' hl,wpAny_loadPart' hm
  first
   | (with_unfolding_all exact wpAny_pure (wpAny_pure (wpAny_pure ⟨_,rfl,h⟩)))
   | (with_unfolding_all exact wpAny_pure (wpAny_pure ⟨_,rfl,h⟩))
   | (with_unfolding_all exact wpAny_pure ⟨_,rfl,h⟩)
def MtD (s:Shared) (l:Addr):Prop:=(l == sysModules)=false∧∃ n dd sl,s.heap.get? l=some { cls:=.type "dict",dict:=dd,data:=.dict #[] n,slots:=sl }
section
variable {A:Around} {s:Shared}
theorem RcAt.dict_bool {l:Addr} (b:Bool) (h0:MtD s l) (hu:A.units < cLine):RcAt A s (.ref l) (.bool b) false:=fun prog w E Q h=>by
 obtain ⟨h1,n,dd,sl,ho⟩:=h0
 exact rc_eq_decline_or (k:=false) ⟨_,ho,rfl⟩ rfl (by decide) F.sub_bool_dict F.slot_dict_eq F.slot_bool_eq_refl
  (fun _ hq=>call_meets F.slot_dict_eq ⟨_,ho,rfl⟩ F.entry_dict_eq (F.args_dict_eq_2 _ _) (nw l #[] n dd sl b) ⟨ho,hq⟩)
  (fun _ hq=>call_meets F.slot_bool_eq_refl rfl F.entry_int_eq (F.args_int_eq_2 _ _) (nE l #[] n dd sl b) ⟨ho,hq⟩)
  (fun _ hq=>wpAny_of_eq (rfl:isSame (.ref l) (.bool b)=pure false) hq) (.inr hu) h
theorem RcNeAt.dict_bool {l:Addr} (b:Bool) (h0:MtD s l) (hu:A.units < cLine):RcNeAt A s (.ref l) (.bool b) true:=fun prog w E Q h=>by
 obtain ⟨h1,n,dd,sl,ho⟩:=h0
 exact rc_ne_decline_or (k:=false) ⟨_,ho,rfl⟩ rfl (by decide) F.sub_bool_dict F.slot_dict_ne F.slot_bool_ne_refl
  (fun _ hq=>call_meets F.slot_dict_ne ⟨_,ho,rfl⟩ F.entry_dict_ne (F.args_dict_ne_2 _ _) (nu l #[] n dd sl b) ⟨ho,hq⟩)
  (fun _ hq=>call_meets F.slot_bool_ne_refl rfl F.entry_int_ne (F.args_int_ne_2 _ _) (nC l #[] n dd sl b) ⟨ho,hq⟩)
  (fun _ hq=>wpAny_of_eq (rfl:isSame (.ref l) (.bool b)=pure false) hq) (.inr hu) h
theorem EqAt.dict_bool {l:Addr} (b:Bool) (h0:MtD s l) (hu:A.units < cLine):EqAt A s (.ref l) (.bool b) false:=fun prog w E Q h=>by
 unfold eqBool
 refine wpAny_holding ?_
 refine wpAny_ite_split (fun hab=>absurd (eq_of_beq hab) nofun) (fun _=>?_)
 exact wpAny_bind (RcAt.dict_bool b h0 hu prog w E _ (wpAny_truthy_bool h))
theorem RcAt.dict_dict {l m:Addr} (h0:MtD s l) (h1:MtD s m) (hu:A.units < cLine):RcAt A s (.ref l) (.ref m) true:=fun prog w E Q h=>by
 obtain ⟨hl0,n,dd,sl,ho⟩:=h0
 obtain ⟨hm0,n2,dd2,sl2,ho2⟩:=h1
 exact richCompare_meets_room (op:=.Eq) ⟨_,ho,rfl⟩ ⟨_,ho2,rfl⟩ F.slot_dict_eq F.entry_dict_eq (F.args_dict_eq_2 _ _) (nv l m n n2 dd dd2 sl sl2 hl0 hm0)
  ⟨ho,ho2,show Value.bool true≠Value.notImplemented∧Q (.bool true) s from ⟨(fun x=>nomatch x),h⟩⟩ hu
theorem RcNeAt.dict_dict {l m:Addr} (h0:MtD s l) (h1:MtD s m) (hu:A.units < cLine):RcNeAt A s (.ref l) (.ref m) false:=fun prog w E Q h=>by
 obtain ⟨hl0,n,dd,sl,ho⟩:=h0
 obtain ⟨hm0,n2,dd2,sl2,ho2⟩:=h1
 exact richCompare_meets_room (op:=.NotEq) ⟨_,ho,rfl⟩ ⟨_,ho2,rfl⟩ F.slot_dict_ne F.entry_dict_ne (F.args_dict_ne_2 _ _) (nr l m n n2 dd dd2 sl sl2 hl0 hm0)
  ⟨ho,ho2,show Value.bool false≠Value.notImplemented∧Q (.bool false) s from ⟨(fun x=>nomatch x),h⟩⟩ hu
theorem EqAt.dict_dict {l m:Addr} (h0:MtD s l) (h1:MtD s m) (hu:A.units < cLine):EqAt A s (.ref l) (.ref m) true:=by
 by_cases hp:l=m
 ·subst hp; exact EqAt.same _
 ·exact EqAt.of_refs hp (RcAt.dict_dict h0 h1 hu)
end
mutual
def bi:D→D→Option Bool
 | .list a,.list b=>if a.length=b.length then dh a b else some false
 | .tuple a,.tuple b=>if a.length=b.length then dh a b else none
 | .dict [],.dict []=>some true
 | .dict [],.bool _=>some false
 | .none,b=>if ao b=true then some (peq .none b) else none
 | .bool x,b=>if ao b=true then some (peq (.bool x) b) else none
 | .int x,b=>if ao b=true then some (peq (.int x) b) else none
 | .str x,b=>if ao b=true then some (peq (.str x) b) else none
 | .list x,b=>if ao (.list x)=true∧ao b=true then some (peq (.list x) b) else none
 | .tuple x,b=>if ao (.tuple x)=true∧ao b=true then some (peq (.tuple x) b) else none
 | .dict _,_=>none
def dh:List D→List D→Option Bool
 | [],[]=>some true
 | a :: r,b :: s=>match bi a b,dh r s with
  | some x,some y=>some (x && y)
  | _,_=>none
 | _,_=>none
end
theorem gw:∀ {a b:List D} {k:Bool},dh a b=some k→∃ e:Nat→Bool,(∀ j x y,a[j]?=some x→b[j]?=some y→bi x y=some (e j))∧(List.range a.length).all e=k
 | [],[],k,h=>by
  simp only [dh,Option.some.injEq] at h
  subst h
  exact ⟨fun _=>true,fun j x y h1=>by simp at h1,rfl⟩
 | a :: r,b :: s,k,h=>by
  rw [dh] at h
  cases h1:bi a b with
  | none=>rw [h1] at h; cases h
  | some u =>
   cases h2:dh r s with
   | none=>rw [h1,h2] at h; cases h
   | some v =>
    rw [h1,h2] at h
    obtain ⟨e,he,hk⟩:=gw h2
    refine ⟨fun j=>match j with | 0=>u | i+1=>e i,fun j x y g1 g2=>?_,?_⟩
    ·cases j with
     | zero=>simp at g1 g2; subst g1 g2; exact h1
     | succ i=>exact he i x y (by simpa using g1) (by simpa using g2)
    ·rw [List.length_cons,ic]
     show (u && (List.range r.length).all e)=k
     rw [hk]
     exact Option.some.inj h
 | [],_ :: _,_,h=>by simp [dh] at h
 | _ :: _,[],_,h=>by simp [dh] at h
theorem fG {a b:D} {k:Bool} (h:bi a b=some k) :
  (∃ p q,a=.list p∧b=.list q∧((p.length=q.length∧dh p q=some k)∨(p.length≠q.length∧k=false)))∨(∃ p q,a=.tuple p∧b=.tuple q∧p.length=q.length∧dh p q=some k) ∨
  (a=.dict []∧b=.dict []∧k=true)∨(∃ c,a=.dict []∧b=.bool c∧k=false)∨(ao a=true∧ao b=true∧k=peq a b):=by
 have fin:∀ {a b:D},ao a=true→(if ao b=true then some (peq a b) else none)=some k→ao a=true∧ao b=true∧k=peq a b:=fun {a b} h1 h2=>by
  by_cases hb:ao b=true
  ·rw [if_pos hb] at h2; exact ⟨h1,hb,(Option.some.inj h2).symm⟩
  ·rw [if_neg hb] at h2; cases h2
 have fin2:∀ {a b:D},(if ao a=true∧ao b=true then some (peq a b) else none)=some k→ao a=true∧ao b=true∧k=peq a b:=fun {a b} h2=>by
  by_cases hb:ao a=true∧ao b=true
  ·rw [if_pos hb] at h2; exact ⟨hb.1,hb.2,(Option.some.inj h2).symm⟩
  ·rw [if_neg hb] at h2; cases h2
 cases a with
 | none=>exact .inr (.inr (.inr (.inr (fin rfl (by simpa only [bi] using h)))))
 | bool c=>exact .inr (.inr (.inr (.inr (fin rfl (by simpa only [bi] using h)))))
 | int c=>exact .inr (.inr (.inr (.inr (fin rfl (by simpa only [bi] using h)))))
 | str c=>exact .inr (.inr (.inr (.inr (fin rfl (by simpa only [bi] using h)))))
 | list p =>
  cases b with
  | list q =>
   rw [bi] at h
   by_cases hl:p.length=q.length
   ·rw [if_pos hl] at h; exact .inl ⟨p,q,rfl,rfl,.inl ⟨hl,h⟩⟩
   ·rw [if_neg hl] at h; exact .inl ⟨p,q,rfl,rfl,.inr ⟨hl,(Option.some.inj h).symm⟩⟩
  | none=>exact .inr (.inr (.inr (.inr (fin2 (by simpa only [bi] using h)))))
  | bool c=>exact .inr (.inr (.inr (.inr (fin2 (by simpa only [bi] using h)))))
  | int c=>exact .inr (.inr (.inr (.inr (fin2 (by simpa only [bi] using h)))))
  | str c=>exact .inr (.inr (.inr (.inr (fin2 (by simpa only [bi] using h)))))
  | tuple c=>exact .inr (.inr (.inr (.inr (fin2 (by simpa only [bi] using h)))))
  | dict c=>exact .inr (.inr (.inr (.inr (fin2 (by simpa only [bi] using h)))))
 | tuple p =>
  cases b with
  | tuple q =>
   rw [bi] at h
   by_cases hl:p.length=q.length
   ·rw [if_pos hl] at h; exact .inr (.inl ⟨p,q,rfl,rfl,hl,h⟩)
   ·rw [if_neg hl] at h; cases h
  | none=>exact .inr (.inr (.inr (.inr (fin2 (by simpa only [bi] using h)))))
  | bool c=>exact .inr (.inr (.inr (.inr (fin2 (by simpa only [bi] using h)))))
  | int c=>exact .inr (.inr (.inr (.inr (fin2 (by simpa only [bi] using h)))))
  | str c=>exact .inr (.inr (.inr (.inr (fin2 (by simpa only [bi] using h)))))
  | list c=>exact .inr (.inr (.inr (.inr (fin2 (by simpa only [bi] using h)))))
  | dict c=>exact .inr (.inr (.inr (.inr (fin2 (by simpa only [bi] using h)))))
 | dict ks =>
  cases ks with
  | cons x r=>cases b <;> simp [bi] at h
  | nil =>
   cases b with
   | dict qs =>
    cases qs with
    | nil=>exact .inr (.inr (.inl ⟨rfl,rfl,by simpa [bi] using h.symm⟩))
    | cons x r=>simp [bi] at h
   | bool c=>exact .inr (.inr (.inr (.inl ⟨c,rfl,rfl,by simpa [bi] using h.symm⟩)))
   | none=>simp [bi] at h
   | int c=>simp [bi] at h
   | str c=>simp [bi] at h
   | list c=>simp [bi] at h
   | tuple c=>simp [bi] at h
section
variable {X:Cx} {pins:List (Addr × Obj)} {σ:St} {H:Hp} {s:Shared} {O:AS}
theorem mtD (I:Inv X pins σ H s) {x:V} {v:Value} (h:Ow X.K O H (.dict []) 0 x NoA) (r:RelV x v):∃ a,x=.ref a∧v=.ref a∧MtD s a:=by
 obtain ⟨a,vs,rfl,⟨_,ha,_,g2⟩ | ⟨z,_⟩⟩:=h
 ·have e:vs=[]:=g2
  subst e
  cases r
  obtain ⟨_,hsys,us,kv,dd⟩:=zt I.hok ha
  have hv:us=[]:=List.length_eq_zero_iff.mp (KV.length kv).symm
  subst hv
  obtain ⟨⟨cls,dd,data,sl⟩,es,n,g1,g2,g3,_,g5,_⟩:=dd
  have h0:es=#[]:=by
   have h0:es.toList=[]:=by
    generalize es.toList=L at g5
    cases g5
    rfl
   simpa using h0
  have g4:=g2.1
  simp only at g4 g3
  subst h0 g4 g3
  exact ⟨a,rfl,rfl,hsys,n,dd,sl,g1⟩
 ·exact absurd rfl z
theorem AQ {n:Nat} {e:Nat→Bool} (h:∀ j,j < n→e j=true):(List.range n).all e=true:=by
 rw [List.all_eq_true]
 intro j hj
 exact h j (List.mem_range.mp hj)
theorem yT (I:Inv X pins σ H s):∀ (n:Nat) (a b:D) {x:V} {k:Bool},aI a≤n→Ow X.K O H a 0 x NoA→Ow X.K O H b 0 x NoA→bi a b=some k→k=true:=by
 have nd:∀ (a b:D) {x:V} {k:Bool},ao a=true→k=peq a b→Ow X.K O H a 0 x NoA→Ow X.K O H b 0 x NoA→k=true:=fun a b {x k} h1 h2 o1 o2=>by
  rw [h2,← Ow.inj I a b o1 o2 h1,io a h1]
 have db:∀ (c:Bool) {x:V},Ow X.K O H (.dict []) 0 x NoA→Ow X.K O H (.bool c) 0 x NoA→False:=fun c {x} h g=>by
  obtain ⟨a,vs,rfl,_⟩:=h
  cases (show V.ref a=V.bl c from g)
 intro n
 induction n with
 | zero =>
  intro a b x k hd o1 o2 h
  rcases fG h with ⟨p,q,rfl,_⟩ | ⟨p,q,rfl,_⟩ | ⟨_,_,rfl⟩ | ⟨c,rfl,rfl,_⟩ | ⟨h1,_,h2⟩
  ·simp [aI] at hd
  ·simp [aI] at hd
  ·rfl
  ·exact (db c o1 o2).elim
  ·exact nd a b h1 h2 o1 o2
 | succ n ih =>
  have its:∀ (p q:List D) (vs:List V) (k:Bool),a5 p≤n→Ows X.K O H p 0 vs NoA→Ows X.K O H q 0 vs NoA→dh p q=some k→k=true:=fun p q vs k hd w1 w2 hc=>by
   obtain ⟨e,he,hk⟩:=gw hc
   rw [← hk]
   refine AQ fun j hj=>?_
   have m1:=w1.len
   have m2:=w2.len
   have e1:p[j]?=some p[j]:=List.getElem?_eq_getElem hj
   have e2:q[j]?=some (q[j]'(by omega)):=List.getElem?_eq_getElem (by omega)
   obtain ⟨x,g1,q1⟩:=w1.get e1
   obtain ⟨y,g2,q2⟩:=w2.get e2
   rw [g1] at g2
   cases g2
   exact ih _ _ (Nat.le_trans (dS e1) hd) q1 q2 (he j _ _ e1 e2)
  intro a b x k hd o1 o2 h
  rcases fG h with ⟨p,q,rfl,rfl,h1⟩ | ⟨p,q,rfl,rfl,_,h1⟩ | ⟨_,_,rfl⟩ | ⟨c,rfl,rfl,_⟩ | ⟨h1,_,h2⟩
  ·have hd':a5 p≤n:=by simp only [aI] at hd; omega
   obtain ⟨a1,vs,rfl,fz,w1⟩:=o1.lst0
   obtain ⟨a2,vs2,e,fz2,w2⟩:=o2.lst0
   cases e
   have:=I.list_inj fz.sq fz2.sq
   subst this
   rcases h1 with ⟨_,h1⟩ | ⟨h1,_⟩
   ·exact its p q vs k hd' w1 w2 h1
   ·have m1:=w1.len
    have m2:=w2.len
    omega
  ·have hd':a5 p≤n:=by simp only [aI] at hd; omega
   obtain ⟨a1,vs,rfl,fz,w1⟩:=o1.tup0
   obtain ⟨a2,vs2,e,fz2,w2⟩:=o2.tup0
   cases e
   have:=fz.1.symm.trans fz2.1
   cases this
   exact its p q vs k hd' w1 w2 h1
  ·rfl
  ·exact (db c o1 o2).elim
  ·exact nd a b h1 h2 o1 o2
theorem lT {A:Around} {ts us:List D} {vs ws:List V} {its its2:List Value} {e:Nat→Bool} (w:Ows X.K O H ts 0 vs NoA) (w2:Ows X.K O H us 0 ws NoA) (rv:Vals vs its) (rv2:Vals ws its2)
  (ih:∀ (j:Nat) a b x y v u,ts[j]?=some a→us[j]?=some b→Ow X.K O H a 0 x NoA→Ow X.K O H b 0 y NoA→RelV x v→RelV y u→EqAt A s v u (e j)) :
  ∀ j (h1:j < its.toArray.size) (h2:j < its2.toArray.size),EqAt A s its.toArray[j] its2.toArray[j] (e j):=fun j h1 h2=>by
 have h1':j < its.length:=by simpa using h1
 have h2':j < its2.length:=by simpa using h2
 have l1:=rv.length
 have l2:=rv2.length
 have m1:=w.len
 have m2:=w2.len
 have e1:ts[j]?=some ts[j]:=List.getElem?_eq_getElem (by omega)
 have e2:us[j]?=some us[j]:=List.getElem?_eq_getElem (by omega)
 obtain ⟨x,g1,o1⟩:=w.get e1
 obtain ⟨y,g2,o2⟩:=w2.get e2
 obtain ⟨u1,f1,q1⟩:=rv.get g1
 obtain ⟨u2,f2,q2⟩:=rv2.get g2
 have z:=ih j _ _ x y u1 u2 e1 e2 o1 o2 q1 q2
 rw [List.getElem?_eq_getElem h1'] at f1
 rw [List.getElem?_eq_getElem h2'] at f2
 have i1:its.toArray[j]=u1:=by simpa using Option.some.inj f1
 have i2:its2.toArray[j]=u2:=by simpa using Option.some.inj f2
 rw [i1,i2]
 exact z
theorem Es (I:Inv X pins σ H s):∀ (n:Nat) (a b:D) (A:Around) (x y:V) (v u:Value) (k:Bool),aI a≤n→bi a b=some k→Ow X.K O H a 0 x NoA→Ow X.K O H b 0 y NoA→RelV x v→RelV y u→A.units+n+1 < cLine →
  EqAt A s v u k∧RcAt A s v u k∧RcNeAt A s v u (!k):=by
 have dd:∀ (A:Around) (x y:V) (v u:Value),Ow X.K O H (.dict []) 0 x NoA→Ow X.K O H (.dict []) 0 y NoA→RelV x v→RelV y u→A.units < cLine→EqAt A s v u true∧RcAt A s v u true∧RcNeAt A s v u (!true):=fun A x y v u o1 o2 r1 r2 hu=>by
  obtain ⟨a,_,rfl,m1⟩:=mtD I o1 r1
  obtain ⟨b,_,rfl,m2⟩:=mtD I o2 r2
  exact ⟨EqAt.dict_dict m1 m2 hu,RcAt.dict_dict m1 m2 hu,RcNeAt.dict_dict m1 m2 hu⟩
 have db:∀ (c:Bool) (A:Around) (x y:V) (v u:Value),Ow X.K O H (.dict []) 0 x NoA→Ow X.K O H (.bool c) 0 y NoA→RelV x v→RelV y u→A.units < cLine→EqAt A s v u false∧RcAt A s v u false∧RcNeAt A s v u (!false):=fun c A x y v u o1 o2 r1 r2 hu=>by
  obtain ⟨a,_,rfl,m1⟩:=mtD I o1 r1
  cases (show y=V.bl c from o2)
  cases r2
  exact ⟨EqAt.dict_bool c m1 hu,RcAt.dict_bool c m1 hu,RcNeAt.dict_bool c m1 hu⟩
 intro n
 induction n with
 | zero =>
  intro a b A x y v u k hd h o1 o2 r1 r2 hun
  rcases fG h with ⟨p,q,rfl,_⟩ | ⟨p,q,rfl,_⟩ | ⟨rfl,rfl,rfl⟩ | ⟨c,rfl,rfl,rfl⟩ | ⟨h1,h3,h2⟩
  ·simp [aI] at hd
  ·simp [aI] at hd
  ·exact dd A x y v u o1 o2 r1 r2 (by omega)
  ·exact db c A x y v u o1 o2 r1 r2 (by omega)
  ·rw [h2]; exact kK I 0 a b A x y v u hd h1 h3 o1 o2 r1 r2 hun
 | succ n ih =>
  intro a b A x y v u k hd h o1 o2 r1 r2 hun
  have hu:A.units < cLine:=by omega
  have hu1:A.in1.units+n+1 < cLine:=by
   have:A.in1.units=A.units+1:=rfl
   omega
  have h0:=h
  rcases fG h with ⟨p,q,rfl,rfl,h1⟩ | ⟨p,q,rfl,rfl,hz,h1⟩ | ⟨rfl,rfl,rfl⟩ | ⟨c,rfl,rfl,rfl⟩ | ⟨h1,h3,h2⟩
  ·have dl:a5 p≤n:=by simp only [aI] at hd; omega
   obtain ⟨p1,vs1,rfl,fz1,w1⟩:=o1.lst0
   cases r1
   obtain ⟨its1,rv1,pl1,_⟩:=I.list fz1.sq
   have hl1:=pl1.isList
   obtain ⟨p2,vs2,rfl,fz2,w2⟩:=o2.lst0
   cases r2
   obtain ⟨its2,rv2,pl2,_⟩:=I.list fz2.sq
   have hl2:=pl2.isList
   have l1:=rv1.length
   have l2:=rv2.length
   have m1:=w1.len
   have m2:=w2.len
   have rc:RcAt A s (.ref p1) (.ref p2) k∧RcNeAt A s (.ref p1) (.ref p2) (!k):=by
    rcases h1 with ⟨hz,h1⟩ | ⟨hz,rfl⟩
    ·obtain ⟨e,he,hk⟩:=gw h1
     have el:=lT (A:=A.in1) (e:=e) w1 w2 rv1 rv2 fun j a b x y v u e1 e2 q1 q2 q3 q4=>(ih a b A.in1 x y v u (e j) (Nat.le_trans (dS e1) dl) (he j a b e1 e2) q1 q2 q3 q4 hu1).1
     have hs1:its1.toArray.size=its2.toArray.size:=by rw [List.size_toArray,List.size_toArray]; omega
     have hs2:its1.toArray.size=p.length:=by rw [List.size_toArray]; omega
     have z1:=RcAt.lists hl1 hl2 hs1 hu el
     have z2:=RcNeAt.lists hl1 hl2 hs1 hu el
     rw [hs2,hk] at z1 z2
     exact ⟨z1,z2⟩
    ·have hs1:(its1.toArray.size != its2.toArray.size)=true:=by rw [List.size_toArray,List.size_toArray,bne_iff_ne]; omega
     exact ⟨RcAt.lists_lengths hl1 hl2 hs1 hu,RcNeAt.lists_lengths hl1 hl2 hs1 hu⟩
   refine ⟨?_,rc.1,rc.2⟩
   by_cases hp:p1=p2
   ·subst hp
    rw [yT I (n+1) _ _ hd o1 o2 h0]
    exact EqAt.same _
   ·exact EqAt.of_refs hp rc.1
  ·have dl:a5 p≤n:=by simp only [aI] at hd; omega
   obtain ⟨p1,vs1,rfl,fz1,w1⟩:=o1.tup0
   cases r1
   obtain ⟨its1,rv1,pl1,_⟩:=I.tuple fz1.sq
   have hl1:s.heap.IsTuple p1 its1.toArray:=pl1
   obtain ⟨p2,vs2,rfl,fz2,w2⟩:=o2.tup0
   cases r2
   obtain ⟨its2,rv2,pl2,_⟩:=I.tuple fz2.sq
   have hl2:s.heap.IsTuple p2 its2.toArray:=pl2
   have l1:=rv1.length
   have l2:=rv2.length
   have m1:=w1.len
   have m2:=w2.len
   obtain ⟨e,he,hk⟩:=gw h1
   have el:=lT (A:=A.in1) (e:=e) w1 w2 rv1 rv2 fun j a b x y v u e1 e2 q1 q2 q3 q4=>(ih a b A.in1 x y v u (e j) (Nat.le_trans (dS e1) dl) (he j a b e1 e2) q1 q2 q3 q4 hu1).1
   have rc:RcAt A s (.ref p1) (.ref p2) k∧RcNeAt A s (.ref p1) (.ref p2) (!k):=by
    have z1:=RcAt.tuples hl1 hl2 hu el
    have z2:=RcNeAt.tuples hl1 hl2 hu el
    have ez:((List.range (min its1.toArray.size its2.toArray.size)).all e && its1.toArray.size == its2.toArray.size)=k:=by
     rw [List.size_toArray,List.size_toArray]
     have h3:its1.length=its2.length:=by omega
     have h4:min its1.length its2.length=p.length:=by omega
     rw [h4,hk,h3,beq_self_eq_true,Bool.and_true]
    rw [ez] at z1 z2
    exact ⟨z1,z2⟩
   refine ⟨?_,rc.1,rc.2⟩
   by_cases hp:p1=p2
   ·subst hp
    rw [yT I (n+1) _ _ hd o1 o2 h0]
    exact EqAt.same _
   ·exact EqAt.of_refs hp rc.1
  ·exact dd A x y v u o1 o2 r1 r2 hu
  ·exact db c A x y v u o1 o2 r1 r2 hu
  ·rw [h2]; exact kK I (n+1) a b A x y v u hd h1 h3 o1 o2 r1 r2 hun
end
def eqX (a b:D):Option D:=if aI a≤60 then (bi a b).map .bool else none
section
variable {X:Cx} {K:PySem.W.Frag}
theorem DZ (hK:X.K=K) (hu:X.A.units+64 < cLine):OpR X (compareOp .Eq) (rF2 K eqX 3):=by
 subst hK
 intro pins s σ H x y v u Q I rx ry ⟨O,a,b,t,oa,ob,hd,hg,k⟩
 rw [eqX] at hg
 by_cases c3:aI a≤60
 ·rw [if_pos c3] at hg
  obtain ⟨q,hq,rfl⟩:=Option.map_eq_some_iff.mp hg
  exact (Es I 60 a b X.A x y v u q c3 hq oa ob rx ry (by omega)).2.1 X.prog X.w _ _ ⟨.bl _,H,I,rfl,k _ H NoA .refl rfl⟩
 ·rw [if_neg c3] at hg; cases hg
end
end L2
namespace L2
open PySem PySem.Spec PyProof.Rows PySem.SeqAt PySem.MeetsSeq
theorem j9:fillsNumberSlot (.type "tuple") "mul"=pure false:=by unfold fillsNumberSlot; kernel_rfl
theorem mP:seqRepeat? (.type "tuple")=pure (some (.builtin "tuple.__mul__")):=by unfold seqRepeat?; kernel_rfl
theorem lA (a:Int) (t:Tok) (l:Addr) (items:Array Value) (n:Nat) (d:Option Addr) (sl:Array (Option Value)) :
  Meets (Builtin.«int.__rmul__» ⟨[.int a t,.ref l],[]⟩) (fun _ R s=>s.heap.get? l=some { cls:=.type "tuple",dict:=d,data:=.seq items n,slots:=sl }∧R (.ok (.ret .notImplemented)) s) :=
 .of_wp fun prog w A R s h=>by
  obtain ⟨hp,g,d,tk,os⟩:=s
  obtain ⟨hl,h⟩:=h
  wp_walk using wpAny_loadPart' hl,wpAny_load hl
  exact ⟨_,rfl,h⟩
theorem k8 (l:Addr) (items:Array Value) (n:Nat) (d:Option Addr) (sl:Array (Option Value)) (x:Int) (u:Tok) (h0:¬ (decide (x < -2 ^ 63) || decide (x ≥ 2 ^ 63))=true) (h1:(items.isEmpty || x == 1)=true) :
  Meets (Builtin.«tuple.__mul__» ⟨[.ref l,.int x u],[]⟩) (fun _ R s=>s.heap.get? l=some { cls:=.type "tuple",dict:=d,data:=.seq items n,slots:=sl }∧R (.ok (.ret (.ref l))) s) :=
 .of_wp fun prog w A R s h=>by
  obtain ⟨hp,g,d,tk,os⟩:=s
  obtain ⟨hl,h⟩:=h
  wp_walk using wpAny_loadPart' hl,wpAny_load hl
  rw [if_neg h0]
  wp_walk using wpAny_loadPart' hl,wpAny_load hl
  exact ⟨_,rfl,h⟩
theorem mi (l:Addr) (items:Array Value) (n:Nat) (d:Option Addr) (sl:Array (Option Value)) (x:Int) (u:Tok) (h0:¬ (decide (x < -2 ^ 63) || decide (x ≥ 2 ^ 63))=true) (h1:¬ (items.isEmpty || x == 1)=true)
  (h2:¬ (decide (x≤0) || items.isEmpty)=true) (h3:¬ (items.size:Int) * x > (2 ^ 63 - 1) / 8) (h4:¬ Builtin.Tuple.tupleTooMany ((items.size:Int) * x)=true) (h5:¬ (List.foldl (fun x1 x2=>x1++x2) #[] (List.replicate x.toNat items)).size > sizeLine) :
  Meets (Builtin.«tuple.__mul__» ⟨[.ref l,.int x u],[]⟩) (fun _ R s=>s.heap.get? l=some { cls:=.type "tuple",dict:=d,data:=.seq items n,slots:=sl } ∧
   R (.ok (.ret (.ref s.heap.objs.size))) { s with heap:=s.heap.push { cls:=.type "tuple",data:=.seq (List.foldl (fun x1 x2=>x1++x2) #[] (List.replicate x.toNat items)) } }) :=
 .of_wp fun prog w A R s h=>by
  obtain ⟨hp,g,d,tk,os⟩:=s
  obtain ⟨hl,h⟩:=h
  wp_walk using wpAny_loadPart' hl,wpAny_load hl
  rw [if_neg h0]
  wp_walk using wpAny_loadPart' hl,wpAny_load hl
  rw [if_neg h3]
  wp_walk using wpAny_loadPart' hl,wpAny_load hl
  exact ⟨_,rfl,h⟩
def je:D→D→Option D
 | .tuple ts,.int k=>grd (1≤k∧k≤1000∧ts.length≤1000) (.tuple (List.replicate k.toNat ts).flatten)
 | _,_=>none
section
variable {X:Cx} {K:PySem.W.Frag}
theorem rX {n:Int} (h0:0≤n) (h:n≤1000000):¬ Builtin.Tuple.tupleTooMany n=true:=by
 unfold Builtin.Tuple.tupleTooMany
 simp only [decide_eq_true_eq]
 have:(1000000:Int)≤(sizeLine:Nat):=by decide
 omega
theorem jL (hK:X.K=K):OpR X (binaryOp .Mult) (rF2 K je 0):=by
 subst hK
 intro pins s σ H x y v u Q I rx ry ⟨O,a,b,t,oa,ob,hd,hg,k⟩
 unfold je at hg
 split at hg
 case h_2=>cases hg
 next ts n =>
 obtain ⟨⟨c1,c2,c3⟩,rfl⟩:=bn hg
 have oa0:=oa
 obtain ⟨a,vs,rfl,fz,w⟩:=oa.tup0
 cases rx
 cases (show y=V.int n from ob)
 obtain ⟨tk,rfl⟩:=ry
 obtain ⟨its,r,pl,hz⟩:=I.tuple fz.sq
 obtain ⟨⟨cls,dd,data,sl⟩,ho,hc,m,hda⟩:=id pl
 simp only at hc hda
 subst hc hda
 have hl:=r.length
 have hw:=w.len
 have h0:¬ (decide (n < -2 ^ 63) || decide (n ≥ 2 ^ 63))=true:=by simp; omega
 refine wpAny_binaryOp_repeat_ref (T:="tuple") (U:="int") (by decide) ⟨_,ho,rfl⟩ (fun s'=>typeIs_int s' n tk) j9 F.fills_int_mul F.slot_int_rmul mP F.slot_int_index.lookup
  (call_meets F.slot_int_rmul (typeIs_int s n tk) F.entry_int_rmul (F.args_int_rmul_2 _ _) (lA n tk a its.toArray m dd sl) ⟨ho,rfl,⟨_,ho,rfl⟩,?_⟩)
 by_cases h1:(its.toArray.isEmpty || n == 1)=true
 ·refine call_meets F.slot_tuple_mul ⟨_,ho,rfl⟩ F.entry_tuple_mul (F.args_tuple_mul_2 _ _) (k8 a its.toArray m dd sl n tk h0 h1) ⟨ho,.ref a,H,I,rfl,k _ H NoA .refl ?_⟩
  have e:(List.replicate n.toNat ts).flatten=ts:=by
   rcases Bool.or_eq_true_iff.mp h1 with h1 | h1
   ·have:its=[]:=by simpa using h1
    subst this
    have:ts=[]:=List.length_eq_zero_iff.mp (by rw [List.length_nil] at hl; omega)
    subst this
    simp
   ·have:n=1:=by simpa using h1
    subst this
    simp [List.replicate]
  rw [e,dO]
  exact oa0
 ·have h2:¬ (decide (n≤0) || its.toArray.isEmpty)=true:=by
   intro z
   rcases Bool.or_eq_true_iff.mp z with z | z
   ·have:n≤0:=by simpa using z
    omega
   ·exact h1 (by rw [z]; rfl)
  have sz:(its.toArray.size:Int)≤1000:=by rw [List.size_toArray]; omega
  have pz:(0:Int)≤(its.toArray.size:Int):=by omega
  have pm:(its.toArray.size:Int) * n≤1000 * 1000:=Int.mul_le_mul sz c2 (by omega) (by omega)
  have p0:0≤(its.toArray.size:Int) * n:=Int.mul_nonneg pz (by omega)
  have rl:((List.replicate n.toNat vs).flatten).length≤sizeLine:=by
   rw [zU]
   have:(1000000:Nat)≤sizeLine:=by decide
   have h5:n.toNat * vs.length≤1000 * 1000:=Nat.mul_le_mul (by omega) (by omega)
   omega
  have fe:List.foldl (fun x1 x2=>x1++x2) #[] (List.replicate n.toNat its.toArray)=(List.replicate n.toNat its).flatten.toArray:=by
   have z:=listMul_foldl_if its.toArray n.toNat
   have h6:its.toArray.isEmpty=false:=by
    cases h:its.toArray.isEmpty with
    | false=>rfl
    | true=>exact absurd (by rw [h]; rfl) h1
   rw [h6] at z
   simpa using z
  have r2:=r.rep n.toNat
  have h7:¬ (List.foldl (fun x1 x2=>x1++x2) #[] (List.replicate n.toNat its.toArray)).size > sizeLine:=by
   rw [fe,List.size_toArray,← r2.length]
   omega
  refine call_meets F.slot_tuple_mul ⟨_,ho,rfl⟩ F.entry_tuple_mul (F.args_tuple_mul_2 _ _) (mi a its.toArray m dd sl n tk h0 h1 h2 (by omega) (rX p0 (by omega)) h7) ⟨ho,?_⟩
  rw [fe]
  have hf:H s.heap.objs.size=none:=I.hok.fresh (Nat.le_refl _)
  refine ⟨.ref s.heap.objs.size,_,I.laid (t':=s.toks) (o:=.tup (List.replicate n.toNat vs).flatten) (fun b ob q=>Heap.get?_push_of_some _ q) (Nat.le_refl _) ⟨rl,_,r.rep n.toNat,IsTupN.new _ _⟩,rfl,?_⟩
  exact k _ _ _ (eD hf hd (w.rep n.toNat)).1 (eD hf hd (w.rep n.toNat)).2
def mD:D→D→Option D
 | .int k,.str z=>grd (z.length≤4000∧1≤k∧k≤4000) (.str (Txt.mul z k))
 | _,_=>none
end
theorem nS (a:Int) (t:Tok) (b:Str) (u:Tok):Meets (Builtin.«int.__mul__» ⟨[.int a t,.str b u],[]⟩) (fun _ R s=>R (.ok (.ret .notImplemented)) s) :=
 .of_wp fun prog w A R s h=>by
  obtain ⟨hp,g,d,tk,os⟩:=s
  wp_walk
  exact ⟨_,rfl,h⟩
theorem oY:seqRepeat? (.type "int")=pure none:=by unfold seqRepeat?; kernel_rfl
section
variable {X:Cx} {K:PySem.W.Frag}
theorem sZ:OpR X (binaryOp .Mult) (rF2 K mD 3):=by
 intro pins s σ H x y v u Q I rx ry ⟨O,a,b,t,oa,ob,hd,hg,k⟩
 unfold mD at hg
 split at hg
 case h_2=>cases hg
 next n z =>
 obtain ⟨⟨c1,c2,c3⟩,rfl⟩:=bn hg
 cases (show x=V.int n from oa)
 cases (show y=V.str z from ob)
 obtain ⟨t1,rfl⟩:=rx
 obtain ⟨t2,rfl⟩:=ry
 have mo:MulOk z n:=mulOk_of 4000 4000 c1 c3 (by omega) (by decide) (by decide)
 refine lm_binaryOp_repeat_right (T:="str") (U:="int") (by decide) (fun s'=>typeIs_int s' n t1) (typeIs_str s z t2) F.fills_int_mul noFill_str_mul F.slot_int_mul oY repeat_str F.slot_int_index.lookup
  (call_meets F.slot_int_mul (typeIs_int s n t1) F.entry_int_mul (F.args_int_mul_2 _ _) (nS n t1 z t2) ⟨rfl,typeIs_str s z t2,?_⟩)
 refine call_gives F.slot_str_mul (typeIs_str s z t2) F.entry_str_mul (F.args_str_mul_2 _ _) (gives_str_mul z n t2 t1 mo.1 mo.2.1 mo.2.2) ?_
 have q:∀ t' tk,EP X pins σ Q (.str (Txt.mul z n) t') { s with toks:=tk }:=fun t' tk=>⟨.str _,H,I.tok _,⟨_,rfl⟩,k _ H NoA .refl rfl⟩
 unfold Txt.mul at q
 rw [if_neg (by omega:¬ n < 1)] at q ⊢
 by_cases h:(n == 1 || z.length == 0)=true
 ·rw [if_pos h] at q ⊢
  exact q _ _
 ·rw [if_neg h] at q ⊢
  have e:(⟨List.foldl (fun x1 x2=>x1++x2) #[] (List.replicate n.toNat z.cps)⟩:Str)=Txt.mul z n:=by
   unfold Txt.mul
   rw [if_neg (by omega:¬ n < 1),if_neg h]
  refine ⟨?_,q _ _⟩
  rw [e]
  have:(4000 * 4000:Nat)≤sizeLine:=by decide
  exact Nat.le_trans (lq c1 c3) this
end
def cn:List Int→Int
 | []=>0
 | [a]=>a
 | a :: b :: r=>max a (cn (b :: r))
theorem kb:∀ {l:List Int},l≠[]→cn l∈l
 | [a],_=>List.mem_cons_self
 | a :: b :: r,_=>by
  have ih:=kb (l:=b :: r) (by simp)
  unfold cn
  rcases Int.le_total a (cn (b :: r)) with h | h
  ·rw [Int.max_eq_right h]; exact List.mem_cons_of_mem _ ih
  ·rw [Int.max_eq_left h]; exact List.mem_cons_self
theorem ls:∀ {l:List Int} {x:Int},x∈l→x≤cn l
 | [a],x,h=>by simp at h; subst h; exact Int.le_refl _
 | a :: b :: r,x,h=>by
  unfold cn
  rcases List.mem_cons.mp h with rfl | h
  ·exact Int.le_max_left _ _
  ·exact Int.le_trans (ls h) (Int.le_max_right _ _)
theorem kQ (val:Nat→Int):∀ k,argBest (fun i j=>decide (val i > val j)) k≤k∧∀ i,i≤k→val i≤val (argBest (fun i j=>decide (val i > val j)) k)
 | 0=>by
  rw [argBest.eq_1]
  exact ⟨Nat.le_refl _,fun i hi=>by rw [Nat.le_zero.mp hi]; exact Int.le_refl _⟩
 | k+1=>by
  obtain ⟨h1,h2⟩:=kQ val k
  rw [argBest.eq_2]
  by_cases h:val (k+1) > val (argBest (fun i j=>decide (val i > val j)) k)
  ·rw [if_pos (decide_eq_true h)]
   refine ⟨Nat.le_refl _,fun i hi=>?_⟩
   rcases Nat.lt_or_ge i (k+1) with z | z
   ·exact Int.le_trans (h2 i (by omega)) (Int.le_of_lt h)
   ·rw [show i=k+1 by omega]; exact Int.le_refl _
  ·rw [if_neg (by rw [decide_eq_true_eq]; exact h)]
   refine ⟨by omega,fun i hi=>?_⟩
   rcases Nat.lt_or_ge i (k+1) with z | z
   ·exact h2 i (by omega)
   ·rw [show i=k+1 by omega]; omega
theorem nX (ns:List Int) (h:ns≠[]):ns[argBest (fun i j=>decide (ns.getD i 0 > ns.getD j 0)) (ns.length - 1)]?=some (cn ns):=by
 obtain ⟨h1,h2⟩:=kQ (fun i=>ns.getD i 0) (ns.length - 1)
 have hl:0 < ns.length:=List.length_pos_iff.mpr h
 revert h1 h2
 generalize argBest (fun i j=>decide (ns.getD i 0 > ns.getD j 0)) (ns.length - 1)=k
 intro h1 h2
 have hk:k < ns.length:=by omega
 have gk:ns.getD k 0=ns[k]:=by rw [List.getD_eq_getElem?_getD,List.getElem?_eq_getElem hk]; rfl
 have e:ns[k]=cn ns:=by
  refine Int.le_antisymm (ls (List.getElem_mem hk)) ?_
  obtain ⟨i,hi,e⟩:=List.mem_iff_getElem.mp (kb h)
  have z:=h2 i (by omega)
  rw [gk,List.getD_eq_getElem?_getD,List.getElem?_eq_getElem hi] at z
  rw [← e]
  exact z
 rw [List.getElem?_eq_getElem hk,e]
def mE:List D→Option D
 | [.list ts]=>(dA ts).bind fun ns=>grd (ns≠[]) (.int (cn ns))
 | _=>none
section
variable {X:Cx} {K:PySem.W.Frag}
theorem oG (hK:X.K=K) (hc:X.calm=true):CallR X (.builtin "max") (rFn K mE 3):=by
 subst hK
 intro pins s σ H xs us Q I r ⟨O,as,t,oa,hd,hr,k⟩
 match as,hr with
 | [.list ts],hr =>
  obtain ⟨ns,h1,h2⟩:=Option.bind_eq_some_iff.mp hr
  obtain ⟨c,rfl⟩:=bn h2
  obtain ⟨v,rfl,o⟩:=oa.one
  obtain ⟨p,vs,rfl,fz,w⟩:=o.lst0
  have e:=iq w h1
  subst e
  obtain ⟨u,rfl,ru⟩:=cX r
  cases ru
  obtain ⟨its,rv,pl,hz⟩:=I.list fz.sq
  have hl:its.length=ns.length:=by rw [← rv.length,List.length_map]
  have hlt:p < s.heap.objs.size:=by
   obtain ⟨o,n,e,_⟩:=id pl
   exact Heap.lt_size e
  have hsz:its.toArray.size=ns.length:=by rw [List.size_toArray,hl]
  have hn:0 < ns.length:=List.length_pos_iff.mpr c
  refine call_max_walk (wpAny_pyIter_list pl.isList ?_)
  refine ⟨s.heap.objs.size,[s.heap.objs.size,p],[s.heap.objs.size],its.toArray.size,fun i v=>its.toArray[i]?=some v,_,fun i j=>decide (ns.getD i 0 > ns.getD j 0),rfl,Walks.list (A:=X.A.in1) (show X.A.in1.handled=none from I.ok.hd hc) s.heap.objs.size p (Nat.ne_of_lt hlt) its.toArray,?_,?_,?_,?_,?_⟩
  ·exact ⟨⟨_,Heap.get?_push_size _ rfl,rfl,rfl⟩,pl.isList.push _⟩
  ·intro b hb
   show b < (s.heap.push _).objs.size
   rw [Heap.size_push]
   have hb':b=s.heap.objs.size∨b=p:=by simpa using hb
   rcases hb' with rfl | rfl
   ·exact Nat.lt_succ_self _
   ·exact Nat.lt_succ_of_lt hlt
  ·rw [hsz]; exact hn
  ·refine CmpOf.ints_gt (fun i=>ns.getD i 0) fun i v hv=>?_
   have hv':its[i]?=some v:=by simpa using hv
   have hi:i < ns.length:=by
    rw [← hl]
    exact (List.getElem?_eq_some_iff.mp hv').1
   obtain ⟨u,hu,ru⟩:=rv.get (i:=i) (x:=V.int ns[i]) (by rw [List.getElem?_map,List.getElem?_eq_getElem hi]; rfl)
   rw [hu] at hv'
   cases hv'
   obtain ⟨t,rfl⟩:=ru
   refine ⟨t,?_⟩
   rw [List.getD_eq_getElem?_getD,List.getElem?_eq_getElem hi]
   rfl
  ·intro v h' tk hv hk
   rw [hsz] at hv
   have hv':its[argBest (fun i j=>decide (ns.getD i 0 > ns.getD j 0)) (ns.length - 1)]?=some v:=by simpa using hv
   obtain ⟨u,hu,ru⟩:=rv.get (i:=argBest (fun i j=>decide (ns.getD i 0 > ns.getD j 0)) (ns.length - 1)) (x:=V.int (cn ns)) (by rw [List.getElem?_map,nX ns c]; rfl)
   rw [hu] at hv'
   cases hv'
   refine ⟨.int (cn ns),H,I.kept (t':=tk) fun b o z=>hk b o ?_ (Heap.get?_push_of_some _ z),ru,k _ H NoA .refl rfl⟩
   intro z'
   have z'':b=s.heap.objs.size:=by simpa using z'
   exact Nat.ne_of_lt (Heap.lt_size z) z''
end
section
variable {X:Cx} {K:PySem.W.Frag} {p p1 p2:Bool} {ds ds1 ds2:List Nat} {d d1 d2:Nat} {e:Expr} {f f1 f2:ME} {σ:St} {H:Hp} {Q Q':VK}
theorem El {g:D→D→Option D} {Ty:V→Hp→Prop} (ht:∀ a b t O x H F,g a b=some t→Ow K O H a d1 x F→Ty x H) (h:tF K (p1 && p2) ds ds2 d (e2 g f1 f2) σ H Q) :
  tF K p1 ds ds1 d1 f1 σ H fun x H1=>Ty x H1∧tF K p2 ds1 ds2 d2 f2 σ H1 fun y H2=>rF2 K g d x y H2 Q:=by
 obtain ⟨Ox,en,R,t,en',e,hf,k⟩:=h
 unfold e2 at hf
 obtain ⟨⟨t1,en1⟩,h1,hf⟩:=Option.bind_eq_some_iff.mp hf
 obtain ⟨⟨t2,en2⟩,h2,hf⟩:=Option.bind_eq_some_iff.mp hf
 obtain ⟨t',h3,hf⟩:=Option.map_eq_some_iff.mp hf
 cases hf
 refine ⟨Ox,en,R,t1,en1,e,h1,fun x H1 R1 F1 P1 o1=>⟨ht _ _ _ _ _ _ _ h3 o1,U F1 Ox,en1,R1,t2,en2,P1.env,h2,fun y H2 R2 F2 P2 o2=>?_⟩⟩
 have P:=P1.trans P2
 have o1':=Ow.over P1.env P2 o1
 have o2':Ow K (Own R2 (U (U F1 F2) Ox)) H2 t2 d2 y F2:=jy ▸ o2
 exact ⟨Own R2 Ox,t1,t2,t,Ow.letgo P (fun _=>.inl) o1',Ow.letgo P (fun _=>.inr) o2',P.doms,h3,fun v2 H3 F3 n o3=>k v2 H3 R2 F3 (P.fin n) (jN ▸ o3)⟩
def TyL (K:PySem.W.Frag) (x:V) (H:Hp):Prop:=∃ a vs,x=.ref a∧SqL K H a vs
def TyT (x:V) (H:Hp):Prop:=∃ a vs,x=.ref a∧H a=some (.tup vs)
theorem CA {O F:AS} {ts:List D} {x:V} (h:Ow K O H (.list ts) d x F):TyL K x H:=by
 obtain ⟨a,vs,rfl,⟨_,fz,_⟩ | ⟨_,g1,_⟩⟩:=h
 ·exact ⟨a,vs,rfl,fz.sq⟩
 ·exact ⟨a,vs,rfl,.inl (.inl g1)⟩
theorem Cz {O F:AS} {ts:List D} {x:V} (h:Ow K O H (.tuple ts) d x F):TyT x H:=by
 obtain ⟨a,vs,rfl,⟨_,fz,_⟩ | ⟨_,g1,_⟩⟩:=h
 ·exact ⟨a,vs,rfl,fz.1⟩
 ·exact ⟨a,vs,rfl,g1⟩
theorem rj {T:String} {o:Expr} {name:Str} {id:String} {apos cpos:Pos} {g:D→D→Option D} {Ty:V→Hp→Prop} (pa:PlainAttrs T) (slot:Slot T name id) (hty:typeOf (.builtin id)=pure (.type "method_descriptor"))
  (ht:∀ a b t O x H F,g a b=some t→Ow K O H a d1 x F→Ty x H) (hT:∀ pins s σ H x v,Inv X pins σ H s→RelV x v→Ty x H→s.TypeIs v T∧∀ a,v=.ref a→∃ ob,s.heap.get? a=some ob∧ob.dict=none)
  (hm:OpR X (fun v u=>call (.builtin id) [v,u]) (rF2 K g 3)) (ho:PE X o (tF K p ds ds1 d1 f1)) (he:PE X e (tF K p ds1 ds2 d2 f2))
  (hbase:attributeBase o name X.env (eval o X.env)=eval o X.env)
  (hfew:((backTo cpos (starEach [e] X.env)).all (fun x=>!x.1) && (backToKw cpos (keywordEach [] X.env)).all (fun x=>x.1.isSome) && decide (([e]:List Expr).length+([]:List Keyword).length+(if ([]:List Keyword).isEmpty then 0 else 1) < 30))=true)
  (hline:(apos.endLine == cpos.line)=true) (hs:starEach [e] X.env=[(false,eval e X.env)]) (hplain:(backTo cpos (starEach [] X.env)).any (·.1)=false) :
  PE X (.Call (.Attribute o name apos) [e] [] cpos) (tF K p ds ds2 3 (e2 g f1 f2)):=by
 intro pins s σ H Q I h
 have h':=El (p1:=p) (p2:=p) (ds1:=ds1) (d1:=d1) (d2:=d2) (Ty:=Ty) ht (by rw [Bool.and_self]; exact h)
 refine wpAny_Call_method_late hbase hfew hline rfl (thn (ho pins s σ H _ I h') fun v s1 ⟨x,H1,I1,r1,ty,q1⟩=>?_)
 obtain ⟨h1,h2⟩:=hT pins s1 σ H1 x v I1 r1 ty
 refine ⟨T,id,pa,slot,hty,h1,h2,?_⟩
 have hA:=dQ he pa_nil hs cpos pins s1 σ H1 (fun xs H2=>∃ y,xs=[y]∧rF2 K g 3 x y H2 Q) I1 (mK (fun y H2 q=>⟨y,rfl,q⟩) q1)
 rw [hs] at hA ⊢
 refine Calls.callWith_builtin (by show (false || (backTo cpos (starEach [] X.env)).any (·.1))=false; rw [hplain] <;> rfl) (Calls.evalArgs_plain ?_)
 refine thn hA fun us s2 ⟨vs,H2,I2,r2,y,e2,q2⟩=>?_
 subst e2
 obtain ⟨u,rfl,ru⟩:=cX r2
 exact hm pins s2 σ H2 x y v u Q I2 r1 ru q2
end
def fS:D→D→Option D
 | .list ts,.int k=>(dA ts).bind fun ns=>grd ((PyData.list (ns.map PyData.int)).layable0=true∧k∈ns) (.int (ns.idxOf k:Nat))
 | _,_=>none
def fV:D→D→Option D
 | .tuple ts,b=>grd (ao b=true∧aD ts=true∧a5 ts≤60) (.int (ts.countP fun t=>peq t b:Nat))
 | _,_=>none
section
variable {X:Cx} {K:PySem.W.Frag} {p:Bool} {ds ds1 ds2:List Nat} {d d1 d2:Nat} {e:Expr} {f f1 f2:ME} {σ:St} {H:Hp} {Q Q':VK}
theorem rf (hK:X.K=K):OpR X (fun v u=>call (.builtin "list.index") [v,u]) (rF2 K fS 3):=by
 subst hK
 intro pins s σ H x y v u Q I rx ry ⟨O,a,b,t,oa,ob,hd,hg,k⟩
 unfold fS at hg
 split at hg
 case h_2=>cases hg
 next ts n =>
 obtain ⟨ns,h1,h2⟩:=Option.bind_eq_some_iff.mp hg
 obtain ⟨⟨c1,c2⟩,rfl⟩:=bn h2
 obtain ⟨a,vs,rfl,fz,w⟩:=oa.lst0
 have e:=iq w h1
 subst e
 cases rx
 cases (show y=V.int n from ob)
 obtain ⟨tk,rfl⟩:=ry
 obtain ⟨its,rv,pl,hz⟩:=I.list fz.sq
 exact index_list_ints pl.isList (pL rv) c1 c2 ⟨.int _,H,I.tok _,⟨_,rfl⟩,k _ H NoA .refl rfl⟩
theorem lY {pins:List (Addr × Obj)} {s:Shared} {O:AS} (I:Inv X pins σ H s) {a:D}:∀ {ts:List D} {vs:List V} {us:List Value},aD ts=true→Ows X.K O H ts 0 vs NoA→Vals vs us→us.countP (eqF X O H a)=ts.countP fun t=>peq t a
 | [],_,_,_,h,r=>by
  cases (show _=[] from h)
  cases r
  rfl
 | t :: ts,_,_,hn,h,r=>by
  obtain ⟨v,q,F1,F2,e,_,_,_,h4,h5⟩:=h
  subst e
  have hn':ao t=true∧aD ts=true:=by simpa [aD] using hn
  cases r with
  | cons ru rr=>rw [List.countP_cons,List.countP_cons,nq I ru hn'.1 (Ow.any0 t h4),lY I hn'.2 (Ows.any0 ts h5) rr]
theorem rg (hK:X.K=K) (hu:X.A.units+64 < cLine):OpR X (fun v u=>call (.builtin "tuple.count") [v,u]) (rF2 K fV 3):=by
 subst hK
 intro pins s σ H x y v u Q I rx ry ⟨O,a,b,t,oa,ob,hd,hg,k⟩
 have hu1:X.A.in1.units+60+1 < cLine:=by show X.A.units+1+60+1 < cLine; omega
 unfold fV at hg
 split at hg
 case h_2=>cases hg
 next ts =>
 obtain ⟨⟨c1,c2,c3⟩,rfl⟩:=bn hg
 obtain ⟨q,vs,rfl,fz,w⟩:=oa.tup0
 cases rx
 obtain ⟨its,r,pl,hz⟩:=I.tuple fz.sq
 obtain ⟨⟨cls,dd,data,sl⟩,ho,hc,m,hda⟩:=id pl
 simp only at hc hda
 subst hc hda
 refine call_meets F.slot_tuple_count ⟨_,ho,rfl⟩ F.entry_tuple_count (F.args_tuple_count_2 _ _) (SeqAt.tuple_countAt q its.toArray m dd sl u (eqF X O H b)) ⟨ho,fun z hz=>fK I c1 ob ry hu1 c2 c3 w r z (by simpa using hz),?_⟩
 have e:List.countP (eqF X O H b) its.toArray.toList=ts.countP fun t=>peq t b:=lY I c2 w r
 rw [e]
 exact ⟨.int _,H,I.tok _,⟨_,rfl⟩,k _ H NoA .refl rfl⟩
theorem rk {o:Expr} {apos cpos:Pos} (hK:X.K=K) (ho:PE X o (tF K p ds ds1 d1 f1)) (he:PE X e (tF K p ds1 ds2 d2 f2))
  (hbase:attributeBase o "index" X.env (eval o X.env)=eval o X.env)
  (hfew:((backTo cpos (starEach [e] X.env)).all (fun x=>!x.1) && (backToKw cpos (keywordEach [] X.env)).all (fun x=>x.1.isSome) && decide (([e]:List Expr).length+([]:List Keyword).length+(if ([]:List Keyword).isEmpty then 0 else 1) < 30))=true)
  (hline:(apos.endLine == cpos.line)=true) (hs:starEach [e] X.env=[(false,eval e X.env)]) (hplain:(backTo cpos (starEach [] X.env)).any (·.1)=false) :
  PE X (.Call (.Attribute o "index" apos) [e] [] cpos) (tF K p ds ds2 3 (e2 fS f1 f2)):=by
 subst hK
 refine rj (Ty:=TyL X.K) F.plainAttrs_list F.slot_list_index F.type_list_index (fun a b t O x H F hg o=>?_) (fun pins s σ H x v I r ty=>?_) (rf rfl) ho he hbase hfew hline hs hplain
 ·unfold fS at hg
  split at hg
  ·exact CA o
  ·cases hg
 ·obtain ⟨a,vs,rfl,hs⟩:=ty
  cases r
  obtain ⟨its,rv,⟨o,n,ho,hc,hdd,hda⟩,_⟩:=I.list hs
  exact ⟨⟨o,ho,hc⟩,fun b e=>by cases e; exact ⟨o,ho,hdd⟩⟩
theorem rm {o:Expr} {apos cpos:Pos} (hK:X.K=K) (hu:X.A.units+64 < cLine) (ho:PE X o (tF K p ds ds1 d1 f1)) (he:PE X e (tF K p ds1 ds2 d2 f2))
  (hbase:attributeBase o "count" X.env (eval o X.env)=eval o X.env)
  (hfew:((backTo cpos (starEach [e] X.env)).all (fun x=>!x.1) && (backToKw cpos (keywordEach [] X.env)).all (fun x=>x.1.isSome) && decide (([e]:List Expr).length+([]:List Keyword).length+(if ([]:List Keyword).isEmpty then 0 else 1) < 30))=true)
  (hline:(apos.endLine == cpos.line)=true) (hs:starEach [e] X.env=[(false,eval e X.env)]) (hplain:(backTo cpos (starEach [] X.env)).any (·.1)=false) :
  PE X (.Call (.Attribute o "count" apos) [e] [] cpos) (tF K p ds ds2 3 (e2 fV f1 f2)):=by
 subst hK
 refine rj (Ty:=TyT) F.plainAttrs_tuple F.slot_tuple_count F.type_tuple_count (fun a b t O x H F hg o=>?_) (fun pins s σ H x v I r ty=>?_) (rg rfl hu) ho he hbase hfew hline hs hplain
 ·unfold fV at hg
  split at hg
  ·exact Cz o
  ·cases hg
 ·obtain ⟨a,vs,rfl,hs⟩:=ty
  cases r
  obtain ⟨_,its,rv,o,ho,hc,n,hda,hdd⟩:=(show ObjOk X.prog X.w H s.heap a (.tup vs) from I.hok a _ hs)
  exact ⟨⟨o,ho,hc⟩,fun b e=>by cases e; exact ⟨o,ho,hdd⟩⟩
end
end L2
namespace L2
open PySem PySem.Spec PyProof.Rows HT
section
variable {prog:Program} {w:World} {A:Around} {E:Value→Shared→Prop} {s:Shared}
theorem jO {t sl:Addr} {items:Array Value} {vl vu:Value} {lo hi:Option Int} {Q:Value→Shared→Prop} (ht:IsTup s.heap t items) (hs:s.heap.IsSliceOf sl vl vu .none) (pl:IsPart vl lo) (pu:IsPart vu hi)
  (hw:HT.sIx items.size 0 lo=0∧HT.sIx items.size items.size hi=items.size) (h:Q (.ref t) s):wpAny (model prog w) A (getItem (.ref t) (.ref sl)) Q E s:=by
 obtain ⟨os,hos,hcs,hds⟩:=id hs
 have hTs:s.TypeIs (.ref sl) "slice":=⟨os,hos,hcs⟩
 obtain ⟨ot,hot,hct,m,hdt⟩:=id ht
 obtain ⟨cls,dd,data,slo⟩:=ot
 simp only at hct hdt
 subst hct hdt
 unfold getItem
 try with_reducible refine wpAny_holding ?_
 first | refine wpAny_bind (wpAny_pure ?_) | skip
 refine wpAny_bind (wpAny_sequenceKey ht.typeIs (by decide) (wpAny_bind (wpAny_callSpecial?_slot (name:=Str.ofString "__getitem__") ht.typeIs PyProof.Rows.slot_tuple_getitem
  (wpAny_call_entry PyProof.Rows.slot_tuple_getitem ht.typeIs entry_tuple_getitem ?_ (args_tuple_getitem _ _)))))
 show wpAny _ _ (Builtin.Tuple.tupleItemsOf (.ref t) >>= _) _ _ s
 refine wpAny_bind (tupleItemsOf_ ht (wpAny_bind (wpAny_typeOf hTs ?_)))
 rw [if_pos (by decide)]
 refine wpAny_bind (fP hs pl pu ?_)
 rw [hw.1,hw.2]
 have h1:(((0:Nat):Int) == 0 && (1:Int) == 1 && (items.size - 0) == items.size)=true:=by simp
 show wpAny _ _ (if (((0:Nat):Int) == 0 && (1:Int) == 1 && (items.size - 0) == items.size)=true then _ else _) _ _ s
 rw [if_pos h1]
 wp_walk using wpAny_loadPart' hot,wpAny_load hot
 exact ⟨_,rfl,wpAny_pure h⟩
end
def dF:D→Option Int→Option Int→Option D
 | .tuple ts,lo,hi=>some (.tuple (bt ts lo hi))
 | _,_,_=>none
section
variable {X:Cx} {K:PySem.W.Frag}
theorem cD (hK:X.K=K):SlR X (rFs K dF 0):=by
 intro pins s σ H x v vl vu lo hi sl Q I rx hs pl pu ⟨O,a,t,oa,hd,hg,k⟩
 cases a with
 | tuple ts =>
  by_cases hw:HT.sIx ts.length 0 lo=0∧HT.sIx ts.length ts.length hi=ts.length
  ·subst hK
   obtain ⟨a,vs,rfl,fz,w⟩:=id oa.tup0
   cases rx
   obtain ⟨its,r,ht,hz⟩:=I.tuple fz.sq
   have hlen:its.toArray.size=ts.length:=by rw [List.size_toArray,← w.len]; exact r.length.symm
   refine ⟨"tuple",_,PyProof.Rows.slot_tuple_getitem.lookup,ht.typeIs,?_⟩
   refine jO ht hs pl pu (by rw [hlen]; exact hw) ⟨.ref a,H,I,rfl,k _ H NoA .refl ?_⟩
   cases hg
   have e:bt ts lo hi=ts:=by
    unfold bt
    rw [hw.1,hw.2]
    simp
   rw [e,dO]
   exact oa
  ·refine D0 hK pins s σ H x v vl vu lo hi sl Q I rx hs pl pu ⟨O,.tuple ts,t,oa,hd,?_,k⟩
   cases hg
   show grd _ _=_
   unfold grd
   rw [if_pos hw]
 | _=>cases hg
end
end L2
namespace L2
open PySem PySem.Spec PyProof.Rows
section
variable {P:Program} {w:World} {A:Around} {E:Value→Shared→Prop} {s:Shared}
theorem mn:isSubtype (.type "tuple") (.type "set")=pure false:=by rw [isSubtype_type]; kernel_rfl
theorem i6:isSubtype (.type "tuple") (.type "frozenset")=pure false:=by rw [isSubtype_type]; kernel_rfl
def cJ (ys:List Str) (i:Nat):Str:=ys.getD i ""
theorem lG {tp:Addr} {its:List Value} {ys:List Str} {Q:Value→Shared→Prop} (hh:A.handled=none) (ht:s.heap.IsTuple tp its.toArray) (hv:Vals (ys.map V.str) its) (hb:ys.length+1 < scanBound)
  (h:∀ (h':Heap) (tk:Nat),SetS P w h' s.heap.objs.size (cJ ys) ys.length→(∀ b o,b < s.heap.objs.size→s.heap.get? b=some o→h'.get? b=some o)→Q (.ref s.heap.objs.size) { s with heap:=h',toks:=tk }) :
  wpAny (model P w) A (call (.type "set") [.ref tp]) Q E s:=by
 obtain ⟨c,tl,e0⟩:=PySem.F.called_set.mro
 have e1:=PySem.F.called_set.made
 have e2:=PySem.F.called_set.sub
 have htl:tp < s.heap.objs.size:=Heap.lt_size ht.choose_spec.1
 have hlen:its.length=ys.length:=by rw [← hv.length,List.length_map]
 refine wpAny_call (codeAny_of_tree ?_)
 show wpAny _ _ (callAny (.type "set") ⟨[.ref tp],[]⟩) _ _ _
 refine wpAny_pure ⟨Code.quiet_builtin _ (by decide +kernel),codeAny_builtin PySem.F.entry_type_call ?_⟩
 rw [Around.under_plain (weight_type_call_type "set" [.ref tp] []) rfl]
 have e3:=PySem.F.called_set.notType
 have e4:=PySem.F.called_set.canCreate
 have e5:=PySem.F.typeCall_set_1 (.ref tp)
 repeat (any_goals (first | assumption | wp_step))
 refine codeAny_mono (code_set_new_1 (.ref tp) (E:=E) (Q₁:=fun obj s1=>∃ led:Bool,obj=.ref s.heap.objs.size∧s1={ s with heap:=s.heap.push (fB led) }) fun led=>⟨led,rfl,rfl⟩) fun r s1 hr=>?_
 cases r with
 | error e=>exact hr
 | ok fl =>
  cases fl with
  | ret obj =>
   obtain ⟨led,rfl,rfl⟩:=hr
   have g0:(s.heap.push (fB led)).get? s.heap.objs.size=some (fB led):=Heap.get?_push_size _ rfl
   have hT:Shared.TypeIs { s with heap:=s.heap.push (fB led) } (.ref s.heap.objs.size) "set":=⟨_,g0,rfl⟩
   have i1:=PySem.F.called_set.init.lookup
   have i2:=PySem.F.called_set.init.bind (.ref s.heap.objs.size)
   repeat (any_goals (first | assumption | wp_step))
   refine codeAny_mono (codeAny_call_builtin (R:=wants (fun r s2=>r=.none∧∃ h' tk,s2={ s with heap:=h',toks:=tk }∧SetS P w h' s.heap.objs.size (cJ ys) ys.length ∧
     ∀ b o,b < s.heap.objs.size→s.heap.get? b=some o→h'.get? b=some o) E) PySem.F.called_set.init.plain PySem.F.entry_set_init (check_set_init_1 hT ?_)) fun r2 s2 hr2=>?_
   ·have j1:=mn
    have j2:=i6
    have j3:(Value.type "tuple" == Value.type "dict")=false:=by decide
    have ht2:(s.heap.push (fB led)).IsTuple tp its.toArray:=ht.push _
    obtain ⟨⟨cls,dd,data,sl⟩,ho,hc,m,hda⟩:=id ht2
    simp only at hc hda
    subst hc hda
    unfold Builtin.«set.__init__» noKeywords Builtin.Frozenset.updateFrom
    generalize hPI:pyIter=PI
    wp_walk using wpAny_loadPart' ho,wpAny_load ho
    subst hPI
    refine wpAny_pyIter_tuple ht2 ?_
    refine wpAny_bind (wpAny_runValue ?_)
    have hI:(s.heap.push (fB led)).objs.size=s.heap.objs.size+1:=by rw [Heap.size_push]
    have hne:s.heap.objs.size ∉ [(s.heap.push (fB led)).objs.size,tp]:=by
     rw [hI]
     intro z
     rcases List.mem_cons.mp z with z | z
     ·exact Nat.ne_of_lt (Nat.lt_succ_self _) z
     ·exact Nat.ne_of_lt htl (List.mem_singleton.mp z).symm
    have hti:tp≠(s.heap.push (fB led)).objs.size:=by rw [hI]; exact Nat.ne_of_lt (Nat.lt_succ_of_lt htl)
    have W:=(Walks.tuple (prog:=P) (w:=w) (A:=A.in1.in1.in1) (by simp [hh]) (s.heap.push (fB led)).objs.size tp hti its.toArray).toS
    have hsz:its.toArray.size=ys.length:=by rw [List.size_toArray,hlen]
    rw [hsz] at W
    refine sd W s.heap.objs.size hne (cJ ys) (fun i v hv'=>?_) hb (ys.length - 0) 0 _ rfl (Nat.zero_le _) ⟨⟨_,Heap.get?_push_size _ rfl,rfl,rfl⟩,ht2.push _⟩ ?_ ?_
    ·have hi':its[i]?=some v:=by simpa using hv'
     have hi:i < ys.length:=by
      rw [← hlen]
      exact (List.getElem?_eq_some_iff.mp hi').1
     obtain ⟨u,hu,ru⟩:=hv.get (i:=i) (x:=V.str ys[i]) (by rw [List.getElem?_map,List.getElem?_eq_getElem hi]; rfl)
     rw [hu] at hi'
     cases hi'
     obtain ⟨t,rfl⟩:=ru
     refine ⟨t,?_⟩
     unfold cJ
     rw [List.getD_eq_getElem?_getD,List.getElem?_eq_getElem hi]
     rfl
    ·exact SetOf_congr ((setObjOf_fresh (knd:=strKind P w) led).setOf (Heap.get?_push_of_some _ g0) (by unfold scanBound; omega)) (fun _=>rfl) rfl
    ·intro s3 m h3
     obtain ⟨h',g',d',tk,os'⟩:=s3
     obtain rfl:g'=s.gens:=m.gens
     obtain rfl:d'=s.drawn:=m.drawn
     obtain rfl:os'=s.os:=m.os
     refine wpAny_pure (wpAny_pure ⟨rfl,h',tk,rfl,h3,fun b o hb e=>?_⟩)
     refine m.heap b o ?_ (Heap.get?_push_of_some _ (Heap.get?_push_of_some _ e))
     simp only [List.mem_cons,List.not_mem_nil,or_false,not_or]
     exact ⟨Nat.ne_of_lt hb,Nat.ne_of_lt (Nat.lt_of_lt_of_le hb (by rw [Heap.size_push]; omega))⟩
   ·cases r2 with
    | error e=>exact hr2
    | ok fl2 =>
     cases fl2 with
     | ret r =>
      obtain ⟨rfl,h',tk,rfl,h3,hk⟩:=hr2
      repeat (any_goals (first | assumption | wp_step))
      exact h _ _ h3 hk
     | _=>exact hr2.elim
  | _=>exact hr.elim
end
def mC (P:Program) (w:World) (a:Addr) (ys:List Str):HO:=.ext fun h=>SetS P w h a (cJ ys) ys.length
def ED (K:PySem.W.Frag) (P:Program) (w:World):List V→Hp→VK→Prop:=fun xs H Q=>∃ p ys,xs=[.ref p]∧SqT K H p (ys.map V.str)∧ys.length+1 < scanBound∧∀ a,H a=none→Q (.ref a) (upd H a (mC P w a ys))
section
variable {X:Cx} {K:PySem.W.Frag} {p p1 p2:Bool} {ds ds1 ds2:List Nat} {d d1 d2:Nat} {e k:Expr} {f f1 f2:ME} {fa:MA} {sh:Sh} {σ:St} {H:Hp} {Q Q':VK} {pos pos2 px py:Pos}
theorem rG (hc:X.calm=true):CallR X (.type "set") (ED X.K X.prog X.w):=by
 intro pins s σ H xs us Q I r ⟨p,ys,e,hs,hb,q⟩
 subst e
 obtain ⟨u,rfl,ru⟩:=cX r
 cases ru
 obtain ⟨its,rv,pl,hz⟩:=I.tuple hs
 refine lG (I.ok.hd hc) pl rv hb fun h' tk hS hk=>⟨.ref _,_,I.laid (a:=s.heap.objs.size) (o:=mC X.prog X.w s.heap.objs.size ys) (t':=tk) (fun b o e=>hk b o (Heap.lt_size e) e) (Nat.le_refl _) ?_,rfl,q _ (I.hok.fresh (Nat.le_refl _))⟩
 have h2:=hS
 obtain ⟨o,_,_,_,e,_⟩:=h2
 exact ⟨hS,⟨o,e⟩,fun h1 h2 a k=>a.mv k⟩
def EF (P:Program) (w:World):List V→Hp→VK→Prop:=fun xs H Q=>∃ a ys,xs=[.ref a]∧H a=some (mC P w a ys)∧ys.length < 4096∧Q (.int (bw (cJ ys) ys.length).length) H
theorem rH:CallR X (.builtin "len") (EF X.prog X.w):=by
 intro pins s σ H xs us Q I r ⟨a,ys,e,ha,hz,q⟩
 subst e
 obtain ⟨u,rfl,ru⟩:=cX r
 cases ru
 obtain ⟨⟨o,es,ep,t,g1,g2,g3,_,_,_,g5,g6⟩,_⟩:=I.hok a _ ha
 have le:=jI (cJ ys) ys.length
 have e:(es.size:Int)=((bw (cJ ys) ys.length).length:Nat):=by rw [g6]
 refine call_len_set g1 g2 g3 g5 (by omega) ⟨.int es.size,H,(I.tok _).tok _,⟨_,rfl⟩,?_⟩
 rw [e]
 exact q
def jJ:D→Option D
 | .tuple ts=>(joinD.strsOf ts).bind fun ys=>grd (ys.length < 4000) (.int (bw (cJ ys) ys.length).length)
 | _=>none
theorem pR (hK:X.K=K) (hc:X.calm=true) (hg:Gl X "len") (hm:X.mg "len"=none) (hg2:Gl X "set") (hm2:X.mg "set"=none) (hb:bootBuiltins "len"=some (.builtin "len")) (hb2:bootBuiltins "set"=some (.type "set")) (he:PE X e (tF K p ds ds1 0 f)) (hs:aY e=true) :
  PE X (.Call (.Name "len" px) [.Call (.Name "set" py) [e] [] pos2] [] pos) (tF K p ds ds1 3 (e1 jJ f)):=by
 subst hK
 refine (j7 rH hg hm hb (dQ (lN (rG hc) hg2 hm2 hb2 (dQ he pa_nil (bE hs)) (by decide) (by decide) (bE hs) rfl) pa_nil (bE rfl)) (by decide) (by decide) (bE rfl) rfl).imp fun σ H Q h=>?_
 obtain ⟨Ox,en,R,t,en',e,hf,k⟩:=h
 unfold e1 at hf
 obtain ⟨⟨t1,en1⟩,h1,hf⟩:=Option.bind_eq_some_iff.mp hf
 obtain ⟨t',h3,hf⟩:=Option.map_eq_some_iff.mp hf
 cases hf
 cases t1 with
 | tuple ts =>
  obtain ⟨ys,h4,h5⟩:=Option.bind_eq_some_iff.mp h3
  obtain ⟨c,rfl⟩:=bn h5
  refine ⟨Ox,en,R,.tuple ts,en1,e,h1,fun v H' R' F P o=>?_⟩
  obtain ⟨a,vs,rfl,fz,w⟩:=(Ow.any0 _ o).tup0
  have e6:=ip h4 w
  subst e6
  refine ⟨a,ys,rfl,fz.sq,by unfold scanBound; omega,fun a ha=>?_⟩
  refine ⟨a,ys,rfl,a6,by omega,?_⟩
  have n:NewTo H' (upd H' a (mC X.prog X.w a ys)) NoA:=⟨(bP ha).1,fun _ z=>z.elim⟩
  exact k _ _ R' NoA (P.fin n) rfl
 | _=>cases h3
end
end L2
namespace L2
open PySem PySem.Spec PyProof.Rows
structure QE (X:Cx) (e:Expr) (t:TE):Prop where
 h:PE X e t
structure QT (X:Cx) (e:Expr) (t:TT):Prop where
 h:PT X e t
structure QW (X:Cx) (e:Expr) (t:TT):Prop where
 h:PW X e t
structure QA (X:Cx) (e:List Expr) (t:TA):Prop where
 h:PA X e t
structure QS (X:Cx) (e:Stmt) (t:TS):Prop where
 h:PS X e t
structure QSs (X:Cx) (e:List Stmt) (t:TS):Prop where
 h:PSs X e t
structure QG (X:Cx) (e:Expr) (t:TG):Prop where
 h:PG X e t
structure QGs (X:Cx) (e:List Expr) (t:TGs):Prop where
 h:PGs X e t
structure QI (X:Cx) (tg e:Expr) (t:TI):Prop where
 h:PI X tg e t
structure QTs (X:Cx) (e:List Expr) (t:TT):Prop where
 h:PTs X e t
structure QO (X:Cx) (e:Option Expr) (t:TO):Prop where
 h:PO X e t
theorem qpt {X:Cx} {e:Expr} {t:TT} (h:QW X e t):QT X e t:=⟨h.h.pt⟩
section
variable {X:Cx} {K:PySem.W.Frag} {p p1 p2 q:Bool} {ds ds0 ds1 ds2 ds' dsi:List Nat} {d d' d1 d2:Nat} {a b c e:Expr} {es:List Expr} {f f1 f2:ME} {m c1 c2:MT} {fa:MA} {sh:Sh} {pos:Pos} {i:Nat} {x:Str}
theorem ac {x:Str} (hN:X.N[i]?=some x) (hv:Vis X.env.scope x) (h0:ds[i]?=some 0) (hd:(x == ("__debug__" : Str))=false) (hcd:(x == ("__classdict__" : Str))=false):QE X (.Name x pos) (tF K p ds ds 0 (af i)):=⟨D3 hN hv h0 hd hcd⟩
theorem ag {n:Int} {j}:QE X (.Constant (.int n) j pos) (tF K p ds ds 3 (eC (.int n))):=⟨Ee⟩
theorem a0 {n:Bool} {j}:QE X (.Constant (.bool n) j pos) (tF K p ds ds 3 (eC (.bool n))):=⟨E7⟩
theorem eI {j}:QE X (.Constant .none j pos) (tF K p ds ds 3 (eC .none)):=⟨D8⟩
theorem be {n:Str} {j}:QE X (.Constant (.str n) j pos) (tF K p ds ds 3 (eC (.str n))):=⟨D6⟩
theorem dY {x:Str} {n:Int} {t:Tok} (hg:Gl X x) (hm:X.mg x=some (.int n t)) (hd:(x == ("__debug__" : Str))=false):QE X (.Name x pos) (tF K p ds ds 3 (eC (.int n))):=⟨tw hg hm hd⟩
theorem ak (h:QE X e (tF K p ds ds' d f)) (hd:d'≤d):QE X e (tF K p ds ds' d' f):=⟨D5 h.h hd⟩
theorem jM (h:QE X e (tF K p ds0 ds' d f)) (hd:leD ds0 ds=true):QE X e (tF K false ds ds' d f):=⟨E5 h.h hd⟩
theorem iE (h:QE X e (tF K true ds0 ds0 3 f)) (hd:leD ds0 ds=true):QE X e (tF K p ds ds 3 f):=⟨Eh h.h hd⟩
theorem am {op:Operator} {g:D→D→Option D} (ho:OpR X (binaryOp op) (rF2 K g d)) (ha:QE X a (tF K p ds ds1 d1 f1)) (hb:QE X b (tF K p ds1 ds2 d2 f2)):QE X (.BinOp a op b pos) (tF K p ds ds2 d (e2 g f1 f2)):=⟨E2 ho ha.h hb.h⟩
theorem AA {op:UnaryOp} {g:D→Option D} (ho:UnR X (unaryOp op) (rF1 K g d)) (ha:QE X a (tF K p ds ds1 d1 f1)):QE X (.UnaryOp op a pos) (tF K p ds ds1 d (e1 g f1)):=⟨EZ ho ha.h⟩
theorem ci {op:CmpOp} {g:D→D→Option D} (ho:OpR X (compareOp op) (rF2 K g d)) (ha:QE X a (tF K p ds ds1 d1 f1)) (hb:QE X b (tF K p ds1 ds2 d2 f2)) (hm:behindInMarks op b=false):QE X (.Compare a [op] [b] pos) (tF K p ds ds2 d (e2 g f1 f2)):=⟨Eg ho ha.h hb.h hm⟩
theorem aO {op:CmpOp} {g:D→D→Option D} (ho:OpR X (compareOp op) (rF2 K g d)) (ha:QE X a (tF K p ds ds1 d1 f1)) (hb:QE X b (tF K p ds1 ds2 d2 f2)) (hm:behindInMarks op b=false):QT X (.Compare a [op] [b] pos) (tFT K p ds ds2 (tV (e2 g f1 f2))):=⟨Ae ho ha.h hb.h hm⟩
theorem aH (h:QE X e (tF K p ds ds' d f)) (he:∀ whole,isTrue e X.env whole=(do let v ← whole; standAt e.pos; holding [v] (truthy v))):QT X e (tFT K p ds ds' (tV f)):=⟨Ac h.h he⟩
theorem lU (ha:QT X a (tFT K p ds ds1 c1)):QW X (.BoolOp .And [a] pos) (tFT K p ds ds1 c1):=⟨zZ ha.h⟩
theorem bU (ha:QT X a (tFT K p ds ds1 c1)):QW X (.BoolOp .Or [a] pos) (tFT K p ds ds1 c1):=⟨DJ ha.h⟩
theorem nh {rest:List Expr} (ha:QT X a (tFT K p ds ds1 c1)) (hb:QW X (.BoolOp .And (b :: rest) pos) (tFT K p ds1 ds1 c2)):QW X (.BoolOp .And (a :: b :: rest) pos) (tFT K p ds ds1 (fm c1 c2)):=⟨DK ha.h hb.h⟩
theorem bQ {rest:List Expr} (ha:QT X a (tFT K p ds ds1 c1)) (hb:QW X (.BoolOp .Or (b :: rest) pos) (tFT K p ds1 ds1 c2)):QW X (.BoolOp .Or (a :: b :: rest) pos) (tFT K p ds ds1 (bOr c1 c2)):=⟨ET ha.h hb.h⟩
theorem aN (ha:QT X a (tFT K p ds ds1 c1)):QT X (.UnaryOp .Not a pos) (tFT K p ds ds1 (bu c1)):=⟨Ad ha.h⟩
theorem qU (h:QT X e (tFT K true ds0 ds0 c1)) (hd:leD ds0 ds=true):QT X e (tFT K p ds ds c1):=⟨Af h.h hd⟩
theorem kc {op} (h:QE X a (tF K p ds ds1 d f)):QE X (.BoolOp op [a] pos) (tF K p ds ds1 d f):=⟨D7 h.h⟩
theorem ke {rest:List Expr} (ha:QE X a (tF K p ds ds1 d1 f1)) (hb:QE X (.BoolOp .And (b :: rest) pos) (tF K p ds1 ds1 d f2)):QE X (.BoolOp .And (a :: b :: rest) pos) (tF K p ds ds1 d (jq f1 f2)):=⟨Ej ha.h hb.h⟩
theorem ae  : QA X [] (tFA K p ds ds [] ah):=⟨AE⟩
theorem aa (ha:QE X e (tF K p ds ds1 d f)) (hr:QA X es (tFA K p ds1 ds2 sh fa)) (hs:aY e=true):QA X (e :: es) (tFA K p ds ds2 (.inl d :: sh) (ad f fa)):=⟨tH ha.h hr.h hs⟩
theorem aC {x:Str} (hN:X.N[i]?=some x) (hv:Vis X.env.scope x) (hr:QA X es (tFA K p ds ds2 sh fa)) (hd:(x == ("__debug__" : Str))=false) (hcd:(x == ("__classdict__" : Str))=false):QA X (.Name x pos :: es) (tFA K p ds ds2 (.inr i :: sh) (aS i fa)):=⟨tG hN hv hr.h hd hcd⟩
theorem aT {c:Nat} (h:QA X es (tFA K p ds ds1 sh fa)) (hs:b8 c sh=true) (hd:dn d=c) (hz:d≠0):QE X (.List es pos) (tF K p ds ds1 d (bh fa)):=⟨D9 h.h hs hd hz⟩
theorem aw {c:Nat} {x1} (h:QA X es (tFA K p ds ds1 sh fa)) (hs:b8 c sh=true) (hd:dn d=c):QE X (.Tuple es x1 pos) (tF K p ds ds1 d (aG fa)):=⟨D4 h.h hs hd⟩
theorem ay {id:String} {x:Str} {px:Pos} {g:List D→Option D} (hc:CallR X (.builtin id) (rFn K g d)) (hg:Gl X x) (hm:X.mg x=none) (hv:bootBuiltins x=some (.builtin id)) (ha:QA X (e :: es) (tFA K p ds ds1 sh fa)) (hsh:b8 0 sh=true) (hn:x≠"__name__") (hdb:(x == ("__debug__" : Str))=false) (he:aY e=true) (hpl:es.all aY=true):QE X (.Call (.Name x px) (e :: es) [] pos) (tF K p ds ds1 d (eN g fa)):=⟨tE hc hg hm hv ha.h hsh hn hdb he hpl⟩
theorem b0 {T:String} {x:Str} {px:Pos} {g:List D→Option D} (hc:CallR X (.type T) (rFn K g d)) (hg:Gl X x) (hm:X.mg x=none) (hv:bootBuiltins x=some (.type T)) (ha:QA X (e :: es) (tFA K p ds ds1 sh fa)) (hsh:b8 0 sh=true) (hn:x≠"__name__") (hdb:(x == ("__debug__" : Str))=false) (he:aY e=true) (hpl:es.all aY=true):QE X (.Call (.Name x px) (e :: es) [] pos) (tF K p ds ds1 d (eN g fa)):=⟨rn hc hg hm hv ha.h hsh hn hdb he hpl⟩
theorem aZ {k:Nat} {x:Str} {ps:List Str} {px:Pos} {dps:List Nat} {dr:Nat} {F:List D→Option (D × En)} (G:Kn X.prog X.w X.K X.mg X.base k x ps (spF K dps dr F)) (hr:Room k X.A) (hg:Gl X x) (ha:QA X (e :: es) (tFA K p ds ds1 sh fa)) (hns:hR sh=true) (hcd:eU ds1 sh dps=true) (hdb:(x == ("__debug__" : Str))=false) (he:aY e=true) (hpl:es.all aY=true):QE X (.Call (.Name x px) (e :: es) [] pos) (tF K p ds ds1 dr (ax F fa)):=⟨E6 G hr hg ha.h hns hcd hdb he hpl⟩
theorem aK {k:Nat} {x:Str} {ps:List Str} {px:Pos} {dps:List Nat} {dr:Nat} {F:List D→Option (D × En)} (G:Kn X.prog X.w X.K X.mg X.base k x ps (spF K dps dr F)) (hr:Room k X.A) (hg:Gl X x) (ha:QA X (e :: es) (tFA K false ds ds1 sh fa)) (hcd:eU ds1 sh dps=true) (hdb:(x == ("__debug__" : Str))=false) (he:aY e=true) (hpl:es.all aY=true):QE X (.Call (.Name x px) (e :: es) [] pos) (tF K false ds ds1 dr (ax F fa)):=⟨Ef G hr hg ha.h hcd hdb he hpl⟩
theorem bv {g:D→D→Option D} (ho:IxR X (rF2 K g d)) (ha:QE X a (tF K p ds ds1 d1 f1)) (hb:QE X b (tF K p ds1 ds2 d2 f2)) (hs:eP b):QE X (.Subscript a b pos) (tF K p ds ds2 d (e2 g f1 f2)):=⟨E4 ho ha.h hb.h hs⟩
theorem dN {x:Str} {px:Pos} (hK:X.K=K) (hN:X.N[i]?=some x) (hv:Vis X.env.scope x) (h1:ds1[i]?=some 1) (hb:QE X b (tF K p ds ds1 d1 f)) (hs:eP b) (hd:(x == ("__debug__" : Str))=false) (hcd:(x == ("__classdict__" : Str))=false):QE X (.Subscript (.Name x px) b pos) (tF K p ds ds1 0 (cq i f)):=⟨Ec hK hN hv h1 hb.h hs hd hcd⟩
theorem kd {c:Nat} {x:Str} {px apos cpos:Pos} (hK:X.K=K) (hN:X.N[i]?=some x) (hv:Vis X.env.scope x) (h1:ds1[i]?=some d) (he:QE X e (tF K false ds ds1 c f)) (hz:d≠0) (hc:dn d=c) (hd:(x == ("__debug__" : Str))=false) (hcd:(x == ("__classdict__" : Str))=false) (hbase:attributeBase (.Name x px) "append" X.env (eval (.Name x px) X.env)=eval (.Name x px) X.env) (hfew:((backTo cpos (starEach [e] X.env)).all (fun x=>!x.1) && (backToKw cpos (keywordEach [] X.env)).all (fun x=>x.1.isSome) && decide (([e]:List Expr).length+([]:List Keyword).length+(if ([]:List Keyword).isEmpty then 0 else 1) < 30))=true) (hline:(apos.endLine == cpos.line)=true) (hs:starEach [e] X.env=[(false,eval e X.env)]) (hplain:(backTo cpos (starEach [] X.env)).any (·.1)=false):QE X (.Call (.Attribute (.Name x px) "append" apos) [e] [] cpos) (tF K false ds ds1 3 (gK i f)):=⟨Ei hK hN hv h1 he.h hz hc hd hcd hbase hfew hline hs hplain⟩
theorem cb  : QTs X [] (tFT K p ds ds cY):=⟨Ab⟩
theorem cQ (hc:QT X c (tFT K p ds ds1 c1)):QTs X [c] (tFT K p ds ds1 c1):=⟨Aa hc.h⟩
theorem bR {elt tg iter:Expr} {ifs:List Expr} {scope:Scope} {ns:List Str} {js:List (Option Nat)} {fi:MI} {g:MG} {lk:List Nat} {cd:Nat} (B:BlkOkC X scope ns js) (hc:X.calm=true) (hi:QI X tg iter (tFI K p ds ds1 fi)) (hg:∀ C cl s₀ H₀ fp,QG (aQ X scope ns C cl s₀ H₀ fp) tg (tFG K lk dsi dsi g)) (ht:∀ C cl s₀ H₀ fp,QTs (aQ X scope ns C cl s₀ H₀ fp) ifs (tFT K true dsi dsi c1)) (he:∀ C cl s₀ H₀ fp,QE (aQ X scope ns C cl s₀ H₀ fp) elt (tF K true dsi dsi cd f)) (hcap:fj ds1 js dsi=true) (hd:dn d=cd) (hz:d≠0) (hlk:lk=fh js 0) (hs:∀ x,foldedSetIterable iter X.env x=pure x):QE X (.ListComp elt [⟨tg,iter,ifs,0⟩] scope pos) (tF K p ds ds1 d (eLC true fi g c1 f js)):=⟨E3 B hc hi.h (fun C cl s₀ H₀ fp=>(hg C cl s₀ H₀ fp).h) (fun C cl s₀ H₀ fp=>(ht C cl s₀ H₀ fp).h) (fun C cl s₀ H₀ fp=>(he C cl s₀ H₀ fp).h) hcap hd hz hlk hs⟩
theorem tq {elt tg iter:Expr} {ifs:List Expr} {scope:Scope} {ns:List Str} {js:List (Option Nat)} {fi:MI} {g:MG} {lk:List Nat} {cd:Nat} (B:BlkOkC X scope ns js) (hc:X.calm=true) (hi:QI X tg iter (tFI K false ds ds1 fi)) (hg:∀ C cl s₀ H₀ fp,QG (aQ X scope ns C cl s₀ H₀ fp) tg (tFG K lk dsi dsi g)) (ht:∀ C cl s₀ H₀ fp,QTs (aQ X scope ns C cl s₀ H₀ fp) ifs (tFT K false dsi dsi c1)) (he:∀ C cl s₀ H₀ fp,QE (aQ X scope ns C cl s₀ H₀ fp) elt (tF K false dsi dsi cd f)) (hcap:fj ds1 js dsi=true) (hd:dn d=cd) (hz:d≠0) (hlk:lk=fh js 0) (hs:∀ x,foldedSetIterable iter X.env x=pure x):QE X (.ListComp elt [⟨tg,iter,ifs,0⟩] scope pos) (tF K false ds ds1 d (eLC false fi g c1 f js)):=⟨Ea B hc hi.h (fun C cl s₀ H₀ fp=>(hg C cl s₀ H₀ fp).h) (fun C cl s₀ H₀ fp=>(ht C cl s₀ H₀ fp).h) (fun C cl s₀ H₀ fp=>(he C cl s₀ H₀ fp).h) hcap hd hz hlk hs⟩
end
section
variable {X:Cx} {K:PySem.W.Frag} {p p1 p2 q:Bool} {J:Jd} {ds ds0 ds1 ds2 ds' dsi dps:List Nat} {d d' d1 d2 dr:Nat} {a b c e tg iter:Expr} {es:List Expr} {st:Stmt} {rest body bodyB:List Stmt} {f f1 f2 fk fe:ME} {c1 c2:MT} {fa:MA} {sh:Sh} {pos px:Pos} {i:Nat} {x:Str} {m m1 m2:MS} {g:MG} {gs:List D→En→Option En} {fi:MI} {lk:List Nat}
theorem aM  : QSs X [] (tFS K J ds ds bc):=⟨Ai⟩
theorem ai (h1:QS X st (tFS K J ds ds1 m1)) (h2:QSs X rest (tFS K J ds1 ds2 m2)):QSs X (st :: rest) (tFS K J ds ds2 (au m1 m2)):=⟨sU h1.h h2.h⟩
theorem aj (h1:QS X st (tFS K J ds ds1 m1)):QSs X [st] (tFS K J ds ds1 m1):=⟨Ah h1.h⟩
theorem qV (h:QSs X rest (tFS K J ds ds2 m)) (hd:leD ds1 ds2=true):QSs X rest (tFS K J ds ds1 m):=⟨Ag h.h hd⟩
theorem jk (he:QE X e (tF K false ds ds1 d f)) (hs:swapsWith e none pos.line X.env=pure false):QS X (.Expr e pos) (tFS K J ds ds1 (ik f)):=⟨Ap he.h hs⟩
theorem ar (he:QE X e (tF K false ds ds1 J.dr f)) (hd:leD J.dsr ds1=true):QS X (.Return (some e) pos) (tFS K J ds ds' (aL f)):=⟨An he.h hd⟩
theorem aJ (hc:QT X c (tFT K false ds ds1 c1)) (ha:QSs X body (tFS K J ds1 ds2 m1)) (hb:QSs X bodyB (tFS K J ds1 ds2 m2)):QS X (.If c body bodyB pos) (tFS K J ds ds2 (sIf c1 m1 m2)):=⟨DU hc.h ha.h hb.h⟩
theorem ap {x:Str} {pos':Pos} (hN:X.N.Nodup) (hi:X.N[i]?=some x) (hx:Loc X.env.scope x) (he:QE X e (tF K false ds ds1 d f)) (hds:ds1.set i d=ds') (hl:i < ds1.length) (hk:i ∉ J.lk) (hs:swapsWith e (some (.Name x pos')) pos.line X.env=pure false) (hf:X.fn x=true∨X.env.scope.names.lookup x=some .local):QS X (.Assign [.Name x pos'] e pos) (tFS K J ds ds' (aF i f)):=⟨Am hN hi hx he.h hds hl hk hs hf⟩
theorem nU {x:Str} {spos pos':Pos} {elt:Expr} {ifs:List Expr} {scope:Scope} {ns:List Str} {js:List (Option Nat)} {cd:Nat} (hN:X.N.Nodup) (hi':X.N[i]?=some x) (hx:X.env.scope.names.lookup x=some .local) (B:BlkOkC X scope ns js) (hc:X.calm=true) (hi:QI X tg iter (tFI K false ds ds1 fi)) (hg:∀ C cl s₀ H₀ fp,QG (aQ X scope ns C cl s₀ H₀ fp) tg (tFG K lk dsi dsi g)) (ht:∀ C cl s₀ H₀ fp,QTs (aQ X scope ns C cl s₀ H₀ fp) ifs (tFT K q dsi dsi c1)) (he:∀ C cl s₀ H₀ fp,QE (aQ X scope ns C cl s₀ H₀ fp) elt (tF K q dsi dsi cd f)) (hds:ds1.set i d=ds') (hcap:fj ds1 js dsi=true) (hd:dn d=cd) (hz:d≠0) (hlk:lk=fh js 0) (hl:i < ds1.length) (hk:i ∉ J.lk) (hsw:swapsWith (.ListComp elt [⟨tg,iter,ifs,0⟩] scope pos) (some (.Name x pos')) spos.line X.env=pure true) (hs:∀ x,foldedSetIterable iter X.env x=pure x):QS X (.Assign [.Name x pos'] (.ListComp elt [⟨tg,iter,ifs,0⟩] scope pos) spos) (tFS K J ds ds' (aF i (eLC q fi g c1 f js))):=⟨rd hN hi' hx B hc hi.h (fun C cl s₀ H₀ fp=>(hg C cl s₀ H₀ fp).h) (fun C cl s₀ H₀ fp=>(ht C cl s₀ H₀ fp).h) (fun C cl s₀ H₀ fp=>(he C cl s₀ H₀ fp).h) hds hcap hd hz hlk hl hk hsw hs⟩
theorem iC {c:Nat} {x:Str} {spos:Pos} {k:Expr} (hN:X.N[i]?=some x) (hv:Vis X.env.scope x) (he:QE X e (tF K false ds ds1 c fe)) (hk:QE X k (tF K false ds1 ds2 d2 fk)) (h1:ds2[i]?=some d) (hz:d≠0) (hc:dn d=c) (hdb:(x == ("__debug__" : Str))=false) (hcd:(x == ("__classdict__" : Str))=false) (ha:∀ v,assign (.Subscript (.Name x px) k spos) X.env v=(do
   let ov ← holding [v] (eval (.Name x px) X.env)
   let iv ← holding [v,ov] (eval k X.env)
   standAt spos
   holding [v,ov,iv] (setItem ov iv v)
   release [v,ov,iv] [])) (hs:swapsWithSole [.Subscript (.Name x px) k spos] e pos.line X.env=pure false) (hw:swappedStores [.Subscript (.Name x px) k spos] e X.env=pure none) (h2:(assignEach [.Subscript (.Name x px) k spos] X.env).map (·.2)=[assign (.Subscript (.Name x px) k spos) X.env]):QS X (.Assign [.Subscript (.Name x px) k spos] e pos) (tFS K J ds ds2 (dX i fk fe)):=⟨sX hN hv he.h hk.h h1 hz hc hdb hcd ha hs hw h2⟩
theorem aB {x:Str} (hN:X.N.Nodup) (hi:X.N[i]?=some x) (hx:Loc X.env.scope x) (hds:ds.set i 0=ds') (hl:i < ds.length) (hk:i ∉ lk) (hf:X.fn x=true∨X.env.scope.names.lookup x=some .local):QG X (.Name x pos) (tFG K lk ds ds' (gN i)):=⟨tj hN hi hx hds hl hk hf⟩
theorem iD  : QGs X [] (e8 K lk ds ds gs0):=⟨s0⟩
theorem cE (h1:QG X e (tFG K lk ds ds1 g)) (h2:QGs X es (e8 K lk ds1 ds2 gs)) (hs:(assignEach (e :: es) X.env).map (·.2)=assign e X.env :: (assignEach es X.env).map (·.2)):QGs X (e :: es) (e8 K lk ds ds2 (gsC g gs)):=⟨rh h1.h h2.h hs⟩
theorem jp {k n:Nat} (hK:X.K=K) (hc:X.calm=true) (h:QGs X es (e8 K lk ds ds1 gs)) (hl:∀ ts en,(∃ en',gs ts en=some en')→ts.length=n) (hn:(assignEach es X.env).length=n) (hst:(assignEach es X.env).findIdx? (·.1)=none):QG X (.Tuple es k pos) (tFG K lk ds ds1 (gT gs)):=⟨Ay hK hc h.h hl hn hst⟩
theorem bF (hc:X.calm=true) (hi:QI X tg iter (tFI K false ds ds1 fi)) (hg:QG X tg (tFG K J.lk ds1 ds2 g)) (hb:QSs X body (tFS K { J with dsl:=ds1 } ds2 ds1 m)) (hp:PassesOwn (model X.prog X.w) X.A X.env X.xe) (hs:∀ x,foldedSetIterable iter X.env x=pure x):QS X (.For tg iter body [] pos) (tFS K J ds ds1 (ck fi g m)):=⟨Ao hc hi.h hg.h hb.h hp hs⟩
theorem nT (hc:QT X c (tFT K false ds ds1 c1)) (hb:QSs X body (tFS K { J with dsl:=ds } ds1 ds m)) (hp:PassesOwn (model X.prog X.w) X.A X.env X.xe):QS X (.While c body [] pos) (tFS K J ds ds1 (b9 c1 m)):=⟨qZ hc.h hb.h hp⟩
end
section
variable {X:Cx} {K:PySem.W.Frag} {p:Bool} {ds ds1:List Nat} {d:Nat} {e tg l:Expr} {f:ME} {fa:MA} {sh:Sh}
theorem br (hK:X.K=K) (hl:QE X l (tF K p ds ds1 d f)):QI X tg l (tFI K p ds ds1 (b4 f)):=⟨D1 hK hl.h⟩
theorem cc {a:Expr} {px pos:Pos} (hg:Gl X "range") (hm:X.mg "range"=none) (ha:QA X [a] (tFA K p ds ds1 sh fa)) (hs:aY a=true):QI X tg (.Call (.Name "range" px) [a] [] pos) (tFI K p ds ds1 (ca fa)):=⟨Av hg hm ha.h hs⟩
theorem jo {px pos:Pos} {elts:List Expr} {k:Nat} {tp:Pos} (hK:X.K=K) (hg:Gl X "enumerate") (hm:X.mg "enumerate"=none) (ha:QA X [l] (tFA K p ds ds1 sh fa)) (hs:starEach [l] X.env=[(false,eval l X.env)]):QI X (.Tuple elts k tp) (.Call (.Name "enumerate" px) [l] [] pos) (tFI K p ds ds1 (fT fa)):=⟨Aw hK hg hm ha.h hs⟩
end
section
variable {X:Cx} {K:PySem.W.Frag} {p:Bool} {ds ds1:List Nat} {d1:Nat} {e:Expr} {f:ME}
theorem cg {T:Str} {n:String} {px pt pos:Pos} (hK:X.K=K) (hg:Gl X "isinstance") (hm:X.mg "isinstance"=none) (hgT:Gl X T) (hmT:X.mg T=none) (hbT:bootBuiltins T=some (.type n)) (hT:n∈["int", "bool", "str", "list", "tuple", "dict"]) (he:QE X e (tF K p ds ds1 d1 f)) (hnT:T≠"__name__") (hdT:(T == ("__debug__" : Str))=false) (hs1:starEach [e,.Name T pt] X.env=(false,eval e X.env) :: starEach [.Name T pt] X.env) (hs2:starEach [.Name T pt] X.env=(false,eval (.Name T pt) X.env) :: starEach [] X.env) (hpl:(backTo pos (starEach [.Name T pt] X.env)).any (·.1)=false):QE X (.Call (.Name "isinstance" px) [e,.Name T pt] [] pos) (tF K p ds ds1 3 (e1 (aP n) f)):=⟨Ed hK hg hm hgT hmT hbT hT he.h hnT hdT hs1 hs2 hpl⟩
end
section
variable {X:Cx} {K:PySem.W.Frag} {p:Bool} {J:Jd} {ds ds0 ds1 ds2 ds3 ds':List Nat} {d d' d1 d2 d3:Nat} {a b c e:Expr} {st:Stmt} {f f1 f2 f3:ME} {m:MS} {pos p2:Pos}
theorem rb (h:QS X st (tFS K J ds ds2 m)) (hd:leD ds1 ds2=true):QS X st (tFS K J ds ds1 m):=⟨Al h.h hd⟩
theorem pS {op op':CmpOp} {g g':D→D→Option D} (ho:OpR X (compareOp op) (rF2 K g 3)) (ho':OpR X (compareOp op') (rF2 K g' 3)) (ha:QE X a (tF K p ds ds0 d1 f1)) (hb:QE X b (tF K p ds0 ds1 d2 f2)) (hc:QE X c (tF K p ds1 ds1 d3 f3)) (hm:lastMarks [op,op'] [b,c]=false):QE X (.Compare a [op,op'] [b,c] pos) (tF K p ds ds1 3 (cT g g' f1 f2 f3)):=⟨tz ho ho' ha.h hb.h hc.h hm⟩
theorem iA {op op':CmpOp} {g g':D→D→Option D} (ho:OpR X (compareOp op) (rF2 K g 3)) (ho':OpR X (compareOp op') (rF2 K g' 3)) (ha:QE X a (tF K p ds ds0 d1 f1)) (hb:QE X b (tF K p ds0 ds1 d2 f2)) (hc:QE X c (tF K p ds1 ds1 d3 f3)) (hm:lastMarks [op,op'] [b,c]=false):QT X (.Compare a [op,op'] [b,c] pos) (tFT K p ds ds1 (tV (cT g g' f1 f2 f3))):=⟨sS ho ho' ha.h hb.h hc.h hm⟩
theorem a7  : QO X none (tFO K p ds ds bO):=⟨As⟩
theorem aX (h:QE X e (tF K p ds ds1 d f)):QO X (some e) (tFO K p ds ds1 (bA f)):=⟨Ar h.h⟩
variable {lo hi:MO}
theorem aU {g:D→Option Int→Option Int→Option D} {elo ehi:Option Expr} (hr:SlR X (rFs K g d)) (he:QE X e (tF K p ds ds1 d1 f)) (hl:QO X elo (tFO K p ds1 ds2 lo)) (hu:QO X ehi (tFO K p ds2 ds3 hi)):QE X (.Subscript e (.Slice elo ehi none p2) pos) (tF K p ds ds3 d (eSl g f lo hi)):=⟨tm hr he.h hl.h hu.h⟩
end
section
variable {X:Cx} {K:PySem.W.Frag} {p:Bool} {J:Jd} {ds ds0 ds1 ds2 ds':List Nat} {d d' d1 d2:Nat} {a b c e o k:Expr} {f f1 f2 fk fe:ME} {pos px spos:Pos} {i:Nat} {σ:St} {H:Hp} {Q:VK} {Dn:Ends}
theorem lV  : QE X (.Dict [] [] pos) (tF K p ds ds 3 iI):=⟨AC⟩
end
section
variable {X:Cx} {K:PySem.W.Frag} {p:Bool} {J:Jd} {ds ds0 ds1 ds2 ds':List Nat} {d d' d1 d2:Nat} {a b c e o k:Expr} {es:List Expr} {f f1 f2 fk fe:ME} {fa:MA} {sh:Sh} {pos px spos:Pos} {i j:Nat} {σ:St} {H:Hp} {Q:VK} {Dn:Ends}
end
section
variable {X:Cx} {K:PySem.W.Frag} {p:Bool} {ds ds1:List Nat} {O:AS} {H:Hp} {σ:St} {d:Nat} {f:ME} {i:Nat} {e:Expr} {Q:VK}
end
section
variable {X:Cx} {K:PySem.W.Frag} {p:Bool} {ds ds1:List Nat} {d:Nat} {fa:MA} {sh:Sh} {O O1:AS} {H0 H:Hp} {ts us:List D} {vs ws:List V} {a b:Addr}
end
section
variable {X:Cx} {K:PySem.W.Frag} {p:Bool} {ds ds1:List Nat} {d1:Nat} {e:Expr} {f:ME}
end
section
variable {X:Cx} {K:PySem.W.Frag} {p p1 p2:Bool} {ds ds1 ds2:List Nat} {d d1:Nat} {e:Expr} {f:ME} {fa:MA} {sh:Sh} {σ:St} {H:Hp} {Q:VK}
theorem bZ {o:Expr} {es:List Expr} {name:Str} {id:String} {apos cpos:Pos} {r:V→List V→Hp→VK→Prop} {g:Str→List D→Option D} (hK:X.K=K) (slot:Slot "str" name id) (hty:typeOf (.builtin id)=pure (.type "method_descriptor")) (hm:MtR X id r) (hr:MtF K r g) (ho:QE X o (tF K p ds ds1 d1 f)) (ha:QA X (e :: es) (tFA K p ds1 ds2 sh fa)) (hsh:b8 0 sh=true) (hbase:attributeBase o name X.env (eval o X.env)=eval o X.env) (hfew:((backTo cpos (starEach (e :: es) X.env)).all (fun x=>!x.1) && (backToKw cpos (keywordEach [] X.env)).all (fun x=>x.1.isSome)
   && decide ((e :: es).length+([]:List Keyword).length+(if ([]:List Keyword).isEmpty then 0 else 1) < 30))=true) (hline:(apos.endLine == cpos.line)=true) (hs:starEach (e :: es) X.env=(false,eval e X.env) :: starEach es X.env) (hplain:(backTo cpos (starEach es X.env)).any (·.1)=false):QE X (.Call (.Attribute o name apos) (e :: es) [] cpos) (tF K p ds ds2 3 (eM g f fa)):=⟨AB hK slot hty hm hr ho.h ha.h hsh hbase hfew hline hs hplain⟩
end
section
variable {X:Cx} {K:PySem.W.Frag} {p p1 p2:Bool} {J:Jd} {ds ds1 ds2:List Nat} {H:Hp} {σ:St} {d d1 d2 i m:Nat} {f fk fe:ME} {mp:MP} {e b o:Expr} {Q:VK}
end
section
variable {X:Cx} {K:PySem.W.Frag} {p p1 p2:Bool} {ds ds1 ds2:List Nat} {d d1 d2:Nat} {e k:Expr} {f f1 f2:ME} {fa:MA} {sh:Sh} {σ:St} {H:Hp} {Q Q':VK} {pos pos2 px py:Pos}
end
section
variable {X:Cx} {K:PySem.W.Frag} {p p1 p2:Bool} {ds ds1 ds2:List Nat} {d d1 d2:Nat} {a b:Expr} {f f1 f2:ME} {σ:St} {H:Hp} {Q Q':VK} {pos:Pos} {ta tb:TE} {rest:List Expr}
end
section
variable {X:Cx} {K:PySem.W.Frag} {p p1 p2:Bool} {ds ds1 ds2:List Nat} {d d1 d2:Nat} {a b:Expr} {f f1 f2:ME} {σ:St} {H:Hp} {Q Q':VK} {pos:Pos}
theorem nk (hK:X.K=K) (ha:QE X a (tF K p ds ds1 d f1)) (hb:QE X b (tF K p ds1 ds2 d2 f2)) (hs:eP b) (hz:d≠0):QE X (.Subscript a b pos) (tF K p ds ds2 (dn d) (e2 ixA f1 f2)):=⟨Eb hK ha.h hb.h hs hz⟩
end
section
variable {X:Cx} {K:PySem.W.Frag} {p p1 p2:Bool} {ds ds1 ds2:List Nat} {d d1 d2:Nat} {e:Expr} {f f1 f2:ME} {σ:St} {H:Hp} {Q Q':VK}
end
section
variable {X:Cx} {K:PySem.W.Frag} {p:Bool} {ds ds1 ds2:List Nat} {d d1 d2:Nat} {e:Expr} {f f1 f2:ME} {σ:St} {H:Hp} {Q Q':VK}
theorem nV {o:Expr} {apos cpos:Pos} (hK:X.K=K) (ho:QE X o (tF K p ds ds1 d1 f1)) (he:QE X e (tF K p ds1 ds2 d2 f2)) (hbase:attributeBase o "index" X.env (eval o X.env)=eval o X.env) (hfew:((backTo cpos (starEach [e] X.env)).all (fun x=>!x.1) && (backToKw cpos (keywordEach [] X.env)).all (fun x=>x.1.isSome) && decide (([e]:List Expr).length+([]:List Keyword).length+(if ([]:List Keyword).isEmpty then 0 else 1) < 30))=true) (hline:(apos.endLine == cpos.line)=true) (hs:starEach [e] X.env=[(false,eval e X.env)]) (hplain:(backTo cpos (starEach [] X.env)).any (·.1)=false):QE X (.Call (.Attribute o "index" apos) [e] [] cpos) (tF K p ds ds2 3 (e2 fS f1 f2)):=⟨rk hK ho.h he.h hbase hfew hline hs hplain⟩
theorem nW {o:Expr} {apos cpos:Pos} (hK:X.K=K) (hu:X.A.units+64 < cLine) (ho:QE X o (tF K p ds ds1 d1 f1)) (he:QE X e (tF K p ds1 ds2 d2 f2)) (hbase:attributeBase o "count" X.env (eval o X.env)=eval o X.env) (hfew:((backTo cpos (starEach [e] X.env)).all (fun x=>!x.1) && (backToKw cpos (keywordEach [] X.env)).all (fun x=>x.1.isSome) && decide (([e]:List Expr).length+([]:List Keyword).length+(if ([]:List Keyword).isEmpty then 0 else 1) < 30))=true) (hline:(apos.endLine == cpos.line)=true) (hs:starEach [e] X.env=[(false,eval e X.env)]) (hplain:(backTo cpos (starEach [] X.env)).any (·.1)=false):QE X (.Call (.Attribute o "count" apos) [e] [] cpos) (tF K p ds ds2 3 (e2 fV f1 f2)):=⟨rm hK hu ho.h he.h hbase hfew hline hs hplain⟩
end
section
variable {X:Cx} {K:PySem.W.Frag} {p p1 p2:Bool} {ds ds1 ds2:List Nat} {d d1 d2:Nat} {e k:Expr} {f f1 f2:ME} {fa:MA} {sh:Sh} {σ:St} {H:Hp} {Q Q':VK} {pos pos2 px py:Pos}
theorem nj (hK:X.K=K) (hc:X.calm=true) (hg:Gl X "len") (hm:X.mg "len"=none) (hg2:Gl X "set") (hm2:X.mg "set"=none) (hb:bootBuiltins "len"=some (.builtin "len")) (hb2:bootBuiltins "set"=some (.type "set")) (he:QE X e (tF K p ds ds1 0 f)) (hs:aY e=true):QE X (.Call (.Name "len" px) [.Call (.Name "set" py) [e] [] pos2] [] pos) (tF K p ds ds1 3 (e1 jJ f)):=⟨pR hK hc hg hm hg2 hm2 hb hb2 he.h hs⟩
end
end L2
namespace L2
open PySem PySem.Spec PyProof.Rows
theorem Fun.okQ {P:Program} {w:World} {K:PySem.W.Frag} {mg:Str→Option Value} {base:Heap} {x qual:Str} {st:Stmt} {f:Addr} {fd:FuncData} {N ps:List Str} {k n dr:Nat} {dps ds0:List Nat} {J:Jd} {b:MS}
  (F:Fun K x qual st f fd) (S:FnScope N ps (aq st)) (hl:dps.length=ps.length) (hn:N.length - dps.length=n) (hJ:J=⟨m4 dps,dps++List.replicate n 0,dr,[]⟩) (hd:ds0=dps++List.replicate n 0)
  (hb:∀ (cdv:Value) (A:Around) (outer:List Env) (s:Shared) (H:Hp) (E:XK),Room k (A.deeper (envOfC qual (aq st) s.heap.objs.size f cdv)) →
   QSs (kf CX0 P w K mg base N qual (aq st) f cdv A outer s H E).nox (cF st) (tFS K J ds0 ds0 b)):FnOk P w K mg base CX0 (k+1) f fd ps (spF K dps dr (fnF n dps b)):=by
 subst hJ hd
 exact F.ok S (fun vs H Q E h=>zz hl h) fun cdv A outer s H vs Q E hr h=>⟨_,(hb cdv A outer s H E hr).h,Au hn h⟩
def Dq (F:List D→Option (D × En)):Prop:=∀ ns:List Int,ns.length≤63→∃ outs,F [.list (ns.map .int)]=some (.bool true,outs)
def kr (K:PySem.W.Frag):Sp:=fun vs H Q _=>∃ (a:Addr) (ns:List Int),vs=[.ref a]∧SqL K H a (ns.map V.int)∧(∀ b,H b=none∨∃ o xs,H b=some (.frz o (.lst xs)))∧ns.length≤63∧∀ H':Hp,Q (.bl true) H'
theorem jT {K:PySem.W.Frag} {O:AS} {H:Hp}:∀ ns:List Int,Ows K O H (ns.map .int) 0 (ns.map V.int) NoA
 | []=>rfl
 | n :: r=>⟨.int n,r.map V.int,NoA,NoA,rfl,fun _ z=>z,fun _ z=>z,fun _ z=>z.elim,rfl,jT r⟩
theorem Dp {K:PySem.W.Frag} {dr:Nat} {F:List D→Option (D × En)} (h:Dq F) {vs:List V} {H:Hp} {Q:VK} {E:XK} (q:kr K vs H Q E):spF K [0] dr F vs H Q E:=by
 obtain ⟨a,ns,rfl,hs,_,hl,q⟩:=q
 obtain ⟨outs,e⟩:=h ns hl
 have fz:FzL K (fun _=>False) H a (ns.map V.int):=by
  rcases hs with hs | hs
  ·exact .inl ⟨hs,fun z=>z⟩
  ·exact .inr fun H'=>.inr hs
 have eO:Own (fun _=>NoA) NoA=(fun _=>False):=fH fun b=>⟨fun z=>z.elim (fun ⟨_,z⟩=>z) fun z=>z,fun z=>z.elim⟩
 refine ⟨NoA,[.list (ns.map .int)],fun _=>NoA,.bool true,outs,⟨fun i t hi=>?_,fun _ _ _ z=>z.elim,fun _ _ z=>z.elim,fun b z=>?_,rfl,rfl⟩,e,fun v H' R' Fr _ o=>?_⟩
 ·cases i with
  | zero =>
   have:t=.list (ns.map .int):=by
    have h2:some (some (PyData.list (ns.map .int)))=some (some t):=hi
    injection h2 with h3
    injection h3 with h4
    exact h4.symm
   subst this
   refine ⟨.ref a,0,rfl,rfl,?_⟩
   rw [eO]
   exact ⟨a,ns.map V.int,rfl,.inl ⟨rfl,fz,jT ns⟩⟩
  | succ i=>simp at hi
 ·rw [eO] at z
  exact z.elim
 ·rw [show v=.bl true from o]
  exact q H'
end L2
namespace L2
open PySem PySem.Spec PyProof.Rows
section
variable {c:MT} {b:MS} {en en1 en2:En} {fl:Fl} {t:D}
theorem ig:∀ {n m:Nat} {en:En} {fl:Fl},whN c b n en=some fl→n≤m→whN c b m en=some fl
 | 0,_,_,_,h,_=>by cases h
 | n+1,0,_,_,_,h=>by omega
 | n+1,m+1,en,fl,h,hm=>by
  unfold whN at h ⊢
  obtain ⟨r,h1,h⟩:=Option.bind_eq_some_iff.mp h
  rw [h1]
  show (if r.1=true then _ else _)=_
  by_cases hr:r.1=true
  ·rw [if_pos hr] at h ⊢
   obtain ⟨f1,h2,h⟩:=Option.bind_eq_some_iff.mp h
   rw [h2]
   cases f1 with
   | nx e=>exact ig (n:=n) (m:=m) h (by omega)
   | ct e=>exact ig (n:=n) (m:=m) h (by omega)
   | rt t e=>exact h
  ·rw [if_neg hr] at h ⊢
   exact h
theorem gn {n:Nat} (h:whN c b n en=some fl):b9 c b en=some fl:=by
 have q:∃ n fl,whN c b n en=some fl:=⟨n,fl,h⟩
 unfold b9
 rw [dif_pos q]
 have h2:=q.choose_spec.choose_spec
 have h3:=ig h (Nat.le_max_left n q.choose)
 have h4:=ig h2 (Nat.le_max_right n q.choose)
 rw [h3] at h4
 exact h4.symm
theorem nM (h:c en=some (false,en1)):b9 c b en=some (.nx en1):=by
 refine gn (n:=1) ?_
 unfold whN
 rw [h]
 rfl
theorem nN (h:c en=some (true,en1)) (h1:b en1=some (.nx en2)) (h2:b9 c b en2=some fl):b9 c b en=some fl:=by
 obtain ⟨n,h3⟩:=gF h2
 refine gn (n:=n+1) ?_
 unfold whN
 rw [h]
 show (b en1).bind _=_
 rw [h1]
 exact h3
theorem fE {c:MT} {f:ME} {p:D→Bool} {F:D→D} {rest:En}:∀ (ts acc:List D) (o:Option D),(∀ t∈ts,c (some t :: rest)=some (p t,some t :: rest))→(∀ t∈ts,p t=true→f (some t :: rest)=some (F t,some t :: rest))→acc.length+ts.length≤sizeLine →
  ∃ o',lcF (gN 0) c f ts acc (o :: rest)=some (acc++(ts.filter p).map F,o' :: rest)
 | [],acc,o,_,_,_=>⟨o,by simp [lcF]⟩
 | t :: ts,acc,o,hc,hf,hl=>by
  have hl':acc.length+(ts.length+1)≤sizeLine:=hl
  cases hp:p t with
  | true =>
   obtain ⟨o',h⟩:=fE (c:=c) (f:=f) (p:=p) (F:=F) ts (acc++[F t]) (some t) (fun x hx=>hc x (List.mem_cons_of_mem _ hx)) (fun x hx=>hf x (List.mem_cons_of_mem _ hx)) (by rw [List.length_append]; show acc.length+1+_≤_; omega)
   refine ⟨o',?_⟩
   unfold lcF
   show ((c (some t :: rest)).bind _)=_
   rw [hc t List.mem_cons_self,hp]
   show ((f (some t :: rest)).bind _)=_
   rw [hf t List.mem_cons_self hp]
   show (if acc.length < sizeLine then _ else _)=_
   rw [if_pos (by omega)]
   dsimp only
   rw [h,List.filter_cons_of_pos hp]
   simp
  | false =>
   obtain ⟨o',h⟩:=fE (c:=c) (f:=f) (p:=p) (F:=F) ts acc (some t) (fun x hx=>hc x (List.mem_cons_of_mem _ hx)) (fun x hx=>hf x (List.mem_cons_of_mem _ hx)) (by omega)
   refine ⟨o',?_⟩
   unfold lcF
   show ((c (some t :: rest)).bind _)=_
   rw [hc t List.mem_cons_self,hp]
   show lcF (gN 0) c f ts acc (some t :: rest)=_
   rw [h,List.filter_cons_of_neg (by rw [hp]; decide)]
theorem zV {f:ME} {F:D→D} {rest:En} (ts acc:List D) (o:Option D) (hf:∀ t∈ts,f (some t :: rest)=some (F t,some t :: rest)) (hl:acc.length+ts.length≤sizeLine) :
  ∃ o',lcF (gN 0) cY f ts acc (o :: rest)=some (acc++ts.map F,o' :: rest):=by
 obtain ⟨o',h⟩:=fE (c:=cY) (f:=f) (p:=fun _=>true) (F:=F) ts acc o (fun _ _=>rfl) (fun t ht _=>hf t ht) hl
 rw [List.filter_eq_self.mpr (fun _ _=>rfl)] at h
 exact ⟨o',h⟩
end
section
variable {c c1 c2:MT} {m1 m2 b:MS} {en en1 en2:En} {fl:Fl} {t t1 t2 u:D} {f f1 f2:ME} {g:D→D→Option D} {fa:MA} {i n:Nat} {x y:Bool} {F:List D→Option (D × En)} {as:List (D ⊕ Nat)} {ts:List D} {outs:En} {dps:List Nat}
theorem cS (h1:m1 en=some (.nx en1)) (h2:m2 en1=some fl):au m1 m2 en=some fl:=by unfold au; rw [h1]; exact h2
theorem rz (h1:m1 en=some (.rt t en1)):au m1 m2 en=some (.rt t en1):=by unfold au; rw [h1]; rfl
theorem no {b:Bool} (h1:c en=some (b,en1)) (hb:b=true) (h2:m1 en1=some fl):sIf c m1 m2 en=some fl:=by unfold sIf; rw [h1,hb]; exact h2
theorem np {b:Bool} (h1:c en=some (b,en1)) (hb:b=false) (h2:m2 en1=some fl):sIf c m1 m2 en=some fl:=by unfold sIf; rw [h1,hb]; exact h2
theorem kJ (h:f en=some (t,en1)) (he:en1.set i (some t)=en2):aF i f en=some (.nx en2):=by unfold aF; rw [h,← he]; rfl
theorem pT (h:f en=some (t,en1)):aL f en=some (.rt t en1):=by unfold aL; rw [h]; rfl
theorem bV (h1:f1 en=some (t1,en1)) (h2:f2 en1=some (t2,en2)) (h:g t1 t2=some u):e2 g f1 f2 en=some (u,en2):=by
 unfold e2
 rw [h1]
 show (f2 en1).bind _=_
 rw [h2]
 show (g t1 t2).map _=_
 rw [h]
 rfl
theorem oI {b:Bool} {r:Bool × En} (h1:c1 en=some (b,en1)) (hb:b=true) (h2:c2 en1=some r):fm c1 c2 en=some r:=by unfold fm; rw [h1,hb]; exact h2
theorem AG {b:Bool} (h1:c1 en=some (b,en1)) (hb:b=false):fm c1 c2 en=some (false,en1):=by unfold fm; rw [h1,hb]; rfl
theorem iG {b:Bool} (h:f en=some (.bool b,en1)):tV f en=some (b,en1):=by unfold tV; rw [h]; rfl
theorem pU {g:List D→Option D} (h1:fa en=some (as,en1)) (h2:vals as=some ts) (h:g ts=some t):eN g fa en=some (t,en1):=by
 unfold eN
 rw [h1]
 show (vals as).bind _=_
 rw [h2]
 show (g ts).map _=_
 rw [h]
 rfl
theorem pV {r:MA} (h1:f en=some (t,en1)) (h2:r en1=some (as,en2)):ad f r en=some (.inl t :: as,en2):=by
 unfold ad
 rw [h1]
 show (r en1).map _=_
 rw [h2]
 rfl
theorem rA (h1:fa en=some (as,en1)) (h2:vals as=some ts) (h:ts.length≤sizeLine):bh fa en=some (.list ts,en1):=by
 unfold bh
 rw [h1]
 show (vals as).bind _=_
 rw [h2]
 exact if_pos h
theorem bm:100≤sizeLine:=by rw [sizeLine_eq]; decide
theorem kI (h:b (ts.map some++List.replicate n none)=some (.rt t en)):fnF n dps b ts=some (t,msk dps en):=by
 unfold fnF
 rw [h]
 rfl
end
namespace Pen2
def ce:MS:=(aL (Fj [((eC (.str "script")),(af 0)),((eC (.str "at")),(af 1)),((eC (.str "left")),(eC (.int 0)))]))
def F_law_pen:List D→Option (D × En):=fnF 0 [0,0] ce
end Pen2
end L2
namespace L2
open PySem PySem.Spec PyProof.Rows
theorem Er (a b:Int):eqD (.int a) (.int b)=some (.bool (a == b)):=by
 show grd _ _=_
 unfold grd
 rw [if_pos ⟨rfl,rfl,Nat.zero_le _⟩]
 simp only [peq]
theorem Dk (a b:Int):neD (.int a) (.int b)=some (.bool (!(a == b))):=by
 show grd _ _=_
 unfold grd
 rw [if_pos ⟨rfl,rfl,Nat.zero_le _⟩]
 simp only [peq]
end L2
namespace L2
open PySem PySem.Spec PyProof.Rows
structure Df (K:PySem.W.Frag) (x:Str) (st:Stmt) (f:Addr):Prop where
 a:PySem.W.nsIn K mainGlobals x=some (some (.ref f))
 l:∃ oc od kV dc pm an cd ct sl,K.lookup f=some ⟨oc,od,.func (PySem.W.fnOf x x (dU st) (cF st) (aq st) .none kV dc pm an cd ct),sl⟩∧PySem.W.codeIn K cd x=true
 k:PySem.W.keepIn K (.ref f)=true
section
variable {P:Program} {w:World} {K:PySem.W.Frag} {mg:Str→Option Value} {base h:Heap} {k dr:Nat} {x:Str} {ps:List Str} {dps:List Nat} {f:Addr} {st:Stmt} {sp:Sp}
theorem Df.mk' {oc:Value} {od an:Option Addr} {sl:Array (Option Value)} {kV dc pm cd ct:Value} (a:PySem.W.nsIn K mainGlobals x=some (some (.ref f))) (l:K.lookup f=some ⟨oc,od,.func (PySem.W.fnOf x x (dU st) (cF st) (aq st) .none kV dc pm an cd ct),sl⟩) (c:PySem.W.codeIn K cd x=true) (k:PySem.W.keepIn K (.ref f)=true):Df K x st f :=
 ⟨a,⟨oc,od,kV,dc,pm,an,cd,ct,sl,l,c⟩,k⟩
theorem Df.kn (d:Df K x st f) (X:K.In h) (G:h.Ns mainGlobals mg) (b:∀ (kV doc pm:Value) (an:Option Addr) (cdv ct:Value) (us:List Value),us.length=ps.length→bindArgs (PySem.W.fnOf x x (dU st) (cF st) (aq st) .none kV doc pm an cdv ct) ⟨us,[]⟩=pure (ps.zip us))
  (ok:∀ fd,Fun K x x st f fd→FnOk P w K mg base CX0 k f fd ps sp):Kn P w K mg base k x ps sp:=by
 obtain ⟨_,_,_,_,_,_,_,_,_,l,c⟩:=d.l
 have F:=qT (st:=st) l c d.k
 exact ⟨_,_,ok _ F,PySem.W.mg_of X G d.a,d.k,F.binds b⟩
end
end L2
namespace L2
namespace Pen3
open PySem L2
theorem sl1000:1000≤sizeLine:=by rw [sizeLine_eq]; decide
def ce:MS:=(au (aF 2 (eC (.int 0)))
 (au (sIf (tV (e2 gtI (eN bd (ad (af 0) ah)) (eC (.int 0)))) (aF 2 (e2 ixA (af 0) (e2 bX (af 1) (eN bd (ad (af 0) ah))))) bc)
 (au (sIf (fm (tV (e2 ltI (af 1) (eN bd (ad (af 0) ah)))) (tV (e2 geI (eN p8 (ad (af 2) ah)) (e2 lb (eC (.int 10)) (eC (.int 18)))))) (aL (bh (ad (eN p8 (ad (af 2) ah)) (ad (eC (.int 0)) (ad (eC (.int 0)) ah))))) bc)
 (aL (bh (ad (eC (.int 0)) (ad (e2 bj (e2 bX (af 2) (eC (.int 999999937))) (e2 cO (eC (.int 70001)) (af 1))) (ad (eC (.int 0)) ah))))))))
def F_law_pen:List D→Option (D × En):=fnF 1 [0,0] ce
def cf:MS:=(au (sIf (tV (e2 gtI (cq 0 (eC (.int 0))) (eC (.int 0)))) (au (aF 2 (e2 bX (cq 0 (eC (.int 0))) (af 1)))
 (au (dX 0 (eC (.int 0)) (e2 eT (cq 0 (eC (.int 0))) (af 1)))
 (aL (af 2)))) bc)
 (au (dX 0 (eC (.int 2)) (e2 bj (cq 0 (eC (.int 2))) (eC (.int 1))))
 (au (aF 3 (e2 bX (e2 bj (e2 bj (e2 cO (cq 0 (eC (.int 1))) (eC (.int 48271))) (e2 cO (cq 0 (eC (.int 2))) (eC (.int 39373)))) (eC (.int 11))) (eC (.int 2147483647))))
 (au (aF 3 (e2 bX (e2 cO (af 3) (e2 bj (e2 bX (af 3) (eC (.int 65521))) (cq 0 (eC (.int 2))))) (eC (.int 2147483629))))
 (aL (e2 bX (e2 eT (af 3) (eC (.int 64))) (af 1)))))))
def F_law_draw:List D→Option (D × En):=fnF 2 [1,0] cf
def cm (a b c:Int):D:=.list [.int a,.int b,.int c]
def IsPen (t:D):Prop:=∃ a b c,t=cm a b c
theorem draw_ok {p:D} {m:Int} (hp:IsPen p) (h3:0 < m) (h4:m < 1073741824):∃ r p',F_law_draw [p,.int m]=some (.int r,[some p',none])∧0≤r∧r < m∧IsPen p':=by
 obtain ⟨a,b,c,rfl⟩:=hp
 have cd:∀ z,iU z m:=fun z=>⟨h3,h4⟩
 have md:∀ z,bX (.int z) (.int m)=some (.int (z % m)):=fun z=>if_pos h3
 have dv:∀ z,eT (.int z) (.int m)=some (.int (z / m)):=fun z=>if_pos (cd z)
 by_cases ha:0 < a
 ·refine ⟨a % m,cm (a / m) b c,?_,Int.emod_nonneg _ (by omega),Int.emod_lt_of_pos _ h3,_,_,_,rfl⟩
  refine kI (b:=cf) (en:=[some (cm (a / m) b c),some (.int m),some (.int (a % m)),none]) (rz (no (b:=decide ((0:Int) < a)) rfl (decide_eq_true ha) (cS (en1:=[some (cm a b c),some (.int m),some (.int (a % m)),none]) (kJ (bV (t1:=.int a) (t2:=.int m) rfl rfl (md a)) rfl) (cS (en1:=[some (cm (a / m) b c),some (.int m),some (.int (a % m)),none]) ?_ rfl))))
  unfold dX
  rw [bV (t1:=.int a) (t2:=.int m) (f1:=cq 0 (eC (.int 0))) (f2:=af 1) (g:=eT) (en:=[some (cm a b c),some (.int m),some (.int (a % m)),none]) (en1:=[some (cm a b c),some (.int m),some (.int (a % m)),none]) (en2:=[some (cm a b c),some (.int m),some (.int (a % m)),none]) rfl rfl (dv a)]
  rfl
 ·generalize g1:(b * 48271+(c+1) * 39373+11) % 2147483647=x
  have x0:0≤x:=by omega
  have x1:x < 2147483647:=by omega
  generalize g2:x * (x % 65521+(c+1)) % 2147483629=y
  refine ⟨y / 64 % m,cm a b (c+1),?_,Int.emod_nonneg _ (by omega),Int.emod_lt_of_pos _ h3,_,_,_,rfl⟩
  have c1:cO (.int b) (.int 48271)=some (.int (b * 48271)):=if_pos (.inr (by decide))
  have c2:cO (.int (c+1)) (.int 39373)=some (.int ((c+1) * 39373)):=if_pos (.inr (by decide))
  have c3:cO (.int x) (.int (x % 65521+(c+1)))=some (.int (x * (x % 65521+(c+1)))):=if_pos (.inl (by constructor <;> omega))
  have c80:iU y 64:=⟨by decide,by decide⟩
  have c8:eT (.int y) (.int 64)=some (.int (y / 64)):=by
   show (if iU y 64 then some (PyData.int (y / 64)) else none)=_
   rw [if_pos c80]
  refine kI (b:=cf) (en:=[some (cm a b (c+1)),some (.int m),none,some (.int y)]) (cS (en1:=[some (cm a b c),some (.int m),none,none]) (np (b:=decide ((0:Int) < a)) rfl (decide_eq_false ha) rfl)
   (cS (en1:=[some (cm a b (c+1)),some (.int m),none,none]) rfl
   (cS (en1:=[some (cm a b (c+1)),some (.int m),none,some (.int x)]) (kJ (bV (t2:=.int 2147483647) (bV (bV (bV (t1:=.int b) (t2:=.int 48271) rfl rfl c1) (bV (t1:=.int (c+1)) (t2:=.int 39373) rfl rfl c2) rfl) rfl rfl) rfl (by rw [← g1]; rfl)) rfl)
   (cS (en1:=[some (cm a b (c+1)),some (.int m),none,some (.int y)]) (kJ (bV (t2:=.int 2147483629) (bV (t1:=.int x) (t2:=.int (x % 65521+(c+1))) rfl (bV (t1:=.int (x % 65521)) (t2:=.int (c+1)) rfl rfl rfl) c3) rfl (by rw [← g2]; rfl)) rfl)
   (pT (bV (t2:=.int m) (bV (t1:=.int y) (t2:=.int 64) rfl rfl c8) rfl (md _)))))))
theorem pen_ok {ns:List Int} {k:Int} (h0:0≤k):∃ p,F_law_pen [.list (ns.map .int),.int k]=some (p,[none,none])∧IsPen p:=by
 have len:bd [.list (ns.map .int)]=some (.int ns.length):=by show some (PyData.int (ns.map PyData.int).length)=_; rw [List.length_map]
 have ln:∀ (y:Option D),(eN bd (ad (af 0) ah)) [some (.list (ns.map .int)),some (.int k),y]=some (.int ns.length,[some (.list (ns.map .int)),some (.int k),y]):=fun y=>pU rfl rfl len
 have mk0:CMul 70001 k:=.inl (by decide)
 have mk:cO (.int 70001) (.int k)=some (.int (70001 * k)):=by
  show (if CMul 70001 k then some (PyData.int (70001 * k)) else none)=_
  rw [if_pos mk0]
 have pw:lb (.int 10) (.int 18)=some (.int 1000000000000000000):=by
  show (if gR 10 18 then some (PyData.int (10 ^ Int.toNat 18)) else none)=_
  rw [if_pos (by unfold gR; decide)]; rfl
 obtain ⟨c,st⟩:∃ c:Int,(sIf (tV (e2 gtI (eN bd (ad (af 0) ah)) (eC (.int 0)))) (aF 2 (e2 ixA (af 0) (e2 bX (af 1) (eN bd (ad (af 0) ah))))) bc) [some (.list (ns.map .int)),some (.int k),some (.int 0)]=some (.nx [some (.list (ns.map .int)),some (.int k),some (.int c)]):=by
  by_cases hn:(0:Int) < ns.length
  ·obtain ⟨j,ej⟩:∃ j:Nat,ixN ns.length (k % ns.length)=some j∧j < ns.length:=by
    have q1:0≤k % (ns.length:Int):=Int.emod_nonneg _ (by omega)
    have q2:k % (ns.length:Int) < ns.length:=Int.emod_lt_of_pos _ (by omega)
    exact ⟨(k % (ns.length:Int)).toNat,by unfold ixN; rw [if_pos q1,if_pos q2],by omega⟩
   obtain ⟨c,ec⟩:∃ c,ns[j]?=some c:=⟨_,List.getElem?_eq_getElem ej.2⟩
   have at1:ixA (.list (ns.map .int)) (.int (k % ns.length))=some (.int c):=by
    show atI _ _=_
    unfold atI
    rw [List.length_map,ej.1]
    show (ns.map PyData.int)[j]?=_
    rw [List.getElem?_map,ec]
    rfl
   have ml:bX (.int k) (.int ns.length)=some (.int (k % ns.length)):=if_pos hn
   exact ⟨c,no (iG (bV (ln _) rfl rfl)) (decide_eq_true hn) (kJ (bV rfl (bV rfl (ln _) ml) at1) rfl)⟩
  ·exact ⟨0,np (iG (bV (ln _) rfl rfl)) (decide_eq_false hn) rfl⟩
 obtain ⟨b,ab⟩:∃ b,p8 [.int c]=some (.int b):=⟨if c < 0 then -c else c,rfl⟩
 have l3:∀ x y z:D,[x,y,z].length≤sizeLine:=fun x y z=>Nat.le_trans (by show 3≤1000; decide) sl1000
 have fin:(aL (bh (ad (eC (.int 0)) (ad (e2 bj (e2 bX (af 2) (eC (.int 999999937))) (e2 cO (eC (.int 70001)) (af 1))) (ad (eC (.int 0)) ah))))) [some (.list (ns.map .int)),some (.int k),some (.int c)]=some (.rt (cm 0 (c % 999999937+70001 * k) 0) [some (.list (ns.map .int)),some (.int k),some (.int c)]) :=
  pT (rA (pV rfl (pV (bV (t1:=.int (c % 999999937)) (t2:=.int (70001 * k)) rfl (bV rfl rfl mk) rfl) rfl)) rfl (l3 _ _ _))
 by_cases h1:(k < (ns.length:Int))∧(1000000000000000000≤b)
 ·refine ⟨cm b 0 0,kI (b:=ce) (en:=[some (.list (ns.map .int)),some (.int k),some (.int c)]) (cS (en1:=[some (.list (ns.map .int)),some (.int k),some (.int 0)]) rfl (cS st (rz (no (b:=true) (oI (b:=decide (k < (ns.length:Int))) (iG (bV rfl (ln _) rfl)) (decide_eq_true h1.1) (iG (bV (pU rfl rfl ab) (bV rfl rfl pw) (congrArg (fun q=>some (PyData.bool q)) (decide_eq_true h1.2))))) rfl (pT (rA (pV (pU rfl rfl ab) rfl) rfl (l3 _ _ _))))))),_,_,_,rfl⟩
 ·refine ⟨_,kI (b:=ce) (en:=[some (.list (ns.map .int)),some (.int k),some (.int c)]) (cS (en1:=[some (.list (ns.map .int)),some (.int k),some (.int 0)]) rfl (cS st (cS (en1:=[some (.list (ns.map .int)),some (.int k),some (.int c)]) (np (b:=false) ?_ rfl rfl) fin))),_,_,_,rfl⟩
  by_cases h2:k < (ns.length:Int)
  ·exact oI (b:=decide (k < (ns.length:Int))) (iG (bV rfl (ln _) rfl)) (decide_eq_true h2) (iG (bV (pU rfl rfl ab) (bV rfl rfl pw) (congrArg (fun q=>some (PyData.bool q)) (decide_eq_false fun z=>h1 ⟨h2,z⟩))))
  ·exact AG (b:=decide (k < (ns.length:Int))) (iG (bV rfl (ln _) rfl)) (decide_eq_false h2)
end Pen3
end L2
namespace L2
open PySem PySem.Spec PyProof.Rows
structure W {α:Type} (x:Option α) (Q:α→Prop):Prop where
 ex:∃ a,x=some a∧Q a
theorem az {α:Type} (a:α) (Q:α→Prop):W (some a) Q=Q a:=propext ⟨fun ⟨b,e,h⟩=>(Option.some.inj e) ▸ h,fun h=>⟨a,rfl,h⟩⟩
theorem bo {α:Type} (Q:α→Prop):W (none:Option α) Q=False:=propext ⟨(fun ⟨b,e,h⟩=>by cases e),(fun h=>h.elim)⟩
theorem W.use {α:Type} {x:Option α} {P Q:α→Prop} (h:W x P) (k:∀ a,P a→Q a):W x Q :=
 let ⟨a,e,h⟩:=h.ex
 ⟨a,e,k a h⟩
theorem W.of {α:Type} {x:Option α} {P:α→Prop} {a:α} (e:x=some a) (h:P a):W x P:=⟨a,e,h⟩
theorem aA {α β:Type} (x:Option α) (f:α→Option β) (Q:β→Prop):W (x.bind f) Q=W x (fun a=>W (f a) Q):=by
 cases x with
 | none=>show W none _=_; rw [bo,bo]
 | some a=>show W (f a) Q=_; rw [az]
theorem bz {α β:Type} (x:Option α) (f:α→β) (Q:β→Prop):W (x.map f) Q=W x (fun a=>Q (f a)):=by
 cases x with
 | none=>show W none _=_; rw [bo,bo]
 | some a=>show W (some (f a)) Q=_; rw [az,az]
theorem gx {α:Type} (c:Prop) [Decidable c] (a:α) (Q:α→Prop):W (grd c a) Q=(c∧Q a):=by
 unfold grd
 by_cases h:c
 ·rw [if_pos h,az]; exact propext ⟨fun z=>⟨h,z⟩,fun z=>z.2⟩
 ·rw [if_neg h,bo]; exact propext ⟨fun z=>z.elim,fun z=>h z.1⟩
theorem fY {α:Type} (c:Prop) [Decidable c] (a:α) (Q:α→Prop):W (if c then some a else none) Q=(c∧Q a):=gx c a Q
theorem qa {α:Type} (c:Prop) [Decidable c] (x:Option α) (Q:α→Prop):W (if c then x else none) Q=(c∧W x Q):=by
 by_cases h:c
 ·rw [if_pos h]; exact propext ⟨fun z=>⟨h,z⟩,fun z=>z.2⟩
 ·rw [if_neg h,bo]; exact propext ⟨fun z=>z.elim,fun z=>h z.1⟩
def gv (en:En) (i:Nat):Option D:=(en[i]?).join
def fQ (ts:List D) (n:Int) (t:D):Option (List D):=(ixN ts.length n).map fun k=>ts.set k t
def C7 (ts:List D) (n:Int):Option (D × List D):=(seqIndex? n ts.length).bind fun k=>(ts[k]?).map fun t=>(t,ts.eraseIdx k)
def il (i:Int) (n:Nat):List D:=(List.range n).map fun k=>.int (i+(k:Nat))
section
variable {α β:Type}
def lw (b:MS) (Q:Fl→Prop):Fl→Prop:=fun fl=>W (match fl with | .nx en1=>b en1 | .rt t en1=>some (.rt t en1) | .ct en1=>some (.ct en1)) Q
def Dx (i:Nat) (Q:Fl→Prop):D × En→Prop:=fun r=>Q (.nx (r.2.set i (some r.1)))
def DD (Q:Fl→Prop):D × En→Prop:=fun r=>Q (.nx r.2)
def Dy (Q:Fl→Prop):D × En→Prop:=fun r=>Q (.rt r.1 r.2)
def kIf (f g:En→Option β) (Q:β→Prop):Bool × En→Prop:=fun r=>W (if r.1 then f r.2 else g r.2) Q
def DC (g:MG) (b:MS) (Q:Fl→Prop):List D × En→Prop:=fun r=>W (b6 g b r.1 r.2) Q
def kB (g:MG) (b:MS) (ts:List D) (Q:Fl→Prop):Fl→Prop:=fun fl=>W (match fl with | .nx en2=>b6 g b ts en2 | .ct en2=>b6 g b ts en2 | .rt r en2=>some (.rt r en2)) Q
def zg (g:MG) (b:MS) (ts:List D) (Q:Fl→Prop):En→Prop:=fun en=>W (b en) (kB g b ts Q)
def sJ (i:Nat) (en:En) (Q:Fl→Prop):List D→Prop:=fun ts=>Q (.nx (en.set i (some (.list ts))))
def kA (i:Nat) (t:D) (Q:Fl→Prop):D × En→Prop:=fun q=>W (match q.1,(q.2[i]?).join with | .int n,some (.list ts)=>(ixN ts.length n).map fun k=>.nx (q.2.set i (some (.list (ts.set k t)))) | _,_=>none) Q
def pv (i:Nat) (fk:ME) (Q:Fl→Prop):D × En→Prop:=fun r=>W (match (r.2[i]?).join with | some _=>((fk r.2).bind fun q=>(match q.1,(q.2[i]?).join with | .int n,some (.list ts)=>(ixN ts.length n).map fun k=>.nx (q.2.set i (some (.list (ts.set k r.1)))) | _,_=>none)) | none=>none) Q
def qN (i:Nat) (t:D) (fk:ME) (en:En) (Q:Fl→Prop):D→Prop:=fun _x=>W (fk en) (kA i t Q)
def m7 (i:Nat) (t:D) (n:Int) (en:En) (Q:Fl→Prop):D→Prop:=fun x=>W (match x with | .list ts=>(ixN ts.length n).map fun k=>.nx (en.set i (some (.list (ts.set k t)))) | _=>none) Q
def eG (en:En) (Q:D × En→Prop):D→Prop:=fun t=>Q (t,en)
def k1 (g:D→Option D) (Q:D × En→Prop):D × En→Prop:=fun r=>W (g r.1) (eG r.2 Q)
def k2b (g:D→D→Option D) (t:D) (Q:D × En→Prop):D × En→Prop:=fun q=>W (g t q.1) (eG q.2 Q)
def k2 (g:D→D→Option D) (f:ME) (Q:D × En→Prop):D × En→Prop:=fun r=>W (f r.2) (k2b g r.1 Q)
def sN (g:ME) (Q:D × En→Prop):D × En→Prop:=fun r=>W (match r.1 with | .bool true=>g r.2 | .bool false=>some (.bool false,r.2) | _=>none) Q
def kTV (Q:Bool × En→Prop):D × En→Prop:=fun r=>W (match r.1 with | .bool b=>some (b,r.2) | _=>none) Q
def pH (g:MT) (Q:Bool × En→Prop):Bool × En→Prop:=fun r=>W (if r.1 then g r.2 else some (false,r.2)) Q
def sM (g:MT) (Q:Bool × En→Prop):Bool × En→Prop:=fun r=>W (if r.1 then some (true,r.2) else g r.2) Q
def zl (Q:Bool × En→Prop):Bool × En→Prop:=fun r=>Q (!r.1,r.2)
def sP (t:D) (Q:List (D ⊕ Nat) × En→Prop):List (D ⊕ Nat) × En→Prop:=fun y=>Q (.inl t :: y.1,y.2)
def kAC (r:MA) (Q:List (D ⊕ Nat) × En→Prop):D × En→Prop:=fun x=>W (r x.2) (sP x.1 Q)
def sO (i:Nat) (Q:List (D ⊕ Nat) × En→Prop):List (D ⊕ Nat) × En→Prop:=fun y=>Q (.inr i :: y.1,y.2)
def kAS (i:Nat) (r:MA) (en:En) (Q:List (D ⊕ Nat) × En→Prop):D→Prop:=fun _x=>W (r en) (sO i Q)
def kN2 (g:List D→Option D) (en:En) (Q:D × En→Prop):List D→Prop:=fun ts=>W (g ts) (eG en Q)
def kN (g:List D→Option D) (Q:D × En→Prop):List (D ⊕ Nat) × En→Prop:=fun r=>W (vals r.1) (kN2 g r.2 Q)
def pC (en:En) (Q:D × En→Prop):List D→Prop:=fun ts=>W (if ts.length≤sizeLine then some (.list ts,en) else none) Q
def DA (Q:D × En→Prop):List (D ⊕ Nat) × En→Prop:=fun r=>W (vals r.1) (pC r.2 Q)
def pr (en:En) (Q:D × En→Prop):List D→Prop:=fun ts=>W (if ts.length≤sizeLine then some (.tuple ts,en) else none) Q
def Dw (Q:D × En→Prop):List (D ⊕ Nat) × En→Prop:=fun r=>W (vals r.1) (pr r.2 Q)
def m8 (as:List (D ⊕ Nat)) (en:En) (Q:D × En→Prop):D × En→Prop:=fun q=>Q (q.1,wb as q.2 en)
def m9 (F:List D→Option (D × En)) (as:List (D ⊕ Nat)) (en:En) (Q:D × En→Prop):List D→Prop:=fun ts=>W (F ts) (m8 as en Q)
def zh (F:List D→Option (D × En)) (Q:D × En→Prop):List (D ⊕ Nat) × En→Prop:=fun r=>W (dZ r.1 r.2) (m9 F r.1 r.2 Q)
def kFn (dps:List Nat) (Q:D × En→Prop):Fl→Prop:=fun fl=>W (match fl with | .rt t en=>some (t,msk dps en) | .nx en=>some (.none,msk dps en) | .ct _=>none) Q
def pF (q:Bool) (js:List (Option Nat)) (en:En) (Q:D × En→Prop):List D × En→Prop:=fun z=>Q (.list z.1,if q then en else wbB js z.2 en)
def kLC (q:Bool) (g:MG) (c:MT) (f:ME) (js:List (Option Nat)) (Q:D × En→Prop):List D × En→Prop:=fun r=>W (lcF g c f r.1 [] (cK js r.2)) (pF q js r.2 Q)
def kL3 (g:MG) (c:MT) (f:ME) (ts acc:List D) (Q:List D × En→Prop):D × En→Prop:=fun q=>W (if acc.length < sizeLine then lcF g c f ts (acc++[q.1]) q.2 else none) Q
def kL2 (g:MG) (c:MT) (f:ME) (ts acc:List D) (Q:List D × En→Prop):Bool × En→Prop:=fun r=>W (if r.1 then (f r.2).bind fun q=>if acc.length < sizeLine then lcF g c f ts (acc++[q.1]) q.2 else none else lcF g c f ts acc r.2) Q
def kL1 (g:MG) (c:MT) (f:ME) (ts acc:List D) (Q:List D × En→Prop):En→Prop:=fun en=>W (c en) (kL2 g c f ts acc Q)
def pJ (Q:List D × En→Prop):D × En→Prop:=fun r=>W ((yS r.1).map fun ts=>(ts,r.2)) Q
def kR1 (Q:List D × En→Prop):List (D ⊕ Nat) × En→Prop:=fun r=>W (match r.1 with | [.inl (.int j)]=>if -(2 ^ 62)≤j∧j < 2 ^ 62 then some ((List.range j.toNat).map fun k=>.int (0+(k:Nat)),r.2) else none | _=>none) Q
def kEn (Q:List D × En→Prop):List (D ⊕ Nat) × En→Prop:=fun r=>W (match r.1 with | [.inl (.list ts)]=>some (b5 ts,r.2) | [.inl (.tuple ts)]=>some (b5 ts,r.2) | _=>none) Q
def qM (n:Int) (en:En) (Q:D × En→Prop):D→Prop:=fun x=>W (match x with | .list ts=>(atI ts n).map fun t=>(t,en) | _=>none) Q
def kz (i:Nat) (Q:D × En→Prop):D × En→Prop:=fun r=>W (match r.1,(r.2[i]?).join with | .int n,some (.list ts)=>(atI ts n).map fun t=>(t,r.2) | _,_=>none) Q
def zc (i:Nat) (f:ME) (en:En) (Q:D × En→Prop):D→Prop:=fun _x=>W (f en) (kz i Q)
def pI (i:Nat) (Q:D × En→Prop):D × En→Prop:=fun r=>W (match (r.2[i]?).join with | some (.list ts)=>if ts.length < sizeLine then some (PyData.none,r.2.set i (some (.list (ts++[r.1])))) else none | _=>none) Q
def zm (i:Nat) (t:D) (en:En) (Q:D × En→Prop):D→Prop:=fun x=>W (match x with | .list ts=>if ts.length < sizeLine then some (PyData.none,en.set i (some (.list (ts++[t])))) else none | _=>none) Q
def DF (i:Nat) (f:ME) (en:En) (Q:D × En→Prop):D→Prop:=fun x=>W (match x with | .list _=>((f en).bind fun r=>(match (r.2[i]?).join with | some (.list ts)=>if ts.length < sizeLine then some (PyData.none,r.2.set i (some (.list (ts++[r.1])))) else none | _=>none)) | _=>none) Q
def pG (g:D→D→Option D) (t:D) (f:ME) (en:En) (Q:D × En→Prop):D→Prop:=fun x=>W (match x with | .bool true=>(f en).bind fun z=>(g t z.1).map fun t=>(t,z.2) | .bool false=>some (.bool false,en) | _=>none) Q
def sL (g g2:D→D→Option D) (f3:ME) (t:D) (Q:D × En→Prop):D × En→Prop:=fun q=>W (g t q.1) (pG g2 q.1 f3 q.2 Q)
def kCh (g g2:D→D→Option D) (f2 f3:ME) (Q:D × En→Prop):D × En→Prop:=fun r=>W (f2 r.2) (sL g g2 f3 r.1 Q)
def kOS (Q:Option Int × En→Prop):D × En→Prop:=fun r=>W (match r.1 with | .int i=>some (some i,r.2) | _=>none) Q
def sH (g:D→Option Int→Option Int→Option D) (t:D) (lo:Option Int) (Q:D × En→Prop):Option Int × En→Prop:=fun h=>W (g t lo h.1) (eG h.2 Q)
def sI (g:D→Option Int→Option Int→Option D) (t:D) (hi:MO) (Q:D × En→Prop):Option Int × En→Prop:=fun l=>W (hi l.2) (sH g t l.1 Q)
def kSl (g:D→Option Int→Option Int→Option D) (lo hi:MO) (Q:D × En→Prop):D × En→Prop:=fun r=>W (lo r.2) (sI g r.1 hi Q)
def kM2 (g:Str→List D→Option D) (z:Str) (en:En) (Q:D × En→Prop):List D→Prop:=fun ts=>W (g z ts) (eG en Q)
def kM1 (g:Str→List D→Option D) (z:Str) (Q:D × En→Prop):List (D ⊕ Nat) × En→Prop:=fun q=>W (vals q.1) (kM2 g z q.2 Q)
def kM (g:Str→List D→Option D) (fa:MA) (Q:D × En→Prop):D × En→Prop:=fun r=>W (match r.1 with | .str z=>(fa r.2).bind fun q=>(vals q.1).bind fun ts=>(g z ts).map fun t=>(t,q.2) | _=>none) Q
def kIt (J:En→Prop) (Q:Fl→Prop):Fl→Prop:=fun fl=>match fl with | .nx e=>J e | .ct e=>J e | .rt t e=>Q (.rt t e)
def sK (us:List D) (J:List D→En→Prop):D × En→Prop:=fun r=>J (us++[r.1]) r.2
def pE (f:ME) (us:List D) (J:List D→En→Prop):Bool × En→Prop:=fun r=>if r.1 then W (f r.2) (sK us J) else J us r.2
def DB (c:MT) (f:ME) (us:List D) (J:List D→En→Prop):En→Prop:=fun en=>W (c en) (pE f us J)
def kWh (b:MS) (J:En→Prop) (Q:Fl→Prop):Bool × En→Prop:=fun r=>if r.1 then W (b r.2) (kIt J Q) else Q (.nx r.2)
def kFg (b:MS) (J:En→Prop) (Q:Fl→Prop):En→Prop:=fun en=>W (b en) (kIt J Q)
def ze (i:Nat) (en:En) (Q:D × En→Prop):D × List D→Prop:=fun r=>Q (r.1,en.set i (some (.list r.2)))
def pA (i:Nat) (n:Int) (en:En) (Q:D × En→Prop):D→Prop:=fun x=>W (match x with | .list ts=>(if -(2 ^ 63)≤n∧n < 2 ^ 63 then (seqIndex? n ts.length).bind fun k=>(ts[k]?).map fun t=>(t,en.set i (some (.list (ts.eraseIdx k)))) else none) | _=>none) Q
def pB (i:Nat) (Q:D × En→Prop):D × En→Prop:=fun r=>W (match r.1,(r.2[i]?).join with | .int n,some (.list ts)=>(if -(2 ^ 63)≤n∧n < 2 ^ 63 then (seqIndex? n ts.length).bind fun k=>(ts[k]?).map fun t=>(t,r.2.set i (some (.list (ts.eraseIdx k)))) else none) | _,_=>none) Q
def Dz (i:Nat) (f:ME) (en:En) (Q:D × En→Prop):D→Prop:=fun x=>W (match x with | .list _=>(f en).bind (fun r=>match r.1,(r.2[i]?).join with | .int n,some (.list ts)=>(if -(2 ^ 63)≤n∧n < 2 ^ 63 then (seqIndex? n ts.length).bind fun k=>(ts[k]?).map fun t=>(t,r.2.set i (some (.list (ts.eraseIdx k)))) else none) | _,_=>none) | _=>none) Q
def kS1 (Q:D→Prop):Nat→Prop:=fun c=>Q (.str (mk1 c))
def kGs (q:List D→En→Option En) (ts:List D) (Q:En→Prop):En→Prop:=fun en=>W (q ts en) Q
def kC (t:D) (Q:List D→Prop):List D→Prop:=fun ts=>Q (t :: ts)
def DE (r:List (D ⊕ Nat)) (en:En) (Q:List D→Prop):D→Prop:=fun t=>W (dZ r en) (kC t Q)
theorem a9 {α:Type} (ts:List α) (n:Nat):atI ts (n:Int)=ts[n]?:=by
 unfold atI ixN
 rw [if_pos (by omega)]
 by_cases h:n < ts.length
 ·rw [if_pos (by omega)]; rfl
 ·rw [if_neg (by omega),List.getElem?_eq_none (by omega)]; rfl
theorem dM {ts:List D} {t:D} (n:Nat) (h:n < ts.length):fQ ts (n:Int) t=some (ts.set n t):=by
 unfold fQ ixN
 rw [if_pos (by omega),if_pos (by omega)]
 rfl
theorem AJ (x:D) (l:List D):bt (x :: l) (some 1) none=l:=by
 unfold bt
 rw [HT.sIx_none,show (some (1:Int))=some ((1:Nat):Int) from rfl,HT.sIx_nat,Nat.min_eq_left (by simp),List.drop_one]
 exact List.take_of_length_le (by simp)
theorem Fm (x:D) (l:List D):(HT.sIx (x :: l).length 0 (some 1)=0)=False:=by
 rw [show (some (1:Int))=some ((1:Nat):Int) from rfl,HT.sIx_nat,Nat.min_eq_left (by simp)]
 exact eq_false (by decide)
theorem oE (a b:Int):(a == b)=decide (a=b):=by
 by_cases h:a=b
 ·rw [h,decide_eq_true rfl]; exact beq_self_eq_true b
 ·rw [decide_eq_false h]; exact beq_eq_false_iff_ne.mpr h
theorem AH (a b:Bool):eqD (.bool a) (.bool b)=some (.bool (a == b)):=by
 show grd _ _=_
 unfold grd
 rw [if_pos ⟨rfl,rfl,Nat.zero_le _⟩]
 simp only [peq]
theorem zT (a b:Bool):neD (.bool a) (.bool b)=some (.bool (!(a == b))):=by
 show grd _ _=_
 unfold grd
 rw [if_pos ⟨rfl,rfl,Nat.zero_le _⟩]
 simp only [peq]
theorem gY (a b:Str):(a == b)=decide (a=b):=by
 by_cases h:a=b
 ·rw [h,decide_eq_true rfl]; exact beq_self_eq_true b
 ·rw [decide_eq_false h]; exact beq_eq_false_iff_ne.mpr h
theorem Eo (a b:Str):eqD (.str a) (.str b)=some (.bool (decide (a=b))):=by
 show grd _ _=_
 unfold grd
 rw [if_pos ⟨rfl,rfl,Nat.zero_le _⟩,← gY]
 simp only [peq]
theorem Di (a b:Str):neD (.str a) (.str b)=some (.bool (!decide (a=b))):=by
 show grd _ _=_
 unfold grd
 rw [if_pos ⟨rfl,rfl,Nat.zero_le _⟩,← gY]
 simp only [peq]
theorem Ep:eqD (.list []) (.list [])=some (.bool true):=by
 show grd _ _=_
 unfold grd
 rw [if_pos ⟨rfl,rfl,by decide⟩]
 rfl
theorem Dj:neD (.list []) (.list [])=some (.bool false):=by
 show grd _ _=_
 unfold grd
 rw [if_pos ⟨rfl,rfl,by decide⟩]
 rfl
variable (en:En) (Qs:Fl→Prop) (Qe:D × En→Prop) (Qb:Bool × En→Prop) (Qa:List (D ⊕ Nat) × En→Prop) (Ql:List D × En→Prop) (Qd:D→Prop) (Qt:List D→Prop) (Qn:En→Prop) (f:ME) (g:MG) (fa:MA) (c:MT) (ts:List D) (i:Nat)
theorem ws0 (α:Type) (a:α) (Q:α→Prop):W (some a) Q=Q a:=az _ _
theorem ws1 (α:Type) (Q:α→Prop):W (none:Option α) Q=False:=bo _
theorem ws2 (α:Type) (c:Prop) (_:Decidable c) (a:α) (Q:α→Prop):W (grd c a) Q=(c∧Q a):=gx c a Q
theorem ws3 (a:Option D) (l:En):gv (a :: l) 0=a:=rfl
theorem ws4 (a:Option D) (l:En):gv (a :: l) (i+1)=gv l i:=rfl
theorem ws5 (a b:Option D) (l:En):List.set (a :: l) 0 b=b :: l:=rfl
theorem ws6 (a b:Option D) (l:En):List.set (a :: l) (i+1) b=a :: List.set l i b:=rfl
theorem ws7 (a b:MS):W (au a b en) Qs=W (a en) (lw b Qs):=aA _ _ _
theorem ws8 (b:MS):lw b Qs (.nx en)=W (b en) Qs:=rfl
theorem ws9 (b:MS) (t:D):lw b Qs (.rt t en)=Qs (.rt t en):=az _ _
theorem Cw (b:MS):lw b Qs (.ct en)=Qs (.ct en):=az _ _
theorem Cv:W (aF i f en) Qs=W (f en) (Dx i Qs):=bz _ _ _
theorem Cu (t:D):Dx i Qs (t,en)=Qs (.nx (en.set i (some t))):=rfl
theorem Ct:W (ik f en) Qs=W (f en) (DD Qs):=bz _ _ _
theorem Cs (t:D):DD Qs (t,en)=Qs (.nx en):=rfl
theorem Cr:W (aL f en) Qs=W (f en) (Dy Qs):=bz _ _ _
theorem Cq (t:D):Dy Qs (t,en)=Qs (.rt t en):=rfl
theorem Cp:W (bc en) Qs=Qs (.nx en):=az _ _
theorem Co (a b:MS):W (sIf c a b en) Qs=W (c en) (kIf a b Qs):=aA _ _ _
theorem Cn (β:Type) (a b:En→Option β) (Q:β→Prop):kIf a b Q (true,en)=W (a en) Q:=rfl
theorem Cm (β:Type) (a b:En→Option β) (Q:β→Prop):kIf a b Q (false,en)=W (b en) Q:=rfl
theorem Cl (fi:MI) (b:MS):W (ck fi g b en) Qs=W (fi en) (DC g b Qs):=aA _ _ _
theorem Ck (b:MS):DC g b Qs (ts,en)=W (b6 g b ts en) Qs:=rfl
theorem Cj (b:MS):W (b6 g b [] en) Qs=Qs (.nx en):=az _ _
theorem Ci (b:MS) (t:D):W (b6 g b (t :: ts) en) Qs=W (g t en) (zg g b ts Qs):=(aA _ _ _).trans (congrArg _ (funext fun z=>aA _ _ _))
theorem Ch (b:MS):zg g b ts Qs en=W (b en) (kB g b ts Qs):=rfl
theorem Cg (b:MS):kB g b ts Qs (.nx en)=W (b6 g b ts en) Qs:=rfl
theorem Cf (b:MS):kB g b ts Qs (.ct en)=W (b6 g b ts en) Qs:=rfl
theorem Ce (b:MS) (t:D):kB g b ts Qs (.rt t en)=Qs (.rt t en):=az _ _
theorem Cd (t:D):W (gN i t en) Qn=Qn (en.set i (some t)):=az _ _
theorem Cc (g:List D→En→Option En):W (gT g (.tuple ts) en) Qn=W (g ts en) Qn:=rfl
theorem Cb (q:List D→En→Option En) (t:D):W (gsC g q (t :: ts) en) Qn=W (g t en) (kGs q ts Qn):=aA _ _ _
theorem Ca (q:List D→En→Option En):kGs q ts Qn en=W (q ts en) Qn:=rfl
theorem B9:W (gs0 [] en) Qn=Qn en:=az _ _
theorem B8 (fk fe:ME):W (dX i fk fe en) Qs=W (fe en) (pv i fk Qs):=aA _ _ _
theorem B7 (fk:ME) (t:D):pv i fk Qs (t,en)=W (gv en i) (qN i t fk en Qs):=by unfold pv gv; cases h:(en[i]?).join with | none=>simp only [h,bo] | some x=>simp only [h,az]; exact aA _ _ _
theorem B6 (t:D) (fk:ME) (x:D):qN i t fk en Qs x=W (fk en) (kA i t Qs):=rfl
theorem B5 (t:D) (n:Int):kA i t Qs (.int n,en)=W (gv en i) (m7 i t n en Qs):=by unfold kA gv; cases h:(en[i]?).join with | none=>simp only [h,bo] | some x=>simp only [h,az]; cases x <;> first | rfl | exact (az _ _).symm | (rw [az]; rfl) | (rw [az]; exact bo _)
theorem B4 (t:D) (n:Int):m7 i t n en Qs (.list ts)=W (fQ ts n t) (sJ i en Qs):=by unfold m7 fQ sJ; dsimp only; rw [bz,bz]
theorem B3:sJ i en Qs ts=Qs (.nx (en.set i (some (.list ts)))):=rfl
theorem B2 (x0 t:D) (l:List D):fQ (x0 :: l) 0 t=some (t :: l):=dM 0 (by simp only [List.length_cons]; omega)
theorem B1 (x0 x1 t:D) (l:List D):fQ (x0 :: x1 :: l) 1 t=some (x0 :: t :: l):=dM 1 (by simp only [List.length_cons]; omega)
theorem B0 (x0 x1 x2 t:D) (l:List D):fQ (x0 :: x1 :: x2 :: l) 2 t=some (x0 :: x1 :: t :: l):=dM 2 (by simp only [List.length_cons]; omega)
theorem BZ (x0 x1 x2 x3 t:D) (l:List D):fQ (x0 :: x1 :: x2 :: x3 :: l) 3 t=some (x0 :: x1 :: x2 :: t :: l):=dM 3 (by simp only [List.length_cons]; omega)
theorem BY (x0 x1 x2 x3 x4 t:D) (l:List D):fQ (x0 :: x1 :: x2 :: x3 :: x4 :: l) 4 t=some (x0 :: x1 :: x2 :: x3 :: t :: l):=dM 4 (by simp only [List.length_cons]; omega)
theorem BX (x0 x1 x2 x3 x4 x5 t:D) (l:List D):fQ (x0 :: x1 :: x2 :: x3 :: x4 :: x5 :: l) 5 t=some (x0 :: x1 :: x2 :: x3 :: x4 :: t :: l):=dM 5 (by simp only [List.length_cons]; omega)
theorem BW:W (af i en) Qe=W (gv en i) (eG en Qe):=bz _ _ _
theorem BV (t:D):eG en Qe t=Qe (t,en):=rfl
theorem BU (t:D):W (eC t en) Qe=Qe (t,en):=az _ _
theorem BT (g:D→Option D):W (e1 g f en) Qe=W (f en) (k1 g Qe):=(aA _ _ _).trans (congrArg _ (funext fun z=>bz _ _ _))
theorem BS (g:D→Option D) (t:D):k1 g Qe (t,en)=W (g t) (eG en Qe):=rfl
theorem BR (g:D→D→Option D) (f1 f2:ME):W (e2 g f1 f2 en) Qe=W (f1 en) (k2 g f2 Qe):=(aA _ _ _).trans (congrArg _ (funext fun z=>(aA _ _ _).trans (congrArg _ (funext fun y=>bz _ _ _))))
theorem BQ (g:D→D→Option D) (f2:ME) (t:D):k2 g f2 Qe (t,en)=W (f2 en) (k2b g t Qe):=rfl
theorem BP (g:D→D→Option D) (t u:D):k2b g t Qe (u,en)=W (g t u) (eG en Qe):=rfl
theorem BO (f g:ME):W (jq f g en) Qe=W (f en) (sN g Qe):=aA _ _ _
theorem BN (g:ME):sN g Qe (.bool true,en)=W (g en) Qe:=rfl
theorem BM (g:ME):sN g Qe (.bool false,en)=Qe (.bool false,en):=az _ _
theorem BL:W (tV f en) Qb=W (f en) (kTV Qb):=aA _ _ _
theorem BK (x:Bool):kTV Qb (.bool x,en)=Qb (x,en):=az _ _
theorem BJ (f g:MT):W (fm f g en) Qb=W (f en) (pH g Qb):=aA _ _ _
theorem BI (g:MT):pH g Qb (true,en)=W (g en) Qb:=rfl
theorem BH (g:MT):pH g Qb (false,en)=Qb (false,en):=az _ _
theorem BG (f g:MT):W (bOr f g en) Qb=W (f en) (sM g Qb):=aA _ _ _
theorem BF (g:MT):sM g Qb (true,en)=Qb (true,en):=az _ _
theorem BE (g:MT):sM g Qb (false,en)=W (g en) Qb:=rfl
theorem BD (f:MT):W (bu f en) Qb=W (f en) (zl Qb):=bz _ _ _
theorem BC (x:Bool):zl Qb (x,en)=Qb (!x,en):=rfl
theorem BB:W (cY en) Qb=Qb (true,en):=az _ _
theorem BA:W (ah en) Qa=Qa ([],en):=az _ _
theorem Bz (r:MA):W (ad f r en) Qa=W (f en) (kAC r Qa):=(aA _ _ _).trans (congrArg _ (funext fun z=>bz _ _ _))
theorem By (r:MA) (t:D):kAC r Qa (t,en)=W (r en) (sP t Qa):=rfl
theorem Bx (t:D) (as:List (D ⊕ Nat)):sP t Qa (as,en)=Qa (.inl t :: as,en):=rfl
theorem Bw (r:MA):W (aS i r en) Qa=W (gv en i) (kAS i r en Qa):=(aA _ _ _).trans (congrArg _ (funext fun z=>bz _ _ _))
theorem Bv (r:MA) (t:D):kAS i r en Qa t=W (r en) (sO i Qa):=rfl
theorem Bu (as:List (D ⊕ Nat)):sO i Qa (as,en)=Qa (.inr i :: as,en):=rfl
theorem Bt:vals []=some []:=rfl
theorem Bs (t:D) (r:List (D ⊕ Nat)):W (vals (.inl t :: r)) Qt=W (vals r) (kC t Qt):=bz _ _ _
theorem Br (t:D):kC t Qt ts=Qt (t :: ts):=rfl
theorem Bq:dZ [] en=some []:=rfl
theorem Bp (t:D) (r:List (D ⊕ Nat)):W (dZ (.inl t :: r) en) Qt=W (dZ r en) (kC t Qt):=bz _ _ _
theorem Bo (r:List (D ⊕ Nat)):W (dZ (.inr i :: r) en) Qt=W (gv en i) (DE r en Qt):=(aA _ _ _).trans (congrArg _ (funext fun z=>bz _ _ _))
theorem Bn (t:D) (r:List (D ⊕ Nat)):DE r en Qt t=W (dZ r en) (kC t Qt):=rfl
theorem Bm (r:List (D ⊕ Nat)) (o:Option D) (outs:En):wb (.inr i :: r) (o :: outs) en=wb r outs (en.set i o):=rfl
theorem Bk (t:D) (r:List (D ⊕ Nat)) (o:Option D) (outs:En):wb (.inl t :: r) (o :: outs) en=wb r outs en:=rfl
theorem Bj (outs:En):wb [] outs en=en:=rfl
theorem Bi (g:List D→Option D):W (eN g fa en) Qe=W (fa en) (kN g Qe):=(aA _ _ _).trans (congrArg _ (funext fun z=>(aA _ _ _).trans (congrArg _ (funext fun y=>bz _ _ _))))
theorem Bh (g:List D→Option D) (as:List (D ⊕ Nat)):kN g Qe (as,en)=W (vals as) (kN2 g en Qe):=rfl
theorem Bg (g:List D→Option D):kN2 g en Qe ts=W (g ts) (eG en Qe):=rfl
theorem Bf:W (bh fa en) Qe=W (fa en) (DA Qe):=(aA _ _ _).trans (congrArg _ (funext fun z=>aA _ _ _))
theorem Be (as:List (D ⊕ Nat)):DA Qe (as,en)=W (vals as) (pC en Qe):=rfl
theorem Bd:pC en Qe ts=(ts.length≤sizeLine∧Qe (.list ts,en)):=fY _ _ _
theorem Bc:W (aG fa en) Qe=W (fa en) (Dw Qe):=(aA _ _ _).trans (congrArg _ (funext fun z=>aA _ _ _))
theorem Bb (as:List (D ⊕ Nat)):Dw Qe (as,en)=W (vals as) (pr en Qe):=rfl
theorem Ba:pr en Qe ts=(ts.length≤sizeLine∧Qe (.tuple ts,en)):=fY _ _ _
theorem A9:(([]:List D).length≤sizeLine)=True:=eq_true (Nat.le_trans (by show 0≤100; decide) bm)
theorem A8 (x0:D):(([x0]:List D).length≤sizeLine)=True:=eq_true (Nat.le_trans (by show 1≤100; decide) bm)
theorem A7 (x0 x1:D):(([x0,x1]:List D).length≤sizeLine)=True:=eq_true (Nat.le_trans (by show 2≤100; decide) bm)
theorem A6 (x0 x1 x2:D):(([x0,x1,x2]:List D).length≤sizeLine)=True:=eq_true (Nat.le_trans (by show 3≤100; decide) bm)
theorem A5 (x0 x1 x2 x3:D):(([x0,x1,x2,x3]:List D).length≤sizeLine)=True:=eq_true (Nat.le_trans (by show 4≤100; decide) bm)
theorem A4 (x0 x1 x2 x3 x4:D):(([x0,x1,x2,x3,x4]:List D).length≤sizeLine)=True:=eq_true (Nat.le_trans (by show 5≤100; decide) bm)
theorem yN (x0 x1 x2 x3 x4 x5:D):(([x0,x1,x2,x3,x4,x5]:List D).length≤sizeLine)=True:=eq_true (Nat.le_trans (by show 6≤100; decide) bm)
theorem yM (x0 x1 x2 x3 x4 x5 x6:D):(([x0,x1,x2,x3,x4,x5,x6]:List D).length≤sizeLine)=True:=eq_true (Nat.le_trans (by show 7≤100; decide) bm)
theorem yL (x0 x1 x2 x3 x4 x5 x6 x7:D):(([x0,x1,x2,x3,x4,x5,x6,x7]:List D).length≤sizeLine)=True:=eq_true (Nat.le_trans (by show 8≤100; decide) bm)
theorem yK (x0 x1 x2 x3 x4 x5 x6 x7 x8:D):(([x0,x1,x2,x3,x4,x5,x6,x7,x8]:List D).length≤sizeLine)=True:=eq_true (Nat.le_trans (by show 9≤100; decide) bm)
theorem yJ (x0 x1 x2 x3 x4 x5 x6 x7 x8 x9:D):(([x0,x1,x2,x3,x4,x5,x6,x7,x8,x9]:List D).length≤sizeLine)=True:=eq_true (Nat.le_trans (by show 10≤100; decide) bm)
theorem yI (x0 x1 x2 x3 x4 x5 x6 x7 x8 x9 x10:D):(([x0,x1,x2,x3,x4,x5,x6,x7,x8,x9,x10]:List D).length≤sizeLine)=True:=eq_true (Nat.le_trans (by show 11≤100; decide) bm)
theorem yH (x0 x1 x2 x3 x4 x5 x6 x7 x8 x9 x10 x11:D):(([x0,x1,x2,x3,x4,x5,x6,x7,x8,x9,x10,x11]:List D).length≤sizeLine)=True:=eq_true (Nat.le_trans (by show 12≤100; decide) bm)
theorem yG (x0 x1 x2 x3 x4 x5 x6 x7 x8 x9 x10 x11 x12:D):(([x0,x1,x2,x3,x4,x5,x6,x7,x8,x9,x10,x11,x12]:List D).length≤sizeLine)=True:=eq_true (Nat.le_trans (by show 13≤100; decide) bm)
theorem yF (F:List D→Option (D × En)):W (ax F fa en) Qe=W (fa en) (zh F Qe):=(aA _ _ _).trans (congrArg _ (funext fun z=>(aA _ _ _).trans (congrArg _ (funext fun y=>bz _ _ _))))
theorem yE (F:List D→Option (D × En)) (as:List (D ⊕ Nat)):zh F Qe (as,en)=W (dZ as en) (m9 F as en Qe):=rfl
theorem yD (F:List D→Option (D × En)) (as:List (D ⊕ Nat)):m9 F as en Qe ts=W (F ts) (m8 as en Qe):=rfl
theorem yC (as:List (D ⊕ Nat)) (t:D) (outs:En):m8 as en Qe (t,outs)=Qe (t,wb as outs en):=rfl
theorem yB (q:Bool) (fi:MI) (js:List (Option Nat)):W (eLC q fi g c f js en) Qe=W (fi en) (kLC q g c f js Qe):=(aA _ _ _).trans (congrArg _ (funext fun z=>bz _ _ _))
theorem yA (q:Bool) (js:List (Option Nat)):kLC q g c f js Qe (ts,en)=W (lcF g c f ts [] (cK js en)) (pF q js en Qe):=rfl
theorem yz (js:List (Option Nat)) (us:List D) (ex:En):pF true js en Qe (us,ex)=Qe (.list us,en):=rfl
theorem yy (js:List (Option Nat)) (us:List D) (ex:En):pF false js en Qe (us,ex)=Qe (.list us,wbB js ex en):=rfl
theorem yx:cK [] en=[]:=rfl
theorem yw (j:Nat) (js:List (Option Nat)):cK (some j :: js) en=gv en j :: cK js en:=rfl
theorem yv (js:List (Option Nat)):cK (none :: js) en=none :: cK js en:=rfl
theorem yu (j:Nat) (js:List (Option Nat)) (o:Option D) (ex:En):wbB (some j :: js) (o :: ex) en=wbB js ex (en.set j o):=rfl
theorem yt (js:List (Option Nat)) (o:Option D) (ex:En):wbB (none :: js) (o :: ex) en=wbB js ex en:=rfl
theorem yr (ex:En):wbB [] ex en=en:=rfl
theorem yq:W (lcF g c f [] acc en) Ql=Ql (acc,en):=az _ _
theorem yp:W (b4 f en) Ql=W (f en) (pJ Ql):=aA _ _ _
theorem yo:pJ Ql (.list ts,en)=Ql (ts,en):=az _ _
theorem yn:pJ Ql (.tuple ts,en)=Ql (ts,en):=az _ _
theorem ym (z:Str):pJ Ql (.str z,en)=Ql (dE z,en):=az _ _
theorem yk:W (ca fa en) Ql=W (fa en) (kR1 Ql):=aA _ _ _
theorem yj (j:Int):kR1 Ql ([.inl (.int j)],en)=((-(2 ^ 62)≤j∧j < 2 ^ 62)∧Ql (il 0 j.toNat,en)):=fY _ _ _
theorem yi:W (fT fa en) Ql=W (fa en) (kEn Ql):=aA _ _ _
theorem yh:kEn Ql ([.inl (.list ts)],en)=Ql (b5 ts,en):=az _ _
theorem yg:kEn Ql ([.inl (.tuple ts)],en)=Ql (b5 ts,en):=az _ _
theorem yf:W (cq i f en) Qe=W (gv en i) (zc i f en Qe):=(aA _ _ _).trans (congrArg _ (funext fun z=>aA _ _ _))
theorem ye (x:D):zc i f en Qe x=W (f en) (kz i Qe):=rfl
theorem yd (n:Int):kz i Qe (.int n,en)=W (gv en i) (qM n en Qe):=by unfold kz gv; cases h:(en[i]?).join with | none=>simp only [h,bo] | some x=>simp only [h,az]; cases x <;> first | rfl | exact (az _ _).symm | (rw [az]; rfl) | (rw [az]; exact bo _)
theorem yc (n:Int):qM n en Qe (.list ts)=W (atI ts n) (eG en Qe):=bz _ _ _
theorem yb:W (gK i f en) Qe=W (gv en i) (DF i f en Qe):=by unfold gv gK; cases (en[i]?).join with | none=>rw [bo,bo] | some x=>cases x <;> first | rfl | exact (az _ _).symm | (rw [az]; rfl) | (rw [az]; exact bo _)
theorem xZ:DF i f en Qe (.list ts)=W (f en) (pI i Qe):=aA _ _ _
theorem xY (t:D):pI i Qe (t,en)=W (gv en i) (zm i t en Qe):=by unfold pI gv; cases h:(en[i]?).join with | none=>simp only [h,bo] | some x=>simp only [h,az]; cases x <;> first | rfl | exact (az _ _).symm | (rw [az]; rfl) | (rw [az]; exact bo _)
theorem xX (t:D):zm i t en Qe (.list ts)=(ts.length < sizeLine∧Qe (.none,en.set i (some (.list (ts++[t]))))):=fY _ _ _
theorem xW (g g2:D→D→Option D) (f1 f2 f3:ME):W (cT g g2 f1 f2 f3 en) Qe=W (f1 en) (kCh g g2 f2 f3 Qe):=(aA _ _ _).trans (congrArg _ (funext fun z=>(aA _ _ _).trans (congrArg _ (funext fun y=>aA _ _ _))))
theorem xV (g g2:D→D→Option D) (f2 f3:ME) (t:D):kCh g g2 f2 f3 Qe (t,en)=W (f2 en) (sL g g2 f3 t Qe):=rfl
theorem xU (g g2:D→D→Option D) (f3:ME) (t u:D):sL g g2 f3 t Qe (u,en)=W (g t u) (pG g2 u f3 en Qe):=rfl
theorem xT (g:D→D→Option D) (u:D) (f3:ME):pG g u f3 en Qe (.bool true)=W (f3 en) (k2b g u Qe):=(aA _ _ _).trans (congrArg _ (funext fun z=>bz _ _ _))
theorem xS (g:D→D→Option D) (u:D) (f3:ME):pG g u f3 en Qe (.bool false)=Qe (.bool false,en):=az _ _
theorem xR (Q:Option Int × En→Prop):W (bO en) Q=Q (none,en):=az _ _
theorem xQ (Q:Option Int × En→Prop):W (bA f en) Q=W (f en) (kOS Q):=aA _ _ _
theorem xP (n:Int) (Q:Option Int × En→Prop):kOS Q (.int n,en)=Q (some n,en):=az _ _
theorem xO (g:D→Option Int→Option Int→Option D) (lo hi:MO):W (eSl g f lo hi en) Qe=W (f en) (kSl g lo hi Qe):=(aA _ _ _).trans (congrArg _ (funext fun z=>(aA _ _ _).trans (congrArg _ (funext fun y=>(aA _ _ _).trans (congrArg _ (funext fun y=>bz _ _ _))))))
theorem xN (g:D→Option Int→Option Int→Option D) (lo hi:MO) (t:D):kSl g lo hi Qe (t,en)=W (lo en) (sI g t hi Qe):=rfl
theorem xM (g:D→Option Int→Option Int→Option D) (hi:MO) (t:D) (a:Option Int):sI g t hi Qe (a,en)=W (hi en) (sH g t a Qe):=rfl
theorem xL (g:D→Option Int→Option Int→Option D) (t:D) (a b:Option Int):sH g t a Qe (b,en)=W (g t a b) (eG en Qe):=rfl
theorem xK (g:Str→List D→Option D):W (eM g f fa en) Qe=W (f en) (kM g fa Qe):=aA _ _ _
theorem xJ (g:Str→List D→Option D) (z:Str):kM g fa Qe (.str z,en)=W (fa en) (kM1 g z Qe):=(aA _ _ _).trans (congrArg _ (funext fun z=>(aA _ _ _).trans (congrArg _ (funext fun y=>bz _ _ _))))
theorem xI (g:Str→List D→Option D) (z:Str) (as:List (D ⊕ Nat)):kM1 g z Qe (as,en)=W (vals as) (kM2 g z en Qe):=rfl
theorem xH (g:Str→List D→Option D) (z:Str):kM2 g z en Qe ts=W (g z ts) (eG en Qe):=rfl
theorem xG (J:En→Prop):kIt J Qs (.nx en)=J en:=rfl
theorem xF (J:En→Prop):kIt J Qs (.ct en)=J en:=rfl
theorem xE (J:En→Prop) (t:D):kIt J Qs (.rt t en)=Qs (.rt t en):=rfl
theorem xD (b:MS) (J:En→Prop):kFg b J Qs en=W (b en) (kIt J Qs):=rfl
theorem xC (b:MS) (J:En→Prop):kWh b J Qs (true,en)=W (b en) (kIt J Qs):=rfl
theorem xB (b:MS) (J:En→Prop):kWh b J Qs (false,en)=Qs (.nx en):=rfl
theorem xA (us:List D) (J:List D→En→Prop):DB c f us J en=W (c en) (pE f us J):=rfl
theorem xz (us:List D) (J:List D→En→Prop):pE f us J (true,en)=W (f en) (sK us J):=rfl
theorem xy (us:List D) (J:List D→En→Prop):pE f us J (false,en)=J us en:=rfl
theorem xx (us:List D) (J:List D→En→Prop) (t:D):sK us J (t,en)=J (us++[t]) en:=rfl
theorem xw (n:Nat) (dps:List Nat) (b:MS):W (fnF n dps b ts) Qe=W (b (ts.map some++List.replicate n none)) (kFn dps Qe):=aA _ _ _
theorem xv (dps:List Nat) (t:D):kFn dps Qe (.rt t en)=Qe (t,msk dps en):=az _ _
theorem xu (dps:List Nat):kFn dps Qe (.nx en)=Qe (.none,msk dps en):=az _ _
theorem xt (d:Nat) (ds:List Nat) (o:Option D):msk ((d+1) :: ds) (o :: en)=o :: msk ds en:=rfl
theorem xr (ds:List Nat) (o:Option D):msk (0 :: ds) (o :: en)=none :: msk ds en:=rfl
theorem xq:msk [] en=[]:=rfl
theorem xp (t:D):List.map some (t :: ts)=some t :: List.map some ts:=rfl
theorem xo:List.map (some:D→Option D) []=[]:=rfl
theorem xn (a:Option D) (l m:En):(a :: l)++m=a :: (l++m):=rfl
theorem xm (m:En):([]:En)++m=m:=rfl
theorem xl (a:Option D):List.replicate 0 a=[]:=rfl
theorem xk (a:Option D) (n:Nat):List.replicate (n+1) a=a :: List.replicate n a:=rfl
theorem xj (a b:Int):bj (.int a) (.int b)=some (.int (a+b)):=rfl
theorem xi (a b:Str):W (bj (.str a) (.str b)) Qd=(a.length+b.length≤sizeLine∧Qd (.str (a++b))):=fY _ _ _
theorem xh (a b:Int):e9 (.int a) (.int b)=some (.int (a - b)):=rfl
theorem xg (a b:Int):W (cO (.int a) (.int b)) Qd=(CMul a b∧Qd (.int (a * b))):=fY _ _ _
theorem xf (a b:Int):W (eT (.int a) (.int b)) Qd=(iU a b∧Qd (.int (a / b))):=fY _ _ _
theorem xc (a b:Int):W (bX (.int a) (.int b)) Qd=(0 < b∧Qd (.int (a % b))):=fY _ _ _
theorem xb (a b:Int):W (lb (.int a) (.int b)) Qd=(gR a b∧Qd (.int (a ^ b.toNat))):=fY _ _ _
theorem xa (a b:Int):ltI (.int a) (.int b)=some (.bool (decide (a < b))):=rfl
theorem w8 (a b:Int):leI (.int a) (.int b)=some (.bool (decide (a≤b))):=rfl
theorem w4 (a b:Int):gtI (.int a) (.int b)=some (.bool (decide (b < a))):=rfl
theorem wZ (a b:Int):geI (.int a) (.int b)=some (.bool (decide (b≤a))):=rfl
theorem wY (a b:Int):eqD (.int a) (.int b)=some (.bool (decide (a=b))):=(Er a b).trans (congrArg (fun q=>some (PyData.bool q)) (oE a b))
theorem wX (a b:Int):neD (.int a) (.int b)=some (.bool (!decide (a=b))):=(Dk a b).trans (congrArg (fun q=>some (PyData.bool (!q))) (oE a b))
theorem wW:aP "int" (.none)=some (.bool false):=congrArg (fun b=>some (PyData.bool b)) (show aV "NoneType" "int"=false by decide)
theorem wV:aP "bool" (.none)=some (.bool false):=congrArg (fun b=>some (PyData.bool b)) (show aV "NoneType" "bool"=false by decide)
theorem wU:aP "str" (.none)=some (.bool false):=congrArg (fun b=>some (PyData.bool b)) (show aV "NoneType" "str"=false by decide)
theorem wT:aP "list" (.none)=some (.bool false):=congrArg (fun b=>some (PyData.bool b)) (show aV "NoneType" "list"=false by decide)
theorem wS:aP "tuple" (.none)=some (.bool false):=congrArg (fun b=>some (PyData.bool b)) (show aV "NoneType" "tuple"=false by decide)
theorem wR:aP "dict" (.none)=some (.bool false):=congrArg (fun b=>some (PyData.bool b)) (show aV "NoneType" "dict"=false by decide)
theorem wQ (x:Int):aP "int" (.int x)=some (.bool true):=congrArg (fun b=>some (PyData.bool b)) (show aV "int" "int"=true by decide)
theorem wP (x:Int):aP "bool" (.int x)=some (.bool false):=congrArg (fun b=>some (PyData.bool b)) (show aV "int" "bool"=false by decide)
theorem wO (x:Int):aP "str" (.int x)=some (.bool false):=congrArg (fun b=>some (PyData.bool b)) (show aV "int" "str"=false by decide)
theorem wN (x:Int):aP "list" (.int x)=some (.bool false):=congrArg (fun b=>some (PyData.bool b)) (show aV "int" "list"=false by decide)
theorem wM (x:Int):aP "tuple" (.int x)=some (.bool false):=congrArg (fun b=>some (PyData.bool b)) (show aV "int" "tuple"=false by decide)
theorem wL (x:Int):aP "dict" (.int x)=some (.bool false):=congrArg (fun b=>some (PyData.bool b)) (show aV "int" "dict"=false by decide)
theorem wK (x:Bool):aP "int" (.bool x)=some (.bool true):=congrArg (fun b=>some (PyData.bool b)) (show aV "bool" "int"=true by decide)
theorem wJ (x:Bool):aP "bool" (.bool x)=some (.bool true):=congrArg (fun b=>some (PyData.bool b)) (show aV "bool" "bool"=true by decide)
theorem wI (x:Bool):aP "str" (.bool x)=some (.bool false):=congrArg (fun b=>some (PyData.bool b)) (show aV "bool" "str"=false by decide)
theorem wH (x:Bool):aP "list" (.bool x)=some (.bool false):=congrArg (fun b=>some (PyData.bool b)) (show aV "bool" "list"=false by decide)
theorem wG (x:Bool):aP "tuple" (.bool x)=some (.bool false):=congrArg (fun b=>some (PyData.bool b)) (show aV "bool" "tuple"=false by decide)
theorem wF (x:Bool):aP "dict" (.bool x)=some (.bool false):=congrArg (fun b=>some (PyData.bool b)) (show aV "bool" "dict"=false by decide)
theorem wE (x:Str):aP "int" (.str x)=some (.bool false):=congrArg (fun b=>some (PyData.bool b)) (show aV "str" "int"=false by decide)
theorem wD (x:Str):aP "bool" (.str x)=some (.bool false):=congrArg (fun b=>some (PyData.bool b)) (show aV "str" "bool"=false by decide)
theorem wC (x:Str):aP "str" (.str x)=some (.bool true):=congrArg (fun b=>some (PyData.bool b)) (show aV "str" "str"=true by decide)
theorem wB (x:Str):aP "list" (.str x)=some (.bool false):=congrArg (fun b=>some (PyData.bool b)) (show aV "str" "list"=false by decide)
theorem wA (x:Str):aP "tuple" (.str x)=some (.bool false):=congrArg (fun b=>some (PyData.bool b)) (show aV "str" "tuple"=false by decide)
theorem wz (x:Str):aP "dict" (.str x)=some (.bool false):=congrArg (fun b=>some (PyData.bool b)) (show aV "str" "dict"=false by decide)
theorem wy (x:List D):aP "int" (.list x)=some (.bool false):=congrArg (fun b=>some (PyData.bool b)) (show aV "list" "int"=false by decide)
theorem wx (x:List D):aP "bool" (.list x)=some (.bool false):=congrArg (fun b=>some (PyData.bool b)) (show aV "list" "bool"=false by decide)
theorem ww (x:List D):aP "str" (.list x)=some (.bool false):=congrArg (fun b=>some (PyData.bool b)) (show aV "list" "str"=false by decide)
theorem wv (x:List D):aP "list" (.list x)=some (.bool true):=congrArg (fun b=>some (PyData.bool b)) (show aV "list" "list"=true by decide)
theorem wu (x:List D):aP "tuple" (.list x)=some (.bool false):=congrArg (fun b=>some (PyData.bool b)) (show aV "list" "tuple"=false by decide)
theorem wt (x:List D):aP "dict" (.list x)=some (.bool false):=congrArg (fun b=>some (PyData.bool b)) (show aV "list" "dict"=false by decide)
theorem wq (x:List D):aP "int" (.tuple x)=some (.bool false):=congrArg (fun b=>some (PyData.bool b)) (show aV "tuple" "int"=false by decide)
theorem wp (x:List D):aP "bool" (.tuple x)=some (.bool false):=congrArg (fun b=>some (PyData.bool b)) (show aV "tuple" "bool"=false by decide)
theorem wo (x:List D):aP "str" (.tuple x)=some (.bool false):=congrArg (fun b=>some (PyData.bool b)) (show aV "tuple" "str"=false by decide)
theorem wn (x:List D):aP "list" (.tuple x)=some (.bool false):=congrArg (fun b=>some (PyData.bool b)) (show aV "tuple" "list"=false by decide)
theorem wm (x:List D):aP "tuple" (.tuple x)=some (.bool true):=congrArg (fun b=>some (PyData.bool b)) (show aV "tuple" "tuple"=true by decide)
theorem wl (x:List D):aP "dict" (.tuple x)=some (.bool false):=congrArg (fun b=>some (PyData.bool b)) (show aV "tuple" "dict"=false by decide)
theorem wj (x:List (D × D)):aP "int" (.dict x)=some (.bool false):=congrArg (fun b=>some (PyData.bool b)) (show aV "dict" "int"=false by decide)
theorem wg (x:List (D × D)):aP "bool" (.dict x)=some (.bool false):=congrArg (fun b=>some (PyData.bool b)) (show aV "dict" "bool"=false by decide)
theorem wf (x:List (D × D)):aP "str" (.dict x)=some (.bool false):=congrArg (fun b=>some (PyData.bool b)) (show aV "dict" "str"=false by decide)
theorem we (x:List (D × D)):aP "list" (.dict x)=some (.bool false):=congrArg (fun b=>some (PyData.bool b)) (show aV "dict" "list"=false by decide)
theorem wd (x:List (D × D)):aP "tuple" (.dict x)=some (.bool false):=congrArg (fun b=>some (PyData.bool b)) (show aV "dict" "tuple"=false by decide)
theorem wc (x:List (D × D)):aP "dict" (.dict x)=some (.bool true):=congrArg (fun b=>some (PyData.bool b)) (show aV "dict" "dict"=true by decide)
theorem wa:((([]:List D).length:Nat):Int)=0:=rfl
theorem v9 (x0:D):((([x0]:List D).length:Nat):Int)=1:=rfl
theorem v8 (x0 x1:D):((([x0,x1]:List D).length:Nat):Int)=2:=rfl
theorem v7 (x0 x1 x2:D):((([x0,x1,x2]:List D).length:Nat):Int)=3:=rfl
theorem v6 (x0 x1 x2 x3:D):((([x0,x1,x2,x3]:List D).length:Nat):Int)=4:=rfl
theorem vZ (x0 x1 x2 x3 x4:D):((([x0,x1,x2,x3,x4]:List D).length:Nat):Int)=5:=rfl
theorem vY (x0 x1 x2 x3 x4 x5:D):((([x0,x1,x2,x3,x4,x5]:List D).length:Nat):Int)=6:=rfl
theorem vX (x0 x1 x2 x3 x4 x5 x6:D):((([x0,x1,x2,x3,x4,x5,x6]:List D).length:Nat):Int)=7:=rfl
theorem vW (x0 x1 x2 x3 x4 x5 x6 x7:D):((([x0,x1,x2,x3,x4,x5,x6,x7]:List D).length:Nat):Int)=8:=rfl
theorem vV (x0 x1 x2 x3 x4 x5 x6 x7 x8:D):((([x0,x1,x2,x3,x4,x5,x6,x7,x8]:List D).length:Nat):Int)=9:=rfl
theorem vU (x0 x1 x2 x3 x4 x5 x6 x7 x8 x9:D):((([x0,x1,x2,x3,x4,x5,x6,x7,x8,x9]:List D).length:Nat):Int)=10:=rfl
theorem vT (x0 x1 x2 x3 x4 x5 x6 x7 x8 x9 x10:D):((([x0,x1,x2,x3,x4,x5,x6,x7,x8,x9,x10]:List D).length:Nat):Int)=11:=rfl
theorem vS (x0 x1 x2 x3 x4 x5 x6 x7 x8 x9 x10 x11:D):((([x0,x1,x2,x3,x4,x5,x6,x7,x8,x9,x10,x11]:List D).length:Nat):Int)=12:=rfl
theorem vR (x0 x1 x2 x3 x4 x5 x6 x7 x8 x9 x10 x11 x12:D):((([x0,x1,x2,x3,x4,x5,x6,x7,x8,x9,x10,x11,x12]:List D).length:Nat):Int)=13:=rfl
theorem vQ (α β:Type) (f:α→β) (l:List α):(l.map f).length=l.length:=List.length_map f
theorem vP:bd [.list ts]=some (.int ts.length):=rfl
theorem vO:bd [.tuple ts]=some (.int ts.length):=rfl
theorem vN (z:Str):W (bd [.str z]) Qd=(z.length≤sizeLine∧Qd (.int z.length)):=gx _ _ _
theorem vM (a:Int):p8 [.int a]=some (.int (if a < 0 then -a else a)):=rfl
theorem vL (a:Int):sv (.int a)=some (.int (-a)):=rfl
theorem vK:iw [.list ts]=some (.list ts):=rfl
theorem vJ:gE [.list ts]=some (.tuple ts):=rfl
theorem vI (n:Int):ixA (.list ts) (.int n)=atI ts n:=rfl
theorem vH:iw [.tuple ts]=some (.list ts):=rfl
theorem vG:gE [.tuple ts]=some (.tuple ts):=rfl
theorem vF (n:Int):ixA (.tuple ts) (.int n)=atI ts n:=rfl
theorem vE (ts us:List D):W (p7 (.list ts) (.list us)) Qd=(ts.length+us.length≤sizeLine∧Qd (.list (ts++us))):=fY _ _ _
theorem vD (ts us:List D):W (du (.tuple ts) (.tuple us)) Qd=(ts.length+us.length≤sizeLine∧Qd (.tuple (ts++us))):=fY _ _ _
theorem vC:atI ts 0=ts[0]?:=a9 ts _
theorem vB:atI ts 1=ts[1]?:=a9 ts _
theorem vA:atI ts 2=ts[2]?:=a9 ts _
theorem vz:atI ts 3=ts[3]?:=a9 ts _
theorem vy:atI ts 4=ts[4]?:=a9 ts _
theorem vx:atI ts 5=ts[5]?:=a9 ts _
theorem vw:atI ts 6=ts[6]?:=a9 ts _
theorem vv:atI ts 7=ts[7]?:=a9 ts _
theorem vt:atI ts 8=ts[8]?:=a9 ts _
theorem vq:atI ts 9=ts[9]?:=a9 ts _
theorem vp:atI ts 10=ts[10]?:=a9 ts _
theorem vo:atI ts 11=ts[11]?:=a9 ts _
theorem vn:atI ts 12=ts[12]?:=a9 ts _
theorem vm:atI ts 13=ts[13]?:=a9 ts _
theorem vk:atI ts 14=ts[14]?:=a9 ts _
theorem vj:atI ts 15=ts[15]?:=a9 ts _
theorem vi:atI ts 16=ts[16]?:=a9 ts _
theorem vh:atI ts 17=ts[17]?:=a9 ts _
theorem vg:atI ts 18=ts[18]?:=a9 ts _
theorem vf:atI ts 19=ts[19]?:=a9 ts _
theorem ve:atI ts 20=ts[20]?:=a9 ts _
theorem vd (t:D):(t :: ts)[0]?=some t:=rfl
theorem vc (t:D):(t :: ts)[i+1]?=ts[i]?:=List.getElem?_cons_succ
theorem vb:W (rC i f en) Qe=W (gv en i) (Dz i f en Qe):=by unfold gv rC; cases (en[i]?).join with | none=>rw [bo,bo] | some x=>cases x <;> first | rfl | exact (az _ _).symm | (rw [az]; rfl) | (rw [az]; exact bo _)
theorem va:Dz i f en Qe (.list ts)=W (f en) (pB i Qe):=aA _ _ _
theorem u9 (n:Int):pB i Qe (.int n,en)=W (gv en i) (pA i n en Qe):=by unfold pB gv; cases h:(en[i]?).join with | none=>simp only [h,bo] | some x=>simp only [h,az]; cases x <;> first | rfl | exact (az _ _).symm | (rw [az]; rfl) | (rw [az]; exact bo _)
theorem u8 (n:Int):pA i n en Qe (.list ts)=((-(2 ^ 63)≤n∧n < 2 ^ 63)∧W (C7 ts n) (ze i en Qe)):=by unfold pA C7; dsimp only; rw [qa]; congr 1; rw [aA,aA]; congr 1; funext k; rw [bz,bz]; rfl
theorem u7 (t:D) (us:List D):ze i en Qe (t,us)=Qe (t,en.set i (some (.list us))):=rfl
theorem u6 (z:Str) (n:Int):W (ixT (.str z) (.int n)) Qd=(z.length≤sizeLine∧W (atI (li z) n) (kS1 Qd)):=by show W (if _ then _ else _) _=_; rw [qa,bz]; rfl
theorem u5 (c:Nat):kS1 Qd c=Qd (.str (mk1 c)):=rfl
theorem u4 (z:Str) (n:Int):W (pp (.str z) (.int n)) Qd=((z.length≤4000∧-(2 ^ 63)≤n∧n≤4000)∧Qd (.str (Txt.mul z n))):=gx _ _ _
theorem u3 (z:Str) (lo hi:Option Int):W (gL (.str z) lo hi) Qd=(z.length≤sizeLine∧Qd (.str ⟨(cI z.cps.toList lo hi).toArray⟩)):=gx _ _ _
theorem u0 (n:Int):W (je (.tuple ts) (.int n)) Qd=((1≤n∧n≤1000∧ts.length≤1000)∧Qd (.tuple (List.replicate n.toNat ts).flatten)):=gx _ _ _
theorem uZ (n:Int) (z:Str):W (mD (.int n) (.str z)) Qd=((z.length≤4000∧1≤n∧n≤4000)∧Qd (.str (Txt.mul z n))):=gx _ _ _
theorem uY (b:D):W (fV (.tuple ts) b) Qd=((ao b=true∧aD ts=true∧a5 ts≤60)∧Qd (.int (ts.countP fun t=>peq t b:Nat))):=gx _ _ _
theorem uX (lo hi:Option Int):dF (.tuple ts) lo hi=some (.tuple (bt ts lo hi)):=by first | rfl | exact az _ _ | exact bo _
theorem uW (z y:Str):fJ z [.str y]=some (.bool (Txt.startswith z y)):=rfl
theorem uV (a b:Str):sQ (.str a) (.str b)=some (.bool (bB b a)):=rfl
theorem uU (a b:Str):hG (.str a) (.str b)=some (.bool (!bB b a)):=rfl
theorem uT (a b:Bool):eqD (.bool a) (.bool b)=some (.bool (a == b)):=AH a b
theorem uS (a b:Bool):neD (.bool a) (.bool b)=some (.bool (!(a == b))):=zT a b
theorem uR (a b:Str):eqD (.str a) (.str b)=some (.bool (decide (a=b))):=Eo a b
theorem uQ (a b:Str):neD (.str a) (.str b)=some (.bool (!decide (a=b))):=Di a b
theorem uP:neD (.list []) (.list [])=some (.bool false):=Dj
theorem uO:eqD (.list []) (.list [])=some (.bool true):=Ep
theorem uN (a:Bool):(a == a)=true:=beq_self_eq_true a
theorem uM:(true == false)=false:=rfl
theorem uL:(false == true)=false:=rfl
theorem uK (t:D) (ts acc:List D):W (lcF g c f (t :: ts) acc en) Ql=W (g t en) (kL1 g c f ts acc Ql):=by unfold lcF; rw [aA]; congr 1; funext z; rw [aA]; rfl
theorem uJ (ts acc:List D):kL1 g c f ts acc Ql en=W (c en) (kL2 g c f ts acc Ql):=rfl
theorem uI (ts acc:List D):kL2 g c f ts acc Ql (true,en)=W (f en) (kL3 g c f ts acc Ql):=aA _ _ _
theorem uH (ts acc:List D):kL2 g c f ts acc Ql (false,en)=W (lcF g c f ts acc en) Ql:=rfl
theorem uG (ts acc:List D) (t:D):kL3 g c f ts acc Ql (t,en)=(acc.length < sizeLine∧W (lcF g c f ts (acc++[t]) en) Ql):=qa _ _ _
theorem uF (m:List D):([]++m:List D)=m:=rfl
theorem uE (x:D) (l m:List D):((x :: l)++m:List D)=x :: (l++m):=rfl
theorem uD:(([]:List D).length < sizeLine)=True:=eq_true (Nat.lt_of_lt_of_le (by show 0 < 100; decide) bm)
theorem uC (x0:D):(([x0]:List D).length < sizeLine)=True:=eq_true (Nat.lt_of_lt_of_le (by show 1 < 100; decide) bm)
theorem uB (x0 x1:D):(([x0,x1]:List D).length < sizeLine)=True:=eq_true (Nat.lt_of_lt_of_le (by show 2 < 100; decide) bm)
theorem uA (x0 x1 x2:D):(([x0,x1,x2]:List D).length < sizeLine)=True:=eq_true (Nat.lt_of_lt_of_le (by show 3 < 100; decide) bm)
theorem uz (x0 x1 x2 x3:D):(([x0,x1,x2,x3]:List D).length < sizeLine)=True:=eq_true (Nat.lt_of_lt_of_le (by show 4 < 100; decide) bm)
theorem uy (x0 x1 x2 x3 x4:D):(([x0,x1,x2,x3,x4]:List D).length < sizeLine)=True:=eq_true (Nat.lt_of_lt_of_le (by show 5 < 100; decide) bm)
theorem ux (x0 x1 x2 x3 x4 x5:D):(([x0,x1,x2,x3,x4,x5]:List D).length < sizeLine)=True:=eq_true (Nat.lt_of_lt_of_le (by show 6 < 100; decide) bm)
theorem uw (x0 x1 x2 x3 x4 x5 x6:D):(([x0,x1,x2,x3,x4,x5,x6]:List D).length < sizeLine)=True:=eq_true (Nat.lt_of_lt_of_le (by show 7 < 100; decide) bm)
theorem uv (x0 x1 x2 x3 x4 x5 x6 x7:D):(([x0,x1,x2,x3,x4,x5,x6,x7]:List D).length < sizeLine)=True:=eq_true (Nat.lt_of_lt_of_le (by show 8 < 100; decide) bm)
theorem uu (x0 x1 x2 x3 x4 x5 x6 x7 x8:D):(([x0,x1,x2,x3,x4,x5,x6,x7,x8]:List D).length < sizeLine)=True:=eq_true (Nat.lt_of_lt_of_le (by show 9 < 100; decide) bm)
theorem ut (x0 x1 x2 x3 x4 x5 x6 x7 x8 x9:D):(([x0,x1,x2,x3,x4,x5,x6,x7,x8,x9]:List D).length < sizeLine)=True:=eq_true (Nat.lt_of_lt_of_le (by show 10 < 100; decide) bm)
theorem ur (x0 x1 x2 x3 x4 x5 x6 x7 x8 x9 x10:D):(([x0,x1,x2,x3,x4,x5,x6,x7,x8,x9,x10]:List D).length < sizeLine)=True:=eq_true (Nat.lt_of_lt_of_le (by show 11 < 100; decide) bm)
theorem uq (x0 x1 x2 x3 x4 x5 x6 x7 x8 x9 x10 x11:D):(([x0,x1,x2,x3,x4,x5,x6,x7,x8,x9,x10,x11]:List D).length < sizeLine)=True:=eq_true (Nat.lt_of_lt_of_le (by show 12 < 100; decide) bm)
theorem up (x0 x1 x2 x3 x4 x5 x6 x7 x8 x9 x10 x11 x12:D):(([x0,x1,x2,x3,x4,x5,x6,x7,x8,x9,x10,x11,x12]:List D).length < sizeLine)=True:=eq_true (Nat.lt_of_lt_of_le (by show 13 < 100; decide) bm)
theorem uo:fX [.list []]=some (.bool true):=rfl
theorem um (a:Bool):fX [.list [.bool a]]=some (.bool a):=by cases a <;> rfl
theorem ul (a b:Bool):fX [.list [.bool a,.bool b]]=some (.bool (a && b)):=by cases a <;> cases b <;> rfl
theorem uk:la [.list []]=some (.int 0):=rfl
theorem uj (a:Int):la [.list [.int a]]=some (.int a):=by show some (PyData.int (a+0))=_; rw [Int.add_zero]
theorem ui (a b:Int):la [.list [.int a,.int b]]=some (.int (a+b)):=by show some (PyData.int (a+(b+0)))=_; rw [Int.add_zero]
theorem uh (x:D) (l:List D):bt (x :: l) (some 1) none=l:=AJ x l
theorem ug (x:D) (l:List D):(HT.sIx (x :: l).length 0 (some 1)=0)=False:=Fm x l
theorem uf (p:Prop):(False∧p)=False:=false_and p
theorem ue:(¬ False)=True:=not_false_eq_true
theorem ud:(!true)=false:=rfl
theorem uc:(!false)=true:=rfl
theorem ub (p:Prop):(True∧p)=p:=true_and p
theorem ua (p:Prop):(p∧True)=p:=and_true p
theorem t9 (_:Decidable True):decide True=true:=decide_eq_true trivial
theorem t8 (_:Decidable False):decide False=false:=decide_eq_false (fun z=>z)
theorem t7 (α:Sort 1) (a:α):(a=a)=True:=eq_self a
end
theorem A3:type_of% ws0∧type_of% ws1∧type_of% ws2∧type_of% ws3∧type_of% ws4∧type_of% ws5∧type_of% ws6∧type_of% ws7∧type_of% ws8∧type_of% ws9∧type_of% Cw∧type_of% Cv∧type_of% Cu∧type_of% Ct∧type_of% Cs∧type_of% Cr∧type_of% Cq∧type_of% Cp∧type_of% Co∧type_of% Cn∧type_of% Cm∧type_of% Cl∧type_of% Ck∧type_of% Cj∧type_of% Ci∧type_of% Ch∧type_of% Cg∧type_of% Cf∧type_of% Ce∧type_of% Cd∧type_of% Cc∧type_of% Cb∧type_of% Ca∧type_of% B9∧type_of% B8∧type_of% B7∧type_of% B6∧type_of% B5∧type_of% B4∧type_of% B3:=⟨ws0,ws1,ws2,ws3,ws4,ws5,ws6,ws7,ws8,ws9,Cw,Cv,Cu,Ct,Cs,Cr,Cq,Cp,Co,Cn,Cm,Cl,Ck,Cj,Ci,Ch,Cg,Cf,Ce,Cd,Cc,Cb,Ca,B9,B8,B7,B6,B5,B4,B3⟩
theorem A2:type_of% B2∧type_of% B1∧type_of% B0∧type_of% BZ∧type_of% BY∧type_of% BX∧type_of% BW∧type_of% BV∧type_of% BU∧type_of% BT∧type_of% BS∧type_of% BR∧type_of% BQ∧type_of% BP∧type_of% BO∧type_of% BN∧type_of% BM∧type_of% BL∧type_of% BK∧type_of% BJ∧type_of% BI∧type_of% BH∧type_of% BG∧type_of% BF∧type_of% BE∧type_of% BD∧type_of% BC∧type_of% BB∧type_of% BA∧type_of% Bz∧type_of% By∧type_of% Bx∧type_of% Bw∧type_of% Bv∧type_of% Bu∧type_of% Bt∧type_of% Bs∧type_of% Br∧type_of% Bq∧type_of% Bp:=⟨B2,B1,B0,BZ,BY,BX,BW,BV,BU,BT,BS,BR,BQ,BP,BO,BN,BM,BL,BK,BJ,BI,BH,BG,BF,BE,BD,BC,BB,BA,Bz,By,Bx,Bw,Bv,Bu,Bt,Bs,Br,Bq,Bp⟩
theorem A1:type_of% Bo∧type_of% Bn∧type_of% Bm∧type_of% Bk∧type_of% Bj∧type_of% Bi∧type_of% Bh∧type_of% Bg∧type_of% Bf∧type_of% Be∧type_of% Bd∧type_of% Bc∧type_of% Bb∧type_of% Ba∧type_of% A9∧type_of% A8∧type_of% A7∧type_of% A6∧type_of% A5∧type_of% A4∧type_of% yN∧type_of% yM∧type_of% yL∧type_of% yK∧type_of% yJ∧type_of% yI∧type_of% yH∧type_of% yG∧type_of% yF∧type_of% yE∧type_of% yD∧type_of% yC∧type_of% yB∧type_of% yA∧type_of% yz∧type_of% yy∧type_of% yx∧type_of% yw∧type_of% yv∧type_of% yu:=⟨Bo,Bn,Bm,Bk,Bj,Bi,Bh,Bg,Bf,Be,Bd,Bc,Bb,Ba,A9,A8,A7,A6,A5,A4,yN,yM,yL,yK,yJ,yI,yH,yG,yF,yE,yD,yC,yB,yA,yz,yy,yx,yw,yv,yu⟩
theorem A0:type_of% yt∧type_of% yr∧type_of% yq∧type_of% yp∧type_of% yo∧type_of% yn∧type_of% ym∧type_of% yk∧type_of% yj∧type_of% yi∧type_of% yh∧type_of% yg∧type_of% yf∧type_of% ye∧type_of% yd∧type_of% yc∧type_of% yb∧type_of% xZ∧type_of% xY∧type_of% xX∧type_of% xW∧type_of% xV∧type_of% xU∧type_of% xT∧type_of% xS∧type_of% xR∧type_of% xQ∧type_of% xP∧type_of% xO∧type_of% xN∧type_of% xM∧type_of% xL∧type_of% xK∧type_of% xJ∧type_of% xI∧type_of% xH∧type_of% xG∧type_of% xF∧type_of% xE∧type_of% xD:=⟨yt,yr,yq,yp,yo,yn,ym,yk,yj,yi,yh,yg,yf,ye,yd,yc,yb,xZ,xY,xX,xW,xV,xU,xT,xS,xR,xQ,xP,xO,xN,xM,xL,xK,xJ,xI,xH,xG,xF,xE,xD⟩
theorem AZ:type_of% xC∧type_of% xB∧type_of% xA∧type_of% xz∧type_of% xy∧type_of% xx∧type_of% xw∧type_of% xv∧type_of% xu∧type_of% xt∧type_of% xr∧type_of% xq∧type_of% xp∧type_of% xo∧type_of% xn∧type_of% xm∧type_of% xl∧type_of% xk∧type_of% xj∧type_of% xi∧type_of% xh∧type_of% xg∧type_of% xf∧type_of% xc∧type_of% xb∧type_of% xa∧type_of% w8∧type_of% w4∧type_of% wZ∧type_of% wY∧type_of% wX∧type_of% wW∧type_of% wV∧type_of% wU∧type_of% wT∧type_of% wS∧type_of% wR∧type_of% wQ∧type_of% wP∧type_of% wO:=⟨xC,xB,xA,xz,xy,xx,xw,xv,xu,xt,xr,xq,xp,xo,xn,xm,xl,xk,xj,xi,xh,xg,xf,xc,xb,xa,w8,w4,wZ,wY,wX,wW,wV,wU,wT,wS,wR,wQ,wP,wO⟩
theorem AY:type_of% wN∧type_of% wM∧type_of% wL∧type_of% wK∧type_of% wJ∧type_of% wI∧type_of% wH∧type_of% wG∧type_of% wF∧type_of% wE∧type_of% wD∧type_of% wC∧type_of% wB∧type_of% wA∧type_of% wz∧type_of% wy∧type_of% wx∧type_of% ww∧type_of% wv∧type_of% wu∧type_of% wt∧type_of% wq∧type_of% wp∧type_of% wo∧type_of% wn∧type_of% wm∧type_of% wl∧type_of% wj∧type_of% wg∧type_of% wf∧type_of% we∧type_of% wd∧type_of% wc∧type_of% wa∧type_of% v9∧type_of% v8∧type_of% v7∧type_of% v6∧type_of% vZ∧type_of% vY:=⟨wN,wM,wL,wK,wJ,wI,wH,wG,wF,wE,wD,wC,wB,wA,wz,wy,wx,ww,wv,wu,wt,wq,wp,wo,wn,wm,wl,wj,wg,wf,we,wd,wc,wa,v9,v8,v7,v6,vZ,vY⟩
theorem AX:type_of% vX∧type_of% vW∧type_of% vV∧type_of% vU∧type_of% vT∧type_of% vS∧type_of% vR∧type_of% vQ∧type_of% vP∧type_of% vO∧type_of% vN∧type_of% vM∧type_of% vL∧type_of% vK∧type_of% vJ∧type_of% vI∧type_of% vH∧type_of% vG∧type_of% vF∧type_of% vE∧type_of% vD∧type_of% vC∧type_of% vB∧type_of% vA∧type_of% vz∧type_of% vy∧type_of% vx∧type_of% vw∧type_of% vv∧type_of% vt∧type_of% vq∧type_of% vp∧type_of% vo∧type_of% vn∧type_of% vm∧type_of% vk∧type_of% vj∧type_of% vi∧type_of% vh∧type_of% vg:=⟨vX,vW,vV,vU,vT,vS,vR,vQ,vP,vO,vN,vM,vL,vK,vJ,vI,vH,vG,vF,vE,vD,vC,vB,vA,vz,vy,vx,vw,vv,vt,vq,vp,vo,vn,vm,vk,vj,vi,vh,vg⟩
theorem AW:type_of% vf∧type_of% ve∧type_of% vd∧type_of% vc∧type_of% vb∧type_of% va∧type_of% u9∧type_of% u8∧type_of% u7∧type_of% u6∧type_of% u5∧type_of% u4∧type_of% u3∧type_of% u0∧type_of% uZ∧type_of% uY∧type_of% uX∧type_of% uW∧type_of% uV∧type_of% uU∧type_of% uT∧type_of% uS∧type_of% uR∧type_of% uQ∧type_of% uP∧type_of% uO∧type_of% uN∧type_of% uM∧type_of% uL∧type_of% uK∧type_of% uJ∧type_of% uI∧type_of% uH∧type_of% uG∧type_of% uF∧type_of% uE∧type_of% uD∧type_of% uC∧type_of% uB∧type_of% uA:=⟨vf,ve,vd,vc,vb,va,u9,u8,u7,u6,u5,u4,u3,u0,uZ,uY,uX,uW,uV,uU,uT,uS,uR,uQ,uP,uO,uN,uM,uL,uK,uJ,uI,uH,uG,uF,uE,uD,uC,uB,uA⟩
theorem AV:type_of% uz∧type_of% uy∧type_of% ux∧type_of% uw∧type_of% uv∧type_of% uu∧type_of% ut∧type_of% ur∧type_of% uq∧type_of% up∧type_of% uo∧type_of% um∧type_of% ul∧type_of% uk∧type_of% uj∧type_of% ui∧type_of% uh∧type_of% ug∧type_of% uf∧type_of% ue∧type_of% ud∧type_of% uc∧type_of% ub∧type_of% ua∧type_of% t9∧type_of% t8∧type_of% t7:=⟨uz,uy,ux,uw,uv,uu,ut,ur,uq,up,uo,um,ul,uk,uj,ui,uh,ug,uf,ue,ud,uc,ub,ua,t9,t8,t7⟩
theorem ws:type_of% A3∧type_of% A2∧type_of% A1∧type_of% A0∧type_of% AZ∧type_of% AY∧type_of% AX∧type_of% AW∧type_of% AV:=⟨A3,A2,A1,A0,AZ,AY,AX,AW,AV⟩
end L2
namespace L2
open PySem PySem.Spec PyProof.Rows
theorem eV {g:MG} {b:MS} {ts:List D} {en:En} {Q:Fl→Prop} (I:Nat→En→Prop) (h0:I 0 en)
  (hs:∀ i t en,ts[i]?=some t→I i en→W (g t en) (kFg b (I (i+1)) Q)) (hq:∀ en,I ts.length en→Q (.nx en)):W (b6 g b ts en) Q:=by
 suffices ∀ (us:List D) (i:Nat) (en:En),ts.drop i=us→i≤ts.length→I i en→W (b6 g b us en) Q from this ts 0 en rfl (Nat.zero_le _) h0
 intro us
 induction us with
 | nil =>
  intro i en hu hi h
  have:ts.length - i=0:=by rw [← List.length_drop,hu]; rfl
  simp only [ws]
  exact hq en (by rw [show ts.length=i by omega]; exact h)
 | cons t us ih =>
  intro i en hu hi h
  have ht:ts[i]?=some t:=by
   have:(ts.drop i)[0]?=some t:=by rw [hu]; rfl
   rw [List.getElem?_drop] at this
   exact this
  have hl:i < ts.length:=(List.getElem?_eq_some_iff.mp ht).1
  have hd:ts.drop (i+1)=us:=by rw [← List.drop_drop,hu]; rfl
  simp only [ws]
  refine (hs i t en ht h).use fun en1 h1=>?_
  simp only [ws] at h1 ⊢
  refine h1.use fun fl h2=>?_
  cases fl with
  | nx e=>simp only [ws] at h2 ⊢; exact ih (i+1) e hd hl h2
  | ct e=>simp only [ws] at h2 ⊢; exact ih (i+1) e hd hl h2
  | rt t e=>simp only [ws] at h2 ⊢; exact h2
theorem p9 {g:MG} {c:MT} {f:ME} {ts:List D} {en:En} {Q:List D × En→Prop} (I:Nat→List D→En→Prop) (hz:ts.length≤sizeLine) (h0:I 0 [] en)
  (hs:∀ i t us en,ts[i]?=some t→us.length≤i→I i us en→W (g t en) (DB c f us (I (i+1)))) (hq:∀ us en,us.length≤ts.length→I ts.length us en→Q (us,en)):W (lcF g c f ts [] en) Q:=by
 suffices ∀ (vs:List D) (i:Nat) (us:List D) (en:En),ts.drop i=vs→i≤ts.length→us.length≤i→I i us en→W (lcF g c f vs us en) Q from this ts 0 [] en rfl (Nat.zero_le _) (Nat.zero_le _) h0
 intro vs
 induction vs with
 | nil =>
  intro i us en hu hi hl h
  have:ts.length - i=0:=by rw [← List.length_drop,hu]; rfl
  simp only [ws]
  exact hq us en (by omega) (by rw [show ts.length=i by omega]; exact h)
 | cons t vs ih =>
  intro i us en hu hi hl h
  have ht:ts[i]?=some t:=by
   have:(ts.drop i)[0]?=some t:=by rw [hu]; rfl
   rw [List.getElem?_drop] at this
   exact this
  have hlt:i < ts.length:=(List.getElem?_eq_some_iff.mp ht).1
  have hd:ts.drop (i+1)=vs:=by rw [← List.drop_drop,hu]; rfl
  unfold lcF
  rw [aA]
  refine (hs i t us en ht hl h).use fun en1 h1=>?_
  simp only [ws] at h1
  rw [aA]
  refine h1.use fun r h2=>?_
  obtain ⟨x,en2⟩:=r
  cases x with
  | true =>
   simp only [ws] at h2
   show W ((f en2).bind _) Q
   rw [aA]
   refine h2.use fun q h3=>?_
   obtain ⟨u,en3⟩:=q
   simp only [ws] at h3
   show W (if us.length < sizeLine then _ else _) Q
   rw [if_pos (by omega)]
   exact ih (i+1) _ _ hd hlt (by rw [List.length_append]; show _+1≤_; omega) h3
  | false =>
   simp only [ws] at h2
   exact ih (i+1) _ _ hd hlt (by omega) h2
theorem AT {c:MT} {b:MS} {en:En} {Q:Fl→Prop} (I:Nat→En→Prop) (hs:∀ n en,I n en→W (c en) (kWh b (fun e=>∃ m,m < n∧I m e) Q)) {n:Nat} (h0:I n en):W (b9 c b en) Q:=by
 induction n using Nat.strongRecOn generalizing en with
 | _ n ih =>
  obtain ⟨⟨x,en1⟩,e1,h1⟩:=(hs n en h0).ex
  cases x with
  | false=>simp only [ws] at h1; exact W.of (nM e1) h1
  | true =>
   simp only [ws] at h1
   obtain ⟨fl,e2,h2⟩:=h1.ex
   cases fl with
   | nx e =>
    obtain ⟨m,hm,hi⟩:∃ m,m < n∧I m e:=h2
    obtain ⟨fl,e3,h3⟩:=(ih m hm hi).ex
    exact W.of (nN e1 e2 e3) h3
   | ct e =>
    obtain ⟨m,hm,hi⟩:∃ m,m < n∧I m e:=h2
    obtain ⟨fl,e3,h3⟩:=(ih m hm hi).ex
    obtain ⟨k,h4⟩:=gF e3
    refine W.of (gn (n:=k+1) ?_) h3
    unfold whN
    rw [e1]
    show (b en1).bind _=_
    rw [e2]
    exact h4
   | rt t e =>
    refine W.of (gn (n:=1) ?_) (show Q (.rt t e) from h2)
    unfold whN
    rw [e1]
    show (b en1).bind _=_
    rw [e2]
    rfl
theorem ie {f:ME} {ts:List D} {o:Option D} {rest:En} {Q:List D × En→Prop} (F:D→D) (hz:ts.length≤sizeLine) (hf:∀ t∈ts,W (f (some t :: rest)) (fun r=>r=(F t,some t :: rest))) (hq:∀ o',Q (ts.map F,o' :: rest)):W (lcF (gN 0) cY f ts [] (o :: rest)) Q:=by
 obtain ⟨o',e⟩:=zV (f:=f) (F:=F) (rest:=rest) ts [] o (fun t ht=>by
  obtain ⟨r,e,h⟩:=(hf t ht).ex
  rw [e,h]) (by simpa using hz)
 exact W.of e (hq o')
theorem e7 {c:MT} {f:ME} {ts:List D} {o:Option D} {rest:En} {Q:List D × En→Prop} (p:D→Bool) (F:D→D) (hz:ts.length≤sizeLine) (hc:∀ t∈ts,W (c (some t :: rest)) (fun r=>r=(p t,some t :: rest))) (hf:∀ t∈ts,p t=true→W (f (some t :: rest)) (fun r=>r=(F t,some t :: rest))) (hq:∀ o',Q ((ts.filter p).map F,o' :: rest)):W (lcF (gN 0) c f ts [] (o :: rest)) Q:=by
 obtain ⟨o',e⟩:=fE (c:=c) (f:=f) (p:=p) (F:=F) (rest:=rest) ts [] o (fun t ht=>by
  obtain ⟨r,e,h⟩:=(hc t ht).ex
  rw [e,h]) (fun t ht hp=>by
  obtain ⟨r,e,h⟩:=(hf t ht hp).ex
  rw [e,h]) (by simpa using hz)
 exact W.of e (hq o')
theorem qr {α:Type} {ts:List α} {i:Nat} {t:α} (h:ts[i]?=some t):ts.take (i+1)=ts.take i++[t]:=by
 rw [List.take_add_one,h]; rfl
theorem rM {g:MG} {b:MS} {ts:List D} {en:En} {Q:Fl→Prop} (J:En→Prop) (h0:J en) (hs:∀ t∈ts,∀ en,J en→W (g t en) (kFg b J Q)) (hq:∀ en,J en→Q (.nx en)):W (b6 g b ts en) Q :=
 eV (fun _=>J) h0 (fun _ t en ht hj=>hs t (List.mem_of_getElem? ht) en hj) hq
theorem c9 {i:Int} {n k:Nat} {t:D} (h:(il i n)[k]?=some t):k < n∧t=.int (i+(k:Nat)):=by
 unfold il at h
 rw [List.getElem?_map] at h
 obtain ⟨j,hj,rfl⟩:=Option.map_eq_some_iff.mp h
 obtain ⟨hl,e⟩:=List.getElem?_eq_some_iff.mp hj
 rw [List.getElem_range] at e
 rw [List.length_range] at hl
 exact ⟨hl,by rw [e]⟩
theorem cB (i:Int) (n:Nat):(il i n).length=n:=by unfold il; rw [List.length_map,List.length_range]
theorem sz {n:Nat} (h:n≤1000):n≤sizeLine:=Nat.le_trans h Pen3.sl1000
theorem szl {n:Nat} (h:n < 1000):n < sizeLine:=Nat.lt_of_lt_of_le h Pen3.sl1000
theorem zu {α:Type} {ts:List α} {i:Int} {x:α} (h0:0≤i) (h:ts[i.toNat]?=some x):atI ts i=some x:=by
 obtain ⟨n,rfl⟩:=Int.eq_ofNat_of_zero_le h0
 rw [a9]
 exact h
theorem bg {p:D} {m:Int} (hp:Pen3.IsPen p) (h3:0 < m) (h4:m < 1073741824) {Q:D × En→Prop} (h:∀ r p',0≤r→r < m→Pen3.IsPen p'→Q (.int r,[some p',none])):W (Pen3.F_law_draw [p,.int m]) Q:=by
 obtain ⟨r,p',e,h1,h2,h5⟩:=Pen3.draw_ok hp h3 h4
 exact W.of e (h r p' h1 h2 h5)
theorem zv {ns:List Int} {k:Int} (h0:0≤k) {Q:D × En→Prop} (h:∀ p,Pen3.IsPen p→Q (p,[none,none])):W (Pen3.F_law_pen [.list (ns.map .int),.int k]) Q:=by
 obtain ⟨p,e,hp⟩:=Pen3.pen_ok h0
 exact W.of e (h p hp)
end L2
set_option maxHeartbeats 1000000
namespace L2
namespace Tg
open PySem L2 Pen3
abbrev s1 (c:Nat):D:=.str (mk1 c)
def ev:Str:=("!\"#$&'()*+,-./0123456789:;<=>?@ABCDEFGHIJKLMNOPQRSTUVWXYZ" : Str)++("[\\]^_`abcdefghijklmnopqrstuvwxyz{|}~" : Str)
theorem iJ {α:Type} (xs:List α) (n:Nat):bt xs (some (n:Int)) none=xs.drop n:=by
 unfold bt
 rw [HT.sIx_none,HT.sIx_nat,List.take_of_length_le (by rw [List.length_drop]; exact Nat.le_refl _)]
 by_cases h:n≤xs.length
 ·rw [Nat.min_eq_left h]
 ·rw [Nat.min_eq_right (by omega),List.drop_eq_nil_of_le (Nat.le_refl _),List.drop_eq_nil_of_le (by omega)]
theorem dg {α:Type} (xs:List α) (n:Nat):bt xs none (some (n:Int))=xs.take n:=by
 unfold bt
 rw [HT.sIx_none,HT.sIx_nat,List.drop_zero,Nat.sub_zero]
 by_cases h:n≤xs.length
 ·rw [Nat.min_eq_left h]
 ·rw [Nat.min_eq_right (by omega),List.take_of_length_le (Nat.le_refl _),List.take_of_length_le (by omega)]
theorem ii:∀ ks:List Str,joinD.strsOf (ks.map .str)=some ks
 | []=>rfl
 | c :: cs=>by
  show (joinD.strsOf (cs.map .str)).map (c :: ·)=_
  rw [ii cs]
  rfl
theorem lR {ks:List Str} (h:(av ks).length≤1000) (h2:ks.length≤1000):joinD "" [.tuple (ks.map .str)]=some (.str (ofL (av ks)))∧joinD "" [.list (ks.map .str)]=some (.str (ofL (av ks))):=by
 have e:ofL (av ks)=Txt.join "" ks:=(Dm (Et ks)).symm
 constructor
 ·show (joinD.strsOf (ks.map .str)).bind _=_
  rw [ii]
  show (if _ then _ else _)=_
  rw [if_pos ⟨by decide,by rw [nF]; omega⟩,e]
 ·show (joinD.strsOf (ks.map .str)).bind _=_
  rw [ii]
  show (if _ then _ else _)=_
  rw [if_pos ⟨by decide,by rw [nF]; omega⟩,e]
def tD (ks:List Str):D:=.tuple (ks.map .str)
abbrev sgs (ks:List Str):Str:=ofL (av ks)
theorem lu (cs:List Nat):(ofL cs).length=cs.length:=by show cs.toArray.size=_; rw [List.size_toArray]
theorem hds:((("long" : Str)=("least" : Str))=False)∧((("long" : Str)=("often" : Str))=False)∧((("long" : Str)=("apart" : Str))=False)∧((("long" : Str)=("without" : Str))=False)∧((("long" : Str)=("begins" : Str))=False)∧((("long" : Str)=("ends" : Str))=False)∧((("long" : Str)=("not" : Str))=False)∧((("long" : Str)=("both" : Str))=False)∧((("long" : Str)=("either" : Str))=False)∧((("least" : Str)=("long" : Str))=False)∧((("least" : Str)=("often" : Str))=False)∧((("least" : Str)=("apart" : Str))=False)∧((("least" : Str)=("without" : Str))=False)∧((("least" : Str)=("begins" : Str))=False)∧((("least" : Str)=("ends" : Str))=False)∧((("least" : Str)=("not" : Str))=False)∧((("least" : Str)=("both" : Str))=False)∧((("least" : Str)=("either" : Str))=False)∧((("often" : Str)=("long" : Str))=False)∧((("often" : Str)=("least" : Str))=False)∧((("often" : Str)=("apart" : Str))=False)∧((("often" : Str)=("without" : Str))=False)∧((("often" : Str)=("begins" : Str))=False)∧((("often" : Str)=("ends" : Str))=False)∧((("often" : Str)=("not" : Str))=False)∧((("often" : Str)=("both" : Str))=False)∧((("often" : Str)=("either" : Str))=False)∧((("apart" : Str)=("long" : Str))=False)∧((("apart" : Str)=("least" : Str))=False)∧((("apart" : Str)=("often" : Str))=False)∧((("apart" : Str)=("without" : Str))=False)∧((("apart" : Str)=("begins" : Str))=False)∧((("apart" : Str)=("ends" : Str))=False)∧((("apart" : Str)=("not" : Str))=False)∧((("apart" : Str)=("both" : Str))=False)∧((("apart" : Str)=("either" : Str))=False)∧((("without" : Str)=("long" : Str))=False)∧((("without" : Str)=("least" : Str))=False)∧((("without" : Str)=("often" : Str))=False)∧((("without" : Str)=("apart" : Str))=False)∧((("without" : Str)=("begins" : Str))=False)∧((("without" : Str)=("ends" : Str))=False)∧((("without" : Str)=("not" : Str))=False)∧((("without" : Str)=("both" : Str))=False)∧((("without" : Str)=("either" : Str))=False)∧((("begins" : Str)=("long" : Str))=False)∧((("begins" : Str)=("least" : Str))=False)∧((("begins" : Str)=("often" : Str))=False)∧((("begins" : Str)=("apart" : Str))=False)∧((("begins" : Str)=("without" : Str))=False)∧((("begins" : Str)=("ends" : Str))=False)∧((("begins" : Str)=("not" : Str))=False)∧((("begins" : Str)=("both" : Str))=False)∧((("begins" : Str)=("either" : Str))=False)∧((("ends" : Str)=("long" : Str))=False)∧((("ends" : Str)=("least" : Str))=False)∧((("ends" : Str)=("often" : Str))=False)∧((("ends" : Str)=("apart" : Str))=False)∧((("ends" : Str)=("without" : Str))=False)∧((("ends" : Str)=("begins" : Str))=False)∧((("ends" : Str)=("not" : Str))=False)∧((("ends" : Str)=("both" : Str))=False)∧((("ends" : Str)=("either" : Str))=False)∧((("not" : Str)=("long" : Str))=False)∧((("not" : Str)=("least" : Str))=False)∧((("not" : Str)=("often" : Str))=False)∧((("not" : Str)=("apart" : Str))=False)∧((("not" : Str)=("without" : Str))=False)∧((("not" : Str)=("begins" : Str))=False)∧((("not" : Str)=("ends" : Str))=False)∧((("not" : Str)=("both" : Str))=False)∧((("not" : Str)=("either" : Str))=False)∧((("both" : Str)=("long" : Str))=False)∧((("both" : Str)=("least" : Str))=False)∧((("both" : Str)=("often" : Str))=False)∧((("both" : Str)=("apart" : Str))=False)∧((("both" : Str)=("without" : Str))=False)∧((("both" : Str)=("begins" : Str))=False)∧((("both" : Str)=("ends" : Str))=False)∧((("both" : Str)=("not" : Str))=False)∧((("both" : Str)=("either" : Str))=False)∧((("either" : Str)=("long" : Str))=False)∧((("either" : Str)=("least" : Str))=False)∧((("either" : Str)=("often" : Str))=False)∧((("either" : Str)=("apart" : Str))=False)∧((("either" : Str)=("without" : Str))=False)∧((("either" : Str)=("begins" : Str))=False)∧((("either" : Str)=("ends" : Str))=False)∧((("either" : Str)=("not" : Str))=False)∧((("either" : Str)=("both" : Str))=False):=by
 refine ⟨?_,?_,?_,?_,?_,?_,?_,?_,?_,?_,?_,?_,?_,?_,?_,?_,?_,?_,?_,?_,?_,?_,?_,?_,?_,?_,?_,?_,?_,?_,?_,?_,?_,?_,?_,?_,?_,?_,?_,?_,?_,?_,?_,?_,?_,?_,?_,?_,?_,?_,?_,?_,?_,?_,?_,?_,?_,?_,?_,?_,?_,?_,?_,?_,?_,?_,?_,?_,?_,?_,?_,?_,?_,?_,?_,?_,?_,?_,?_,?_,?_,?_,?_,?_,?_,?_,?_,?_,?_,?_⟩ <;> exact eq_false (by decide +kernel)
end Tg
end L2
namespace L2
namespace Tg
open PySem L2 Pen3
theorem CL (z y:Str) (i:Nat):Builtin.Str.subAt z y i=((((li z).drop i).take (li y).length) == li y):=StrLaws.subAt_eq z y i
theorem m5 (z:Str):(li z).length=z.length:=Array.length_toList
theorem ij (z y:Str):Txt.startswith z y=true↔li y <+: li z:=by
 show (decide (0+y.length≤z.length) && Builtin.Str.subAt z y 0)=true↔_
 rw [CL,Bool.and_eq_true,decide_eq_true_eq,beq_iff_eq,List.drop_zero]
 have a:=m5 z
 have b:=m5 y
 constructor
 ·rintro ⟨_,h⟩
  exact List.prefix_iff_eq_take.mpr h.symm
 ·intro h
  exact ⟨by have:=h.length_le; omega,(List.prefix_iff_eq_take.mp h).symm⟩
abbrev rv (z:Str):Str:=⟨z.cps.toList.reverse.toArray⟩
end Tg
end L2
set_option maxHeartbeats 4000000
namespace W43
open PySem L2
def top (i:Nat):Stmt:=PySem.Challenge.pw_wordrules_k43_what_is_a_step.main.body.getD i (.Pass ⟨0,0,0,0⟩)
structure Bl (mg:Str→Option Value):Prop where
 all0:mg "all"=none
 bool0:mg "bool"=none
 enumerate0:mg "enumerate"=none
 isinstance0:mg "isinstance"=none
 len0:mg "len"=none
 list0:mg "list"=none
 max0:mg "max"=none
 range0:mg "range"=none
 set0:mg "set"=none
 str0:mg "str"=none
 sum0:mg "sum"=none
 tuple0:mg "tuple"=none
section
variable {P:Program} {w:World} {K:PySem.W.Frag} {mg:Str→Option Value} {base:Heap} {f:Addr} {fd:FuncData}
abbrev gO:Stmt:=top 2
abbrev jW:List Str:=["signs"]
theorem scare_unlike:FnScope jW ["signs"] (aq gO):=⟨rfl,rfl,rfl,by decide +kernel,rfl,by decide +kernel,by decide +kernel⟩
def gS:MS:=(aL (e2 eqD (e1 jJ (af 0)) (eN bd (ad (af 0) ah))))
def cG:List D→Option (D × En):=fnF 0 [0] gS
theorem mS {k:Nat} (T:Bl mg)   (F:Fun K "are_unlike" "are_unlike" gO f fd):FnOk P w K mg base CX0 (k+1) f fd ["signs"] (spF K [0] 3 cG):=by
 have nd:=scare_unlike.nd
 refine F.okQ (N:=jW) (b:=gS) (J:=⟨[],[0],3,[]⟩) (ds0:=[0]) scare_unlike rfl rfl rfl rfl fun cdv A outer s H E hr=>?_
 exact (aj (ar (ci (df (K:=K) rfl hr.units) (nj (K:=K) rfl rfl rfl T.len0 rfl T.set0 (by decide +kernel) (by decide +kernel) (ac (i:=0) rfl (.inl rfl) rfl rfl rfl) rfl) (ay (bf (K:=K) rfl) rfl T.len0 (by decide +kernel) (aa (ac (i:=0) rfl (.inl rfl) rfl rfl rfl) ae rfl) rfl (by decide) rfl rfl rfl) (aW _)) rfl))
abbrev jA:Stmt:=top 4
abbrev mf:List Str:=["tongue"]
theorem scsigns_of:FnScope mf ["tongue"] (aq jA):=⟨rfl,rfl,rfl,by decide +kernel,rfl,by decide +kernel,by decide +kernel⟩
def jG:MS:=(aL (eM joinD (eC (.str "")) (ad (af 0) ah)))
def dW:List D→Option (D × En):=fnF 0 [0] jG
theorem ph {k:Nat} (T:Bl mg)   (F:Fun K "signs_of" "signs_of" jA f fd):FnOk P w K mg base CX0 (k+1) f fd ["tongue"] (spF K [0] 3 dW):=by
 have nd:=scsigns_of.nd
 refine F.okQ (N:=mf) (b:=jG) (J:=⟨[],[0],3,[]⟩) (ds0:=[0]) scsigns_of rfl rfl rfl rfl fun cdv A outer s H E hr=>?_
 exact (aj (ar (bZ (K:=K) rfl PySem.F.slot_str_join PySem.F.type_str_join (eF rfl) eH be (aa (ac (i:=0) rfl (.inl rfl) rfl rfl rfl) ae rfl) rfl rfl rfl rfl rfl rfl) rfl))
abbrev iL:Stmt:=top 3
abbrev kj:List Str:=["tongue", "thing", "signs"]
theorem scis_word:FnScope kj ["tongue", "thing"] (aq iL):=⟨rfl,rfl,rfl,by decide +kernel,rfl,by decide +kernel,by decide +kernel⟩
def kY:ME:=(e2 sQ (af 0) (af 1))
def gf:MS:=(au (sIf (bOr (bu (tV (e1 (aP "str") (af 1)))) (tV (e2 gtI (eN bd (ad (af 1) ah)) (eC (.int 60))))) (aL (eC (.bool false))) bc)
 (au (aF 2 (ax dW (ad (af 0) ah)))
 (aL (eN fX (ad (eLC true (b4 (af 1)) (gN 0) cY kY [none,some 2]) ah)))))
def cV:List D→Option (D × En):=fnF 1 [0,0] gf
theorem qC {k:Nat} (T:Bl mg) {gm:Tok} (gJ:mg "MOST_SIGNS_OF_A_WORD"=some (.int 60 gm)) (rP:Kn P w K mg base k "signs_of" ["tongue"] (spF K [0] 3 dW)) (F:Fun K "is_word" "is_word" iL f fd):FnOk P w K mg base CX0 (k+1) f fd ["tongue", "thing"] (spF K [0,0] 3 cV):=by
 have nd:=scis_word.nd
 refine F.okQ (N:=kj) (b:=gf) (J:=⟨[],[0,0,0],3,[]⟩) (ds0:=[0,0,0]) scis_word rfl rfl rfl rfl fun cdv A outer s H E hr=>?_
 exact (ai (aJ (ds2:=[0,0,0]) (qpt (bQ (aN (aH (cg (K:=K) (n:="str") rfl rfl T.isinstance0 rfl T.str0 (by decide +kernel) (by decide) (ac (i:=1) rfl (.inl rfl) rfl rfl rfl) (by decide) rfl rfl rfl rfl) (fun _=>rfl))) (bU (aO fF (ay (bf (K:=K) rfl) rfl T.len0 (by decide +kernel) (aa (ac (i:=1) rfl (.inl rfl) rfl rfl rfl) ae rfl) rfl (by decide) rfl rfl rfl) (dY rfl gJ rfl) (aW _))))) (aj (ar a0 rfl)) aM)
  (ai (ap (i:=2) (d:=0) (ds':=[0,0,0]) nd rfl (.inr rfl) (ak (d':=0) (aZ rP hr rfl (aa (ac (i:=0) rfl (.inl rfl) rfl rfl rfl) ae rfl) rfl rfl rfl rfl rfl) (by decide)) rfl (by decide) (by decide) rfl (.inl rfl))
  (aj (ar (ay (ia (K:=K) rfl rfl) rfl T.all0 (by decide +kernel) (aa (ak (d':=0) (bR (cd:=3) (d:=3) (dsi:=[0,0]) (lk:=[1]) (BlkOkC.of (ns:=["sign", "signs"]) (js:=[none,some 2]) (N0:=kj) (sc0:=aq iL) rfl rfl (by decide +kernel)) rfl (br (K:=K) rfl (ac (i:=1) rfl (.inl rfl) rfl rfl rfl)) (fun _ _ _ _ _=>(aB (i:=0) (ds':=[0,0]) (show (["sign", "signs"]:List Str).Nodup by decide +kernel) rfl (.inl rfl) rfl (by decide) (by decide) (.inr rfl))) (fun _ _ _ _ _=>cb) (fun _ _ _ _ _=>(ci DY (ac (i:=0) rfl (.inl rfl) rfl rfl rfl) (ac (i:=1) rfl (.inr (.inl rfl)) rfl rfl rfl) (by with_unfolding_all rfl))) rfl rfl (by decide) rfl (fun _=>rfl)) (by decide)) ae rfl) rfl (by decide) rfl rfl rfl) rfl))))
abbrev fq:Stmt:=top 7
abbrev i3:List Str:=["tongue", "thing"]
theorem scis_told_word:FnScope i3 ["tongue", "thing"] (aq fq):=⟨rfl,rfl,rfl,by decide +kernel,rfl,by decide +kernel,by decide +kernel⟩
def dL:MS:=(aL (jq (ax cV (ad (af 0) (ad (af 1) ah))) (cT leI leI (eC (.int 1)) (eN bd (ad (af 1) ah)) (eC (.int 6)))))
def bW:List D→Option (D × En):=fnF 0 [0,0] dL
theorem ld {k:Nat} (T:Bl mg) {i8:Tok} (jP:mg "MOST_SIGNS_TOLD"=some (.int 6 i8)) (tX:Kn P w K mg base k "is_word" ["tongue", "thing"] (spF K [0,0] 3 cV)) (F:Fun K "is_told_word" "is_told_word" fq f fd):FnOk P w K mg base CX0 (k+1) f fd ["tongue", "thing"] (spF K [0,0] 3 bW):=by
 have nd:=scis_told_word.nd
 refine F.okQ (N:=i3) (b:=dL) (J:=⟨[],[0,0],3,[]⟩) (ds0:=[0,0]) scis_told_word rfl rfl rfl rfl fun cdv A outer s H E hr=>?_
 exact (aj (ar (ke (aZ tX hr rfl (aa (ac (i:=0) rfl (.inl rfl) rfl rfl rfl) (aa (ac (i:=1) rfl (.inl rfl) rfl rfl rfl) ae rfl) rfl) rfl rfl rfl rfl rfl) (kc (pS gu gu ag (ay (bf (K:=K) rfl) rfl T.len0 (by decide +kernel) (aa (ac (i:=1) rfl (.inl rfl) rfl rfl rfl) ae rfl) rfl (by decide) rfl rfl rfl) (dY rfl jP rfl) (by with_unfolding_all rfl)))) rfl))
abbrev iN:Stmt:=top 14
abbrev km:List Str:=["tongue", "thing"]
theorem scis_part:FnScope km ["tongue", "thing"] (aq iN):=⟨rfl,rfl,rfl,by decide +kernel,rfl,by decide +kernel,by decide +kernel⟩
def k6:ME:=(ax bW (ad (af 1) (ad (af 0) ah)))
def gh:MS:=(au (sIf (bOr (bu (tV (e1 (aP "tuple") (af 1)))) (tV (e2 gtI (eN bd (ad (af 1) ah)) (eC (.int 12))))) (aL (eC (.bool false))) bc)
 (aL (jq (eN fX (ad (eLC true (b4 (af 1)) (gN 0) cY k6 [none,some 0]) ah)) (ax cG (ad (af 1) ah)))))
def cW:List D→Option (D × En):=fnF 0 [0,0] gh
theorem qF {k:Nat} (T:Bl mg) {gl:Tok} (gI:mg "MOST_WORDS_OF_A_PART"=some (.int 12 gl)) (nY:Kn P w K mg base k "are_unlike" ["signs"] (spF K [0] 3 cG)) (mx:Kn P w K mg base k "is_told_word" ["tongue", "thing"] (spF K [0,0] 3 bW)) (F:Fun K "is_part" "is_part" iN f fd):FnOk P w K mg base CX0 (k+1) f fd ["tongue", "thing"] (spF K [0,0] 3 cW):=by
 have nd:=scis_part.nd
 refine F.okQ (N:=km) (b:=gh) (J:=⟨[],[0,0],3,[]⟩) (ds0:=[0,0]) scis_part rfl rfl rfl rfl fun cdv A outer s H E hr=>?_
 exact (ai (aJ (ds2:=[0,0]) (qpt (bQ (aN (aH (cg (K:=K) (n:="tuple") rfl rfl T.isinstance0 rfl T.tuple0 (by decide +kernel) (by decide) (ac (i:=1) rfl (.inl rfl) rfl rfl rfl) (by decide) rfl rfl rfl rfl) (fun _=>rfl))) (bU (aO fF (ay (bf (K:=K) rfl) rfl T.len0 (by decide +kernel) (aa (ac (i:=1) rfl (.inl rfl) rfl rfl rfl) ae rfl) rfl (by decide) rfl rfl rfl) (dY rfl gI rfl) (aW _))))) (aj (ar a0 rfl)) aM)
  (aj (ar (ke (ay (ia (K:=K) rfl rfl) rfl T.all0 (by decide +kernel) (aa (ak (d':=0) (bR (cd:=3) (d:=3) (dsi:=[0,0]) (lk:=[1]) (BlkOkC.of (ns:=["word", "tongue"]) (js:=[none,some 0]) (N0:=km) (sc0:=aq iN) rfl rfl (by decide +kernel)) rfl (br (K:=K) rfl (ac (i:=1) rfl (.inl rfl) rfl rfl rfl)) (fun _ _ _ _ _=>(aB (i:=0) (ds':=[0,0]) (show (["word", "tongue"]:List Str).Nodup by decide +kernel) rfl (.inl rfl) rfl (by decide) (by decide) (.inr rfl))) (fun _ _ _ _ _=>cb) (fun _ _ _ _ _=>(aZ mx hr rfl (aa (ac (i:=1) rfl (.inr (.inl rfl)) rfl rfl rfl) (aa (ac (i:=0) rfl (.inl rfl) rfl rfl rfl) ae rfl) rfl) rfl rfl rfl rfl rfl)) rfl rfl (by decide) rfl (fun _=>rfl)) (by decide)) ae rfl) rfl (by decide) rfl rfl rfl) (kc (aZ nY hr rfl (aa (ac (i:=1) rfl (.inl rfl) rfl rfl rfl) ae rfl) rfl rfl rfl rfl rfl))) rfl)))
abbrev cj:Stmt:=top 16
abbrev dw:List Str:=["part", "text"]
theorem scwords_that_begin:FnScope dw ["part", "text"] (aq cj):=⟨rfl,rfl,rfl,by decide +kernel,rfl,by decide +kernel,by decide +kernel⟩
def eA:MT:=(tV (eM fJ (af 1) (ad (af 0) ah)))
def eB:ME:=(af 0)
def dy:MS:=(aL (eLC true (b4 (af 0)) (gN 0) eA eB [none,some 1]))
def bD:List D→Option (D × En):=fnF 0 [0,0] dy
theorem jd {k:Nat} (T:Bl mg)   (F:Fun K "words_that_begin" "words_that_begin" cj f fd):FnOk P w K mg base CX0 (k+1) f fd ["part", "text"] (spF K [0,0] 1 bD):=by
 have nd:=scwords_that_begin.nd
 refine F.okQ (N:=dw) (b:=dy) (J:=⟨[],[0,0],1,[]⟩) (ds0:=[0,0]) scwords_that_begin rfl rfl rfl rfl fun cdv A outer s H E hr=>?_
 exact (aj (ar (bR (cd:=0) (d:=1) (dsi:=[0,0]) (lk:=[1]) (BlkOkC.of (ns:=["word", "text"]) (js:=[none,some 1]) (N0:=dw) (sc0:=aq cj) rfl rfl (by decide +kernel)) rfl (br (K:=K) rfl (ac (i:=0) rfl (.inl rfl) rfl rfl rfl)) (fun _ _ _ _ _=>(aB (i:=0) (ds':=[0,0]) (show (["word", "text"]:List Str).Nodup by decide +kernel) rfl (.inl rfl) rfl (by decide) (by decide) (.inr rfl))) (fun _ _ _ _ _=>(cQ (aH (bZ (K:=K) rfl PySem.F.slot_str_startswith PySem.F.type_str_startswith jf jn (ac (i:=1) rfl (.inr (.inl rfl)) rfl rfl rfl) (aa (ac (i:=0) rfl (.inl rfl) rfl rfl rfl) ae rfl) rfl rfl rfl rfl rfl rfl) (fun _=>rfl)))) (fun _ _ _ _ _=>(ac (i:=0) rfl (.inl rfl) rfl rfl rfl)) rfl rfl (by decide) rfl (fun _=>rfl)) rfl))
abbrev bY:Stmt:=top 15
abbrev cw:List Str:=["part"]
theorem scnone_begins_another:FnScope cw ["part"] (aq bY):=⟨rfl,rfl,rfl,by decide +kernel,rfl,by decide +kernel,by decide +kernel⟩
def dD:ME:=(e2 eqD (ax bD (ad (af 1) (ad (af 0) ah))) (bh (ad (af 0) ah)))
def cx:MS:=(aL (eN fX (ad (eLC true (b4 (af 0)) (gN 0) cY dD [none,some 0]) ah)))
def bq:List D→Option (D × En):=fnF 0 [0] cx
theorem hC {k:Nat} (T:Bl mg)  (jQ:Kn P w K mg base k "words_that_begin" ["part", "text"] (spF K [0,0] 1 bD)) (F:Fun K "none_begins_another" "none_begins_another" bY f fd):FnOk P w K mg base CX0 (k+1) f fd ["part"] (spF K [0] 3 bq):=by
 have nd:=scnone_begins_another.nd
 refine F.okQ (N:=cw) (b:=cx) (J:=⟨[],[0],3,[]⟩) (ds0:=[0]) scnone_begins_another rfl rfl rfl rfl fun cdv A outer s H E hr=>?_
 exact (aj (ar (ay (ia (K:=K) rfl rfl) rfl T.all0 (by decide +kernel) (aa (ak (d':=0) (bR (cd:=3) (d:=3) (dsi:=[0,0]) (lk:=[1]) (BlkOkC.of (ns:=["word", "part"]) (js:=[none,some 0]) (N0:=cw) (sc0:=aq bY) rfl rfl (by decide +kernel)) rfl (br (K:=K) rfl (ac (i:=0) rfl (.inr (.inl rfl)) rfl rfl rfl)) (fun _ _ _ _ _=>(aB (i:=0) (ds':=[0,0]) (show (["word", "part"]:List Str).Nodup by decide +kernel) rfl (.inl rfl) rfl (by decide) (by decide) (.inr rfl))) (fun _ _ _ _ _=>cb) (fun _ _ _ _ _=>(ci (df (K:=K) rfl hr.units) (aZ jQ hr rfl (aa (ac (i:=1) rfl (.inr (.inl rfl)) rfl rfl rfl) (aa (ac (i:=0) rfl (.inl rfl) rfl rfl rfl) ae rfl) rfl) rfl rfl rfl rfl rfl) (aT (d:=1) (c:=0) (aa (ac (i:=0) rfl (.inl rfl) rfl rfl rfl) ae rfl) rfl rfl (by decide)) (aW _))) rfl rfl (by decide) rfl (fun _=>rfl)) (by decide)) ae rfl) rfl (by decide) rfl rfl rfl) rfl))
abbrev fZ:Stmt:=top 13
abbrev iR:List Str:=["tongue", "thing"]
theorem scis_step:FnScope iR ["tongue", "thing"] (aq fZ):=⟨rfl,rfl,rfl,by decide +kernel,rfl,by decide +kernel,by decide +kernel⟩
def k4:ME:=(ax cW (ad (af 1) (ad (af 0) ah)))
def kZ:ME:=(ax bq (ad (af 0) ah))
def eS:MS:=(au (sIf (bOr (bu (tV (e1 (aP "tuple") (af 1)))) (bu (tV (cT leI leI (eC (.int 1)) (eN bd (ad (af 1) ah)) (eC (.int 5)))))) (aL (eC (.bool false))) bc)
 (aL (jq (eN fX (ad (eLC true (b4 (af 1)) (gN 0) cY k4 [none,some 0]) ah)) (eN fX (ad (eLC true (b4 (eSl dF (af 1) bO (bA (e1 sv (eC (.int 1)))))) (gN 0) cY kZ [none]) ah)))))
def bK:List D→Option (D × En):=fnF 0 [0,0] eS
theorem qD {k:Nat} (T:Bl mg) {mm:Tok} (ng:mg "MOST_PARTS"=some (.int 5 mm)) (tY:Kn P w K mg base k "is_part" ["tongue", "thing"] (spF K [0,0] 3 cW)) (iT:Kn P w K mg base k "none_begins_another" ["part"] (spF K [0] 3 bq)) (F:Fun K "is_step" "is_step" fZ f fd):FnOk P w K mg base CX0 (k+1) f fd ["tongue", "thing"] (spF K [0,0] 3 bK):=by
 have nd:=scis_step.nd
 refine F.okQ (N:=iR) (b:=eS) (J:=⟨[],[0,0],3,[]⟩) (ds0:=[0,0]) scis_step rfl rfl rfl rfl fun cdv A outer s H E hr=>?_
 exact (ai (aJ (ds2:=[0,0]) (qpt (bQ (aN (aH (cg (K:=K) (n:="tuple") rfl rfl T.isinstance0 rfl T.tuple0 (by decide +kernel) (by decide) (ac (i:=1) rfl (.inl rfl) rfl rfl rfl) (by decide) rfl rfl rfl rfl) (fun _=>rfl))) (bU (aN (iA gu gu ag (ay (bf (K:=K) rfl) rfl T.len0 (by decide +kernel) (aa (ac (i:=1) rfl (.inl rfl) rfl rfl rfl) ae rfl) rfl (by decide) rfl rfl rfl) (dY rfl ng rfl) (by with_unfolding_all rfl)))))) (aj (ar a0 rfl)) aM)
  (aj (ar (ke (ay (ia (K:=K) rfl rfl) rfl T.all0 (by decide +kernel) (aa (ak (d':=0) (bR (cd:=3) (d:=3) (dsi:=[0,0]) (lk:=[1]) (BlkOkC.of (ns:=["part", "tongue"]) (js:=[none,some 0]) (N0:=iR) (sc0:=aq fZ) rfl rfl (by decide +kernel)) rfl (br (K:=K) rfl (ac (i:=1) rfl (.inl rfl) rfl rfl rfl)) (fun _ _ _ _ _=>(aB (i:=0) (ds':=[0,0]) (show (["part", "tongue"]:List Str).Nodup by decide +kernel) rfl (.inl rfl) rfl (by decide) (by decide) (.inr rfl))) (fun _ _ _ _ _=>cb) (fun _ _ _ _ _=>(aZ tY hr rfl (aa (ac (i:=1) rfl (.inr (.inl rfl)) rfl rfl rfl) (aa (ac (i:=0) rfl (.inl rfl) rfl rfl rfl) ae rfl) rfl) rfl rfl rfl rfl rfl)) rfl rfl (by decide) rfl (fun _=>rfl)) (by decide)) ae rfl) rfl (by decide) rfl rfl rfl) (kc (ay (ia (K:=K) rfl rfl) rfl T.all0 (by decide +kernel) (aa (ak (d':=0) (bR (cd:=3) (d:=3) (dsi:=[0]) (lk:=[]) (BlkOkC.of (ns:=["part"]) (js:=[none]) (N0:=iR) (sc0:=aq fZ) rfl rfl (by decide +kernel)) rfl (br (K:=K) rfl (aU (cD (K:=K) rfl) (ac (i:=1) rfl (.inl rfl) rfl rfl rfl) a7 (aX (AA DX ag)))) (fun _ _ _ _ _=>(aB (i:=0) (ds':=[0]) (show (["part"]:List Str).Nodup by decide +kernel) rfl (.inl rfl) rfl (by decide) (by decide) (.inr rfl))) (fun _ _ _ _ _=>cb) (fun _ _ _ _ _=>(aZ iT hr rfl (aa (ac (i:=0) rfl (.inl rfl) rfl rfl rfl) ae rfl) rfl rfl rfl rfl rfl)) rfl rfl (by decide) rfl (fun _=>rfl)) (by decide)) ae rfl) rfl (by decide) rfl rfl rfl))) rfl)))
abbrev iM:Stmt:=top 12
abbrev kl:List Str:=["tongue", "thing"]
theorem scis_plan:FnScope kl ["tongue", "thing"] (aq iM):=⟨rfl,rfl,rfl,by decide +kernel,rfl,by decide +kernel,by decide +kernel⟩
def k5:ME:=(ax bK (ad (af 1) (ad (af 0) ah)))
def gg:MS:=(au (sIf (bOr (bu (tV (e1 (aP "tuple") (af 1)))) (tV (e2 gtI (eN bd (ad (af 1) ah)) (eC (.int 3))))) (aL (eC (.bool false))) bc)
 (aL (eN fX (ad (eLC true (b4 (af 1)) (gN 0) cY k5 [none,some 0]) ah))))
def bx:List D→Option (D × En):=fnF 0 [0,0] gg
theorem qE {k:Nat} (T:Bl mg) {mj:Tok} (nc:mg "MOST_STEPS"=some (.int 3 mj)) (gb:Kn P w K mg base k "is_step" ["tongue", "thing"] (spF K [0,0] 3 bK)) (F:Fun K "is_plan" "is_plan" iM f fd):FnOk P w K mg base CX0 (k+1) f fd ["tongue", "thing"] (spF K [0,0] 3 bx):=by
 have nd:=scis_plan.nd
 refine F.okQ (N:=kl) (b:=gg) (J:=⟨[],[0,0],3,[]⟩) (ds0:=[0,0]) scis_plan rfl rfl rfl rfl fun cdv A outer s H E hr=>?_
 exact (ai (aJ (ds2:=[0,0]) (qpt (bQ (aN (aH (cg (K:=K) (n:="tuple") rfl rfl T.isinstance0 rfl T.tuple0 (by decide +kernel) (by decide) (ac (i:=1) rfl (.inl rfl) rfl rfl rfl) (by decide) rfl rfl rfl rfl) (fun _=>rfl))) (bU (aO fF (ay (bf (K:=K) rfl) rfl T.len0 (by decide +kernel) (aa (ac (i:=1) rfl (.inl rfl) rfl rfl rfl) ae rfl) rfl (by decide) rfl rfl rfl) (dY rfl nc rfl) (aW _))))) (aj (ar a0 rfl)) aM)
  (aj (ar (ay (ia (K:=K) rfl rfl) rfl T.all0 (by decide +kernel) (aa (ak (d':=0) (bR (cd:=3) (d:=3) (dsi:=[0,0]) (lk:=[1]) (BlkOkC.of (ns:=["step", "tongue"]) (js:=[none,some 0]) (N0:=kl) (sc0:=aq iM) rfl rfl (by decide +kernel)) rfl (br (K:=K) rfl (ac (i:=1) rfl (.inl rfl) rfl rfl rfl)) (fun _ _ _ _ _=>(aB (i:=0) (ds':=[0,0]) (show (["step", "tongue"]:List Str).Nodup by decide +kernel) rfl (.inl rfl) rfl (by decide) (by decide) (.inr rfl))) (fun _ _ _ _ _=>cb) (fun _ _ _ _ _=>(aZ gb hr rfl (aa (ac (i:=1) rfl (.inr (.inl rfl)) rfl rfl rfl) (aa (ac (i:=0) rfl (.inl rfl) rfl rfl rfl) ae rfl) rfl) rfl rfl rfl rfl rfl)) rfl rfl (by decide) rfl (fun _=>rfl)) (by decide)) ae rfl) rfl (by decide) rfl rfl rfl) rfl)))
abbrev jB:Stmt:=top 18
abbrev mh:List Str:=["_law_script", "_law_k", "_law_cell"]
theorem sc_law_pen:FnScope mh ["_law_script", "_law_k"] (aq jB):=⟨rfl,rfl,rfl,by decide +kernel,rfl,by decide +kernel,by decide +kernel⟩
def ce:MS:=(au (aF 2 (e2 bj (e2 cO (eC (.int 6151)) (af 1)) (eC (.int 3))))
 (au (sIf (tV (e2 ltI (af 1) (eN bd (ad (af 0) ah)))) (aF 2 (e2 ixA (af 0) (af 1))) (sIf (tV (e2 gtI (eN bd (ad (af 0) ah)) (eC (.int 0)))) (aF 2 (e2 bj (e2 bX (e2 ixA (af 0) (e2 bX (af 1) (eN bd (ad (af 0) ah)))) (eC (.int 2147483629))) (e2 cO (eC (.int 40503)) (af 1)))) bc))
 (au (sIf (tV (e2 geI (af 2) (e2 lb (eC (.int 10)) (eC (.int 18))))) (aL (bh (ad (e2 e9 (af 2) (e2 lb (eC (.int 10)) (eC (.int 18)))) (ad (e2 bX (af 2) (eC (.int 2147483587))) (ad (eC (.int 0)) ah))))) bc)
 (aL (bh (ad (eC (.int 0)) (ad (e2 bX (af 2) (eC (.int 2147483587))) (ad (eC (.int 0)) ah))))))))
def F_law_pen:List D→Option (D × En):=fnF 1 [0,0] ce
theorem pi {k:Nat} (T:Bl mg)   (F:Fun K "_law_pen" "_law_pen" jB f fd):FnOk P w K mg base CX0 (k+1) f fd ["_law_script", "_law_k"] (spF K [0,0] 3 F_law_pen):=by
 have nd:=sc_law_pen.nd
 refine F.okQ (N:=mh) (b:=ce) (J:=⟨[],[0,0,0],3,[]⟩) (ds0:=[0,0,0]) sc_law_pen rfl rfl rfl rfl fun cdv A outer s H E hr=>?_
 exact (ai (ap (i:=2) (d:=0) (ds':=[0,0,0]) nd rfl (.inl rfl) (ak (d':=0) (am a8 (am hZ ag (ac (i:=1) rfl (.inl rfl) rfl rfl rfl)) ag) (by decide)) rfl (by decide) (by decide) rfl (.inl rfl))
  (ai (aJ (ds2:=[0,0,0]) (aO zq (ac (i:=1) rfl (.inl rfl) rfl rfl rfl) (ay (bf (K:=K) rfl) rfl T.len0 (by decide +kernel) (aa (ac (i:=0) rfl (.inl rfl) rfl rfl rfl) ae rfl) rfl (by decide) rfl rfl rfl) (aW _)) (aj (ap (i:=2) (d:=0) (ds':=[0,0,0]) nd rfl (.inl rfl) (bv (de (K:=K) rfl) (ac (i:=0) rfl (.inl rfl) rfl rfl rfl) (ac (i:=1) rfl (.inl rfl) rfl rfl rfl) (fun _ _=>rfl)) rfl (by decide) (by decide) rfl (.inl rfl))) (aj (aJ (ds2:=[0,0,0]) (aO fF (ay (bf (K:=K) rfl) rfl T.len0 (by decide +kernel) (aa (ac (i:=0) rfl (.inl rfl) rfl rfl rfl) ae rfl) rfl (by decide) rfl rfl rfl) ag (aW _)) (aj (ap (i:=2) (d:=0) (ds':=[0,0,0]) nd rfl (.inl rfl) (ak (d':=0) (am a8 (am cR (bv (de (K:=K) rfl) (ac (i:=0) rfl (.inl rfl) rfl rfl rfl) (am cR (ac (i:=1) rfl (.inl rfl) rfl rfl rfl) (ay (bf (K:=K) rfl) rfl T.len0 (by decide +kernel) (aa (ac (i:=0) rfl (.inl rfl) rfl rfl rfl) ae rfl) rfl (by decide) rfl rfl rfl)) (fun _ _=>rfl)) ag) (am hZ ag (ac (i:=1) rfl (.inl rfl) rfl rfl rfl))) (by decide)) rfl (by decide) (by decide) rfl (.inl rfl))) aM)))
  (ai (aJ (ds2:=[0,0,0]) (aO EX (ac (i:=2) rfl (.inl rfl) rfl rfl rfl) (am re ag ag) (aW _)) (aj (ar (aT (d:=3) (c:=3) (aa (am hX (ac (i:=2) rfl (.inl rfl) rfl rfl rfl) (am re ag ag)) (aa (am cR (ac (i:=2) rfl (.inl rfl) rfl rfl rfl) ag) (aa ag ae rfl) rfl) rfl) rfl rfl (by decide)) rfl)) aM)
  (aj (ar (aT (d:=3) (c:=3) (aa ag (aa (am cR (ac (i:=2) rfl (.inl rfl) rfl rfl rfl) ag) (aa ag ae rfl) rfl) rfl) rfl rfl (by decide)) rfl)))))
abbrev iQ:Stmt:=top 19
abbrev kT:List Str:=["_law_pen_here", "_law_many", "_law_drawn", "_law_number"]
theorem sc_law_draw:FnScope kT ["_law_pen_here", "_law_many"] (aq iQ):=⟨rfl,rfl,rfl,by decide +kernel,rfl,by decide +kernel,by decide +kernel⟩
def cf:MS:=(au (dX 0 (eC (.int 2)) (e2 bj (cq 0 (eC (.int 2))) (eC (.int 1))))
 (au (sIf (tV (e2 gtI (cq 0 (eC (.int 0))) (eC (.int 0)))) (au (aF 2 (e2 bX (cq 0 (eC (.int 0))) (af 1)))
 (au (dX 0 (eC (.int 0)) (e2 eT (cq 0 (eC (.int 0))) (af 1)))
 (aL (af 2)))) bc)
 (au (aF 3 (e2 bX (e2 bj (e2 bj (cq 0 (eC (.int 1))) (e2 cO (eC (.int 69621)) (cq 0 (eC (.int 2))))) (eC (.int 13))) (eC (.int 2147483629))))
 (au (aF 3 (e2 bj (e2 bX (e2 cO (af 3) (af 3)) (eC (.int 2147483587))) (e2 cO (eC (.int 6151)) (cq 0 (eC (.int 2))))))
 (au (aF 3 (e2 bX (e2 cO (af 3) (af 3)) (eC (.int 2147483629))))
 (aL (e2 bX (e2 eT (af 3) (eC (.int 64))) (af 1))))))))
def F_law_draw:List D→Option (D × En):=fnF 2 [1,0] cf
theorem nR {k:Nat} (T:Bl mg)   (F:Fun K "_law_draw" "_law_draw" iQ f fd):FnOk P w K mg base CX0 (k+1) f fd ["_law_pen_here", "_law_many"] (spF K [1,0] 0 F_law_draw):=by
 have nd:=sc_law_draw.nd
 refine F.okQ (N:=kT) (b:=cf) (J:=⟨[0],[1,0,0,0],0,[]⟩) (ds0:=[1,0,0,0]) sc_law_draw rfl rfl rfl rfl fun cdv A outer s H E hr=>?_
 exact (ai (iC (i:=0) (d:=1) (c:=0) rfl (.inl rfl) (ak (d':=0) (am a8 (dN (K:=K) (i:=0) rfl rfl (.inl rfl) rfl ag (fun _ _=>rfl) rfl rfl) ag) (by decide)) ag rfl (by decide) rfl rfl rfl (fun _=>rfl) rfl rfl rfl)
  (ai (aJ (ds2:=[1,0,0,0]) (aO fF (dN (K:=K) (i:=0) rfl rfl (.inl rfl) rfl ag (fun _ _=>rfl) rfl rfl) ag (aW _)) (ai (ap (i:=2) (d:=0) (ds':=[1,0,0,0]) nd rfl (.inl rfl) (ak (d':=0) (am cR (dN (K:=K) (i:=0) rfl rfl (.inl rfl) rfl ag (fun _ _=>rfl) rfl rfl) (ac (i:=1) rfl (.inl rfl) rfl rfl rfl)) (by decide)) rfl (by decide) (by decide) rfl (.inl rfl))
  (ai (iC (i:=0) (d:=1) (c:=0) rfl (.inl rfl) (ak (d':=0) (am lD (dN (K:=K) (i:=0) rfl rfl (.inl rfl) rfl ag (fun _ _=>rfl) rfl rfl) (ac (i:=1) rfl (.inl rfl) rfl rfl rfl)) (by decide)) ag rfl (by decide) rfl rfl rfl (fun _=>rfl) rfl rfl rfl)
  (aj (ar (ac (i:=2) rfl (.inl rfl) rfl rfl rfl) rfl)))) aM)
  (ai (ap (i:=3) (d:=0) (ds':=[1,0,0,0]) nd rfl (.inl rfl) (ak (d':=0) (am cR (am a8 (am a8 (dN (K:=K) (i:=0) rfl rfl (.inl rfl) rfl ag (fun _ _=>rfl) rfl rfl) (am hZ ag (dN (K:=K) (i:=0) rfl rfl (.inl rfl) rfl ag (fun _ _=>rfl) rfl rfl))) ag) ag) (by decide)) rfl (by decide) (by decide) rfl (.inl rfl))
  (ai (ap (i:=3) (d:=0) (ds':=[1,0,0,0]) nd rfl (.inl rfl) (ak (d':=0) (am a8 (am cR (am hZ (ac (i:=3) rfl (.inl rfl) rfl rfl rfl) (ac (i:=3) rfl (.inl rfl) rfl rfl rfl)) ag) (am hZ ag (dN (K:=K) (i:=0) rfl rfl (.inl rfl) rfl ag (fun _ _=>rfl) rfl rfl))) (by decide)) rfl (by decide) (by decide) rfl (.inl rfl))
  (ai (ap (i:=3) (d:=0) (ds':=[1,0,0,0]) nd rfl (.inl rfl) (ak (d':=0) (am cR (am hZ (ac (i:=3) rfl (.inl rfl) rfl rfl rfl) (ac (i:=3) rfl (.inl rfl) rfl rfl rfl)) ag) (by decide)) rfl (by decide) (by decide) rfl (.inl rfl))
  (aj (ar (ak (d':=0) (am cR (am lD (ac (i:=3) rfl (.inl rfl) rfl rfl rfl) ag) (ac (i:=1) rfl (.inl rfl) rfl rfl rfl)) (by decide)) rfl)))))))
abbrev eg:Stmt:=top 20
abbrev ga:List Str:=["_law_pen_here", "_law_most", "_law_signs", "_law_amount", "_law_sizes", "_law_kinds", "_law_size", "_law_kind", "_law_k", "_law_at"]
theorem sc_law_tongue:FnScope ga ["_law_pen_here", "_law_most"] (aq eg):=⟨rfl,rfl,rfl,by decide +kernel,rfl,by decide +kernel,by decide +kernel⟩
def eR:ME:=(e2 bj (eC (.int 1)) (ax F_law_draw (aS 1 (ad (af 2) ah))))
def dk:MS:=(dX 4 (e2 fS (af 4) (eN mE (ad (af 4) ah))) (e2 e9 (eN mE (ad (af 4) ah)) (eC (.int 1))))
def cr:MT:=(tV (e2 gtI (eN la (ad (af 4) ah)) (eC (.int 12))))
def eQ:MS:=(au (aF 9 (ax F_law_draw (aS 0 (ad (eN bd (ad (af 2) ah)) ah))))
 (au (aF 7 (e2 bj (af 7) (e2 ixT (af 2) (af 9))))
 (aF 2 (e2 bj (eSl gL (af 2) bO (bA (af 9))) (eSl gL (af 2) (bA (e2 bj (af 9) (eC (.int 1)))) bO)))))
def di:MS:=(au (aF 7 (eC (.str "")))
 (au (ck (ca (ad (af 6) ah)) (gN 8) eQ)
 (ik (gK 5 (af 7)))))
noncomputable def gi:MS:=(au (aF 2 (eC (.str "!\"#$&'()*+,-./0123456789:;<=>?@ABCDEFGHIJKLMNOPQRSTUVWXYZ[\\]^_`abcdefghijklmnopqrstuvwxyz{|}~")))
 (au (aF 3 (e2 bj (eC (.int 1)) (ax F_law_draw (aS 0 (ad (eC (.int 4)) ah)))))
 (au (aF 4 (eLC false (ca (ad (af 3) ah)) (gN 0) cY eR [none,some 0,some 1]))
 (au (sIf (fm (tV (e2 eqD (af 1) (eC (.int 6)))) (tV (e2 eqD (ax F_law_draw (aS 0 (ad (eC (.int 6)) ah))) (eC (.int 0))))) (aF 4 (e2 ixA (bh (ad (bh (ad (eC (.int 6)) (ad (eC (.int 6)) ah))) (ad (bh (ad (eC (.int 4)) (ad (eC (.int 4)) (ad (eC (.int 4)) ah)))) (ad (bh (ad (eC (.int 3)) (ad (eC (.int 3)) (ad (eC (.int 3)) (ad (eC (.int 3)) ah))))) (ad (bh (ad (eC (.int 6)) (ad (eC (.int 1)) (ad (eC (.int 5)) ah)))) ah))))) (ax F_law_draw (aS 0 (ad (eC (.int 4)) ah))))) bc)
 (au (b9 cr dk)
 (au (aF 5 (bh ah))
 (au (ck (b4 (af 4)) (gN 6) di)
 (aL (eN gE (ad (af 5) ah))))))))))
noncomputable def cu:List D→Option (D × En):=fnF 8 [1,0] gi
theorem mr {k:Nat} (T:Bl mg)  (aE:Kn P w K mg base k "_law_draw" ["_law_pen_here", "_law_many"] (spF K [1,0] 0 F_law_draw)) (F:Fun K "_law_tongue" "_law_tongue" eg f fd):FnOk P w K mg base CX0 (k+1) f fd ["_law_pen_here", "_law_most"] (spF K [1,0] 0 cu):=by
 have nd:=sc_law_tongue.nd
 refine F.okQ (N:=ga) (b:=gi) (J:=⟨[0],[1,0,0,0,0,0,0,0,0,0],0,[]⟩) (ds0:=[1,0,0,0,0,0,0,0,0,0]) sc_law_tongue rfl rfl rfl rfl fun cdv A outer s H E hr=>?_
 exact (ai (ap (i:=2) (d:=0) (ds':=[1,0,0,0,0,0,0,0,0,0]) nd rfl (.inl rfl) (ak (d':=0) be (by decide)) rfl (by decide) (by decide) rfl (.inl rfl))
  (ai (ap (i:=3) (d:=0) (ds':=[1,0,0,0,0,0,0,0,0,0]) nd rfl (.inl rfl) (ak (d':=0) (am a8 ag (aK aE hr rfl (aC (i:=0) rfl (.inr (.inl rfl)) (aa (ak (d':=0) ag (by decide)) ae rfl) rfl rfl) rfl rfl rfl rfl)) (by decide)) rfl (by decide) (by decide) rfl (.inl rfl))
  (ai (rb (ds1:=[1,0,0,0,1,0,0,0,0,0]) (nU (i:=4) (ds':=[1,0,0,0,3,0,0,0,0,0]) (cd:=3) (d:=3) (dsi:=[0,1,0]) (lk:=[1,2]) nd rfl rfl (BlkOkC.of (ns:=["_law_k", "_law_pen_here", "_law_most"]) (js:=[none,some 0,some 1]) (N0:=ga) (sc0:=aq eg) rfl rfl (by decide +kernel)) rfl (cc rfl T.range0 (aa (ac (i:=3) rfl (.inl rfl) rfl rfl rfl) ae rfl) rfl) (fun _ _ _ _ _=>(aB (i:=0) (ds':=[0,1,0]) (show (["_law_k", "_law_pen_here", "_law_most"]:List Str).Nodup by decide +kernel) rfl (.inl rfl) rfl (by decide) (by decide) (.inr rfl))) (fun _ _ _ _ _=>cb) (fun _ _ _ _ _=>(am a8 ag (aK aE hr rfl (aC (i:=1) rfl (.inr (.inl rfl)) (aa (ac (i:=2) rfl (.inr (.inl rfl)) rfl rfl rfl) ae rfl) rfl rfl) rfl rfl rfl rfl))) rfl rfl rfl (by decide) rfl (by decide) (by decide) rfl (fun _=>rfl)) rfl)
  (ai (aJ (ds2:=[1,0,0,0,1,0,0,0,0,0]) (qpt (nh (aO (df (K:=K) rfl hr.units) (ac (i:=1) rfl (.inr (.inl rfl)) rfl rfl rfl) ag (aW _)) (lU (aO (df (K:=K) rfl hr.units) (aK aE hr rfl (aC (i:=0) rfl (.inr (.inl rfl)) (aa (ak (d':=0) ag (by decide)) ae rfl) rfl rfl) rfl rfl rfl rfl) ag (aW _))))) (aj (ap (i:=4) (d:=1) (ds':=[1,0,0,0,1,0,0,0,0,0]) nd rfl (.inl rfl) (ak (d':=1) (nk (K:=K) rfl (aT (d:=3) (c:=3) (aa (aT (d:=3) (c:=3) (aa ag (aa ag ae rfl) rfl) rfl rfl (by decide)) (aa (aT (d:=3) (c:=3) (aa ag (aa ag (aa ag ae rfl) rfl) rfl) rfl rfl (by decide)) (aa (aT (d:=3) (c:=3) (aa ag (aa ag (aa ag (aa ag ae rfl) rfl) rfl) rfl) rfl rfl (by decide)) (aa (aT (d:=3) (c:=3) (aa ag (aa ag (aa ag ae rfl) rfl) rfl) rfl rfl (by decide)) ae rfl) rfl) rfl) rfl) rfl rfl (by decide)) (aK aE hr rfl (aC (i:=0) rfl (.inr (.inl rfl)) (aa (ak (d':=0) ag (by decide)) ae rfl) rfl rfl) rfl rfl rfl rfl) (fun _ _=>rfl) (by decide)) (by decide)) rfl (by decide) (by decide) rfl (.inl rfl))) aM)
  (ai (nT (ds:=[1,0,0,0,1,0,0,0,0,0]) (qU (ds0:=[1,0,0,0,0,0,0,0,0,0]) (aO fF (ay (DW (K:=K) rfl rfl) rfl T.sum0 (by decide +kernel) (aa (ac (i:=4) rfl (.inl rfl) rfl rfl rfl) ae rfl) rfl (by decide) rfl rfl rfl) ag (aW _)) rfl) (aj (iC (i:=4) (d:=1) (c:=0) rfl (.inl rfl) (ak (d':=0) (iE (ds0:=[1,0,0,0,0,0,0,0,0,0]) (am hX (ay (oG (K:=K) rfl rfl) rfl T.max0 (by decide +kernel) (aa (ac (i:=4) rfl (.inl rfl) rfl rfl rfl) ae rfl) rfl (by decide) rfl rfl rfl) ag) rfl) (by decide)) (iE (ds0:=[1,0,0,0,0,0,0,0,0,0]) (nV (K:=K) rfl (ac (i:=4) rfl (.inl rfl) rfl rfl rfl) (ay (oG (K:=K) rfl rfl) rfl T.max0 (by decide +kernel) (aa (ac (i:=4) rfl (.inl rfl) rfl rfl rfl) ae rfl) rfl (by decide) rfl rfl rfl) rfl rfl rfl rfl rfl) rfl) rfl (by decide) rfl rfl rfl (fun _=>rfl) rfl rfl rfl)) PassesOwn.never)
  (ai (ap (i:=5) (d:=1) (ds':=[1,0,0,0,1,1,0,0,0,0]) nd rfl (.inl rfl) (ak (d':=1) (aT (d:=3) (c:=3) ae rfl rfl (by decide)) (by decide)) rfl (by decide) (by decide) rfl (.inl rfl))
  (ai (bF (ds1:=[1,0,0,0,0,1,0,0,0,0]) rfl (br (K:=K) rfl (jM (ds0:=[1,0,0,0,0,1,0,0,0,0]) (ac (p:=false) (i:=4) rfl (.inl rfl) rfl rfl rfl) rfl)) (aB (i:=6) (ds':=[1,0,0,0,0,1,0,0,0,0]) nd rfl (.inl rfl) rfl (by decide) (by decide) (.inl rfl)) (ai (ap (i:=7) (d:=0) (ds':=[1,0,0,0,0,1,0,0,0,0]) nd rfl (.inl rfl) (ak (d':=0) be (by decide)) rfl (by decide) (by decide) rfl (.inl rfl))
  (ai (bF (ds1:=[1,0,0,0,0,1,0,0,0,0]) rfl (cc rfl T.range0 (aa (ac (i:=6) rfl (.inl rfl) rfl rfl rfl) ae rfl) rfl) (aB (i:=8) (ds':=[1,0,0,0,0,1,0,0,0,0]) nd rfl (.inl rfl) rfl (by decide) (by decide) (.inl rfl)) (ai (ap (i:=9) (d:=0) (ds':=[1,0,0,0,0,1,0,0,0,0]) nd rfl (.inl rfl) (aK aE hr rfl (aC (i:=0) rfl (.inr (.inl rfl)) (aa (ak (d':=0) (ay (bf (K:=K) rfl) rfl T.len0 (by decide +kernel) (aa (ac (i:=2) rfl (.inl rfl) rfl rfl rfl) ae rfl) rfl (by decide) rfl rfl rfl) (by decide)) ae rfl) rfl rfl) rfl rfl rfl rfl) rfl (by decide) (by decide) rfl (.inl rfl))
  (ai (ap (i:=7) (d:=0) (ds':=[1,0,0,0,0,1,0,0,0,0]) nd rfl (.inl rfl) (ak (d':=0) (am a8 (ac (i:=7) rfl (.inl rfl) rfl rfl rfl) (bv jm (ac (i:=2) rfl (.inl rfl) rfl rfl rfl) (ac (i:=9) rfl (.inl rfl) rfl rfl rfl) (fun _ _=>rfl))) (by decide)) rfl (by decide) (by decide) rfl (.inl rfl))
  (aj (ap (i:=2) (d:=0) (ds':=[1,0,0,0,0,1,0,0,0,0]) nd rfl (.inl rfl) (ak (d':=0) (am a8 (aU eX (ac (i:=2) rfl (.inl rfl) rfl rfl rfl) a7 (aX (ac (i:=9) rfl (.inl rfl) rfl rfl rfl))) (aU eX (ac (i:=2) rfl (.inl rfl) rfl rfl rfl) (aX (am a8 (ac (i:=9) rfl (.inl rfl) rfl rfl rfl) ag)) a7)) (by decide)) rfl (by decide) (by decide) rfl (.inl rfl))))) PassesOwn.never (fun _=>rfl))
  (aj (jk (kd (K:=K) (i:=5) (d:=1) rfl rfl (.inl rfl) rfl (ac (i:=7) rfl (.inl rfl) rfl rfl rfl) (by decide) rfl rfl rfl rfl rfl rfl rfl rfl) rfl)))) PassesOwn.never (fun _=>rfl))
  (aj (ar (b0 (fU (K:=K) rfl) rfl T.tuple0 (by decide +kernel) (aa (jM (ds0:=[1,0,0,0,0,0,0,0,0,0]) (ac (p:=false) (i:=5) rfl (.inl rfl) rfl rfl rfl) rfl) ae rfl) rfl (by decide) rfl rfl rfl) rfl)))))))))
abbrev iO:Stmt:=top 21
abbrev kR:List Str:=["_law_pen_here", "_law_tongue_here", "_law_most", "_law_signs", "_law_word", "_law_alike", "_law_k", "_law_sign"]
theorem sc_law_text:FnScope kR ["_law_pen_here", "_law_tongue_here", "_law_most"] (aq iO):=⟨rfl,rfl,rfl,by decide +kernel,rfl,by decide +kernel,by decide +kernel⟩
def jC:MS:=(au (aF 7 (e2 ixT (af 3) (ax F_law_draw (aS 0 (ad (eN bd (ad (af 3) ah)) ah)))))
 (au (sIf (tV (af 5)) (aF 7 (e2 ixT (af 4) (eC (.int 0)))) bc)
 (aF 4 (e2 bj (af 4) (af 7)))))
def iV:MS:=(au (aF 3 (eM joinD (eC (.str "")) (ad (af 1) ah)))
 (au (aF 4 (e2 ixT (af 3) (ax F_law_draw (aS 0 (ad (eN bd (ad (af 3) ah)) ah)))))
 (au (aF 5 (e2 eqD (ax F_law_draw (aS 0 (ad (eC (.int 3)) ah))) (eC (.int 0))))
 (au (ck (ca (ad (ax F_law_draw (aS 0 (ad (af 2) ah))) ah)) (gN 6) jC)
 (aL (af 4))))))
def bC:List D→Option (D × En):=fnF 5 [1,0,0] iV
theorem nO {k:Nat} (T:Bl mg)  (aE:Kn P w K mg base k "_law_draw" ["_law_pen_here", "_law_many"] (spF K [1,0] 0 F_law_draw)) (F:Fun K "_law_text" "_law_text" iO f fd):FnOk P w K mg base CX0 (k+1) f fd ["_law_pen_here", "_law_tongue_here", "_law_most"] (spF K [1,0,0] 0 bC):=by
 have nd:=sc_law_text.nd
 refine F.okQ (N:=kR) (b:=iV) (J:=⟨[0],[1,0,0,0,0,0,0,0],0,[]⟩) (ds0:=[1,0,0,0,0,0,0,0]) sc_law_text rfl rfl rfl rfl fun cdv A outer s H E hr=>?_
 exact (ai (ap (i:=3) (d:=0) (ds':=[1,0,0,0,0,0,0,0]) nd rfl (.inl rfl) (ak (d':=0) (bZ (K:=K) rfl PySem.F.slot_str_join PySem.F.type_str_join (eF rfl) eH be (aa (ac (i:=1) rfl (.inl rfl) rfl rfl rfl) ae rfl) rfl rfl rfl rfl rfl rfl) (by decide)) rfl (by decide) (by decide) rfl (.inl rfl))
  (ai (ap (i:=4) (d:=0) (ds':=[1,0,0,0,0,0,0,0]) nd rfl (.inl rfl) (ak (d':=0) (bv jm (ac (i:=3) rfl (.inl rfl) rfl rfl rfl) (aK aE hr rfl (aC (i:=0) rfl (.inl rfl) (aa (ak (d':=0) (ay (bf (K:=K) rfl) rfl T.len0 (by decide +kernel) (aa (ac (i:=3) rfl (.inl rfl) rfl rfl rfl) ae rfl) rfl (by decide) rfl rfl rfl) (by decide)) ae rfl) rfl rfl) rfl rfl rfl rfl) (fun _ _=>rfl)) (by decide)) rfl (by decide) (by decide) rfl (.inl rfl))
  (ai (ap (i:=5) (d:=0) (ds':=[1,0,0,0,0,0,0,0]) nd rfl (.inl rfl) (ak (d':=0) (ci (df (K:=K) rfl hr.units) (aK aE hr rfl (aC (i:=0) rfl (.inl rfl) (aa (ak (d':=0) ag (by decide)) ae rfl) rfl rfl) rfl rfl rfl rfl) ag (aW _)) (by decide)) rfl (by decide) (by decide) rfl (.inl rfl))
  (ai (bF (ds1:=[1,0,0,0,0,0,0,0]) rfl (cc rfl T.range0 (aa (aK aE hr rfl (aC (i:=0) rfl (.inl rfl) (aa (ac (i:=2) rfl (.inl rfl) rfl rfl rfl) ae rfl) rfl rfl) rfl rfl rfl rfl) ae rfl) rfl) (aB (i:=6) (ds':=[1,0,0,0,0,0,0,0]) nd rfl (.inl rfl) rfl (by decide) (by decide) (.inl rfl)) (ai (ap (i:=7) (d:=0) (ds':=[1,0,0,0,0,0,0,0]) nd rfl (.inl rfl) (ak (d':=0) (bv jm (ac (i:=3) rfl (.inl rfl) rfl rfl rfl) (aK aE hr rfl (aC (i:=0) rfl (.inl rfl) (aa (ak (d':=0) (ay (bf (K:=K) rfl) rfl T.len0 (by decide +kernel) (aa (ac (i:=3) rfl (.inl rfl) rfl rfl rfl) ae rfl) rfl (by decide) rfl rfl rfl) (by decide)) ae rfl) rfl rfl) rfl rfl rfl rfl) (fun _ _=>rfl)) (by decide)) rfl (by decide) (by decide) rfl (.inl rfl))
  (ai (aJ (ds2:=[1,0,0,0,0,0,0,0]) (aH (ac (i:=5) rfl (.inl rfl) rfl rfl rfl) (fun _=>rfl)) (aj (ap (i:=7) (d:=0) (ds':=[1,0,0,0,0,0,0,0]) nd rfl (.inl rfl) (ak (d':=0) (bv jm (ac (i:=4) rfl (.inl rfl) rfl rfl rfl) ag (fun _ _=>rfl)) (by decide)) rfl (by decide) (by decide) rfl (.inl rfl))) aM)
  (aj (ap (i:=4) (d:=0) (ds':=[1,0,0,0,0,0,0,0]) nd rfl (.inl rfl) (ak (d':=0) (am a8 (ac (i:=4) rfl (.inl rfl) rfl rfl rfl) (ac (i:=7) rfl (.inl rfl) rfl rfl rfl)) (by decide)) rfl (by decide) (by decide) rfl (.inl rfl))))) PassesOwn.never (fun _=>rfl))
  (aj (ar (ac (i:=4) rfl (.inl rfl) rfl rfl rfl) rfl))))))
abbrev fI:Stmt:=top 22
abbrev iS:List Str:=["_law_pen_here", "_law_tongue_here", "_law_most", "_law_size", "_law_free", "_law_part_here", "_law_k", "_law_word", "_law_good"]
theorem sc_law_part:FnScope iS ["_law_pen_here", "_law_tongue_here", "_law_most", "_law_size", "_law_free"] (aq fI):=⟨rfl,rfl,rfl,by decide +kernel,rfl,by decide +kernel,by decide +kernel⟩
def jz:MT:=(bOr (tV (eM fJ (af 0) (ad (af 1) ah))) (tV (eM fJ (af 1) (ad (af 0) ah))))
def jF:ME:=(af 0)
def jE:MS:=(au (aF 7 (ax bC (aS 0 (ad (af 1) (ad (af 3) ah)))))
 (au (aF 8 (e2 mV (af 7) (af 5)))
 (au (sIf (bu (tV (af 4))) (aF 8 (e2 eqD (eLC true (b4 (af 5)) (gN 0) jz jF [none,some 7]) (bh ah))) bc)
 (sIf (tV (af 8)) (ik (gK 5 (af 7))) bc))))
def iX:MS:=(au (aF 5 (bh ah))
 (au (ck (ca (ad (af 2) ah)) (gN 6) jE)
 (aL (eN gE (ad (af 5) ah)))))
def dq:List D→Option (D × En):=fnF 4 [1,0,0,0,0] iX
theorem nQ {k:Nat} (T:Bl mg)  (eo:Kn P w K mg base k "_law_text" ["_law_pen_here", "_law_tongue_here", "_law_most"] (spF K [1,0,0] 0 bC)) (F:Fun K "_law_part" "_law_part" fI f fd):FnOk P w K mg base CX0 (k+1) f fd ["_law_pen_here", "_law_tongue_here", "_law_most", "_law_size", "_law_free"] (spF K [1,0,0,0,0] 0 dq):=by
 have nd:=sc_law_part.nd
 refine F.okQ (N:=iS) (b:=iX) (J:=⟨[0],[1,0,0,0,0,0,0,0,0],0,[]⟩) (ds0:=[1,0,0,0,0,0,0,0,0]) sc_law_part rfl rfl rfl rfl fun cdv A outer s H E hr=>?_
 exact (ai (ap (i:=5) (d:=1) (ds':=[1,0,0,0,0,1,0,0,0]) nd rfl (.inl rfl) (ak (d':=1) (aT (d:=3) (c:=3) ae rfl rfl (by decide)) (by decide)) rfl (by decide) (by decide) rfl (.inl rfl))
  (ai (bF (ds1:=[1,0,0,0,0,1,0,0,0]) rfl (cc rfl T.range0 (aa (ac (i:=2) rfl (.inl rfl) rfl rfl rfl) ae rfl) rfl) (aB (i:=6) (ds':=[1,0,0,0,0,1,0,0,0]) nd rfl (.inl rfl) rfl (by decide) (by decide) (.inl rfl)) (ai (ap (i:=7) (d:=0) (ds':=[1,0,0,0,0,1,0,0,0]) nd rfl (.inr rfl) (aK eo hr rfl (aC (i:=0) rfl (.inl rfl) (aa (ac (i:=1) rfl (.inl rfl) rfl rfl rfl) (aa (ac (i:=3) rfl (.inl rfl) rfl rfl rfl) ae rfl) rfl) rfl rfl) rfl rfl rfl rfl) rfl (by decide) (by decide) rfl (.inl rfl))
  (ai (ap (i:=8) (d:=0) (ds':=[1,0,0,0,0,1,0,0,0]) nd rfl (.inl rfl) (ak (d':=0) (iE (ds0:=[1,0,0,0,0,0,0,0,0]) (ci (sY (K:=K) rfl hr.units) (ac (i:=7) rfl (.inr (.inl rfl)) rfl rfl rfl) (ac (i:=5) rfl (.inl rfl) rfl rfl rfl) (by with_unfolding_all rfl)) rfl) (by decide)) rfl (by decide) (by decide) rfl (.inl rfl))
  (ai (aJ (ds2:=[1,0,0,0,0,1,0,0,0]) (aN (aH (ac (i:=4) rfl (.inl rfl) rfl rfl rfl) (fun _=>rfl))) (aj (ap (i:=8) (d:=0) (ds':=[1,0,0,0,0,1,0,0,0]) nd rfl (.inl rfl) (ak (d':=0) (iE (ds0:=[1,0,0,0,0,0,0,0,0]) (ci (df (K:=K) rfl hr.units) (bR (cd:=0) (d:=1) (dsi:=[0,0]) (lk:=[1]) (BlkOkC.of (ns:=["_law_one", "_law_word"]) (js:=[none,some 7]) (N0:=iS) (sc0:=aq fI) rfl rfl (by decide +kernel)) rfl (br (K:=K) rfl (ac (i:=5) rfl (.inl rfl) rfl rfl rfl)) (fun _ _ _ _ _=>(aB (i:=0) (ds':=[0,0]) (show (["_law_one", "_law_word"]:List Str).Nodup by decide +kernel) rfl (.inl rfl) rfl (by decide) (by decide) (.inr rfl))) (fun _ _ _ _ _=>(cQ (qpt (bQ (aH (bZ (K:=K) rfl PySem.F.slot_str_startswith PySem.F.type_str_startswith jf jn (ac (i:=0) rfl (.inl rfl) rfl rfl rfl) (aa (ac (i:=1) rfl (.inr (.inl rfl)) rfl rfl rfl) ae rfl) rfl rfl rfl rfl rfl rfl) (fun _=>rfl)) (bU (aH (bZ (K:=K) rfl PySem.F.slot_str_startswith PySem.F.type_str_startswith jf jn (ac (i:=1) rfl (.inr (.inl rfl)) rfl rfl rfl) (aa (ac (i:=0) rfl (.inl rfl) rfl rfl rfl) ae rfl) rfl rfl rfl rfl rfl rfl) (fun _=>rfl))))))) (fun _ _ _ _ _=>(ac (i:=0) rfl (.inl rfl) rfl rfl rfl)) rfl rfl (by decide) rfl (fun _=>rfl)) (aT (d:=3) (c:=3) ae rfl rfl (by decide)) (aW _)) rfl) (by decide)) rfl (by decide) (by decide) rfl (.inl rfl))) aM)
  (aj (aJ (ds2:=[1,0,0,0,0,1,0,0,0]) (aH (ac (i:=8) rfl (.inl rfl) rfl rfl rfl) (fun _=>rfl)) (aj (jk (kd (K:=K) (i:=5) (d:=1) rfl rfl (.inl rfl) rfl (ac (i:=7) rfl (.inr (.inl rfl)) rfl rfl rfl) (by decide) rfl rfl rfl rfl rfl rfl rfl rfl) rfl)) aM))))) PassesOwn.never (fun _=>rfl))
  (aj (ar (b0 (fU (K:=K) rfl) rfl T.tuple0 (by decide +kernel) (aa (jM (ds0:=[1,0,0,0,0,0,0,0,0]) (ac (p:=false) (i:=5) rfl (.inl rfl) rfl rfl rfl) rfl) ae rfl) rfl (by decide) rfl rfl rfl) rfl))))
abbrev iP:Stmt:=top 23
abbrev kS:List Str:=["_law_pen_here", "_law_tongue_here", "_law_parts", "_law_most", "_law_size", "_law_many", "_law_step_here", "_law_k", "_law_tall"]
theorem sc_law_step:FnScope kS ["_law_pen_here", "_law_tongue_here", "_law_parts", "_law_most", "_law_size"] (aq iP):=⟨rfl,rfl,rfl,by decide +kernel,rfl,by decide +kernel,by decide +kernel⟩
def jD:MS:=(au (aF 8 (e2 bj (eC (.int 1)) (ax F_law_draw (aS 0 (ad (af 4) ah)))))
 (ik (gK 6 (ax dq (aS 0 (ad (af 1) (ad (ax F_law_draw (aS 0 (ad (e2 bj (af 3) (eC (.int 1))) ah))) (ad (af 8) (ad (e2 eqD (af 7) (e2 e9 (af 5) (eC (.int 1)))) ah)))))))))
def iW:MS:=(au (aF 5 (e2 bj (eC (.int 1)) (ax F_law_draw (aS 0 (ad (af 2) ah)))))
 (au (aF 6 (bh ah))
 (au (ck (ca (ad (af 5) ah)) (gN 7) jD)
 (aL (eN gE (ad (af 6) ah))))))
def dm:List D→Option (D × En):=fnF 4 [1,0,0,0,0] iW
theorem nP {k:Nat} (T:Bl mg)  (aE:Kn P w K mg base k "_law_draw" ["_law_pen_here", "_law_many"] (spF K [1,0] 0 F_law_draw)) (qg:Kn P w K mg base k "_law_part" ["_law_pen_here", "_law_tongue_here", "_law_most", "_law_size", "_law_free"] (spF K [1,0,0,0,0] 0 dq)) (F:Fun K "_law_step" "_law_step" iP f fd):FnOk P w K mg base CX0 (k+1) f fd ["_law_pen_here", "_law_tongue_here", "_law_parts", "_law_most", "_law_size"] (spF K [1,0,0,0,0] 0 dm):=by
 have nd:=sc_law_step.nd
 refine F.okQ (N:=kS) (b:=iW) (J:=⟨[0],[1,0,0,0,0,0,0,0,0],0,[]⟩) (ds0:=[1,0,0,0,0,0,0,0,0]) sc_law_step rfl rfl rfl rfl fun cdv A outer s H E hr=>?_
 exact (ai (ap (i:=5) (d:=0) (ds':=[1,0,0,0,0,0,0,0,0]) nd rfl (.inl rfl) (ak (d':=0) (am a8 ag (aK aE hr rfl (aC (i:=0) rfl (.inl rfl) (aa (ac (i:=2) rfl (.inl rfl) rfl rfl rfl) ae rfl) rfl rfl) rfl rfl rfl rfl)) (by decide)) rfl (by decide) (by decide) rfl (.inl rfl))
  (ai (ap (i:=6) (d:=1) (ds':=[1,0,0,0,0,0,1,0,0]) nd rfl (.inl rfl) (ak (d':=1) (aT (d:=3) (c:=3) ae rfl rfl (by decide)) (by decide)) rfl (by decide) (by decide) rfl (.inl rfl))
  (ai (bF (ds1:=[1,0,0,0,0,0,1,0,0]) rfl (cc rfl T.range0 (aa (ac (i:=5) rfl (.inl rfl) rfl rfl rfl) ae rfl) rfl) (aB (i:=7) (ds':=[1,0,0,0,0,0,1,0,0]) nd rfl (.inl rfl) rfl (by decide) (by decide) (.inl rfl)) (ai (ap (i:=8) (d:=0) (ds':=[1,0,0,0,0,0,1,0,0]) nd rfl (.inl rfl) (ak (d':=0) (am a8 ag (aK aE hr rfl (aC (i:=0) rfl (.inl rfl) (aa (ac (i:=4) rfl (.inl rfl) rfl rfl rfl) ae rfl) rfl rfl) rfl rfl rfl rfl)) (by decide)) rfl (by decide) (by decide) rfl (.inl rfl))
  (aj (jk (kd (K:=K) (i:=6) (d:=1) rfl rfl (.inl rfl) rfl (aK qg hr rfl (aC (i:=0) rfl (.inl rfl) (aa (ac (i:=1) rfl (.inl rfl) rfl rfl rfl) (aa (aK aE hr rfl (aC (i:=0) rfl (.inl rfl) (aa (ak (d':=0) (am a8 (ac (i:=3) rfl (.inl rfl) rfl rfl rfl) ag) (by decide)) ae rfl) rfl rfl) rfl rfl rfl rfl) (aa (ac (i:=8) rfl (.inl rfl) rfl rfl rfl) (aa (ak (d':=0) (ci (df (K:=K) rfl hr.units) (ac (i:=7) rfl (.inl rfl) rfl rfl rfl) (am hX (ac (i:=5) rfl (.inl rfl) rfl rfl rfl) ag) (aW _)) (by decide)) ae rfl) rfl) rfl) rfl) rfl rfl) rfl rfl rfl rfl) (by decide) rfl rfl rfl rfl rfl rfl rfl rfl) rfl))) PassesOwn.never (fun _=>rfl))
  (aj (ar (b0 (fU (K:=K) rfl) rfl T.tuple0 (by decide +kernel) (aa (jM (ds0:=[1,0,0,0,0,0,0,0,0]) (ac (p:=false) (i:=6) rfl (.inl rfl) rfl rfl rfl) rfl) ae rfl) rfl (by decide) rfl rfl rfl) rfl)))))
abbrev cy:Stmt:=top 24
abbrev dJ:List Str:=["_law_tongue_here", "_law_part_here", "_law_last", "_law_signs", "_law_word", "_law_at", "_law_one"]
theorem sc_law_is_part:FnScope dJ ["_law_tongue_here", "_law_part_here", "_law_last"] (aq cy):=⟨rfl,rfl,rfl,by decide +kernel,rfl,by decide +kernel,by decide +kernel⟩
def gA:MT:=(tV (e2 hG (af 0) (af 1)))
def gD:ME:=(af 0)
def cM:MS:=(au (sIf (bOr (bu (tV (e1 (aP "str") (af 4)))) (bOr (bu (tV (cT leI leI (eC (.int 1)) (eN bd (ad (af 4) ah)) (eC (.int 6))))) (tV (e2 gtI (e2 fV (af 1) (af 4)) (eC (.int 1)))))) (aL (eC (.bool false))) bc)
 (sIf (tV (e2 neD (eLC true (b4 (af 4)) (gN 0) gA gD [none,some 3]) (bh ah))) (aL (eC (.bool false))) bc))
def ef:MT:=(fm (tV (e2 neD (af 0) (af 2))) (tV (e2 eqD (eSl gL (af 1) bO (bA (eN bd (ad (af 3) ah)))) (af 3))))
def er:ME:=(af 1)
def em:MS:=(sIf (tV (e2 neD (eLC true (fT (ad (af 1) ah)) (gT (gsC (gN 0) (gsC (gN 1) gs0))) ef er [none,none,some 5,some 6]) (bh ah))) (aL (eC (.bool false))) bc)
def cA:MS:=(au (sIf (bOr (bu (tV (e1 (aP "tuple") (af 1)))) (tV (e2 gtI (eN bd (ad (af 1) ah)) (eC (.int 12))))) (aL (eC (.bool false))) bc)
 (au (aF 3 (eM joinD (eC (.str "")) (ad (af 0) ah)))
 (au (ck (b4 (af 1)) (gN 4) cM)
 (au (sIf (tV (af 2)) (aL (eC (.bool true))) bc)
 (au (ck (fT (ad (af 1) ah)) (gT (gsC (gN 5) (gsC (gN 6) gs0))) em)
 (aL (eC (.bool true))))))))
def bH:List D→Option (D × En):=fnF 4 [0,0,0] cA
theorem lj {k:Nat} (T:Bl mg)   (F:Fun K "_law_is_part" "_law_is_part" cy f fd):FnOk P w K mg base CX0 (k+1) f fd ["_law_tongue_here", "_law_part_here", "_law_last"] (spF K [0,0,0] 3 bH):=by
 have nd:=sc_law_is_part.nd
 refine F.okQ (N:=dJ) (b:=cA) (J:=⟨[],[0,0,0,0,0,0,0],3,[]⟩) (ds0:=[0,0,0,0,0,0,0]) sc_law_is_part rfl rfl rfl rfl fun cdv A outer s H E hr=>?_
 exact (ai (aJ (ds2:=[0,0,0,0,0,0,0]) (qpt (bQ (aN (aH (cg (K:=K) (n:="tuple") rfl rfl T.isinstance0 rfl T.tuple0 (by decide +kernel) (by decide) (ac (i:=1) rfl (.inl rfl) rfl rfl rfl) (by decide) rfl rfl rfl rfl) (fun _=>rfl))) (bU (aO fF (ay (bf (K:=K) rfl) rfl T.len0 (by decide +kernel) (aa (ac (i:=1) rfl (.inl rfl) rfl rfl rfl) ae rfl) rfl (by decide) rfl rfl rfl) ag (aW _))))) (aj (ar a0 rfl)) aM)
  (ai (ap (i:=3) (d:=0) (ds':=[0,0,0,0,0,0,0]) nd rfl (.inr rfl) (ak (d':=0) (bZ (K:=K) rfl PySem.F.slot_str_join PySem.F.type_str_join (eF rfl) eH be (aa (ac (i:=0) rfl (.inl rfl) rfl rfl rfl) ae rfl) rfl rfl rfl rfl rfl rfl) (by decide)) rfl (by decide) (by decide) rfl (.inl rfl))
  (ai (bF (ds1:=[0,0,0,0,0,0,0]) rfl (br (K:=K) rfl (ac (i:=1) rfl (.inl rfl) rfl rfl rfl)) (aB (i:=4) (ds':=[0,0,0,0,0,0,0]) nd rfl (.inl rfl) rfl (by decide) (by decide) (.inl rfl)) (ai (aJ (ds2:=[0,0,0,0,0,0,0]) (qpt (bQ (aN (aH (cg (K:=K) (n:="str") rfl rfl T.isinstance0 rfl T.str0 (by decide +kernel) (by decide) (ac (i:=4) rfl (.inl rfl) rfl rfl rfl) (by decide) rfl rfl rfl rfl) (fun _=>rfl))) (bQ (aN (iA gu gu ag (ay (bf (K:=K) rfl) rfl T.len0 (by decide +kernel) (aa (ac (i:=4) rfl (.inl rfl) rfl rfl rfl) ae rfl) rfl (by decide) rfl rfl rfl) ag (by with_unfolding_all rfl))) (bU (aO fF (nW (K:=K) rfl hr.units (ac (i:=1) rfl (.inl rfl) rfl rfl rfl) (ac (i:=4) rfl (.inl rfl) rfl rfl rfl) rfl rfl rfl rfl rfl) ag (aW _)))))) (aj (ar a0 rfl)) aM)
  (aj (aJ (ds2:=[0,0,0,0,0,0,0]) (aO (pP (K:=K) rfl hr.units) (bR (cd:=0) (d:=1) (dsi:=[0,0]) (lk:=[1]) (BlkOkC.of (ns:=["_law_sign", "_law_signs"]) (js:=[none,some 3]) (N0:=dJ) (sc0:=aq cy) rfl rfl (by decide +kernel)) rfl (br (K:=K) rfl (ac (i:=4) rfl (.inl rfl) rfl rfl rfl)) (fun _ _ _ _ _=>(aB (i:=0) (ds':=[0,0]) (show (["_law_sign", "_law_signs"]:List Str).Nodup by decide +kernel) rfl (.inl rfl) rfl (by decide) (by decide) (.inr rfl))) (fun _ _ _ _ _=>(cQ (aO jl (ac (i:=0) rfl (.inl rfl) rfl rfl rfl) (ac (i:=1) rfl (.inr (.inl rfl)) rfl rfl rfl) (by with_unfolding_all rfl)))) (fun _ _ _ _ _=>(ac (i:=0) rfl (.inl rfl) rfl rfl rfl)) rfl rfl (by decide) rfl (fun _=>rfl)) (aT (d:=3) (c:=3) ae rfl rfl (by decide)) (aW _)) (aj (ar a0 rfl)) aM))) PassesOwn.never (fun _=>rfl))
  (ai (aJ (ds2:=[0,0,0,0,0,0,0]) (aH (ac (i:=2) rfl (.inl rfl) rfl rfl rfl) (fun _=>rfl)) (aj (ar a0 rfl)) aM)
  (ai (bF (ds1:=[0,0,0,0,0,0,0]) rfl (jo (K:=K) rfl rfl T.enumerate0 (aa (ac (i:=1) rfl (.inl rfl) rfl rfl rfl) ae rfl) rfl) (jp (K:=K) rfl rfl (cE (aB (i:=5) (ds':=[0,0,0,0,0,0,0]) nd rfl (.inr rfl) rfl (by decide) (by decide) (.inl rfl)) (cE (aB (i:=6) (ds':=[0,0,0,0,0,0,0]) nd rfl (.inr rfl) rfl (by decide) (by decide) (.inl rfl)) iD rfl) rfl) lB rfl rfl) (aj (aJ (ds2:=[0,0,0,0,0,0,0]) (aO (pP (K:=K) rfl hr.units) (bR (cd:=0) (d:=1) (dsi:=[0,0,0,0]) (lk:=[2,3]) (BlkOkC.of (ns:=["_law_k", "_law_word", "_law_at", "_law_one"]) (js:=[none,none,some 5,some 6]) (N0:=dJ) (sc0:=aq cy) rfl rfl (by decide +kernel)) rfl (jo (K:=K) rfl rfl T.enumerate0 (aa (ac (i:=1) rfl (.inl rfl) rfl rfl rfl) ae rfl) rfl) (fun _ _ _ _ _=>(jp (K:=K) rfl rfl (cE (aB (i:=0) (ds':=[0,0,0,0]) (show (["_law_k", "_law_word", "_law_at", "_law_one"]:List Str).Nodup by decide +kernel) rfl (.inl rfl) rfl (by decide) (by decide) (.inr rfl)) (cE (aB (i:=1) (ds':=[0,0,0,0]) (show (["_law_k", "_law_word", "_law_at", "_law_one"]:List Str).Nodup by decide +kernel) rfl (.inl rfl) rfl (by decide) (by decide) (.inr rfl)) iD rfl) rfl) lB rfl rfl)) (fun _ _ _ _ _=>(cQ (qpt (nh (aO (pP (K:=K) rfl hr.units) (ac (i:=0) rfl (.inl rfl) rfl rfl rfl) (ac (i:=2) rfl (.inr (.inl rfl)) rfl rfl rfl) (aW _)) (lU (aO (df (K:=K) rfl hr.units) (aU eX (ac (i:=1) rfl (.inl rfl) rfl rfl rfl) a7 (aX (ay (bf (K:=K) rfl) rfl T.len0 (by decide +kernel) (aa (ac (i:=3) rfl (.inr (.inl rfl)) rfl rfl rfl) ae rfl) rfl (by decide) rfl rfl rfl))) (ac (i:=3) rfl (.inr (.inl rfl)) rfl rfl rfl) (aW _))))))) (fun _ _ _ _ _=>(ac (i:=1) rfl (.inl rfl) rfl rfl rfl)) rfl rfl (by decide) rfl (fun _=>rfl)) (aT (d:=3) (c:=3) ae rfl rfl (by decide)) (aW _)) (aj (ar a0 rfl)) aM)) PassesOwn.never (fun _=>rfl))
  (aj (ar a0 rfl)))))))
abbrev fu:Stmt:=top 25
abbrev i4:List Str:=["_law_tongue_here", "_law_step_here", "_law_k", "_law_part_here"]
theorem sc_law_is_step:FnScope i4 ["_law_tongue_here", "_law_step_here"] (aq fu):=⟨rfl,rfl,rfl,by decide +kernel,rfl,by decide +kernel,by decide +kernel⟩
def gB:MS:=(sIf (bu (tV (ax bH (ad (af 0) (ad (af 3) (ad (e2 eqD (af 2) (e2 e9 (eN bd (ad (af 1) ah)) (eC (.int 1)))) ah)))))) (aL (eC (.bool false))) bc)
def b7:MS:=(au (sIf (bOr (bu (tV (e1 (aP "tuple") (af 1)))) (bu (tV (cT leI leI (eC (.int 1)) (eN bd (ad (af 1) ah)) (eC (.int 5)))))) (aL (eC (.bool false))) bc)
 (au (ck (fT (ad (af 1) ah)) (gT (gsC (gN 2) (gsC (gN 3) gs0))) gB)
 (aL (eC (.bool true)))))
def ba:List D→Option (D × En):=fnF 2 [0,0] b7
theorem lg {k:Nat} (T:Bl mg)  (mz:Kn P w K mg base k "_law_is_part" ["_law_tongue_here", "_law_part_here", "_law_last"] (spF K [0,0,0] 3 bH)) (F:Fun K "_law_is_step" "_law_is_step" fu f fd):FnOk P w K mg base CX0 (k+1) f fd ["_law_tongue_here", "_law_step_here"] (spF K [0,0] 3 ba):=by
 have nd:=sc_law_is_step.nd
 refine F.okQ (N:=i4) (b:=b7) (J:=⟨[],[0,0,0,0],3,[]⟩) (ds0:=[0,0,0,0]) sc_law_is_step rfl rfl rfl rfl fun cdv A outer s H E hr=>?_
 exact (ai (aJ (ds2:=[0,0,0,0]) (qpt (bQ (aN (aH (cg (K:=K) (n:="tuple") rfl rfl T.isinstance0 rfl T.tuple0 (by decide +kernel) (by decide) (ac (i:=1) rfl (.inl rfl) rfl rfl rfl) (by decide) rfl rfl rfl rfl) (fun _=>rfl))) (bU (aN (iA gu gu ag (ay (bf (K:=K) rfl) rfl T.len0 (by decide +kernel) (aa (ac (i:=1) rfl (.inl rfl) rfl rfl rfl) ae rfl) rfl (by decide) rfl rfl rfl) ag (by with_unfolding_all rfl)))))) (aj (ar a0 rfl)) aM)
  (ai (bF (ds1:=[0,0,0,0]) rfl (jo (K:=K) rfl rfl T.enumerate0 (aa (ac (i:=1) rfl (.inl rfl) rfl rfl rfl) ae rfl) rfl) (jp (K:=K) rfl rfl (cE (aB (i:=2) (ds':=[0,0,0,0]) nd rfl (.inl rfl) rfl (by decide) (by decide) (.inl rfl)) (cE (aB (i:=3) (ds':=[0,0,0,0]) nd rfl (.inl rfl) rfl (by decide) (by decide) (.inl rfl)) iD rfl) rfl) lB rfl rfl) (aj (aJ (ds2:=[0,0,0,0]) (aN (aH (aZ mz hr rfl (aa (ac (i:=0) rfl (.inl rfl) rfl rfl rfl) (aa (ac (i:=3) rfl (.inl rfl) rfl rfl rfl) (aa (ak (d':=0) (ci (df (K:=K) rfl hr.units) (ac (i:=2) rfl (.inl rfl) rfl rfl rfl) (am hX (ay (bf (K:=K) rfl) rfl T.len0 (by decide +kernel) (aa (ac (i:=1) rfl (.inl rfl) rfl rfl rfl) ae rfl) rfl (by decide) rfl rfl rfl) ag) (aW _)) (by decide)) ae rfl) rfl) rfl) rfl rfl rfl rfl rfl) (fun _=>rfl))) (aj (ar a0 rfl)) aM)) PassesOwn.never (fun _=>rfl))
  (aj (ar a0 rfl))))
abbrev dI:Stmt:=top 26
abbrev fw:List Str:=["_law_tongue_here", "_law_plan"]
theorem sc_law_is_plan:FnScope fw ["_law_tongue_here", "_law_plan"] (aq dI):=⟨rfl,rfl,rfl,by decide +kernel,rfl,by decide +kernel,by decide +kernel⟩
def gy:MT:=(bu (tV (ax ba (ad (af 1) (ad (af 0) ah)))))
def gC:ME:=(af 0)
def cz:MS:=(au (sIf (bOr (bu (tV (e1 (aP "tuple") (af 1)))) (tV (e2 gtI (eN bd (ad (af 1) ah)) (eC (.int 3))))) (aL (eC (.bool false))) bc)
 (aL (e2 eqX (eLC true (b4 (af 1)) (gN 0) gy gC [none,some 0]) (bh ah))))
def bG:List D→Option (D × En):=fnF 0 [0,0] cz
theorem lh {k:Nat} (T:Bl mg)  (fy:Kn P w K mg base k "_law_is_step" ["_law_tongue_here", "_law_step_here"] (spF K [0,0] 3 ba)) (F:Fun K "_law_is_plan" "_law_is_plan" dI f fd):FnOk P w K mg base CX0 (k+1) f fd ["_law_tongue_here", "_law_plan"] (spF K [0,0] 3 bG):=by
 have nd:=sc_law_is_plan.nd
 refine F.okQ (N:=fw) (b:=cz) (J:=⟨[],[0,0],3,[]⟩) (ds0:=[0,0]) sc_law_is_plan rfl rfl rfl rfl fun cdv A outer s H E hr=>?_
 exact (ai (aJ (ds2:=[0,0]) (qpt (bQ (aN (aH (cg (K:=K) (n:="tuple") rfl rfl T.isinstance0 rfl T.tuple0 (by decide +kernel) (by decide) (ac (i:=1) rfl (.inl rfl) rfl rfl rfl) (by decide) rfl rfl rfl rfl) (fun _=>rfl))) (bU (aO fF (ay (bf (K:=K) rfl) rfl T.len0 (by decide +kernel) (aa (ac (i:=1) rfl (.inl rfl) rfl rfl rfl) ae rfl) rfl (by decide) rfl rfl rfl) ag (aW _))))) (aj (ar a0 rfl)) aM)
  (aj (ar (ci (DZ (K:=K) rfl hr.units) (bR (cd:=0) (d:=1) (dsi:=[0,0]) (lk:=[1]) (BlkOkC.of (ns:=["_law_step_here", "_law_tongue_here"]) (js:=[none,some 0]) (N0:=fw) (sc0:=aq dI) rfl rfl (by decide +kernel)) rfl (br (K:=K) rfl (ac (i:=1) rfl (.inl rfl) rfl rfl rfl)) (fun _ _ _ _ _=>(aB (i:=0) (ds':=[0,0]) (show (["_law_step_here", "_law_tongue_here"]:List Str).Nodup by decide +kernel) rfl (.inl rfl) rfl (by decide) (by decide) (.inr rfl))) (fun _ _ _ _ _=>(cQ (aN (aH (aZ fy hr rfl (aa (ac (i:=1) rfl (.inr (.inl rfl)) rfl rfl rfl) (aa (ac (i:=0) rfl (.inl rfl) rfl rfl rfl) ae rfl) rfl) rfl rfl rfl rfl rfl) (fun _=>rfl))))) (fun _ _ _ _ _=>(ac (i:=0) rfl (.inl rfl) rfl rfl rfl)) rfl rfl (by decide) rfl (fun _=>rfl)) (aT (d:=3) (c:=3) ae rfl rfl (by decide)) (aW _)) rfl)))
abbrev eW:Stmt:=top 27
abbrev gQ:List Str:=["_law_pen_here", "_law_tongue_here", "_law_word", "_law_first", "_law_strange", "_law_some"]
theorem sc_law_words:FnScope gQ ["_law_pen_here", "_law_tongue_here", "_law_word"] (aq eW):=⟨rfl,rfl,rfl,by decide +kernel,rfl,by decide +kernel,by decide +kernel⟩
def iZ:MT:=(tV (e2 hG (af 0) (eM joinD (eC (.str "")) (ad (af 1) ah))))
def i5:ME:=(af 0)
def gU:MS:=(au (aF 3 (e2 ixT (af 2) (eC (.int 0))))
 (au (aF 4 (e2 ixA (eLC true (b4 (eC (.str "azb0c1d2e3f4!"))) (gN 0) iZ i5 [none,some 1]) (eC (.int 0))))
 (au (aF 5 (bh (ad (aG (ad (e2 pp (af 3) (eC (.int 7))) ah)) (ad (aG (ad (eC (.str "")) ah)) (ad (aG (ad (af 2) ah)) (ad (aG (ad (af 4) ah)) (ad (aG (ad (e2 bj (af 2) (af 3)) ah)) (ad (aG (ad (eSl gL (af 2) bO (bA (eC (.int 1)))) ah)) (ad (aG (ad (eC .none) ah)) (ad (aG (ad (eC (.int 7)) ah)) (ad (aG (ad (eC (.bool true)) ah)) ah)))))))))))
 (au (aF 5 (e2 p7 (af 5) (bh (ad (aG (ad (aG (ad (af 2) ah)) ah)) (ad (aG (ad (bh (ad (af 2) ah)) ah)) (ad (aG (ad (e2 bj (eSl gL (af 2) bO (bA (eC (.int 5)))) (af 4)) ah)) (ad (aG (ad (e2 pp (af 3) (eC (.int 6))) ah)) (ad (aG (ad (e2 bj (af 2) (eC (.str "\n"))) ah)) (ad (aG (ad (eSl gL (af 2) bO (bA (eC (.int 3)))) (ad (eSl gL (af 2) bO (bA (eC (.int 2)))) ah))) ah)))))))))
 (aL (e2 ixA (af 5) (ax F_law_draw (aS 0 (ad (eN bd (ad (af 5) ah)) ah)))))))))
def cH:List D→Option (D × En):=fnF 3 [1,0,0] gU
theorem mT {k:Nat} (T:Bl mg)  (aE:Kn P w K mg base k "_law_draw" ["_law_pen_here", "_law_many"] (spF K [1,0] 0 F_law_draw)) (F:Fun K "_law_words" "_law_words" eW f fd):FnOk P w K mg base CX0 (k+1) f fd ["_law_pen_here", "_law_tongue_here", "_law_word"] (spF K [1,0,0] 0 cH):=by
 have nd:=sc_law_words.nd
 refine F.okQ (N:=gQ) (b:=gU) (J:=⟨[0],[1,0,0,0,0,0],0,[]⟩) (ds0:=[1,0,0,0,0,0]) sc_law_words rfl rfl rfl rfl fun cdv A outer s H E hr=>?_
 exact (ai (ap (i:=3) (d:=0) (ds':=[1,0,0,0,0,0]) nd rfl (.inl rfl) (ak (d':=0) (bv jm (ac (i:=2) rfl (.inl rfl) rfl rfl rfl) ag (fun _ _=>rfl)) (by decide)) rfl (by decide) (by decide) rfl (.inl rfl))
  (ai (ap (i:=4) (d:=0) (ds':=[1,0,0,0,0,0]) nd rfl (.inl rfl) (bv (de (K:=K) rfl) (bR (cd:=0) (d:=1) (dsi:=[0,0]) (lk:=[1]) (BlkOkC.of (ns:=["_law_sign", "_law_tongue_here"]) (js:=[none,some 1]) (N0:=gQ) (sc0:=aq eW) rfl rfl (by decide +kernel)) rfl (br (K:=K) rfl (ak (d':=0) be (by decide))) (fun _ _ _ _ _=>(aB (i:=0) (ds':=[0,0]) (show (["_law_sign", "_law_tongue_here"]:List Str).Nodup by decide +kernel) rfl (.inl rfl) rfl (by decide) (by decide) (.inr rfl))) (fun _ _ _ _ _=>(cQ (aO jl (ac (i:=0) rfl (.inl rfl) rfl rfl rfl) (bZ (K:=K) rfl PySem.F.slot_str_join PySem.F.type_str_join (eF rfl) eH be (aa (ac (i:=1) rfl (.inr (.inl rfl)) rfl rfl rfl) ae rfl) rfl rfl rfl rfl rfl rfl) (by with_unfolding_all rfl)))) (fun _ _ _ _ _=>(ac (i:=0) rfl (.inl rfl) rfl rfl rfl)) rfl rfl (by decide) rfl (fun _=>rfl)) ag (fun _ _=>rfl)) rfl (by decide) (by decide) rfl (.inl rfl))
  (ai (ap (i:=5) (d:=0) (ds':=[1,0,0,0,0,0]) nd rfl (.inl rfl) (ak (d':=0) (aT (d:=1) (c:=0) (aa (aw (d:=3) (c:=3) (aa (am oF (ac (i:=3) rfl (.inl rfl) rfl rfl rfl) ag) ae rfl) rfl rfl) (aa (aw (d:=3) (c:=3) (aa be ae rfl) rfl rfl) (aa (aw (d:=0) (c:=0) (aa (ac (i:=2) rfl (.inl rfl) rfl rfl rfl) ae rfl) rfl rfl) (aa (aw (d:=0) (c:=0) (aa (ac (i:=4) rfl (.inl rfl) rfl rfl rfl) ae rfl) rfl rfl) (aa (aw (d:=3) (c:=3) (aa (am a8 (ac (i:=2) rfl (.inl rfl) rfl rfl rfl) (ac (i:=3) rfl (.inl rfl) rfl rfl rfl)) ae rfl) rfl rfl) (aa (aw (d:=3) (c:=3) (aa (aU eX (ac (i:=2) rfl (.inl rfl) rfl rfl rfl) a7 (aX ag)) ae rfl) rfl rfl) (aa (aw (d:=3) (c:=3) (aa eI ae rfl) rfl rfl) (aa (aw (d:=3) (c:=3) (aa ag ae rfl) rfl rfl) (aa (aw (d:=3) (c:=3) (aa a0 ae rfl) rfl rfl) ae rfl) rfl) rfl) rfl) rfl) rfl) rfl) rfl) rfl) rfl rfl (by decide)) (by decide)) rfl (by decide) (by decide) rfl (.inl rfl))
  (ai (ap (i:=5) (d:=0) (ds':=[1,0,0,0,0,0]) nd rfl (.inl rfl) (ak (d':=0) (am (At (K:=K) rfl) (ac (i:=5) rfl (.inl rfl) rfl rfl rfl) (aT (d:=1) (c:=0) (aa (aw (d:=0) (c:=0) (aa (aw (d:=0) (c:=0) (aa (ac (i:=2) rfl (.inl rfl) rfl rfl rfl) ae rfl) rfl rfl) ae rfl) rfl rfl) (aa (aw (d:=2) (c:=1) (aa (aT (d:=1) (c:=0) (aa (ac (i:=2) rfl (.inl rfl) rfl rfl rfl) ae rfl) rfl rfl (by decide)) ae rfl) rfl rfl) (aa (aw (d:=3) (c:=3) (aa (am a8 (aU eX (ac (i:=2) rfl (.inl rfl) rfl rfl rfl) a7 (aX ag)) (ac (i:=4) rfl (.inl rfl) rfl rfl rfl)) ae rfl) rfl rfl) (aa (aw (d:=3) (c:=3) (aa (am oF (ac (i:=3) rfl (.inl rfl) rfl rfl rfl) ag) ae rfl) rfl rfl) (aa (aw (d:=3) (c:=3) (aa (am a8 (ac (i:=2) rfl (.inl rfl) rfl rfl rfl) be) ae rfl) rfl rfl) (aa (aw (d:=3) (c:=3) (aa (aU eX (ac (i:=2) rfl (.inl rfl) rfl rfl rfl) a7 (aX ag)) (aa (aU eX (ac (i:=2) rfl (.inl rfl) rfl rfl rfl) a7 (aX ag)) ae rfl) rfl) rfl rfl) ae rfl) rfl) rfl) rfl) rfl) rfl) rfl rfl (by decide))) (by decide)) rfl (by decide) (by decide) rfl (.inl rfl))
  (aj (ar (bv (de (K:=K) rfl) (ac (i:=5) rfl (.inl rfl) rfl rfl rfl) (aK aE hr rfl (aC (i:=0) rfl (.inl rfl) (aa (ak (d':=0) (ay (bf (K:=K) rfl) rfl T.len0 (by decide +kernel) (aa (ac (i:=5) rfl (.inl rfl) rfl rfl rfl) ae rfl) rfl (by decide) rfl rfl rfl) (by decide)) ae rfl) rfl rfl) rfl rfl rfl rfl) (fun _ _=>rfl)) rfl))))))
abbrev cL:Stmt:=top 28
abbrev ei:List Str:=["_law_pen_here", "_law_tongue_here", "_law_step_here", "_law_way", "_law_at", "_law_part_here", "_law_word", "_law_spot", "_law_signs"]
theorem sc_law_otherwise:FnScope ei ["_law_pen_here", "_law_tongue_here", "_law_step_here"] (aq cL):=⟨rfl,rfl,rfl,by decide +kernel,rfl,by decide +kernel,by decide +kernel⟩
def fA:ME:=(eSl gL (e2 mD (eC (.int 3)) (af 1)) (bA (e2 bX (af 0) (eC (.int 3)))) (bA (e2 bj (e2 bj (e2 bX (af 0) (eC (.int 3))) (eC (.int 1))) (e2 eT (af 0) (eC (.int 3))))))
def ey:MS:=(au (aF 3 (ax F_law_draw (aS 0 (ad (eC (.int 8)) ah))))
 (au (aF 4 (ax F_law_draw (aS 0 (ad (eN bd (ad (af 2) ah)) ah))))
 (au (aF 5 (e2 ixA (af 2) (af 4)))
 (au (sIf (tV (e2 ltI (af 3) (eC (.int 4)))) (au (aF 6 (e2 ixA (e2 du (af 5) (aG (ad (ax bC (aS 0 (ad (af 1) (ad (eC (.int 4)) ah)))) ah))) (eC (.int 0))))
 (au (aF 7 (ax F_law_draw (aS 0 (ad (e2 bj (eN bd (ad (af 5) ah)) (eC (.int 1))) ah))))
 (aF 5 (e2 du (e2 du (eSl dF (af 5) bO (bA (af 7))) (ax cH (aS 0 (ad (af 1) (ad (af 6) ah))))) (eSl dF (af 5) (bA (af 7)) bO))))) (sIf (tV (e2 eqD (af 3) (eC (.int 4)))) (aF 5 (e2 ixA (bh (ad (eN iw (ad (af 5) ah)) (ad (eM joinD (eC (.str "")) (ad (af 5) ah)) (ad (eC .none) (ad (e2 je (eSl dF (af 5) bO (bA (eC (.int 1)))) (eC (.int 13))) (ad (eC (.int 3)) (ad iI ah))))))) (ax F_law_draw (aS 0 (ad (eC (.int 6)) ah))))) (sIf (tV (e2 eqD (af 3) (eC (.int 5)))) (au (aF 8 (eM joinD (eC (.str "")) (ad (af 1) ah)))
 (aF 5 (eN gE (ad (eLC true (ca (ad (e2 bj (eC (.int 12)) (ax F_law_draw (aS 0 (ad (eC (.int 2)) ah)))) ah)) (gN 0) cY fA [none,some 8]) ah)))) (sIf (tV (e2 eqD (af 3) (eC (.int 6)))) (aL (e2 ixA (bh (ad (aG ah) (ad (eN iw (ad (af 2) ah)) (ad (e2 du (af 2) (e2 je (aG (ad (aG ah) ah)) (e2 e9 (eC (.int 6)) (eN bd (ad (af 2) ah))))) (ad (e2 ixA (af 2) (eC (.int 0))) (ad (eC .none) (ad (eC (.str "step")) (ad (e2 je (aG (ad (aG ah) ah)) (eC (.int 5))) ah)))))))) (ax F_law_draw (aS 0 (ad (eC (.int 7)) ah))))) (aL (e2 du (eSl dF (af 2) (bA (af 4)) bO) (eSl dF (af 2) bO (bA (af 4)))))))))
 (aL (e2 du (e2 du (eSl dF (af 2) bO (bA (af 4))) (aG (ad (af 5) ah))) (eSl dF (af 2) (bA (e2 bj (af 4) (eC (.int 1)))) bO)))))))
def bS:List D→Option (D × En):=fnF 6 [1,0,0] ey
theorem j8 {k:Nat} (T:Bl mg)  (aE:Kn P w K mg base k "_law_draw" ["_law_pen_here", "_law_many"] (spF K [1,0] 0 F_law_draw)) (nZ:Kn P w K mg base k "_law_words" ["_law_pen_here", "_law_tongue_here", "_law_word"] (spF K [1,0,0] 0 cH)) (eo:Kn P w K mg base k "_law_text" ["_law_pen_here", "_law_tongue_here", "_law_most"] (spF K [1,0,0] 0 bC)) (F:Fun K "_law_otherwise" "_law_otherwise" cL f fd):FnOk P w K mg base CX0 (k+1) f fd ["_law_pen_here", "_law_tongue_here", "_law_step_here"] (spF K [1,0,0] 0 bS):=by
 have nd:=sc_law_otherwise.nd
 refine F.okQ (N:=ei) (b:=ey) (J:=⟨[0],[1,0,0,0,0,0,0,0,0],0,[]⟩) (ds0:=[1,0,0,0,0,0,0,0,0]) sc_law_otherwise rfl rfl rfl rfl fun cdv A outer s H E hr=>?_
 exact (ai (ap (i:=3) (d:=0) (ds':=[1,0,0,0,0,0,0,0,0]) nd rfl (.inl rfl) (aK aE hr rfl (aC (i:=0) rfl (.inl rfl) (aa (ak (d':=0) ag (by decide)) ae rfl) rfl rfl) rfl rfl rfl rfl) rfl (by decide) (by decide) rfl (.inl rfl))
  (ai (ap (i:=4) (d:=0) (ds':=[1,0,0,0,0,0,0,0,0]) nd rfl (.inl rfl) (aK aE hr rfl (aC (i:=0) rfl (.inl rfl) (aa (ak (d':=0) (ay (bf (K:=K) rfl) rfl T.len0 (by decide +kernel) (aa (ac (i:=2) rfl (.inl rfl) rfl rfl rfl) ae rfl) rfl (by decide) rfl rfl rfl) (by decide)) ae rfl) rfl rfl) rfl rfl rfl rfl) rfl (by decide) (by decide) rfl (.inl rfl))
  (ai (ap (i:=5) (d:=0) (ds':=[1,0,0,0,0,0,0,0,0]) nd rfl (.inl rfl) (bv (de (K:=K) rfl) (ac (i:=2) rfl (.inl rfl) rfl rfl rfl) (ac (i:=4) rfl (.inl rfl) rfl rfl rfl) (fun _ _=>rfl)) rfl (by decide) (by decide) rfl (.inl rfl))
  (ai (aJ (ds2:=[1,0,0,0,0,0,0,0,0]) (aO zq (ac (i:=3) rfl (.inl rfl) rfl rfl rfl) ag (aW _)) (ai (ap (i:=6) (d:=0) (ds':=[1,0,0,0,0,0,0,0,0]) nd rfl (.inl rfl) (bv (de (K:=K) rfl) (am (cp (K:=K) rfl) (ac (i:=5) rfl (.inl rfl) rfl rfl rfl) (aw (d:=0) (c:=0) (aa (aK eo hr rfl (aC (i:=0) rfl (.inl rfl) (aa (ac (i:=1) rfl (.inl rfl) rfl rfl rfl) (aa (ak (d':=0) ag (by decide)) ae rfl) rfl) rfl rfl) rfl rfl rfl rfl) ae rfl) rfl rfl)) ag (fun _ _=>rfl)) rfl (by decide) (by decide) rfl (.inl rfl))
  (ai (ap (i:=7) (d:=0) (ds':=[1,0,0,0,0,0,0,0,0]) nd rfl (.inl rfl) (aK aE hr rfl (aC (i:=0) rfl (.inl rfl) (aa (ak (d':=0) (am a8 (ay (bf (K:=K) rfl) rfl T.len0 (by decide +kernel) (aa (ac (i:=5) rfl (.inl rfl) rfl rfl rfl) ae rfl) rfl (by decide) rfl rfl rfl) ag) (by decide)) ae rfl) rfl rfl) rfl rfl rfl rfl) rfl (by decide) (by decide) rfl (.inl rfl))
  (aj (ap (i:=5) (d:=0) (ds':=[1,0,0,0,0,0,0,0,0]) nd rfl (.inl rfl) (am (cp (K:=K) rfl) (am (cp (K:=K) rfl) (aU (cD (K:=K) rfl) (ac (i:=5) rfl (.inl rfl) rfl rfl rfl) a7 (aX (ac (i:=7) rfl (.inl rfl) rfl rfl rfl))) (aK nZ hr rfl (aC (i:=0) rfl (.inl rfl) (aa (ac (i:=1) rfl (.inl rfl) rfl rfl rfl) (aa (ac (i:=6) rfl (.inl rfl) rfl rfl rfl) ae rfl) rfl) rfl rfl) rfl rfl rfl rfl)) (aU (cD (K:=K) rfl) (ac (i:=5) rfl (.inl rfl) rfl rfl rfl) (aX (ac (i:=7) rfl (.inl rfl) rfl rfl rfl)) a7)) rfl (by decide) (by decide) rfl (.inl rfl))))) (aj (aJ (ds2:=[1,0,0,0,0,0,0,0,0]) (aO (df (K:=K) rfl hr.units) (ac (i:=3) rfl (.inl rfl) rfl rfl rfl) ag (aW _)) (aj (ap (i:=5) (d:=0) (ds':=[1,0,0,0,0,0,0,0,0]) nd rfl (.inl rfl) (bv (de (K:=K) rfl) (aT (d:=1) (c:=0) (aa (b0 (lC (K:=K) rfl rfl) rfl T.list0 (by decide +kernel) (aa (ac (i:=5) rfl (.inl rfl) rfl rfl rfl) ae rfl) rfl (by decide) rfl rfl rfl) (aa (bZ (K:=K) rfl PySem.F.slot_str_join PySem.F.type_str_join (eF rfl) eH be (aa (ac (i:=5) rfl (.inl rfl) rfl rfl rfl) ae rfl) rfl rfl rfl rfl rfl rfl) (aa eI (aa (am (jL (K:=K) rfl) (aU (cD (K:=K) rfl) (ac (i:=5) rfl (.inl rfl) rfl rfl rfl) a7 (aX ag)) ag) (aa ag (aa lV ae rfl) rfl) rfl) rfl) rfl) rfl) rfl rfl (by decide)) (aK aE hr rfl (aC (i:=0) rfl (.inl rfl) (aa (ak (d':=0) ag (by decide)) ae rfl) rfl rfl) rfl rfl rfl rfl) (fun _ _=>rfl)) rfl (by decide) (by decide) rfl (.inl rfl))) (aj (aJ (ds2:=[1,0,0,0,0,0,0,0,0]) (aO (df (K:=K) rfl hr.units) (ac (i:=3) rfl (.inl rfl) rfl rfl rfl) ag (aW _)) (ai (ap (i:=8) (d:=0) (ds':=[1,0,0,0,0,0,0,0,0]) nd rfl (.inr rfl) (ak (d':=0) (bZ (K:=K) rfl PySem.F.slot_str_join PySem.F.type_str_join (eF rfl) eH be (aa (ac (i:=1) rfl (.inl rfl) rfl rfl rfl) ae rfl) rfl rfl rfl rfl rfl rfl) (by decide)) rfl (by decide) (by decide) rfl (.inl rfl))
  (aj (ap (i:=5) (d:=0) (ds':=[1,0,0,0,0,0,0,0,0]) nd rfl (.inl rfl) (b0 (fU (K:=K) rfl) rfl T.tuple0 (by decide +kernel) (aa (ak (d':=0) (bR (cd:=3) (d:=3) (dsi:=[0,0]) (lk:=[1]) (BlkOkC.of (ns:=["_law_k", "_law_signs"]) (js:=[none,some 8]) (N0:=ei) (sc0:=aq cL) rfl rfl (by decide +kernel)) rfl (cc rfl T.range0 (aa (ak (d':=0) (am a8 ag (aK aE hr rfl (aC (i:=0) rfl (.inl rfl) (aa (ak (d':=0) ag (by decide)) ae rfl) rfl rfl) rfl rfl rfl rfl)) (by decide)) ae rfl) rfl) (fun _ _ _ _ _=>(aB (i:=0) (ds':=[0,0]) (show (["_law_k", "_law_signs"]:List Str).Nodup by decide +kernel) rfl (.inl rfl) rfl (by decide) (by decide) (.inr rfl))) (fun _ _ _ _ _=>cb) (fun _ _ _ _ _=>(aU eX (am sZ ag (ac (i:=1) rfl (.inr (.inl rfl)) rfl rfl rfl)) (aX (am cR (ac (i:=0) rfl (.inl rfl) rfl rfl rfl) ag)) (aX (am a8 (am a8 (am cR (ac (i:=0) rfl (.inl rfl) rfl rfl rfl) ag) ag) (am lD (ac (i:=0) rfl (.inl rfl) rfl rfl rfl) ag))))) rfl rfl (by decide) rfl (fun _=>rfl)) (by decide)) ae rfl) rfl (by decide) rfl rfl rfl) rfl (by decide) (by decide) rfl (.inl rfl)))) (aj (aJ (ds2:=[1,0,0,0,0,0,0,0,0]) (aO (df (K:=K) rfl hr.units) (ac (i:=3) rfl (.inl rfl) rfl rfl rfl) ag (aW _)) (aj (ar (bv (de (K:=K) rfl) (aT (d:=1) (c:=0) (aa (aw (d:=3) (c:=3) ae rfl rfl) (aa (b0 (lC (K:=K) rfl rfl) rfl T.list0 (by decide +kernel) (aa (ac (i:=2) rfl (.inl rfl) rfl rfl rfl) ae rfl) rfl (by decide) rfl rfl rfl) (aa (am (cp (K:=K) rfl) (ac (i:=2) rfl (.inl rfl) rfl rfl rfl) (am (jL (K:=K) rfl) (aw (d:=3) (c:=3) (aa (aw (d:=3) (c:=3) ae rfl rfl) ae rfl) rfl rfl) (am hX ag (ay (bf (K:=K) rfl) rfl T.len0 (by decide +kernel) (aa (ac (i:=2) rfl (.inl rfl) rfl rfl rfl) ae rfl) rfl (by decide) rfl rfl rfl)))) (aa (bv (de (K:=K) rfl) (ac (i:=2) rfl (.inl rfl) rfl rfl rfl) ag (fun _ _=>rfl)) (aa eI (aa be (aa (am (jL (K:=K) rfl) (aw (d:=3) (c:=3) (aa (aw (d:=3) (c:=3) ae rfl rfl) ae rfl) rfl rfl) ag) ae rfl) rfl) rfl) rfl) rfl) rfl) rfl) rfl rfl (by decide)) (aK aE hr rfl (aC (i:=0) rfl (.inl rfl) (aa (ak (d':=0) ag (by decide)) ae rfl) rfl rfl) rfl rfl rfl rfl) (fun _ _=>rfl)) rfl)) (aj (ar (am (cp (K:=K) rfl) (aU (cD (K:=K) rfl) (ac (i:=2) rfl (.inl rfl) rfl rfl rfl) (aX (ac (i:=4) rfl (.inl rfl) rfl rfl rfl)) a7) (aU (cD (K:=K) rfl) (ac (i:=2) rfl (.inl rfl) rfl rfl rfl) a7 (aX (ac (i:=4) rfl (.inl rfl) rfl rfl rfl)))) rfl)))))))))
  (aj (ar (am (cp (K:=K) rfl) (am (cp (K:=K) rfl) (aU (cD (K:=K) rfl) (ac (i:=2) rfl (.inl rfl) rfl rfl rfl) a7 (aX (ac (i:=4) rfl (.inl rfl) rfl rfl rfl))) (aw (d:=0) (c:=0) (aa (ac (i:=5) rfl (.inl rfl) rfl rfl rfl) ae rfl) rfl rfl)) (aU (cD (K:=K) rfl) (ac (i:=2) rfl (.inl rfl) rfl rfl rfl) (aX (am a8 (ac (i:=4) rfl (.inl rfl) rfl rfl rfl) ag)) a7)) rfl))))))
abbrev gP:Stmt:=top 29
abbrev jX:List Str:=["_law_tongue_here", "_law_step_here", "_law_plan", "_law_told"]
theorem sc_law_asked:FnScope jX ["_law_tongue_here", "_law_step_here", "_law_plan"] (aq gP):=⟨rfl,rfl,rfl,by decide +kernel,rfl,by decide +kernel,by decide +kernel⟩
def gW:MS:=(au (aF 3 (aG (ad (ax bK (ad (af 0) (ad (af 1) ah))) (ad (ax bx (ad (af 0) (ad (af 2) ah))) ah))))
 (au (sIf (bOr (bu (tV (e1 (aP "bool") (e2 ixA (af 3) (eC (.int 0)))))) (bu (tV (e1 (aP "bool") (e2 ixA (af 3) (eC (.int 1))))))) (aL (eC (.bool false))) bc)
 (aL (e2 eqD (af 3) (aG (ad (ax ba (ad (af 0) (ad (af 1) ah))) (ad (ax bG (ad (af 0) (ad (af 2) ah))) ah)))))))
def bp:List D→Option (D × En):=fnF 1 [0,0,0] gW
theorem mU {k:Nat} (T:Bl mg)  (gb:Kn P w K mg base k "is_step" ["tongue", "thing"] (spF K [0,0] 3 bK)) (gc:Kn P w K mg base k "is_plan" ["tongue", "thing"] (spF K [0,0] 3 bx)) (fy:Kn P w K mg base k "_law_is_step" ["_law_tongue_here", "_law_step_here"] (spF K [0,0] 3 ba)) (my:Kn P w K mg base k "_law_is_plan" ["_law_tongue_here", "_law_plan"] (spF K [0,0] 3 bG)) (F:Fun K "_law_asked" "_law_asked" gP f fd):FnOk P w K mg base CX0 (k+1) f fd ["_law_tongue_here", "_law_step_here", "_law_plan"] (spF K [0,0,0] 3 bp):=by
 have nd:=sc_law_asked.nd
 refine F.okQ (N:=jX) (b:=gW) (J:=⟨[],[0,0,0,0],3,[]⟩) (ds0:=[0,0,0,0]) sc_law_asked rfl rfl rfl rfl fun cdv A outer s H E hr=>?_
 exact (ai (ap (i:=3) (d:=0) (ds':=[0,0,0,0]) nd rfl (.inl rfl) (ak (d':=0) (aw (d:=3) (c:=3) (aa (aZ gb hr rfl (aa (ac (i:=0) rfl (.inl rfl) rfl rfl rfl) (aa (ac (i:=1) rfl (.inl rfl) rfl rfl rfl) ae rfl) rfl) rfl rfl rfl rfl rfl) (aa (aZ gc hr rfl (aa (ac (i:=0) rfl (.inl rfl) rfl rfl rfl) (aa (ac (i:=2) rfl (.inl rfl) rfl rfl rfl) ae rfl) rfl) rfl rfl rfl rfl rfl) ae rfl) rfl) rfl rfl) (by decide)) rfl (by decide) (by decide) rfl (.inl rfl))
  (ai (aJ (ds2:=[0,0,0,0]) (qpt (bQ (aN (aH (cg (K:=K) (n:="bool") rfl rfl T.isinstance0 rfl T.bool0 (by decide +kernel) (by decide) (bv (de (K:=K) rfl) (ac (i:=3) rfl (.inl rfl) rfl rfl rfl) ag (fun _ _=>rfl)) (by decide) rfl rfl rfl rfl) (fun _=>rfl))) (bU (aN (aH (cg (K:=K) (n:="bool") rfl rfl T.isinstance0 rfl T.bool0 (by decide +kernel) (by decide) (bv (de (K:=K) rfl) (ac (i:=3) rfl (.inl rfl) rfl rfl rfl) ag (fun _ _=>rfl)) (by decide) rfl rfl rfl rfl) (fun _=>rfl)))))) (aj (ar a0 rfl)) aM)
  (aj (ar (ci (df (K:=K) rfl hr.units) (ac (i:=3) rfl (.inl rfl) rfl rfl rfl) (aw (d:=3) (c:=3) (aa (aZ fy hr rfl (aa (ac (i:=0) rfl (.inl rfl) rfl rfl rfl) (aa (ac (i:=1) rfl (.inl rfl) rfl rfl rfl) ae rfl) rfl) rfl rfl rfl rfl rfl) (aa (aZ my hr rfl (aa (ac (i:=0) rfl (.inl rfl) rfl rfl rfl) (aa (ac (i:=2) rfl (.inl rfl) rfl rfl rfl) ae rfl) rfl) rfl rfl rfl rfl rfl) ae rfl) rfl) rfl rfl) (aW _)) rfl))))
abbrev iK:Stmt:=top 30
abbrev qc:List Str:=["_law_script", "_law_k", "_law_pen_here", "_law_tongue_here", "_law_size", "_law_most", "_law_plan", "_law_step_here", "_law_turn", "_law_other", "_law_bare", "_law_thing"]
theorem sclaw:FnScope qc ["_law_script"] (aq iK):=⟨rfl,rfl,rfl,by decide +kernel,rfl,by decide +kernel,by decide +kernel⟩
noncomputable def nL:ME:=(ax dm (aS 1 (ad (af 2) (ad (eC (.int 5)) (ad (af 4) (ad (af 3) ah))))))
noncomputable def nI:MS:=(sIf (bu (tV (ax bK (ad (af 3) (ad (af 7) ah))))) (aL (eC (.bool false))) bc)
noncomputable def kW:MS:=(au (aF 9 (ax bS (aS 2 (ad (af 3) (ad (af 7) ah)))))
 (au (sIf (bu (tV (ax bp (ad (af 3) (ad (af 9) (ad (e2 du (eSl dF (af 6) bO (bA (eC (.int 2)))) (aG (ad (af 9) ah))) ah)))))) (aL (eC (.bool false))) bc)
 (sIf (bu (tV (ax bp (ad (af 3) (ad (af 9) (ad (e2 du (aG (ad (af 9) ah)) (eSl dF (af 6) bO (bA (eC (.int 1))))) ah)))))) (aL (eC (.bool false))) bc)))
noncomputable def nG:MT:=(tV (e2 hG (af 0) (eM joinD (eC (.str "")) (ad (af 1) ah))))
noncomputable def nK:ME:=(af 0)
noncomputable def kU:MS:=(sIf (bu (tV (ax bp (ad (af 3) (ad (af 11) (ad (af 11) ah)))))) (aL (eC (.bool false))) bc)
noncomputable def rO:MS:=(au (aF 2 (ax F_law_pen (ad (af 0) (ad (af 1) ah))))
 (au (aF 3 (ax cu (aS 2 (ad (eC (.int 6)) ah))))
 (au (aF 4 (e2 bj (eC (.int 1)) (ax F_law_draw (aS 2 (ad (eC (.int 6)) ah)))))
 (au (aF 5 (e2 ixA (bh (ad (eC (.int 3)) (ad (eC (.int 12)) ah))) (ax F_law_draw (aS 2 (ad (eC (.int 2)) ah)))))
 (au (aF 6 (eN gE (ad (eLC false (ca (ad (ax F_law_draw (aS 2 (ad (eC (.int 4)) ah))) ah)) (gN 0) cY nL [none,some 2,some 3,some 4,some 5]) ah)))
 (au (ck (b4 (af 6)) (gN 7) nI)
 (au (sIf (bOr (bu (tV (ax bx (ad (af 3) (ad (af 6) ah))))) (bOr (bu (tV (ax bx (ad (af 3) (ad (aG ah) ah))))) (tV (ax bx (ad (af 3) (ad (e2 du (af 6) (e2 je (aG (ad (aG (ad (aG ah) ah)) ah)) (e2 e9 (eC (.int 4)) (eN bd (ad (af 6) ah))))) ah)))))) (aL (eC (.bool false))) bc)
 (au (aF 7 (e2 ixA (e2 du (af 6) (aG (ad (aG (ad (aG (ad (ax bC (aS 2 (ad (af 3) (ad (eC (.int 3)) ah)))) ah)) ah)) ah))) (ax F_law_draw (aS 2 (ad (e2 bj (eN bd (ad (af 6) ah)) (eC (.int 1))) ah)))))
 (au (ck (ca (ad (eC (.int 3)) ah)) (gN 8) kW)
 (au (aF 10 (e2 ixA (eLC true (b4 (eC (.str "azb0c1d2e3f4!"))) (gN 0) nG nK [none,some 3]) (eC (.int 0))))
 (au (sIf (bOr (bu (tV (ax bp (ad (aG (ad (af 10) ah)) (ad (af 7) (ad (af 6) ah)))))) (bu (tV (ax bp (ad (af 3) (ad (af 7) (ad (eN iw (ad (af 6) ah)) ah))))))) (aL (eC (.bool false))) bc)
 (ck (b4 (bh (ad (eC .none) (ad (eC (.int 0)) (ad (eC (.bool true)) (ad (eC (.str "")) (ad (eC (.str "plan")) (ad (bh ah) (ad iI (ad (aG (ad (aG ah) ah)) (ad (aG (ad (aG ah) (ad (aG ah) ah))) (ad (aG (ad (eC .none) ah)) (ad (aG (ad (eC (.str "ab")) ah)) (ad (aG (ad (aG (ad (aG (ad (eC (.str "a")) ah)) ah)) (ad (eC .none) ah))) ah)))))))))))))) (gN 11) kU))))))))))))
noncomputable def tZ:MS:=(au (ck (ca (ad (eC (.int 3)) ah)) (gN 1) rO)
 (aL (eC (.bool true))))
noncomputable def qh:List D→Option (D × En):=fnF 11 [0] tZ
theorem EO {k:Nat} (T:Bl mg)  (rQ:Kn P w K mg base k "_law_pen" ["_law_script", "_law_k"] (spF K [0,0] 3 F_law_pen)) (nJ:Kn P w K mg base k "_law_tongue" ["_law_pen_here", "_law_most"] (spF K [1,0] 0 cu)) (aE:Kn P w K mg base k "_law_draw" ["_law_pen_here", "_law_many"] (spF K [1,0] 0 F_law_draw)) (gc:Kn P w K mg base k "is_plan" ["tongue", "thing"] (spF K [0,0] 3 bx)) (kX:Kn P w K mg base k "_law_otherwise" ["_law_pen_here", "_law_tongue_here", "_law_step_here"] (spF K [1,0,0] 0 bS)) (qf:Kn P w K mg base k "_law_step" ["_law_pen_here", "_law_tongue_here", "_law_parts", "_law_most", "_law_size"] (spF K [1,0,0,0,0] 0 dm)) (gb:Kn P w K mg base k "is_step" ["tongue", "thing"] (spF K [0,0] 3 bK)) (dC:Kn P w K mg base k "_law_asked" ["_law_tongue_here", "_law_step_here", "_law_plan"] (spF K [0,0,0] 3 bp)) (eo:Kn P w K mg base k "_law_text" ["_law_pen_here", "_law_tongue_here", "_law_most"] (spF K [1,0,0] 0 bC)) (F:Fun K "law" "law" iK f fd):FnOk P w K mg base CX0 (k+1) f fd ["_law_script"] (spF K [0] 3 qh):=by
 have nd:=sclaw.nd
 refine F.okQ (N:=qc) (b:=tZ) (J:=⟨[],[0,0,0,0,0,0,0,0,0,0,0,0],3,[]⟩) (ds0:=[0,0,0,0,0,0,0,0,0,0,0,0]) sclaw rfl rfl rfl rfl fun cdv A outer s H E hr=>?_
 exact (ai (bF (ds1:=[0,0,0,0,0,0,0,0,0,0,0,0]) rfl (cc rfl T.range0 (aa (ak (d':=0) ag (by decide)) ae rfl) rfl) (aB (i:=1) (ds':=[0,0,0,0,0,0,0,0,0,0,0,0]) nd rfl (.inl rfl) rfl (by decide) (by decide) (.inl rfl)) (qV (ds2:=[0,0,1,0,0,0,0,0,0,0,0,0]) (ai (ap (i:=2) (d:=1) (ds':=[0,0,1,0,0,0,0,0,0,0,0,0]) nd rfl (.inr rfl) (ak (d':=1) (aZ rQ hr rfl (aa (ac (i:=0) rfl (.inl rfl) rfl rfl rfl) (aa (ac (i:=1) rfl (.inl rfl) rfl rfl rfl) ae rfl) rfl) rfl rfl rfl rfl rfl) (by decide)) rfl (by decide) (by decide) rfl (.inl rfl))
  (ai (ap (i:=3) (d:=0) (ds':=[0,0,1,0,0,0,0,0,0,0,0,0]) nd rfl (.inr rfl) (aK nJ hr rfl (aC (i:=2) rfl (.inr (.inl rfl)) (aa (ak (d':=0) ag (by decide)) ae rfl) rfl rfl) rfl rfl rfl rfl) rfl (by decide) (by decide) rfl (.inl rfl))
  (ai (ap (i:=4) (d:=0) (ds':=[0,0,1,0,0,0,0,0,0,0,0,0]) nd rfl (.inr rfl) (ak (d':=0) (am a8 ag (aK aE hr rfl (aC (i:=2) rfl (.inr (.inl rfl)) (aa (ak (d':=0) ag (by decide)) ae rfl) rfl rfl) rfl rfl rfl rfl)) (by decide)) rfl (by decide) (by decide) rfl (.inl rfl))
  (ai (ap (i:=5) (d:=0) (ds':=[0,0,1,0,0,0,0,0,0,0,0,0]) nd rfl (.inr rfl) (ak (d':=0) (nk (K:=K) rfl (aT (d:=3) (c:=3) (aa ag (aa ag ae rfl) rfl) rfl rfl (by decide)) (aK aE hr rfl (aC (i:=2) rfl (.inr (.inl rfl)) (aa (ak (d':=0) ag (by decide)) ae rfl) rfl rfl) rfl rfl rfl rfl) (fun _ _=>rfl) (by decide)) (by decide)) rfl (by decide) (by decide) rfl (.inl rfl))
  (ai (ap (i:=6) (d:=0) (ds':=[0,0,1,0,0,0,0,0,0,0,0,0]) nd rfl (.inl rfl) (b0 (fU (K:=K) rfl) rfl T.tuple0 (by decide +kernel) (aa (ak (d':=0) (tq (cd:=0) (d:=1) (dsi:=[0,1,0,0,0]) (lk:=[1,2,3,4]) (BlkOkC.of (ns:=["_law_turn", "_law_pen_here", "_law_tongue_here", "_law_size", "_law_most"]) (js:=[none,some 2,some 3,some 4,some 5]) (N0:=qc) (sc0:=aq iK) rfl rfl (by decide +kernel)) rfl (cc rfl T.range0 (aa (aK aE hr rfl (aC (i:=2) rfl (.inr (.inl rfl)) (aa (ak (d':=0) ag (by decide)) ae rfl) rfl rfl) rfl rfl rfl rfl) ae rfl) rfl) (fun _ _ _ _ _=>(aB (i:=0) (ds':=[0,1,0,0,0]) (show (["_law_turn", "_law_pen_here", "_law_tongue_here", "_law_size", "_law_most"]:List Str).Nodup by decide +kernel) rfl (.inl rfl) rfl (by decide) (by decide) (.inr rfl))) (fun _ _ _ _ _=>cb) (fun _ _ _ _ _=>(aK qf hr rfl (aC (i:=1) rfl (.inr (.inl rfl)) (aa (ac (i:=2) rfl (.inr (.inl rfl)) rfl rfl rfl) (aa (ak (d':=0) ag (by decide)) (aa (ac (i:=4) rfl (.inr (.inl rfl)) rfl rfl rfl) (aa (ac (i:=3) rfl (.inr (.inl rfl)) rfl rfl rfl) ae rfl) rfl) rfl) rfl) rfl rfl) rfl rfl rfl rfl)) rfl rfl (by decide) rfl (fun _=>rfl)) (by decide)) ae rfl) rfl (by decide) rfl rfl rfl) rfl (by decide) (by decide) rfl (.inl rfl))
  (ai (bF (ds1:=[0,0,1,0,0,0,0,0,0,0,0,0]) rfl (br (K:=K) rfl (ac (i:=6) rfl (.inl rfl) rfl rfl rfl)) (aB (i:=7) (ds':=[0,0,1,0,0,0,0,0,0,0,0,0]) nd rfl (.inl rfl) rfl (by decide) (by decide) (.inl rfl)) (aj (aJ (ds2:=[0,0,1,0,0,0,0,0,0,0,0,0]) (aN (aH (aZ gb hr rfl (aa (ac (i:=3) rfl (.inr (.inl rfl)) rfl rfl rfl) (aa (ac (i:=7) rfl (.inl rfl) rfl rfl rfl) ae rfl) rfl) rfl rfl rfl rfl rfl) (fun _=>rfl))) (aj (ar a0 rfl)) aM)) PassesOwn.never (fun _=>rfl))
  (ai (aJ (ds2:=[0,0,1,0,0,0,0,0,0,0,0,0]) (qpt (bQ (aN (aH (aZ gc hr rfl (aa (ac (i:=3) rfl (.inr (.inl rfl)) rfl rfl rfl) (aa (ac (i:=6) rfl (.inl rfl) rfl rfl rfl) ae rfl) rfl) rfl rfl rfl rfl rfl) (fun _=>rfl))) (bQ (aN (aH (aZ gc hr rfl (aa (ac (i:=3) rfl (.inr (.inl rfl)) rfl rfl rfl) (aa (ak (d':=0) (aw (d:=3) (c:=3) ae rfl rfl) (by decide)) ae rfl) rfl) rfl rfl rfl rfl rfl) (fun _=>rfl))) (bU (aH (aZ gc hr rfl (aa (ac (i:=3) rfl (.inr (.inl rfl)) rfl rfl rfl) (aa (am (cp (K:=K) rfl) (ac (i:=6) rfl (.inl rfl) rfl rfl rfl) (am (jL (K:=K) rfl) (aw (d:=3) (c:=3) (aa (aw (d:=3) (c:=3) (aa (aw (d:=3) (c:=3) ae rfl rfl) ae rfl) rfl rfl) ae rfl) rfl rfl) (am hX ag (ay (bf (K:=K) rfl) rfl T.len0 (by decide +kernel) (aa (ac (i:=6) rfl (.inl rfl) rfl rfl rfl) ae rfl) rfl (by decide) rfl rfl rfl)))) ae rfl) rfl) rfl rfl rfl rfl rfl) (fun _=>rfl)))))) (aj (ar a0 rfl)) aM)
  (ai (ap (i:=7) (d:=0) (ds':=[0,0,1,0,0,0,0,0,0,0,0,0]) nd rfl (.inl rfl) (bv (de (K:=K) rfl) (am (cp (K:=K) rfl) (ac (i:=6) rfl (.inl rfl) rfl rfl rfl) (aw (d:=0) (c:=0) (aa (aw (d:=0) (c:=0) (aa (aw (d:=0) (c:=0) (aa (aK eo hr rfl (aC (i:=2) rfl (.inr (.inl rfl)) (aa (ac (i:=3) rfl (.inr (.inl rfl)) rfl rfl rfl) (aa (ak (d':=0) ag (by decide)) ae rfl) rfl) rfl rfl) rfl rfl rfl rfl) ae rfl) rfl rfl) ae rfl) rfl rfl) ae rfl) rfl rfl)) (aK aE hr rfl (aC (i:=2) rfl (.inr (.inl rfl)) (aa (ak (d':=0) (am a8 (ay (bf (K:=K) rfl) rfl T.len0 (by decide +kernel) (aa (ac (i:=6) rfl (.inl rfl) rfl rfl rfl) ae rfl) rfl (by decide) rfl rfl rfl) ag) (by decide)) ae rfl) rfl rfl) rfl rfl rfl rfl) (fun _ _=>rfl)) rfl (by decide) (by decide) rfl (.inl rfl))
  (ai (bF (ds1:=[0,0,1,0,0,0,0,0,0,0,0,0]) rfl (cc rfl T.range0 (aa (ak (d':=0) ag (by decide)) ae rfl) rfl) (aB (i:=8) (ds':=[0,0,1,0,0,0,0,0,0,0,0,0]) nd rfl (.inl rfl) rfl (by decide) (by decide) (.inl rfl)) (ai (ap (i:=9) (d:=0) (ds':=[0,0,1,0,0,0,0,0,0,0,0,0]) nd rfl (.inl rfl) (aK kX hr rfl (aC (i:=2) rfl (.inr (.inl rfl)) (aa (ac (i:=3) rfl (.inr (.inl rfl)) rfl rfl rfl) (aa (ac (i:=7) rfl (.inl rfl) rfl rfl rfl) ae rfl) rfl) rfl rfl) rfl rfl rfl rfl) rfl (by decide) (by decide) rfl (.inl rfl))
  (ai (aJ (ds2:=[0,0,1,0,0,0,0,0,0,0,0,0]) (aN (aH (aZ dC hr rfl (aa (ac (i:=3) rfl (.inr (.inl rfl)) rfl rfl rfl) (aa (ac (i:=9) rfl (.inl rfl) rfl rfl rfl) (aa (am (cp (K:=K) rfl) (aU (cD (K:=K) rfl) (ac (i:=6) rfl (.inl rfl) rfl rfl rfl) a7 (aX ag)) (aw (d:=0) (c:=0) (aa (ac (i:=9) rfl (.inl rfl) rfl rfl rfl) ae rfl) rfl rfl)) ae rfl) rfl) rfl) rfl rfl rfl rfl rfl) (fun _=>rfl))) (aj (ar a0 rfl)) aM)
  (aj (aJ (ds2:=[0,0,1,0,0,0,0,0,0,0,0,0]) (aN (aH (aZ dC hr rfl (aa (ac (i:=3) rfl (.inr (.inl rfl)) rfl rfl rfl) (aa (ac (i:=9) rfl (.inl rfl) rfl rfl rfl) (aa (am (cp (K:=K) rfl) (aw (d:=0) (c:=0) (aa (ac (i:=9) rfl (.inl rfl) rfl rfl rfl) ae rfl) rfl rfl) (aU (cD (K:=K) rfl) (ac (i:=6) rfl (.inl rfl) rfl rfl rfl) a7 (aX ag))) ae rfl) rfl) rfl) rfl rfl rfl rfl rfl) (fun _=>rfl))) (aj (ar a0 rfl)) aM)))) PassesOwn.never (fun _=>rfl))
  (ai (ap (i:=10) (d:=0) (ds':=[0,0,1,0,0,0,0,0,0,0,0,0]) nd rfl (.inl rfl) (bv (de (K:=K) rfl) (bR (cd:=0) (d:=1) (dsi:=[0,0]) (lk:=[1]) (BlkOkC.of (ns:=["_law_sign", "_law_tongue_here"]) (js:=[none,some 3]) (N0:=qc) (sc0:=aq iK) rfl rfl (by decide +kernel)) rfl (br (K:=K) rfl (ak (d':=0) be (by decide))) (fun _ _ _ _ _=>(aB (i:=0) (ds':=[0,0]) (show (["_law_sign", "_law_tongue_here"]:List Str).Nodup by decide +kernel) rfl (.inl rfl) rfl (by decide) (by decide) (.inr rfl))) (fun _ _ _ _ _=>(cQ (aO jl (ac (i:=0) rfl (.inl rfl) rfl rfl rfl) (bZ (K:=K) rfl PySem.F.slot_str_join PySem.F.type_str_join (eF rfl) eH be (aa (ac (i:=1) rfl (.inr (.inl rfl)) rfl rfl rfl) ae rfl) rfl rfl rfl rfl rfl rfl) (by with_unfolding_all rfl)))) (fun _ _ _ _ _=>(ac (i:=0) rfl (.inl rfl) rfl rfl rfl)) rfl rfl (by decide) rfl (fun _=>rfl)) ag (fun _ _=>rfl)) rfl (by decide) (by decide) rfl (.inl rfl))
  (ai (aJ (ds2:=[0,0,1,0,0,0,0,0,0,0,0,0]) (qpt (bQ (aN (aH (aZ dC hr rfl (aa (aw (d:=0) (c:=0) (aa (ac (i:=10) rfl (.inl rfl) rfl rfl rfl) ae rfl) rfl rfl) (aa (ac (i:=7) rfl (.inl rfl) rfl rfl rfl) (aa (ac (i:=6) rfl (.inl rfl) rfl rfl rfl) ae rfl) rfl) rfl) rfl rfl rfl rfl rfl) (fun _=>rfl))) (bU (aN (aH (aZ dC hr rfl (aa (ac (i:=3) rfl (.inr (.inl rfl)) rfl rfl rfl) (aa (ac (i:=7) rfl (.inl rfl) rfl rfl rfl) (aa (ak (d':=0) (b0 (lC (K:=K) rfl rfl) rfl T.list0 (by decide +kernel) (aa (ac (i:=6) rfl (.inl rfl) rfl rfl rfl) ae rfl) rfl (by decide) rfl rfl rfl) (by decide)) ae rfl) rfl) rfl) rfl rfl rfl rfl rfl) (fun _=>rfl)))))) (aj (ar a0 rfl)) aM)
  (aj (bF (ds1:=[0,0,1,0,0,0,0,0,0,0,0,0]) rfl (br (K:=K) rfl (ak (d':=0) (aT (d:=3) (c:=3) (aa eI (aa ag (aa a0 (aa be (aa be (aa (aT (d:=3) (c:=3) ae rfl rfl (by decide)) (aa lV (aa (aw (d:=3) (c:=3) (aa (aw (d:=3) (c:=3) ae rfl rfl) ae rfl) rfl rfl) (aa (aw (d:=3) (c:=3) (aa (aw (d:=3) (c:=3) ae rfl rfl) (aa (aw (d:=3) (c:=3) ae rfl rfl) ae rfl) rfl) rfl rfl) (aa (aw (d:=3) (c:=3) (aa eI ae rfl) rfl rfl) (aa (aw (d:=3) (c:=3) (aa be ae rfl) rfl rfl) (aa (aw (d:=3) (c:=3) (aa (aw (d:=3) (c:=3) (aa (aw (d:=3) (c:=3) (aa be ae rfl) rfl rfl) ae rfl) rfl rfl) (aa eI ae rfl) rfl) rfl rfl) ae rfl) rfl) rfl) rfl) rfl) rfl) rfl) rfl) rfl) rfl) rfl) rfl) rfl rfl (by decide)) (by decide))) (aB (i:=11) (ds':=[0,0,1,0,0,0,0,0,0,0,0,0]) nd rfl (.inl rfl) rfl (by decide) (by decide) (.inl rfl)) (aj (aJ (ds2:=[0,0,1,0,0,0,0,0,0,0,0,0]) (aN (aH (aZ dC hr rfl (aa (ac (i:=3) rfl (.inr (.inl rfl)) rfl rfl rfl) (aa (ac (i:=11) rfl (.inl rfl) rfl rfl rfl) (aa (ac (i:=11) rfl (.inl rfl) rfl rfl rfl) ae rfl) rfl) rfl) rfl rfl rfl rfl rfl) (fun _=>rfl))) (aj (ar a0 rfl)) aM)) PassesOwn.never (fun _=>rfl)))))))))))))) rfl) PassesOwn.never (fun _=>rfl))
  (aj (ar a0 rfl)))
end
end W43
set_option maxHeartbeats 1000000
namespace W43
open PySem L2 Tg
theorem lx {s u:MS} {K:Fl→Prop} {b:Bool} {en:En} (h1:kIf s u K (true,en)) (h2:kIf s u K (false,en)):kIf s u K (b,en):=by
 cases b
 ·exact h2
 ·exact h1
def cm (a b c:Int):D:=.list [.int a,.int b,.int c]
def Pn (n:Nat) (t:D):Prop:=∃ a b c,t=cm a b c∧0≤c∧c≤(n:Int)
theorem Pn.mono {n m:Nat} {t:D} (h:Pn n t) (e:n≤m):Pn m t:=by
 obtain ⟨a,b,c,rfl,h1,h2⟩:=h
 exact ⟨a,b,c,rfl,h1,by omega⟩
theorem bg {p:D} {m:Int} {n:Nat} (hp:Pn n p) (hn:n≤1000000) (h3:0 < m) (h4:m < 1073741824) {Q:D × En→Prop} (h:∀ r p',0≤r→r < m→Pn (n+1) p'→Q (.int r,[some p',none])):W (F_law_draw [p,.int m]) Q:=by
 obtain ⟨a,b,c,rfl,c0,c1⟩:=hp
 have m0:∀ z:Int,0≤z % m:=fun z=>Int.emod_nonneg _ (by omega)
 have m1:∀ z:Int,z % m < m:=fun z=>Int.emod_lt_of_pos _ h3
 by_cases ha:0 < a
 ·simp only [ws,F_law_draw,cf,cm,ha,h3,h4]
  exact ⟨⟨h3,h4⟩,h _ _ (m0 _) (m1 _) ⟨_,_,_,rfl,by omega,by omega⟩⟩
 ·simp only [ws,F_law_draw,cf,cm,ha,h3,h4]
  refine ⟨.inl (by decide),by decide,.inl ?_,by decide,.inl (by decide),.inl ?_,by decide,⟨by decide,by decide⟩,h _ _ (m0 _) (m1 _) ⟨_,_,_,rfl,by omega,by omega⟩⟩
  ·constructor <;> omega
  ·generalize (b+69621 * (c+1)+13) % 2147483629 * ((b+69621 * (c+1)+13) % 2147483629)=x
   constructor <;> omega
theorem zv {ns:List Int} {k:Int} (h0:0≤k) (hl:ns.length≤63) {Q:D × En→Prop} (h:∀ p,Pn 0 p→Q (p,[none,none])):W (F_law_pen [.list (ns.map .int),.int k]) Q:=by
 have pw:gR 10 18:=by unfold gR; decide
 simp only [ws,F_law_pen,ce]
 refine ⟨.inl (by decide),?_⟩
 by_cases hk:k < (ns.length:Int)
 ·have ec:atI (ns.map PyData.int) k=some (.int (ns[k.toNat]'(by omega))):=zu h0 (by rw [List.getElem?_map,List.getElem?_eq_getElem (by omega)]; rfl)
  simp only [ws,hk,ec]
  refine ⟨pw,lx ?_ ?_⟩ <;> simp only [ws]
  ·exact ⟨pw,by decide,h _ ⟨_,_,0,rfl,by decide,by decide⟩⟩
  ·exact ⟨by decide,h _ ⟨_,_,0,rfl,by decide,by decide⟩⟩
 ·by_cases hn:(0:Int) < ns.length
  ·obtain ⟨c,ec⟩:∃ c,atI (ns.map PyData.int) (k % (ns.length:Int))=some (.int c):=by
    have q1:0≤k % (ns.length:Int):=Int.emod_nonneg _ (by omega)
    have q2:k % (ns.length:Int) < ns.length:=Int.emod_lt_of_pos _ (by omega)
    refine ⟨ns[(k % (ns.length:Int)).toNat]'(by omega),zu q1 ?_⟩
    rw [List.getElem?_map,List.getElem?_eq_getElem (by omega)]
    rfl
   simp only [ws,hk,hn,ec]
   refine ⟨by decide,.inl (by decide),pw,lx ?_ ?_⟩ <;> simp only [ws]
   ·exact ⟨pw,by decide,h _ ⟨_,_,0,rfl,by decide,by decide⟩⟩
   ·exact ⟨by decide,h _ ⟨_,_,0,rfl,by decide,by decide⟩⟩
  ·simp only [ws,hk,hn]
   refine ⟨pw,lx ?_ ?_⟩ <;> simp only [ws]
   ·exact ⟨pw,by decide,h _ ⟨_,_,0,rfl,by decide,by decide⟩⟩
   ·exact ⟨by decide,h _ ⟨_,_,0,rfl,by decide,by decide⟩⟩
end W43
namespace W43
open PySem L2 Tg
def txt:D→Str
 | .str z=>z
 | _=>""
def isW (L:List Nat):D→Bool
 | .str z=>decide (1≤(li z).length) && (decide ((li z).length≤6) && (li z).all fun c=>decide (c∈L))
 | _=>false
def fr (ys:List Str):Bool:=decide (ys.Pairwise fun a b=>¬ (li a <+: li b)∧¬ (li b <+: li a))
def frD:D→Bool
 | .tuple ts=>fr (ts.map txt)
 | _=>true
def isP (L:List Nat):D→Bool
 | .tuple ts=>decide (ts.length≤12) && (ts.all (isW L) && decide ((ts.map txt).Nodup))
 | _=>false
def isS (L:List Nat):D→Bool
 | .tuple ts=>decide (1≤ts.length) && (decide (ts.length≤5) && (ts.all (isP L) && ts.dropLast.all frD))
 | _=>false
def fR (L:List Nat):D→Bool
 | .tuple ts=>decide (ts.length≤3) && ts.all (isS L)
 | _=>false
def FtW (t:D):Prop:=ao t=true∧aI t≤5∧∀ z,t=.str z→z.length≤1000
def FtP (t:D):Prop:=aI t≤6∧∀ ts,t=.tuple ts→ts.length≤1000∧∀ x∈ts,FtW x
def FtS (t:D):Prop:=aI t≤7∧∀ ts,t=.tuple ts→ts.length≤1000∧∀ x∈ts,FtP x
def FtL (t:D):Prop:=∀ ts,t=.tuple ts→ts.length≤1000∧∀ x∈ts,FtS x
structure TT (ks:List Str):Prop where
 n4:ks.length≤4
 l12:(av ks).length≤12
 l1:1≤(av ks).length
theorem fL {ks:List Str} (T:TT ks):joinD "" [tD ks]=some (.str (sgs ks)):=(lR (by have:=T.l12; omega) (by have:=T.n4; omega)).1
theorem l7 {α:Type} (f:α→Bool):∀ l:List α,fM (l.map fun a=>.bool (f a))=some (l.map f)
 | []=>rfl
 | a :: l=>by
  show (fM (l.map fun a=>.bool (f a))).map (f a :: ·)=_
  rw [l7 f l]
  rfl
theorem all_map {α:Type} (f:α→Bool) (l:List α):fX [.list (l.map fun a=>.bool (f a))]=some (.bool (l.all f)):=by
 show (fM _).map _=_
 rw [l7]
 show some (PyData.bool ((l.map f).all id))=_
 rw [List.all_map]
 rfl
theorem ka (f:Nat→Str):∀ n x,(x∈bw f n↔∃ i,i < n∧f i=x)
 | 0,x=>by simp [bw]
 | n+1,x=>by
  have ih:=ka f n
  rw [gq]
  by_cases q:(bw f n).any (· == f n)=true
  ·rw [if_pos q,ih]
   constructor
   ·rintro ⟨i,h,e⟩; exact ⟨i,by omega,e⟩
   ·rintro ⟨i,h,e⟩
    by_cases hi:i=n
    ·subst hi
     obtain ⟨y,hy,e2⟩:=List.any_eq_true.mp q
     have e3:y=f i:=by simpa using e2
     rw [← e,← e3]
     exact (ih y).mp hy
    ·exact ⟨i,by omega,e⟩
  ·rw [if_neg q,List.mem_append,ih,List.mem_singleton]
   constructor
   ·rintro (⟨i,h,e⟩ | e)
    ·exact ⟨i,by omega,e⟩
    ·exact ⟨n,by omega,e.symm⟩
   ·rintro ⟨i,h,e⟩
    by_cases hi:i=n
    ·subst hi; exact .inr e.symm
    ·exact .inl ⟨i,by omega,e⟩
theorem lQ (f:Nat→Str):∀ n,((bw f n).length=n↔((List.range n).map f).Nodup)
 | 0=>by simp [bw]
 | n+1=>by
  have ih:=lQ f n
  have le:=jI f n
  rw [mX,List.range_succ,List.map_append,List.nodup_append]
  by_cases q:(bw f n).any (· == f n)=true
  ·rw [if_pos q]
   constructor
   ·intro h; omega
   ·rintro ⟨_,_,h⟩
    obtain ⟨y,hy,e2⟩:=List.any_eq_true.mp q
    have e3:y=f n:=by simpa using e2
    obtain ⟨i,hi,e⟩:=(ka f n y).mp hy
    exact absurd (e.trans e3) (h (f i) (List.mem_map.mpr ⟨i,List.mem_range.mpr hi,rfl⟩) (f n) (by simp))
  ·rw [if_neg q]
   constructor
   ·intro h
    refine ⟨ih.mp (by omega),by simp,fun a ha b hb e=>q ?_⟩
    obtain ⟨i,hi,rfl⟩:=List.mem_map.mp ha
    have hb':b=f n:=by simpa using hb
    refine List.any_eq_true.mpr ⟨f i,(ka f n _).mpr ⟨i,List.mem_range.mp hi,rfl⟩,?_⟩
    rw [e,hb']
    exact beq_self_eq_true _
   ·rintro ⟨h,_,_⟩
    have:=ih.mpr h
    omega
theorem qw (ys:List Str):(List.range ys.length).map (cJ ys)=ys:=by
 apply List.ext_getElem
 ·rw [List.length_map,List.length_range]
 ·intro i h1 h2
  rw [List.getElem_map,List.getElem_range]
  unfold cJ
  rw [List.getD_eq_getElem?_getD,List.getElem?_eq_getElem h2]
  rfl
theorem fN {L:List Nat}:∀ {ts:List D},ts.all (isW L)=true→ts=(ts.map txt).map .str
 | [],_=>rfl
 | t :: ts,h=>by
  rw [List.all_cons,Bool.and_eq_true] at h
  rw [List.map_cons,List.map_cons,← fN h.2]
  cases t with
  | str z=>rfl
  | _=>cases h.1
section
variable {ks:List Str}
theorem ql {ys:List Str} (h:ys.length≤1000):W (cG [.tuple (ys.map .str)]) (fun r=>r=(.bool (decide ys.Nodup),[none])):=by
 have e:jJ (.tuple (ys.map .str))=some (.int (bw (cJ ys) ys.length).length):=by
  show (joinD.strsOf _).bind _=_
  rw [ii]
  show grd _ _=_
  unfold grd
  rw [if_pos (by omega)]
 have e2:decide (((bw (cJ ys) ys.length).length:Int)=(ys.length:Int))=decide ys.Nodup:=by
  have:=lQ (cJ ys) ys.length
  rw [qw] at this
  rw [decide_eq_decide,← this]
  omega
 simp only [cG,gS,ws,e,e2]
theorem CN (T:TT ks):W (dW [tD ks]) (fun r=>r=(.str (sgs ks),[none])):=by
 simp only [dW,jG,ws,fL T]
theorem qO (T:TT ks) {z:Str} (hz:z.length≤1000):W (cV [tD ks,.str z]) (fun r=>r=(.bool (decide (z.length≤60) && (li z).all fun c=>decide (c∈av ks)),[none,none])):=by
 by_cases h1:(60:Int) < (z.length:Nat)
 ·have h2:decide (z.length≤60)=false:=decide_eq_false (by omega)
  simp only [cV,gf,ws,h1,h2]
  exact ⟨sz (by omega),by simp⟩
 ·have h2:decide (z.length≤60)=true:=decide_eq_true (by omega)
  simp only [cV,gf,ws,h1,h2]
  refine ⟨sz (by omega),?_⟩
  refine W.use (CN T) ?_
  rintro _ rfl
  simp only [ws]
  have hl:(dE z).length=z.length:=by unfold dE; rw [List.length_map]; exact Array.length_toList
  have e0:dE z=(li z).map s1:=rfl
  rw [e0]
  refine ie (fun t=>match t with | .str y=>.bool (bB (sgs ks) y) | _=>.none) (by rw [← e0,hl]; exact sz (by omega)) (fun t ht=>?_) fun o'=>?_
  ·obtain ⟨c,hc,rfl⟩:=List.mem_map.mp ht
   simp only [kY,ws]
  ·rw [List.map_map]
   have e:∀ c:Nat,bB (sgs ks) (mk1 c)=decide (c∈av ks):=fun c=>StrLaws.found_one (sgs ks) c
   have e1:=all_map (fun c:Nat=>decide (c∈av ks)) (li z)
   have e2:(li z).map ((fun t:D=>match t with | .str y=>(.bool (bB (sgs ks) y):D) | _=>.none) ∘ s1)=(li z).map fun a=>.bool (decide (a∈av ks)):=by
    refine List.map_congr_left fun c _=>?_
    show PyData.bool (bB (sgs ks) (mk1 c))=_
    rw [e c]
   rw [e2]
   simp only [ws,e1]
   simp
theorem zw (T:TT ks) {t:D} (h:FtW t):W (bW [tD ks,t]) (fun r=>r=(.bool (isW (av ks) t),[none,none])):=by
 cases t with
 | str z =>
  simp only [bW,dL,ws]
  refine W.use (qO T (h.2.2 z rfl)) ?_
  rintro _ rfl
  have hz:=h.2.2 z rfl
  have ll:(li z).length=z.length:=Array.length_toList
  unfold isW
  cases ha:(li z).all fun c=>decide (c∈av ks)
  ·simp only [ws,ha,Bool.and_false]
  ·by_cases h6:z.length≤60
   ·have q:decide (z.length≤60)=true:=decide_eq_true h6
    simp only [ws,ha,q,Bool.and_true,ll]
    refine ⟨sz (by omega),?_⟩
    by_cases a:(1:Int)≤(z.length:Nat)
    ·have a2:decide (1≤z.length)=true:=decide_eq_true (by omega)
     have b2:decide (((z.length:Nat):Int)≤6)=decide (z.length≤6):=by rw [decide_eq_decide]; omega
     simp only [ws,a,a2,b2,Bool.true_and]
    ·have a2:decide (1≤z.length)=false:=decide_eq_false (by omega)
     simp only [ws,a,a2,Bool.false_and]
   ·have q:decide (z.length≤60)=false:=decide_eq_false h6
    have q2:decide ((li z).length≤6)=false:=decide_eq_false (by omega)
    simp only [ws,q,q2,Bool.false_and,Bool.and_false]
 | _=>simp only [bW,dL,cV,gf,ws,isW]
end
end W43
namespace W43
open PySem L2 Tg
section
variable {ks:List Str}
theorem FtP.its {ts:List D} (h:FtP (.tuple ts)):ts.length≤1000∧∀ x∈ts,FtW x:=h.2 ts rfl
theorem FtS.its {ts:List D} (h:FtS (.tuple ts)):ts.length≤1000∧∀ x∈ts,FtP x:=h.2 ts rfl
theorem FtL.its {ts:List D} (h:FtL (.tuple ts)):ts.length≤1000∧∀ x∈ts,FtS x:=h ts rfl
theorem qP (T:TT ks) {t:D} (h:FtP t):W (cW [tD ks,t]) (fun r=>r=(.bool (isP (av ks) t),[none,none])):=by
 cases t with
 | tuple ts =>
  obtain ⟨hl,hw⟩:=h.its
  unfold isP
  by_cases h1:(12:Int) < (ts.length:Nat)
  ·have q:decide (ts.length≤12)=false:=decide_eq_false (by omega)
   simp only [cW,gh,ws,h1,q,Bool.false_and]
  ·have q:decide (ts.length≤12)=true:=decide_eq_true (by omega)
   simp only [cW,gh,ws,h1,q,Bool.true_and]
   refine ie (fun t=>.bool (isW (av ks) t)) (sz (by omega)) (fun t ht=>?_) fun o'=>?_
   ·simp only [k6,ws]
    refine W.use (zw T (hw t ht)) ?_
    rintro _ rfl
    simp only [ws]
   ·have e:=all_map (isW (av ks)) ts
    simp only [ws,e]
    cases ha:ts.all (isW (av ks)) with
    | false=>simp only [ws,Bool.false_and]
    | true =>
     have e2:=fN ha
     simp only [ws,Bool.true_and]
     have e3:(PyData.tuple ts)=.tuple ((ts.map txt).map .str):=by rw [← e2]
     rw [e3]
     refine W.use (ql (by rw [List.length_map]; omega)) ?_
     rintro _ rfl
     simp only [ws]
 | _=>simp only [cW,gh,ws,isP]
theorem tR {ys:List Str} {y:Str} (hl:ys.length≤1000):W (bD [.tuple (ys.map .str),.str y]) (fun r=>r=(.list ((ys.filter fun w=>decide (li w <+: li y)).map .str),[none,none])):=by
 simp only [bD,dy,ws]
 refine e7 (fun t=>decide (li (txt t) <+: li y)) (fun t=>t) (by rw [List.length_map]; exact sz hl) (fun t ht=>?_) (fun t ht _=>?_) fun o'=>?_
 ·obtain ⟨w,hw,rfl⟩:=List.mem_map.mp ht
  have e:Txt.startswith y w=decide (li w <+: li y):=by
   rw [Bool.eq_iff_iff,ij,decide_eq_true_eq]
  simp only [eA,ws,e,txt]
  rfl
 ·simp only [eB,ws]
 ·have e:List.map (fun t=>t) (List.filter (fun t=>decide (li (txt t) <+: li y)) (ys.map PyData.str))=(ys.filter fun w=>decide (li w <+: li y)).map .str:=by
   rw [List.map_id',List.filter_map]
   rfl
  rw [e]
  simp only [ws]
theorem eZ:∀ ys:List Str,a5 (ys.map PyData.str)=0
 | []=>rfl
 | y :: ys=>by
  rw [List.map_cons]
  simp only [a5,aI,eZ ys]
  rfl
theorem hU:∀ ys:List Str,aD (ys.map PyData.str)=true
 | []=>rfl
 | y :: ys=>by
  rw [List.map_cons]
  simp only [aD,ao,hU ys]
  rfl
theorem j4:∀ xs ys:List Str,cN (xs.map PyData.str) (ys.map PyData.str)=decide (xs=ys)
 | [],[]=>rfl
 | [],_ :: _=>rfl
 | _ :: _,[]=>rfl
 | x :: xs,y :: ys=>by
  simp only [List.map_cons,cN,peq,j4 xs ys,gY]
  by_cases h:x=y
  ·by_cases h2:xs=ys <;> simp [h,h2]
  ·simp [h]
theorem oJ (xs ys:List Str):eqD (.list (xs.map .str)) (.list (ys.map .str))=some (.bool (decide (xs=ys))):=by
 show grd _ _=_
 unfold grd
 rw [if_pos ⟨by simp only [ao]; exact hU xs,by simp only [ao]; exact hU ys,by simp only [aI,eZ]; decide⟩]
 simp only [peq,j4]
theorem pQ {α:Type} {l:List α} {p:α→Bool} {y:α} (nd:l.Nodup) (hy:y∈l) (py:p y=true) (h:∀ w∈l,p w=true→w=y):l.filter p=[y]:=by
 induction l with
 | nil=>cases hy
 | cons x l ih =>
  obtain ⟨n1,n2⟩:=List.nodup_cons.mp nd
  by_cases hx:x=y
  ·subst hx
   rw [List.filter_cons_of_pos py]
   congr 1
   rw [List.filter_eq_nil_iff]
   intro w hw hp
   exact n1 (h w (List.mem_cons_of_mem _ hw) hp ▸ hw)
  ·have hp:¬ p x=true:=fun z=>hx (h x List.mem_cons_self z)
   rw [List.filter_cons_of_neg hp]
   have hy':y∈l:=by
    rcases List.mem_cons.mp hy with e | e
    ·exact absurd e.symm hx
    ·exact e
   exact ih n2 hy' fun w hw=>h w (List.mem_cons_of_mem _ hw)
theorem sW {ys:List Str} (nd:ys.Nodup):(ys.all fun y=>decide ((ys.filter fun w=>decide (li w <+: li y))=[y]))=fr ys:=by
 unfold fr
 rw [Bool.eq_iff_iff,decide_eq_true_eq,List.all_eq_true]
 constructor
 ·intro h
  have key:∀ a∈ys,∀ b∈ys,a≠b→¬ li a <+: li b:=fun a ha b hb hne hp=>by
   have e:=of_decide_eq_true (h b hb)
   have:a∈ys.filter fun w=>decide (li w <+: li b):=List.mem_filter.mpr ⟨ha,decide_eq_true hp⟩
   rw [e] at this
   exact hne (List.mem_singleton.mp this)
  refine List.Pairwise.imp_of_mem ?_ nd
  intro a b ha hb hne
  exact ⟨key a ha b hb hne,key b hb a ha (Ne.symm hne)⟩
 ·intro h y hy
  refine decide_eq_true (pQ nd hy (decide_eq_true (List.prefix_refl _)) fun w hw hp=>?_)
  have hp':li w <+: li y:=of_decide_eq_true hp
  refine Classical.byContradiction fun hne=>?_
  rcases List.mem_iff_getElem.mp hw with ⟨i,hi,rfl⟩
  rcases List.mem_iff_getElem.mp hy with ⟨j,hj,rfl⟩
  have hpw:=List.pairwise_iff_getElem.mp h
  rcases Nat.lt_trichotomy i j with hij | hij | hij
  ·exact (hpw i j hi hj hij).1 hp'
  ·subst hij; exact hne rfl
  ·exact (hpw j i hj hi hij).2 hp'
theorem zS {ys:List Str} (nd:ys.Nodup) (hl:ys.length≤1000):W (bq [.tuple (ys.map .str)]) (fun r=>r=(.bool (fr ys),[none])):=by
 simp only [bq,cx,ws]
 refine ie (fun t=>.bool (decide ((ys.filter fun w=>decide (li w <+: li (txt t)))=[txt t]))) (by rw [List.length_map]; exact sz hl) (fun t ht=>?_) fun o'=>?_
 ·obtain ⟨y,hy,rfl⟩:=List.mem_map.mp ht
  simp only [dD,ws]
  refine W.use (tR hl) ?_
  rintro _ rfl
  have e:=oJ (ys.filter fun w=>decide (li w <+: li y)) [y]
  simp only [List.map_cons,List.map_nil] at e
  simp only [ws,e,txt]
  rfl
 ·rw [List.map_map]
  have e:=all_map (fun y=>decide ((ys.filter fun w=>decide (li w <+: li y))=[y])) ys
  have e2:List.map ((fun t=>PyData.bool (decide ((ys.filter fun w=>decide (li w <+: li (txt t)))=[txt t]))) ∘ PyData.str) ys=ys.map fun y=>.bool (decide ((ys.filter fun w=>decide (li w <+: li y))=[y])):=rfl
  rw [e2]
  simp only [ws,e,sW nd]
theorem tK {α:Type} (ts:List α) (h:1≤ts.length):bt ts none (some (-1))=ts.dropLast:=by
 unfold bt
 have e1:HT.sIx ts.length ts.length (some (-1))=ts.length - 1:=by
  show (if (-1:Int) < 0 then (-1+(ts.length:Int)).toNat else min (-1:Int).toNat ts.length)=_
  rw [if_pos (by decide)]
  omega
 rw [e1,HT.sIx_none,List.dropLast_eq_take]
 simp
theorem jj (T:TT ks) {t:D} (h:FtS t):W (bK [tD ks,t]) (fun r=>r=(.bool (isS (av ks) t),[none,none])):=by
 cases t with
 | tuple ts =>
  obtain ⟨hl,hp⟩:=h.its
  unfold isS
  by_cases h1:(1:Int)≤(ts.length:Nat)
  ·by_cases h5:((ts.length:Nat):Int)≤5
   ·have q1:decide (1≤ts.length)=true:=decide_eq_true (by omega)
    have q5:decide (ts.length≤5)=true:=decide_eq_true (by omega)
    simp only [bK,eS,ws,h1,h5,q1,q5,Bool.true_and]
    refine ie (fun t=>.bool (isP (av ks) t)) (sz (by omega)) (fun t ht=>?_) fun o'=>?_
    ·simp only [k4,ws]
     refine W.use (qP T (hp t ht)) ?_
     rintro _ rfl
     simp only [ws]
    ·have e:=all_map (isP (av ks)) ts
     simp only [ws,e]
     cases ha:ts.all (isP (av ks)) with
     | false=>simp only [ws,Bool.false_and]
     | true =>
      have ha':=List.all_eq_true.mp ha
      have ec:bt ts none (some (-1))=ts.dropLast:=tK ts (by omega)
      simp only [ws,Bool.true_and,ec]
      refine ie (fun t=>.bool (frD t)) (sz (by rw [List.length_dropLast]; omega)) (fun t ht=>?_) fun o'=>?_
      ·have hm:=List.dropLast_subset _ ht
       have hpt:=ha' t hm
       cases t with
       | tuple us =>
        unfold isP at hpt
        rw [Bool.and_eq_true,Bool.and_eq_true] at hpt
        have e2:=fN hpt.2.1
        have e3:(PyData.tuple us)=.tuple ((us.map txt).map .str):=by rw [← e2]
        simp only [kZ,ws,frD]
        rw [e3]
        refine W.use (zS (of_decide_eq_true hpt.2.2) (by rw [List.length_map]; have:=of_decide_eq_true hpt.1; omega)) ?_
        rintro _ rfl
        simp only [ws]
       | _=>cases hpt
      ·have e4:=all_map frD ts.dropLast
       simp only [ws,e4]
   ·have q5:decide (ts.length≤5)=false:=decide_eq_false (by omega)
    simp only [bK,eS,ws,h1,h5,q5,Bool.false_and,Bool.and_false]
  ·have q1:decide (1≤ts.length)=false:=decide_eq_false (by omega)
   simp only [bK,eS,ws,h1,q1,Bool.false_and]
 | _=>simp only [bK,eS,ws,isS]
theorem gt (T:TT ks) {t:D} (h:FtL t):W (bx [tD ks,t]) (fun r=>r=(.bool (fR (av ks) t),[none,none])):=by
 cases t with
 | tuple ts =>
  obtain ⟨hl,hw⟩:=h.its
  unfold fR
  by_cases h1:(3:Int) < (ts.length:Nat)
  ·have q:decide (ts.length≤3)=false:=decide_eq_false (by omega)
   simp only [bx,gg,ws,h1,q,Bool.false_and]
  ·have q:decide (ts.length≤3)=true:=decide_eq_true (by omega)
   simp only [bx,gg,ws,h1,q,Bool.true_and]
   refine ie (fun t=>.bool (isS (av ks) t)) (sz (by omega)) (fun t ht=>?_) fun o'=>?_
   ·simp only [k5,ws]
    refine W.use (jj T (hw t ht)) ?_
    rintro _ rfl
    simp only [ws]
   ·have e:=all_map (isS (av ks)) ts
    simp only [ws,e]
 | _=>simp only [bx,gg,ws,fR]
end
end W43
namespace W43
open PySem L2 Tg
section
variable {ks:List Str}
theorem kE (L:List Nat) (z:Str):isW L (.str z)=(decide (1≤(li z).length) && (decide ((li z).length≤6) && (li z).all fun c=>decide (c∈L))):=rfl
theorem jK (L:List Nat) (ts:List D):isP L (.tuple ts)=(decide (ts.length≤12) && (ts.all (isW L) && decide ((ts.map txt).Nodup))):=rfl
theorem zn (L:List Nat) (ts:List D):isS L (.tuple ts)=(decide (1≤ts.length) && (decide (ts.length≤5) && (ts.all (isP L) && ts.dropLast.all frD))):=rfl
theorem nb (L:List Nat) (ts:List D):fR L (.tuple ts)=(decide (ts.length≤3) && ts.all (isS L)):=rfl
theorem oo (xs:List Str):neD (.list (xs.map .str)) (.list [])=some (.bool (!decide (xs=[]))):=by
 show grd _ _=_
 unfold grd
 rw [if_pos ⟨by simp only [ao]; exact hU xs,rfl,by simp only [aI,eZ]; decide⟩]
 have:=j4 xs []
 simp only [List.map_nil] at this
 simp only [peq,this]
theorem oi (t:D) (z:Str):peq t (.str z)=match t with | .str y=>decide (y=z) | _=>false:=by
 cases t with
 | str y=>simp only [peq,gY]
 | none=>rfl
 | bool b=>rfl
 | int i=>rfl
 | list l=>simp only [peq]
 | tuple l=>simp only [peq]
 | dict l=>simp only [peq]
theorem jv (z:Str):∀ ys:List Str,((ys.map PyData.str).countP fun t=>peq t (.str z))=ys.count z
 | []=>rfl
 | y :: ys=>by
  rw [List.map_cons,List.countP_cons,List.count_cons,jv z ys,oi,gY]
theorem kx:∀ {ts:List D},(∀ x∈ts,ao x=true)→aD ts=true
 | [],_=>rfl
 | t :: ts,h=>by simp only [aD,h t List.mem_cons_self,kx fun x hx=>h x (List.mem_cons_of_mem _ hx),Bool.and_self]
theorem eJ {n:Nat}:∀ {ts:List D},(∀ x∈ts,aI x≤n)→a5 ts≤n
 | [],_=>Nat.zero_le _
 | t :: ts,h=>by
  have h1:=h t List.mem_cons_self
  have h2:=eJ fun x hx=>h x (List.mem_cons_of_mem _ hx)
  simp only [a5]
  omega
theorem lX (xs:List Nat) (n:Nat):cI xs none (some (n:Int))=xs.take n:=by
 unfold cI
 rw [HT.sIx_none,HT.sIx_nat]
 simp
theorem rR (T:TT ks) {ts:List D} {last:D} (hl:ts.length≤12) (hw:∀ x∈ts,FtW x) {Q:Fl→Prop} (hbad:∀ en,isP (av ks) (.tuple ts)=false→en.length=7→Q (.rt (.bool false) en))
  (hgood:isP (av ks) (.tuple ts)=true→∀ o,Q (.nx [some (tD ks),some (.tuple ts),some last,some (.str (sgs ks)),o,none,none])) :
  W (b6 (gN 4) cM ts [some (tD ks),some (.tuple ts),some last,some (.str (sgs ks)),none,none,none]) Q:=by
 refine eV (fun i en=>(∃ o,en=[some (tD ks),some (.tuple ts),some last,some (.str (sgs ks)),o,none,none])∧∀ j x,j < i→ts[j]?=some x→isW (av ks) x=true∧(ts.countP fun t=>peq t x)≤1) ⟨⟨_,rfl⟩,fun j x h=>by omega⟩ (fun i t en ht ⟨⟨o,e⟩,hg⟩=>?_) fun en ⟨⟨o,e⟩,hg⟩=>?_
 ·subst e
  have hm:=List.mem_of_getElem? ht
  obtain ⟨f1,f2,f3⟩:=hw t hm
  have bad:isW (av ks) t=false→isP (av ks) (.tuple ts)=false:=fun h=>by
   rw [jK]
   have:ts.all (isW (av ks))=false:=by
    rw [List.all_eq_false]
    exact ⟨t,hm,by rw [h]; exact Bool.false_ne_true⟩
   rw [this,Bool.false_and,Bool.and_false]
  have nds:aD ts=true:=kx fun x hx=>(hw x hx).1
  have dps:a5 ts≤60:=Nat.le_trans (eJ fun x hx=>(hw x hx).2.1) (by decide)
  cases t with
  | str z =>
   have hz:=f3 z rfl
   have ll:(li z).length=z.length:=Array.length_toList
   simp only [ws,cM]
   by_cases h1:(1:Int)≤(z.length:Nat)
   ·by_cases h6:((z.length:Nat):Int)≤6
    ·simp only [ws,h1,h6]
     refine ⟨sz hz,⟨f1,nds,dps⟩,?_⟩
     by_cases hc:(1:Int) < ((ts.countP fun t=>peq t (.str z):Nat):Int)
     ·simp only [ws,hc]
      refine hbad _ ?_ rfl
      cases hp:isP (av ks) (.tuple ts) with
      | false=>rfl
      | true =>
       rw [jK,Bool.and_eq_true,Bool.and_eq_true] at hp
       have e2:=fN hp.2.1
       have nd:=of_decide_eq_true hp.2.2
       rw [e2,jv] at hc
       have:=List.nodup_iff_count.mp nd z
       omega
     ·simp only [ws,hc]
      have e0:dE z=(li z).map s1:=rfl
      rw [e0]
      refine e7 (fun t=>!bB (sgs ks) (txt t)) (fun t=>t) (by rw [List.length_map]; exact sz (by omega)) (fun t ht=>?_) (fun t ht _=>?_) fun o'=>?_
      ·obtain ⟨c,hc,rfl⟩:=List.mem_map.mp ht
       simp only [gA,ws,txt]
      ·simp only [gD,ws]
      ·have e3:List.map (fun t=>t) (List.filter (fun t=>!bB (sgs ks) (txt t)) ((li z).map s1))=(((li z).filter fun c=>!decide (c∈av ks)).map mk1).map .str:=by
        rw [List.map_id',List.filter_map,List.map_map]
        congr 1
        refine List.filter_congr fun c _=>?_
        show (!bB (sgs ks) (mk1 c))=_
        rw [show bB (sgs ks) (mk1 c)=decide (c∈av ks) from StrLaws.found_one (sgs ks) c]
       rw [e3]
       have e4:=oo (((li z).filter fun c=>!decide (c∈av ks)).map mk1)
       simp only [ws,e4]
       cases ha:(li z).all fun c=>decide (c∈av ks) with
       | true =>
        have e5:((li z).filter fun c=>!decide (c∈av ks))=[]:=by
         rw [List.filter_eq_nil_iff]
         intro c hc
         have:=List.all_eq_true.mp ha c hc
         rw [this]
         exact Bool.false_ne_true
        rw [e5]
        simp only [ws,List.map_nil]
        refine ⟨⟨_,rfl⟩,fun j x hj hx=>?_⟩
        by_cases hji:j=i
        ·subst hji
         rw [ht] at hx
         cases hx
         refine ⟨?_,by omega⟩
         rw [kE]
         rw [ha,ll,decide_eq_true (by omega:1≤z.length),decide_eq_true (by omega:z.length≤6)]
         rfl
        ·exact hg j x (by omega) hx
       | false =>
        have e5:decide ((((li z).filter fun c=>!decide (c∈av ks)).map mk1)=[])=false:=by
         rw [decide_eq_false_iff_not,List.map_eq_nil_iff,List.filter_eq_nil_iff]
         intro hall
         obtain ⟨c,hc,hc2⟩:=List.all_eq_false.mp ha
         have:=hall c hc
         cases hd:decide (c∈av ks)
         ·rw [hd] at this; exact this rfl
         ·exact hc2 hd
        simp only [ws,e5]
        refine hbad _ (bad ?_) rfl
        rw [kE]
        rw [ha,Bool.and_false,Bool.and_false]
    ·simp only [ws,h1,h6]
     refine ⟨sz hz,hbad _ (bad ?_) rfl⟩
     rw [kE]
     rw [decide_eq_false (by omega:¬ (li z).length≤6),Bool.false_and,Bool.and_false]
   ·simp only [ws,h1]
    refine ⟨sz hz,hbad _ (bad ?_) rfl⟩
    rw [kE]
    rw [decide_eq_false (by omega:¬ 1≤(li z).length),Bool.false_and]
  | _ =>
   simp only [ws,cM]
   exact hbad _ (bad rfl) rfl
 ·subst e
  refine hgood ?_ o
  have ha:ts.all (isW (av ks))=true:=by
   rw [List.all_eq_true]
   intro x hx
   obtain ⟨j,hj,e⟩:=List.mem_iff_getElem.mp hx
   exact (hg j x hj (by rw [List.getElem?_eq_getElem hj,e])).1
  have e2:=fN ha
  rw [jK]
  rw [ha,decide_eq_true hl,Bool.true_and,Bool.true_and]
  refine decide_eq_true (List.nodup_iff_count.mpr fun z=>?_)
  by_cases hz:z∈ts.map txt
  ·have hz2:PyData.str z∈ts:=by rw [e2]; exact List.mem_map.mpr ⟨z,hz,rfl⟩
   obtain ⟨j,hj,e⟩:=List.mem_iff_getElem.mp hz2
   have:=(hg j (.str z) hj (by rw [List.getElem?_eq_getElem hj,e])).2
   rw [e2,jv] at this
   exact this
  ·rw [List.count_eq_zero_of_not_mem hz]
   decide
end
end W43
namespace W43
open PySem L2 Tg
section
variable {ks:List Str}
theorem iH (ts:List D):(b5 ts).length=ts.length:=by unfold b5; rw [List.length_map,List.length_zipIdx]
theorem rK {ys:List Str} {y:Str} {j:Nat} (hl:ys.length≤1000) (hy:y.length≤1000) (hs:∀ w∈ys,w.length≤1000) :
  W (lcF (gT (gsC (gN 0) (gsC (gN 1) gs0))) ef er (b5 (ys.map .str)) [] [none,none,some (.int (j:Nat)),some (.str y)]) (fun r=>∃ (zs:List Str) (o1 o2:Option D),r=(zs.map .str,[o1,o2,some (.int (j:Nat)),some (.str y)])∧(zs=[]↔∀ k w,ys[k]?=some w→k≠j→¬ li y <+: li w)):=by
 refine p9 (fun i us en=>∃ (zs:List Str) (o1 o2:Option D),us=zs.map .str∧en=[o1,o2,some (.int (j:Nat)),some (.str y)]∧(zs=[]↔∀ k w,k < i→ys[k]?=some w→k≠j→¬ li y <+: li w)) (by rw [iH,List.length_map]; exact sz hl) ⟨[],none,none,rfl,rfl,by simp⟩ (fun i t us en ht hu ⟨zs,o1,o2,e1,e2,h⟩=>?_) fun us en _ ⟨zs,o1,o2,e1,e2,h⟩=>?_
 ·obtain ⟨t',h1,rfl⟩:=eY ht
  rw [List.getElem?_map] at h1
  obtain ⟨w,h2,rfl⟩:=Option.map_eq_some_iff.mp h1
  subst e1 e2
  have hw:=hs w (List.mem_of_getElem? h2)
  have step:∀ (P:Prop),(∀ k w',k < i+1→ys[k]?=some w'→k≠j→¬ li y <+: li w')↔((∀ k w',k < i→ys[k]?=some w'→k≠j→¬ li y <+: li w')∧(i≠j→¬ li y <+: li w)):=fun _=>by
   constructor
   ·intro q
    exact ⟨fun k w' hk=>q k w' (by omega),fun hij=>q i w (by omega) h2 hij⟩
   ·rintro ⟨q1,q2⟩ k w' hk e hkj
    by_cases hki:k=i
    ·subst hki
     rw [h2] at e
     cases e
     exact q2 hkj
    ·exact q1 k w' (by omega) e hkj
  simp only [ws,ef,er]
  by_cases hij:i=j
  ·have q:((i:Nat):Int)=((j:Nat):Int):=by omega
   simp only [ws,q]
   exact ⟨zs,_,_,rfl,rfl,by rw [h,step True]; simp [hij]⟩
  ·have q:¬ ((i:Nat):Int)=((j:Nat):Int):=by omega
   simp only [ws,q]
   refine ⟨sz hy,sz hw,?_⟩
   have e5:decide ((⟨(cI w.cps.toList none (some (y.length:Int))).toArray⟩:Str)=y)=decide (li y <+: li w):=by
    rw [decide_eq_decide,lX,List.prefix_iff_eq_take]
    have ly:(li y).length=y.length:=Array.length_toList
    rw [ly]
    constructor
    ·intro e
     have e6:=congrArg li e
     exact e6.symm
    ·intro e
     obtain ⟨ya⟩:=y
     congr 1
     apply Array.toList_inj.mp
     exact e.symm
   simp only [ws,e5]
   by_cases hp:li y <+: li w
   ·simp only [ws,hp]
    refine ⟨zs++[w],_,_,by simp,rfl,?_⟩
    rw [step True]
    simp [hij,hp]
   ·simp only [ws,hp]
    refine ⟨zs,_,_,rfl,rfl,?_⟩
    rw [h,step True]
    simp [hp]
 ·subst e1 e2
  refine ⟨zs,o1,o2,rfl,?_⟩
  rw [h,iH,List.length_map]
  constructor
  ·intro q k w e
   exact q k w (List.getElem?_eq_some_iff.mp e).1 e
  ·intro q k w _ e
   exact q k w e
theorem qY (ys:List Str):fr ys=true↔∀ (j:Nat) y,ys[j]?=some y→∀ k w,ys[k]?=some w→k≠j→¬ li y <+: li w:=by
 unfold fr
 rw [decide_eq_true_eq,List.pairwise_iff_getElem]
 constructor
 ·intro h j y hj k w hk hne
  obtain ⟨hj1,rfl⟩:=List.getElem?_eq_some_iff.mp hj
  obtain ⟨hk1,rfl⟩:=List.getElem?_eq_some_iff.mp hk
  rcases Nat.lt_or_ge j k with q | q
  ·exact (h j k hj1 hk1 q).1
  ·exact (h k j hk1 hj1 (by omega)).2
 ·intro h i j hi hj hij
  exact ⟨h i _ (List.getElem?_eq_getElem hi) j _ (List.getElem?_eq_getElem hj) (by omega),h j _ (List.getElem?_eq_getElem hj) i _ (List.getElem?_eq_getElem hi) (by omega)⟩
theorem pX {ys:List Str} {a b c d:Option D} (hl:ys.length≤1000) (hs:∀ w∈ys,w.length≤1000) {Q:Fl→Prop} (hbad:fr ys=false→∀ en,en.length=7→Q (.rt (.bool false) en)) (hgood:fr ys=true→∀ en,en.length=7→Q (.nx en)) :
  W (b6 (gT (gsC (gN 5) (gsC (gN 6) gs0))) em (b5 (ys.map .str)) [a,some (.tuple (ys.map .str)),b,c,d,none,none]) Q:=by
 refine eV (fun i en=>(∃ o1 o2,en=[a,some (.tuple (ys.map .str)),b,c,d,o1,o2])∧∀ (j:Nat) y,j < i→ys[j]?=some y→∀ k w,ys[k]?=some w→k≠j→¬ li y <+: li w) ⟨⟨_,_,rfl⟩,fun j y h=>by omega⟩ (fun i t en ht ⟨⟨o1,o2,e⟩,hg⟩=>?_) fun en ⟨⟨o1,o2,e⟩,hg⟩=>?_
 ·subst e
  obtain ⟨t',h1,rfl⟩:=eY ht
  rw [List.getElem?_map] at h1
  obtain ⟨y,h2,rfl⟩:=Option.map_eq_some_iff.mp h1
  simp only [ws,em]
  refine W.use (rK hl (hs y (List.mem_of_getElem? h2)) hs) ?_
  rintro _ ⟨zs,p1,p2,rfl,hz⟩
  have e4:=oo zs
  simp only [ws,e4]
  by_cases h0:zs=[]
  ·have q:decide (zs=[])=true:=decide_eq_true h0
   simp only [ws,q]
   refine ⟨⟨_,_,rfl⟩,fun j y' hj e=>?_⟩
   by_cases hji:j=i
   ·subst hji
    rw [h2] at e
    cases e
    exact hz.mp h0
   ·exact hg j y' (by omega) e
  ·have q:decide (zs=[])=false:=decide_eq_false h0
   simp only [ws,q]
   refine hbad ?_ _ rfl
   cases hf:fr ys with
   | false=>rfl
   | true=>exact absurd (hz.mpr ((qY ys).mp hf i y h2)) h0
 ·subst e
  refine hgood ((qY ys).mpr fun j y e=>hg j y ?_ e) _ rfl
  rw [iH,List.length_map]
  exact (List.getElem?_eq_some_iff.mp e).1
theorem sw:∀ en:En,en.length=7→msk [0,0,0] en=[none,none,none]
 | [_,_,_,_,_,_,_],_=>rfl
theorem sB (T:TT ks) {t:D} (h:FtP t) {b:Bool}:W (bH [tD ks,t,.bool b]) (fun r=>r=(.bool (isP (av ks) t && (b || frD t)),[none,none,none])):=by
 cases t with
 | tuple ts =>
  obtain ⟨hl,hw⟩:=h.its
  by_cases h1:(12:Int) < (ts.length:Nat)
  ·have q:decide (ts.length≤12)=false:=decide_eq_false (by omega)
   rw [jK,q]
   simp only [bH,cA,ws,h1,Bool.false_and]
  ·simp only [bH,cA,ws,h1,fL T]
   refine rR T (by omega) hw (fun en hb he=>?_) fun hg o=>?_
   ·simp only [ws,hb,Bool.false_and,sw en he]
   ·rw [hg]
    cases b with
    | true=>simp only [ws,Bool.true_and,Bool.true_or]
    | false =>
     have hg':=hg
     rw [jK,Bool.and_eq_true,Bool.and_eq_true] at hg'
     have e2:=fN hg'.2.1
     have e3:(PyData.tuple ts)=.tuple ((ts.map txt).map .str):=by rw [← e2]
     have e4:b5 ts=b5 ((ts.map txt).map .str):=by rw [← e2]
     have hs:∀ w∈ts.map txt,w.length≤1000:=fun w hw2=>by
      have:PyData.str w∈ts:=by rw [e2]; exact List.mem_map.mpr ⟨w,hw2,rfl⟩
      exact (hw _ this).2.2 w rfl
     simp only [ws,Bool.true_and,Bool.false_or,frD]
     rw [e3,e4]
     refine pX (by rw [List.length_map]; omega) hs (fun hb en he=>?_) fun hb en he=>?_
     ·simp only [ws,hb,sw en he]
     ·simp only [ws,hb,sw en he]
 | _=>simp only [bH,cA,ws,isP,Bool.false_and]
theorem mY (T:TT ks) {t:D} (h:FtS t):W (ba [tD ks,t]) (fun r=>r=(.bool (isS (av ks) t),[none,none])):=by
 cases t with
 | tuple ts =>
  obtain ⟨hl,hp⟩:=h.its
  rw [zn]
  by_cases h1:(1:Int)≤(ts.length:Nat)
  ·by_cases h5:((ts.length:Nat):Int)≤5
   ·have q1:decide (1≤ts.length)=true:=decide_eq_true (by omega)
    have q5:decide (ts.length≤5)=true:=decide_eq_true (by omega)
    have key:(ts.all (isP (av ks)) && ts.dropLast.all frD)=true↔∀ (j:Nat) x,ts[j]?=some x→(isP (av ks) x && (decide ((j:Int)=(ts.length:Int) - 1) || frD x))=true:=by
     rw [Bool.and_eq_true,List.all_eq_true,List.all_eq_true]
     constructor
     ·rintro ⟨a,b⟩ j x hx
      have hj:=(List.getElem?_eq_some_iff.mp hx).1
      rw [a x (List.mem_of_getElem? hx),Bool.true_and]
      by_cases e:(j:Int)=(ts.length:Int) - 1
      ·rw [decide_eq_true e]; rfl
      ·have hm:x∈ts.dropLast:=by
        refine List.mem_of_getElem? (i:=j) ?_
        rw [List.getElem?_dropLast,if_pos (by omega)]
        exact hx
       rw [b x hm,Bool.or_true]
     ·intro a
      refine ⟨fun x hx=>?_,fun x hx=>?_⟩
      ·obtain ⟨j,hj,rfl⟩:=List.mem_iff_getElem.mp hx
       exact (Bool.and_eq_true_iff.mp (a j _ (List.getElem?_eq_getElem hj))).1
      ·obtain ⟨j,hj,rfl⟩:=List.mem_iff_getElem.mp hx
       rw [List.length_dropLast] at hj
       have:=a j _ (List.getElem?_eq_getElem (by omega))
       rw [decide_eq_false (by omega),Bool.false_or,Bool.and_eq_true] at this
       rw [List.getElem_dropLast]
       exact this.2
    simp only [ba,b7,ws,h1,h5,q1,q5,Bool.true_and]
    refine eV (fun i en=>(∃ o1 o2,en=[some (tD ks),some (.tuple ts),o1,o2])∧∀ (j:Nat) x,j < i→ts[j]?=some x→(isP (av ks) x && (decide ((j:Int)=(ts.length:Int) - 1) || frD x))=true) ⟨⟨_,_,rfl⟩,fun j x h=>by omega⟩ (fun i t en ht ⟨⟨o1,o2,e⟩,hg⟩=>?_) fun en ⟨⟨o1,o2,e⟩,hg⟩=>?_
    ·subst e
     obtain ⟨x,h2,rfl⟩:=eY ht
     simp only [ws,gB]
     refine W.use (sB T (hp x (List.mem_of_getElem? h2))) ?_
     rintro _ rfl
     cases hb:(isP (av ks) x && (decide ((i:Int)=(ts.length:Int) - 1) || frD x)) with
     | true =>
      simp only [ws]
      refine ⟨⟨_,_,rfl⟩,fun j x' hj e=>?_⟩
      by_cases hji:j=i
      ·subst hji
       rw [h2] at e
       cases e
       exact hb
      ·exact hg j x' (by omega) e
     | false =>
      simp only [ws]
      have:(ts.all (isP (av ks)) && ts.dropLast.all frD)=false:=by
       cases hk:(ts.all (isP (av ks)) && ts.dropLast.all frD) with
       | false=>rfl
       | true=>rw [key.mp hk i x h2] at hb; cases hb
      rw [this]
    ·subst e
     have:(ts.all (isP (av ks)) && ts.dropLast.all frD)=true:=key.mpr fun j x e=>hg j x (by rw [iH]; exact (List.getElem?_eq_some_iff.mp e).1) e
     simp only [ws,this]
   ·have q5:decide (ts.length≤5)=false:=decide_eq_false (by omega)
    simp only [ba,b7,ws,h1,h5,q5,Bool.false_and,Bool.and_false]
  ·have q1:decide (1≤ts.length)=false:=decide_eq_false (by omega)
   simp only [ba,b7,ws,h1,q1,Bool.false_and]
 | _=>simp only [ba,b7,ws,isS]
theorem AI {us:List D} (h:a5 us≤7):eqX (.list us) (.list [])=some (.bool (decide (us=[]))):=by
 unfold eqX
 rw [if_pos (by simp only [aI]; omega)]
 cases us with
 | nil=>simp [bi,dh]
 | cons u us=>simp [bi]
theorem sA (T:TT ks) {t:D} (h:FtL t):W (bG [tD ks,t]) (fun r=>r=(.bool (fR (av ks) t),[none,none])):=by
 cases t with
 | tuple ts =>
  obtain ⟨hl,hw⟩:=h.its
  rw [nb]
  by_cases h1:(3:Int) < (ts.length:Nat)
  ·have q:decide (ts.length≤3)=false:=decide_eq_false (by omega)
   simp only [bG,cz,ws,h1,q,Bool.false_and]
  ·have q:decide (ts.length≤3)=true:=decide_eq_true (by omega)
   simp only [bG,cz,ws,h1,q,Bool.true_and]
   refine e7 (fun t=>!isS (av ks) t) (fun t=>t) (sz (by omega)) (fun t ht=>?_) (fun t ht _=>?_) fun o'=>?_
   ·simp only [gy,ws]
    refine W.use (mY T (hw t ht)) ?_
    rintro _ rfl
    simp only [ws]
   ·simp only [gC,ws]
   ·rw [List.map_id']
    have e:=AI (us:=ts.filter fun t=>!isS (av ks) t) (eJ fun x hx=>(hw x (List.mem_filter.mp hx).1).1)
    have e2:decide ((ts.filter fun t=>!isS (av ks) t)=[])=ts.all (isS (av ks)):=by
     rw [Bool.eq_iff_iff,decide_eq_true_eq,List.filter_eq_nil_iff,List.all_eq_true]
     simp
    simp only [ws,e,e2]
 | _=>simp only [bG,cz,ws,fR]
theorem Fi (a b c d:Bool):eqD (.tuple [.bool a,.bool b]) (.tuple [.bool c,.bool d])=some (.bool (a == c && b == d)):=by
 cases a <;> cases b <;> cases c <;> cases d <;> rfl
theorem fW (T:TT ks) {s p:D} (hs:FtS s) (hp:FtL p):W (bp [tD ks,s,p]) (fun r=>r=(.bool true,[none,none,none])):=by
 simp only [bp,gW,ws]
 refine W.use (jj T hs) ?_
 rintro _ rfl
 simp only [ws]
 refine W.use (gt T hp) ?_
 rintro _ rfl
 simp only [ws]
 refine W.use (mY T hs) ?_
 rintro _ rfl
 simp only [ws]
 refine W.use (sA T hp) ?_
 rintro _ rfl
 have e:=Fi (isS (av ks) s) (fR (av ks) p) (isS (av ks) s) (fR (av ks) p)
 simp only [ws,e,beq_self_eq_true,Bool.and_self]
end
end W43
namespace W43
open PySem L2 Tg
theorem iy:∀ ns:List Int,dA (ns.map PyData.int)=some ns
 | []=>rfl
 | n :: ns=>by
  show (dA (ns.map PyData.int)).map (n :: ·)=_
  rw [iy ns]
  rfl
theorem rZ (ns:List Int):la [.list (ns.map .int)]=some (.int ns.sum):=by
 show (dA _).map _=_
 rw [iy]
 rfl
theorem sy {ns:List Int} (h:ns≠[]):mE [.list (ns.map .int)]=some (.int (cn ns)):=by
 show (dA _).bind _=_
 rw [iy]
 show grd _ _=_
 unfold grd
 rw [if_pos h]
theorem bnd {a:Int} (h:1≤a∧a≤6):(if a=0 then 0 else a.natAbs.log2+1)≤4:=by
 have:a=1∨a=2∨a=3∨a=4∨a=5∨a=6:=by omega
 rcases this with rfl | rfl | rfl | rfl | rfl | rfl <;> decide
theorem qL {ns:List Int} (hl:ns.length≤4) (h:∀ n∈ns,1≤n∧n≤6):(PyData.list (ns.map PyData.int)).layable0=true:=by
 match ns,hl,h with
 | [],_,_=>decide
 | [a],_,h =>
  have ha:=bnd (h a (by simp))
  simp [PyData.layable0,PyData.canLay0,PyData.weight,PyData.depth,PyData.canLayAll0,PyData.weightAll,PyData.depthAll]
  omega
 | [a,b],_,h =>
  have ha:=bnd (h a (by simp))
  have hb:=bnd (h b (by simp))
  simp [PyData.layable0,PyData.canLay0,PyData.weight,PyData.depth,PyData.canLayAll0,PyData.weightAll,PyData.depthAll]
  omega
 | [a,b,c],_,h =>
  have ha:=bnd (h a (by simp))
  have hb:=bnd (h b (by simp))
  have hc:=bnd (h c (by simp))
  simp [PyData.layable0,PyData.canLay0,PyData.weight,PyData.depth,PyData.canLayAll0,PyData.weightAll,PyData.depthAll]
  omega
 | [a,b,c,d],_,h =>
  have ha:=bnd (h a (by simp))
  have hb:=bnd (h b (by simp))
  have hc:=bnd (h c (by simp))
  have hd:=bnd (h d (by simp))
  simp [PyData.layable0,PyData.canLay0,PyData.weight,PyData.depth,PyData.canLayAll0,PyData.weightAll,PyData.depthAll]
  omega
theorem pM {ns:List Int} {m:Int} (hl:ns.length≤4) (h:∀ n∈ns,1≤n∧n≤6) (hm:m∈ns):fS (.list (ns.map .int)) (.int m)=some (.int (ns.idxOf m:Nat)):=by
 show (dA _).bind _=_
 rw [iy]
 show grd _ _=_
 unfold grd
 rw [if_pos ⟨qL hl h,hm⟩]
structure Sz (ns:List Int):Prop where
 l1:1≤ns.length
 l4:ns.length≤4
 b:∀ n∈ns,1≤n∧n≤6
theorem qu:∀ (ns:List Int) (k:Int),(∀ n∈ns,n≤k)→ns.sum≤k * ns.length
 | [],k,_=>by simp
 | a :: r,k,h=>by
  have h1:=h a List.mem_cons_self
  have h2:=qu r k fun n hn=>h n (List.mem_cons_of_mem _ hn)
  rw [List.sum_cons,List.length_cons]
  have e:k * ((r.length+1:Nat):Int)=k * (r.length:Int)+k:=by rw [Int.natCast_add,Int.mul_add]; simp
  omega
theorem ko:∀ (ns:List Int),(∀ n∈ns,1≤n)→(ns.length:Int)≤ns.sum
 | [],_=>by simp
 | a :: r,h=>by
  have h1:=h a List.mem_cons_self
  have h2:=ko r fun n hn=>h n (List.mem_cons_of_mem _ hn)
  rw [List.sum_cons,List.length_cons]
  omega
theorem n8:∀ (ns:List Int) (i:Nat) (x y:Int),ns[i]?=some x→(ns.set i y).sum=ns.sum - x+y
 | [],i,x,y,h=>by simp at h
 | a :: r,0,x,y,h=>by
  simp at h
  subst h
  simp
  omega
 | a :: r,i+1,x,y,h=>by
  rw [List.getElem?_cons_succ] at h
  rw [List.set_cons_succ,List.sum_cons,List.sum_cons,n8 r i x y h]
  omega
theorem zY {ns:List Int} {m:Int} (h:m∈ns):ns.idxOf m < ns.length∧ns[ns.idxOf m]?=some m:=by
 have:=List.idxOf_lt_length_of_mem h
 exact ⟨this,by rw [List.getElem?_eq_getElem this,List.getElem_idxOf]⟩
theorem sC {ns:List Int} {a b c d:Option D} {rest:En} (hS:Sz ns) {Q:Fl→Prop} (h:∀ ms,Sz ms→ms.sum≤12→Q (.nx (a :: b :: c :: d :: some (.list (ms.map .int)) :: rest))) :
  W (b9 cr dk (a :: b :: c :: d :: some (.list (ns.map .int)) :: rest)) Q:=by
 refine AT (fun n en=>∃ ms,en=a :: b :: c :: d :: some (.list (ms.map .int)) :: rest∧Sz ms∧ms.sum=(n:Int)) (fun n en ⟨ms,e,S,hn⟩=>?_) (n:=ns.sum.toNat) ⟨ns,rfl,hS,by have:=ko ns fun n hn=>(hS.b n hn).1; omega⟩
 subst e
 have e1:=rZ ms
 by_cases h12:(12:Int) < ms.sum
 ·simp only [ws,cr,e1,h12]
  have hne:ms≠[]:=fun z=>by have:=S.l1; rw [z] at this; simp at this
  have e2:=sy hne
  have hm:=kb hne
  have e3:=pM S.l4 S.b hm
  obtain ⟨i1,i2⟩:=zY hm
  have hm3:4≤cn ms:=by
   refine Classical.byContradiction fun z=>?_
   have:=qu ms 3 fun n hn=>by have:=ls hn; omega
   have:=S.l4
   omega
  simp only [ws,dk,e2,e3]
  have e4:fQ (List.map PyData.int ms) ((ms.idxOf (cn ms):Nat):Int) (PyData.int (cn ms - 1))=some ((ms.set (ms.idxOf (cn ms)) (cn ms - 1)).map .int):=by
   rw [dM _ (by rw [List.length_map]; exact i1),List.map_set]
  simp only [ws,e4]
  have hs:=n8 ms _ _ (cn ms - 1) i2
  refine ⟨n - 1,by omega,ms.set (ms.idxOf (cn ms)) (cn ms - 1),rfl,⟨by rw [List.length_set]; exact S.l1,by rw [List.length_set]; exact S.l4,fun x hx=>?_⟩,by omega⟩
  rcases List.mem_or_eq_of_mem_set hx with hx | rfl
  ·exact S.b x hx
  ·have:=(S.b _ hm).2
   omega
 ·simp only [ws,cr,e1,h12]
  exact h ms S (by omega)
theorem oz (a b:Str):(a++b).length=a.length+b.length:=by
 show (a.cps++b.cps).size=_
 rw [Array.size_append]
 rfl
theorem jh (a b:Str):li (a++b)=li a++li b:=Array.toList_append
theorem rE (xs:List Nat) (n:Nat):cI xs (some (n:Int)) none=xs.drop n:=by
 unfold cI
 rw [HT.sIx_none,HT.sIx_nat]
 rcases Nat.le_total n xs.length with h | h
 ·rw [Nat.min_eq_left h,List.take_of_length_le (by rw [List.length_drop]; omega)]
 ·rw [Nat.min_eq_right h,List.drop_of_length_le (Nat.le_refl _),List.drop_of_length_le h]
  simp
theorem jx {z:Str} {k:Nat} (h:k < (li z).length):atI (li z) (k:Int)=some (li z)[k]:=by
 rw [a9,List.getElem?_eq_getElem h]
theorem tL {m n:Nat} {p:D} {z y:Str} {b d e f g h8 h9:Option D} (hp:Pn n p) (hn:n+m≤1000000) (hz:m+1≤(li z).length) (hz2:(li z).length≤1000) (hy:(li y).length+m≤1000) {Q:Fl→Prop}
  (h:∀ p' z' y' o8 o9,Pn (n+m) p'→(li z').length+m=(li z).length→(li y').length=(li y).length+m→Q (.nx [some p',b,some (.str z'),d,e,f,g,some (.str y'),o8,o9])) :
  W (b6 (gN 8) eQ (il 0 m) [some p,b,some (.str z),d,e,f,g,some (.str y),h8,h9]) Q:=by
 have ll:∀ z:Str,(li z).length=z.length:=fun z=>Array.length_toList
 refine eV (fun i en=>∃ p' z' y' o8 o9,en=[some p',b,some (.str z'),d,e,f,g,some (.str y'),o8,o9]∧Pn (n+i) p'∧(li z').length+i=(li z).length∧(li y').length=(li y).length+i) ⟨p,z,y,h8,h9,rfl,hp,rfl,rfl⟩ (fun i t en ht ⟨p',z',y',o8,o9,e1,q1,q2,q3⟩=>?_) fun en ⟨p',z',y',o8,o9,e1,q1,q2,q3⟩=>?_
 ·obtain ⟨hi,rfl⟩:=c9 ht
  subst e1
  simp only [ws,eQ]
  have l1:=ll z'
  have l2:=ll y'
  refine ⟨sz (by omega),bg q1 (by omega) (by omega) (by omega) fun r p2 r0 r1 hp2=>?_⟩
  obtain ⟨k,rfl⟩:=Int.eq_ofNat_of_zero_le r0
  have hk:k < (li z').length:=by omega
  have ek:=jx hk
  simp only [ws,ek]
  have c1:cI z'.cps.toList none (some (k:Int))=(li z').take k:=lX _ _
  have c2:cI z'.cps.toList (some ((k:Int)+1)) none=(li z').drop (k+1):=rE _ (k+1)
  rw [c1,c2]
  have t1:((⟨((li z').take k).toArray⟩:Str)).length=k:=by rw [show (⟨((li z').take k).toArray⟩:Str)=ofL ((li z').take k) from rfl,lu,List.length_take]; omega
  have t2:((⟨((li z').drop (k+1)).toArray⟩:Str)).length=(li z').length - (k+1):=by rw [show (⟨((li z').drop (k+1)).toArray⟩:Str)=ofL ((li z').drop (k+1)) from rfl,lu,List.length_drop]
  have t3:(mk1 (li z')[k]).length=1:=rfl
  refine ⟨sz (by omega),sz (by omega),sz (by omega),sz (by omega),sz (by omega),p2,_,_,_,_,rfl,hp2,?_,?_⟩
  ·rw [ll,oz]
   omega
  ·rw [ll,oz]
   omega
 ·rw [cB] at q1 q2 q3
  subst e1
  exact h p' z' y' o8 o9 q1 q2 q3
theorem sG {n:Nat} {ns:List Int} {p:D} {z:Str} {b d e:Option D} (hp:Pn n p) (hn:n≤1000) (hS:Sz ns) (h12:ns.sum≤12) (hz:(li z).length=93) {Q:Fl→Prop}
  (h:∀ p' ks o2 o6 o7 o8 o9,Pn (n+12) p'→TT ks→Q (.nx [some p',b,o2,d,e,some (.list (ks.map .str)),o6,o7,o8,o9])) :
  W (b6 (gN 6) di (ns.map .int) [some p,b,some (.str z),d,e,some (.list []),none,none,none,none]) Q:=by
 refine eV (fun i en=>∃ p' z' ks o6 o7 o8 o9,en=[some p',b,some (.str z'),d,e,some (.list (ks.map .str)),o6,o7,o8,o9]∧ks.length=i∧Pn (n+(av ks).length) p'∧(li z').length+(av ks).length=93∧((av ks).length:Int)=(ns.take i).sum) ⟨p,z,[],none,none,none,none,rfl,rfl,hp,by rw [hz]; rfl,by simp [av]⟩ (fun i t en ht ⟨p',z',ks,o6,o7,o8,o9,e1,q1,q2,q3,q4⟩=>?_) fun en ⟨p',z',ks,o6,o7,o8,o9,e1,q1,q2,q3,q4⟩=>?_
 ·rw [List.getElem?_map] at ht
  obtain ⟨m,hm,rfl⟩:=Option.map_eq_some_iff.mp ht
  have hb:=hS.b m (List.mem_of_getElem? hm)
  obtain ⟨k,rfl⟩:=Int.eq_ofNat_of_zero_le (by omega:0≤m)
  have hi:=(List.getElem?_eq_some_iff.mp hm).1
  have tk:(ns.take (i+1)).sum=(ns.take i).sum+(k:Int):=by
   rw [qr hm,List.sum_append]
   simp
  have tot:(ns.take (i+1)).sum≤12:=by
   have e1:ns.sum=(ns.take (i+1)).sum+(ns.drop (i+1)).sum:=by rw [← List.sum_append,List.take_append_drop]
   have e2:=ko (ns.drop (i+1)) fun x hx=>(hS.b x (List.mem_of_mem_drop hx)).1
   omega
  subst e1
  have hl4:=hS.l4
  simp only [ws,di,Int.toNat_natCast]
  refine ⟨by omega,tL (m:=k) q2 (by omega) (by omega) (by omega) (by show 0+k≤1000; omega) fun p2 z2 y2 o8 o9 r1 r2 r3=>?_⟩
  have r3':(li y2).length=k:=by rw [r3]; show 0+k=k; omega
  simp only [ws]
  have al:(av (ks++[y2])).length=(av ks).length+k:=by
   rw [rL,List.length_append,r3']
  refine ⟨szl (by omega),p2,z2,ks++[y2],_,_,_,_,by rw [List.map_append]; rfl,by rw [List.length_append,q1]; rfl,by rw [al]; exact r1.mono (by omega),by rw [al]; omega,?_⟩
  rw [al,tk]
  omega
 ·subst e1
  rw [List.length_map] at q1 q4
  rw [List.take_length] at q4
  have g1:=ko ns fun x hx=>(hS.b x hx).1
  have g2:=hS.l1
  refine h p' ks _ _ _ _ _ (q2.mono (by omega)) ⟨by rw [q1]; exact hS.l4,by omega,by omega⟩
def evs:Str:="!\"#$&'()*+,-./0123456789:;<=>?@ABCDEFGHIJKLMNOPQRSTUVWXYZ[\\]^_`abcdefghijklmnopqrstuvwxyz{|}~"
theorem AF:(li evs).length=93:=by decide +kernel
theorem r9 {n m:Nat} {p:D} (hp:Pn n p) (hn:n≤1000) (hm:m≤4) {Q:List D × En→Prop} (h:∀ (ns:List Int) p' o,ns.length=m→(∀ x∈ns,1≤x∧x≤6)→Pn (n+4) p'→Q (ns.map .int,[o,some p',some (.int 6)])) :
  W (lcF (gN 0) cY eR (il 0 m) [] [none,some p,some (.int 6)]) Q:=by
 refine p9 (fun i us en=>∃ (ns:List Int) (p':D) (o:Option D),us=ns.map .int∧en=[o,some p',some (.int 6)]∧ns.length=i∧(∀ x∈ns,1≤x∧x≤6)∧Pn (n+i) p') (by rw [cB]; exact sz (by omega)) ⟨[],p,none,rfl,rfl,rfl,by simp,hp⟩ (fun i t us en ht hu ⟨ns,p',o,e1,e2,h1,h2,h3⟩=>?_) fun us en _ ⟨ns,p',o,e1,e2,h1,h2,h3⟩=>?_
 ·obtain ⟨hi,rfl⟩:=c9 ht
  subst e1 e2
  simp only [ws,eR]
  refine bg h3 (by omega) (by decide) (by decide) fun r p2 r0 r1 hp2=>?_
  simp only [ws]
  refine ⟨ns++[1+r],p2,_,by rw [List.map_append]; rfl,rfl,by rw [List.length_append,h1]; rfl,fun x hx=>?_,hp2⟩
  rcases List.mem_append.mp hx with hx | hx
  ·exact h2 x hx
  ·rw [List.mem_singleton.mp hx]
   omega
 ·subst e1 e2
  rw [cB] at h1 h3
  exact h ns p' o h1 h2 (h3.mono (by omega))
theorem gX {ns:List Int} {p:D} {x3:Option D} (hS:Sz ns) (hp:Pn 8 p) {Q:D × En→Prop} (h:∀ ks p',TT ks→Pn 30 p'→Q (tD ks,[some p',none])) :
  W (b9 cr dk [some p,some (.int 6),some (.str evs),x3,some (.list (ns.map .int)),none,none,none,none,none])
   (lw (au (aF 5 (bh ah)) (au (ck (b4 (af 4)) (gN 6) di) (aL (eN gE (ad (af 5) ah))))) (kFn [1,0] Q)):=by
 refine sC hS fun ms hS2 h12=>?_
 simp only [ws]
 refine sG hp (by decide) hS2 h12 AF fun p' ks o2 o6 o7 o8 o9 hp' hT=>?_
 simp only [ws]
 exact h ks p' hT (hp'.mono (by decide))
theorem qp {p:D} (hp:Pn 0 p):W (cu [p,.int 6]) (fun r=>∃ ks p',r=(tD ks,[some p',none])∧TT ks∧Pn 30 p'):=by
 have hQ:∀ ks p',TT ks→Pn 30 p'→(fun r:D × En=>∃ ks p',r=(tD ks,[some p',none])∧TT ks∧Pn 30 p') (tD ks,[some p',none]):=fun ks p' h1 h2=>⟨ks,p',rfl,h1,h2⟩
 revert hQ
 generalize (fun r:D × En=>∃ ks p',r=(tD ks,[some p',none])∧TT ks∧Pn 30 p')=Q
 intro hQ
 simp only [cu,gi,ws]
 refine bg hp (by decide) (by decide) (by decide) fun r p1 r0 r1 hp1=>?_
 obtain ⟨k,rfl⟩:=Int.eq_ofNat_of_zero_le r0
 have ek:((1:Int)+(k:Int)).toNat=k+1:=by omega
 simp only [ws,ek]
 refine ⟨by omega,r9 (m:=k+1) hp1 (by decide) (by omega) fun ns p2 o hl hb hp2=>?_⟩
 simp only [ws]
 refine bg hp2 (by decide) (by decide) (by decide) fun r p3 r0 r1 hp3=>?_
 by_cases hr:r=0
 ·simp only [ws,hr]
  refine bg hp3 (by decide) (by decide) (by decide) fun r p4 r0 r1 hp4=>?_
  have:r=0∨r=1∨r=2∨r=3:=by omega
  rcases this with rfl | rfl | rfl | rfl <;> simp only [ws]
  ·exact gX (ns:=[6,6]) ⟨by decide,by decide,by decide⟩ (hp4.mono (by decide)) hQ
  ·exact gX (ns:=[4,4,4]) ⟨by decide,by decide,by decide⟩ (hp4.mono (by decide)) hQ
  ·exact gX (ns:=[3,3,3,3]) ⟨by decide,by decide,by decide⟩ (hp4.mono (by decide)) hQ
  ·exact gX (ns:=[6,1,5]) ⟨by decide,by decide,by decide⟩ (hp4.mono (by decide)) hQ
 ·simp only [ws,hr]
  exact gX ⟨by omega,by omega,hb⟩ (hp3.mono (by decide)) hQ
end W43
namespace W43
open PySem L2 Tg
section
variable {ks:List Str}
structure GW (ks:List Str) (m:Nat) (z:Str):Prop where
 l1:1≤(li z).length
 lm:(li z).length≤m
 mem:∀ c∈li z,c∈av ks
theorem ll (z:Str):(li z).length=z.length:=Array.length_toList
theorem oe (ks:List Str):(sgs ks).length=(av ks).length:=lu _
theorem ky (ks:List Str):li (sgs ks)=av ks:=rfl
theorem k9 (T:TT ks) {p:D} {n m:Nat} (hp:Pn n p) (hn:n≤100000) (hm:1≤m) (hm6:m≤6):W (bC [p,tD ks,.int (m:Nat)]) (fun r=>∃ z p',r=(.str z,[some p',none,none])∧GW ks m z∧Pn (n+10) p'):=by
 have t1:=T.l1
 have t12:=T.l12
 have sl:=oe ks
 simp only [bC,iV,ws,fL T]
 refine ⟨sz (by omega),bg hp (by omega) (by omega) (by omega) fun r p1 r0 r1 hp1=>?_⟩
 obtain ⟨k,rfl⟩:=Int.eq_ofNat_of_zero_le r0
 have hk:k < (li (sgs ks)).length:=by rw [ky]; omega
 have ek:=jx hk
 simp only [ws,ek]
 refine ⟨sz (by omega),bg hp1 (by omega) (by decide) (by decide) fun r p2 r0 r1 hp2=>?_⟩
 simp only [ws]
 refine bg hp2 (by omega) (by omega) (by omega) fun q p3 q0 q1 hp3=>?_
 obtain ⟨j,rfl⟩:=Int.eq_ofNat_of_zero_le q0
 simp only [ws,Int.toNat_natCast]
 refine ⟨by omega,?_⟩
 have c0:(li (sgs ks))[k]∈av ks:=by rw [← ky ks]; exact List.getElem_mem hk
 refine eV (fun i en=>∃ p' z o6 o7,en=[some p',some (tD ks),some (.int (m:Nat)),some (.str (sgs ks)),some (.str z),some (.bool (decide (r=0))),o6,o7]∧Pn (n+3+i) p'∧(li z).length=i+1∧∀ c∈li z,c∈av ks) ⟨p3,mk1 (li (sgs ks))[k],none,none,rfl,hp3,rfl,fun c hc=>by rw [List.mem_singleton.mp (show c∈[(li (sgs ks))[k]] from hc)]; exact c0⟩ (fun i t en ht ⟨p',z,o6,o7,e,h1,h2,h3⟩=>?_) fun en ⟨p',z,o6,o7,e,h1,h2,h3⟩=>?_
 ·obtain ⟨hi,rfl⟩:=c9 ht
  subst e
  simp only [ws,jC]
  refine ⟨sz (by omega),bg h1 (by omega) (by omega) (by omega) fun r2 p4 r20 r21 hp4=>?_⟩
  obtain ⟨k2,rfl⟩:=Int.eq_ofNat_of_zero_le r20
  have hk2:k2 < (li (sgs ks)).length:=by rw [ky]; omega
  have ek2:=jx hk2
  have lz:=ll z
  have c2:(li (sgs ks))[k2]∈av ks:=by rw [← ky ks]; exact List.getElem_mem hk2
  have z0:0 < (li z).length:=by omega
  have ez:=jx (z:=z) (k:=0) z0
  have fin:∀ c,c∈av ks→∀ o6 o7,∃ p' z' o6' o7',[some p4,some (tD ks),some (PyData.int (m:Nat)),some (PyData.str (sgs ks)),some (PyData.str (z++mk1 c)),some (PyData.bool (decide (r=0))),o6,o7]=[some p',some (tD ks),some (PyData.int (m:Nat)),some (PyData.str (sgs ks)),some (PyData.str z'),some (PyData.bool (decide (r=0))),o6',o7']∧Pn (n+3+(i+1)) p'∧(li z').length=i+1+1∧∀ c∈li z',c∈av ks:=fun c hc o6 o7=>by
   refine ⟨p4,z++mk1 c,o6,o7,rfl,hp4,?_,fun c' hc'=>?_⟩
   ·rw [jh,List.length_append,h2]
    rfl
   ·rw [jh] at hc'
    rcases List.mem_append.mp hc' with q | q
    ·exact h3 c' q
    ·rw [List.mem_singleton.mp (show c'∈[c] from q)]
     exact hc
  have lm:∀ c,(mk1 c).length=1:=fun _=>rfl
  simp only [ws,ek2]
  refine ⟨sz (by omega),?_⟩
  by_cases hr:r=0
  ·have q:decide (r=0)=true:=decide_eq_true hr
   simp only [q] at fin
   have ez':atI (li z) 0=some (li z)[0]:=ez
   simp only [ws,q,ez']
   exact ⟨sz (by omega),sz (by rw [lm]; omega),fin _ (h3 _ (List.getElem_mem z0)) _ _⟩
  ·have q:decide (r=0)=false:=decide_eq_false hr
   simp only [q] at fin
   simp only [ws,q]
   exact ⟨sz (by rw [lm]; omega),fin _ c2 _ _⟩
 ·subst e
  rw [cB] at h1 h2
  simp only [ws]
  exact ⟨z,p',rfl,⟨by omega,by omega,h3⟩,h1.mono (by omega)⟩
theorem oO (z:Str):∀ ys:List Str,((ys.map PyData.str).any fun t=>peq t (.str z))=decide (z∈ys)
 | []=>by simp
 | y :: ys=>by
  rw [List.map_cons,List.any_cons,oO z ys,oi]
  by_cases h:y=z
  ·simp [h]
  ·have h':¬ z=y:=fun e=>h e.symm
   simp [h,h']
theorem pk (z:Str) (ys:List Str):mV (.str z) (.list (ys.map .str))=some (.bool (!decide (z∈ys))):=by
 show grd _ _=_
 unfold grd
 rw [if_pos ⟨rfl,hU ys,by rw [eZ]; decide⟩,oO]
theorem Ak {ys:List Str} {z:Str} (h:fr ys=true) (hz:∀ y∈ys,¬ li y <+: li z∧¬ li z <+: li y):fr (ys++[z])=true:=by
 unfold fr at h ⊢
 rw [decide_eq_true_eq] at h ⊢
 rw [List.pairwise_append]
 refine ⟨h,List.pairwise_singleton _ _,fun a ha b hb=>?_⟩
 rw [List.mem_singleton.mp hb]
 exact hz a ha
def Ex (b:Bool) (ys:List Str):Prop:=b=false→fr ys=true
structure GP (ks:List Str) (free:Bool) (ys:List Str):Prop where
 l12:ys.length≤12
 w:∀ y∈ys,GW ks 6 y
 nd:ys.Nodup
 fre:free=false→fr ys=true
theorem zP (T:TT ks) {p:D} {n m s:Nat} {b:Bool} (hp:Pn n p) (hn:n≤50000) (hm:m≤12) (hs:1≤s) (hs6:s≤6):W (dq [p,tD ks,.int (m:Nat),.int (s:Nat),.bool b]) (fun r=>∃ ys p',r=(.tuple (ys.map .str),[some p',none,none,none,none])∧GP ks b ys∧Pn (n+120) p'):=by
 simp only [dq,iX,ws,Int.toNat_natCast]
 refine ⟨by omega,?_⟩
 refine eV (fun i en=>∃ p' ys o6 o7 o8,en=[some p',some (tD ks),some (.int (m:Nat)),some (.int (s:Nat)),some (.bool b),some (.list (ys.map .str)),o6,o7,o8]∧Pn (n+10 * i) p'∧ys.length≤i∧(∀ y∈ys,GW ks 6 y)∧ys.Nodup∧Ex b ys) ⟨p,[],none,none,none,rfl,hp,Nat.le_refl _,by simp,List.nodup_nil,fun _=>rfl⟩ (fun i t en ht ⟨p',ys,o6,o7,o8,e,h1,h2,h3,h4,h5⟩=>?_) fun en ⟨p',ys,o6,o7,o8,e,h1,h2,h3,h4,h5⟩=>?_
 ·obtain ⟨hi,rfl⟩:=c9 ht
  subst e
  simp only [ws,jE]
  refine W.use (k9 T h1 (by omega) hs hs6) ?_
  rintro _ ⟨z,p2,rfl,gz,hp2⟩
  have g6:GW ks 6 z:=⟨gz.l1,Nat.le_trans gz.lm hs6,gz.mem⟩
  have en1:=pk z ys
  have fin:∀ o6 o8 (ok:Bool),(ok=true→z ∉ ys∧(b=false→∀ y∈ys,¬ li y <+: li z∧¬ li z <+: li y))→(kIf (ik (gK 5 (af 7))) bc (kIt (fun en=>∃ p' ys o6 o7 o8,en=[some p',some (tD ks),some (.int (m:Nat)),some (.int (s:Nat)),some (.bool b),some (.list (ys.map .str)),o6,o7,o8]∧Pn (n+10 * (i+1)) p'∧ys.length≤i+1∧(∀ y∈ys,GW ks 6 y)∧ys.Nodup∧Ex b ys) (lw (aL (eN gE (ad (af 5) ah))) (kFn [1,0,0,0,0] fun r=>∃ ys p',r=(.tuple (ys.map .str),[some p',none,none,none,none])∧GP ks b ys∧Pn (n+120) p')))) (ok,[some p2,some (tD ks),some (.int (m:Nat)),some (.int (s:Nat)),some (.bool b),some (.list (ys.map .str)),o6,some (.str z),o8]):=fun o6 o8 ok hok=>by
   cases ok with
   | true =>
    obtain ⟨k1,k2⟩:=hok rfl
    simp only [ws]
    refine ⟨szl (by omega),p2,ys++[z],_,_,_,by rw [List.map_append]; rfl,hp2.mono (by omega),by rw [List.length_append]; show _+1≤_; omega,fun y hy=>?_,?_,fun hb=>Ak (h5 hb) (k2 hb)⟩
    ·rcases List.mem_append.mp hy with q | q
     ·exact h3 y q
     ·rw [List.mem_singleton.mp q]; exact g6
    ·rw [List.nodup_append]
     refine ⟨h4,by simp,fun a ha c hc e=>?_⟩
     rw [List.mem_singleton.mp hc] at e
     exact k1 (e ▸ ha)
   | false =>
    simp only [ws]
    exact ⟨p2,ys,_,_,_,rfl,hp2.mono (by omega),by omega,h3,h4,h5⟩
  simp only [ws,en1]
  cases b with
  | true =>
   simp only [ws]
   refine fin _ _ _ fun h=>⟨?_,fun q=>by cases q⟩
   simpa using h
  | false =>
   simp only [ws]
   refine e7 (fun t=>decide (li z <+: li (txt t)) || decide (li (txt t) <+: li z)) (fun t=>t) (by rw [List.length_map]; exact sz (by omega)) (fun t ht=>?_) (fun t ht _=>?_) fun o'=>?_
   ·obtain ⟨w,hw,rfl⟩:=List.mem_map.mp ht
    have s1':Txt.startswith w z=decide (li z <+: li w):=by rw [Bool.eq_iff_iff,ij,decide_eq_true_eq]
    have s2':Txt.startswith z w=decide (li w <+: li z):=by rw [Bool.eq_iff_iff,ij,decide_eq_true_eq]
    simp only [jz,ws,s1',s2',txt]
    by_cases hq:li z <+: li w
    ·simp only [ws,hq,Bool.true_or]
    ·simp only [ws,hq,s2',Bool.false_or]
     rfl
   ·simp only [jF,ws]
   ·have e3:List.map (fun t=>t) (List.filter (fun t=>decide (li z <+: li (txt t)) || decide (li (txt t) <+: li z)) (ys.map PyData.str))=(ys.filter fun w=>decide (li z <+: li w) || decide (li w <+: li z)).map .str:=by
     rw [List.map_id',List.filter_map]
     rfl
    rw [e3]
    have e4:=oJ (ys.filter fun w=>decide (li z <+: li w) || decide (li w <+: li z)) []
    simp only [List.map_nil] at e4
    simp only [ws,e4]
    refine fin _ _ _ fun h=>?_
    have h':=of_decide_eq_true h
    rw [List.filter_eq_nil_iff] at h'
    refine ⟨fun hz=>h' z hz ?_,fun _ y hy=>?_⟩
    ·rw [decide_eq_true (List.prefix_refl _)]; rfl
    ·have:=h' y hy
     rw [Bool.or_eq_true,decide_eq_true_eq,decide_eq_true_eq,not_or] at this
     exact ⟨this.2,this.1⟩
 ·subst e
  rw [cB] at h1 h2
  simp only [ws]
  exact ⟨ys,p',rfl,⟨by omega,h3,h4,h5⟩,h1.mono (by omega)⟩
end
end W43
namespace W43
open PySem L2 Tg
section
variable {ks:List Str}
def pD (ys:List Str):D:=.tuple (ys.map .str)
def sD (ps:List (List Str)):D:=.tuple (ps.map pD)
structure GS (ks:List Str) (ps:List (List Str)):Prop where
 l1:1≤ps.length
 l5:ps.length≤5
 w:∀ ys∈ps,GP ks true ys
 fre:∀ ys∈ps.dropLast,fr ys=true
theorem GP.tru {b:Bool} {ys:List Str} (h:GP ks b ys):GP ks true ys:=⟨h.l12,h.w,h.nd,fun z=>by cases z⟩
theorem zy (T:TT ks) {p:D} {n m s:Nat} (hp:Pn n p) (hn:n≤40000) (hm:m≤12) (hs:1≤s) (hs6:s≤6):W (dm [p,tD ks,.int 5,.int (m:Nat),.int (s:Nat)]) (fun r=>∃ ps p',r=(sD ps,[some p',none,none,none,none])∧GS ks ps∧Pn (n+1000) p'):=by
 simp only [dm,iW,ws]
 refine bg hp (by omega) (by decide) (by decide) fun r p1 r0 r1 hp1=>?_
 obtain ⟨k,rfl⟩:=Int.eq_ofNat_of_zero_le r0
 have ek:((1:Int)+(k:Int)).toNat=k+1:=by omega
 simp only [ws,ek]
 refine ⟨by omega,?_⟩
 refine eV (fun i en=>∃ p' ps o7 o8,en=[some p',some (tD ks),some (.int 5),some (.int (m:Nat)),some (.int (s:Nat)),some (.int (1+(k:Int))),some (.list (ps.map pD)),o7,o8]∧Pn (n+1+150 * i) p'∧ps.length=i∧(∀ ys∈ps,GP ks true ys)∧∀ j ys,ps[j]?=some ys→j≠k→fr ys=true) ⟨p1,[],none,none,rfl,hp1,rfl,by simp,by simp⟩ (fun i t en ht ⟨p',ps,o7,o8,e,h1,h2,h3,h4⟩=>?_) fun en ⟨p',ps,o7,o8,e,h1,h2,h3,h4⟩=>?_
 ·obtain ⟨hi,rfl⟩:=c9 ht
  subst e
  simp only [ws,jD]
  refine bg h1 (by omega) (by omega) (by omega) fun r2 p2 r20 r21 hp2=>?_
  obtain ⟨q,rfl⟩:=Int.eq_ofNat_of_zero_le r20
  simp only [ws]
  refine bg hp2 (by omega) (by omega) (by omega) fun r3 p3 r30 r31 hp3=>?_
  obtain ⟨q3,rfl⟩:=Int.eq_ofNat_of_zero_le r30
  simp only [ws]
  have e1:(1:Int)+(q:Int)=((q+1:Nat):Int):=by omega
  rw [e1]
  refine W.use (zP T hp3 (by omega) (by omega) (by omega) (by omega)) ?_
  rintro _ ⟨ys,p4,rfl,gp,hp4⟩
  simp only [ws]
  refine ⟨szl (by omega),p4,ps++[ys],_,_,by rw [List.map_append]; rfl,hp4.mono (by omega),by rw [List.length_append,h2]; rfl,fun y hy=>?_,fun j y hj hjk=>?_⟩
  ·rcases List.mem_append.mp hy with q | q
   ·exact h3 y q
   ·rw [List.mem_singleton.mp q]; exact gp.tru
  ·rcases Nat.lt_or_ge j i with q | q
   ·rw [List.getElem?_append_left (by omega)] at hj
    exact h4 j y hj hjk
   ·have hl:=(List.getElem?_eq_some_iff.mp hj).1
    rw [List.length_append] at hl
    have:j=i:=by simp at hl; omega
    subst this
    rw [List.getElem?_append_right (by omega),h2,Nat.sub_self] at hj
    cases hj
    refine gp.fre (decide_eq_false ?_)
    omega
 ·subst e
  rw [cB] at h1 h2
  simp only [ws]
  refine ⟨ps,p',rfl,⟨by omega,by omega,h3,fun ys hy=>?_⟩,h1.mono (by omega)⟩
  obtain ⟨j,hj,rfl⟩:=List.mem_iff_getElem.mp hy
  rw [List.length_dropLast] at hj
  rw [List.getElem_dropLast]
  exact h4 j _ (List.getElem?_eq_getElem (by omega)) (by omega)
theorem bI {z:Str} (h:(li z).length≤1000):FtW (.str z):=⟨rfl,by simp [aI],fun z' e=>by cases e; rw [← ll]; exact h⟩
theorem dR {ts:List D} (hl:ts.length≤1000) (h:∀ x∈ts,FtW x):FtP (.tuple ts):=⟨by
 have:=eJ (n:=5) fun x hx=>(h x hx).2.1
 simp only [aI]
 omega,fun us e=>by cases e; exact ⟨hl,h⟩⟩
theorem bJ {ts:List D} (hl:ts.length≤1000) (h:∀ x∈ts,FtP x):FtS (.tuple ts):=⟨by
 have:=eJ (n:=6) fun x hx=>(h x hx).1
 simp only [aI]
 omega,fun us e=>by cases e; exact ⟨hl,h⟩⟩
theorem cC {ts:List D} (hl:ts.length≤1000) (h:∀ x∈ts,FtS x):FtL (.tuple ts):=fun us e=>by cases e; exact ⟨hl,h⟩
theorem GP.ft {b:Bool} {ys:List Str} (h:GP ks b ys):FtP (pD ys):=dR (by rw [List.length_map]; have:=h.l12; omega) fun x hx=>by
 obtain ⟨y,hy,rfl⟩:=List.mem_map.mp hx
 exact bI (by have:=(h.w y hy).lm; omega)
theorem GS.ft {ps:List (List Str)} (h:GS ks ps):FtS (sD ps):=bJ (by rw [List.length_map]; have:=h.l5; omega) fun x hx=>by
 obtain ⟨y,hy,rfl⟩:=List.mem_map.mp hx
 exact (h.w y hy).ft
theorem GW.is {z:Str} (h:GW ks 6 z):isW (av ks) (.str z)=true:=by
 rw [kE,decide_eq_true h.l1,decide_eq_true h.lm,Bool.true_and,Bool.true_and,List.all_eq_true]
 exact fun c hc=>decide_eq_true (h.mem c hc)
theorem n6 (ys:List Str):(ys.map PyData.str).map txt=ys:=by
 rw [List.map_map]
 exact List.map_id _
theorem GP.is {b:Bool} {ys:List Str} (h:GP ks b ys):isP (av ks) (pD ys)=true:=by
 unfold pD
 rw [jK,List.length_map,decide_eq_true h.l12,Bool.true_and,n6,decide_eq_true h.nd,Bool.and_true,List.all_eq_true]
 intro x hx
 obtain ⟨y,hy,rfl⟩:=List.mem_map.mp hx
 exact (h.w y hy).is
theorem GS.is {ps:List (List Str)} (h:GS ks ps):isS (av ks) (sD ps)=true:=by
 unfold sD
 rw [zn,List.length_map,decide_eq_true h.l1,decide_eq_true h.l5,Bool.true_and,Bool.true_and,Bool.and_eq_true,List.all_eq_true,List.all_eq_true]
 refine ⟨fun x hx=>?_,fun x hx=>?_⟩
 ·obtain ⟨y,hy,rfl⟩:=List.mem_map.mp hx
  exact (h.w y hy).is
 ·rw [← List.map_dropLast] at hx
  obtain ⟨y,hy,rfl⟩:=List.mem_map.mp hx
  show fr ((y.map PyData.str).map txt)=true
  rw [n6]
  exact h.fre y hy
end
end W43
namespace W43
open PySem L2 Tg
section
variable {ks:List Str}
theorem n9 {α:Type} [DecidableEq α]:∀ (l m:List α),l.Nodup→(∀ x∈l,x∈m)→l.length≤m.length
 | [],_,_,_=>Nat.zero_le _
 | x :: l,m,hn,h=>by
  obtain ⟨h1,h2⟩:=List.nodup_cons.mp hn
  have hx:=h x List.mem_cons_self
  have:=n9 l (m.erase x) h2 fun y hy=>by
   have hne:y≠x:=fun e=>h1 (e ▸ hy)
   exact (List.mem_erase_of_ne hne).mpr (h y (List.mem_cons_of_mem _ hy))
  rw [List.length_erase_of_mem hx] at this
  have hp:0 < m.length:=List.length_pos_of_mem hx
  rw [List.length_cons]
  omega
def odd:Str:="azb0c1d2e3f4!"
theorem Dh:(li odd).Nodup:=by decide +kernel
theorem on:(li odd).length=13:=by decide +kernel
theorem oN (T:TT ks) {Q:List D × En→Prop} {f:ME} (hf:∀ x y,W (f [some x,y]) fun r=>r=(x,[some x,y])) {c:MT} (hc:∀ z,W (c [some (.str z),some (tD ks)]) fun r=>r=(!bB (sgs ks) z,[some (.str z),some (tD ks)]))
  (h:∀ c us o,c∈li odd→c ∉ av ks→Q (.str (mk1 c) :: us,[o,some (tD ks)])):W (lcF (gN 0) c f (dE odd) [] [none,some (tD ks)]) Q:=by
 have e0:dE odd=(li odd).map s1:=rfl
 rw [e0]
 refine e7 (fun t=>!bB (sgs ks) (txt t)) (fun t=>t) (by rw [List.length_map,on]; exact sz (by decide)) (fun t ht=>?_) (fun t ht _=>?_) fun o'=>?_
 ·obtain ⟨c,hc',rfl⟩:=List.mem_map.mp ht
  exact hc (mk1 c)
 ·exact hf t _
 ·have e3:List.map (fun t=>t) (List.filter (fun t=>!bB (sgs ks) (txt t)) ((li odd).map s1))=((li odd).filter fun c=>!decide (c∈av ks)).map s1:=by
   rw [List.map_id',List.filter_map]
   congr 1
   refine List.filter_congr fun c _=>?_
   show (!bB (sgs ks) (mk1 c))=_
   rw [show bB (sgs ks) (mk1 c)=decide (c∈av ks) from StrLaws.found_one (sgs ks) c]
  rw [e3]
  cases hx:(li odd).filter fun c=>!decide (c∈av ks) with
  | nil =>
   rw [List.filter_eq_nil_iff] at hx
   have:=n9 (li odd) (av ks) Dh fun c hc=>by
    have:=hx c hc
    simpa using this
   rw [on] at this
   have:=T.l12
   omega
  | cons c r =>
   have hm:c∈(li odd).filter fun c=>!decide (c∈av ks):=by rw [hx]; exact List.mem_cons_self
   obtain ⟨m1,m2⟩:=List.mem_filter.mp hm
   exact h c _ o' m1 (by simpa using m2)
theorem AO {α:Type} {l:List α} {r:Int} (h0:0≤r) (h1:r < l.length):∃ x,atI l r=some x∧x∈l:=by
 obtain ⟨k,rfl⟩:=Int.eq_ofNat_of_zero_le h0
 have hk:k < l.length:=by omega
 exact ⟨l[k],by rw [a9,List.getElem?_eq_getElem hk],List.getElem_mem hk⟩
theorem qb {α:Type} {l:List α} {r:Int} {Q:α→Prop} (h0:0≤r) (h1:r < l.length) (h:∀ x∈l,Q x):W (atI l r) Q:=by
 obtain ⟨x,e,hx⟩:=AO h0 h1
 exact W.of e (h x hx)
def Eu (t:D):Prop:=∃ ts,t=.tuple ts∧ts.length≤2∧∀ x∈ts,FtW x
theorem bN {x:D} (h:FtW x):Eu (.tuple [x]):=⟨[x],rfl,by show 1≤2; decide,fun y hy=>by rw [List.mem_singleton.mp hy]; exact h⟩
theorem qI {z:Str} {n:Int} (hz:(li z).length≤1) (hn:n≤7):(li (Txt.mul z n)).length≤1000:=by
 rw [ll]
 have:=lq (L:=1) (N:=7) (n:=n) (by rw [← ll]; exact hz) hn
 omega
theorem jr (z:Str) (lo hi:Option Int):(li (⟨(cI z.cps.toList lo hi).toArray⟩:Str)).length≤(li z).length:=by
 show (cI (li z) lo hi).length≤_
 unfold cI
 rw [List.length_take,List.length_drop]
 omega
theorem qi (T:TT ks) {p:D} {n:Nat} {z:Str} (hp:Pn n p) (hn:n≤100000) (h1:1≤(li z).length) (h6:(li z).length≤6):W (cH [p,tD ks,.str z]) (fun r=>∃ t p',r=(t,[some p',none,none])∧Eu t∧Pn (n+1) p'):=by
 have z0:0 < (li z).length:=by omega
 have ez:atI (li z) 0=some (li z)[0]:=jx (z:=z) (k:=0) z0
 have lz:=ll z
 simp only [cH,gU,ws,ez]
 refine ⟨sz (by omega),?_⟩
 refine oN T (fun x y=>by simp only [i5,ws]) (fun y=>by simp only [iZ,ws,fL T]) fun c us o hc hn'=>?_
 simp only [ws]
 have lm:∀ c,(mk1 c).length=1:=fun _=>rfl
 have c1:=jr z none (some 1)
 have c2:=jr z none (some 2)
 have c3:=jr z none (some 3)
 have c5:=jr z none (some 5)
 have l5:((⟨(cI z.cps.toList none (some 5)).toArray⟩:Str)).length≤6:=by rw [← ll]; omega
 refine ⟨⟨by rw [lm]; decide,by decide,by decide⟩,sz (by rw [lm]; omega),sz (by omega),sz (by omega),sz (by rw [lm]; omega),⟨by rw [lm]; decide,by decide,by decide⟩,sz (by show _+1≤_; omega),sz (by omega),sz (by omega),sz (by show 9+6≤1000; decide),bg hp (by omega) (by show (0:Int) < 15; decide) (by show (15:Int) < 1073741824; decide) fun r p' r0 r1 hp'=>?_⟩
 simp only [ws]
 refine qb r0 r1 fun x hx=>?_
 simp only [ws]
 refine ⟨x,p',rfl,?_,hp'⟩
 have lk:(li (mk1 (li z)[0])).length=1:=rfl
 have lc:(li (mk1 c)).length=1:=rfl
 have ln:(li (Str.ofString "\n")).length=1:=by decide +kernel
 simp only [List.mem_cons,List.not_mem_nil,or_false] at hx
 rcases hx with rfl | rfl | rfl | rfl | rfl | rfl | rfl | rfl | rfl | rfl | rfl | rfl | rfl | rfl | rfl
 ·exact bN (bI (qI (by rw [lk]; decide) (by decide)))
 ·exact bN (bI (by decide +kernel))
 ·exact bN (bI (by omega))
 ·exact bN (bI (by omega))
 ·exact bN (bI (by rw [jh,List.length_append]; omega))
 ·exact bN (bI (by omega))
 ·exact bN ⟨rfl,by decide,fun _ e=>nomatch e⟩
 ·exact bN ⟨rfl,by simp [aI],fun _ e=>nomatch e⟩
 ·exact bN ⟨rfl,by simp [aI],fun _ e=>nomatch e⟩
 ·exact bN ⟨by simp [ao,aD],by simp [aI,a5],fun _ e=>nomatch e⟩
 ·exact bN ⟨by simp [ao,aD],by simp [aI,a5],fun _ e=>nomatch e⟩
 ·exact bN (bI (by rw [jh,List.length_append]; omega))
 ·exact bN (bI (qI (by rw [lk]; decide) (by decide)))
 ·exact bN (bI (by rw [jh,List.length_append]; omega))
 ·refine ⟨_,rfl,by show 2≤2; decide,fun y hy=>?_⟩
  simp only [List.mem_cons,List.not_mem_nil,or_false] at hy
  rcases hy with rfl | rfl
  ·exact bI (by omega)
  ·exact bI (by omega)
end
end W43
namespace W43
open PySem L2 Tg
section
variable {ks:List Str}
theorem pW {α:Type} (xs:List α) (n:Nat):bt xs (some ((n:Int)+1)) none=xs.drop (n+1):=iJ xs (n+1)
theorem oP:∀ {ys:List Str},(∀ y∈ys,(li y).length≤6)→(av ys).length≤6 * ys.length
 | [],_=>Nat.zero_le _
 | y :: ys,h=>by
  have h1:=h y List.mem_cons_self
  have h2:=oP fun z hz=>h z (List.mem_cons_of_mem _ hz)
  have e:av (y :: ys)=li y++av ys:=rfl
  rw [e,List.length_append,List.length_cons]
  omega
theorem ix {α:Type} (n:Nat) (l:List α):(List.replicate n l).flatten.length=n * l.length:=by
 rw [List.length_flatten,List.map_replicate,List.sum_replicate_nat]
theorem C0 {ps:List (List Str)} (g:GS ks ps) (k:Nat) {t:D} (h:FtP t):FtS (.tuple ((ps.map pD).take k++[t]++(ps.map pD).drop (k+1))):=by
 have l5:=g.l5
 refine bJ ?_ fun x hx=>?_
 ·rw [List.length_append,List.length_append,List.length_take,List.length_drop,List.length_map]
  show _+1+_≤1000
  omega
 ·have hm:∀ x∈ps.map pD,FtP x:=fun x hx=>by
   obtain ⟨ys,hy,rfl⟩:=List.mem_map.mp hx
   exact (g.w ys hy).ft
  rcases List.mem_append.mp hx with hx | hx
  ·rcases List.mem_append.mp hx with hx | hx
   ·exact hm x (List.mem_of_mem_take hx)
   ·rw [List.mem_singleton.mp hx]; exact h
  ·exact hm x (List.mem_of_mem_drop hx)
theorem mR (T:TT ks) {p:D} {n:Nat} {ps:List (List Str)} (hp:Pn n p) (hn:n≤50000) (g:GS ks ps):W (bS [p,tD ks,sD ps]) (fun r=>∃ t p',r=(t,[some p',none,none])∧FtS t∧Pn (n+40) p'):=by
 have g1:=g.l1
 have g5:=g.l5
 have hQ:∀ t p',FtS t→Pn (n+40) p'→(fun r:D × En=>∃ t p',r=(t,[some p',none,none])∧FtS t∧Pn (n+40) p') (t,[some p',none,none]):=fun t p' h1 h2=>⟨t,p',rfl,h1,h2⟩
 revert hQ
 generalize (fun r:D × En=>∃ t p',r=(t,[some p',none,none])∧FtS t∧Pn (n+40) p')=Q
 intro hQ
 have fin:∀ (k:Nat) p' t,Pn (n+40) p'→FtP t→(bt (ps.map pD) none (some (k:Int))).length+[t].length≤sizeLine∧(bt (ps.map pD) none (some (k:Int))++[t]).length+(bt (ps.map pD) (some ((k:Int)+1)) none).length≤sizeLine∧Q (.tuple (bt (ps.map pD) none (some (k:Int))++[t]++bt (ps.map pD) (some ((k:Int)+1)) none),[some p',none,none]):=fun k p' t hp' ht=>by
  have e1:bt (ps.map pD) none (some (k:Int))=(ps.map pD).take k:=dg _ k
  have e2:bt (ps.map pD) (some ((k:Int)+1)) none=(ps.map pD).drop (k+1):=pW _ k
  rw [e1,e2]
  have q1:((ps.map pD).take k).length≤5:=by rw [List.length_take,List.length_map]; omega
  have q2:((ps.map pD).drop (k+1)).length≤5:=by rw [List.length_drop,List.length_map]; omega
  exact ⟨sz (by show _+1≤_; omega),sz (by rw [List.length_append]; show _+1+_≤_; omega),hQ _ p' (C0 g k ht) hp'⟩
 simp only [bS,ey,sD,ws]
 refine bg hp (by omega) (by decide) (by decide) fun r p1 r0 r1 hp1=>?_
 simp only [ws]
 refine bg hp1 (by omega) (by omega) (by omega) fun q p2 q0 q1 hp2=>?_
 obtain ⟨k,rfl⟩:=Int.eq_ofNat_of_zero_le q0
 have hk:k < ps.length:=by omega
 have ek:atI (ps.map pD) (k:Int)=some (pD ps[k]):=by rw [a9,List.getElem?_map,List.getElem?_eq_getElem hk]; rfl
 have gp:=g.w ps[k] (List.getElem_mem hk)
 revert gp ek
 generalize ps[k]=ys
 intro ek gp
 have y12:=gp.l12
 have yW:∀ x∈ys.map PyData.str,FtW x:=fun x hx=>by
  obtain ⟨y,hy,rfl⟩:=List.mem_map.mp hx
  exact bI (by have:=(gp.w y hy).lm; omega)
 simp only [ws,ek]
 by_cases h4:r < 4
 ·simp only [ws,h4,pD]
  refine W.use (k9 (m:=4) T hp2 (by omega) (by decide) (by decide)) ?_
  rintro _ ⟨z,p3,rfl,gz,hp3⟩
  simp only [ws]
  refine ⟨sz (by show _+1≤_; omega),?_⟩
  obtain ⟨w,ew,w1,w6⟩:∃ w,(ys.map PyData.str++[PyData.str z])[0]?=some (.str w)∧1≤(li w).length∧(li w).length≤6:=by
   cases ys with
   | nil=>exact ⟨z,rfl,gz.l1,by have:=gz.lm; omega⟩
   | cons y ys=>exact ⟨y,rfl,(gp.w y List.mem_cons_self).l1,(gp.w y List.mem_cons_self).lm⟩
  simp only [ws,ew]
  refine bg hp3 (by omega) (by omega) (by omega) fun q p4 q0 q1 hp4=>?_
  obtain ⟨j,rfl⟩:=Int.eq_ofNat_of_zero_le q0
  have e1:bt (ys.map PyData.str) none (some (j:Int))=(ys.map PyData.str).take j:=dg _ j
  have e2:bt (ys.map PyData.str) (some (j:Int)) none=(ys.map PyData.str).drop j:=iJ _ j
  simp only [ws,e1]
  refine W.use (qi T hp4 (by omega) w1 w6) ?_
  rintro _ ⟨_,p5,rfl,⟨ts,rfl,t2,tW⟩,hp5⟩
  simp only [ws,e2]
  have q1:((ys.map PyData.str).take j).length≤12:=by rw [List.length_take,List.length_map]; omega
  have q2:((ys.map PyData.str).drop j).length≤12:=by rw [List.length_drop,List.length_map]; omega
  refine ⟨sz (by omega),sz (by rw [List.length_append]; omega),fin k p5 _ (hp5.mono (by omega)) (dR (by rw [List.length_append,List.length_append]; omega) fun x hx=>?_)⟩
  rcases List.mem_append.mp hx with hx | hx
  ·rcases List.mem_append.mp hx with hx | hx
   ·exact yW x (List.mem_of_mem_take hx)
   ·exact tW x hx
  ·exact yW x (List.mem_of_mem_drop hx)
 ·simp only [ws,h4]
  by_cases h4':r=4
  ·have q:decide (r=4)=true:=decide_eq_true h4'
   have al:(av ys).length≤1000:=by
    have:=oP (ys:=ys) fun y hy=>(gp.w y hy).lm
    omega
   have ej:=(lR al (by omega:ys.length≤1000)).1
   have ec:bt (ys.map PyData.str) none (some 1)=(ys.map PyData.str).take 1:=dg _ 1
   have l1:((ys.map PyData.str).take 1).length≤1:=by rw [List.length_take]; omega
   simp only [ws,q,pD,ej,ec,iI]
   refine ⟨⟨by decide,by decide,by omega⟩,bg hp2 (by omega) (by decide) (by decide) fun r p' r0 r1 hp'=>?_⟩
   simp only [ws]
   refine qb r0 r1 fun x hx=>?_
   simp only [ws]
   refine fin k p' x (hp'.mono (by omega)) ?_
   simp only [List.mem_cons,List.not_mem_nil,or_false] at hx
   rcases hx with rfl | rfl | rfl | rfl | rfl | rfl
   ·exact ⟨by simp only [aI,eZ]; decide,fun _ e=>nomatch e⟩
   ·exact ⟨by simp [aI],fun _ e=>nomatch e⟩
   ·exact ⟨by simp [aI],fun _ e=>nomatch e⟩
   ·refine dR ?_ fun x hx=>?_
    ·have:=ix 13 ((ys.map PyData.str).take 1)
     rw [show Int.toNat 13=13 from rfl]
     omega
    ·obtain ⟨l,hl,hx⟩:=List.mem_flatten.mp hx
     rw [List.eq_of_mem_replicate hl] at hx
     exact yW x (List.mem_of_mem_take hx)
   ·exact ⟨by simp [aI],fun _ e=>nomatch e⟩
   ·exact ⟨by simp [aI,a5],fun _ e=>nomatch e⟩
  ·have q:decide (r=4)=false:=decide_eq_false h4'
   simp only [ws,q]
   by_cases h5:r=5
   ·have q5:decide (r=5)=true:=decide_eq_true h5
    simp only [ws,q5,fL T]
    refine bg hp2 (by omega) (by decide) (by decide) fun q p3 q0 q1 hp3=>?_
    simp only [ws]
    refine ⟨by omega,?_⟩
    have sl:(sgs ks).length≤12:=by rw [oe]; exact T.l12
    have ml:=lq (z:=sgs ks) (n:=3) (L:=12) (N:=3) sl (by decide)
    refine p9 (fun i us en=>us.length=i∧(∀ x∈us,FtW x)∧∃ o,en=[o,some (.str (sgs ks))]) (by rw [cB]; exact sz (by omega)) ⟨rfl,by simp,_,rfl⟩ (fun i t us en ht hu ⟨e1,e2,o,e3⟩=>?_) fun us en _ ⟨e1,e2,o,e3⟩=>?_
    ·obtain ⟨hi,rfl⟩:=c9 ht
     subst e3
     simp only [ws,fA]
     refine ⟨⟨by omega,by decide,by decide⟩,by decide,by decide,⟨by decide,by decide⟩,sz (by omega),by rw [List.length_append,e1]; rfl,fun x hx=>?_,_,rfl⟩
     rcases List.mem_append.mp hx with hx | hx
     ·exact e2 x hx
     ·rw [List.mem_singleton.mp hx]
      refine bI (Nat.le_trans (jr _ _ _) ?_)
      rw [ll]
      omega
    ·subst e3
     rw [cB] at e1
     simp only [ws]
     exact fin k p3 _ (hp3.mono (by omega)) (dR (by omega) e2)
   ·have q5:decide (r=5)=false:=decide_eq_false h5
    simp only [ws,q5]
    by_cases h6:r=6
    ·have q6:decide (r=6)=true:=decide_eq_true h6
     have eh:(ps.map pD)[0]?=some (pD ps[0]):=by rw [List.getElem?_map,List.getElem?_eq_getElem (by omega)]; rfl
     have l6:=ix (6 - (ps.length:Int)).toNat [PyData.tuple []]
     have l5':=ix (Int.toNat 5) [PyData.tuple []]
     have e0:∀ m,∀ x∈(List.replicate m [PyData.tuple []]).flatten,FtP x:=fun m x hx=>by
      obtain ⟨l,hl,hx⟩:=List.mem_flatten.mp hx
      rw [List.eq_of_mem_replicate hl] at hx
      rw [List.mem_singleton.mp hx]
      exact dR (by decide) (by simp)
     have hm:∀ x∈ps.map pD,FtP x:=fun x hx=>by
      obtain ⟨ys,hy,rfl⟩:=List.mem_map.mp hx
      exact (g.w ys hy).ft
     have lp:(ps.map pD).length=ps.length:=List.length_map _
     have lo:([PyData.tuple []]:List D).length=1:=rfl
     rw [lo] at l6 l5'
     simp only [ws,q6,eh]
     refine ⟨⟨by omega,by omega,by decide⟩,sz (by rw [l6]; omega),⟨by decide,by decide,by decide⟩,bg hp2 (by omega) (by decide) (by decide) fun r p' r0 r1 hp'=>?_⟩
     simp only [ws]
     refine qb r0 r1 fun x hx=>?_
     simp only [ws]
     refine hQ x p' ?_ (hp'.mono (by omega))
     simp only [List.mem_cons,List.not_mem_nil,or_false] at hx
     rcases hx with rfl | rfl | rfl | rfl | rfl | rfl | rfl
     ·exact bJ (by decide) (by simp)
     ·refine ⟨?_,fun _ e=>nomatch e⟩
      have:=eJ (n:=6) fun x hx=>(hm x hx).1
      simp only [aI]
      omega
     ·refine bJ (by rw [List.length_append,l6,lp]; omega) fun x hx=>?_
      rcases List.mem_append.mp hx with hx | hx
      ·exact hm x hx
      ·exact e0 _ x hx
     ·have g0:=g.w ps[0] (List.getElem_mem _)
      refine bJ (by rw [List.length_map]; have:=g0.l12; omega) fun x hx=>?_
      obtain ⟨y,hy,rfl⟩:=List.mem_map.mp hx
      exact ⟨by simp [aI],fun _ e=>nomatch e⟩
     ·exact ⟨by simp [aI],fun _ e=>nomatch e⟩
     ·exact ⟨by simp [aI],fun _ e=>nomatch e⟩
     ·exact bJ (by rw [l5']; decide) (e0 _)
    ·have q6:decide (r=6)=false:=decide_eq_false h6
     have e1:bt (ps.map pD) none (some (k:Int))=(ps.map pD).take k:=dg _ k
     have e2:bt (ps.map pD) (some (k:Int)) none=(ps.map pD).drop k:=iJ _ k
     simp only [ws,q6,e1,e2]
     have u1:((ps.map pD).take k).length≤5:=by rw [List.length_take,List.length_map]; omega
     have u2:((ps.map pD).drop k).length≤5:=by rw [List.length_drop,List.length_map]; omega
     refine ⟨sz (by omega),hQ _ p2 (bJ (by rw [List.length_append]; omega) fun x hx=>?_) (hp2.mono (by omega))⟩
     have hm:∀ x∈ps.map pD,FtP x:=fun x hx=>by
      obtain ⟨ys,hy,rfl⟩:=List.mem_map.mp hx
      exact (g.w ys hy).ft
     rcases List.mem_append.mp hx with hx | hx
     ·exact hm x (List.mem_of_mem_drop hx)
     ·exact hm x (List.mem_of_mem_take hx)
end
end W43
namespace W43
open PySem L2 Tg
section
variable {ks:List Str}
structure GL (ks:List Str) (pls:List (List (List Str))):Prop where
 l3:pls.length≤3
 w:∀ ps∈pls,GS ks ps
theorem zJ (T:TT ks) {p:D} {n m s q:Nat} (hp:Pn n p) (hn:n≤1000) (hm:m≤3) (hs:1≤s) (hs6:s≤6) (hq:q≤12) {Q:List D × En→Prop}
  (h:∀ pls p' o,GL ks pls→Pn (n+3000) p'→Q (pls.map sD,[o,some p',some (tD ks),some (.int (s:Nat)),some (.int (q:Nat))])) :
  W (lcF (gN 0) cY nL (il 0 m) [] [none,some p,some (tD ks),some (.int (s:Nat)),some (.int (q:Nat))]) Q:=by
 refine p9 (fun i us en=>∃ (pls:List (List (List Str))) (p':D) (o:Option D),us=pls.map sD∧en=[o,some p',some (tD ks),some (.int (s:Nat)),some (.int (q:Nat))]∧pls.length=i∧(∀ ps∈pls,GS ks ps)∧Pn (n+1000 * i) p') (by rw [cB]; exact sz (by omega)) ⟨[],p,none,rfl,rfl,rfl,by simp,hp⟩ (fun i t us en ht hu ⟨pls,p',o,e1,e2,h1,h2,h3⟩=>?_) fun us en _ ⟨pls,p',o,e1,e2,h1,h2,h3⟩=>?_
 ·obtain ⟨hi,rfl⟩:=c9 ht
  subst e1 e2
  simp only [ws,nL]
  refine W.use (zy T h3 (by omega) hq hs hs6) ?_
  rintro _ ⟨ps,p2,rfl,gs,hp2⟩
  simp only [ws]
  refine ⟨pls++[ps],p2,_,by rw [List.map_append]; rfl,rfl,by rw [List.length_append,h1]; rfl,fun x hx=>?_,hp2.mono (by omega)⟩
  rcases List.mem_append.mp hx with hx | hx
  ·exact h2 x hx
  ·rw [List.mem_singleton.mp hx]; exact gs
 ·subst e1 e2
  rw [cB] at h1 h3
  exact h pls p' o ⟨by omega,h2⟩ (h3.mono (by omega))
theorem GL.its {pls:List (List (List Str))} (g:GL ks pls):∀ x∈pls.map sD,FtS x:=fun x hx=>by
 obtain ⟨ps,hp,rfl⟩:=List.mem_map.mp hx
 exact (g.w ps hp).ft
theorem GL.ft {pls:List (List (List Str))} (g:GL ks pls):FtL (.tuple (pls.map sD)):=cC (by rw [List.length_map]; have:=g.l3; omega) g.its
theorem GL.is {pls:List (List (List Str))} (g:GL ks pls):fR (av ks) (.tuple (pls.map sD))=true:=by
 rw [nb,List.length_map,decide_eq_true g.l3,Bool.true_and,List.all_eq_true]
 intro x hx
 obtain ⟨ps,hp,rfl⟩:=List.mem_map.mp hx
 exact (g.w ps hp).is
theorem r6 (T:TT ks) {pls:List (List (List Str))} (g:GL ks pls) {x0 x1 x2 x4 x5 x6 x7 x8 x9 x10 x11:Option D} {Q:Fl→Prop} (h:∀ o,Q (.nx [x0,x1,x2,some (tD ks),x4,x5,x6,o,x8,x9,x10,x11])) :
  W (b6 (gN 7) nI (pls.map sD) [x0,x1,x2,some (tD ks),x4,x5,x6,x7,x8,x9,x10,x11]) Q:=by
 refine rM (fun en=>∃ o,en=[x0,x1,x2,some (tD ks),x4,x5,x6,o,x8,x9,x10,x11]) ⟨_,rfl⟩ (fun t ht en ⟨o,e⟩=>?_) fun en ⟨o,e⟩=>?_
 ·subst e
  obtain ⟨ps,hp,rfl⟩:=List.mem_map.mp ht
  simp only [ws,nI]
  refine W.use (jj T (g.w ps hp).ft) ?_
  rintro _ rfl
  rw [(g.w ps hp).is]
  simp only [ws]
  exact ⟨_,rfl⟩
 ·subst e
  exact h o
theorem qB (T:TT ks) {pls:List (List (List Str))} (g:GL ks pls) {ps:List (List Str)} (gs:GS ks ps) {p:D} {n:Nat} (hp:Pn n p) (hn:n≤10000) {x0 x1 x4 x5 x8 x9 x10 x11:Option D} {Q:Fl→Prop} (h:∀ p' o8 o9,Q (.nx [x0,x1,some p',some (tD ks),x4,x5,some (.tuple (pls.map sD)),some (sD ps),o8,o9,x10,x11])) :
  W (b6 (gN 8) kW (il 0 3) [x0,x1,some p,some (tD ks),x4,x5,some (.tuple (pls.map sD)),some (sD ps),x8,x9,x10,x11]) Q:=by
 have l3:=g.l3
 refine eV (fun i en=>∃ p' o8 o9,en=[x0,x1,some p',some (tD ks),x4,x5,some (.tuple (pls.map sD)),some (sD ps),o8,o9,x10,x11]∧Pn (n+40 * i) p') ⟨p,_,_,rfl,hp⟩ (fun i t en ht ⟨p',o8,o9,e,h1⟩=>?_) fun en ⟨p',o8,o9,e,h1⟩=>?_
 ·obtain ⟨hi,rfl⟩:=c9 ht
  subst e
  simp only [ws,kW]
  refine W.use (mR T h1 (by omega) gs) ?_
  rintro _ ⟨t,p2,rfl,ft,hp2⟩
  have e2:bt (pls.map sD) none (some 2)=(pls.map sD).take 2:=dg _ 2
  have e1:bt (pls.map sD) none (some 1)=(pls.map sD).take 1:=dg _ 1
  have m2:((pls.map sD).take 2).length≤2:=by rw [List.length_take]; omega
  have m1:((pls.map sD).take 1).length≤1:=by rw [List.length_take]; omega
  simp only [ws,e2]
  refine ⟨sz (by show _+1≤_; omega),?_⟩
  refine W.use (fW T ft (cC (by rw [List.length_append]; show _+1≤_; omega) fun x hx=>?_)) ?_
  ·rcases List.mem_append.mp hx with hx | hx
   ·exact g.its x (List.mem_of_mem_take hx)
   ·rw [List.mem_singleton.mp hx]; exact ft
  ·rintro _ rfl
   simp only [ws,e1]
   refine ⟨sz (by show 1+_≤_; omega),?_⟩
   refine W.use (fW T ft (cC (by show _+1≤_; omega) fun x hx=>?_)) ?_
   ·rcases List.mem_cons.mp hx with hx | hx
    ·rw [hx]; exact ft
    ·exact g.its x (List.mem_of_mem_take hx)
   ·rintro _ rfl
    simp only [ws]
    exact ⟨_,_,_,rfl,hp2.mono (by omega)⟩
 ·subst e
  exact h p' o8 o9
def FtB (t:D):Prop:=FtS t∧FtL t
theorem bT (T:TT ks) {t:D} (ht:FtB t) {x0 x1 x2 x4 x5 x6 x7 x8 x9 x10:Option D} {Q:Fl→Prop} (h:Q (.nx [x0,x1,x2,some (tD ks),x4,x5,x6,x7,x8,x9,x10,some t])) :
  W (kU [x0,x1,x2,some (tD ks),x4,x5,x6,x7,x8,x9,x10,some t]) Q:=by
 simp only [ws,kU]
 refine W.use (fW T ht.1 ht.2) ?_
 rintro _ rfl
 simp only [ws]
 exact h
theorem EV {t:D} (h1:ao t=true) (h2:aI t≤5) (h3:∀ z,t≠.str z):FtW t:=⟨h1,h2,fun z e=>absurd e (h3 z)⟩
theorem pN {t:D} (h2:aI t≤6) (h3:∀ z,t≠.tuple z):FtP t:=⟨h2,fun z e=>absurd e (h3 z)⟩
theorem mG {t:D} (h2:aI t≤7) (h3:∀ z,t≠.tuple z):FtS t:=⟨h2,fun z e=>absurd e (h3 z)⟩
theorem zp {t:D} (h3:∀ z,t≠.tuple z):FtL t:=fun z e=>absurd e (h3 z)
theorem iB {t:D} (h2:aI t≤7) (h3:∀ z,t≠.tuple z):FtB t:=⟨mG h2 h3,zp h3⟩
theorem sT:FtS (.tuple []):=bJ (by decide) (by simp)
theorem pO:FtP (.tuple []):=dR (by decide) (by simp)
theorem gM {P:D→Prop} {a:D} (h:P a):∀ x∈[a],P x:=fun x hx=>by rw [List.mem_singleton.mp hx]; exact h
theorem pZ {P:D→Prop} {a b:D} (h:P a) (h2:P b):∀ x∈[a,b],P x:=fun x hx=>by
 rcases List.mem_cons.mp hx with hx | hx
 ·rw [hx]; exact h
 ·rw [List.mem_singleton.mp hx]; exact h2
theorem pj:FtB .none∧FtB (.int 0)∧FtB (.bool true)∧FtB (.str "")∧FtB (.str "plan")∧FtB (.list [])∧FtB (.dict [])∧FtB (.tuple [.tuple []])∧FtB (.tuple [.tuple [],.tuple []])∧FtB (.tuple [.none])∧FtB (.tuple [.str "ab"])∧FtB (.tuple [.tuple [.tuple [.str "a"]],.none]):=by
 have sa:FtW (.str "a"):=bI (by decide +kernel)
 refine ⟨?_,?_,?_,?_,?_,?_,?_,?_,?_,?_,?_,?_⟩
 ·exact iB (by simp [aI]) (fun _ e=>nomatch e)
 ·exact iB (by simp [aI]) (fun _ e=>nomatch e)
 ·exact iB (by simp [aI]) (fun _ e=>nomatch e)
 ·exact iB (by simp [aI]) (fun _ e=>nomatch e)
 ·exact iB (by simp [aI]) (fun _ e=>nomatch e)
 ·exact iB (by simp [aI,a5]) (fun _ e=>nomatch e)
 ·exact iB (by simp [aI,a5]) (fun _ e=>nomatch e)
 ·exact ⟨bJ (by show 1≤1000; decide) (gM pO),cC (by show 1≤1000; decide) (gM sT)⟩
 ·exact ⟨bJ (by show 2≤1000; decide) (pZ pO pO),cC (by show 2≤1000; decide) (pZ sT sT)⟩
 ·exact ⟨bJ (by show 1≤1000; decide) (gM (pN (by simp [aI]) fun _ e=>nomatch e)),cC (by show 1≤1000; decide) (gM (mG (by simp [aI]) fun _ e=>nomatch e))⟩
 ·exact ⟨bJ (by show 1≤1000; decide) (gM (pN (by simp [aI]) fun _ e=>nomatch e)),cC (by show 1≤1000; decide) (gM (mG (by simp [aI]) fun _ e=>nomatch e))⟩
 ·refine ⟨bJ (by show 2≤1000; decide) (pZ (dR (by show 1≤1000; decide) (gM (EV (by simp [ao,aD]) (by simp [aI,a5]) fun _ e=>nomatch e))) (pN (by simp [aI]) fun _ e=>nomatch e)),cC (by show 2≤1000; decide) (pZ (bJ (by show 1≤1000; decide) (gM (dR (by show 1≤1000; decide) (gM sa)))) (mG (by simp [aI]) fun _ e=>nomatch e))⟩
end
end W43
namespace W43
open PySem L2 Tg
section
variable {ks:List Str}
theorem Dg {z:Str} {m:Nat} (h:GW ks m z) (hm:m≤6):GS ks [[z]]:=⟨by show 1≤1; decide,by show 1≤5; decide,fun ys hy=>by
 rw [List.mem_singleton.mp hy]
 exact ⟨by show 1≤12; decide,fun y hy=>by rw [List.mem_singleton.mp hy]; exact ⟨h.l1,Nat.le_trans h.lm hm,h.mem⟩,by simp,fun e=>by cases e⟩,fun ys hy=>by cases hy⟩
theorem AN (c:Nat):TT [mk1 c]:=⟨by show 1≤4; decide,by show 1≤12; decide,by show 1≤1; decide⟩
theorem zA (T:TT ks) {pls:List (List (List Str))} (g:GL ks pls) {p:D} {n:Nat} (hp:Pn n p) (hn:n≤5000) {x0 x1 x4 x5 x7 x8 x9 x10 x11:Option D} {Q:Fl→Prop}
  (h:∀ y2 y7 y8 y9 y10 y11,Q (.nx [x0,x1,y2,some (tD ks),x4,x5,some (.tuple (pls.map sD)),y7,y8,y9,y10,y11])) :
  W (au (sIf (bOr (bu (tV (ax bx (ad (af 3) (ad (af 6) ah))))) (bOr (bu (tV (ax bx (ad (af 3) (ad (aG ah) ah))))) (tV (ax bx (ad (af 3) (ad (e2 du (af 6) (e2 je (aG (ad (aG (ad (aG ah) ah)) ah)) (e2 e9 (eC (.int 4)) (eN bd (ad (af 6) ah))))) ah)))))) (aL (eC (.bool false))) bc)
   (au (aF 7 (e2 ixA (e2 du (af 6) (aG (ad (aG (ad (aG (ad (ax bC (aS 2 (ad (af 3) (ad (eC (.int 3)) ah)))) ah)) ah)) ah))) (ax F_law_draw (aS 2 (ad (e2 bj (eN bd (ad (af 6) ah)) (eC (.int 1))) ah)))))
   (au (ck (ca (ad (eC (.int 3)) ah)) (gN 8) kW)
   (au (aF 10 (e2 ixA (eLC true (b4 (eC (.str "azb0c1d2e3f4!"))) (gN 0) nG nK [none,some 3]) (eC (.int 0))))
   (au (sIf (bOr (bu (tV (ax bp (ad (aG (ad (af 10) ah)) (ad (af 7) (ad (af 6) ah)))))) (bu (tV (ax bp (ad (af 3) (ad (af 7) (ad (eN iw (ad (af 6) ah)) ah))))))) (aL (eC (.bool false))) bc)
   (ck (b4 (bh (ad (eC .none) (ad (eC (.int 0)) (ad (eC (.bool true)) (ad (eC (.str "")) (ad (eC (.str "plan")) (ad (bh ah) (ad iI (ad (aG (ad (aG ah) ah)) (ad (aG (ad (aG ah) (ad (aG ah) ah))) (ad (aG (ad (eC .none) ah)) (ad (aG (ad (eC (.str "ab")) ah)) (ad (aG (ad (aG (ad (aG (ad (eC (.str "a")) ah)) ah)) (ad (eC .none) ah))) ah)))))))))))))) (gN 11) kU)))))
   [x0,x1,some p,some (tD ks),x4,x5,some (.tuple (pls.map sD)),x7,x8,x9,x10,x11]) Q:=by
 have l3:=g.l3
 simp only [ws]
 refine W.use (gt T g.ft) ?_
 rintro _ rfl
 rw [g.is]
 simp only [ws]
 refine W.use (gt T (cC (ts:=[]) (by decide) (by simp))) ?_
 rintro _ rfl
 have e0:fR (av ks) (.tuple [])=true:=rfl
 rw [e0]
 have lf:=ix (4 - (pls.length:Int)).toNat ([.tuple [.tuple []]]:List D)
 have lo:([.tuple [.tuple []]]:List D).length=1:=rfl
 rw [lo] at lf
 have lp:(pls.map sD).length=pls.length:=List.length_map _
 simp only [ws]
 refine ⟨⟨by omega,by omega,by decide⟩,sz (by rw [lf]; omega),?_⟩
 refine W.use (gt T (cC (by rw [List.length_append,lf,lp]; omega) fun x hx=>?_)) ?_
 ·rcases List.mem_append.mp hx with hx | hx
  ·exact g.its x hx
  ·obtain ⟨l,hl,hx⟩:=List.mem_flatten.mp hx
   rw [List.eq_of_mem_replicate hl] at hx
   rw [List.mem_singleton.mp hx]
   exact bJ (by show 1≤1000; decide) (gM pO)
 rintro _ rfl
 have e1:fR (av ks) (.tuple (pls.map sD++(List.replicate (4 - (pls.length:Int)).toNat ([.tuple [.tuple []]]:List D)).flatten))=false:=by
  rw [nb,List.length_append,lf,lp,decide_eq_false (by omega),Bool.false_and]
 rw [e1]
 simp only [ws]
 refine W.use (k9 (m:=3) T hp (by omega) (by decide) (by decide)) ?_
 rintro _ ⟨z,p2,rfl,gz,hp2⟩
 simp only [ws]
 refine ⟨sz (by show _+1≤_; omega),bg hp2 (by omega) (by omega) (by omega) fun r p3 r0 r1 hp3=>?_⟩
 simp only [ws]
 have es:(pls.map sD++[PyData.tuple [PyData.tuple [PyData.str z]]])=(pls++[[[z]]]).map sD:=by rw [List.map_append]; rfl
 rw [es]
 refine qb r0 (by rw [List.length_map,List.length_append]; show r < ((_+1:Nat):Int); omega) fun x hx=>?_
 obtain ⟨ps,hps,rfl⟩:=List.mem_map.mp hx
 have gs:GS ks ps:=by
  rcases List.mem_append.mp hps with hps | hps
  ·exact g.w ps hps
  ·rw [List.mem_singleton.mp hps]; exact Dg gz (by decide)
 have t3:(3:Int).toNat=3:=rfl
 simp only [ws,t3]
 refine ⟨by decide,qB T g gs hp3 (by omega) fun p4 o8 o9=>?_⟩
 simp only [ws]
 refine oN T (fun x y=>by simp only [nK,ws]) (fun y=>by simp only [nG,ws,fL T]) fun c us o hc hn'=>?_
 simp only [ws]
 refine W.use (fW (AN c) gs.ft g.ft) ?_
 rintro _ rfl
 simp only [ws]
 refine W.use (fW T gs.ft (zp fun _ e=>nomatch e)) ?_
 rintro _ rfl
 simp only [ws,iI]
 obtain ⟨f1,f2,f3,f4,f5,f6,f7,f8,f9,f10,f11,f12⟩:=pj
 refine bT T f1 ?_
 simp only [ws]
 refine bT T f2 ?_
 simp only [ws]
 refine bT T f3 ?_
 simp only [ws]
 refine bT T f4 ?_
 simp only [ws]
 refine bT T f5 ?_
 simp only [ws]
 refine bT T f6 ?_
 simp only [ws]
 refine bT T f7 ?_
 simp only [ws]
 refine bT T f8 ?_
 simp only [ws]
 refine bT T f9 ?_
 simp only [ws]
 refine bT T f10 ?_
 simp only [ws]
 refine bT T f11 ?_
 simp only [ws]
 refine bT T f12 ?_
 simp only [ws]
 exact h _ _ _ _ _ _
end
theorem sE:Dq qh:=by
 intro ns hl
 suffices W (qh [.list (ns.map .int)]) (fun r=>∃ outs,r=(.bool true,outs)) by
  obtain ⟨r,e,outs,rfl⟩:=this.ex
  exact ⟨outs,e⟩
 have t3:(3:Int).toNat=3:=rfl
 simp only [ws,qh,tZ,t3]
 refine ⟨by decide,?_⟩
 refine rM (fun en=>∃ x1 x2 x3 x4 x5 x6 x7 x8 x9 x10 x11,en=[some (.list (ns.map .int)),x1,x2,x3,x4,x5,x6,x7,x8,x9,x10,x11]) ⟨_,_,_,_,_,_,_,_,_,_,_,rfl⟩ (fun t ht en ⟨x1,x2,x3,x4,x5,x6,x7,x8,x9,x10,x11,e⟩=>?_) fun en ⟨x1,x2,x3,x4,x5,x6,x7,x8,x9,x10,x11,e⟩=>?_
 ·subst e
  obtain ⟨i,hi⟩:=List.mem_iff_getElem?.mp ht
  obtain ⟨hi3,rfl⟩:=c9 hi
  simp only [ws,rO]
  refine zv (by omega) hl fun p hp=>?_
  simp only [ws]
  refine W.use (qp hp) ?_
  rintro _ ⟨ks,p1,rfl,T,hp1⟩
  simp only [ws]
  refine bg hp1 (by decide) (by decide) (by decide) fun r p2 r0 r1 hp2=>?_
  obtain ⟨s,rfl⟩:=Int.eq_ofNat_of_zero_le r0
  have es:(1:Int)+(s:Int)=((s+1:Nat):Int):=by omega
  simp only [ws,es]
  refine bg hp2 (by decide) (by decide) (by decide) fun r p3 r0 r1 hp3=>?_
  obtain ⟨q,eq,hq⟩:∃ q:Nat,atI ([.int 3,.int 12]:List D) r=some (.int (q:Nat))∧q≤12:=by
   have:r=0∨r=1:=by omega
   rcases this with rfl | rfl
   ·exact ⟨3,rfl,by decide⟩
   ·exact ⟨12,rfl,by decide⟩
  simp only [ws,eq]
  refine bg hp3 (by decide) (by decide) (by decide) fun m p4 m0 m1 hp4=>?_
  obtain ⟨m,rfl⟩:=Int.eq_ofNat_of_zero_le m0
  simp only [ws,Int.toNat_natCast]
  refine ⟨by omega,zJ T hp4 (by decide) (by omega) (by omega) (by omega) hq fun pls p5 o g hp5=>?_⟩
  simp only [ws]
  refine r6 T g fun o=>?_
  exact zA T g hp5 (by decide) fun y2 y7 y8 y9 y10 y11=>⟨_,_,_,_,_,_,_,_,_,_,_,rfl⟩
 ·subst e
  simp only [ws]
  exact ⟨_,rfl⟩
end W43
set_option maxHeartbeats 4000000
namespace W43
open PySem L2
theorem all_mk {l:PySem.W.OpenLaw} {w:World} {K:PySem.W.Frag} {h:Heap} {mg:Str→Option Value} {fa f0 f1 f2 f3 f4 f5 f6 f7 f8 f9 f10 f11 f12 f13 f14 f15 f16 f17 f18 f19 f20 f21:Addr} {tk0:Tok} {tk1:Tok} {tk2:Tok} {tk3:Tok} {tk4:Tok} (X:K.In h) (G:h.Ns mainGlobals mg) (hfa:mg "law"=some (.ref fa))
  (d0:Df K "are_unlike" gO f0)
  (d1:Df K "signs_of" jA f1)
  (d2:Df K "is_word" iL f2)
  (d3:Df K "is_told_word" fq f3)
  (d4:Df K "is_part" iN f4)
  (d5:Df K "words_that_begin" cj f5)
  (d6:Df K "none_begins_another" bY f6)
  (d7:Df K "is_step" fZ f7)
  (d8:Df K "is_plan" iM f8)
  (d9:Df K "_law_pen" jB f9)
  (d10:Df K "_law_draw" iQ f10)
  (d11:Df K "_law_tongue" eg f11)
  (d12:Df K "_law_text" iO f12)
  (d13:Df K "_law_part" fI f13)
  (d14:Df K "_law_step" iP f14)
  (d15:Df K "_law_is_part" cy f15)
  (d16:Df K "_law_is_step" fu f16)
  (d17:Df K "_law_is_plan" dI f17)
  (d18:Df K "_law_words" eW f18)
  (d19:Df K "_law_otherwise" cL f19)
  (d20:Df K "_law_asked" gP f20)
  (d21:Df K "law" iK f21)
  (y0:PySem.W.nsIn K mainGlobals "MOST_SIGNS_OF_A_WORD"=some (some (.int 60 tk0)))
  (y1:PySem.W.nsIn K mainGlobals "MOST_SIGNS_TOLD"=some (some (.int 6 tk1)))
  (y2:PySem.W.nsIn K mainGlobals "MOST_WORDS_OF_A_PART"=some (some (.int 12 tk2)))
  (y3:PySem.W.nsIn K mainGlobals "MOST_PARTS"=some (some (.int 5 tk3)))
  (y4:PySem.W.nsIn K mainGlobals "MOST_STEPS"=some (some (.int 3 tk4)))
  (z0:PySem.W.nsIn K mainGlobals "all"=some none)
  (z1:PySem.W.nsIn K mainGlobals "bool"=some none)
  (z2:PySem.W.nsIn K mainGlobals "enumerate"=some none)
  (z3:PySem.W.nsIn K mainGlobals "isinstance"=some none)
  (z4:PySem.W.nsIn K mainGlobals "len"=some none)
  (z5:PySem.W.nsIn K mainGlobals "list"=some none)
  (z6:PySem.W.nsIn K mainGlobals "max"=some none)
  (z7:PySem.W.nsIn K mainGlobals "range"=some none)
  (z8:PySem.W.nsIn K mainGlobals "set"=some none)
  (z9:PySem.W.nsIn K mainGlobals "str"=some none)
  (z10:PySem.W.nsIn K mainGlobals "sum"=some none)
  (z11:PySem.W.nsIn K mainGlobals "tuple"=some none) :
  ∃ fd:FuncData,(∀ (s:Shared) (v:Value),BindsTo s fd ⟨[v],[]⟩ [("_law_script",v)])∧∀ base:Heap,K.In base→base.Ns mainGlobals mg→FnOk l.prog w K mg base CX0 8 fa fd ["_law_script"] (kr K):=by
 have e:=hfa.symm.trans (PySem.W.mg_of X G d21.a)
 cases e
 have v0:=PySem.W.mg_of X G y0
 have v1:=PySem.W.mg_of X G y1
 have v2:=PySem.W.mg_of X G y2
 have v3:=PySem.W.mg_of X G y3
 have v4:=PySem.W.mg_of X G y4
 have T:Bl mg:=⟨PySem.W.mg_none_of X G z0,PySem.W.mg_none_of X G z1,PySem.W.mg_none_of X G z2,PySem.W.mg_none_of X G z3,PySem.W.mg_none_of X G z4,PySem.W.mg_none_of X G z5,PySem.W.mg_none_of X G z6,PySem.W.mg_none_of X G z7,PySem.W.mg_none_of X G z8,PySem.W.mg_none_of X G z9,PySem.W.mg_none_of X G z10,PySem.W.mg_none_of X G z11⟩
 obtain ⟨oc,od,kV,dc,pm,an,cd,ct,sl,ll,lc⟩:=d21.l
 have FL:=qT (st:=iK) ll lc d21.k
 refine ⟨PySem.W.fnOf "law" "law" (dU iK) (cF iK) (aq iK) .none kV dc pm an cd ct,fun s v=>.of_eq rfl,fun base _ _=>?_⟩
 have g0:Kn l.prog w K mg base 1 "are_unlike" ["signs"] (spF K [0] 3 cG):=d0.kn X G (fun _ _ _ _ _ _ us hl=>match us,hl with | [_],_=>rfl) fun _ F=>mS (k:=0) T   F
 have g1:Kn l.prog w K mg base 1 "signs_of" ["tongue"] (spF K [0] 3 dW):=d1.kn X G (fun _ _ _ _ _ _ us hl=>match us,hl with | [_],_=>rfl) fun _ F=>ph (k:=0) T   F
 have g2:Kn l.prog w K mg base 2 "is_word" ["tongue", "thing"] (spF K [0,0] 3 cV):=d2.kn X G (fun _ _ _ _ _ _ us hl=>match us,hl with | [_,_],_=>rfl) fun _ F=>qC (k:=1) T v0 (g1.mono (by decide)) F
 have g3:Kn l.prog w K mg base 3 "is_told_word" ["tongue", "thing"] (spF K [0,0] 3 bW):=d3.kn X G (fun _ _ _ _ _ _ us hl=>match us,hl with | [_,_],_=>rfl) fun _ F=>ld (k:=2) T v1 (g2.mono (by decide)) F
 have g4:Kn l.prog w K mg base 4 "is_part" ["tongue", "thing"] (spF K [0,0] 3 cW):=d4.kn X G (fun _ _ _ _ _ _ us hl=>match us,hl with | [_,_],_=>rfl) fun _ F=>qF (k:=3) T v2 (g0.mono (by decide)) (g3.mono (by decide)) F
 have g5:Kn l.prog w K mg base 1 "words_that_begin" ["part", "text"] (spF K [0,0] 1 bD):=d5.kn X G (fun _ _ _ _ _ _ us hl=>match us,hl with | [_,_],_=>rfl) fun _ F=>jd (k:=0) T   F
 have g6:Kn l.prog w K mg base 2 "none_begins_another" ["part"] (spF K [0] 3 bq):=d6.kn X G (fun _ _ _ _ _ _ us hl=>match us,hl with | [_],_=>rfl) fun _ F=>hC (k:=1) T  (g5.mono (by decide)) F
 have g7:Kn l.prog w K mg base 5 "is_step" ["tongue", "thing"] (spF K [0,0] 3 bK):=d7.kn X G (fun _ _ _ _ _ _ us hl=>match us,hl with | [_,_],_=>rfl) fun _ F=>qD (k:=4) T v3 (g4.mono (by decide)) (g6.mono (by decide)) F
 have g8:Kn l.prog w K mg base 6 "is_plan" ["tongue", "thing"] (spF K [0,0] 3 bx):=d8.kn X G (fun _ _ _ _ _ _ us hl=>match us,hl with | [_,_],_=>rfl) fun _ F=>qE (k:=5) T v4 (g7.mono (by decide)) F
 have g9:Kn l.prog w K mg base 1 "_law_pen" ["_law_script", "_law_k"] (spF K [0,0] 3 F_law_pen):=d9.kn X G (fun _ _ _ _ _ _ us hl=>match us,hl with | [_,_],_=>rfl) fun _ F=>pi (k:=0) T   F
 have g10:Kn l.prog w K mg base 1 "_law_draw" ["_law_pen_here", "_law_many"] (spF K [1,0] 0 F_law_draw):=d10.kn X G (fun _ _ _ _ _ _ us hl=>match us,hl with | [_,_],_=>rfl) fun _ F=>nR (k:=0) T   F
 have g11:Kn l.prog w K mg base 2 "_law_tongue" ["_law_pen_here", "_law_most"] (spF K [1,0] 0 cu):=d11.kn X G (fun _ _ _ _ _ _ us hl=>match us,hl with | [_,_],_=>rfl) fun _ F=>mr (k:=1) T  (g10.mono (by decide)) F
 have g12:Kn l.prog w K mg base 2 "_law_text" ["_law_pen_here", "_law_tongue_here", "_law_most"] (spF K [1,0,0] 0 bC):=d12.kn X G (fun _ _ _ _ _ _ us hl=>match us,hl with | [_,_,_],_=>rfl) fun _ F=>nO (k:=1) T  (g10.mono (by decide)) F
 have g13:Kn l.prog w K mg base 3 "_law_part" ["_law_pen_here", "_law_tongue_here", "_law_most", "_law_size", "_law_free"] (spF K [1,0,0,0,0] 0 dq):=d13.kn X G (fun _ _ _ _ _ _ us hl=>match us,hl with | [_,_,_,_,_],_=>rfl) fun _ F=>nQ (k:=2) T  (g12.mono (by decide)) F
 have g14:Kn l.prog w K mg base 4 "_law_step" ["_law_pen_here", "_law_tongue_here", "_law_parts", "_law_most", "_law_size"] (spF K [1,0,0,0,0] 0 dm):=d14.kn X G (fun _ _ _ _ _ _ us hl=>match us,hl with | [_,_,_,_,_],_=>rfl) fun _ F=>nP (k:=3) T  (g10.mono (by decide)) (g13.mono (by decide)) F
 have g15:Kn l.prog w K mg base 1 "_law_is_part" ["_law_tongue_here", "_law_part_here", "_law_last"] (spF K [0,0,0] 3 bH):=d15.kn X G (fun _ _ _ _ _ _ us hl=>match us,hl with | [_,_,_],_=>rfl) fun _ F=>lj (k:=0) T   F
 have g16:Kn l.prog w K mg base 2 "_law_is_step" ["_law_tongue_here", "_law_step_here"] (spF K [0,0] 3 ba):=d16.kn X G (fun _ _ _ _ _ _ us hl=>match us,hl with | [_,_],_=>rfl) fun _ F=>lg (k:=1) T  (g15.mono (by decide)) F
 have g17:Kn l.prog w K mg base 3 "_law_is_plan" ["_law_tongue_here", "_law_plan"] (spF K [0,0] 3 bG):=d17.kn X G (fun _ _ _ _ _ _ us hl=>match us,hl with | [_,_],_=>rfl) fun _ F=>lh (k:=2) T  (g16.mono (by decide)) F
 have g18:Kn l.prog w K mg base 2 "_law_words" ["_law_pen_here", "_law_tongue_here", "_law_word"] (spF K [1,0,0] 0 cH):=d18.kn X G (fun _ _ _ _ _ _ us hl=>match us,hl with | [_,_,_],_=>rfl) fun _ F=>mT (k:=1) T  (g10.mono (by decide)) F
 have g19:Kn l.prog w K mg base 3 "_law_otherwise" ["_law_pen_here", "_law_tongue_here", "_law_step_here"] (spF K [1,0,0] 0 bS):=d19.kn X G (fun _ _ _ _ _ _ us hl=>match us,hl with | [_,_,_],_=>rfl) fun _ F=>j8 (k:=2) T  (g10.mono (by decide)) (g18.mono (by decide)) (g12.mono (by decide)) F
 have g20:Kn l.prog w K mg base 7 "_law_asked" ["_law_tongue_here", "_law_step_here", "_law_plan"] (spF K [0,0,0] 3 bp):=d20.kn X G (fun _ _ _ _ _ _ us hl=>match us,hl with | [_,_,_],_=>rfl) fun _ F=>mU (k:=6) T  (g7.mono (by decide)) (g8.mono (by decide)) (g16.mono (by decide)) (g17.mono (by decide)) F
 exact (EO (k:=7) T  (g9.mono (by decide)) (g11.mono (by decide)) (g10.mono (by decide)) (g8.mono (by decide)) (g19.mono (by decide)) (g14.mono (by decide)) (g7.mono (by decide)) (g20.mono (by decide)) (g12.mono (by decide)) FL).imp fun vs H Q E h=>Dp sE h
theorem walk {l:PySem.W.OpenLaw} {q:Program} {loose:List Str} {XP:(Str→Option Value)→Heap→Prop} {YP:World→Heap→Prop} {d:DefRec} {K:Params→PySem.W.Frag} (hn:l.most=some 63) (hdf:d.params.defaults=[])
  (hY:∀ (w:World) (h:Heap),YP w h→(K w.params).In h)
  (F:∀ (w:World) (mg:Str→Option Value) (fa:Addr) (h:Heap),(K w.params).In h→h.Ns mainGlobals mg→mg d.name=some (.ref fa) →
   ∃ fd:FuncData,(∀ (s:Shared) (u:Value),BindsTo s fd ⟨[u],[]⟩ [("_law_script",u)])∧∀ base:Heap,(K w.params).In base→base.Ns mainGlobals mg→FnOk l.prog w (K w.params) mg base CX0 8 fa fd ["_law_script"] (kr (K w.params))) :
  PySem.W.WalkO q loose XP YP l.row.toRowW d [] (fun f vs=>PySem.call f vs) :=
 L2.walk_of (n:=63) (k:=8) (x:="_law_script") (CX:=fun _=>CX0) (sp:=fun w=>kr (K w.params)) hn (by decide) hdf ⟨rfl,by decide,by decide,rfl⟩ hY F (fun _ _ a ns hl hO hS=>⟨a,ns,rfl,hS,hO,hl,fun _=>rfl⟩) fun _ _ _ _ _ z=>z
end W43
open PySem PySem.W PyProof.Rows
set_option maxRecDepth 100000 in
set_option maxHeartbeats 0 in
theorem PySem.Challenge.cw_wordrules_k43_what_is_a_step_holds : PySem.Challenge.rw_wordrules_k43_what_is_a_step.Holds := by
 w_on; o_law; k_head; (case hw=>w_witness2)
 k_fill
 refine W43.walk (l:=PySem.Challenge.rw_wordrules_k43_what_is_a_step) rfl rfl (fun w h Y=>PySem.W.kIn_of Y) ?F
 case F =>
  intro w mg fa h KX G hmg
  refine' W43.all_mk KX G hmg (.mk' ?_ ?_ ?_ ?_) (.mk' ?_ ?_ ?_ ?_) (.mk' ?_ ?_ ?_ ?_) (.mk' ?_ ?_ ?_ ?_) (.mk' ?_ ?_ ?_ ?_) (.mk' ?_ ?_ ?_ ?_) (.mk' ?_ ?_ ?_ ?_) (.mk' ?_ ?_ ?_ ?_) (.mk' ?_ ?_ ?_ ?_) (.mk' ?_ ?_ ?_ ?_) (.mk' ?_ ?_ ?_ ?_) (.mk' ?_ ?_ ?_ ?_) (.mk' ?_ ?_ ?_ ?_) (.mk' ?_ ?_ ?_ ?_) (.mk' ?_ ?_ ?_ ?_) (.mk' ?_ ?_ ?_ ?_) (.mk' ?_ ?_ ?_ ?_) (.mk' ?_ ?_ ?_ ?_) (.mk' ?_ ?_ ?_ ?_) (.mk' ?_ ?_ ?_ ?_) (.mk' ?_ ?_ ?_ ?_) (.mk' ?_ ?_ ?_ ?_) ?_ ?_ ?_ ?_ ?_ ?_ ?_ ?_ ?_ ?_ ?_ ?_ ?_ ?_ ?_ ?_ ?_
  all_goals (try k_is)
