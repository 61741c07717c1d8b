import PyProof.Rows.All
import Wide.All
import OpenK.AllK
import Wide.FinOn
import Lean
import PyProof.EqAt
import PyProof.EqKinds
import PyProof.TupleCall
import PyProof.NeKinds
import PyProof.ConsumeWalk
import PyProof.ZipIter
import PyProof.EnumMake
import PyProof.EnumFor
import PyProof.StrWalks
import PyProof.ListStr
import PyProof.SliceStr2
import PyProof.StrBlockI
import PyProof.Rows.StrWeight2
import PyProof.Rows.ZipGen
import PyProof.Rows.StrIndexOr
import PyProof.Draws
import PyProof.RaisesStr
import PyProof.Rows.StrCountLaw
import PyProof.SumWalk
import PyProof.ReprRoads
import PyProof.ReprLen
import PyProof.CallFns
import PyProof.SumAny
import PySem.Challenge.RW_wordrules_k02_signs_kinds_rows
set_option Elab.async false
set_option linter.all false
set_option maxRecDepth 100000
namespace L2
open PySem PySem.Spec PyProof.Rows
abbrev Key := Sum Int Str
def keyIs : Key → Value → Bool
  | .inl k, v => Value.isInt k v
  | .inr x, v => Value.isStrOf x v
def keyH (w : World) : Key → Int
  | .inl k => hashInt k
  | .inr x => hashStr w x
theorem keyIs_shape : ∀ {k : Key} {v : Value}, keyIs k v = true → (∃ i t, k = Sum.inl i ∧ v = Value.int i t) ∨ (∃ x t, k = Sum.inr x ∧ v = Value.str x t)
  | .inl i, v, h => by
    obtain ⟨t, e⟩ := Value.isInt_shape (k := i) (v := v) h
    exact .inl ⟨i, t, rfl, e⟩
  | .inr x, v, h => by
    obtain ⟨t, e⟩ := Value.isStrOf_shape (x := x) (v := v) h
    exact .inr ⟨x, t, rfl, e⟩
theorem keyIs_int (i : Int) (t : Tok) : keyIs (.inl i) (.int i t) = true := by simp [keyIs, Value.isInt]
theorem keyIs_str (x : Str) (t : Tok) : keyIs (.inr x) (.str x t) = true := by simp [keyIs, Value.isStrOf]
theorem key_ll (a b : Int) : decide ((Sum.inl a : Key) = Sum.inl b) = (a == b) := by
  by_cases e : a = b
  · subst e; simp
  · have h : ¬ (Sum.inl a : Key) = Sum.inl b := fun q => e (Sum.inl.inj q)
    rw [decide_eq_false h]
    exact (beq_eq_false_iff_ne.mpr e).symm
theorem key_rr (a b : Str) : decide ((Sum.inr a : Key) = Sum.inr b) = decide (a = b) := by
  by_cases e : a = b
  · subst e; simp
  · have h : ¬ (Sum.inr a : Key) = Sum.inr b := fun q => e (Sum.inr.inj q)
    rw [decide_eq_false h, decide_eq_false e]
theorem key_lr (a : Int) (b : Str) : decide ((Sum.inl a : Key) = Sum.inr b) = false := decide_eq_false (fun q => nomatch q)
theorem key_rl (a : Str) (b : Int) : decide ((Sum.inr a : Key) = Sum.inl b) = false := decide_eq_false (fun q => nomatch q)
def mixKind (prog : Program) (w : World) : PySem.KeyKind prog w Key where
  is := keyIs
  hash := keyH w
  inj := fun v a b ha hb => by
    rcases keyIs_shape ha with ⟨i, t, rfl, rfl⟩ | ⟨x, t, rfl, rfl⟩
    · rcases keyIs_shape hb with ⟨j, u, rfl, e⟩ | ⟨y, u, rfl, e⟩
      · injection e with e1 _; rw [e1]
      · exact nomatch e
    · rcases keyIs_shape hb with ⟨j, u, rfl, e⟩ | ⟨y, u, rfl, e⟩
      · exact nomatch e
      · injection e with e1 _; rw [e1]
  byValue := fun k v h => by
    rcases keyIs_shape h with ⟨i, t, rfl, rfl⟩ | ⟨x, t, rfl, rfl⟩ <;> rfl
  pyHash := fun hv h => by
    rcases keyIs_shape hv with ⟨i, t, rfl, rfl⟩ | ⟨x, t, rfl, rfl⟩
    · exact wpAny_pyHash_int h
    · exact wpAny_pyHash_str h
  eqBool := fun hu hv h => by
    rcases keyIs_shape hu with ⟨i, t, rfl, rfl⟩ | ⟨x, t, rfl, rfl⟩
    · rcases keyIs_shape hv with ⟨j, u, rfl, rfl⟩ | ⟨y, u, rfl, rfl⟩
      · rw [key_ll] at h; exact wpAny_eqBool_int h
      · rw [key_lr] at h; exact SeqAt.EqAt.int_str i t y u _ _ _ _ h
    · rcases keyIs_shape hv with ⟨j, u, rfl, rfl⟩ | ⟨y, u, rfl, rfl⟩
      · rw [key_rl] at h; exact SeqAt.EqAt.str_int x t j u _ _ _ _ h
      · rw [key_rr] at h; exact wpAny_eqBool_str h
  «strs» := fun k x t v h => by
    rcases keyIs_shape h with ⟨i, u, rfl, e⟩ | ⟨y, u, rfl, e⟩
    · exact nomatch e
    · injection e with e1 _
      subst e1
      cases v <;> rfl
theorem mixKind_int (prog : Program) (w : World) (i : Int) (t : Tok) : (mixKind prog w).is (.inl i) (.int i t) = true := keyIs_int i t
theorem mixKind_str (prog : Program) (w : World) (x : Str) (t : Tok) : (mixKind prog w).is (.inr x) (.str x t) = true := keyIs_str x t
end L2
namespace L2
open PySem PySem.Spec PyProof.Rows
inductive V where
  | non | bl (b : Bool) | int (i : Int) | str (x : Str) | byt (b : Array UInt8) | flt (b : UInt64) | ref (a : Addr) | ty (n : String)
  deriving DecidableEq
def RelV : V → Value → Prop
  | .non, u => u = Value.none
  | .bl b, u => u = Value.bool b
  | .int i, u => ∃ t, u = Value.int i t
  | .str x, u => ∃ t, u = Value.str x t
  | .byt b, u => ∃ t, u = Value.bytes b t
  | .flt b, u => ∃ t, u = Value.float b t
  | .ref a, u => u = Value.ref a
  | .ty n, u => u = Value.type n
abbrev Vals : List V → List Value → Prop := Paired RelV
theorem Vals.length {xs : List V} {us : List Value} (r : Vals xs us) : xs.length = us.length := Paired.length r
theorem Vals.get : ∀ {xs : List V} {us : List Value} {i : Nat} {x : V}, Vals xs us → xs[i]? = some x → ∃ u, us[i]? = some u ∧ RelV x u
  | _, _, _, _, .nil, e => by simp at e
  | _, _, 0, _, .cons r _, e => by simp at e; subst e; exact ⟨_, rfl, r⟩
  | _, _, i + 1, x, .cons _ t, e => by
    obtain ⟨u, h1, h2⟩ := Vals.get (i := i) (x := x) t (by simpa using e)
    exact ⟨u, by simpa using h1, h2⟩
theorem Vals.set {x : V} {u : Value} (r : RelV x u) : ∀ {xs : List V} {us : List Value} (i : Nat), Vals xs us → Vals (xs.set i x) (us.set i u)
  | _, _, _, .nil => .nil
  | _, _, 0, .cons _ t => .cons r t
  | _, _, i + 1, .cons q t => .cons q (Vals.set r i t)
theorem Vals.append : ∀ {xs ys : List V} {us ws : List Value}, Vals xs us → Vals ys ws → Vals (xs ++ ys) (us ++ ws)
  | _, _, _, _, .nil, s => s
  | _, _, _, _, .cons r t, s => .cons r (Vals.append t s)
theorem Vals.take : ∀ {xs : List V} {us : List Value} (n : Nat), Vals xs us → Vals (xs.take n) (us.take n)
  | _, _, 0, _ => .nil
  | _, _, _ + 1, .nil => .nil
  | _, _, n + 1, .cons r t => .cons r (Vals.take n t)
theorem Vals.drop : ∀ {xs : List V} {us : List Value} (n : Nat), Vals xs us → Vals (xs.drop n) (us.drop n)
  | _, _, 0, r => r
  | _, _, _ + 1, .nil => .nil
  | _, _, n + 1, .cons _ t => Vals.drop n t
def RelO : Option V → Option Value → Prop
  | some v, some u => RelV v u
  | none, none => True
  | _, _ => False
def KV {κ : Type} : List (κ × V) → List (κ × Value) → Prop := Paired fun (p : κ × V) (q : κ × Value) => p.1 = q.1 ∧ RelV p.2 q.2
def kV : Key → V
  | .inl i => .int i
  | .inr x => .str x
inductive HO where
  | lst (xs : List V)
  | tup (xs : List V)
  | dK (kvs : List (Key × V)) | dT (kvs : List (List Key × V))
  | set (S : Int → Bool) (n : Nat)
  | ins (C dx : Addr) (fs : List (Str × V))
  | own (x : Addr)
  | xd (fs : List (Str × V))
  | met (f x : Addr)
  | rng (lo hi : Int)
  | frz (o : Obj) (u : HO)
  | tbl (ps : Array Value)
  | ext (φ : Heap → Prop)
abbrev Hp := Addr → Option HO
def upd (H : Hp) (a : Addr) (o : HO) : Hp := fun b => if b = a then some o else H b
theorem upd_same {H : Hp} {a : Addr} {o : HO} : upd H a o a = some o := by unfold upd; rw [if_pos rfl]
theorem upd_ne {H : Hp} {a b : Addr} {o : HO} (h : b ≠ a) : upd H a o b = H b := by unfold upd; rw [if_neg h]
theorem ne_of {H : Hp} {a b : Addr} {o u : HO} (h : H a = some o) (h' : H b = some u) (d : o ≠ u) : a ≠ b := by
  intro e; subst e; rw [h] at h'; exact d (Option.some.inj h')
theorem ne_of_none {H : Hp} {a b : Addr} {o : HO} (h : H a = some o) (h' : H b = none) : a ≠ b := by
  intro e; subst e; rw [h] at h'; cases h'
section
variable (P : Program) (w : World)
def ObjOk (H : Hp) (h : Heap) (a : Addr) : HO → Prop
  | .lst xs => xs.length ≤ sizeLine ∧ ∃ (its : List Value) (n : Nat), Vals xs its ∧ h.get? a = some { cls := .type "list", data := .seq its.toArray n }
  | .tup xs => xs.length ≤ sizeLine ∧ ∃ its : List Value, Vals xs its ∧ IsTup h a its.toArray
  | .dK kvs => kvs.length ≤ sizeLine ∧ (a == sysModules) = false ∧ ∃ vs, KV kvs vs ∧ h.DictOf (mixKind P w) a vs
  | .dT kvs => kvs.length ≤ sizeLine ∧ (a == sysModules) = false ∧ ∃ xs : List (List Key × Addr × Value),
      Paired (fun (p : List Key × V) (q : List Key × Addr × Value) => p.1 = q.1 ∧ H q.2.1 = some (.tup (p.1.map kV)) ∧ RelV p.2 q.2.2) kvs xs ∧
      ∃ o es ep, h.get? a = some o ∧ o.ExactDict ∧ o.data = .dict es ep ∧ es.toList = xs.map (entryOfKey (tupleKind (mixKind P w))) ∧ (xs.map (·.1)).Nodup
  | .set S n => h.SetOf (intKind P w) a S n
  | .ins C dx fs => H dx = some (.own a) ∧ fs.length ≤ 1000 ∧ dx ≠ a ∧ h.get? a = some (PySem.W.instObj C dx) ∧
      ∃ mA, h.Ns1 dx mA ∧ (∀ f, RelO (fs.lookup f) (mA f)) ∧ PySem.Within mA (fs.map (·.1))
  | .own _ => ∃ o, h.get? a = some o
  | .xd fs => ∃ mA, h.Ns1 a mA ∧ ∀ f, RelO (fs.lookup f) (mA f)
  | .rng lo hi => ∃ t u v, h.get? a = some { cls := .type "range", data := .fields #[.int lo t, .int hi u, .int 1 v] }
  | .frz o u => h.get? a = some o ∧ ObjOk H h a u
  | .tbl ps => h.get? a = some { cls := .none, data := .fields ps }
  | .met f x => h.get? a = some (PySem.W.methodObj (.ref f) (.ref x))
  | .ext φ => φ h ∧ (∃ o, h.get? a = some o) ∧ ∀ h1 h2 : Heap, φ h1 → (∀ o, h1.get? a = some o → h2.get? a = some o) → φ h2
def HOk (H : Hp) (h : Heap) : Prop := ∀ a o, H a = some o → ObjOk P w H h a o
end
section
variable {P : Program} {w : World} {H H' : Hp} {h h' : Heap} {a : Addr} {o : HO}
theorem ObjOk.lt (x : ObjOk P w H h a o) : a < h.objs.size := by
  cases o with
  | lst xs => obtain ⟨_, _, _, _, e⟩ := x; exact Heap.lt_size e
  | tup xs => obtain ⟨_, _, _, p⟩ := x; exact p.lt
  | dK kvs => obtain ⟨_, _, _, _, o, _, _, e, _⟩ := x; exact Heap.lt_size e
  | dT kvs => obtain ⟨_, _, _, _, o, _, _, e, _⟩ := x; exact Heap.lt_size e
  | set S n => obtain ⟨o, _, _, _, e, _⟩ := x; exact Heap.lt_size e
  | ins C dx fs => obtain ⟨_, _, _, e, _⟩ := x; exact Heap.lt_size e
  | own y => obtain ⟨_, e⟩ := x; exact Heap.lt_size e
  | xd fs => obtain ⟨_, ⟨_, _, _, e, _⟩, _⟩ := x; exact Heap.lt_size e
  | rng lo hi => obtain ⟨_, _, _, e⟩ := x; exact Heap.lt_size e
  | frz ob u => obtain ⟨e, _⟩ := x; exact Heap.lt_size e
  | tbl ps => exact Heap.lt_size (show h.get? a = some _ from x)
  | met f y => exact Heap.lt_size (show h.get? a = some _ from x)
  | ext φ => obtain ⟨_, ⟨_, e⟩, _⟩ := x; exact Heap.lt_size e
theorem Paired.mapP {α β : Type} {F G : α → β → Prop} : ∀ {l₁ : List α} {l₂ : List β}, Paired F l₁ l₂ → (∀ a b, F a b → G a b) → Paired G l₁ l₂
  | _, _, .nil, _ => .nil
  | _, _, .cons r t, f => .cons (f _ _ r) (Paired.mapP t f)
theorem ObjOk.stay (x : ObjOk P w H h a o) (k : ∀ b u, (b = a ∨ H b = some (.own a)) → h.get? b = some u → h'.get? b = some u)
    (ho : ∀ b, H b = some (.own a) → H' b = some (.own a)) (ht : ∀ b xs, H b = some (.tup xs) → H' b = some (.tup xs)) : ObjOk P w H' h' a o := by
  induction o with
  | lst xs => obtain ⟨z, its, n, r, e⟩ := x; exact ⟨z, its, n, r, k _ _ (.inl rfl) e⟩
  | tup xs => obtain ⟨z, its, r, ob, e, c⟩ := x; exact ⟨z, its, r, ob, k _ _ (.inl rfl) e, c⟩
  | dK kvs => obtain ⟨z, y, vs, r, ob, es, ep, e, c⟩ := x; exact ⟨z, y, vs, r, ob, es, ep, k _ _ (.inl rfl) e, c⟩
  | dT kvs =>
    obtain ⟨z, y, xs, r, ob, es, ep, e, c⟩ := x
    exact ⟨z, y, xs, Paired.mapP r fun p q z => ⟨z.1, ht _ _ z.2.1, z.2.2⟩, ob, es, ep, k _ _ (.inl rfl) e, c⟩
  | set S n => obtain ⟨ob, es, ep, t, e, c⟩ := x; exact ⟨ob, es, ep, t, k _ _ (.inl rfl) e, c⟩
  | ins C dx fs =>
    obtain ⟨d, z, ne, e, mA, ⟨od, es, ep, e2, c⟩, r⟩ := x
    exact ⟨ho _ d, z, ne, k _ _ (.inl rfl) e, mA, ⟨od, es, ep, k _ _ (.inr d) e2, c⟩, r⟩
  | own y => obtain ⟨ob, e⟩ := x; exact ⟨ob, k _ _ (.inl rfl) e⟩
  | xd fs => obtain ⟨mA, ⟨od, es, ep, e, c⟩, r⟩ := x; exact ⟨mA, ⟨od, es, ep, k _ _ (.inl rfl) e, c⟩, r⟩
  | rng lo hi => obtain ⟨t, u, v, e⟩ := x; exact ⟨t, u, v, k _ _ (.inl rfl) e⟩
  | frz ob u ih => obtain ⟨e, q⟩ := x; exact ⟨k _ _ (.inl rfl) e, ih q⟩
  | tbl ps =>
    have e : h.get? a = some { cls := .none, data := .fields ps } := x
    show h'.get? a = some { cls := .none, data := .fields ps }
    exact k a _ (.inl rfl) e
  | met f y =>
    have e : h.get? a = some (PySem.W.methodObj (.ref f) (.ref y)) := x
    show h'.get? a = some (PySem.W.methodObj (.ref f) (.ref y))
    exact k a _ (.inl rfl) e
  | ext φ => obtain ⟨p, ⟨o, e⟩, st⟩ := x; exact ⟨st _ _ p fun o q => k _ _ (.inl rfl) q, ⟨o, k _ _ (.inl rfl) e⟩, st⟩
theorem HOk.lt (x : HOk P w H h) (e : H a = some o) : a < h.objs.size := (x a o e).lt
theorem HOk.fresh (x : HOk P w H h) (e : h.objs.size ≤ a) : H a = none := by
  cases q : H a with
  | none => rfl
  | some u => exact absurd (Nat.lt_of_lt_of_le (x.lt q) e) (Nat.lt_irrefl _)
theorem HOk.kept (x : HOk P w H h) (k : ∀ b u, h.get? b = some u → h'.get? b = some u) : HOk P w H h' := fun a o e =>
  (x a o e).stay (fun b u _ q => k b u q) (fun _ q => q) fun _ _ q => q
theorem HOk.laid (x : HOk P w H h) (k : ∀ b u, h.get? b = some u → h'.get? b = some u) (hp : h.objs.size ≤ a) (new : ObjOk P w (upd H a o) h' a o) : HOk P w (upd H a o) h' := fun b u e => by
  have hn := x.fresh hp
  by_cases hb : b = a
  · subst hb; rw [upd_same] at e; cases e; exact new
  · rw [upd_ne hb] at e
    exact (x b u e).stay (fun c v _ q => k c v q) (fun c q => by rw [upd_ne (ne_of_none q hn)]; exact q) fun c xs q => by rw [upd_ne (ne_of_none q hn)]; exact q
end
def Rd (H : Hp) (a : Addr) (u : HO) : Prop := H a = some u ∨ ∃ o, H a = some (.frz o u)
theorem Rd.of {H : Hp} {a : Addr} {u : HO} (h : H a = some u) : Rd H a u := .inl h
theorem Rd.ok {P : Program} {w : World} {H : Hp} {h : Heap} {a : Addr} {u : HO} (r : Rd H a u) (x : HOk P w H h) : ObjOk P w H h a u := by
  rcases r with r | ⟨o, r⟩
  · exact x a u r
  · obtain ⟨_, q⟩ := x a _ r
    exact q
def Mut : Option HO → Prop
  | some (.lst _) => True
  | some (.dK _) => True
  | some (.dT _) => True
  | some (.set _ _) => True
  | some (.ins _ _ _) => True
  | some (.ext _) => True
  | _ => False
section
variable {P : Program} {w : World} {H : Hp} {h h' : Heap} {x e : Addr} {o' : HO}
theorem HOk.write (ok : HOk P w H h) (mu : Mut (H x)) (he : e = x ∨ H e = some (.own x)) (k : ∀ b u, b ≠ e → h.get? b = some u → h'.get? b = some u) (heo : ∃ u, h'.get? e = some u)
    (new : ObjOk P w (upd H x o') h' x o') : HOk P w (upd H x o') h' := fun b u q => by
  have nown : ∀ c y, H c = some (.own y) → c ≠ x := fun c y r z => by subst z; rw [r] at mu; exact mu
  have ntup : ∀ c xs, H c = some (.tup xs) → c ≠ x := fun c xs r z => by subst z; rw [r] at mu; exact mu
  by_cases hb : b = x
  · subst hb; rw [upd_same] at q; cases q; exact new
  · rw [upd_ne hb] at q
    by_cases hbe : b = e
    · have q' : H b = some (.own x) := by
        rcases he with z | z
        · exact absurd (hbe.trans z) hb
        · rw [hbe]; exact z
      rw [q] at q'; cases q'
      obtain ⟨v, hv⟩ := heo
      exact ⟨v, by rw [hbe]; exact hv⟩
    · refine (ok b u q).stay (fun c v hc r => k c v ?_ r) (fun c r => by rw [upd_ne (nown c b r)]; exact r) fun c xs r => by rw [upd_ne (ntup c xs r)]; exact r
      rcases hc with rfl | hc
      · exact hbe
      · rintro rfl
        rcases he with z | z
        · exact nown c b hc z
        · rw [hc] at z; cases z; exact hb rfl
end
structure Un (fs ex : List Addr) (H H' : Hp) (h h' : Heap) : Prop where
  keep : ∀ b o, h.get? b = some o → H b = none → b ∉ fs → b ∉ ex → h'.get? b = some o
  slot : ∀ b o, h.get? b = some o → H b = none → b ∈ fs → b ∉ ex → ∃ sl, h'.get? b = some { o with slots := sl }
  free : ∀ b o, h.get? b = some o → H b = none → b ∉ ex → H' b = none
  there : ∀ b o, h.get? b = some o → b ∉ ex → ∃ o', h'.get? b = some o'
  tups : ∀ b xs, H b = some (.tup xs) → H' b = some (.tup xs)
  frzs : ∀ b o u, H b = some (.frz o u) → H' b = some (.frz o u)
  tbls : ∀ b ps, H b = some (.tbl ps) → ∃ more, H' b = some (.tbl (ps ++ more))
section
variable {fs fs' ex ex' : List Addr} {H H1 H2 : Hp} {h h1 h2 h' : Heap} {a x e : Addr} {o : HO}
theorem Un.any (u : Un fs ex H H1 h h1) {b : Addr} {ob : Obj} (q : h.get? b = some ob) (n : H b = none) (hx : b ∉ ex) : ∃ sl, h1.get? b = some { ob with slots := sl } := by
  by_cases hb : b ∈ fs
  · exact u.slot b ob q n hb hx
  · exact ⟨ob.slots, u.keep b ob q n hb hx⟩
theorem Un.trans (a : Un fs ex H H1 h h1) (b : Un fs ex H1 H2 h1 h2) : Un fs ex H H2 h h2 where
  keep := fun c ob q n hc hx => b.keep c ob (a.keep c ob q n hc hx) (a.free c ob q n hx) hc hx
  slot := fun c ob q n hc hx => by
    obtain ⟨sl, e1⟩ := a.slot c ob q n hc hx
    obtain ⟨sl', e2⟩ := b.slot c _ e1 (a.free c ob q n hx) hc hx
    exact ⟨sl', e2⟩
  free := fun c ob q n hx => by
    obtain ⟨o', e1⟩ := a.there c ob q hx
    exact b.free c o' e1 (a.free c ob q n hx) hx
  there := fun c ob q hx => by
    obtain ⟨o', e1⟩ := a.there c ob q hx
    exact b.there c o' e1 hx
  tups := fun c xs q => b.tups c xs (a.tups c xs q)
  frzs := fun c ob xs q => b.frzs c ob xs (a.frzs c ob xs q)
  tbls := fun c ps q => by
    obtain ⟨m1, e1⟩ := a.tbls c ps q
    obtain ⟨m2, e2⟩ := b.tbls c _ e1
    exact ⟨m1 ++ m2, by rw [e2, Array.append_assoc]⟩
theorem Un.kept (k : ∀ b u, h.get? b = some u → h'.get? b = some u) : Un fs ex H H h h' :=
  ⟨fun b ob q _ _ _ => k b ob q, fun b ob q _ _ _ => ⟨ob.slots, k b ob q⟩, fun _ _ _ n _ => n, fun b ob q _ => ⟨ob, k b ob q⟩, fun _ _ q => q, fun _ _ _ q => q, fun _ ps q => ⟨#[], by rw [q]; simp⟩⟩
theorem Un.refl : Un fs ex H H h h := Un.kept fun _ _ q => q
theorem Un.laid (k : ∀ b u, h.get? b = some u → h'.get? b = some u) (hp : h.objs.size ≤ a) (hn : H a = none) : Un fs ex H (upd H a o) h h' where
  keep := fun b u q _ _ _ => k b u q
  slot := fun b u q _ _ _ => ⟨u.slots, k b u q⟩
  free := fun b u q n _ => by rw [upd_ne (Nat.ne_of_lt (Nat.lt_of_lt_of_le (Heap.lt_size q) hp))]; exact n
  there := fun b u q _ => ⟨u, k b u q⟩
  tups := fun b xs q => by rw [upd_ne (ne_of_none q hn)]; exact q
  frzs := fun b u xs q => by rw [upd_ne (ne_of_none q hn)]; exact q
  tbls := fun b ps q => ⟨#[], by rw [upd_ne (ne_of_none q hn), q]; simp⟩
theorem Un.write (mu : Mut (H x)) (he : e = x ∨ H e = some (.own x)) (k : ∀ b u, b ≠ e → h.get? b = some u → h'.get? b = some u) (heo : ∃ u, h'.get? e = some u) : Un fs ex H (upd H x o) h h' := by
  have hx : ∀ b, H b = none → b ≠ x := fun b n z => by subst z; rw [n] at mu; exact mu
  have hb : ∀ b, H b = none → b ≠ e := fun b n z => by
    subst z
    rcases he with r | r
    · exact hx b n r
    · rw [n] at r; cases r
  have hm : ∀ b u, H b = some u → ¬ Mut (some u) → b ≠ x := fun b u q nm z => by subst z; rw [q] at mu; exact nm mu
  refine ⟨fun b u q n _ _ => k b u (hb b n) q, fun b u q n _ _ => ⟨u.slots, k b u (hb b n) q⟩, fun b u q n _ => by rw [upd_ne (hx b n)]; exact n, fun b u q _ => ?_,
    fun b xs q => by rw [upd_ne (hm b _ q fun z => z)]; exact q, fun b u xs q => by rw [upd_ne (hm b _ q fun z => z)]; exact q, fun b ps q => ⟨#[], by rw [upd_ne (hm b _ q fun z => z), q]; simp⟩⟩
  by_cases hbe : b = e
  · subst hbe; exact heo
  · exact ⟨u, k b u hbe q⟩
theorem Un.mono (u : Un fs ex H H1 h h1) (hs : ∀ b ∈ fs, b ∈ fs') (hx : ∀ b ∈ ex, b ∈ ex') : Un fs' ex' H H1 h h1 :=
  ⟨fun b ob q n hb he => u.keep b ob q n (fun z => hb (hs b z)) fun z => he (hx b z), fun _ _ q n _ he => u.any q n fun z => he (hx _ z), fun b ob q n he => u.free b ob q n fun z => he (hx b z), fun b ob q he => u.there b ob q fun z => he (hx b z), u.tups, u.frzs, u.tbls⟩
end
def trk (h : Heap) (H : Hp) : List Addr := (List.range h.objs.size).filter fun a => (H a).isSome
def hidT (h : Heap) (H : Hp) : Heap := PySem.W.hideAll h (trk h H)
theorem hidT_size (h : Heap) (H : Hp) : (hidT h H).objs.size = h.objs.size := PySem.W.hideAll_size _ _
theorem hidT_get {h : Heap} {H : Hp} {b : Addr} {o : Obj} (e : h.get? b = some o) (n : H b = none) : (hidT h H).get? b = some o :=
  PySem.W.hideAll_get _ e fun hm => by
    have q : (H b).isSome = true := (List.mem_filter.mp hm).2
    rw [n] at q; simp at q
theorem of_hidT {h : Heap} {H : Hp} {b : Addr} {o : Obj} (e : (hidT h H).get? b = some o) : h.get? b = some o ∧ H b = none := by
  have e' : h.get? b = some o := PySem.W.of_hideAll (trk h H) e
  refine ⟨e', ?_⟩
  cases q : H b with
  | none => rfl
  | some x =>
    have hm : b ∈ trk h H := List.mem_filter.mpr ⟨List.mem_range.mpr (Heap.lt_size e'), by simp [q]⟩
    have z : (hidT h H).get? b = none := PySem.W.hideAll_none (trk h H) hm
    rw [z] at e; cases e
def allNews (g h : Heap) (L : Addr) : List (Addr × Obj) := (List.range h.objs.size).filterMap fun a => if a = L ∨ (g.get? a).isSome = true then none else (h.get? a).map fun o => (a, o)
def rest (g h : Heap) (L d : Addr) : List (Addr × Obj) := (allNews g h L).filter fun p => decide (p.1 ≠ d)
end L2
namespace L2
open PySem PySem.Spec PyProof.Rows
structure Mod (K : PySem.W.Frag) (mg : Str → Option Value) (base : Heap) : Prop where
  kin : K.In base
  glob : base.Ns mainGlobals mg
  blt : ∃ mb, base.Ns builtinsNs mb ∧ ∀ x : Str, x ≠ "__name__" → mb x = bootBuiltins x
  nolimit : base.NoLimit
structure Cx where
  prog : Program
  w : World
  K : PySem.W.Frag
  mg : Str → Option Value
  base : Heap
  A : Around
  N : List Str
  s₀ : Shared
  H₀ : Hp
  env : Env
  outer : List Env
  stack : List Env
  ex : List Addr
  fn : Str → Bool
  calm : Bool
  pn : List (Addr × Obj)
  xe : Value → Shared → Prop
def frs (l : List Env) : List Addr := l.filterMap (·.frame)
abbrev Cx.fs (X : Cx) : List Addr := frs X.outer
def Vis (sc : Scope) (x : Str) : Prop := sc.names.lookup x = some .local ∨ sc.names.lookup x = some .cell ∨ sc.names.lookup x = some .free
def Loc (sc : Scope) (x : Str) : Prop := sc.names.lookup x = some .local ∨ sc.names.lookup x = some .cell
def Look (env : Env) (h : Heap) (m : Str → Option Value) (x : Str) (u : Value) : Prop :=
  (env.kindOf x = some .local ∧ m x = some u) ∨ ((env.kindOf x = some .cell ∨ env.kindOf x = some .free) ∧ ∃ c, env.cells.lookup x = some c ∧ h.IsCell c (some u))
structure Cx.Ok (X : Cx) : Prop where
  mod : Mod X.K X.mg X.base
  kind : X.env.scope.kind = .function
  glob : X.env.globals = mainGlobals
  blt : X.env.builtins = builtinsNs
  above : X.s₀.heap.objs.size ≤ X.env.locals
  inj : ∀ x y c, X.env.cells.lookup x = some c → X.env.cells.lookup y = some c → x = y
  has : ∀ x, (X.env.kindOf x = some .cell ∨ X.env.kindOf x = some .free) → ∃ c, X.env.cells.lookup x = some c
  cab : ∀ x c, X.fn x = true → X.env.cells.lookup x = some c → X.s₀.heap.objs.size ≤ c
  hd : X.calm = true → X.A.handled = none
  frames : X.A.frames = some X.stack
  stk : X.stack = X.outer ∨ (X.stack = X.env :: X.outer ∧ X.env.frame = some X.env.locals)
  exf : ∀ b ∈ X.ex, b ≠ X.env.locals ∧ ∀ x c, X.env.cells.lookup x = some c → c ≠ b
  bs : ∀ b o, X.base.get? b = some o → X.s₀.heap.get? b = some o ∧ X.H₀ b = none
  bsz : X.base.objs.size ≤ X.s₀.heap.objs.size
  noex : ∀ b o, X.base.get? b = some o → b ∉ X.ex
  exfs : ∀ b ∈ X.ex, b ∉ X.fs
  funs : X.s₀.heap.FunFrames X.base X.outer
  frf : ∀ b ∈ X.fs, X.H₀ b = none
structure Inv (X : Cx) (pins : List (Addr × Obj)) (σ : List (Option V)) (H : Hp) (s : Shared) : Prop where
  ok : X.Ok
  os : s.os = X.s₀.os
  bare : AllBare s.gens
  base : Un X.fs X.ex X.H₀ H X.s₀.heap s.heap
  loc : ∃ m, s.heap.Ns X.env.locals m ∧ ∀ (i : Nat) (x : Str) (v : V), X.N[i]? = some x → σ[i]? = some (some v) → Vis X.env.scope x → ∃ u, RelV v u ∧ Look X.env s.heap m x u
  cell : ∀ x c, X.env.cells.lookup x = some c → ∃ v, s.heap.IsCell c v
  free : H X.env.locals = none
  freeC : ∀ x c, X.env.cells.lookup x = some c → H c = none
  pin : ∀ p ∈ X.pn ++ pins, s.heap.get? p.1 = some p.2 ∧ H p.1 = none ∧ p.1 ≠ X.env.locals ∧ p.1 ∉ X.fs ∧ ∀ v, p.2.data ≠ .cell v
  hok : HOk X.prog X.w H s.heap
  len : σ.length = X.N.length
section
variable {X : Cx} {pins : List (Addr × Obj)} {σ : List (Option V)} {H H' : Hp} {s : Shared} {h' : Heap}
theorem Cx.Ok.nofr (ok : X.Ok) {b : Addr} {o : Obj} (e : X.base.get? b = some o) : b ∉ X.fs := fun hb => by
  have := (ok.funs.mem hb).1
  rw [e] at this; cases this
theorem Inv.bs (I : Inv X pins σ H s) : ∀ b o, X.base.get? b = some o → s.heap.get? b = some o ∧ H b = none := fun b o e =>
  ⟨I.base.keep b o (I.ok.bs b o e).1 (I.ok.bs b o e).2 (I.ok.nofr e) (I.ok.noex b o e), I.base.free b o (I.ok.bs b o e).1 (I.ok.bs b o e).2 (I.ok.noex b o e)⟩
theorem Inv.bk (I : Inv X pins σ H s) : ∀ b o, X.base.get? b = some o → s.heap.get? b = some o := fun b o e => (I.bs b o e).1
theorem Inv.mod (I : Inv X pins σ H s) : Mod X.K X.mg X.base := I.ok.mod
theorem Inv.kIn (I : Inv X pins σ H s) : X.K.In s.heap := I.ok.mod.kin.keeps I.bk
theorem Inv.nolimit (I : Inv X pins σ H s) : s.heap.NoLimit := I.ok.mod.nolimit.keeps I.bk
theorem Inv.fr (I : Inv X pins σ H s) : ∃ m, Fr X.base X.env.locals s.heap m :=
  let ⟨m, hn, _⟩ := I.loc
  ⟨m, hn, I.bk, Nat.le_trans I.ok.bsz I.ok.above⟩
theorem Inv.lt (I : Inv X pins σ H s) : X.env.locals < s.heap.objs.size := let ⟨_, hn, _⟩ := I.loc; hn.lt
theorem Inv.sz (I : Inv X pins σ H s) : X.s₀.heap.objs.size ≤ s.heap.objs.size := Nat.le_trans I.ok.above (Nat.le_of_lt I.lt)
theorem Inv.nofs (I : Inv X pins σ H s) {a : Addr} (h : s.heap.objs.size ≤ a) : a ∉ X.fs := fun hb => by
  obtain ⟨_, o, ho, _⟩ := I.ok.funs.mem hb
  exact absurd (Nat.lt_of_lt_of_le (Heap.lt_size ho) (Nat.le_trans I.sz h)) (Nat.lt_irrefl _)
theorem Inv.cne (I : Inv X pins σ H s) : ∀ x c, X.env.cells.lookup x = some c → c ≠ X.env.locals := fun x c e z => by
  obtain ⟨v, o, ho, hd⟩ := I.cell x c e
  obtain ⟨m, ⟨o', es, ep, ho', hd', _⟩, _⟩ := I.loc
  rw [z, ho'] at ho; cases ho; rw [hd'] at hd; cases hd
theorem Inv.funs (I : Inv X pins σ H s) : s.heap.FunFrames X.base X.outer := by
  have all : ∀ (l : List Env), (∀ b ∈ frs l, b ∈ X.fs) → X.s₀.heap.FunFrames X.base l → s.heap.FunFrames X.base l := by
    intro l
    induction l with
    | nil => intro _ _; trivial
    | cons env r ih =>
      intro hs hl
      obtain ⟨hk, ⟨L, o, hf, hn, ho, hd⟩, hr⟩ := hl
      have hL : L ∈ X.fs := hs L (by unfold frs; rw [List.filterMap_cons, hf]; exact List.mem_cons_self)
      obtain ⟨sl, e⟩ := I.base.slot L o ho (I.ok.frf L hL) hL fun z => I.ok.exfs L z hL
      exact ⟨hk, ⟨L, _, hf, hn, e, hd⟩, ih (fun b hb => hs b (by unfold frs; rw [List.filterMap_cons, hf]; exact List.mem_cons_of_mem _ hb)) hr⟩
  exact all X.outer (fun _ hb => hb) I.ok.funs
theorem Inv.stack (I : Inv X pins σ H s) : s.heap.FunFrames X.base X.stack := by
  rcases I.ok.stk with e | ⟨e, hf⟩
  · rw [e]; exact I.funs
  · rw [e]
    obtain ⟨m, hn, _⟩ := I.loc
    refine .cons (by rw [I.ok.kind]; decide) hf hn ?_ I.funs
    exact Heap.get?_none_of_le (Nat.le_trans I.ok.bsz I.ok.above)
theorem Inv.stkSub (I : Inv X pins σ H s) : ∀ b ∈ frs X.stack, b ∈ X.env.locals :: X.fs := fun b hb => by
  rcases I.ok.stk with e | ⟨e, hf⟩
  · rw [e] at hb; exact List.mem_cons_of_mem _ hb
  · rw [e] at hb
    unfold frs at hb
    rw [List.filterMap_cons, hf] at hb
    exact hb
theorem Inv.stkFree (I : Inv X pins σ H s) : ∀ b ∈ frs X.stack, H b = none := fun b hb => by
  rcases List.mem_cons.mp (I.stkSub b hb) with e | hb
  · rw [e]; exact I.free
  · obtain ⟨_, o, ho, _⟩ := I.ok.funs.mem hb
    exact I.base.free b o ho (I.ok.frf b hb) fun z => I.ok.exfs b z hb
theorem Inv.step {g' : Array GenState} {t' : Nat} {d' : Drawn} {ch : List Addr} (I : Inv X pins σ H s)
    (hch : ∀ b ∈ ch, (b ∈ X.ex ∨ X.s₀.heap.objs.size ≤ b) ∧ b ≠ X.env.locals ∧ (∀ x c, X.env.cells.lookup x = some c → c ≠ b) ∧ ∀ p ∈ X.pn ++ pins, p.1 ≠ b)
    (keep : ∀ b o, b ≠ X.env.locals → b ∉ X.fs → b ∉ ch → s.heap.get? b = some o → H b = none → h'.get? b = some o)
    (slot : ∀ b o, b ≠ X.env.locals → b ∈ X.fs → b ∉ ch → s.heap.get? b = some o → H b = none → ∃ sl, h'.get? b = some { o with slots := sl }) (free : ∀ b o, b ∉ ch → s.heap.get? b = some o → H b = none → H' b = none)
    (there : ∀ b o, b ∉ ch → s.heap.get? b = some o → ∃ o', h'.get? b = some o')
    (tups : ∀ b xs, H b = some (.tup xs) → H' b = some (.tup xs)) (frzs : ∀ b o u, H b = some (.frz o u) → H' b = some (.frz o u)) (tbls : ∀ b ps, H b = some (.tbl ps) → ∃ more, H' b = some (.tbl (ps ++ more)))
    (ns : ∀ m, s.heap.Ns X.env.locals m → h'.Ns X.env.locals m) (hok : HOk X.prog X.w H' h') (hg : AllBare g') :
    Inv X pins σ H' { s with heap := h', gens := g', drawn := d', toks := t' } := by
  have neL : ∀ b o, X.s₀.heap.get? b = some o → b ≠ X.env.locals := fun b o e => Nat.ne_of_lt (Nat.lt_of_lt_of_le (Heap.lt_size e) I.ok.above)
  have neC : ∀ b o, X.s₀.heap.get? b = some o → b ∉ X.ex → b ∉ ch := fun b o e hx hb => by
    rcases (hch b hb).1 with z | z
    · exact hx z
    · exact absurd (Nat.lt_of_lt_of_le (Heap.lt_size e) z) (Nat.lt_irrefl _)
  have cellK : ∀ x c, X.env.cells.lookup x = some c → ∀ v, s.heap.IsCell c v → h'.IsCell c v := fun x c e v ⟨o, ho, hd⟩ => by
    have nch : c ∉ ch := fun z => (hch c z).2.2.1 x c e rfl
    by_cases hc : c ∈ X.fs
    · obtain ⟨sl, q⟩ := slot c o (I.cne x c e) hc nch ho (I.freeC x c e)
      exact ⟨_, q, hd⟩
    · exact ⟨o, keep c o (I.cne x c e) hc nch ho (I.freeC x c e), hd⟩
  refine ⟨I.ok, I.os, hg, ⟨fun b o e n hb hx => ?_, fun b o e n hb hx => ?_, fun b o e n hx => ?_, fun b o e hx => ?_, fun b xs e => tups b xs (I.base.tups b xs e), fun b o xs e => frzs b o xs (I.base.frzs b o xs e), fun b ps e => ?_⟩, ?_, fun x c e => ?_, ?_, fun x c e => ?_, fun p hp => ?_, hok, I.len⟩
  · exact keep b o (neL b o e) hb (neC b o e hx) (I.base.keep b o e n hb hx) (I.base.free b o e n hx)
  · obtain ⟨sl, e1⟩ := I.base.slot b o e n hb hx
    obtain ⟨sl', e2⟩ := slot b _ (neL b o e) hb (neC b o e hx) e1 (I.base.free b o e n hx)
    exact ⟨sl', e2⟩
  · obtain ⟨o', e1⟩ := I.base.there b o e hx
    exact free b o' (neC b o e hx) e1 (I.base.free b o e n hx)
  · obtain ⟨o', e1⟩ := I.base.there b o e hx
    exact there b o' (neC b o e hx) e1
  · obtain ⟨m1, e1⟩ := I.base.tbls b ps e
    obtain ⟨m2, e2⟩ := tbls b _ e1
    exact ⟨m1 ++ m2, by rw [e2, Array.append_assoc]⟩
  · obtain ⟨m, hn, hl⟩ := I.loc
    refine ⟨m, ns m hn, fun i x v e1 e2 e3 => ?_⟩
    obtain ⟨u, r, l⟩ := hl i x v e1 e2 e3
    refine ⟨u, r, ?_⟩
    rcases l with l | ⟨k, c, e, z⟩
    · exact .inl l
    · exact .inr ⟨k, c, e, cellK x c e _ z⟩
  · obtain ⟨v, z⟩ := I.cell x c e
    exact ⟨v, cellK x c e v z⟩
  · obtain ⟨m, ⟨o, _, _, ho, _⟩, _⟩ := I.loc
    exact free _ o (fun z => (hch _ z).2.1 rfl) ho I.free
  · obtain ⟨v, o, ho, hd⟩ := I.cell x c e
    exact free c o (fun z => (hch c z).2.2.1 x c e rfl) ho (I.freeC x c e)
  · obtain ⟨e, n, ne, nf, d⟩ := I.pin p hp
    have nch : p.1 ∉ ch := fun z => (hch p.1 z).2.2.2 p hp rfl
    exact ⟨keep p.1 p.2 ne nf nch e n, free p.1 p.2 nch e n, ne, nf, d⟩
theorem Inv.un {t' : Nat} (I : Inv X pins σ H s) (u : Un X.fs [] H H' s.heap h') (hok : HOk X.prog X.w H' h') : Inv X pins σ H' { s with heap := h', toks := t' } := by
  obtain ⟨m, ⟨o, es, ep, ho, r⟩, _⟩ := id I.loc
  obtain ⟨sl, hL⟩ := u.any ho I.free (by simp)
  exact I.step (g' := s.gens) (d' := s.drawn) (ch := []) (fun _ z => nomatch z) (fun b o _ hb _ e n => u.keep b o e n hb (by simp)) (fun b o _ hb _ e n => u.slot b o e n hb (by simp)) (fun b o _ e n => u.free b o e n (by simp)) (fun b o _ e => u.there b o e (by simp)) u.tups u.frzs u.tbls (fun m' hm => by
    obtain ⟨o', es', ep', ho', r'⟩ := hm
    rw [ho] at ho'; cases ho'
    exact ⟨_, es', ep', hL, r'⟩) hok I.bare
theorem Inv.call {g' : Array GenState} {t' : Nat} {d' : Drawn} {ch : List Addr} (I : Inv X pins σ H s) (u : Un (frs X.stack) ch H H' s.heap h') (hok : HOk X.prog X.w H' h') (hg : AllBare g')
    (hch : ∀ b ∈ ch, (b ∈ X.ex ∨ X.s₀.heap.objs.size ≤ b) ∧ b ≠ X.env.locals ∧ (∀ x c, X.env.cells.lookup x = some c → c ≠ b) ∧ ∀ p ∈ X.pn ++ pins, p.1 ≠ b) :
    Inv X pins σ H' { s with heap := h', gens := g', drawn := d', toks := t' } := by
  obtain ⟨m, ⟨o, es, ep, ho, r⟩, _⟩ := id I.loc
  obtain ⟨sl, hL⟩ := u.any ho I.free fun z => (hch _ z).2.1 rfl
  exact I.step (ch := ch) hch (fun b o hL hb hc e n => u.keep b o e n (fun z => (List.mem_cons.mp (I.stkSub b z)).elim hL hb) hc) (fun b o _ _ hc e n => u.any e n hc) (fun b o hc e n => u.free b o e n hc) (fun b o hc e => u.there b o e hc) u.tups u.frzs u.tbls (fun m' hm => by
    obtain ⟨o', es', ep', ho', r'⟩ := hm
    rw [ho] at ho'; cases ho'
    exact ⟨_, es', ep', hL, r'⟩) hok hg
theorem Inv.turned {t' : Nat} {it : Addr} (I : Inv X pins σ H s) (k : ∀ b o, b ≠ it → s.heap.get? b = some o → h'.get? b = some o) (hn : H it = none) (hL : it ≠ X.env.locals)
    (h1 : it ∈ X.ex ∨ X.s₀.heap.objs.size ≤ it) (h2 : ∀ x c, X.env.cells.lookup x = some c → c ≠ it) (h3 : ∀ p ∈ X.pn ++ pins, p.1 ≠ it) : Inv X pins σ H { s with heap := h', toks := t' } := by
  have nit : ∀ b u, H b = some u → b ≠ it := fun b u e z => by rw [z, hn] at e; cases e
  refine I.step (g' := s.gens) (d' := s.drawn) (ch := [it]) (fun b hb => ?_) (fun b o _ _ hc e _ => k b o (fun z => hc (by simp [z])) e) (fun b o _ _ hc e _ => ⟨o.slots, k b o (fun z => hc (by simp [z])) e⟩) (fun _ _ _ _ n => n)
    (fun b o hc e => ⟨o, k b o (fun z => hc (by simp [z])) e⟩) (fun _ _ e => e) (fun _ _ _ e => e) (fun b ps e => ⟨#[], by rw [e]; simp⟩) (fun m hm => ?_) (fun b u e => ?_) I.bare
  · have e : b = it := by simpa using hb
    subst e
    exact ⟨h1, hL, h2, h3⟩
  · obtain ⟨o, es, ep, ho, r⟩ := hm
    exact ⟨o, es, ep, k _ o (Ne.symm hL) ho, r⟩
  · refine (I.hok b u e).stay (fun c v hc q => k c v ?_ q) (fun _ q => q) fun _ _ q => q
    rcases hc with z | z
    · rw [z]; exact nit b u e
    · exact nit c _ z
theorem Inv.tok (I : Inv X pins σ H s) (t : Nat) : Inv X pins σ H { s with toks := t } := I.un (h' := s.heap) (t' := t) Un.refl I.hok
theorem Inv.kept {t' : Nat} (I : Inv X pins σ H s) (k : ∀ b u, s.heap.get? b = some u → h'.get? b = some u) : Inv X pins σ H { s with heap := h', toks := t' } := I.un (Un.kept k) (I.hok.kept k)
theorem Inv.laid {a : Addr} {o : HO} {t' : Nat} (I : Inv X pins σ H s) (k : ∀ b u, s.heap.get? b = some u → h'.get? b = some u) (hp : s.heap.objs.size ≤ a) (new : ObjOk X.prog X.w (upd H a o) h' a o) :
    Inv X pins σ (upd H a o) { s with heap := h', toks := t' } := I.un (Un.laid k hp (I.hok.fresh hp)) (I.hok.laid k hp new)
theorem Inv.write {x e : Addr} {o : HO} {t' : Nat} (I : Inv X pins σ H s) (mu : Mut (H x)) (he : e = x ∨ H e = some (.own x)) (k : ∀ b u, b ≠ e → s.heap.get? b = some u → h'.get? b = some u) (heo : ∃ u, h'.get? e = some u)
    (new : ObjOk X.prog X.w (upd H x o) h' x o) : Inv X pins σ (upd H x o) { s with heap := h', toks := t' } := I.un (Un.write mu he k heo) (I.hok.write mu he k heo new)
theorem Inv.pins_of {pins' : List (Addr × Obj)} (I : Inv X pins σ H s) (h : ∀ p ∈ pins', s.heap.get? p.1 = some p.2 ∧ H p.1 = none ∧ p.1 ≠ X.env.locals ∧ p.1 ∉ X.fs ∧ ∀ v, p.2.data ≠ .cell v) : Inv X pins' σ H s :=
  ⟨I.ok, I.os, I.bare, I.base, I.loc, I.cell, I.free, I.freeC, fun p hp => (List.mem_append.mp hp).elim (fun z => I.pin p (List.mem_append_left _ z)) (h p), I.hok, I.len⟩
theorem nodup_ix {N : List Str} (hN : N.Nodup) {i j : Nat} {x : Str} (a : N[i]? = some x) (b : N[j]? = some x) : i = j := by
  obtain ⟨h1, e1⟩ := List.getElem?_eq_some_iff.mp a
  obtain ⟨h2, e2⟩ := List.getElem?_eq_some_iff.mp b
  exact (List.getElem_inj hN).mp (e1.trans e2.symm)
theorem store_ok2 {M : Model} {A : Around} {E : Value → Shared → Prop} {i : Nat} {x : Str} {v : V} {u : Value} {Q : Unit → Shared → Prop} (I : Inv X pins σ H s) (hN : X.N.Nodup) (hi : X.N[i]? = some x) (hx : Loc X.env.scope x) (r : RelV v u)
    (h : ∀ s', Inv X pins (σ.set i (some v)) H s' → (∃ a, Heap.SameBut a s.heap s'.heap ∧ (a = X.env.locals ∨ X.env.cells.lookup x = some a)) → Q () s') (hf : X.fn x = true ∨ X.env.scope.names.lookup x = some .local := by first | exact .inl rfl | exact .inr rfl | assumption) : wpAny M A (storeName X.env x u) Q E s := by
  obtain ⟨m, hn, hl⟩ := id I.loc
  have hcls : (X.env.scope.kind == .class || (X.env.scope.kind == .module && X.env.locals != X.env.globals)) = false := by rw [I.ok.kind]; rfl
  have hiσ : i < σ.length := by rw [I.len]; exact (List.getElem?_eq_some_iff.mp hi).1
  have cne := I.cne
  have tracked : ∀ {a : Addr} {h' : Heap}, (∃ o, s.heap.get? a = some o ∧ H a = none) → Heap.SameBut a s.heap h' → HOk X.prog X.w H h' := fun {a h'} ha hs b ob e => by
    obtain ⟨_, _, hfree⟩ := ha
    refine (I.hok b ob e).stay (fun c w' hc q => (hs.2 c ?_).trans q) (fun _ q => q) fun _ _ q => q
    rintro rfl
    rcases hc with rfl | hc
    · rw [hfree] at e; cases e
    · rw [hfree] at hc; cases hc
  rcases hx with hk | hk
  · refine wpAny_storeName_local hk hn (fun h' hn' hs => ?_) hcls
    obtain ⟨oL, _, _, hoL, _⟩ := id hn
    refine h _ ⟨I.ok, I.os, I.bare, ⟨fun b o e n hb hx => ?_, fun b o e n hb hx => ?_, I.base.free, fun b o e hx => ?_, I.base.tups, I.base.frzs, I.base.tbls⟩, ⟨_, hn', fun j y v' e1 e2 e3 => ?_⟩, fun y c e => ?_, I.free, I.freeC, fun p hp => ?_, tracked ⟨oL, hoL, I.free⟩ hs, by simpa using I.len⟩ ⟨_, hs, .inl rfl⟩
    · exact (hs.2 b (Nat.ne_of_lt (Nat.lt_of_lt_of_le (Heap.lt_size e) I.ok.above))).trans (I.base.keep b o e n hb hx)
    · obtain ⟨sl, e1⟩ := I.base.slot b o e n hb hx
      exact ⟨sl, (hs.2 b (Nat.ne_of_lt (Nat.lt_of_lt_of_le (Heap.lt_size e) I.ok.above))).trans e1⟩
    · obtain ⟨o', e1⟩ := I.base.there b o e hx
      exact ⟨o', (hs.2 b (Nat.ne_of_lt (Nat.lt_of_lt_of_le (Heap.lt_size e) I.ok.above))).trans e1⟩
    · by_cases hj : j = i
      · subst hj
        rw [hi] at e1; cases e1
        rw [List.getElem?_set_self hiσ] at e2
        cases e2
        exact ⟨u, r, .inl ⟨hk, by simp⟩⟩
      · rw [List.getElem?_set_ne (Ne.symm hj)] at e2
        obtain ⟨u', r', q⟩ := hl j y v' e1 e2 e3
        refine ⟨u', r', ?_⟩
        rcases q with ⟨k, e⟩ | ⟨k, c, e, z⟩
        · refine .inl ⟨k, ?_⟩
          have : y ≠ x := fun e => hj (nodup_ix hN e1 (e ▸ hi))
          simp [this, e]
        · exact .inr ⟨k, c, e, z.sameBut hs (cne y c e)⟩
    · obtain ⟨w', z⟩ := I.cell y c e
      exact ⟨w', z.sameBut hs (cne y c e)⟩
    · obtain ⟨e, n, ne, nf, d⟩ := I.pin p hp
      exact ⟨(hs.2 p.1 ne).trans e, n, ne, nf, d⟩
  · have hfn : X.fn x = true := by
      rcases hf with z | z
      · exact z
      · rw [z] at hk; cases hk
    obtain ⟨c, hc⟩ := I.ok.has x (.inl hk)
    obtain ⟨w', z⟩ := I.cell x c hc
    refine wpAny_storeName_cell I.ok.kind hk hc z (fun h' hc' hs => ?_)
    obtain ⟨oc, hoc, hocd⟩ := id z
    refine h { s with heap := h' } ⟨I.ok, I.os, I.bare, ⟨fun b o e n hb hx => ?_, fun b o e n hb hx => ?_, I.base.free, fun b o e hx => ?_, I.base.tups, I.base.frzs, I.base.tbls⟩, ⟨m, hn.sameBut hs (Ne.symm (cne x c hc)), fun j y v' e1 e2 e3 => ?_⟩, fun y c' e => ?_, I.free, I.freeC, fun p hp => ?_, tracked ⟨oc, hoc, I.freeC x c hc⟩ hs, by simpa using I.len⟩ ⟨c, hs, .inr hc⟩
    · exact (hs.2 b (Nat.ne_of_lt (Nat.lt_of_lt_of_le (Heap.lt_size e) (I.ok.cab x c hfn hc)))).trans (I.base.keep b o e n hb hx)
    · obtain ⟨sl, e1⟩ := I.base.slot b o e n hb hx
      exact ⟨sl, (hs.2 b (Nat.ne_of_lt (Nat.lt_of_lt_of_le (Heap.lt_size e) (I.ok.cab x c hfn hc)))).trans e1⟩
    · obtain ⟨o', e1⟩ := I.base.there b o e hx
      exact ⟨o', (hs.2 b (Nat.ne_of_lt (Nat.lt_of_lt_of_le (Heap.lt_size e) (I.ok.cab x c hfn hc)))).trans e1⟩
    · by_cases hj : j = i
      · subst hj
        rw [hi] at e1; cases e1
        rw [List.getElem?_set_self hiσ] at e2
        cases e2
        exact ⟨u, r, .inr ⟨.inl hk, c, hc, hc'⟩⟩
      · rw [List.getElem?_set_ne (Ne.symm hj)] at e2
        obtain ⟨u', r', q⟩ := hl j y v' e1 e2 e3
        refine ⟨u', r', ?_⟩
        rcases q with q | ⟨k, c', e, z'⟩
        · exact .inl q
        · refine .inr ⟨k, c', e, z'.sameBut hs ?_⟩
          rintro rfl
          exact hj (nodup_ix hN e1 (I.ok.inj _ _ _ e hc ▸ hi))
    · by_cases hcc : c' = c
      · subst hcc; exact ⟨_, hc'⟩
      · obtain ⟨w2, z2⟩ := I.cell y c' e
        exact ⟨w2, z2.sameBut hs hcc⟩
    · obtain ⟨e, n, ne, nf, d⟩ := I.pin p hp
      refine ⟨(hs.2 p.1 ?_).trans e, n, ne, nf, d⟩
      intro q
      rw [q, hoc] at e
      have q' : oc = p.2 := Option.some.inj e
      exact d w' (by rw [← q']; exact hocd)
theorem store_ok {M : Model} {A : Around} {E : Value → Shared → Prop} {i : Nat} {x : Str} {v : V} {u : Value} {Q : Unit → Shared → Prop} (I : Inv X pins σ H s) (hN : X.N.Nodup) (hi : X.N[i]? = some x) (hx : Loc X.env.scope x) (r : RelV v u)
    (h : ∀ s', Inv X pins (σ.set i (some v)) H s' → Q () s') (hf : X.fn x = true ∨ X.env.scope.names.lookup x = some .local := by first | exact .inl rfl | exact .inr rfl | assumption) : wpAny M A (storeName X.env x u) Q E s :=
  store_ok2 I hN hi hx r (fun s' I' _ => h s' I') hf
theorem Inv.call' {s' : Shared} {ch : List Addr} (I : Inv X pins σ H s) (ho : s'.os = s.os) (u : Un (frs X.stack) ch H H' s.heap s'.heap) (hok : HOk X.prog X.w H' s'.heap) (hg : AllBare s'.gens)
    (hch : ∀ b ∈ ch, (b ∈ X.ex ∨ X.s₀.heap.objs.size ≤ b) ∧ b ≠ X.env.locals ∧ (∀ x c, X.env.cells.lookup x = some c → c ≠ b) ∧ ∀ p ∈ X.pn ++ pins, p.1 ≠ b) : Inv X pins σ H' s' := by
  obtain ⟨h', g', d', t', o'⟩ := s'
  have e : o' = s.os := ho
  subst e
  exact I.call (g' := g') (t' := t') (d' := d') u hok hg hch
end
abbrev XK := Value → Option Addr → Hp → Prop
abbrev St := List (Option V)
abbrev VK := V → Hp → Prop
abbrev TE := St → Hp → VK → Prop
abbrev TT := St → Hp → (Bool → Hp → Prop) → Prop
abbrev TA := St → Hp → (List V → Hp → Prop) → Prop
structure Ends where
  nx : St → Hp → Prop
  rt : VK
  bk : St → Hp → Prop := fun _ _ => False
  ct : St → Hp → Prop := fun _ _ => False
abbrev TS := Ends → St → Hp → Prop
def EP (X : Cx) (pins : List (Addr × Obj)) (σ : St) (Q : VK) (u : Value) (s' : Shared) : Prop := ∃ v H', Inv X pins σ H' s' ∧ RelV v u ∧ Q v H'
def TP (X : Cx) (pins : List (Addr × Obj)) (σ : St) (Q : Bool → Hp → Prop) (b : Bool) (s' : Shared) : Prop := ∃ H', Inv X pins σ H' s' ∧ Q b H'
def AP (X : Cx) (pins : List (Addr × Obj)) (σ : St) (Q : List V → Hp → Prop) (us : List Value) (s' : Shared) : Prop := ∃ vs H', Inv X pins σ H' s' ∧ Vals vs us ∧ Q vs H'
def SP (X : Cx) (pins : List (Addr × Obj)) (D : Ends) (f : Flow) (s' : Shared) : Prop :=
  match f with
  | .next => ∃ σ' H', Inv X pins σ' H' s' ∧ D.nx σ' H'
  | .brk => ∃ σ' H', Inv X pins σ' H' s' ∧ D.bk σ' H'
  | .cont => ∃ σ' H', Inv X pins σ' H' s' ∧ D.ct σ' H'
  | .ret u => ∃ v σ' H', Inv X pins σ' H' s' ∧ RelV v u ∧ D.rt v H'
def PE (X : Cx) (e : Expr) (t : TE) : Prop :=
  ∀ (pins : List (Addr × Obj)) (s : Shared) (σ : St) (H : Hp) (Q : VK), Inv X pins σ H s → t σ H Q → wpAny (model X.prog X.w) X.A (eval e X.env) (EP X pins σ Q) X.xe s
def PT (X : Cx) (e : Expr) (t : TT) : Prop :=
  ∀ (pins : List (Addr × Obj)) (s : Shared) (σ : St) (H : Hp) (Q : Bool → Hp → Prop), Inv X pins σ H s → t σ H Q → wpAny (model X.prog X.w) X.A (isTrue e X.env (eval e X.env)) (TP X pins σ Q) X.xe s
def PW (X : Cx) (e : Expr) (t : TT) : Prop :=
  ∀ (whole : Sem Value) (pins : List (Addr × Obj)) (s : Shared) (σ : St) (H : Hp) (Q : Bool → Hp → Prop), Inv X pins σ H s → t σ H Q → wpAny (model X.prog X.w) X.A (isTrue e X.env whole) (TP X pins σ Q) X.xe s
theorem PW.pt {X : Cx} {e : Expr} {t : TT} (h : PW X e t) : PT X e t := h _
def PA (X : Cx) (es : List Expr) (t : TA) : Prop :=
  ∀ (pos : Pos) (pins : List (Addr × Obj)) (s : Shared) (σ : St) (H : Hp) (Q : List V → Hp → Prop), Inv X pins σ H s → t σ H Q → wpAny (model X.prog X.w) X.A (spliced (backTo pos (starEach es X.env))) (AP X pins σ Q) X.xe s
def PS (X : Cx) (st : Stmt) (t : TS) : Prop :=
  ∀ (pins : List (Addr × Obj)) (s : Shared) (σ : St) (H : Hp) (D : Ends), Inv X pins σ H s → t D σ H → wpAny (model X.prog X.w) X.A (exec st X.env) (SP X pins D) X.xe s
def PSs (X : Cx) (st : List Stmt) (t : TS) : Prop :=
  ∀ (pins : List (Addr × Obj)) (s : Shared) (σ : St) (H : Hp) (D : Ends), Inv X pins σ H s → t D σ H → wpAny (model X.prog X.w) X.A (execs st X.env) (SP X pins D) X.xe s
theorem thn {α : Type} {t : Sem α} {Q Q' : α → Shared → Prop} {M : Model} {A : Around} {E : Value → Shared → Prop} {s : Shared} (h : wpAny M A t Q E s) (hQ : ∀ a s, Q a s → Q' a s) : wpAny M A t Q' E s := wpAny_mono h hQ fun _ _ x => x
end L2
namespace L2
open PySem PySem.Spec PyProof.Rows
section
variable {X : Cx}
def tVar (i : Nat) : TE := fun σ H Q => ∃ v, σ[i]? = some (some v) ∧ Q v H
def tC (v : V) : TE := fun _ H Q => Q v H
theorem pe_var {i : Nat} {x : Str} {pos : Pos} (hN : X.N[i]? = some x) (hv : Vis X.env.scope x) (hd : (x == ("__debug__" : Str)) = false := by decide) (hcd : (x == ("__classdict__" : Str)) = false := by decide) : PE X (.Name x pos) (tVar i) := by
  intro pins s σ H Q I h
  obtain ⟨v, e, h⟩ := h
  obtain ⟨m, hn, hl⟩ := I.loc
  obtain ⟨u, r, l⟩ := hl i x v hN e hv
  have fin : EP X pins σ Q u s := ⟨v, H, I, r, h⟩
  rcases l with ⟨hk, hm⟩ | ⟨hk, c, hc, hcell⟩
  · exact wpAny_Name (wpAny_loadName_local I.ok.kind hk hn hm fin) hd
  · rcases hk with hk | hk
    · exact wpAny_Name (wpAny_loadName_cell I.ok.kind hk hc hcell fin) hd
    · exact wpAny_Name (wpAny_loadName_free I.ok.kind hk hc hcell fin hcd) hd
theorem pe_int {i j pos} : PE X (.Constant (.int i) j pos) (tC (.int i)) := fun _ _ _ H _ I h => wpAny_Constant_int ⟨.int i, H, I.tok _, ⟨_, rfl⟩, h⟩
theorem pe_bl {b j pos} : PE X (.Constant (.bool b) j pos) (tC (.bl b)) := fun _ _ _ H _ I h => Constant_bool ⟨.bl b, H, I, rfl, h⟩
theorem pe_non {j pos} : PE X (.Constant .none j pos) (tC .non) := fun _ _ _ H _ I h => Constant_none ⟨.non, H, I, rfl, h⟩
theorem pe_str {x j pos} : PE X (.Constant (.str x) j pos) (tC (.str x)) := fun _ _ _ H _ I h => Calls.Constant_str ⟨.str x, H, I.tok _, ⟨_, rfl⟩, h⟩
def Gl (X : Cx) (x : Str) : Prop := X.env.kindOf x = some .globalImplicit
theorem ld_glob {E : Value → Shared → Prop} {pins : List (Addr × Obj)} {s : Shared} {σ : St} {H : Hp} {x : Str} {u : Value} {pos : Pos} {Q : Value → Shared → Prop} (I : Inv X pins σ H s) (hg : Gl X x) (hm : X.mg x = some u) (h : Q u s)
    (hd : (x == ("__debug__" : Str)) = false := by decide) : wpAny (model X.prog X.w) X.A (eval (.Name x pos) X.env) Q E s :=
  Calls.Name_function_global I.ok.kind hg (Calls.loadGlobal_global (by rw [I.ok.glob]; exact I.mod.glob.keeps I.bk) hm h) hd
theorem ld_blt {E : Value → Shared → Prop} {pins : List (Addr × Obj)} {s : Shared} {σ : St} {H : Hp} {x : Str} {u : Value} {pos : Pos} {Q : Value → Shared → Prop} (I : Inv X pins σ H s) (hg : Gl X x) (hm : X.mg x = none) (hv : bootBuiltins x = some u) (h : Q u s)
    (hn : x ≠ "__name__" := by decide) (hd : (x == ("__debug__" : Str)) = false := by decide) : wpAny (model X.prog X.w) X.A (eval (.Name x pos) X.env) Q E s := by
  obtain ⟨mb, h1, h2⟩ := I.mod.blt
  exact Calls.Name_function_global I.ok.kind hg (Calls.loadGlobal_builtin (by rw [I.ok.glob]; exact I.mod.glob.keeps I.bk) hm (by rw [I.ok.blt]; exact h1.keeps I.bk) ((h2 x hn).trans hv) h) hd
theorem pe_glob {x : Str} {v : V} {u : Value} {pos : Pos} (hg : Gl X x) (hm : X.mg x = some u) (r : RelV v u) (hd : (x == ("__debug__" : Str)) = false := by decide) : PE X (.Name x pos) (tC v) :=
  fun _ _ _ H _ I h => ld_glob I hg hm ⟨v, H, I, r, h⟩ hd
theorem pe_bltn {x : Str} {v : V} {u : Value} {pos : Pos} (hg : Gl X x) (hm : X.mg x = none) (hv : bootBuiltins x = some u) (r : RelV v u) (hn : x ≠ "__name__" := by decide) (hd : (x == ("__debug__" : Str)) = false := by decide) : PE X (.Name x pos) (tC v) :=
  fun _ _ _ H _ I h => ld_blt I hg hm hv ⟨v, H, I, r, h⟩ hn hd
variable {a b : Expr} {ta tb : TE} {pos : Pos}
def PC (X : Cx) (op : CmpOp) (a b : Expr) (t : TE) : Prop :=
  ∀ (pins : List (Addr × Obj)) (s : Shared) (σ : St) (H : Hp) (Q : VK), Inv X pins σ H s → t σ H Q →
    wpAny (model X.prog X.w) X.A (eval a X.env) (fun v s₁ => wpAny (model X.prog X.w) X.A (eval b X.env) (fun u s₂ => wpAny (model X.prog X.w) X.A (compareOp op v u) (EP X pins σ Q) X.xe s₂) X.xe s₁) X.xe s
theorem nobehind (b : Expr) {op : CmpOp} (h : op ≠ .In) (h2 : op ≠ .NotIn) : behindInMarks op b = false := by
  have e1 : (op == CmpOp.In) = false := by cases op <;> first | rfl | exact absurd rfl h
  have e2 : (op == CmpOp.NotIn) = false := by cases op <;> first | rfl | exact absurd rfl h2
  cases b <;> simp [behindInMarks, e1, e2]
def tB (t : TE) : TT := fun σ H Q => t σ H fun x H1 => ∃ c, x = .bl c ∧ Q c H1
theorem pt_cmp {op : CmpOp} {t : TE} (h : PC X op a b t) (h1 : behindInMarks op b = false := by first | exact nobehind _ (by decide) (by decide) | rfl) : PT X (.Compare a [op] [b] pos) (tB t) := by
  intro pins s σ H Q I hw
  refine wpAny_isTrue_Compare1 (thn (h pins s σ H _ I hw) fun v s1 h1 => thn h1 fun u s2 h2 => thn h2 fun c s3 ⟨x, H1, I1, r1, q1⟩ => ?_) h1
  obtain ⟨d, rfl, q⟩ := q1
  cases r1
  exact wpAny_truthy_bool ⟨H1, I1, q⟩
theorem pt_val {e : Expr} {t : TE} (h : PE X e t) (he : ∀ whole, isTrue e X.env whole = (do let v ← whole; standAt e.pos; holding [v] (truthy v)) := by intro _; rfl) : PT X e (tB t) := by
  intro pins s σ H Q I hw
  refine isTrue_plain (thn (h pins s σ H _ I hw) fun v s1 ⟨x, H1, I1, r1, q1⟩ => ?_) (he _)
  obtain ⟨d, rfl, q⟩ := q1
  cases r1
  exact wpAny_truthy_bool ⟨H1, I1, q⟩
variable {tA tB' : TT} {rest : List Expr}
def tAnd (t u : TT) : TT := fun σ H Q => t σ H fun c H1 => if c = true then u σ H1 Q else Q false H1
def tOr (t u : TT) : TT := fun σ H Q => t σ H fun c H1 => if c = true then Q true H1 else u σ H1 Q
def tNot (t : TT) : TT := fun σ H Q => t σ H fun c H1 => Q (!c) H1
theorem pw_and1 (ha : PT X a tA) : PW X (.BoolOp .And [a] pos) tA := by
  intro wh pins s σ H Q I h
  refine isTrue_and (thn (ha pins s σ H Q I h) fun c s1 e => ?_)
  cases c with
  | true => exact isTrue_and_nil e
  | false => exact e
theorem pw_or1 (ha : PT X a tA) : PW X (.BoolOp .Or [a] pos) tA := by
  intro wh pins s σ H Q I h
  refine isTrue_or (thn (ha pins s σ H Q I h) fun c s1 e => ?_)
  cases c with
  | false => exact isTrue_or_nil e
  | true => exact e
theorem pw_and (ha : PT X a tA) (hb : PW X (.BoolOp .And (b :: rest) pos) tB') : PW X (.BoolOp .And (a :: b :: rest) pos) (tAnd tA tB') := by
  intro wh pins s σ H Q I h
  refine isTrue_and (thn (ha pins s σ H _ I h) fun c s1 ⟨H1, I1, q1⟩ => ?_)
  cases c with
  | true => exact hb wh pins s1 σ H1 Q I1 q1
  | false => exact ⟨H1, I1, q1⟩
theorem pw_or (ha : PT X a tA) (hb : PW X (.BoolOp .Or (b :: rest) pos) tB') : PW X (.BoolOp .Or (a :: b :: rest) pos) (tOr tA tB') := by
  intro wh pins s σ H Q I h
  refine isTrue_or (thn (ha pins s σ H _ I h) fun c s1 ⟨H1, I1, q1⟩ => ?_)
  cases c with
  | true => exact ⟨H1, I1, q1⟩
  | false => exact hb wh pins s1 σ H1 Q I1 q1
theorem pt_not (ha : PT X a tA) : PT X (.UnaryOp .Not a pos) (tNot tA) := by
  intro pins s σ H Q I h
  exact isTrue_not (ha pins s σ H (fun c H1 => Q (!c) H1) I h)
def tAndV (ta tb : TE) : TE := fun σ H Q => ta σ H fun x H1 => ∃ c, x = .bl c ∧ if c = true then tb σ H1 Q else Q (.bl false) H1
def tNotV (ta : TE) : TE := fun σ H Q => ta σ H fun x H1 => ∃ c, x = .bl c ∧ Q (.bl (!c)) H1
theorem pe_one {op} {t : TE} (h : PE X a t) : PE X (.BoolOp op [a] pos) t := fun pins s σ H Q I hw => BoolOp_one (h pins s σ H Q I hw)
theorem pe_and (ha : PE X a ta) (hb : PE X (.BoolOp .And (b :: rest) pos) tb) : PE X (.BoolOp .And (a :: b :: rest) pos) (tAndV ta tb) := by
  intro pins s σ H Q I h
  refine BoolOp_and (thn (ha pins s σ H _ I h) fun v s1 ⟨x, H1, I1, r1, q1⟩ => ?_)
  obtain ⟨c, rfl, q1⟩ := q1
  cases r1
  refine wpAny_truthy_bool ?_
  cases c with
  | true => exact hb pins s1 σ H1 Q I1 q1
  | false => exact ⟨.bl false, H1, I1, rfl, q1⟩
theorem pe_not (ha : PE X a ta) : PE X (.UnaryOp .Not a pos) (tNotV ta) := by
  intro pins s σ H Q I h
  refine UnaryOp_ (thn (ha pins s σ H _ I h) fun v s1 ⟨x, H1, I1, r1, q1⟩ => ?_)
  obtain ⟨c, rfl, q1⟩ := q1
  cases r1
  exact not_of (wpAny_truthy_bool ⟨.bl (!c), H1, I1, rfl, q1⟩)
end
end L2
namespace L2
open PySem PySem.Spec PyProof.Rows
def SqL (K : PySem.W.Frag) (H : Hp) (a : Addr) (xs : List V) : Prop :=
  Rd H a (.lst xs) ∨
    ∃ (o : Obj) (its : Array Value) (n : Nat), K.lookup a = some o ∧ o.cls = .type "list" ∧ o.dict = none ∧ o.data = .seq its n ∧ its.size ≤ sizeLine ∧ Vals xs its.toList
def SqT (K : PySem.W.Frag) (H : Hp) (a : Addr) (xs : List V) : Prop :=
  Rd H a (.tup xs) ∨
    ∃ (o : Obj) (its : Array Value) (n : Nat), K.lookup a = some o ∧ o.cls = .type "tuple" ∧ o.data = .seq its n ∧ its.size ≤ sizeLine ∧ Vals xs its.toList
def absV : Value → Option V
  | .none => some .non
  | .bool b => some (.bl b)
  | .int i _ => some (.int i)
  | .str x _ => some (.str x)
  | .bytes b _ => some (.byt b)
  | .float b _ => some (.flt b)
  | .ref a => some (.ref a)
  | .type n => some (.ty n)
  | _ => none
theorem RelV.abs {x : V} {u : Value} (r : RelV x u) : absV u = some x := by
  cases x with
  | non => cases r; rfl
  | bl _ => cases r; rfl
  | int _ => obtain ⟨t, rfl⟩ := r; rfl
  | str _ => obtain ⟨t, rfl⟩ := r; rfl
  | byt _ => obtain ⟨t, rfl⟩ := r; rfl
  | flt _ => obtain ⟨t, rfl⟩ := r; rfl
  | ref _ => cases r; rfl
  | ty _ => cases r; rfl
theorem RelV.inj {x y : V} {u : Value} (r : RelV x u) (q : RelV y u) : x = y := Option.some.inj (r.abs.symm.trans q.abs)
theorem Vals.inj : ∀ {xs ys : List V} {us : List Value}, Vals xs us → Vals ys us → xs = ys
  | _, _, _, .nil, .nil => rfl
  | _, _, _, .cons r t, .cons r' t' => by rw [r.inj r', Vals.inj t t']
section
variable {X : Cx} {pins : List (Addr × Obj)} {σ : St} {H : Hp} {s : Shared} {a : Addr} {xs ys : List V}
theorem SqL.of {K : PySem.W.Frag} (h : H a = some (.lst xs)) : SqL K H a xs := .inl (.inl h)
theorem SqT.of {K : PySem.W.Frag} (h : H a = some (.tup xs)) : SqT K H a xs := .inl (.inl h)
theorem Inv.list (I : Inv X pins σ H s) (h : SqL X.K H a xs) : ∃ its : List Value, Vals xs its ∧ PlainL s.heap a its.toArray ∧ xs.length ≤ sizeLine := by
  rcases h with h | ⟨o, its, n, hk, hc, hd, hs, hz, r⟩
  · obtain ⟨z, its, n, r, e⟩ := h.ok I.hok
    exact ⟨its, r, ⟨_, n, e, rfl, rfl, rfl⟩, z⟩
  · refine ⟨its.toList, r, ⟨o, n, I.kIn a o hk, hc, hd, by simpa using hs⟩, ?_⟩
    have e := r.length
    simp only [Array.length_toList] at e
    omega
theorem Inv.tuple (I : Inv X pins σ H s) (h : SqT X.K H a xs) : ∃ its : List Value, Vals xs its ∧ IsTup s.heap a its.toArray ∧ xs.length ≤ sizeLine := by
  rcases h with h | ⟨o, its, n, hk, hc, hs, hz, r⟩
  · obtain ⟨z, its, r, p⟩ := h.ok I.hok
    exact ⟨its, r, p, z⟩
  · refine ⟨its.toList, r, ⟨o, I.kIn a o hk, hc, n, by simpa using hs⟩, ?_⟩
    have e := r.length
    simp only [Array.length_toList] at e
    omega
theorem Inv.list_inj (I : Inv X pins σ H s) (h : SqL X.K H a xs) (h' : SqL X.K H a ys) : xs = ys := by
  obtain ⟨its, r, ⟨o, n, e, _, _, d⟩, _⟩ := I.list h
  obtain ⟨its', r', ⟨o', n', e', _, _, d'⟩, _⟩ := I.list h'
  rw [e] at e'; cases e'
  rw [d] at d'
  injection d' with d1 _
  have : its = its' := by simpa using congrArg Array.toList d1
  subst this
  exact r.inj r'
theorem Inv.tuple_inj (I : Inv X pins σ H s) (h : SqT X.K H a xs) (h' : SqT X.K H a ys) : xs = ys := by
  obtain ⟨its, r, ⟨o, e, _, n, d⟩, _⟩ := I.tuple h
  obtain ⟨its', r', ⟨o', e', _, n', d'⟩, _⟩ := I.tuple h'
  rw [e] at e'; cases e'
  rw [d] at d'
  injection d' with d1 _
  have : its = its' := by simpa using congrArg Array.toList d1
  subst this
  exact r.inj r'
end
abbrev Cx.wish (X : Cx) (E : Value → Shared → Prop) : Cx := { X with xe := E }
abbrev Cx.nox (X : Cx) : Cx := X.wish fun _ _ => False
theorem Cx.Ok.wish {X : Cx} (ok : X.Ok) (E : Value → Shared → Prop) : (X.wish E).Ok :=
  ⟨ok.mod, ok.kind, ok.glob, ok.blt, ok.above, ok.inj, ok.has, ok.cab, ok.hd, ok.frames, ok.stk, ok.exf, ok.bs, ok.bsz, ok.noex, ok.exfs, ok.funs, ok.frf⟩
theorem Cx.Ok.unwish {X : Cx} {E : Value → Shared → Prop} (ok : (X.wish E).Ok) : X.Ok :=
  ⟨ok.mod, ok.kind, ok.glob, ok.blt, ok.above, ok.inj, ok.has, ok.cab, ok.hd, ok.frames, ok.stk, ok.exf, ok.bs, ok.bsz, ok.noex, ok.exfs, ok.funs, ok.frf⟩
section
variable {X : Cx} {pins : List (Addr × Obj)} {σ : St} {H : Hp} {s : Shared} {E : Value → Shared → Prop}
theorem Inv.wish (I : Inv X pins σ H s) (E : Value → Shared → Prop) : Inv (X.wish E) pins σ H s := ⟨I.ok.wish E, I.os, I.bare, I.base, I.loc, I.cell, I.free, I.freeC, I.pin, I.hok, I.len⟩
theorem Inv.unwish (I : Inv (X.wish E) pins σ H s) : Inv X pins σ H s := ⟨I.ok.unwish, I.os, I.bare, I.base, I.loc, I.cell, I.free, I.freeC, I.pin, I.hok, I.len⟩
theorem SP.unwish {D : Ends} {f : Flow} {s' : Shared} (h : SP (X.wish E) pins D f s') : SP X pins D f s' := by
  cases f with
  | next => obtain ⟨σ', H', I, q⟩ := h; exact ⟨σ', H', I.unwish, q⟩
  | brk => obtain ⟨σ', H', I, q⟩ := h; exact ⟨σ', H', I.unwish, q⟩
  | cont => obtain ⟨σ', H', I, q⟩ := h; exact ⟨σ', H', I.unwish, q⟩
  | ret u => obtain ⟨v, σ', H', I, r, q⟩ := h; exact ⟨v, σ', H', I.unwish, r, q⟩
theorem PE.nox {e : Expr} {t : TE} (h : PE X.nox e t) : PE X e t := fun pins s σ H Q I hw =>
  wpAny_mono (h pins s σ H Q (I.wish _) hw) (fun _ _ ⟨v, H', I', r, q⟩ => ⟨v, H', I'.unwish, r, q⟩) fun _ _ z => False.elim z
theorem PT.nox {e : Expr} {t : TT} (h : PT X.nox e t) : PT X e t := fun pins s σ H Q I hw =>
  wpAny_mono (h pins s σ H Q (I.wish _) hw) (fun _ _ ⟨H', I', q⟩ => ⟨H', I'.unwish, q⟩) fun _ _ z => False.elim z
theorem PSs.nox {st : List Stmt} {t : TS} (h : PSs X.nox st t) : PSs X st t := fun pins s σ H D I hw =>
  wpAny_mono (h pins s σ H D (I.wish _) hw) (fun _ _ q => q.unwish) fun _ _ z => False.elim z
end
section
variable {X : Cx} {st : Stmt} {rest : List Stmt} {t u : TS} {e : Expr} {te : TE} {pos : Pos}
def tNext : TS := fun D σ H => D.nx σ H
def tSeq (t u : TS) : TS := fun D σ H => t { D with nx := u D } σ H
theorem pss_nil : PSs X [] tNext := fun _ _ σ H _ I h => wpAny_execs_nil ⟨σ, H, I, h⟩
theorem pss_cons (h1 : PS X st t) (h2 : PSs X rest u) : PSs X (st :: rest) (tSeq t u) := by
  intro pins s σ H D I h
  refine wpAny_execs_cons (thn (h1 pins s σ H { D with nx := u D } I h) fun f s1 q => ?_)
  cases f with
  | next =>
    obtain ⟨σ', H', I', q⟩ := q
    exact h2 pins s1 σ' H' D I' q
  | ret v => exact q
  | brk => exact q
  | cont => exact q
theorem pss_one (h1 : PS X st t) : PSs X [st] t := by
  intro pins s σ H D I h
  refine wpAny_execs_cons (thn (h1 pins s σ H D I h) fun f s1 q => ?_)
  cases f with
  | next => exact wpAny_execs_nil q
  | ret v => exact q
  | brk => exact q
  | cont => exact q
theorem Inv.quiet {pins : List (Addr × Obj)} {σ : St} {H : Hp} {s : Shared} (I : Inv X pins σ H s) : interactive X.env = false := by simp [interactive, I.ok.kind]
def tDrop (te : TE) : TS := fun D σ H => te σ H fun _ H1 => D.nx σ H1
theorem ps_expr (he : PE X e te) (hs : swapsWith e none pos.line X.env = pure false := by rfl) : PS X (.Expr e pos) (tDrop te) := by
  intro pins s σ H D I h
  exact wpAny_Expr_any (thn (he pins s σ H _ I h) fun v s1 ⟨x, H1, I1, r1, q1⟩ => ⟨σ, H1, I1, q1⟩) I.quiet hs
def tRet (te : TE) : TS := fun D σ H => te σ H D.rt
theorem ps_ret (he : PE X e te) : PS X (.Return (some e) pos) (tRet te) := by
  intro pins s σ H D I h
  exact wpAny_Return_some (thn (he pins s σ H _ I h) fun v s1 ⟨x, H1, I1, r1, q1⟩ => ⟨x, σ, H1, I1, r1, q1⟩)
def tIfS (c : TT) (t u : TS) : TS := fun D σ H => c σ H fun b H1 => if b = true then t D σ H1 else u D σ H1
theorem ps_if {c : Expr} {a b : List Stmt} {tc : TT} (hc : PT X c tc) (ha : PSs X a t) (hb : PSs X b u) : PS X (.If c a b pos) (tIfS tc t u) := by
  intro pins s σ H D I h
  refine wpAny_If (thn (hc pins s σ H _ I h) fun d s1 ⟨H1, I1, q1⟩ => ?_)
  cases d with
  | true => exact ha pins s1 σ H1 D I1 q1
  | false => exact hb pins s1 σ H1 D I1 q1
end
abbrev TG := V → St → Hp → (St → Hp → Prop) → Prop
abbrev TGs := List V → St → Hp → (St → Hp → Prop) → Prop
def PG (X : Cx) (target : Expr) (t : TG) : Prop :=
  ∀ (pins : List (Addr × Obj)) (s : Shared) (σ : St) (H : Hp) (v : V) (u : Value) (Q : St → Hp → Prop), Inv X pins σ H s → RelV v u → t v σ H Q →
    wpAny (model X.prog X.w) X.A (assign target X.env u) (fun _ s' => ∃ σ' H', Inv X pins σ' H' s' ∧ Q σ' H') X.xe s
def PGs (X : Cx) (ts : List Expr) (t : TGs) : Prop :=
  ∀ (pins : List (Addr × Obj)) (s : Shared) (σ : St) (H : Hp) (vs : List V) (us : List Value) (Q : St → Hp → Prop), Inv X pins σ H s → Vals vs us → t vs σ H Q →
    wpAny (model X.prog X.w) X.A (assignInOrder ((assignEach ts X.env).map (·.2)) us) (fun _ s' => ∃ σ' H', Inv X pins σ' H' s' ∧ Q σ' H') X.xe s
abbrev TSet := V → V → V → Hp → (Hp → Prop) → Prop
def PSet (X : Cx) (t : TSet) : Prop :=
  ∀ (pins : List (Addr × Obj)) (s : Shared) (σ : St) (H : Hp) (o i v : V) (ov iv u : Value) (Q : Hp → Prop), Inv X pins σ H s → RelV o ov → RelV i iv → RelV v u → t o i v H Q →
    wpAny (model X.prog X.w) X.A (setItem ov iv u) (fun _ s' => ∃ H', Inv X pins σ H' s' ∧ Q H') X.xe s
section
variable {X : Cx} {pos : Pos}
def gName (i : Nat) : TG := fun v σ H Q => Q (σ.set i (some v)) H
theorem pg_name {i : Nat} {x : Str} (hN : X.N.Nodup) (hi : X.N[i]? = some x) (hx : Loc X.env.scope x) (hf : X.fn x = true ∨ X.env.scope.names.lookup x = some .local := by first | exact .inl rfl | exact .inr rfl | assumption) : PG X (.Name x pos) (gName i) := by
  intro pins s σ H v u Q I r h
  exact wpAny_assign_Name (store_ok I hN hi hx r (fun s' I' => ⟨_, H, I', h⟩) hf)
def gNil : TGs := fun vs σ H Q => vs = [] ∧ Q σ H
def gCons (t : TG) (u : TGs) : TGs := fun vs σ H Q => ∃ v r, vs = v :: r ∧ t v σ H fun σ' H' => u r σ' H' Q
theorem pgs_nil : PGs X [] gNil := by
  intro pins s σ H vs us Q I r h
  obtain ⟨e, h⟩ := h
  subst e
  cases r
  exact assignInOrder_nil ⟨σ, H, I, h⟩
theorem pgs_cons {e : Expr} {es : List Expr} {t : TG} {u : TGs} (h1 : PG X e t) (h2 : PGs X es u)
    (hs : (assignEach (e :: es) X.env).map (·.2) = assign e X.env :: (assignEach es X.env).map (·.2) := by rfl) : PGs X (e :: es) (gCons t u) := by
  intro pins s σ H vs us Q I r h
  obtain ⟨v, vr, e1, h⟩ := h
  subst e1
  cases r with
  | cons r rr =>
    rw [hs]
    refine assignInOrder_cons (thn (h1 pins s σ H _ _ _ I r h) fun _ s1 ⟨σ1, H1, I1, q1⟩ => ?_)
    exact h2 pins s1 σ1 H1 _ _ Q I1 rr q1
def gTup (K : PySem.W.Frag) (n : Nat) (t : TGs) : TG := fun v σ H Q => ∃ a xs, v = .ref a ∧ SqT K H a xs ∧ xs.length = n ∧ t xs σ H Q
theorem pg_tup {es : List Expr} {k : Nat} {t : TGs} {n : Nat} (hc : X.calm = true) (h : PGs X es t)
    (hn : (assignEach es X.env).length = n := by rfl) (hst : (assignEach es X.env).findIdx? (·.1) = none := by rfl) : PG X (.Tuple es k pos) (gTup X.K n t) := by
  intro pins s σ H v u Q I r hw
  obtain ⟨a, xs, e1, hq, hl, hw⟩ := hw
  subst e1
  cases r
  obtain ⟨its, rv, ht, hz⟩ := I.tuple hq
  refine assign_Tuple_tuple (I.ok.hd hc) ht (by simp [hn, ← hl, rv.length]) hst fun h' hx => ?_
  have I1 : Inv X pins σ H { s with heap := h' } := I.kept (t' := s.toks) fun b o e => hx b o (Nat.ne_of_lt (Heap.lt_size e)) e
  exact h pins _ σ H xs _ Q I1 (by simpa using rv) hw
def gSub (to ti : TE) (t : TSet) : TG := fun v σ H Q => to σ H fun o H1 => ti σ H1 fun i H2 => t o i v H2 fun H3 => Q σ H3
theorem pg_sub {o i : Expr} {to ti : TE} {t : TSet} (ho : PE X o to) (hi : PE X i ti) (hs : PSet X t)
    (ha : ∀ v, assign (.Subscript o i pos) X.env v = (do
      let ov ← holding [v] (eval o X.env)
      let iv ← holding [v, ov] (eval i X.env)
      standAt pos
      holding [v, ov, iv] (setItem ov iv v)
      release [v, ov, iv] []) := by intro _; rfl) : PG X (.Subscript o i pos) (gSub to ti t) := by
  intro pins s σ H v u Q I r h
  rw [ha]
  refine wpAny_bind (wpAny_holding (thn (ho pins s σ H _ I h) fun ov s1 ⟨x, H1, I1, r1, q1⟩ => ?_))
  refine wpAny_bind (wpAny_holding (thn (hi pins s1 σ H1 _ I1 q1) fun iv s2 ⟨y, H2, I2, r2, q2⟩ => ?_))
  refine wpAny_bind (wpAny_standAt (wpAny_bind (wpAny_holding (thn (hs pins s2 σ H2 x y v ov iv u _ I2 r1 r2 r q2) fun _ s3 ⟨H3, I3, q3⟩ => ?_))))
  exact wpAny_release ⟨σ, H3, I3, q3⟩
def tAsg (te : TE) (g : TG) : TS := fun D σ H => te σ H fun x H1 => g x σ H1 D.nx
theorem ps_asg {tg e : Expr} {te : TE} {g : TG} (he : PE X e te) (hg : PG X tg g) (hs : swapsWithSole [tg] e pos.line X.env = pure false := by rfl) (hw : swappedStores [tg] e X.env = pure none := by rfl)
    (h1 : (assignEach [tg] X.env).map (·.2) = [assign tg X.env] := by rfl) : PS X (.Assign [tg] e pos) (tAsg te g) := by
  intro pins s σ H D I h
  refine wpAny_Assign_stores (thn (he pins s σ H _ I h) fun v s1 ⟨x, H1, I1, r1, q1⟩ => ?_) hs hw
  rw [h1]
  exact thn (hg pins s1 σ H1 x v _ I1 r1 q1) fun _ s2 q => q
theorem ps_set {i : Nat} {x : Str} {e : Expr} {te : TE} {pos' : Pos} (hN : X.N.Nodup) (hi : X.N[i]? = some x) (hx : Loc X.env.scope x) (he : PE X e te) (hs : swapsWith e (some (.Name x pos')) pos.line X.env = pure false := by rfl) (hf : X.fn x = true ∨ X.env.scope.names.lookup x = some .local := by first | exact .inl rfl | exact .inr rfl | assumption) :
    PS X (.Assign [.Name x pos'] e pos) (tAsg te (gName i)) := by
  intro pins s σ H D I h
  refine wpAny_Assign_Name (thn (he pins s σ H _ I h) fun v s1 ⟨y, H1, I1, r1, q1⟩ => ?_) hs
  exact store_ok I1 hN hi hx r1 (fun s2 I2 => ⟨_, H1, I2, q1⟩) hf
end
section
variable {X : Cx} {pos : Pos}
end
structure It where
  go : Nat → Hp → Prop
  yld : Nat → Hp → V → Hp → Prop
  stop : Nat → Hp → Prop
def FpOk (X : Cx) (pins : List (Addr × Obj)) (H : Hp) (b : Addr) : Prop :=
  H b = none ∧ b ≠ X.env.locals ∧ b ∉ X.fs ∧ (b ∈ X.ex ∨ X.s₀.heap.objs.size ≤ b) ∧ (∀ x c, X.env.cells.lookup x = some c → c ≠ b) ∧ ∀ p ∈ X.pn ++ pins, p.1 ≠ b
theorem Inv.fpOk {X : Cx} {pins : List (Addr × Obj)} {σ : St} {H H' : Hp} {s : Shared} {b : Addr} (I : Inv X pins σ H s) (hb : s.heap.objs.size ≤ b) (hn : H' b = none) : FpOk X pins H' b := by
  refine ⟨hn, Nat.ne_of_gt (Nat.lt_of_lt_of_le I.lt hb), I.nofs hb, .inr (Nat.le_trans I.sz hb), fun x c e z => ?_, fun p hp z => ?_⟩
  · obtain ⟨v, q⟩ := I.cell x c e
    exact absurd (Nat.lt_of_lt_of_le q.lt (by rw [z]; exact hb)) (Nat.lt_irrefl _)
  · exact absurd (Nat.lt_of_lt_of_le (Heap.lt_size (I.pin p hp).1) (by rw [z]; exact hb)) (Nat.lt_irrefl _)
structure Turn (P : Program) (w : World) (K : PySem.W.Frag) (tg : Expr) (J : It) (fp : List Addr) (it : Addr) (tn : Nat → Heap → Prop) : Prop where
  mem : it ∈ fp
  obj : ∀ i h, tn i h → ∀ b ∈ fp, ∃ o, h.get? b = some o ∧ ∀ v, o.data ≠ .cell v
  keep : ∀ i h h', tn i h → (∀ b ∈ fp, ∀ o, h.get? b = some o → h'.get? b = some o) → tn i h'
  item : ∀ (X : Cx), X.prog = P → X.w = w → X.K = K → X.calm = true → ∀ (i : Nat) (pins : List (Addr × Obj)) (s : Shared) (σ : St) (H : Hp) (E : Value → Shared → Prop), Inv X pins σ H s → (∀ b ∈ fp, FpOk X pins H b) → tn i s.heap → J.go i H →
    wpAny (model P w) X.A (pyNext (.ref it)) (fun r s1 => ∃ u, r = some u ∧
      wpAny (model P w) X.A (letOwnedTupleGo tg (.ref it) u) (fun _ s2 => ∃ x H', Inv X pins σ H' s2 ∧ RelV x u ∧ J.yld i H x H' ∧ tn (i + 1) s2.heap ∧ ∀ b ∈ fp, H' b = none) E s1) E s
  done : ∀ (X : Cx), X.prog = P → X.w = w → X.K = K → X.calm = true → ∀ (i : Nat) (pins : List (Addr × Obj)) (s : Shared) (σ : St) (H : Hp) (E : Value → Shared → Prop), Inv X pins σ H s → (∀ b ∈ fp, FpOk X pins H b) → tn i s.heap → J.stop i H →
    wpAny (model P w) X.A (pyNext (.ref it)) (fun r s1 => r = none ∧ Inv X pins σ H s1) E s
  self : ∀ (A : Around) (i : Nat) (s : Shared) (Q : Value → Shared → Prop) (E : Value → Shared → Prop), tn i s.heap → Q (.ref it) s → wpAny (model P w) A (pyIter (.ref it)) Q E s
abbrev TI := St → Hp → (It → Hp → Prop) → Prop
def PIE (X : Cx) (pins : List (Addr × Obj)) (σ : St) (tg : Expr) (R : It → Hp → Prop) (itv : Value) (s2 : Shared) : Prop :=
  ∃ (it : Addr) (fp : List Addr) (tn : Nat → Heap → Prop) (J : It) (H' : Hp), itv = .ref it ∧ Inv X pins σ H' s2 ∧ Turn X.prog X.w X.K tg J fp it tn ∧ tn 0 s2.heap ∧ (∀ b ∈ fp, FpOk X pins H' b) ∧ R J H'
def PI (X : Cx) (tg iter : Expr) (wi : TI) : Prop :=
  ∀ (pins : List (Addr × Obj)) (s : Shared) (σ : St) (H : Hp) (R : It → Hp → Prop), Inv X pins σ H s → wi σ H R →
    wpAny (model X.prog X.w) X.A (eval iter X.env) (fun v s1 => wpAny (model X.prog X.w) X.A (pyIter v) (PIE X pins σ tg R) X.xe s1) X.xe s
theorem go_of {M : Model} {A : Around} {E : Value → Shared → Prop} {s : Shared} {tg : Expr} {it : Addr} {u : Value} {o : Obj} {n : String} {vs : Array Value} {Q : Unit → Shared → Prop} (ho : s.heap.get? it = some o) (hc : o.cls = .type n) (hd : o.data = .fields vs)
    (hn : ["enumerate", "zip", "dict_itemiterator", "dict_reverseitemiterator", "odict_iterator", "itertools.zip_longest", "itertools.pairwise"].contains n = false) (hQ : Q () s) : wpAny M A (letOwnedTupleGo tg (.ref it) u) Q E s := by
  unfold letOwnedTupleGo
  cases tg <;> first
    | exact wpAny_pure hQ
    | (cases u <;> first
        | exact wpAny_pure hQ
        | (refine wpAny_bind (wpAny_load ho ?_)
           rw [hc, hd]
           show wpAny M A (if (["enumerate", "zip", "dict_itemiterator", "dict_reverseitemiterator", "odict_iterator", "itertools.zip_longest", "itertools.pairwise"].contains n && vs[0]? == some (rawInt _)) = true then _ else _) Q E s
           rw [if_neg (by intro h; rw [hn, Bool.false_and] at h; cases h)]
           exact wpAny_pure hQ))
def Itl (K : PySem.W.Frag) (a : Addr) : It :=
  ⟨fun i H => ∃ xs x, SqL K H a xs ∧ xs[i]? = some x, fun i H x H' => H' = H ∧ ∀ xs, SqL K H a xs → xs[i]? = some x, fun i H => ∃ xs, SqL K H a xs ∧ xs.length ≤ i⟩
def Itt (K : PySem.W.Frag) (a : Addr) : It :=
  ⟨fun i H => ∃ xs x, SqT K H a xs ∧ xs[i]? = some x, fun i H x H' => H' = H ∧ ∀ xs, SqT K H a xs → xs[i]? = some x, fun i H => ∃ xs, SqT K H a xs ∧ xs.length ≤ i⟩
def Itr (lo : Int) (n : Nat) : It := ⟨fun i _ => i < n, fun i H x H' => H' = H ∧ x = .int (lo + i), fun i _ => n ≤ i⟩
theorem turn_list {P : Program} {w : World} {K : PySem.W.Frag} {tg : Expr} (a it : Addr) : Turn P w K tg (Itl K a) [it] it (fun i h => h.IsListIter it a i) where
  mem := by simp
  obj := fun i h st b hb => by
    have e : b = it := by simpa using hb
    subst e
    obtain ⟨o, e, c, d⟩ := st
    exact ⟨o, e, fun v z => by rw [d] at z; cases z⟩
  keep := fun i h h' st k => st.at fun o e => k it (by simp) o e
  item := by
    intro X hP hw hK hc i pins s σ H E I hf st hg
    subst hP hw hK
    obtain ⟨xs, x, hq, hx⟩ := hg
    obtain ⟨its, rv, p, hz⟩ := I.list hq
    obtain ⟨u, hu, ru⟩ := rv.get hx
    obtain ⟨f0, f1, f2, f3, f4, f5⟩ := hf it (by simp)
    refine wpAny_pyNext_list_item st p.isList (x := u) (by simpa using hu) fun h' st' sb => ?_
    have I1 : Inv X pins σ H { s with heap := h' } := I.turned (t' := s.toks) (fun b o hb e => (sb.2 b hb).trans e) f0 f1 f3 f4 f5
    obtain ⟨o, e, c, d⟩ := id st'
    exact ⟨u, rfl, go_of (s := { s with heap := h' }) e c d (by decide) ⟨x, H, I1, ru, ⟨rfl, fun ys hy => by rw [I.list_inj hy hq]; exact hx⟩, st', fun b hb => (hf b hb).1⟩⟩
  done := by
    intro X hP hw hK hc i pins s σ H E I hf st hg
    subst hP hw hK
    obtain ⟨xs, hq, hx⟩ := hg
    obtain ⟨its, rv, p, hz⟩ := I.list hq
    obtain ⟨f0, f1, f2, f3, f4, f5⟩ := hf it (by simp)
    have hl := rv.length
    exact wpAny_pyNext_list_end (I.ok.hd hc) st p.isList (by simp; omega) fun h' eb => ⟨rfl, I.turned (t' := s.toks) (fun b o hb e => eb b o hb e) f0 f1 f3 f4 f5⟩
  self := fun _ _ _ _ _ st h => wpAny_pyIter_listiter st h
theorem turn_tuple {P : Program} {w : World} {K : PySem.W.Frag} {tg : Expr} (a it : Addr) : Turn P w K tg (Itt K a) [it] it (fun i h => h.IsTupleIter it a i) where
  mem := by simp
  obj := fun i h st b hb => by
    have e : b = it := by simpa using hb
    subst e
    obtain ⟨o, e, c, d⟩ := st
    exact ⟨o, e, fun v z => by rw [d] at z; cases z⟩
  keep := fun i h h' st k => st.at fun o e => k it (by simp) o e
  item := by
    intro X hP hw hK hc i pins s σ H E I hf st hg
    subst hP hw hK
    obtain ⟨xs, x, hq, hx⟩ := hg
    obtain ⟨its, rv, p, hz⟩ := I.tuple hq
    obtain ⟨u, hu, ru⟩ := rv.get hx
    obtain ⟨f0, f1, f2, f3, f4, f5⟩ := hf it (by simp)
    refine wpAny_pyNext_tuple_item st (show s.heap.IsTuple a its.toArray from p) (x := u) (by simpa using hu) fun h' st' sb => ?_
    have I1 : Inv X pins σ H { s with heap := h' } := I.turned (t' := s.toks) (fun b o hb e => (sb.2 b hb).trans e) f0 f1 f3 f4 f5
    obtain ⟨o, e, c, d⟩ := id st'
    exact ⟨u, rfl, go_of (s := { s with heap := h' }) e c d (by decide) ⟨x, H, I1, ru, ⟨rfl, fun ys hy => by rw [I.tuple_inj hy hq]; exact hx⟩, st', fun b hb => (hf b hb).1⟩⟩
  done := by
    intro X hP hw hK hc i pins s σ H E I hf st hg
    subst hP hw hK
    obtain ⟨xs, hq, hx⟩ := hg
    obtain ⟨its, rv, p, hz⟩ := I.tuple hq
    obtain ⟨f0, f1, f2, f3, f4, f5⟩ := hf it (by simp)
    have hl := rv.length
    exact wpAny_pyNext_tuple_end (I.ok.hd hc) st (show s.heap.IsTuple a its.toArray from p) (by simp; omega) fun h' eb => ⟨rfl, I.turned (t' := s.toks) (fun b o hb e => eb b o hb e) f0 f1 f3 f4 f5⟩
  self := fun _ _ _ _ _ st h => wpAny_pyIter_tupleiter st h
theorem turn_range {P : Program} {w : World} {K : PySem.W.Frag} {tg : Expr} (it : Addr) (lo : Int) (n : Nat) : Turn P w K tg (Itr lo n) [it] it (fun i h => IsRangeIter h it (lo + (i : Nat) * 1) ((n : Int) - (i : Nat)) 1) where
  mem := by simp
  obj := fun i h st b hb => by
    have e : b = it := by simpa using hb
    subst e
    exact ⟨_, st, fun v z => by
      have z' : Data.fields _ = Data.cell v := z
      cases z'⟩
  keep := fun i h h' st k => k it (by simp) _ st
  item := by
    intro X hP hw hK hc i pins s σ H E I hf st hg
    subst hP hw hK
    obtain ⟨f0, f1, f2, f3, f4, f5⟩ := hf it (by simp)
    have W := Walks.range (prog := X.prog) (w := X.w) (I.ok.hd hc) it lo 1 n
    refine W.item i s _ _ hg st fun v h' tk hv st' kk => ?_
    obtain ⟨t, rfl⟩ := hv
    have I1 : Inv X pins σ H { s with heap := h', toks := tk } := I.turned (fun b o hb e => kk b o (by simpa using hb) e) f0 f1 f3 f4 f5
    refine ⟨_, rfl, go_of (s := { s with heap := h', toks := tk }) (n := "range_iterator") st' rfl rfl (by decide) ⟨.int (lo + i), H, I1, ⟨t, ?_⟩, ⟨rfl, rfl⟩, st', fun b hb => (hf b hb).1⟩⟩
    rw [Int.mul_one]
  done := by
    intro X hP hw hK hc i pins s σ H E I hf st hg
    subst hP hw hK
    obtain ⟨f0, f1, f2, f3, f4, f5⟩ := hf it (by simp)
    exact wpAny_pyNext_range_end (I.ok.hd hc) st (by have : n ≤ i := hg; omega) fun h' eb => ⟨rfl, I.turned (t' := s.toks) (fun b o hb e => eb b o hb e) f0 f1 f3 f4 f5⟩
  self := fun _ _ _ _ _ st h => wpAny_pyIter_rangeiter st h
end L2
namespace L2
open PySem PySem.Spec PyProof.Rows
section
variable {X : Cx} {tg : Expr}
theorem range_it {pins : List (Addr × Obj)} {σ : St} {H : Hp} {s : Shared} {R : It → Hp → Prop} {E : Value → Shared → Prop} {lo hi : Int} {t u v : Tok} {tk : Nat} (I : Inv X pins σ H s) (h1 : -(2 ^ 62) ≤ lo) (h2 : lo < 2 ^ 62) (h3 : -(2 ^ 62) ≤ hi) (h4 : hi < 2 ^ 62)
    (q : R (Itr lo (hi - lo).toNat) H) : wpAny (model X.prog X.w) X.A (pyIter (.ref s.heap.objs.size)) (PIE X pins σ tg R) E { s with heap := s.heap.push { cls := .type "range", data := .fields #[.int lo t, .int hi u, .int 1 v] }, toks := tk } := by
  refine wpAny_pyIter_range (IsRange.new ..) (small_one h1 h2 h3 h4) ?_
  have I1 : Inv X pins σ H { s with heap := s.heap.push { cls := .type "range", data := .fields #[.int lo t, .int hi u, .int 1 v] }, toks := tk } := I.kept fun b o e => Heap.get?_push_of_some _ e
  refine ⟨(s.heap.push { cls := .type "range", data := .fields #[.int lo t, .int hi u, .int 1 v] }).objs.size, [(s.heap.push { cls := .type "range", data := .fields #[.int lo t, .int hi u, .int 1 v] }).objs.size], _, _, H, rfl,
    I1.kept (t' := tk) fun b o e => Heap.get?_push_of_some _ e, turn_range _ lo (hi - lo).toNat, ?_, fun b hb => ?_, q⟩
  · have e1 : lo + ((0 : Nat) : Int) * 1 = lo := by simp
    have e2 : (((hi - lo).toNat : Nat) : Int) - ((0 : Nat) : Int) = Builtin.Range.rangeSize lo hi 1 := by rw [rangeSize_one]; split <;> omega
    show IsRangeIter _ _ (lo + ((0 : Nat) : Int) * 1) ((((hi - lo).toNat : Nat) : Int) - ((0 : Nat) : Int)) 1
    rw [e1, e2]
    exact Heap.get?_push_size _ rfl
  · have e : b = (s.heap.push { cls := .type "range", data := .fields #[.int lo t, .int hi u, .int 1 v] }).objs.size := by simpa using hb
    subst e
    exact I1.fpOk (Nat.le_refl _) (I1.hok.fresh (Nat.le_refl _))
def iRng1 (ta : TA) : TI := fun σ H R => ta σ H fun vs H1 => ∃ j : Int, vs = [.int j] ∧ -(2 ^ 62) ≤ j ∧ j < 2 ^ 62 ∧ R (Itr 0 j.toNat) H1
theorem pi_range1 {a : Expr} {ta : TA} {p pos : Pos} (hg : Gl X "range") (hm : X.mg "range" = none) (ha : PA X [a] ta) (hs : starEach [a] X.env = [(false, eval a X.env)] := by rfl) : PI X tg (.Call (.Name "range" p) [a] [] pos) (iRng1 ta) := by
  intro pins s σ H R I h
  refine Call_ (ld_blt I hg hm boot_range (PyProof.Rows.callWith_type1 (thn (ha pos pins s σ H _ I h) fun us s1 ⟨vs, H1, I1, r1, q1⟩ => ?_) hs rfl))
  obtain ⟨j, e, q1, q2, q⟩ := q1
  subst e
  cases r1 with
  | cons r rr =>
    cases rr
    obtain ⟨t, rfl⟩ := r
    exact call_range_1 (range_it I1 (by omega) (by omega) q1 q2 (by simpa using q))
def tFor (wi : TI) (g : TG) (tb : TS) : TS := fun D σ H => wi σ H fun J H1 => ∃ W : Nat → Nat → St → Hp → Prop, (∃ m, W 0 m σ H1) ∧ ∀ i m σ H, W i m σ H →
  (J.stop i H ∧ D.nx σ H) ∨ (J.go i H ∧ ∃ N : St → Hp → Prop, (∀ σ' H', N σ' H' → ∃ m', m' < m ∧ W (i + 1) m' σ' H') ∧ ∀ x H', J.yld i H x H' → g x σ H' fun σ2 H2 => tb { D with nx := N, ct := N, bk := D.nx } σ2 H2)
def pinsAt (fp : List Addr) (h : Heap) : List (Addr × Obj) := fp.filterMap fun b => (h.get? b).map fun o => (b, o)
theorem mem_pinsAt {fp : List Addr} {h : Heap} {b : Addr} {o : Obj} (hb : b ∈ fp) (e : h.get? b = some o) : (b, o) ∈ pinsAt fp h := List.mem_filterMap.mpr ⟨b, hb, by rw [e]; rfl⟩
theorem of_pinsAt {fp : List Addr} {h : Heap} {p : Addr × Obj} (hp : p ∈ pinsAt fp h) : p.1 ∈ fp ∧ h.get? p.1 = some p.2 := by
  obtain ⟨b, hb, e⟩ := List.mem_filterMap.mp hp
  cases q : h.get? b with
  | none => rw [q] at e; cases e
  | some o =>
    rw [q] at e
    have e' : (b, o) = p := Option.some.inj e
    subst e'
    exact ⟨hb, q⟩
theorem Inv.pinned {pins : List (Addr × Obj)} {σ : St} {H : Hp} {s : Shared} {fp : List Addr} (I : Inv X pins σ H s) (hf : ∀ b ∈ fp, FpOk X pins H b) (ho : ∀ b ∈ fp, ∃ o, s.heap.get? b = some o ∧ ∀ v, o.data ≠ .cell v) : Inv X (pins ++ pinsAt fp s.heap) σ H s :=
  I.pins_of fun p hp => (List.mem_append.mp hp).elim (fun z => I.pin p (List.mem_append_right _ z)) fun z => by
    obtain ⟨hb, e⟩ := of_pinsAt z
    obtain ⟨f0, f1, f2, _⟩ := hf p.1 hb
    obtain ⟨o, e', d⟩ := ho p.1 hb
    rw [e] at e'; cases e'
    exact ⟨e, f0, f1, f2, d⟩
theorem Inv.unpinned {pins pl : List (Addr × Obj)} {σ : St} {H : Hp} {s : Shared} (I : Inv X (pins ++ pl) σ H s) : Inv X pins σ H s := I.pins_of fun p hp => I.pin p (List.mem_append_right _ (List.mem_append_left _ hp))
theorem ps_for {iter : Expr} {body : List Stmt} {wi : TI} {g : TG} {tb : TS} {pos : Pos} (hp : PassesOwn (model X.prog X.w) X.A X.env X.xe) (hc : X.calm = true) (hi : PI X tg iter wi) (hg : PG X tg g) (hb : PSs X body tb)
    (hs : ∀ x, foldedSetIterable iter X.env x = pure x := by intro _; rfl) : PS X (.For tg iter body [] pos) (tFor wi g tb) := by
  intro pins s σ H D I h
  refine wpAny_For (thn (hi pins s σ H _ I h) fun v s1 h1 => thn h1 fun itv s2 h2 => ?_) hs
  obtain ⟨it, fp, tn, J, H2, e, I2, T, st2, f2, W, ⟨m0, w0⟩, turn⟩ := h2
  subst e
  -- what stays true of the iterator's objects through the loop
  have stat : ∀ {H' : Hp}, (∀ b ∈ fp, H' b = none) → ∀ b ∈ fp, FpOk X pins H' b := fun hn b hb => ⟨hn b hb, (f2 b hb).2⟩
  refine codeAny_forLoop_any (fun n s' => ∃ i σ' H', Inv X pins σ' H' s' ∧ tn i s'.heap ∧ (∀ b ∈ fp, H' b = none) ∧ W i n σ' H') ?_ m0 ⟨0, σ, H2, I2, st2, fun b hb => (f2 b hb).1, w0⟩
  rintro n s3 ⟨i, σ3, H3, I3, st3, fr3, w3⟩
  rcases turn i n σ3 H3 w3 with ⟨stop, qn⟩ | ⟨go, N, hN, step⟩
  · refine wpAny_passesOwn hp (thn (T.done X rfl rfl rfl hc i pins s3 σ3 H3 X.xe I3 (stat fr3) st3 stop) fun r s4 ⟨hr, I4⟩ => ?_)
    subst hr
    exact wpAny_execs_nil ⟨σ3, H3, I4, qn⟩
  · refine wpAny_passesOwn hp (thn (T.item X rfl rfl rfl hc i pins s3 σ3 H3 X.xe I3 (stat fr3) st3 go) fun r s4 ⟨u, hr, h4⟩ => ?_)
    subst hr
    refine wpAny_passesOwn hp (thn h4 fun _ s5 ⟨x, H5, I5, r5, y5, st5, fr5⟩ => ?_)
    have I5' := I5.pinned (stat fr5) (T.obj _ _ st5)
    refine wpAny_passesOwn hp (thn (hg _ s5 σ3 H5 x u _ I5' r5 (step x H5 y5)) fun _ s6 ⟨σ6, H6, I6, q6⟩ => ?_)
    refine wpAny_passesOwn hp (thn (hb _ s6 σ6 H6 _ I6 q6) fun f s7 q7 => ?_)
    have again : ∀ {σ7 : St} {H7 : Hp}, Inv X (pins ++ pinsAt fp s5.heap) σ7 H7 s7 → N σ7 H7 → ∃ m, m < n ∧ ∃ i σ' H', Inv X pins σ' H' s7 ∧ tn i s7.heap ∧ (∀ b ∈ fp, H' b = none) ∧ W i m σ' H' := fun {σ7 H7} I7 n7 => by
      obtain ⟨m', hm, w7⟩ := hN σ7 H7 n7
      refine ⟨m', hm, i + 1, σ7, H7, I7.unpinned, T.keep _ _ _ st5 fun b hb o e => (I7.pin (b, o) (List.mem_append_right _ (List.mem_append_right _ (mem_pinsAt hb e)))).1, fun b hb => ?_, w7⟩
      obtain ⟨o, e, d⟩ := T.obj _ _ st5 b hb
      exact (I7.pin (b, o) (List.mem_append_right _ (List.mem_append_right _ (mem_pinsAt hb e)))).2.1
    cases f with
    | next => obtain ⟨σ7, H7, I7, n7⟩ := q7; exact again I7 n7
    | cont => obtain ⟨σ7, H7, I7, n7⟩ := q7; exact again I7 n7
    | brk => obtain ⟨σ7, H7, I7, q7⟩ := q7; exact ⟨σ7, H7, I7.unpinned, q7⟩
    | ret v => obtain ⟨x7, σ7, H7, I7, r7, q7⟩ := q7; exact ⟨x7, σ7, H7, I7.unpinned, r7, q7⟩
end
end L2
namespace L2
open PySem PySem.Spec PyProof.Rows
abbrev R2 := V → V → Hp → VK → Prop
def OpR (X : Cx) (f : Value → Value → Sem Value) (r : R2) : Prop :=
  ∀ (pins : List (Addr × Obj)) (s : Shared) (σ : St) (H : Hp) (x y : V) (v u : Value) (Q : VK), Inv X pins σ H s → RelV x v → RelV y u → r x y H Q →
    wpAny (model X.prog X.w) X.A (f v u) (EP X pins σ Q) X.xe s
def UnR (X : Cx) (f : Value → Sem Value) (r : V → Hp → VK → Prop) : Prop :=
  ∀ (pins : List (Addr × Obj)) (s : Shared) (σ : St) (H : Hp) (x : V) (v : Value) (Q : VK), Inv X pins σ H s → RelV x v → r x H Q →
    wpAny (model X.prog X.w) X.A (f v) (EP X pins σ Q) X.xe s
def CallR (X : Cx) (f : Value) (r : List V → Hp → VK → Prop) : Prop :=
  ∀ (pins : List (Addr × Obj)) (s : Shared) (σ : St) (H : Hp) (xs : List V) (us : List Value) (Q : VK), Inv X pins σ H s → Vals xs us → r xs H Q →
    wpAny (model X.prog X.w) X.A (call f us) (EP X pins σ Q) X.xe s
def tOp (r : R2) (ta tb : TE) : TE := fun σ H Q => ta σ H fun x H1 => tb σ H1 fun y H2 => r x y H2 Q
def tUn (r : V → Hp → VK → Prop) (ta : TE) : TE := fun σ H Q => ta σ H fun x H1 => r x H1 Q
def rI (C : Int → Int → Prop) (g : Int → Int → V) : R2 := fun x y H Q => ∃ i j, x = .int i ∧ y = .int j ∧ C i j ∧ Q (g i j) H
def rI0 (g : Int → Int → V) : R2 := fun x y H Q => ∃ i j, x = .int i ∧ y = .int j ∧ Q (g i j) H
def rU (g : Int → V) : V → Hp → VK → Prop := fun x H Q => ∃ i, x = .int i ∧ Q (g i) H
section
variable {X : Cx} {a b c : Expr} {ta tb tc : TE} {pos : Pos}
theorem binT (ha : PE X a ta) (hb : PE X b tb) {pins : List (Addr × Obj)} {s : Shared} {σ : St} {H : Hp} {R : V → V → Hp → Prop} (I : Inv X pins σ H s)
    (h : ta σ H fun x H1 => tb σ H1 fun y H2 => R x y H2) {Q : Value → Shared → Prop} {f : Value → Value → Sem Value}
    (hf : ∀ v u s2 x y H2, Inv X pins σ H2 s2 → RelV x v → RelV y u → R x y H2 → wpAny (model X.prog X.w) X.A (f v u) Q X.xe s2) :
    wpAny (model X.prog X.w) X.A (eval a X.env) (fun v s₁ => wpAny (model X.prog X.w) X.A (eval b X.env) (fun u s₂ => wpAny (model X.prog X.w) X.A (f v u) Q X.xe s₂) X.xe s₁) X.xe s := by
  refine thn (ha pins s σ H _ I h) fun v s1 ⟨x, H1, I1, r1, q1⟩ => ?_
  refine thn (hb pins s1 σ H1 _ I1 q1) fun u s2 ⟨y, H2, I2, r2, q2⟩ => ?_
  exact hf v u s2 x y H2 I2 r1 r2 q2
theorem pe_op {op : Operator} {r : R2} (ho : OpR X (binaryOp op) r) (ha : PE X a ta) (hb : PE X b tb) : PE X (.BinOp a op b pos) (tOp r ta tb) := by
  intro pins s σ H Q I h
  exact wpAny_BinOp (binT ha hb I h fun v u s2 x y H2 I2 rx ry q => ho pins s2 σ H2 x y v u Q I2 rx ry q)
theorem pe_un {op : UnaryOp} {r : V → Hp → VK → Prop} (ho : UnR X (unaryOp op) r) (ha : PE X a ta) : PE X (.UnaryOp op a pos) (tUn r ta) := by
  intro pins s σ H Q I h
  exact UnaryOp_ (thn (ha pins s σ H _ I h) fun v s1 ⟨x, H1, I1, r1, q1⟩ => ho pins s1 σ H1 x v Q I1 r1 q1)
theorem opI {f : Value → Value → Sem Value} {C : Int → Int → Prop} {g : Int → Int → Int}
    (rule : ∀ (i j : Int) (t u : Tok) (s : Shared) (Q : Value → Shared → Prop) (E : Value → Shared → Prop), C i j → Q (.int (g i j) s.toks) { s with toks := s.toks + 1 } → wpAny (model X.prog X.w) X.A (f (.int i t) (.int j u)) Q E s) :
    OpR X f (rI C fun i j => .int (g i j)) := by
  intro pins s σ H x y v u Q I rx ry h
  obtain ⟨i, j, rfl, rfl, hc, q⟩ := h
  obtain ⟨t, rfl⟩ := rx
  obtain ⟨t', rfl⟩ := ry
  exact rule i j t t' s _ _ hc ⟨.int (g i j), H, I.tok _, ⟨_, rfl⟩, q⟩
theorem opI0 {f : Value → Value → Sem Value} {g : Int → Int → Int}
    (rule : ∀ (i j : Int) (t u : Tok) (s : Shared) (Q : Value → Shared → Prop) (E : Value → Shared → Prop), Q (.int (g i j) s.toks) { s with toks := s.toks + 1 } → wpAny (model X.prog X.w) X.A (f (.int i t) (.int j u)) Q E s) :
    OpR X f (rI0 fun i j => .int (g i j)) := by
  intro pins s σ H x y v u Q I rx ry h
  obtain ⟨i, j, rfl, rfl, q⟩ := h
  obtain ⟨t, rfl⟩ := rx
  obtain ⟨t', rfl⟩ := ry
  exact rule i j t t' s _ _ ⟨.int (g i j), H, I.tok _, ⟨_, rfl⟩, q⟩
theorem opB0 {f : Value → Value → Sem Value} {g : Int → Int → Bool}
    (rule : ∀ (i j : Int) (t u : Tok) (s : Shared) (Q : Value → Shared → Prop) (E : Value → Shared → Prop), Q (.bool (g i j)) s → wpAny (model X.prog X.w) X.A (f (.int i t) (.int j u)) Q E s) :
    OpR X f (rI0 fun i j => .bl (g i j)) := by
  intro pins s σ H x y v u Q I rx ry h
  obtain ⟨i, j, rfl, rfl, q⟩ := h
  obtain ⟨t, rfl⟩ := rx
  obtain ⟨t', rfl⟩ := ry
  exact rule i j t t' s _ _ ⟨.bl (g i j), H, I, rfl, q⟩
def CDiv (i j : Int) : Prop := 0 < j ∧ j < 1073741824
def CPow (i j : Int) : Prop := 0 ≤ j ∧ j ≤ 1000000 ∧ i.natAbs < 2 ^ 64
def CMul (i j : Int) : Prop := (-(2 ^ 64) < i ∧ i < 2 ^ 64) ∨ (-(2 ^ 64) < j ∧ j < 2 ^ 64)
theorem CMul.ok {i j : Int} (h : CMul i j) : IntMulOk i j := by
  rcases h with ⟨h1, h2⟩ | ⟨h1, h2⟩
  · exact .of_left (intBits_le_64 h1 h2)
  · exact .of_right (intBits_le_64 h1 h2)
theorem op_add : OpR X (binaryOp .Add) (rI0 fun i j => .int (i + j)) := opI0 fun _ _ _ _ _ _ _ q => add_int q
theorem op_sub : OpR X (binaryOp .Sub) (rI0 fun i j => .int (i - j)) := opI0 fun _ _ _ _ _ _ _ q => sub_int q
theorem op_mul : OpR X (binaryOp .Mult) (rI CMul fun i j => .int (i * j)) := opI fun _ _ _ _ _ _ _ hc q => mul_int q hc.ok
theorem op_fdiv : OpR X (binaryOp .FloorDiv) (rI CDiv fun i j => .int (i / j)) := opI fun i j _ _ _ _ _ hc q => by
  have h1 : (0 : Int) < j := hc.1
  have h2 : j < 1073741824 := hc.2
  exact floordiv_int (by omega) (by rw [Int.fdiv_eq_ediv_of_nonneg i (by omega)]; exact q) (.inl (PyProof.noPylong_small (by omega)))
theorem op_mod : OpR X (binaryOp .Mod) (rI (fun _ j => 0 < j) fun i j => .int (i % j)) := opI fun i j _ _ _ _ _ hc q => by
  have h1 : (0 : Int) < j := hc
  exact mod_int' (by omega) (by rw [Int.fmod_eq_emod_of_nonneg i (by omega)]; exact q)
theorem op_pow : OpR X (binaryOp .Pow) (rI CPow fun i j => .int (i ^ j.toNat)) := opI fun _ _ _ _ _ _ _ hc q => pow_int_small hc.1 hc.2.1 hc.2.2 q
theorem unI {f : Value → Sem Value} {g : Int → Int}
    (rule : ∀ (i : Int) (t : Tok) (s : Shared) (Q : Value → Shared → Prop) (E : Value → Shared → Prop), Q (.int (g i) s.toks) { s with toks := s.toks + 1 } → wpAny (model X.prog X.w) X.A (f (.int i t)) Q E s) :
    UnR X f (rU fun i => .int (g i)) := by
  intro pins s σ H x v Q I rx h
  obtain ⟨i, rfl, q⟩ := h
  obtain ⟨t, rfl⟩ := rx
  exact rule i t s _ _ ⟨.int (g i), H, I.tok _, ⟨_, rfl⟩, q⟩
theorem un_neg : UnR X (unaryOp .USub) (rU fun i => .int (-i)) := unI fun _ _ _ _ _ q => neg_int q
end
section
variable {X : Cx} {a b c : Expr} {ta tb tc : TE} {pos : Pos}
theorem op_lt : OpR X (compareOp .Lt) (rI0 fun i j => .bl (decide (i < j))) := opB0 fun _ _ _ _ _ _ _ q => lt_int q
theorem op_gt : OpR X (compareOp .Gt) (rI0 fun i j => .bl (decide (j < i))) := opB0 fun _ _ _ _ _ _ _ q => gt_int q
theorem op_ge : OpR X (compareOp .GtE) (rI0 fun i j => .bl (decide (j ≤ i))) := opB0 fun _ _ _ _ _ _ _ q => ge_int q
theorem OpR.or {f : Value → Value → Sem Value} {r r' : R2} (h : OpR X f r) (h' : OpR X f r') : OpR X f (fun x y H Q => r x y H Q ∨ r' x y H Q) := by
  intro pins s σ H x y v u Q I rx ry q
  rcases q with q | q
  · exact h pins s σ H x y v u Q I rx ry q
  · exact h' pins s σ H x y v u Q I rx ry q
theorem nomark (b : Expr) {op : CmpOp} (h : op ≠ .In := by decide) (h2 : op ≠ .NotIn := by decide) : behindInMarks op b = false := by
  have e1 : (op == CmpOp.In) = false := by cases op <;> first | rfl | exact absurd rfl h
  have e2 : (op == CmpOp.NotIn) = false := by cases op <;> first | rfl | exact absurd rfl h2
  cases b <;> simp [behindInMarks, e1, e2]
theorem pe_cmpR {op : CmpOp} {r : R2} (ho : OpR X (compareOp op) r) (ha : PE X a ta) (hb : PE X b tb) (hm : behindInMarks op b = false) : PE X (.Compare a [op] [b] pos) (tOp r ta tb) := by
  intro pins s σ H Q I h
  exact wpAny_Compare1 (binT ha hb I h fun v u s2 x y H2 I2 rx ry q => ho pins s2 σ H2 x y v u Q I2 rx ry q) hm
def tTest (t : TE) : TT := fun σ H Q => t σ H fun x H' => ∃ k, x = .bl k ∧ Q k H'
theorem pt_cmpR {op : CmpOp} {r : R2} (ho : OpR X (compareOp op) r) (ha : PE X a ta) (hb : PE X b tb) (hm : behindInMarks op b = false) : PT X (.Compare a [op] [b] pos) (tTest (tOp r ta tb)) := by
  intro pins s σ H Q I h
  refine wpAny_isTrue_Compare1 (thn (ha pins s σ H _ I h) fun v s1 ⟨x, H1, I1, r1, q1⟩ => thn (hb pins s1 σ H1 _ I1 q1) fun u s2 ⟨y, H2, I2, r2, q2⟩ =>
    thn (ho pins s2 σ H2 x y v u _ I2 r1 r2 q2) fun c s3 ⟨z, H3, I3, r3, k, e, q3⟩ => ?_) hm
  subst e
  cases r3
  exact wpAny_truthy_bool ⟨H3, I3, q3⟩
theorem line63 : (sizeLine : Nat) < 2 ^ 63 := by rw [sizeLine_eq]; decide
theorem op_add_str : OpR X (binaryOp .Add) (fun x y H Q => ∃ i j, x = .str i ∧ y = .str j ∧ i.length + j.length ≤ sizeLine ∧ Q (.str (i ++ j)) H) := by
  intro pins s σ H x y v u Q I rx ry h
  obtain ⟨i, j, rfl, rfl, hz, q⟩ := h
  obtain ⟨t, rfl⟩ := rx
  obtain ⟨t', rfl⟩ := ry
  exact add_str (fun t' tk => ⟨.str (i ++ j), H, I.tok _, ⟨_, rfl⟩, q⟩) hz
theorem vals1 {x : V} {us : List Value} (r : Vals [x] us) : ∃ u, us = [u] ∧ RelV x u := by
  cases r with
  | cons r1 r2 => cases r2; exact ⟨_, rfl, r1⟩
theorem vals2 {x y : V} {us : List Value} (r : Vals [x, y] us) : ∃ u w', us = [u, w'] ∧ RelV x u ∧ RelV y w' := by
  cases r with
  | cons r1 r2 =>
    cases r2 with
    | cons r3 r4 => cases r4; exact ⟨_, _, rfl, r1, r3⟩
theorem call_abs : CallR X (.builtin "abs") (fun xs H Q => ∃ i, xs = [.int i] ∧ Q (.int (if i < 0 then -i else i)) H) := by
  intro pins s σ H xs us Q I r h
  obtain ⟨i, rfl, q⟩ := h
  obtain ⟨u, rfl, t, rfl⟩ := vals1 r
  exact call_abs_int fun u tk => ⟨.int (if i < 0 then -i else i), H, I.tok _, ⟨_, rfl⟩, q⟩
theorem call_min2 (hc : X.calm = true) : CallR X (.builtin "min") (fun xs H Q => ∃ i j, xs = [.int i, .int j] ∧ Q (.int (if j < i then j else i)) H) := by
  intro pins s σ H xs us Q I r h
  obtain ⟨i, j, rfl, q⟩ := h
  obtain ⟨u, w', rfl, ⟨t, rfl⟩, ⟨t', rfl⟩⟩ := vals2 r
  refine min_two_ints (I.ok.hd hc) fun h' tk k => ⟨_, H, I.kept k, ?_, q⟩
  by_cases hj : j < i
  · rw [if_pos hj, if_pos hj]; exact ⟨_, rfl⟩
  · rw [if_neg hj, if_neg hj]; exact ⟨_, rfl⟩
def LenV (K : PySem.W.Frag) (x : V) (H : Hp) (n : Nat) : Prop :=
  match x with
  | .str y => y.length ≤ sizeLine ∧ n = y.length
  | .byt y => y.size ≤ sizeLine ∧ n = y.size
  | .ref p => (∃ xs, SqL K H p xs ∧ n = xs.length) ∨ ∃ xs, SqT K H p xs ∧ n = xs.length
  | _ => False
theorem call_len : CallR X (.builtin "len") (fun xs H Q => ∃ x n, xs = [x] ∧ LenV X.K x H n ∧ Q (.int n) H) := by
  intro pins s σ H xs us Q I r h
  obtain ⟨x, n, rfl, e, q⟩ := h
  obtain ⟨u, rfl, rx⟩ := vals1 r
  have hl := line63
  have hs : sizeLine = 16777216 := sizeLine_eq
  cases x with
  | str y =>
    obtain ⟨t, rfl⟩ := rx
    obtain ⟨hy, e'⟩ : y.length ≤ sizeLine ∧ n = y.length := e
    subst e'
    exact len_str (by omega) ⟨.int _, H, I.tok _, ⟨_, rfl⟩, q⟩
  | byt y =>
    obtain ⟨t, rfl⟩ := rx
    obtain ⟨hy, e'⟩ : y.size ≤ sizeLine ∧ n = y.size := e
    subst e'
    exact PySem.W.len_bytes (by omega) ⟨.int _, H, I.tok _, ⟨_, rfl⟩, q⟩
  | ref p =>
    cases rx
    have e' : (∃ xs, SqL X.K H p xs ∧ n = xs.length) ∨ ∃ xs, SqT X.K H p xs ∧ n = xs.length := e
    rcases e' with ⟨xs, hx, e'⟩ | ⟨xs, hx, e'⟩
    · subst e'
      obtain ⟨its, r', pl, hz⟩ := I.list hx
      have hlen := r'.length
      exact Calls.call_len_list pl.isList (by simp only [List.size_toArray]; omega) ⟨.int xs.length, H, I.tok _, ⟨_, by simp only [List.size_toArray]; rw [hlen]⟩, q⟩
    · subst e'
      obtain ⟨its, r', pl, hz⟩ := I.tuple hx
      have hlen := r'.length
      exact len_tuple pl (by simp only [List.size_toArray]; omega) ⟨.int xs.length, H, I.tok _, ⟨_, by simp only [List.size_toArray]; rw [hlen]⟩, q⟩
  | _ => exact (show False from e).elim
end
end L2
namespace L2
open PySem PySem.Spec PyProof.Rows
structure ObjM (h : Heap) (x dx C : Addr) (mA : Str → Option Value) : Prop where
  obj : h.get? x = some (PySem.W.instObj C dx)
  ns : h.Ns1 dx mA
  ne : dx ≠ x
theorem lookIn_ns {h : Heap} {dx : Addr} {mA : Str → Option Value} (n : h.Ns1 dx mA) : ∃ od, h.get? dx = some od ∧ ∀ name, PySem.W.lookIn name od = some (mA name) := by
  obtain ⟨o, es, ep, ho, hd, hk, _, hm⟩ := n
  refine ⟨o, ho, fun name => ?_⟩
  have e := hm name
  unfold nsFind findBy at e
  rw [← Array.find?_toList] at e
  unfold PySem.W.lookIn
  rw [hd]
  dsimp only
  split
  · rename_i y q
    rw [q] at e
    exact congrArg some e
  · rename_i q
    rw [q] at e
    have a : es.toList.any (·.refKey) = false := by
      rw [List.any_eq_false]
      intro y hy
      obtain ⟨z, t, hkey⟩ := hk y (Array.mem_toList_iff.mp hy)
      simp [DictEntry.refKey, hkey]
    have a' : ¬ es.toList.any (·.refKey) = true := by rw [a]; exact Bool.false_ne_true
    rw [if_neg a']
    exact congrArg some e
theorem ObjM.look {h : Heap} {x dx C : Addr} {mA : Str → Option Value} (I : ObjM h x dx C mA) : ∃ od, PySem.W.InstAt h x (PySem.W.instObj C dx) C (some od) ∧ ∀ name, PySem.W.lookIn name od = some (mA name) :=
  let ⟨od, ho, hl⟩ := lookIn_ns I.ns
  ⟨od, ⟨I.obj, rfl, rfl, ho⟩, hl⟩
section
variable {prog : Program} {w : World} {A : Around} {E : Value → Shared → Prop} {s : Shared} {K : PySem.W.Frag} {x dx C f : Addr} {mA : Str → Option Value} {name : Str} {v : Value}
end
section
variable {P : Program} {w : World} {H H' : Hp} {h h' : Heap} {a C dx : Addr} {fs fs' : List (Str × V)}
theorem ins_get (hok : HOk P w H h) (e : H a = some (.ins C dx fs)) : ∃ mA, ObjM h a dx C mA ∧ (∀ f, RelO (fs.lookup f) (mA f)) ∧ PySem.Within mA (fs.map (·.1)) ∧ fs.length ≤ 1000 ∧ H dx = some (.own a) := by
  obtain ⟨d, z, ne, ob, mA, n, r, q⟩ := (show ObjOk P w H h a (.ins C dx fs) from hok a _ e)
  exact ⟨mA, ⟨ob, n, ne⟩, r, q, z, d⟩
end
structure Cls (K : PySem.W.Frag) (C : Addr) : Prop where
  pg : PySem.W.plainGet K C Str.empty = true
  hd : PySem.W.hasDictIn K C = true
  po : PySem.W.plainOver K C = true
  sa : PySem.W.findIn K (.ref C) "__setattr__" = some (some (.builtin "object.__setattr__"))
theorem Cls.get {K : PySem.W.Frag} {C : Addr} (c : Cls K C) (f : Str) : PySem.W.plainGet K C f = true := c.pg
section
variable {X : Cx} {pins : List (Addr × Obj)} {σ : St} {H : Hp} {s : Shared} {a C dx : Addr} {fs : List (Str × V)} {f : Str} {v : V} {A : Around} {E : Value → Shared → Prop}
end
section
variable {X : Cx} {o e value : Expr} {f : Str} {pos pos' tpos : Pos} {ta tv : TE}
end
section
variable {X : Cx} {pins : List (Addr × Obj)} {σ : St} {H : Hp} {s : Shared} {A : Around} {E : Value → Shared → Prop} {Q : Value → Shared → Prop} {c : Value} {b : Bool}
inductive TyOf (K : PySem.W.Frag) (H : Hp) : V → Value → Prop where
  | non : TyOf K H .non (.type "NoneType")
  | bl (x : Bool) : TyOf K H (.bl x) (.type "bool")
  | int (i : Int) : TyOf K H (.int i) (.type "int")
  | str (x : Str) : TyOf K H (.str x) (.type "str")
  | flt (x : UInt64) : TyOf K H (.flt x) (.type "float")
  | lst {a : Addr} {xs : List V} (e : H a = some (.lst xs)) : TyOf K H (.ref a) (.type "list")
  | frz {a : Addr} {o : Obj} {xs : List V} (e : H a = some (.frz o (.lst xs))) : TyOf K H (.ref a) (.type "list")
  | tup {a : Addr} {xs : List V} (e : H a = some (.tup xs)) : TyOf K H (.ref a) (.type "tuple")
  | dK {a : Addr} {kvs : List (Key × V)} (e : H a = some (.dK kvs)) : TyOf K H (.ref a) (.type "dict")
  | dT {a : Addr} {kvs : List (List Key × V)} (e : H a = some (.dT kvs)) : TyOf K H (.ref a) (.type "dict")
  | ins {a C dx : Addr} {fs : List (Str × V)} (e : H a = some (.ins C dx fs)) (cl : Cls K C) (ha : PySem.W.findIn K (.ref C) "__class__" = some (some (.builtin "object.__class__")))
      (hn : PySem.W.specialIn K (.builtin "object.__class__") "__get__" = some (some (.builtin "getset_descriptor.__get__"))) (htk : PySem.W.takesIn K (.builtin "object.__class__") = some true)
      (hm : PySem.W.mroIn K C (.type "object") = some true) : TyOf K H (.ref a) (.ref C)
theorem isinst_ok {x : V} {u t : Value} (I : Inv X pins σ H s) (rx : RelV x u) (ty : TyOf X.K H x t) (e : PySem.W.kitOne X.K t c = some b) (h : ∀ tk, Q (.bool b) { s with toks := tk }) :
    wpAny (model X.prog X.w) A (call (.builtin "isinstance") [u, c]) Q E s := by
  cases ty with
  | non => cases (show u = Value.none from rx); exact PySem.W.kia_one PySem.W.kitx_none I.kIn True.intro e (fun z => nomatch z) h
  | bl y => cases (show u = Value.bool y from rx); exact PySem.W.kia_one PySem.W.kitx_bool I.kIn True.intro e (fun z => nomatch z) h
  | int i => obtain ⟨t, q⟩ := (show ∃ t, u = Value.int i t from rx); cases q; exact PySem.W.kia_one PySem.W.kitx_int I.kIn True.intro e (fun z => nomatch z) h
  | str y => obtain ⟨t, q⟩ := (show ∃ t, u = Value.str y t from rx); cases q; exact PySem.W.kia_one PySem.W.kitx_str I.kIn True.intro e (fun z => nomatch z) h
  | flt y => obtain ⟨t, q⟩ := (show ∃ t, u = Value.float y t from rx); cases q; exact PySem.W.kia_one PySem.W.kitx_float I.kIn True.intro e (fun z => nomatch z) h
  | @lst a xs ea =>
    cases (show u = Value.ref a from rx)
    obtain ⟨_, _, n, _, h1⟩ := (show ObjOk X.prog X.w H s.heap a (.lst xs) from I.hok a _ ea)
    exact PySem.W.kia_one PySem.W.kitx_list I.kIn ⟨_, h1, rfl⟩ e (fun z => nomatch z) h
  | @frz a ob xs ea =>
    cases (show u = Value.ref a from rx)
    obtain ⟨_, _, _, n, _, h1⟩ := (show ObjOk X.prog X.w H s.heap a (.frz ob (.lst xs)) from I.hok a _ ea)
    exact PySem.W.kia_one PySem.W.kitx_list I.kIn ⟨_, h1, rfl⟩ e (fun z => nomatch z) h
  | @tup a xs ea =>
    cases (show u = Value.ref a from rx)
    obtain ⟨_, _, _, p⟩ := (show ObjOk X.prog X.w H s.heap a (.tup xs) from I.hok a _ ea)
    obtain ⟨o, h1, h2, _⟩ := p
    exact PySem.W.kia_one PySem.W.kitx_tuple I.kIn ⟨o, h1, h2⟩ e (fun z => nomatch z) h
  | @dK a kvs ea =>
    cases (show u = Value.ref a from rx)
    obtain ⟨_, _, vs, _, p⟩ := (show ObjOk X.prog X.w H s.heap a (.dK kvs) from I.hok a _ ea)
    obtain ⟨o, es, ep, h1, h2, _⟩ := p
    exact PySem.W.kia_one PySem.W.kitx_dict I.kIn ⟨o, h1, h2.1⟩ e (fun z => nomatch z) h
  | @dT a kvs ea =>
    cases (show u = Value.ref a from rx)
    obtain ⟨_, _, xs, _, o, es, ep, h1, h2, _⟩ := (show ObjOk X.prog X.w H s.heap a (.dT kvs) from I.hok a _ ea)
    exact PySem.W.kia_one PySem.W.kitx_dict I.kIn ⟨o, h1, h2.1⟩ e (fun z => nomatch z) h
  | @ins a C dx fs ea cl ha hn htk hm =>
    cases (show u = Value.ref a from rx)
    obtain ⟨mA, O, _⟩ := ins_get I.hok ea
    obtain ⟨od, J, _⟩ := O.look
    exact PySem.W.kia_one (PySem.W.kitx_own (cl.get _) cl.hd ha hn htk hm) I.kIn J e (fun z => nomatch z) h
end
end L2
namespace L2
open PySem PySem.Spec PyProof.Rows
structure Room (k : Nat) (A : Around) : Prop where
  hd : A.handled = none
  dp : A.depth + 3 * k + 5 < recursionLimit
  un : A.units + 16 * k + 200 < cLine
  gd : A.guards = some []
theorem Room.mono {j k : Nat} {A : Around} (r : Room k A) (h : j ≤ k) : Room j A := ⟨r.hd, by have := r.dp; omega, by have := r.un; omega, r.gd⟩
theorem Room.deeper {k : Nat} {A : Around} (r : Room (k + 1) A) (env : Env) : Room k (A.deeper env) :=
  ⟨r.hd, by have := r.dp; show A.depth + 1 + 3 * k + 5 < _; omega, by have := r.un; show A.units + 3 + 16 * k + 200 < _; omega, r.gd⟩
theorem Room.in1 {k : Nat} {A : Around} (r : Room (k + 1) A) : Room k A.in1 :=
  ⟨r.hd, by have := r.dp; show A.depth + 3 * k + 5 < _; omega, by have := r.un; show A.units + 1 + 16 * k + 200 < _; omega, r.gd⟩
theorem Room.depth {k : Nat} {A : Around} (r : Room k A) : A.depth < recursionLimit := by have := r.dp; omega
theorem Room.units {k : Nat} {A : Around} (r : Room k A) : A.units + 64 < cLine := by have := r.un; omega
def tNil : TA := fun _ H Q => Q [] H
def tCons (ta : TE) (tr : TA) : TA := fun σ H Q => ta σ H fun x H1 => tr σ H1 fun xs H2 => Q (x :: xs) H2
section
variable {X : Cx} {e : Expr} {es : List Expr} {te : TE} {t : TA} {pos : Pos}
theorem pa_nil : PA X [] tNil := fun _ _ _ _ H Q I h => Calls.spliced_nil ⟨[], H, I, .nil, h⟩
theorem pa_cons (ha : PE X e te) (hr : PA X es t) (hs : starEach (e :: es) X.env = (false, eval e X.env) :: starEach es X.env := by rfl) : PA X (e :: es) (tCons te t) := by
  intro pos pins s σ H Q I h
  rw [hs]
  show wpAny _ _ (spliced ((false, eval e X.env) :: backTo pos (starEach es X.env))) _ _ s
  refine Calls.spliced_cons (thn (ha pins s σ H _ I h) fun u s1 ⟨x, H1, I1, r1, q1⟩ => ?_)
  exact thn (hr pos pins s1 σ H1 _ I1 q1) fun us s2 ⟨xs, H2, I2, r2, q2⟩ => ⟨x :: xs, H2, I2, .cons r1 r2, q2⟩
def tTup (t : TA) : TE := fun σ H Q => t σ H fun xs H1 => xs.length ≤ sizeLine ∧ ∀ p, H1 p = none → Q (.ref p) (upd H1 p (.tup xs))
def tLst (t : TA) : TE := fun σ H Q => t σ H fun xs H1 => xs.length ≤ sizeLine ∧ ∀ p, H1 p = none → Q (.ref p) (upd H1 p (.lst xs))
theorem pe_tup {x1} (h : PA X es t) : PE X (.Tuple es x1 pos) (tTup t) := by
  intro pins s σ H Q I hq
  refine wpAny_Tuple_spliced (thn (h pos pins s σ H _ I hq) fun us s1 ⟨xs, H1, I1, r, z, q⟩ => ⟨by rw [← r.length]; exact z, ?_⟩)
  have hf : H1 s1.heap.objs.size = none := I1.hok.fresh (Nat.le_refl _)
  refine ⟨.ref s1.heap.objs.size, upd H1 s1.heap.objs.size (.tup xs), I1.laid (t' := s1.toks) (fun b u e => Heap.get?_push_of_some _ e) (Nat.le_refl _) ?_, rfl, q _ hf⟩
  exact ⟨z, us, r, ⟨_, Heap.get?_push_size _ rfl, rfl, _, rfl⟩⟩
theorem pe_lst (h : PA X es t) : PE X (.List es pos) (tLst t) := by
  intro pins s σ H Q I hq
  refine wpAny_List_spliced (thn (h pos pins s σ H _ I hq) fun us s1 ⟨xs, H1, I1, r, z, q⟩ => ⟨by rw [← r.length]; exact z, ?_⟩)
  have hf : H1 s1.heap.objs.size = none := I1.hok.fresh (Nat.le_refl _)
  refine ⟨.ref s1.heap.objs.size, upd H1 s1.heap.objs.size (.lst xs), I1.laid (t' := s1.toks) (fun b u e => Heap.get?_push_of_some _ e) (Nat.le_refl _) ?_, rfl, q _ hf⟩
  exact ⟨z, us, 0, r, Heap.get?_push_size _ rfl⟩
end
abbrev Sp := List V → Hp → VK → XK → Prop
abbrev CXT := List Env → Hp → Shared → XK → Value → Shared → Prop
structure Env0 (P : Program) (w : World) (K : PySem.W.Frag) (mg : Str → Option Value) (base : Heap) (A : Around) (outer : List Env) (s : Shared) (H : Hp) : Prop where
  frames : A.frames = some outer
  mod : Mod K mg base
  bs : ∀ b o, base.get? b = some o → s.heap.get? b = some o ∧ H b = none
  bsz : base.objs.size ≤ s.heap.objs.size
  funs : s.heap.FunFrames base outer
  frf : ∀ b ∈ frs outer, H b = none
  hok : HOk P w H s.heap
  bare : AllBare s.gens
def CE (outer : List Env) (P : Program) (w : World) (H : Hp) (s : Shared) (Q : VK) (u : Value) (s' : Shared) : Prop :=
  ∃ v H', s'.os = s.os ∧ AllBare s'.gens ∧ Un (frs outer) [] H H' s.heap s'.heap ∧ HOk P w H' s'.heap ∧ RelV v u ∧ Q v H'
def CR (CX : CXT) (outer : List Env) (P : Program) (w : World) (H : Hp) (s : Shared) (Q : VK) (E : XK) (r : Result) (s' : Shared) : Prop :=
  match r with
  | .ok (.ret u) => CE outer P w H s Q u s'
  | .ok _ => False
  | .error e => CX outer H s E e s'
structure FnOk (P : Program) (w : World) (K : PySem.W.Frag) (mg : Str → Option Value) (base : Heap) (CX : CXT) (k : Nat) (f : Addr) (fd : FuncData) (ps : List Str) (sp : Sp) : Prop where
  len : ∀ vs H Q E, sp vs H Q E → vs.length = ps.length
  run : ∀ (A : Around) (outer : List Env) (s : Shared) (H : Hp) (args : Args) (us : List Value) (vs : List V) (Q : VK) (E : XK), Room k A → Env0 P w K mg base A outer s H → BindsTo s fd args (ps.zip us) → Vals vs us → sp vs H Q E →
    codeAny (model P w) A (.call (.ref f) args) (CR CX outer P w H s Q E) s
theorem FnOk.mono {P : Program} {w : World} {K : PySem.W.Frag} {mg : Str → Option Value} {base : Heap} {CX : CXT} {j k : Nat} {f : Addr} {fd : FuncData} {ps : List Str} {sp : Sp} (F : FnOk P w K mg base CX j f fd ps sp) (h : j ≤ k) :
    FnOk P w K mg base CX k f fd ps sp := ⟨F.len, fun A outer s H args us vs Q E hr => F.run A outer s H args us vs Q E (hr.mono h)⟩
theorem FnOk.imp {P : Program} {w : World} {K : PySem.W.Frag} {mg : Str → Option Value} {base : Heap} {CX : CXT} {k : Nat} {f : Addr} {fd : FuncData} {ps : List Str} {sp sp' : Sp} (F : FnOk P w K mg base CX k f fd ps sp)
    (h : ∀ vs H Q E, sp' vs H Q E → sp vs H Q E) : FnOk P w K mg base CX k f fd ps sp' :=
  ⟨fun vs H Q E q => F.len vs H Q E (h _ _ _ _ q), fun A outer s H args us vs Q E hr he hb hv hs => F.run A outer s H args us vs Q E hr he hb hv (h _ _ _ _ hs)⟩
theorem Env0.in1 {P : Program} {w : World} {K : PySem.W.Frag} {mg : Str → Option Value} {base : Heap} {A : Around} {outer : List Env} {s : Shared} {H : Hp} (e : Env0 P w K mg base A outer s H) :
    Env0 P w K mg base A.in1 outer s H := ⟨e.frames, e.mod, e.bs, e.bsz, e.funs, e.frf, e.hok, e.bare⟩
section
variable {X : Cx} {pins : List (Addr × Obj)} {σ : St} {H : Hp} {s s' : Shared}
theorem Inv.env0 (I : Inv X pins σ H s) : Env0 X.prog X.w X.K X.mg X.base X.A X.stack s H :=
  ⟨I.ok.frames, I.ok.mod, I.bs, Nat.le_trans I.ok.bsz I.sz, I.stack, I.stkFree, I.hok, I.bare⟩
theorem Inv.after {Q : VK} {u : Value} (I : Inv X pins σ H s) (h : CE X.stack X.prog X.w H s Q u s') : EP X pins σ Q u s' := by
  obtain ⟨v, H', os, bare, un, hok, r, q⟩ := h
  obtain ⟨hh, g, d, t, os'⟩ := s'
  obtain rfl : os' = s.os := os
  exact ⟨v, H', I.call (h' := hh) (g' := g) (d' := d) (t' := t) (ch := []) un hok bare (fun b z => absurd z (by simp)), r, q⟩
end
def tCall (sp : Sp) (dvs : List V) (E : XK) (t : TA) : TE := fun σ H Q => t σ H fun vs H1 => sp (vs ++ dvs) H1 Q E
def Binds (K : PySem.W.Frag) (fd : FuncData) (ps : List Str) (ds : List Value) : Prop :=
  ∀ (s : Shared) (us : List Value), K.In s.heap → (us ++ ds).length = ps.length → BindsTo s fd ⟨us, []⟩ (ps.zip (us ++ ds))
theorem Binds.all {K : PySem.W.Frag} {fd : FuncData} {ps : List Str} (h : ∀ us : List Value, us.length = ps.length → bindArgs fd ⟨us, []⟩ = pure (ps.zip us)) : Binds K fd ps [] := fun s us _ hl => by
  rw [List.append_nil] at hl ⊢
  exact .of_eq (h us hl)
def Passes (CX : CXT) (X : Cx) (E : XK) : Prop := ∀ (pins : List (Addr × Obj)) (σ : St) (H : Hp) (s : Shared) (e : Value) (s' : Shared), Inv X pins σ H s → CX X.stack H s E e s' → X.xe e s'
section
variable {X : Cx} {CX : CXT} {k : Nat} {f C : Addr} {fd : FuncData} {ps : List Str} {sp : Sp} {dvs : List V} {ds : List Value} {E : XK} {x m : Str} {p pos apos : Pos} {e o : Expr} {es : List Expr} {ta : TE} {t : TA}
theorem run_fn {pins : List (Addr × Obj)} {σ : St} {H : Hp} {s : Shared} {Q : VK} {us : List Value} {vs : List V} (F : FnOk X.prog X.w X.K X.mg X.base CX k f fd ps sp) (hr : Room k X.A) (hb : Binds X.K fd ps ds) (hd : Vals dvs ds) (hx : Passes CX X E)
    (I : Inv X pins σ H s) (r : Vals vs us) (h : sp (vs ++ dvs) H Q E) : wpAny (model X.prog X.w) X.A (call (.ref f) us) (EP X pins σ Q) X.xe s := by
  have r2 : Vals (vs ++ dvs) (us ++ ds) := r.append hd
  have hl : (us ++ ds).length = ps.length := by rw [← r2.length]; exact F.len _ _ _ _ h
  refine wpAny_call (codeAny_mono (F.run X.A X.stack s H ⟨us, []⟩ (us ++ ds) (vs ++ dvs) Q E hr I.env0 (hb s us I.kIn hl) r2 h) fun r s' hq => ?_)
  cases r with
  | error e => exact hx pins σ H s e s' I hq
  | ok fl =>
    cases fl with
    | ret u => exact I.after hq
    | next => exact False.elim hq
    | brk => exact False.elim hq
    | cont => exact False.elim hq
theorem pe_call (F : FnOk X.prog X.w X.K X.mg X.base CX k f fd ps sp) (hr : Room k X.A) (hg : Gl X x) (hm : X.mg x = some (.ref f)) (hk : PySem.W.keepIn X.K (.ref f) = true) (hb : Binds X.K fd ps ds) (hd : Vals dvs ds) (hx : Passes CX X E)
    (ha : PA X (e :: es) t) (hdb : (x == ("__debug__" : Str)) = false := by decide) (he : starEach (e :: es) X.env = (false, eval e X.env) :: starEach es X.env := by rfl) (hpl : (backTo pos (starEach es X.env)).any (·.1) = false := by rfl) :
    PE X (.Call (.Name x p) (e :: es) [] pos) (tCall sp dvs E t) := by
  intro pins s σ H Q I h
  refine wpAny_Call_Name_kw (ld_glob I hg hm ?_ hdb)
  refine PySem.W.callWith_K (h₀ := X.base) I.ok.mod.kin hk (thn (ha pos pins s σ H _ I h) fun us s1 ⟨vs, H1, I1, r, q⟩ => ⟨I1.kIn, ?_⟩) he hpl
  exact run_fn F hr hb hd hx I1 r q
theorem pe_call0 (F : FnOk X.prog X.w X.K X.mg X.base CX k f fd ps sp) (hr : Room k X.A) (hg : Gl X x) (hm : X.mg x = some (.ref f)) (hk : PySem.W.keepIn X.K (.ref f) = true) (hb : Binds X.K fd ps ds) (hd : Vals dvs ds) (hx : Passes CX X E)
    (hdb : (x == ("__debug__" : Str)) = false := by decide) : PE X (.Call (.Name x p) [] [] pos) (tCall sp dvs E tNil) := by
  intro pins s σ H Q I h
  refine wpAny_Call_Name_kw (ld_glob I hg hm ?_ hdb)
  exact PySem.W.callWith_K0 I.kIn hk (run_fn (us := []) F hr hb hd hx I .nil h)
end
section
variable {X : Cx} {CX : CXT} {k : Nat} {f C : Addr} {fd : FuncData} {ps ks : List Str} {sp : Sp} {E : XK} {x m : Str} {p pos apos kpos : Pos} {e o : Expr} {es : List Expr} {kws : List Keyword} {te ta : TE} {t tk : TA} {nm : Option Str}
variable {g : List Value → List Value → List Value} {gV : List V → List V → List V}
end
structure FnScope (N P : List Str) (sc : Scope) : Prop where
  kind : sc.kind = .function
  co : sc.isCoroutine = false
  gen : sc.isGenerator = false
  nd : N.Nodup
  pre : N.take P.length = P
  par : ∀ x ∈ P, sc.names.lookup x = some .local ∨ sc.names.lookup x = some .cell
  nofree : ∀ y ∈ sc.names, y.2 ≠ .free
theorem bindL_out {kindOf : Str → Option NameKind} {x : Str} : ∀ {binds : List (Str × Value)} {m : Str → Option Value}, (∀ v, (x, v) ∉ binds) → bindL kindOf binds m x = m x
  | [], _, _ => rfl
  | (n, v) :: r, m, h => by
    unfold bindL
    rw [bindL_out fun w hw => h w (List.mem_cons_of_mem _ hw)]
    split
    · have : x ≠ n := by rintro rfl; exact h v List.mem_cons_self
      simp [this]
    · rfl
theorem bindC_out {kindOf : Str → Option NameKind} {x : Str} : ∀ {binds : List (Str × Value)} {m : Str → Option Value}, (∀ v, (x, v) ∉ binds) → bindC kindOf binds m x = m x
  | [], _, _ => rfl
  | (n, v) :: r, m, h => by
    unfold bindC
    rw [bindC_out fun w hw => h w (List.mem_cons_of_mem _ hw)]
    split
    · rfl
    · have : x ≠ n := by rintro rfl; exact h v List.mem_cons_self
      simp [this]
theorem bindL_get {kindOf : Str → Option NameKind} {x : Str} {v : Value} : ∀ {P : List Str} {vs : List Value} {i : Nat} {m : Str → Option Value}, P.Nodup → P[i]? = some x → vs[i]? = some v → kindOf x = some .local →
    bindL kindOf (P.zip vs) m x = some v
  | [], _, _, _, _, h, _, _ => by simp at h
  | _ :: _, [], _, _, _, _, h, _ => by simp at h
  | p :: P, w :: vs, 0, m, nd, h1, h2, hk => by
    simp at h1 h2; subst h1; subst h2
    show bindL kindOf ((p, w) :: P.zip vs) m p = _
    unfold bindL
    rw [bindL_out fun v hv => (List.nodup_cons.mp nd).1 (List.of_mem_zip hv).1, if_pos hk]
    simp
  | p :: P, w :: vs, i + 1, m, nd, h1, h2, hk => by
    show bindL kindOf ((p, w) :: P.zip vs) m x = _
    unfold bindL
    exact bindL_get (i := i) (List.nodup_cons.mp nd).2 (by simpa using h1) (by simpa using h2) hk
theorem bindC_get {kindOf : Str → Option NameKind} {x : Str} {v : Value} : ∀ {P : List Str} {vs : List Value} {i : Nat} {m : Str → Option Value}, P.Nodup → P[i]? = some x → vs[i]? = some v → kindOf x ≠ some .local →
    bindC kindOf (P.zip vs) m x = some v
  | [], _, _, _, _, h, _, _ => by simp at h
  | _ :: _, [], _, _, _, _, h, _ => by simp at h
  | p :: P, w :: vs, 0, m, nd, h1, h2, hk => by
    simp at h1 h2; subst h1; subst h2
    show bindC kindOf ((p, w) :: P.zip vs) m p = _
    unfold bindC
    rw [bindC_out fun v hv => (List.nodup_cons.mp nd).1 (List.of_mem_zip hv).1, if_neg hk]
    simp
  | p :: P, w :: vs, i + 1, m, nd, h1, h2, hk => by
    show bindC kindOf ((p, w) :: P.zip vs) m x = _
    unfold bindC
    exact bindC_get (i := i) (List.nodup_cons.mp nd).2 (by simpa using h1) (by simpa using h2) hk
def start (N : List Str) (vs : List V) : St := vs.map some ++ List.replicate (N.length - vs.length) none
def cxOf (CX : CXT) (P : Program) (w : World) (K : PySem.W.Frag) (mg : Str → Option Value) (base : Heap) (N : List Str) (qual : Str) (scope : Scope) (f : Addr) (cd : Value) (A : Around) (outer : List Env) (s : Shared) (H : Hp) (E : XK) : Cx where
  prog := P
  w := w
  K := K
  mg := mg
  base := base
  A := A.deeper (envOfC qual scope s.heap.objs.size f cd)
  N := N
  s₀ := s
  H₀ := H
  env := envOfC qual scope s.heap.objs.size f cd
  outer := outer
  stack := envOfC qual scope s.heap.objs.size f cd :: outer
  ex := []
  calm := true
  fn := fun _ => true
  pn := []
  xe := fun e s' => wpAny (model P w) (A.deeper (envOfC qual scope s.heap.objs.size f cd)) (leaving (envOfC qual scope s.heap.objs.size f cd) e) (fun _ s'' => CX outer H s E e s'') (fun e' s'' => CX outer H s E e' s'') s'
theorem cell_has {sc : Scope} {n : Nat} {x : Str} (h : sc.names.lookup x = some .cell) : ∃ c, (cellsFrom n sc.names []).lookup x = some c := by
  have q := PySem.W.cellsFrom_some sc.names n [] (.inl h)
  exact Option.isSome_iff_exists.mp q
theorem inv_start {CX : CXT} {P : Program} {w : World} {K : PySem.W.Frag} {mg : Str → Option Value} {base : Heap} {N ps : List Str} {qual : Str} {scope : Scope} {f : Addr} {cd : Value} {A : Around} {outer : List Env} {s s1 : Shared} {H : Hp} {E : XK} {us : List Value} {vs : List V}
    (S : FnScope N ps scope) (hd : A.handled = none) (e0 : Env0 P w K mg base A outer s H) (hl : vs.length = ps.length) (r : Vals vs us)
    (x : InCallC s s.heap.objs.size (bindL (envOfC qual scope s.heap.objs.size f cd).kindOf (ps.zip us) fun _ => none) (cellsFrom (s.heap.objs.size + 1) scope.names []) (bindC (envOfC qual scope s.heap.objs.size f cd).kindOf (ps.zip us) fun _ => none) s1) :
    Inv (cxOf CX P w K mg base N qual scope f cd A outer s H E) [] (start N vs) H s1 := by
  have hpl : ps.length ≤ N.length := by have := congrArg List.length S.pre; rw [List.length_take] at this; omega
  obtain ⟨h1, tk, rfl, hk⟩ := x.done
  have noA : ∀ b : Addr, b ∉ (cxOf CX P w K mg base N qual scope f cd A outer s H E).ex := fun b z => absurd (show b ∈ ([] : List Addr) from z) (by simp)
  refine ⟨⟨e0.mod, S.kind, rfl, rfl, Nat.le_refl _, fun y z c h1 h2 => ?_, fun y hy => ?_, fun y c _ h => ?_, fun _ => hd, Around.frames_deeper e0.frames, .inr ⟨rfl, rfl⟩, fun b z => absurd z (noA b), e0.bs, e0.bsz, fun b _ _ => noA b, fun b z => absurd z (noA b), e0.funs, e0.frf⟩,
    rfl, e0.bare, Un.kept hk, ⟨_, x.toInCall.ns, fun i y v h1 h2 h3 => ?_⟩, fun y c h => ⟨_, x.cell y c h⟩, e0.hok.fresh (Nat.le_refl _), fun y c h => ?_, fun p hp => absurd (show p ∈ ([] : List (Addr × Obj)) from hp) (by simp), e0.hok.kept hk, ?_⟩
  · exact name_of_addr x.apart (PySem.mem_of_lookup h1) (PySem.mem_of_lookup h2)
  · have hy : scope.names.lookup y = some .cell ∨ scope.names.lookup y = some .free := hy
    rcases hy with hy | hy
    · exact cell_has hy
    · exact absurd rfl (S.nofree _ (PySem.mem_of_lookup hy))
  · exact Nat.le_of_lt (x.above y c (PySem.mem_of_lookup h))
  · have hi : i < vs.length := by
      unfold start at h2
      by_cases hi : i < vs.length
      · exact hi
      · rw [List.getElem?_append_right (by simpa using hi)] at h2
        rw [List.getElem?_replicate] at h2
        split at h2 <;> cases h2
    have ha : vs[i]? = some v := by
      unfold start at h2
      rw [List.getElem?_append_left (by simpa using hi), List.getElem?_map] at h2
      cases e : vs[i]? with
      | none => rw [e] at h2; cases h2
      | some a => rw [e] at h2; cases h2; rfl
    obtain ⟨u, hu, rv⟩ := r.get ha
    have hp : ps[i]? = some y := by
      rw [← S.pre, List.getElem?_take_of_lt (by omega)]; exact h1
    have ndP : ps.Nodup := by rw [← S.pre]; exact S.nd.sublist (List.take_sublist _ _)
    refine ⟨u, rv, ?_⟩
    rcases S.par y (List.mem_of_getElem? hp) with k | k
    · exact .inl ⟨k, bindL_get ndP hp hu k⟩
    · obtain ⟨c, e⟩ := cell_has (n := s.heap.objs.size + 1) k
      refine .inr ⟨.inl k, c, e, ?_⟩
      have q := x.cell y c e
      rw [bindC_get ndP hp hu (by show scope.names.lookup y ≠ _; rw [k]; decide)] at q
      exact q
  · exact e0.hok.fresh (Nat.le_of_lt (x.above y c (PySem.mem_of_lookup h)))
  · unfold start
    show _ = N.length
    rw [List.length_append, List.length_map, List.length_replicate]
    omega
theorem fn_of {CX : CXT} {P : Program} {w : World} {K : PySem.W.Frag} {mg : Str → Option Value} {base : Heap} {k : Nat} {f : Addr} {name qual : Str} {params : Arguments} {body : List Stmt} {scope : Scope} {dV kV doc pm cdv ct oc : Value} {an od : Option Addr}
    {osl : Array (Option Value)} {N ps : List Str} {sp : Sp} (lk : K.lookup f = some ⟨oc, od, .func (PySem.W.fnOf name qual params body scope dV kV doc pm an cdv ct), osl⟩) (hcd : PySem.W.codeIn K cdv qual = true) (S : FnScope N ps scope)
    (len : ∀ vs H Q E, sp vs H Q E → vs.length = ps.length)
    (hbody : ∀ (A : Around) (outer : List Env) (s : Shared) (H : Hp) (vs : List V) (Q : VK) (E : XK), Room k (A.deeper (envOfC qual scope s.heap.objs.size f cdv)) → sp vs H Q E →
      ∃ t, PSs (cxOf CX P w K mg base N qual scope f cdv A outer s H E) body t ∧ t { nx := fun _ H' => Q .non H', rt := Q } (start N vs) H) :
    FnOk P w K mg base CX (k + 1) f (PySem.W.fnOf name qual params body scope dV kV doc pm an cdv ct) ps sp := by
  refine ⟨len, fun A outer s H args us vs Q E hr e0 hb r hsp => ?_⟩
  have hl := len _ _ _ _ hsp
  have KX : K.In s.heap := e0.mod.kin.keeps fun b o e => (e0.bs b o e).1
  have lim : s.heap.NoLimit := e0.mod.nolimit.keeps fun b o e => (e0.bs b o e).1
  have hkind : ∀ y ∈ ps.zip us, scope.names.lookup y.1 = some .local ∨ (scope.names.lookup y.1 = some .cell ∧ ((cellsFrom (s.heap.objs.size + 1) scope.names []).lookup y.1).isSome = true) := fun ⟨n, v⟩ hy => by
    rcases S.par n (List.of_mem_zip hy).1 with q | q
    · exact .inl q
    · exact .inr ⟨q, PySem.W.cellsFrom_some _ _ _ (.inl q)⟩
  refine codeAny_call_function hr.depth (KX _ _ lk) rfl S.co S.gen rfl (PySem.W.codeRec_of KX hcd) (hb _ _ _ _ ?_)
  refine wpAny_newFunctionEnv_cells S.kind hkind fun env he s1 x => ?_
  subst he
  refine ⟨lim.keeps x.toInCall.keep, codeAny_func ?_⟩
  obtain ⟨t, ht, hq⟩ := hbody A outer s H vs Q E (hr.deeper _) hsp
  have I : Inv (cxOf CX P w K mg base N qual scope f cdv A outer s H E) [] (start N vs) H s1 := inv_start S hr.hd e0 hl r x
  refine wpAny_mono (ht [] s1 (start N vs) H _ I hq) (fun fl s' hs => ?_) fun e s' hs => hs
  have fin : ∀ {σ' : St} {H' : Hp} {v : V} {u : Value}, Inv (cxOf CX P w K mg base N qual scope f cdv A outer s H E) [] σ' H' s' → RelV v u → Q v H' → CE outer P w H s Q u s' :=
    fun {σ' H' v u} J rv q => ⟨v, H', J.os, J.bare, J.base, J.hok, rv, q⟩
  cases fl with
  | ret u =>
    obtain ⟨v, σ', H', J, rv, q⟩ := hs
    exact fin J rv q
  | next =>
    obtain ⟨σ', H', J, q⟩ := hs
    exact fin (v := V.non) (u := Value.none) J rfl q
  | brk =>
    obtain ⟨_, _, _, q⟩ := hs
    exact False.elim q
  | cont =>
    obtain ⟨_, _, _, q⟩ := hs
    exact False.elim q
end L2
namespace L2
open PySem PySem.Spec PyProof.Rows
section
variable {X : Cx} {x : Str} {p pos : Pos} {e : Expr} {es : List Expr} {t : TA} {id T : String} {r : List V → Hp → VK → Prop}
def tCB (r : List V → Hp → VK → Prop) (t : TA) : TE := fun σ H Q => t σ H fun vs H1 => r vs H1 Q
theorem pe_callB (hc : CallR X (.builtin id) r) (hg : Gl X x) (hm : X.mg x = none) (hv : bootBuiltins x = some (.builtin id)) (ha : PA X (e :: es) t) (hn : x ≠ "__name__" := by decide) (hdb : (x == ("__debug__" : Str)) = false := by decide)
    (he : starEach (e :: es) X.env = (false, eval e X.env) :: starEach es X.env := by rfl) (hpl : (backTo pos (starEach es X.env)).any (·.1) = false := by rfl) : PE X (.Call (.Name x p) (e :: es) [] pos) (tCB r t) := by
  intro pins s σ H Q I h
  refine wpAny_Call_Name_kw (ld_blt I hg hm hv ?_ hn hdb)
  exact PyProof.Rows.callWith_builtin1 (thn (ha pos pins s σ H _ I h) fun us s1 ⟨vs, H1, I1, r1, q1⟩ => hc pins s1 σ H1 vs us Q I1 r1 q1) he hpl
theorem pe_callTy (hc : CallR X (.type T) r) (hg : Gl X x) (hm : X.mg x = none) (hv : bootBuiltins x = some (.type T)) (ha : PA X (e :: es) t) (hn : x ≠ "__name__" := by decide) (hdb : (x == ("__debug__" : Str)) = false := by decide)
    (he : starEach (e :: es) X.env = (false, eval e X.env) :: starEach es X.env := by rfl) (hpl : (backTo pos (starEach es X.env)).any (·.1) = false := by rfl) : PE X (.Call (.Name x p) (e :: es) [] pos) (tCB r t) := by
  intro pins s σ H Q I h
  refine wpAny_Call_Name_kw (ld_blt I hg hm hv ?_ hn hdb)
  exact PyProof.Rows.callWith_type1 (thn (ha pos pins s σ H _ I h) fun us s1 ⟨vs, H1, I1, r1, q1⟩ => hc pins s1 σ H1 vs us Q I1 r1 q1) he hpl
end
end L2
namespace HT
open PySem PyProof.Rows
section
open PySem.SeqAt
open PySem.AutoSeq1 (wpAny_loadPart')
open PySem.MeetsSeq PySem.MeetsSeq2 PySem.MeetsSeq3
end
section
variable {prog : Program} {w : World} {A : Around} {E : Value → Shared → Prop} {s : Shared}
def sIx (n d : Nat) : Option Int → Nat
  | none => d
  | some v => if v < 0 then (v + (n : Int)).toNat else min v.toNat n
theorem sIx_none (n d : Nat) : sIx n d none = d := rfl
theorem sIx_nat (n d k : Nat) : sIx n d (some (k : Int)) = min k n := by
  show (if (k : Int) < 0 then ((k : Int) + (n : Int)).toNat else min (k : Int).toNat n) = min k n
  rw [if_neg (by omega), Int.toNat_natCast]
theorem sIx_le (n d : Nat) (hd : d ≤ n) (o : Option Int) : sIx n d o ≤ n := by
  cases o with
  | none => exact hd
  | some v =>
    show (if v < 0 then (v + (n : Int)).toNat else min v.toNat n) ≤ n
    by_cases hv : v < 0
    · rw [if_pos hv]; omega
    · rw [if_neg hv]; exact Nat.min_le_right _ _
end
end HT
namespace L2
open PySem PySem.Spec PyProof.Rows
abbrev TO := St → Hp → (Option Int → Hp → Prop) → Prop
def PO (X : Cx) (e : Option Expr) (t : TO) : Prop :=
  ∀ (pins : List (Addr × Obj)) (s : Shared) (σ : St) (H : Hp) (Q : Option Int → Hp → Prop), Inv X pins σ H s → t σ H Q →
    wpAny (model X.prog X.w) X.A (evalPart e X.env) (fun u s' => ∃ o H', Inv X pins σ H' s' ∧ IsPart u o ∧ Q o H') X.xe s
def tNoPart : TO := fun _ H Q => Q none H
def tPart (t : TE) : TO := fun σ H Q => t σ H fun x H1 => ∃ i, x = .int i ∧ Q (some i) H1
section
variable {X : Cx} {e : Expr} {te : TE} {lo hi : Option Expr} {tl th : TO} {pos p2 : Pos}
theorem po_none : PO X none tNoPart := by
  intro pins s σ H Q I h
  rw [evalPart_none]
  exact wpAny_pure ⟨none, H, I, .none, h⟩
theorem po_some (h : PE X e te) : PO X (some e) (tPart te) := by
  intro pins s σ H Q I hw
  rw [evalPart_some]
  refine thn (h pins s σ H _ I hw) fun u s1 ⟨x, H1, I1, r1, q1⟩ => ?_
  obtain ⟨i, rfl, q⟩ := q1
  obtain ⟨t, rfl⟩ := r1
  exact ⟨some i, H1, I1, .int i t, q⟩
def SlR (X : Cx) (r : V → Option Int → Option Int → Hp → VK → Prop) : Prop :=
  ∀ (pins : List (Addr × Obj)) (s : Shared) (σ : St) (H : Hp) (x : V) (v vl vu : Value) (lo hi : Option Int) (sl : Addr) (Q : VK), Inv X pins σ H s → RelV x v → s.heap.IsSliceOf sl vl vu .none → IsPart vl lo → IsPart vu hi → r x lo hi H Q →
    ∃ T id, typeLookup (.type T) "__getitem__" = pure (some (.builtin id)) ∧ s.TypeIs v T ∧ wpAny (model X.prog X.w) X.A (getItem v (.ref sl)) (EP X pins σ Q) X.xe s
theorem SlR.or {r r' : V → Option Int → Option Int → Hp → VK → Prop} (h : SlR X r) (h' : SlR X r') : SlR X (fun x lo hi H Q => r x lo hi H Q ∨ r' x lo hi H Q) := by
  intro pins s σ H x v vl vu lo hi sl Q I rx hs pl pu q
  rcases q with q | q
  · exact h pins s σ H x v vl vu lo hi sl Q I rx hs pl pu q
  · exact h' pins s σ H x v vl vu lo hi sl Q I rx hs pl pu q
def tSl (r : V → Option Int → Option Int → Hp → VK → Prop) (te : TE) (tl th : TO) : TE := fun σ H Q => te σ H fun x H1 => tl σ H1 fun l H2 => th σ H2 fun u H3 => r x l u H3 Q
theorem pe_slice {r : V → Option Int → Option Int → Hp → VK → Prop} (hr : SlR X r) (he : PE X e te) (hl : PO X lo tl) (hu : PO X hi th) : PE X (.Subscript e (.Slice lo hi none p2) pos) (tSl r te tl th) := by
  intro pins s σ H Q I h
  refine Subscript_ (thn (he pins s σ H _ I h) fun v s1 ⟨x, H1, I1, r1, q1⟩ => ?_)
  refine wpAny_Slice (thn (hl pins s1 σ H1 _ I1 q1) fun vl s2 ⟨l, H2, I2, pl, q2⟩ => thn (hu pins s2 σ H2 _ I2 q2) fun vu s3 ⟨u, H3, I3, pu, q3⟩ => ?_)
  rw [evalPart_none]
  refine wpAny_pure ?_
  have I4 : Inv X pins σ H3 { s3 with heap := s3.heap.push { cls := .type "slice", data := .fields #[vl, vu, .none] } } := I3.kept (t' := s3.toks) fun b ob q => Heap.get?_push_of_some _ q
  obtain ⟨T, id, hT, ht, hg⟩ := hr pins { s3 with heap := s3.heap.push { cls := .type "slice", data := .fields #[vl, vu, .none] } } σ H3 x v vl vu l u s3.heap.objs.size Q I4 r1 (Heap.IsSliceOf.new ..) pl pu q3
  show wpAny (model X.prog X.w) X.A (subscriptTail e (.Slice lo hi none p2) v (.ref s3.heap.objs.size)) (EP X pins σ Q) X.xe { s3 with heap := s3.heap.push { cls := .type "slice", data := .fields #[vl, vu, .none] } }
  exact tail_any (ops := [.ref s3.heap.objs.size, v]) ht hT hg (by with_unfolding_all rfl)
def cutV (xs : List V) (lo hi : Option Int) : List V := (xs.drop (HT.sIx xs.length 0 lo)).take (HT.sIx xs.length xs.length hi - HT.sIx xs.length 0 lo)
theorem cutV_length (xs : List V) (lo hi : Option Int) : (cutV xs lo hi).length ≤ xs.length := by
  unfold cutV
  rw [List.length_take, List.length_drop]
  omega
end
end L2
namespace L2
open PySem PySem.Spec PyProof.Rows
def ixN (n : Nat) (i : Int) : Option Nat := if 0 ≤ i then (if i < n then some i.toNat else none) else if -(n : Int) ≤ i then some (i + n).toNat else none
def atI {α : Type} (xs : List α) (i : Int) : Option α := (ixN xs.length i).bind fun j => xs[j]?
theorem ixN_seq {n : Nat} {i : Int} {j : Nat} (h : ixN n i = some j) : seqIndex? i n = some j ∧ j < n ∧ -(n : Int) ≤ i ∧ i < n := by
  unfold ixN at h
  by_cases h0 : 0 ≤ i
  · rw [if_pos h0] at h
    by_cases h1 : i < n
    · rw [if_pos h1] at h
      have e : i.toNat = j := Option.some.inj h
      exact ⟨by rw [seqIndex_of h0 h1, e], by omega, by omega, h1⟩
    · rw [if_neg h1] at h; cases h
  · rw [if_neg h0] at h
    by_cases h1 : -(n : Int) ≤ i
    · rw [if_pos h1] at h
      have e : (i + n).toNat = j := Option.some.inj h
      exact ⟨by rw [seqIndex_neg (by omega) h1, e], by omega, h1, by omega⟩
    · rw [if_neg h1] at h; cases h
theorem atI_get {α : Type} {xs : List α} {i : Int} {v : α} (h : atI xs i = some v) : ∃ j, seqIndex? i xs.length = some j ∧ xs[j]? = some v ∧ j < xs.length ∧ -(xs.length : Int) ≤ i ∧ i < xs.length := by
  unfold atI at h
  cases e : ixN xs.length i with
  | none => rw [e] at h; cases h
  | some j =>
    rw [e] at h
    obtain ⟨h1, h2, h3, h4⟩ := ixN_seq e
    exact ⟨j, h1, h, h2, h3, h4⟩
theorem atI_nat {α : Type} {xs : List α} {j : Nat} {v : α} (h : xs[j]? = some v) : atI xs (j : Int) = some v := by
  have hj : j < xs.length := (List.getElem?_eq_some_iff.mp h).1
  have e : ixN xs.length (j : Int) = some j := by
    unfold ixN
    rw [if_pos (by omega), if_pos (by omega)]; simp
  unfold atI; rw [e]; exact h
theorem atI_last {α : Type} (xs : List α) (v : α) : atI (xs ++ [v]) (-1) = some v := by
  have hl : (xs ++ [v]).length = xs.length + 1 := by simp
  have e : ixN (xs ++ [v]).length (-1) = some xs.length := by
    unfold ixN
    rw [hl, if_neg (by decide), if_pos (by omega)]
    congr 1
    omega
  unfold atI
  rw [e]
  show (xs ++ [v])[xs.length]? = some v
  simp
def PlainIx (b : Expr) : Prop := ∀ o i, subscripted b false o i = operate [o, i] (getItem o i)
def IxR (X : Cx) (r : R2) : Prop :=
  ∀ (value slice : Expr) (pins : List (Addr × Obj)) (s : Shared) (σ : St) (H : Hp) (x y : V) (v u : Value) (Q : VK), Inv X pins σ H s → RelV x v → RelV y u → r x y H Q →
    subscripted slice false v u = operate [v, u] (getItem v u) → wpAny (model X.prog X.w) X.A (subscriptTail value slice v u) (EP X pins σ Q) X.xe s
def MtR (X : Cx) (id : String) (r : V → List V → Hp → VK → Prop) : Prop :=
  ∀ (pins : List (Addr × Obj)) (s : Shared) (σ : St) (H : Hp) (x : V) (xs : List V) (v : Value) (us : List Value) (Q : VK), Inv X pins σ H s → RelV x v → Vals xs us → r x xs H Q →
    wpAny (model X.prog X.w) X.A (call (.builtin id) (v :: us)) (EP X pins σ Q) X.xe s
section
variable {X : Cx} {a b : Expr} {ta tb : TE} {pos : Pos}
theorem IxR.or {r r' : R2} (h : IxR X r) (h' : IxR X r') : IxR X (fun x y H Q => r x y H Q ∨ r' x y H Q) := by
  intro value slice pins s σ H x y v u Q I rx ry q hs
  rcases q with q | q
  · exact h value slice pins s σ H x y v u Q I rx ry q hs
  · exact h' value slice pins s σ H x y v u Q I rx ry q hs
theorem MtR.or {id : String} {r r' : V → List V → Hp → VK → Prop} (h : MtR X id r) (h' : MtR X id r') : MtR X id (fun x xs H Q => r x xs H Q ∨ r' x xs H Q) := by
  intro pins s σ H x xs v us Q I rx rs q
  rcases q with q | q
  · exact h pins s σ H x xs v us Q I rx rs q
  · exact h' pins s σ H x xs v us Q I rx rs q
theorem pe_ix {r : R2} (hr : IxR X r) (ha : PE X a ta) (hb : PE X b tb) (hs : PlainIx b) : PE X (.Subscript a b pos) (tOp r ta tb) := by
  intro pins s σ H Q I h
  exact Subscript_ (binT ha hb I h fun v u s2 x y H2 I2 rx ry q => hr a b pins s2 σ H2 x y v u Q I2 rx ry q (hs _ _))
def rIxL (K : PySem.W.Frag) : R2 := fun x y H Q => ∃ p xs i v, x = .ref p ∧ y = .int i ∧ SqL K H p xs ∧ atI xs i = some v ∧ Q v H
def rIxT (K : PySem.W.Frag) : R2 := fun x y H Q => ∃ p xs i v, x = .ref p ∧ y = .int i ∧ SqT K H p xs ∧ atI xs i = some v ∧ Q v H
def rIxS : R2 := fun x y H Q => ∃ z i c, x = .str z ∧ y = .int i ∧ z.length ≤ sizeLine ∧ atI z.cps.toList i = some c ∧ Q (.str ⟨#[c]⟩) H
theorem ix_list : IxR X (rIxL X.K) := by
  intro value slice pins s σ H x y v u Q I rx ry h hs
  obtain ⟨p, xs, i, z, rfl, rfl, hq, he, q⟩ := h
  cases rx
  obtain ⟨t, rfl⟩ := ry
  obtain ⟨its, r, pl, hz⟩ := I.list hq
  obtain ⟨j, h1, h2, h3, h4, h5⟩ := atI_get he
  obtain ⟨w, ew, rw'⟩ := r.get h2
  have hl := r.length
  have hn := line63
  have fin : EP X pins σ Q w s := ⟨z, H, I, rw', q⟩
  by_cases h0 : 0 ≤ i
  · have hj : i.toNat = j := by
      rw [seqIndex_of h0 h5] at h1
      exact Option.some.inj h1
    exact item_listR pl.isList h0 (by omega) (by rw [hj]; simpa using ew) fin hs
  · have hj : (i + (its.toArray.size : Int)).toNat = j := by
      rw [seqIndex_neg (by omega) h4] at h1
      rw [List.size_toArray, ← hl]
      exact Option.some.inj h1
    exact subscriptTail_builtinR (x := w) pl.isList.typeIs slot_list_getitem.lookup
      (wpAny_getItem_list_neg (Q := fun r s' => r = w ∧ EP X pins σ Q r s') pl.isList (by omega) (by rw [List.size_toArray] <;> omega) (by omega) (by rw [hj]; simpa using ew) ⟨rfl, fin⟩) hs
theorem ix_tup : IxR X (rIxT X.K) := by
  intro value slice pins s σ H x y v u Q I rx ry h hs
  obtain ⟨p, xs, i, z, rfl, rfl, hq, he, q⟩ := h
  cases rx
  obtain ⟨t, rfl⟩ := ry
  obtain ⟨its, r, pl, hz⟩ := I.tuple hq
  obtain ⟨j, h1, h2, h3, h4, h5⟩ := atI_get he
  obtain ⟨w, ew, rw'⟩ := r.get h2
  have hl := r.length
  have hn := line63
  have fin : EP X pins σ Q w s := ⟨z, H, I, rw', q⟩
  exact subscriptTail_builtinR (x := w) pl.typeIs slot_tuple_getitem.lookup
    (getItem_tuple (j := j) (Q := fun r s' => r = w ∧ EP X pins σ Q r s') pl (by omega) (by omega) (by rw [List.size_toArray, ← hl]; exact h1) (by simpa using ew) ⟨rfl, fin⟩) hs
theorem ix_str : IxR X rIxS := by
  intro value slice pins s σ H x y v u Q I rx ry h hs
  obtain ⟨z, i, c, rfl, rfl, hz, he, q⟩ := h
  obtain ⟨t, rfl⟩ := rx
  obtain ⟨t', rfl⟩ := ry
  obtain ⟨j, h1, h2, h3, h4, h5⟩ := atI_get he
  have hl : z.cps.toList.length = z.length := by simp [Str.length]
  rw [hl] at h1 h4 h5
  have hn := line63
  exact tail_any (typeIs_str s z t) slot_str_getitem.lookup (getItem_str (c := c) (by
    have e1 : decide (i < -(2 ^ 63 : Int)) = false := decide_eq_false (by omega)
    have e2 : decide (i ≥ 2 ^ 63) = false := decide_eq_false (by omega)
    rw [e1, e2, Bool.or_false]) (by rw [h1]; simpa using h2) ⟨.str ⟨#[c]⟩, H, I.tok _, ⟨_, rfl⟩, q⟩) hs
def rIx (K : PySem.W.Frag) : R2 := fun x y H Q => rIxL K x y H Q ∨ rIxT K x y H Q ∨ rIxS x y H Q
theorem ix_seq : IxR X (rIx X.K) := ix_list.or (ix_tup.or ix_str)
theorem mapSeq_set (its : List Value) (n j : Nat) (u : Value) : Obj.mapSeq (·.setIfInBounds j u) { cls := .type "list", data := .seq its.toArray n } = { cls := .type "list", data := .seq (its.set j u).toArray n } := by
  simp [Obj.mapSeq]
theorem Inv.lst {pins : List (Addr × Obj)} {σ : St} {H : Hp} {s : Shared} {p : Addr} {xs : List V} (I : Inv X pins σ H s) (h : H p = some (.lst xs)) :
    ∃ (its : List Value) (n : Nat), Vals xs its ∧ s.heap.get? p = some { cls := .type "list", data := .seq its.toArray n } ∧ xs.length ≤ sizeLine := by
  obtain ⟨z, its, n, r, e⟩ := I.hok p _ h
  exact ⟨its, n, r, e, z⟩
theorem Inv.lstUpd {pins : List (Addr × Obj)} {σ : St} {H : Hp} {s : Shared} {p : Addr} {xs ys : List V} {its its' : List Value} {n n' : Nat} {f : Obj → Obj} (I : Inv X pins σ H s) (h : H p = some (.lst xs))
    (ho : s.heap.get? p = some { cls := .type "list", data := .seq its.toArray n }) (hf : f { cls := .type "list", data := .seq its.toArray n } = { cls := .type "list", data := .seq its'.toArray n' }) (r : Vals ys its') (hz : ys.length ≤ sizeLine) (t : Nat) :
    Inv X pins σ (upd H p (.lst ys)) { s with heap := s.heap.update p f, toks := t } := by
  have e : (s.heap.update p f).get? p = some { cls := .type "list", data := .seq its'.toArray n' } := by
    rw [Heap.get?_update_self f ho (by rw [hf] <;> rfl), hf]
  refine I.write (x := p) (e := p) (by rw [h]; trivial) (.inl rfl) (fun b u hb q => (Heap.get?_update_other _ _ (Ne.symm hb)).trans q) ⟨_, e⟩ ?_
  exact ⟨hz, its', n', r, e⟩
def rSetL : V → V → V → Hp → (Hp → Prop) → Prop := fun o i v H Q => ∃ p xs k j, o = .ref p ∧ i = .int k ∧ H p = some (.lst xs) ∧ ixN xs.length k = some j ∧ Q (upd H p (.lst (xs.set j v)))
theorem set_list : PSet X rSetL := by
  intro pins s σ H o i v ov iv u Q I ro ri rv h
  obtain ⟨p, xs, k, j, rfl, rfl, hp, hj, q⟩ := h
  cases ro
  obtain ⟨t, rfl⟩ := ri
  obtain ⟨its, n, r, ho, hz⟩ := I.lst hp
  obtain ⟨h1, h2, h3, h4⟩ := ixN_seq hj
  have hl := r.length
  have hn := line63
  have I' : Inv X pins σ (upd H p (.lst (xs.set j v))) { s with heap := s.heap.update p (Obj.mapSeq (·.setIfInBounds j u)) } :=
    I.lstUpd hp ho (mapSeq_set its n j u) (r.set rv j) (by rw [List.length_set]; exact hz) s.toks
  by_cases h0 : 0 ≤ k
  · have hk : k.toNat = j := by
      rw [seqIndex_of h0 h4] at h1
      exact Option.some.inj h1
    exact PySem.W.ki_setAt ho h0 (by omega) (by rw [List.size_toArray, ← hl]; exact h4) (by rw [hk]; exact ⟨_, I', q⟩)
  · have hk : (k + (its.toArray.size : Int)).toNat = j := by
      rw [seqIndex_neg (by omega) h3] at h1
      rw [List.size_toArray, ← hl]
      exact Option.some.inj h1
    exact PySem.W.ki_setBack ho (by omega) (by rw [List.size_toArray, ← hl]; exact h3) (by omega) (by rw [hk]; exact ⟨_, I', q⟩)
theorem slice_bounds (lo hi : Option Int) (n : Nat) : (sliceBounds lo hi none n).1 = ((HT.sIx n 0 lo : Nat) : Int) ∧ (sliceBounds lo hi none n).2.1 = ((HT.sIx n n hi : Nat) : Int) ∧ (sliceBounds lo hi none n).2.2 = 1 := by
  refine ⟨?_, ?_, rfl⟩
  · cases lo with
    | none => simp [sliceBounds, HT.sIx]
    | some i =>
      simp only [sliceBounds, HT.sIx, Option.getD_none, show (1 : Int) > 0 by decide, if_true]
      by_cases h : i < 0
      · simp only [h, if_true] <;> omega
      · simp only [h, if_false] <;> omega
  · cases hi with
    | none => simp [sliceBounds, HT.sIx]
    | some i =>
      simp only [sliceBounds, HT.sIx, Option.getD_none, show (1 : Int) > 0 by decide, if_true]
      by_cases h : i < 0
      · simp only [h, if_true] <;> omega
      · simp only [h, if_false] <;> omega
theorem slicePick_cut (its : List Value) (lo hi : Option Int) : slicePick its.toArray lo hi none = ((its.drop (HT.sIx its.length 0 lo)).take (HT.sIx its.length its.length hi - HT.sIx its.length 0 lo)).toArray := by
  obtain ⟨h1, h2, h3⟩ := slice_bounds lo hi its.toArray.size
  unfold slicePick
  rw [h1, h2, h3]
  simp only [sliceRange_one, pick_run, List.size_toArray] <;> rfl
def rSlL (K : PySem.W.Frag) : V → Option Int → Option Int → Hp → VK → Prop := fun x lo hi H Q => ∃ a xs, x = .ref a ∧ SqL K H a xs ∧ ∀ p, H p = none → Q (.ref p) (upd H p (.lst (cutV xs lo hi)))
theorem sl_list : SlR X (rSlL X.K) := by
  intro pins s σ H x v vl vu lo hi sl Q I rx hs pl pu h
  obtain ⟨a, xs, rfl, hx, q⟩ := h
  cases rx
  obtain ⟨its, r, ht, hz⟩ := I.list hx
  have hlen := r.length
  refine ⟨"list", _, slot_list_getitem.lookup, ht.isList.typeIs, ?_⟩
  refine wpAny_getItem_list_slice ht.isList hs pl pu .none (by simp) ?_ (by rw [List.size_toArray] <;> omega)
  rw [slicePick_cut, ← hlen]
  refine ⟨.ref s.heap.objs.size, _, I.laid (t' := s.toks) (o := .lst (cutV xs lo hi)) (fun b ob q => Heap.get?_push_of_some _ q) (Nat.le_refl _) ?_, rfl, q _ (I.hok.fresh (Nat.le_refl _))⟩
  exact ⟨Nat.le_trans (cutV_length xs lo hi) hz, _, 0, (r.drop (HT.sIx xs.length 0 lo)).take (HT.sIx xs.length xs.length hi - HT.sIx xs.length 0 lo), Heap.get?_push_size _ rfl⟩
def flatV : V → Bool
  | .non => true
  | .bl _ => true
  | .int _ => true
  | .str _ => true
  | _ => false
def eqV : V → V → Bool
  | .non, .non => true
  | .bl a, .bl b => a == b
  | .bl a, .int b => (if a then 1 else 0) == b
  | .int a, .bl b => a == (if b then 1 else 0)
  | .int a, .int b => a == b
  | .str a, .str b => a == b
  | _, _ => false
theorem eqAt_V {A : Around} {s : Shared} {y x : V} {u v : Value} (ry : RelV y u) (rx : RelV x v) (fy : flatV y = true) (fx : flatV x = true) : SeqAt.EqAt A s u v (eqV y x) := by
  cases y with
  | non =>
    cases ry
    cases x with
    | non => cases rx; exact SeqAt.EqAt.same _
    | bl b => cases rx; exact SeqAt.EqAt.none_bool b
    | int b => obtain ⟨t, rfl⟩ := rx; exact SeqAt.EqAt.none_int b t
    | str b => obtain ⟨t, rfl⟩ := rx; exact SeqAt.EqAt.none_str b t
    | _ => exact absurd (show false = true from fx) Bool.false_ne_true
  | bl a =>
    cases ry
    cases x with
    | non => cases rx; exact SeqAt.EqAt.bool_none a
    | bl b => cases rx; exact SeqAt.EqAt.bool_bool a b
    | int b => obtain ⟨t, rfl⟩ := rx; exact SeqAt.EqAt.bool_int a b t
    | str b => obtain ⟨t, rfl⟩ := rx; exact SeqAt.EqAt.bool_str a b t
    | _ => exact absurd (show false = true from fx) Bool.false_ne_true
  | int a =>
    obtain ⟨t', rfl⟩ := ry
    cases x with
    | non => cases rx; exact SeqAt.EqAt.int_none a t'
    | bl b => cases rx; exact SeqAt.EqAt.int_bool a t' b
    | int b => obtain ⟨t, rfl⟩ := rx; exact SeqAt.EqAt.int_int a t' b t
    | str b => obtain ⟨t, rfl⟩ := rx; exact SeqAt.EqAt.int_str a t' b t
    | _ => exact absurd (show false = true from fx) Bool.false_ne_true
  | str a =>
    obtain ⟨t', rfl⟩ := ry
    cases x with
    | non => cases rx; exact SeqAt.EqAt.str_none a t'
    | bl b => cases rx; exact SeqAt.EqAt.str_bool a t' b
    | int b => obtain ⟨t, rfl⟩ := rx; exact SeqAt.EqAt.str_int a t' b t
    | str b => obtain ⟨t, rfl⟩ := rx; exact SeqAt.EqAt.str_str a t' b t
    | _ => exact absurd (show false = true from fx) Bool.false_ne_true
  | _ => exact absurd (show false = true from fy) Bool.false_ne_true
def eqU (x : V) (u : Value) : Bool := match u with
  | .none => eqV .non x
  | .bool b => eqV (.bl b) x
  | .int i _ => eqV (.int i) x
  | .str z _ => eqV (.str z) x
  | _ => false
theorem eqU_of {x y : V} {u : Value} (r : RelV y u) (f : flatV y = true) : eqU x u = eqV y x := by
  cases y with
  | non => cases r; rfl
  | bl b => cases r; rfl
  | int i => obtain ⟨t, rfl⟩ := r; rfl
  | str z => obtain ⟨t, rfl⟩ := r; rfl
  | _ => exact absurd (show false = true from f) Bool.false_ne_true
theorem any_eqU {x : V} : ∀ {xs : List V} {us : List Value}, Vals xs us → xs.all flatV = true → us.any (eqU x) = xs.any fun y => eqV y x
  | _, _, .nil, _ => rfl
  | y :: xs, u :: us, .cons r t, f => by
    rw [List.all_cons, Bool.and_eq_true] at f
    rw [List.any_cons, List.any_cons, eqU_of r f.1, any_eqU t f.2]
theorem mem_eqAt {A : Around} {s : Shared} {x : V} {v : Value} (rx : RelV x v) (fx : flatV x = true) : ∀ {xs : List V} {us : List Value}, Vals xs us → xs.all flatV = true → ∀ u ∈ us, SeqAt.EqAt A s u v (eqU x u)
  | _, _, .nil, _ => fun u hu => by cases hu
  | y :: xs, u :: us, .cons r t, f => fun u' hu => by
    rw [List.all_cons, Bool.and_eq_true] at f
    rcases List.mem_cons.mp hu with rfl | hu
    · rw [eqU_of r f.1]; exact eqAt_V r rx f.1 fx
    · exact mem_eqAt rx fx t f.2 u' hu
def inV (x : V) (xs : List V) : Bool := xs.any fun y => eqV y x
def rIn (K : PySem.W.Frag) (neg : Bool) : R2 := fun x y H Q => ∃ p xs, y = .ref p ∧ (SqL K H p xs ∨ SqT K H p xs) ∧ flatV x = true ∧ xs.all flatV = true ∧ Q (.bl (if neg then !inV x xs else inV x xs)) H
theorem op_in_seq : OpR X (compareOp .In) (rIn X.K false) := by
  intro pins s σ H x y v u Q I rx ry h
  obtain ⟨p, xs, rfl, hq, fx, fs, q⟩ := h
  cases ry
  rcases hq with hq | hq
  · obtain ⟨its, r, pl, hz⟩ := I.list hq
    refine SeqAt.in_listAt (eqU x) pl.isList (fun w hw => mem_eqAt rx fx r fs w (by simpa using hw)) ⟨.bl _, H, I, rfl, ?_⟩
    rw [show its.toArray.any (eqU x) = its.any (eqU x) by simp, any_eqU r fs]
    exact q
  · obtain ⟨its, r, pl, hz⟩ := I.tuple hq
    refine SeqAt.in_tupleAt (eqU x) pl (fun w hw => mem_eqAt rx fx r fs w (by simpa using hw)) ⟨.bl _, H, I, rfl, ?_⟩
    rw [show its.toArray.any (eqU x) = its.any (eqU x) by simp, any_eqU r fs]
    exact q
theorem CallR.or {f : Value} {r r' : List V → Hp → VK → Prop} (h : CallR X f r) (h' : CallR X f r') : CallR X f (fun xs H Q => r xs H Q ∨ r' xs H Q) := by
  intro pins s σ H xs us Q I rs q
  rcases q with q | q
  · exact h pins s σ H xs us Q I rs q
  · exact h' pins s σ H xs us Q I rs q
theorem call_list_of : CallR X (.type "list") (fun xs H Q => ∃ p ys, xs = [.ref p] ∧ (SqL X.K H p ys ∨ SqT X.K H p ys) ∧ ∀ l, H l = none → Q (.ref l) (upd H l (.lst ys))) := by
  intro pins s σ H xs us Q I r h
  obtain ⟨p, ys, rfl, hq, q⟩ := h
  obtain ⟨u, rfl, rx⟩ := vals1 r
  cases rx
  have fin : ∀ (its : List Value), Vals ys its → ys.length ≤ sizeLine → ∀ (h' : Heap) (c' : Nat), (∀ b o', s.heap.get? b = some o' → h'.get? b = some o') →
      h'.get? s.heap.objs.size = some { cls := .type "list", dict := none, data := .seq its.toArray c', slots := #[] } → EP X pins σ Q (.ref s.heap.objs.size) { s with heap := h' } := fun its r' hz h' c' kp e =>
    ⟨.ref s.heap.objs.size, _, I.laid (t' := s.toks) kp (Nat.le_refl _) (show ObjOk X.prog X.w _ h' _ (.lst ys) from ⟨hz, its, c', r', e⟩), rfl, q _ (I.hok.fresh (Nat.le_refl _))⟩
  rcases hq with hq | hq
  · obtain ⟨its, r', pl, hz⟩ := I.list hq
    have hlen := r'.length
    obtain ⟨o, ho, hc, n, hd⟩ := pl.isList
    exact call_list_seq p (.inl rfl) ho hc hd (fun h' c' kp e => fin its r' hz h' c' kp e) (by simp only [List.size_toArray] <;> omega)
  · obtain ⟨its, r', pl, hz⟩ := I.tuple hq
    have hlen := r'.length
    obtain ⟨o, ho, hc, n, hd⟩ := pl
    exact call_list_seq p (.inr rfl) ho hc hd (fun h' c' kp e => fin its r' hz h' c' kp e) (by simp only [List.size_toArray] <;> omega)
theorem call_tuple_of : CallR X (.type "tuple") (fun xs H Q => ∃ p ys, xs = [.ref p] ∧ ((SqL X.K H p ys ∧ ∀ l, H l = none → Q (.ref l) (upd H l (.tup ys))) ∨ (SqT X.K H p ys ∧ Q (.ref p) H))) := by
  intro pins s σ H xs us Q I r h
  obtain ⟨p, ys, rfl, h⟩ := h
  obtain ⟨u, rfl, rx⟩ := vals1 r
  cases rx
  rcases h with ⟨hq, q⟩ | ⟨hq, q⟩
  · obtain ⟨its, r', pl, hz⟩ := I.list hq
    have hlen := r'.length
    refine call_tuple_list pl.isList (fun h' kp => ?_) (by simp only [List.size_toArray] <;> omega)
    have I1 : Inv X pins σ H { s with heap := h' } := I.kept (t' := s.toks) kp
    have I2 : Inv X pins σ (upd H h'.objs.size (.tup ys)) { s with heap := h'.push { cls := .type "tuple", data := .seq its.toArray } } :=
      I1.laid (t' := s.toks) (fun b o e => Heap.get?_push_of_some _ e) (Nat.le_refl _) (show ObjOk X.prog X.w _ _ _ (.tup ys) from ⟨hz, its, r', IsTup.new _ _⟩)
    exact ⟨.ref h'.objs.size, _, I2, rfl, q _ (I1.hok.fresh (Nat.le_refl _))⟩
  · obtain ⟨its, r', pl, hz⟩ := I.tuple hq
    exact call_tuple_same pl ⟨.ref p, H, I, rfl, q⟩
def tyV (K : PySem.W.Frag) (T : String) (x : V) (H : Hp) : Prop := match x with
  | .str _ => T = "str"
  | .int _ => T = "int"
  | .ref p => (T = "list" ∧ ∃ xs, SqL K H p xs) ∨ (T = "tuple" ∧ ∃ o, K.lookup p = some o ∧ o.cls = .type "tuple" ∧ o.dict = none) ∨
      (T = "dict" ∧ ((∃ kvs, H p = some (.dK kvs)) ∨ ∃ kvs, H p = some (.dT kvs))) ∨ (T = "set" ∧ ∃ S n, H p = some (.set S n))
  | _ => False
theorem tyV_is {pins : List (Addr × Obj)} {σ : St} {H : Hp} {s : Shared} {T : String} {x : V} {v : Value} (I : Inv X pins σ H s) (r : RelV x v) (ty : tyV X.K T x H) :
    s.TypeIs v T ∧ ∀ a, v = .ref a → ∃ ob, s.heap.get? a = some ob ∧ ob.dict = none := by
  cases x with
  | str z =>
    obtain ⟨t, rfl⟩ := r
    cases (show T = "str" from ty)
    exact ⟨typeIs_str s z t, fun _ e => nomatch e⟩
  | int i =>
    obtain ⟨t, rfl⟩ := r
    cases (show T = "int" from ty)
    exact ⟨typeIs_int s i t, fun _ e => nomatch e⟩
  | ref p =>
    cases r
    rcases ty with ⟨rfl, xs, hq⟩ | ⟨rfl, o, hk, hc, hd⟩ | ⟨rfl, hk⟩ | ⟨rfl, S, n, hk⟩
    · obtain ⟨its, _, pl, _⟩ := I.list hq
      refine ⟨pl.isList.typeIs, fun a e => ?_⟩
      cases e
      obtain ⟨o, n, e, c, hd, _⟩ := pl
      exact ⟨o, e, hd⟩
    · refine ⟨⟨o, I.kIn p o hk, hc⟩, fun a e => ?_⟩
      cases e
      exact ⟨o, I.kIn _ o hk, hd⟩
    · have z : ∃ o, s.heap.get? p = some o ∧ o.ExactDict := by
        rcases hk with ⟨kvs, hk⟩ | ⟨kvs, hk⟩
        · obtain ⟨_, _, _, _, o, _, _, e, ex, _⟩ := I.hok p _ hk
          exact ⟨o, e, ex⟩
        · obtain ⟨_, _, _, _, o, _, _, e, ex, _⟩ := I.hok p _ hk
          exact ⟨o, e, ex⟩
      obtain ⟨o, e, ex⟩ := z
      refine ⟨⟨o, e, ex.1⟩, fun a e2 => ?_⟩
      cases e2
      exact ⟨o, e, ex.2.1⟩
    · obtain ⟨o, _, _, _, e, ex, _⟩ := I.hok p _ hk
      refine ⟨⟨o, e, ex.1⟩, fun a e2 => ?_⟩
      cases e2
      exact ⟨o, e, ex.2.1⟩
  | _ => exact False.elim ty
def tBM0 (K : PySem.W.Frag) (T : String) (r : V → List V → Hp → VK → Prop) (to : TE) : TE := fun σ H Q => to σ H fun x H1 => tyV K T x H1 ∧ r x [] H1 Q
def tBM (K : PySem.W.Frag) (T : String) (r : V → List V → Hp → VK → Prop) (to : TE) (t : TA) : TE := fun σ H Q => to σ H fun x H1 => tyV K T x H1 ∧ t σ H1 fun xs H2 => r x xs H2 Q
variable {o e : Expr} {es : List Expr} {to : TE} {t : TA} {name : Str} {apos cpos : Pos} {T id : String} {r : V → List V → Hp → VK → Prop}
theorem pe_bm0 (pa : PlainAttrs T) (slot : Slot T name id) (hty : typeOf (.builtin id) = pure (.type "method_descriptor")) (hm : MtR X id r) (ho : PE X o to)
    (hbase : attributeBase o name X.env (eval o X.env) = eval o X.env := by rfl) (hline : (apos.endLine == cpos.line) = true := by rfl) : PE X (.Call (.Attribute o name apos) [] [] cpos) (tBM0 X.K T r to) := by
  intro pins s σ H Q I h
  refine wpAny_Call_method0_late hbase hline (thn (ho pins s σ H _ I h) fun v s1 ⟨x, H1, I1, r1, ty, q1⟩ => ?_)
  obtain ⟨h1, h2⟩ := tyV_is I1 r1 ty
  exact ⟨T, id, pa, slot, hty, h1, h2, Calls.callWith_builtin rfl (PySem.evalArgs_none (hm pins s1 σ H1 x [] v [] Q I1 r1 .nil q1))⟩
theorem pe_bm (pa : PlainAttrs T) (slot : Slot T name id) (hty : typeOf (.builtin id) = pure (.type "method_descriptor")) (hm : MtR X id r) (ho : PE X o to) (ha : PA X (e :: es) t)
    (hbase : attributeBase o name X.env (eval o X.env) = eval o X.env := by rfl)
    (hfew : ((backTo cpos (starEach (e :: es) X.env)).all (fun x => !x.1) && (backToKw cpos (keywordEach [] X.env)).all (fun x => x.1.isSome)
      && decide ((e :: es).length + ([] : List Keyword).length + (if ([] : List Keyword).isEmpty then 0 else 1) < 30)) = true := by rfl)
    (hline : (apos.endLine == cpos.line) = true := by rfl) (hs : starEach (e :: es) X.env = (false, eval e X.env) :: starEach es X.env := by rfl) (hplain : (backTo cpos (starEach es X.env)).any (·.1) = false := by rfl) :
    PE X (.Call (.Attribute o name apos) (e :: es) [] cpos) (tBM X.K T r to t) := by
  intro pins s σ H Q I h
  refine wpAny_Call_method_late hbase hfew hline rfl (thn (ho pins s σ H _ I h) fun v s1 ⟨x, H1, I1, r1, ty, q1⟩ => ?_)
  obtain ⟨h1, h2⟩ := tyV_is I1 r1 ty
  refine ⟨T, id, pa, slot, hty, h1, h2, ?_⟩
  have hA := ha cpos pins s1 σ H1 _ I1 q1
  rw [hs] at hA ⊢
  refine Calls.callWith_builtin (by show (false || (backTo cpos (starEach es X.env)).any (·.1)) = false; rw [hplain] <;> rfl) (Calls.evalArgs_plain ?_)
  exact thn hA fun us s2 ⟨vs, H2, I2, r2, q2⟩ => hm pins s2 σ H2 x vs v us Q I2 r1 r2 q2
end
end L2
namespace L2
open PySem PySem.Spec PyProof.Rows
def MtM (X : Cx) (id : String) (r : V → List V → Hp → VK → Prop) : Prop :=
  ∀ (pins : List (Addr × Obj)) (s : Shared) (σ : St) (H : Hp) (x : V) (xs : List V) (v : Value) (us : List Value) (Q : VK), Inv X pins σ H s → RelV x v → Vals xs us → r x xs H Q →
    wpAny (model X.prog X.w) X.A (call (.builtin id) (v :: us)) (EP X pins σ Q) X.xe s
theorem Vals.one : ∀ {x : V} {us : List Value}, Vals [x] us → ∃ u, us = [u] ∧ RelV x u
  | _, _, .cons r .nil => ⟨_, rfl, r⟩
theorem Vals.two : ∀ {x y : V} {us : List Value}, Vals [x, y] us → ∃ u v, us = [u, v] ∧ RelV x u ∧ RelV y v
  | _, _, _, .cons r (.cons q .nil) => ⟨_, _, rfl, r, q⟩
theorem Vals.zero : ∀ {us : List Value}, Vals [] us → us = []
  | _, .nil => rfl
theorem Vals.dropLast {xs : List V} {us : List Value} (h : Vals xs us) : Vals xs.dropLast us.dropLast := by
  induction h with
  | nil => exact .nil
  | cons r t ih =>
    cases t with
    | nil => exact .nil
    | cons q t' => exact .cons r ih
theorem Vals.eraseIdx : ∀ {xs : List V} {us : List Value} (i : Nat), Vals xs us → Vals (xs.eraseIdx i) (us.eraseIdx i)
  | _, _, _, .nil => .nil
  | _, _, 0, .cons _ t => t
  | _, _, i + 1, .cons r t => .cons r (Vals.eraseIdx i t)
theorem Vals.reverse {xs : List V} {us : List Value} (h : Vals xs us) : Vals xs.reverse us.reverse := by
  induction h with
  | nil => exact .nil
  | cons r t ih => rw [List.reverse_cons, List.reverse_cons]; exact Vals.append ih (.cons r .nil)
theorem Vals.rep {xs : List V} {us : List Value} (h : Vals xs us) : ∀ k : Nat, Vals (List.replicate k xs).flatten (List.replicate k us).flatten
  | 0 => .nil
  | k + 1 => by
    rw [List.replicate_succ, List.replicate_succ, List.flatten_cons, List.flatten_cons]
    exact Vals.append h (Vals.rep h k)
theorem len_erase {α : Type} : ∀ (l : List α) (i : Nat), (l.eraseIdx i).length ≤ l.length
  | [], _ => Nat.le_refl _
  | _ :: _, 0 => Nat.le_succ _
  | _ :: r, i + 1 => Nat.succ_le_succ (len_erase r i)
section
variable {X : Cx} {pins : List (Addr × Obj)} {σ : St} {H : Hp} {s : Shared} {l b : Addr} {xs ys zs : List V}
theorem Inv.lset {its its' : List Value} {n : Nat} {f : Array Value → Array Value} {t' : Nat} (I : Inv X pins σ H s) (hH : H l = some (.lst xs))
    (e : s.heap.get? l = some { cls := .type "list", data := .seq its.toArray n }) (hf : f its.toArray = its'.toArray) (hv : Vals ys its') (hz : ys.length ≤ sizeLine) :
    Inv X pins σ (upd H l (.lst ys)) { s with heap := s.heap.update l (Obj.mapSeq f), toks := t' } := by
  have q := PySem.IsL.update e f
  rw [hf] at q
  refine I.write (x := l) (e := l) (by rw [hH]; exact trivial) (.inl rfl) (fun b' u hb hu => (Heap.get?_update_other s.heap (Obj.mapSeq f) (Ne.symm hb)).trans hu) ⟨_, q⟩ ?_
  exact ⟨hz, its', _, hv, q⟩
theorem Inv.lnew {its : List Value} {t' : Nat} (I : Inv X pins σ H s) (hv : Vals ys its) (hz : ys.length ≤ sizeLine) :
    Inv X pins σ (upd H s.heap.objs.size (.lst ys)) { s with heap := s.heap.push { cls := .type "list", data := .seq its.toArray }, toks := t' } :=
  I.laid (fun _ _ q => Heap.get?_push_of_some _ q) (Nat.le_refl _) ⟨hz, its, 0, hv, Heap.get?_push_size _ rfl⟩
theorem Inv.fresh (I : Inv X pins σ H s) : H s.heap.objs.size = none := I.hok.fresh (Nat.le_refl _)
theorem Inv.lstM (I : Inv X pins σ H s) (hH : H l = some (.lst xs)) : xs.length ≤ sizeLine ∧ ∃ (its : List Value) (n : Nat), Vals xs its ∧ xs.length = its.length ∧ s.heap.get? l = some { cls := .type "list", data := .seq its.toArray n } := by
  obtain ⟨z, its, n, r, e⟩ := I.hok l _ hH
  exact ⟨z, its, n, r, r.length, e⟩
end
section
variable {X : Cx}
def rAppend : V → List V → Hp → VK → Prop := fun x vs H Q => ∃ l xs y, x = .ref l ∧ vs = [y] ∧ H l = some (.lst xs) ∧ xs.length < sizeLine ∧ Q .non (upd H l (.lst (xs ++ [y])))
theorem mt_append : MtM X "list.append" rAppend := by
  intro pins s σ H x vs v us Q I rx rv h
  obtain ⟨l, xs, y, rfl, rfl, hH, hz, q⟩ := h
  cases rx
  obtain ⟨u, rfl, ru⟩ := rv.one
  obtain ⟨z, its, n, r, hl, e⟩ := I.lstM hH
  refine call_meets F.slot_list_append ⟨_, e, rfl⟩ F.entry_list_append (F.args_list_append_2 _ _) (PySem.list_append l its.toArray n u (by rw [List.size_toArray]; omega)) ⟨e, ?_⟩
  refine ⟨.non, _, I.lset (its' := its ++ [u]) hH e (by simp) (r.append (.cons ru .nil)) ?_, rfl, q⟩
  rw [List.length_append, List.length_singleton]
  omega
def rPopAt : V → List V → Hp → VK → Prop := fun x vs H Q => ∃ l xs i k y, x = .ref l ∧ vs = [.int i] ∧ H l = some (.lst xs) ∧ -(2 ^ 63) ≤ i ∧ i < 2 ^ 63 ∧ seqIndex? i xs.length = some k ∧ xs[k]? = some y ∧ Q y (upd H l (.lst (xs.eraseIdx k)))
theorem mt_popAt : MtM X "list.pop" rPopAt := by
  intro pins s σ H x vs v us Q I rx rv h
  obtain ⟨l, xs, i, k, y, rfl, rfl, hH, h1, h2, hk, hy, q⟩ := h
  cases rx
  obtain ⟨u, rfl, ru⟩ := rv.one
  obtain ⟨t, rfl⟩ := ru
  obtain ⟨z, its, n, r, hl, e⟩ := I.lstM hH
  obtain ⟨w, hw, rw'⟩ := r.get hy
  refine call_meets F.slot_list_pop ⟨_, e, rfl⟩ F.entry_list_pop (F.args_list_pop_2 _ _)
    (MeetsSeq.list_pop_at l its.toArray n i t k w (fitsIndex_both h1 h2) (by rw [List.size_toArray, ← hl]; exact hk) (by rw [← Array.getElem?_toList]; exact hw) (by rw [List.size_toArray]; omega)) ⟨e, ?_⟩
  refine ⟨y, _, I.lset (its' := its.eraseIdx k) hH e ?_ (r.eraseIdx k) ?_, rw', q⟩
  · show its.toArray.eraseIdxIfInBounds k = (its.eraseIdx k).toArray
    rw [List.eraseIdxIfInBounds_toArray]
  · have := len_erase xs k
    omega
def rReverse : V → List V → Hp → VK → Prop := fun x vs H Q => ∃ l xs, x = .ref l ∧ vs = [] ∧ H l = some (.lst xs) ∧ Q .non (upd H l (.lst xs.reverse))
theorem mt_reverse : MtM X "list.reverse" rReverse := by
  intro pins s σ H x vs v us Q I rx rv h
  obtain ⟨l, xs, rfl, rfl, hH, q⟩ := h
  cases rx
  have hus := rv.zero
  subst hus
  obtain ⟨z, its, n, r, hl, e⟩ := I.lstM hH
  refine call_meets F.slot_list_reverse ⟨_, e, rfl⟩ F.entry_list_reverse (F.args_list_reverse_1 _) (AutoSeq1.list_reverse_list_0 l its.toArray n (by rw [List.size_toArray]; omega)) ⟨e, ?_⟩
  refine ⟨.non, _, I.lset (its' := its.reverse) hH e (by simp) r.reverse ?_, rfl, q⟩
  rw [List.length_reverse]
  omega
end
section
variable {prog : Program} {w : World} {A : Around} {E : Value → Shared → Prop} {s : Shared}
end
section
variable {X : Cx}
end
end L2
namespace Att
open PySem PySem.W PySem.Calls PyProof.Rows
theorem ints_of_wellAll {P : Params} {h : Heap} : ∀ (ns : List Int) (vs : List Value), WellAll P h vs (ns.map WData.int) → IntsAre vs ns := by
  intro ns
  induction ns with
  | nil =>
    intro vs w
    rw [List.map_nil] at w
    cases w
    exact .nil
  | cons n ns ih =>
    intro vs w
    rw [List.map_cons] at w
    cases w with
    | cons a b =>
      cases a
      exact .cons _ _ (ih _ b)
theorem script_of {l : OpenLaw} {n : Nat} (hn : l.most = some n) {P : Params} {h : Heap} {args : List WData} {vals : List Value}
    (hpre : l.row.toRowW.claim.pre args = true) (hwl : WellAll P h vals args) :
    ∃ a vs ns, vals = [Value.ref a] ∧ args = [WData.list (ns.map WData.int)] ∧ h.get? a = some { cls := .type "list", data := .seq vs.toArray } ∧ IntsAre vs ns ∧ ns.length ≤ n := by
  have hsh : WShape.hasAll [] args [.list .int] = true := (pre_splitW hpre).1
  have hc : l.pre.holds [] { args := args } = true := (pre_splitW hpre).2
  obtain ⟨d, r, rfl, h1, h2⟩ := hasAllW_cons hsh
  obtain rfl := hasAllW_nil h2
  obtain ⟨xs, rfl, h3⟩ := hasW_list h1
  obtain ⟨ns, rfl⟩ := items_int h3
  have hlen : ns.length ≤ n := by
    unfold OpenLaw.pre at hc
    have h4 : (WTm.not (.lt (.lit (.int (n : Int))) (.len (.arg 0)))).holds [] { args := [.list (ns.map .int)] } = true := by
      have h4 := (holds_andW hc).1
      rw [hn] at h4
      exact h4
    have h5 := condW_of h4 (w_not (w_lt w_lit (w_len_list (w_arg rfl))))
    rw [List.length_map] at h5
    refine Nat.le_of_not_lt fun q => ?_
    have q' : (n : Int) < ((ns.length : Nat) : Int) := by omega
    first
      | (rw [decide_eq_true q'] at h5; exact absurd h5 (by decide))
      | (simp at h5; omega)
  cases hwl with
  | cons w1 w2 =>
    cases w2
    cases w1 with
    | list ho hall => exact ⟨_, _, ns, rfl, rfl, ho, ints_of_wellAll ns _ hall, hlen⟩
theorem post_true (l : OpenLaw) (args : List WData) : l.row.toRowW.claim.post args (.bool true) args = true :=
  postW_of (r := l.row.toRowW) (X := (true == true))
    (show WShape.has [] (.bool true) .bool = true by first | rfl | decide | simp [WShape.has, WShape.arms, WShape.armsAll])
    (show (WTm.eq .res (.lit (.bool true))).value [] { args := args, res := some (.bool true), after := args } = some (.bool (true == true)) from w_eq_bool (w_res rfl) w_lit) rfl
theorem attach_call {l : OpenLaw} {n : Nat} {q : Program} {loose : List Str} {XP : (Str → Option Value) → Heap → Prop} {YP : World → Heap → Prop} {d : DefRec}
    (hn : l.most = some n) (hdf : d.params.defaults = [])
    (call : ∀ (w : World) (s₀ s₁ : Shared) (mg mb : Str → Option Value) (fa : Addr) (o : Obj) (pm cd doc : Value) (a : Addr) (vs : List Value) (ns : List Int),
      Ground q loose [] XP w s₀ mg mb s₁.heap → YP w s₁.heap →
      s₁.heap.get? fa = some o → o.data = .func (docDef d.name d.params d.body d.scope pm cd doc) → s₁.heap.CodeRec cd d.name → mg d.name = some (.ref fa) →
      s₁.heap.get? a = some { cls := .type "list", data := .seq vs.toArray } → IntsAre vs ns → ns.length ≤ n → s₁.gens = #[] →
      codeAny (model l.prog w) callerA (.call (.ref fa) ⟨[.ref a], []⟩) (fun r s' => r = .ok (.ret (.bool true)) ∧ OldK s₁.heap s'.heap ∧ s'.os = s₁.os ∧ AllBare s'.gens) s₁) :
    WalkO q loose XP YP l.row.toRowW d [] (fun f vs => PySem.call f vs) := by
  intro w s₀ s₁ mg mb G Y fa o pm cd doc dV kV ho hd hcd hD hmg hg args vals as hpre hlay hrd hwl hlo
  obtain rfl : dV = .none := Dflts.none hD hdf
  obtain rfl : kV = .none := Dflts.noKw hD
  obtain ⟨a, vs, ns, rfl, rfl, hobj, hints, hlen⟩ := script_of hn hpre hwl
  refine enter_call (codeAny_mono (call w s₀ s₁ mg mb fa o pm cd doc a vs ns G Y ho (fd_plain hd) hcd hmg hobj hints hlen hg) fun r s' hq => ?_)
  obtain ⟨rfl, h2, h3, h4⟩ := hq
  exact ⟨.inl ⟨.bool true, .bool true, [], rfl, fun _ => rfl, .bool true, post_true l _, fun _ => ⟨List.Pairwise.nil, fun _ hm => (nomatch hm)⟩⟩, h2, h3, h4⟩
section
variable {prog : Program} {w : World} {A : Around} {E : Value → Shared → Prop} {s : Shared} {K : Frag}
end
end Att
namespace L2
open PySem PySem.Spec PyProof.Rows
theorem vals_ints : ∀ {vs : List Value} {ns : List Int}, IntsAre vs ns → Vals (ns.map V.int) vs
  | _, _, .nil => .nil
  | _, _, .cons n t h => .cons ⟨t, rfl⟩ (vals_ints h)
def Only (H : Hp) : Prop := ∀ b, H b = none ∨ ∃ o xs, H b = some (.frz o (.lst xs))
theorem law_call {P : Program} {w : World} {K : PySem.W.Frag} {mg mb : Str → Option Value} {CX : CXT} {k : Nat} {fa a : Addr} {fd : FuncData} {x : Str} {sp : Sp} {s₁ : Shared} {vs : List Value} {ns : List Int}
    (KX : K.In s₁.heap) (hns : s₁.heap.Ns mainGlobals mg) (hb : s₁.heap.Ns builtinsNs mb) (hbb : ∀ x : Str, x ≠ "__name__" → mb x = bootBuiltins x) (hlim : s₁.heap.NoLimit) (hg : s₁.gens = #[])
    (ha : s₁.heap.get? a = some { cls := .type "list", data := .seq vs.toArray }) (hi : IntsAre vs ns) (hl : ns.length ≤ sizeLine) (hr : Room k callerA)
    (F : ∀ base : Heap, K.In base → base.Ns mainGlobals mg → FnOk P w K mg base CX k fa fd [x] sp) (hbind : ∀ (s : Shared) (u : Value), BindsTo s fd ⟨[u], []⟩ [(x, u)])
    (hsp : ∀ H : Hp, Only H → SqL K H a (ns.map V.int) → sp [.ref a] H (fun v _ => v = .bl true) fun _ _ _ => False)
    (hCX : ∀ H e s', CX [] H s₁ (fun _ _ _ => False) e s' → False) :
    codeAny (model P w) callerA (.call (.ref fa) ⟨[.ref a], []⟩) (fun r s' => r = .ok (.ret (.bool true)) ∧ OldK s₁.heap s'.heap ∧ s'.os = s₁.os ∧ AllBare s'.gens) s₁ := by
  have rv := vals_ints hi
  have lenV := hi.length
  -- from an abstract heap in which nothing but the script may be tracked
  have core : ∀ H : Hp, Only H → SqL K H a (ns.map V.int) → HOk P w H s₁.heap → (∀ b, H b ≠ none → b = a) → (H a ≠ none → K.lookup a = none) →
      codeAny (model P w) callerA (.call (.ref fa) ⟨[.ref a], []⟩) (fun r s' => r = .ok (.ret (.bool true)) ∧ OldK s₁.heap s'.heap ∧ s'.os = s₁.os ∧ AllBare s'.gens) s₁ := by
    intro H hO hS hok hA hK
    have base_of : ∀ {b : Addr} {o : Obj}, s₁.heap.get? b = some o → H b = none → (hidT s₁.heap H).get? b = some o := fun e n => hidT_get e n
    have noA : ∀ {b : Addr} {o : Obj} {es : Array DictEntry} {ep : Nat}, s₁.heap.get? b = some o → o.data = .dict es ep → H b = none := fun {b o es ep} e d => by
      cases q : H b with
      | none => rfl
      | some u =>
        have e' : b = a := hA b (by rw [q]; simp)
        subst e'
        rw [ha] at e; cases e
        have d' : Data.seq vs.toArray _ = Data.dict es ep := d
        cases d'
    have nsK : ∀ {b : Addr} {m : Str → Option Value}, s₁.heap.Ns b m → (hidT s₁.heap H).Ns b m := fun {b m} ⟨o, es, ep, e, d, r⟩ => ⟨o, es, ep, base_of e (noA e d), d, r⟩
    have hKb : K.In (hidT s₁.heap H) := fun b o e => base_of (KX b o e) (by
      cases q : H b with
      | none => rfl
      | some u =>
        have e' : b = a := hA b (by rw [q]; simp)
        subst e'
        rw [hK (by rw [q]; simp)] at e; cases e)
    have hM : Mod K mg (hidT s₁.heap H) := ⟨hKb, nsK hns, ⟨mb, nsK hb, hbb⟩, let ⟨mc, h1, h2⟩ := hlim; ⟨mc, nsK h1, h2⟩⟩
    have e0 : Env0 P w K mg (hidT s₁.heap H) callerA [] s₁ H := ⟨rfl, hM, fun b o e => of_hidT e, Nat.le_of_eq (hidT_size _ _), trivial, fun b hb => absurd (show b ∈ ([] : List Addr) from hb) (by simp), hok, .of_eq hg⟩
    refine codeAny_mono ((F _ hKb (nsK hns)).run callerA [] s₁ H ⟨[.ref a], []⟩ [.ref a] [.ref a] _ _ hr e0 (hbind s₁ (.ref a)) (.cons rfl .nil) (hsp H hO hS)) fun r s' h => ?_
    cases r with
    | error e => exact (hCX H e s' h).elim
    | ok fl =>
      cases fl with
      | next => exact False.elim h
      | brk => exact False.elim h
      | cont => exact False.elim h
      | ret u =>
        obtain ⟨v, H', os, bare, un, hok', r', q⟩ := h
        have q' : v = .bl true := q
        subst q'
        obtain rfl : u = Value.bool true := r'
        refine ⟨rfl, OldK.of_keep fun b o e => ?_, os, bare⟩
        cases q : H b with
        | none => exact un.keep b o e q (by intro z; exact absurd (show b ∈ ([] : List Addr) from z) (by simp)) (by simp)
        | some u =>
          rcases hO b with z | ⟨ob, xs, z⟩
          · rw [q] at z; cases z
          · have z2 := un.frzs b ob _ z
            obtain ⟨e1, _⟩ := hok b _ z
            obtain ⟨e2, _⟩ := hok' b _ z2
            rw [e] at e1; cases e1
            exact e2
  cases hk : K.lookup a with
  | some o =>
    -- the script is one of the module's own objects
    have e := KX a o hk
    rw [ha] at e
    cases e
    refine core (fun _ => none) (fun _ => .inl rfl) (.inr ⟨_, vs.toArray, _, hk, rfl, rfl, rfl, by rw [List.size_toArray, lenV]; exact hl, by simpa using rv⟩) (fun b u z => by have z' : (none : Option HO) = some u := z; cases z') (fun b z => absurd rfl z) fun z => absurd rfl z
  | none =>
    refine core (fun b => if b = a then some (.frz { cls := .type "list", data := .seq vs.toArray } (.lst (ns.map V.int))) else none) (fun b => ?_) (.inl (.inr ⟨{ cls := .type "list", data := .seq vs.toArray }, if_pos rfl⟩)) (fun b u z => ?_) (fun b z => ?_) fun _ => hk
    · by_cases hb : b = a
      · exact .inr ⟨_, _, if_pos hb⟩
      · exact .inl (if_neg hb)
    · by_cases hb : b = a
      · have z' := (if_pos hb).symm.trans z
        cases z'
        subst hb
        exact ⟨ha, by rw [List.length_map]; exact hl, vs, _, rv, ha⟩
      · have z' := (if_neg hb).symm.trans z
        cases z'
    · by_cases hb : b = a
      · exact hb
      · exact absurd (if_neg hb) z
end L2
namespace L2
open PySem PySem.Spec PyProof.Rows
theorem walk_of {l : PySem.W.OpenLaw} {n k : Nat} {q : Program} {loose : List Str} {XP : (Str → Option Value) → Heap → Prop} {YP : World → Heap → Prop} {d : DefRec} {K : Params → PySem.W.Frag} {CX : World → CXT} {sp : World → Sp} {x : Str}
    (hn : l.most = some n) (hn2 : n ≤ sizeLine) (hdf : d.params.defaults = []) (hr : Room k callerA)
    (hY : ∀ (w : World) (h : Heap), YP w h → (K w.params).In h)
    (F : ∀ (w : World) (mg : Str → Option Value) (fa : Addr) (h : Heap), (K w.params).In h → h.Ns mainGlobals mg → mg d.name = some (.ref fa) →
      ∃ fd : FuncData, (∀ (s : Shared) (u : Value), BindsTo s fd ⟨[u], []⟩ [(x, u)]) ∧
        ∀ base : Heap, (K w.params).In base → base.Ns mainGlobals mg → FnOk l.prog w (K w.params) mg base (CX w) k fa fd [x] (sp w))
    (hsp : ∀ (w : World) (H : Hp) (a : Addr) (ns : List Int), ns.length ≤ n → Only H → SqL (K w.params) H a (ns.map V.int) → sp w [.ref a] H (fun v _ => v = .bl true) fun _ _ _ => False)
    (hCX : ∀ (w : World) (H : Hp) (s : Shared) (e : Value) (s' : Shared), CX w [] H s (fun _ _ _ => False) e s' → False) :
    PySem.W.WalkO q loose XP YP l.row.toRowW d [] (fun f vs => PySem.call f vs) := by
  refine Att.attach_call hn hdf fun w s₀ s₁ mg mb fa o pm cd doc a vs ns G Y ho hd hcd hmg hobj hints hlen hg => ?_
  have KX := hY w _ Y
  obtain ⟨fd, hb, hF⟩ := F w mg fa _ KX G.T.g hmg
  exact law_call KX G.T.g G.T.b G.T.builtins G.T.nolimit hg hobj hints (Nat.le_trans hlen hn2) hr hF hb (fun H hO hS => hsp w H a ns hlen hO hS) fun H e s' => hCX w H s₁ e s'
end L2
namespace L2
open PySem PySem.Spec PyProof.Rows
def defArgs (s : Stmt) : Arguments := match s with
  | .FunctionDef _ a _ _ _ _ _ _ _ _ => a
  | _ => { posonlyargs := [], args := [], vararg := none, kwonlyargs := [], kw_defaults := [], kwarg := none, defaults := [] }
def defBody (s : Stmt) : List Stmt := match s with
  | .FunctionDef _ _ b _ _ _ _ _ _ _ => b
  | _ => []
def defScope (s : Stmt) : Scope := match s with
  | .FunctionDef _ _ _ _ _ _ sc _ _ _ => sc
  | _ => { kind := .function, names := [], isGenerator := false, isCoroutine := false }
abbrev CX0 : CXT := fun _ _ _ _ _ _ => False
abbrev E0 : XK := fun _ _ _ => False
theorem pass0 {X : Cx} : Passes CX0 X E0 := fun _ _ _ _ _ _ _ h => h.elim
structure Fun (K : PySem.W.Frag) (x qual : Str) (st : Stmt) (f : Addr) (fd : FuncData) : Prop where
  ex : ∃ (oc : Value) (od : Option Addr) (kV doc pm : Value) (an : Option Addr) (cdv ct : Value) (osl : Array (Option Value)),
    fd = PySem.W.fnOf x qual (defArgs st) (defBody st) (defScope st) .none kV doc pm an cdv ct ∧ K.lookup f = some ⟨oc, od, .func fd, osl⟩ ∧ PySem.W.codeIn K cdv qual = true
  kp : PySem.W.keepIn K (.ref f) = true
section
variable {P : Program} {w : World} {K : PySem.W.Frag} {mg : Str → Option Value} {base : Heap}
theorem Fun.ok {x qual : Str} {st : Stmt} {f : Addr} {fd : FuncData} {N ps : List Str} {k : Nat} {sp : Sp} (F : Fun K x qual st f fd) (S : FnScope N ps (defScope st)) (len : ∀ vs H Q E, sp vs H Q E → vs.length = ps.length)
    (hbody : ∀ (cdv : Value) (A : Around) (outer : List Env) (s : Shared) (H : Hp) (vs : List V) (Q : VK) (E : XK), Room k (A.deeper (envOfC qual (defScope st) s.heap.objs.size f cdv)) → sp vs H Q E →
      ∃ t, PSs (cxOf CX0 P w K mg base N qual (defScope st) f cdv A outer s H E).nox (defBody st) t ∧ t { nx := fun _ H' => Q .non H', rt := Q } (start N vs) H) : FnOk P w K mg base CX0 (k + 1) f fd ps sp := by
  obtain ⟨oc, od, kV, doc, pm, an, cdv, ct, osl, rfl, lk, hcd⟩ := F.ex
  refine fn_of lk hcd S len fun A outer s H vs Q E hr hsp => ?_
  obtain ⟨t, h, q⟩ := hbody cdv A outer s H vs Q E hr hsp
  exact ⟨t, h.nox, q⟩
theorem Fun.binds {x qual : Str} {st : Stmt} {f : Addr} {fd : FuncData} {ps : List Str} (F : Fun K x qual st f fd)
    (h : ∀ (kV doc pm : Value) (an : Option Addr) (cdv ct : Value) (us : List Value), us.length = ps.length → bindArgs (PySem.W.fnOf x qual (defArgs st) (defBody st) (defScope st) .none kV doc pm an cdv ct) ⟨us, []⟩ = pure (ps.zip us)) : Binds K fd ps [] := by
  obtain ⟨oc, od, kV, doc, pm, an, cdv, ct, osl, rfl, lk, hcd⟩ := F.ex
  exact .all (h kV doc pm an cdv ct)
theorem fun_mk {x qual : Str} {st : Stmt} {f : Addr} {oc : Value} {od an : Option Addr} {osl : Array (Option Value)} {kV doc pm cdv ct : Value} (l : K.lookup f = some ⟨oc, od, .func (PySem.W.fnOf x qual (defArgs st) (defBody st) (defScope st) .none kV doc pm an cdv ct), osl⟩)
    (c : PySem.W.codeIn K cdv qual = true) (k : PySem.W.keepIn K (.ref f) = true) : Fun K x qual st f (PySem.W.fnOf x qual (defArgs st) (defBody st) (defScope st) .none kV doc pm an cdv ct) := ⟨⟨oc, od, kV, doc, pm, an, cdv, ct, osl, rfl, l, c⟩, k⟩
end
theorem hu_of {A : Around} {k : Nat} (hr : Room k A) : A.units + 1 < cLine := Nat.lt_of_le_of_lt (Nat.add_le_add_left (by decide : 1 ≤ 64) _) hr.units
section
variable {X : Cx}
end
def Same (H H' : Hp) : Prop := ∀ b o, H b = some o → H' b = some o
theorem Same.refl (H : Hp) : Same H H := fun _ _ h => h
theorem Same.trans {H H1 H2 : Hp} (a : Same H H1) (b : Same H1 H2) : Same H H2 := fun c o h => b c o (a c o h)
theorem Same.free {H H' : Hp} (e : Same H H') {l : Addr} (h : H' l = Option.none) : H l = Option.none := by
  cases q : H l with
  | none => rfl
  | some o =>
    rw [e l o q] at h
    cases h
theorem Same.seq {K : PySem.W.Frag} {H H' : Hp} {a : Addr} {xs : List V} (e : Same H H') (h : SqL K H a xs) : SqL K H' a xs := by
  rcases h with (h | ⟨o, h⟩) | h
  · exact .inl (.inl (e _ _ h))
  · exact .inl (.inr ⟨o, e _ _ h⟩)
  · exact .inr h
end L2
set_option Elab.async false
set_option linter.all false
set_option maxRecDepth 100000
namespace L2
open PySem PySem.Spec PyProof.Rows
section
variable {κ : Type} [DecidableEq κ]
def valV (kvs : List (κ × V)) (k : κ) : Option V := (kvs.find? fun kv => decide (kv.1 = k)).map (·.2)
def putK (kvs : List (κ × V)) (k : κ) (v : V) : List (κ × V) :=
  if (kvs.any fun kv => decide (kv.1 = k)) = true then kvs.map (fun kv => if kv.1 = k then (kv.1, v) else kv) else kvs ++ [(k, v)]
def dropK (kvs : List (κ × V)) (k : κ) : List (κ × V) := kvs.filter fun kv => decide (kv.1 ≠ k)
theorem valV_pos {p : κ × V} {r : List (κ × V)} {k : κ} (e : p.1 = k) : valV (p :: r) k = some p.2 := by simp [valV, List.find?_cons, e]
theorem valV_neg {p : κ × V} {r : List (κ × V)} {k : κ} (e : ¬ p.1 = k) : valV (p :: r) k = valV r k := by simp [valV, List.find?_cons, e]
theorem valV_any (k : κ) : ∀ kvs : List (κ × V), (kvs.any fun kv => decide (kv.1 = k)) = (valV kvs k).isSome
  | [] => rfl
  | p :: r => by
    rw [List.any_cons]
    by_cases e : p.1 = k
    · simp only [valV_pos e, decide_eq_true e, Bool.true_or, Option.isSome_some]
    · rw [valV_neg e, decide_eq_false e, Bool.false_or]; exact valV_any k r
theorem length_putK (kvs : List (κ × V)) (k : κ) (v : V) : (putK kvs k v).length ≤ kvs.length + 1 := by
  unfold putK
  split
  · rw [List.length_map]; omega
  · rw [List.length_append, List.length_cons, List.length_nil]; omega
theorem RelO.isSome_eq {o : Option V} {u : Option Value} (r : RelO o u) : o.isSome = u.isSome := by
  cases o with
  | none => cases u with
    | none => rfl
    | some _ => exact (show False from r).elim
  | some _ => cases u with
    | none => exact (show False from r).elim
    | some _ => rfl
theorem RelO.getD {o : Option V} {u : Option Value} {d : V} {d' : Value} (r : RelO o u) (rd : RelV d d') : RelV (o.getD d) (u.getD d') := by
  cases o with
  | none => cases u with
    | none => exact rd
    | some _ => exact (show False from r).elim
  | some _ => cases u with
    | none => exact (show False from r).elim
    | some _ => exact r
theorem KV.val {kvs : List (κ × V)} {vs : List (κ × Value)} (r : KV kvs vs) (k : κ) : RelO (valV kvs k) (valueAt vs k) := by
  unfold KV at r
  induction r with
  | nil => exact True.intro
  | @cons p q ps qs h t ih =>
    obtain ⟨h1, h2⟩ := h
    by_cases e : p.1 = k
    · have e' : q.1 = k := h1.symm.trans e
      have b : valueAt (q :: qs) k = some q.2 := by simp [valueAt, List.find?_cons, e']
      rw [valV_pos e, b]; exact h2
    · have e' : ¬ q.1 = k := fun z => e (h1.trans z)
      have b : valueAt (q :: qs) k = valueAt qs k := by simp [valueAt, List.find?_cons, e']
      rw [valV_neg e, b]; exact ih
theorem KV.any {kvs : List (κ × V)} {vs : List (κ × Value)} (r : KV kvs vs) (k : κ) : (kvs.any fun kv => decide (kv.1 = k)) = vs.any fun kv => decide (kv.1 = k) := by
  unfold KV at r
  induction r with
  | nil => rfl
  | cons h t ih => rw [List.any_cons, List.any_cons, ih, h.1]
theorem KV.repl {kvs : List (κ × V)} {vs : List (κ × Value)} (r : KV kvs vs) (k : κ) {y : V} {u : Value} (ry : RelV y u) :
    KV (kvs.map fun kv => if kv.1 = k then (kv.1, y) else kv) (vs.map fun kv => if kv.1 = k then (kv.1, u) else kv) := by
  unfold KV at r ⊢
  induction r with
  | nil => exact .nil
  | @cons p q ps qs h t ih =>
    rw [List.map_cons, List.map_cons]
    refine .cons ?_ ih
    obtain ⟨h1, h2⟩ := h
    by_cases e : p.1 = k
    · rw [if_pos e, if_pos (h1.symm.trans e)]; exact ⟨h1, ry⟩
    · rw [if_neg e, if_neg (fun z => e (h1.trans z))]; exact ⟨h1, h2⟩
theorem KV.put {kvs : List (κ × V)} {vs : List (κ × Value)} (r : KV kvs vs) (k : κ) {y : V} {u : Value} (ry : RelV y u) : KV (putK kvs k y) (stored vs k u) := by
  unfold putK stored
  rw [r.any k]
  by_cases e : (vs.any fun kv => decide (kv.1 = k)) = true
  · rw [if_pos e, if_pos e]; exact r.repl k ry
  · rw [if_neg e, if_neg e]; exact Paired.snoc r ⟨rfl, ry⟩
theorem KV.drop {kvs : List (κ × V)} {vs : List (κ × Value)} (r : KV kvs vs) (k : κ) : KV (dropK kvs k) (without vs k) := by
  unfold KV at r ⊢
  unfold dropK without
  induction r with
  | nil => exact .nil
  | @cons p q ps qs h t ih =>
    obtain ⟨h1, h2⟩ := h
    rw [List.filter_cons, List.filter_cons]
    by_cases e : p.1 = k
    · have a : ¬ decide (p.1 ≠ k) = true := by simp [e]
      have b : ¬ decide (q.1 ≠ k) = true := by simp [h1.symm.trans e]
      rw [if_neg a, if_neg b]; exact ih
    · have e' : ¬ q.1 = k := fun z => e (h1.trans z)
      have a : decide (p.1 ≠ k) = true := by simp [e]
      have b : decide (q.1 ≠ k) = true := by simp [e']
      rw [if_pos a, if_pos b]; exact .cons ⟨h1, h2⟩ ih
theorem KV.length {kvs : List (κ × V)} {vs : List (κ × Value)} (r : KV kvs vs) : kvs.length = vs.length := Paired.length r
end
theorem kV_is {P : Program} {w : World} {k : Key} {u : Value} (r : RelV (kV k) u) : (mixKind P w).is k u = true := by
  cases k with
  | inl i => obtain ⟨t, e⟩ := (show ∃ t, u = Value.int i t from r); subst e; exact mixKind_int P w i t
  | inr x => obtain ⟨t, e⟩ := (show ∃ t, u = Value.str x t from r); subst e; exact mixKind_str P w x t
theorem items_are {P : Program} {w : World} : ∀ {ks : List Key} {us : List Value}, Vals (ks.map kV) us → ItemsAre (mixKind P w) ks us
  | [], _, r => by rw [List.map_nil] at r; cases r; exact .nil
  | k :: ks, _, r => by
    rw [List.map_cons] at r
    cases r with
    | cons h t => exact .cons (kV_is h) (items_are t)
abbrev KT (H : Hp) : List (List Key × V) → List (List Key × Addr × Value) → Prop := Paired fun p q => p.1 = q.1 ∧ H q.2.1 = some (.tup (p.1.map kV)) ∧ RelV p.2 q.2.2
theorem KT.val {H : Hp} {kvs : List (List Key × V)} {xs : List (List Key × Addr × Value)} (r : KT H kvs xs) (k : List Key) : RelO (valV kvs k) ((atKey xs k).map (·.2)) := by
  induction r with
  | nil => exact True.intro
  | @cons p q ps qs h t ih =>
    obtain ⟨h1, _, h2⟩ := h
    by_cases e : p.1 = k
    · have e' : q.1 = k := h1.symm.trans e
      have b : atKey (q :: qs) k = some q.2 := by simp [atKey, List.find?_cons, e']
      rw [valV_pos e, b]; exact h2
    · have e' : ¬ q.1 = k := fun z => e (h1.trans z)
      have b : atKey (q :: qs) k = atKey qs k := by simp [atKey, List.find?_cons, e']
      rw [valV_neg e, b]; exact ih
theorem KT.repl {H : Hp} {kvs : List (List Key × V)} {xs : List (List Key × Addr × Value)} (r : KT H kvs xs) (k : List Key) {y : V} {u : Value} (ry : RelV y u) :
    KT H (kvs.map fun kv => if kv.1 = k then (kv.1, y) else kv) (xs.map (putAt k u)) := by
  induction r with
  | nil => exact .nil
  | @cons p q ps qs h t ih =>
    rw [List.map_cons, List.map_cons]
    refine .cons ?_ ih
    obtain ⟨h1, h2, h3⟩ := h
    unfold putAt
    by_cases e : p.1 = k
    · rw [if_pos e, if_pos (h1.symm.trans e)]; exact ⟨h1, h2, ry⟩
    · rw [if_neg e, if_neg (fun z => e (h1.trans z))]; exact ⟨h1, h2, h3⟩
theorem KT.put {H : Hp} {kvs : List (List Key × V)} {xs : List (List Key × Addr × Value)} (r : KT H kvs xs) (k : List Key) {b : Addr} {y : V} {u : Value} (hb : H b = some (.tup (k.map kV))) (ry : RelV y u) :
    KT H (putK kvs k y) (storedH xs k b u) := by
  have e : (kvs.any fun kv => decide (kv.1 = k)) = (atKey xs k).isSome := by
    rw [valV_any, (r.val k).isSome_eq, Option.isSome_map]
  unfold putK storedH
  rw [e]
  by_cases q : (atKey xs k).isSome = true
  · rw [if_pos q, if_pos q]; exact r.repl k ry
  · rw [if_neg q, if_neg q]; exact Paired.snoc r ⟨rfl, hb, ry⟩
theorem KT.keeps {H H' : Hp} {kvs : List (List Key × V)} {xs : List (List Key × Addr × Value)} (r : KT H kvs xs) (ht : ∀ b ys, H b = some (.tup ys) → H' b = some (.tup ys)) : KT H' kvs xs :=
  Paired.mapP r fun _ _ z => ⟨z.1, ht _ _ z.2.1, z.2.2⟩
section
variable {P : Program} {w : World} {H : Hp} {h : Heap} {a : Addr}
theorem rd_of {u : HO} (ok : HOk P w H h) (e : Rd H a u) : ObjOk P w H h a u := e.ok ok
theorem dk_rd {kvs : List (Key × V)} (ok : HOk P w H h) (e : Rd H a (.dK kvs)) : kvs.length ≤ sizeLine ∧ (a == sysModules) = false ∧ ∃ vs, KV kvs vs ∧ h.DictOf (mixKind P w) a vs :=
  show ObjOk P w H h a (.dK kvs) from rd_of ok e
theorem dk_of {kvs : List (Key × V)} (ok : HOk P w H h) (e : H a = some (.dK kvs)) : kvs.length ≤ sizeLine ∧ (a == sysModules) = false ∧ ∃ vs, KV kvs vs ∧ h.DictOf (mixKind P w) a vs := dk_rd ok (.inl e)
theorem key_of {ks : List Key} (ok : HOk P w H h) (e : H a = some (.tup (ks.map kV))) : (tupleKind (mixKind P w)).is h ks a := by
  obtain ⟨_, its, r, o, h1, h2, n, h3⟩ := (show ObjOk P w H h a (.tup (ks.map kV)) from ok a _ e)
  exact ⟨o, its.toArray, n, h1, h2, h3, by simpa using items_are r⟩
theorem dt_rd {kvs : List (List Key × V)} (ok : HOk P w H h) (e : Rd H a (.dT kvs)) : kvs.length ≤ sizeLine ∧ (a == sysModules) = false ∧
    ∃ xs, KT H kvs xs ∧ h.DictOfH (tupleKind (mixKind P w)) a xs := by
  obtain ⟨z, y, xs, r, o, es, ep, h1, h2, h3, h4, h5⟩ := (show ObjOk P w H h a (.dT kvs) from rd_of ok e)
  refine ⟨z, y, xs, r, o, es, ep, h1, h2, h3, h4, fun x hx => ?_, h5⟩
  have all : ∀ {l : List (List Key × V)} {m : List (List Key × Addr × Value)}, KT H l m → ∀ x ∈ m, (tupleKind (mixKind P w)).is h x.1 x.2.1 := by
    intro l m q
    induction q with
    | nil => intro x hx; exact nomatch hx
    | @cons p q ps qs hq t ih =>
      intro x hx
      rcases List.mem_cons.mp hx with e | hx
      · subst e
        exact key_of ok (by rw [← hq.1]; exact hq.2.1)
      · exact ih x hx
  exact all r x hx
theorem dt_of {kvs : List (List Key × V)} (ok : HOk P w H h) (e : H a = some (.dT kvs)) : kvs.length ≤ sizeLine ∧ (a == sysModules) = false ∧
    ∃ xs, KT H kvs xs ∧ h.DictOfH (tupleKind (mixKind P w)) a xs := dt_rd ok (.inl e)
end
def DGet (H : Hp) (a : Addr) (y : V) (r : Option V) : Prop :=
  (∃ kvs k, Rd H a (.dK kvs) ∧ y = kV k ∧ r = valV kvs k) ∨ ∃ kvs k b, Rd H a (.dT kvs) ∧ y = .ref b ∧ H b = some (.tup (k.map kV)) ∧ r = valV kvs k
def DPut (H : Hp) (a : Addr) (y v : V) (H' : Hp) : Prop :=
  (∃ kvs k, H a = some (.dK kvs) ∧ y = kV k ∧ kvs.length < sizeLine ∧ H' = upd H a (.dK (putK kvs k v))) ∨
  ∃ kvs k b, H a = some (.dT kvs) ∧ y = .ref b ∧ H b = some (.tup (k.map kV)) ∧ kvs.length < sizeLine ∧ H' = upd H a (.dT (putK kvs k v))
theorem DGet.k {H : Hp} {a : Addr} {kvs : List (Key × V)} {k : Key} (e : H a = some (.dK kvs)) : DGet H a (kV k) (valV kvs k) := .inl ⟨kvs, k, .inl e, rfl, rfl⟩
theorem DGet.t {H : Hp} {a b : Addr} {kvs : List (List Key × V)} {k : List Key} (e : H a = some (.dT kvs)) (eb : H b = some (.tup (k.map kV))) : DGet H a (.ref b) (valV kvs k) := .inr ⟨kvs, k, b, .inl e, rfl, eb, rfl⟩
theorem DPut.k {H : Hp} {a : Addr} {kvs : List (Key × V)} {k : Key} {v : V} (e : H a = some (.dK kvs)) (hl : kvs.length < sizeLine) : DPut H a (kV k) v (upd H a (.dK (putK kvs k v))) := .inl ⟨kvs, k, e, rfl, hl, rfl⟩
theorem DPut.t {H : Hp} {a b : Addr} {kvs : List (List Key × V)} {k : List Key} {v : V} (e : H a = some (.dT kvs)) (eb : H b = some (.tup (k.map kV))) (hl : kvs.length < sizeLine) :
    DPut H a (.ref b) v (upd H a (.dT (putK kvs k v))) := .inr ⟨kvs, k, b, e, rfl, eb, hl, rfl⟩
section
variable {X : Cx} {pins : List (Addr × Obj)} {σ : St} {H : Hp} {s : Shared} {a : Addr} {y v : V} {u r : Value} {o : Option V} {A : Around} {E : Value → Shared → Prop}
theorem Inv.big (I : Inv X pins σ H s) : sysModules < s.heap.objs.size := by
  have h : mainGlobals < s.heap.objs.size := (I.mod.glob.keeps I.bk).lt
  exact Nat.lt_trans (by decide) h
theorem d_notIn {Q : Value → Shared → Prop} (hu : A.units + 1 < cLine) (I : Inv X pins σ H s) (g : DGet H a y o) (ry : RelV y u) (h : ∀ s', Inv X pins σ H s' → Q (.bool (!o.isSome)) s') :
    wpAny (model X.prog X.w) A (compareOp .NotIn u (.ref a)) Q E s := by
  rcases g with ⟨kvs, k, e, ey, l⟩ | ⟨kvs, k, b, e, ey, eb, l⟩
  · subst ey
    obtain ⟨z, hd, vs, rel, dd⟩ := dk_rd I.hok e
    refine wpAny_notIn_of (kV_is ry) hd dd.mapOf ?_
    rw [← (rel.val k).isSome_eq, ← l]
    exact h _ (I.tok _)
  · subst ey
    cases (show u = Value.ref b from ry)
    obtain ⟨z, hd, xs, rel, dd⟩ := dt_rd I.hok e
    refine wpAny_notIn_heap (tupleKind_room_in1 hu) (key_of I.hok eb) hd dd ?_
    have q := (rel.val k).isSome_eq
    rw [Option.isSome_map] at q
    rw [← q, ← l]
    exact h _ (I.tok _)
theorem d_write {h' : Heap} {t' : Nat} {ob : HO} (I : Inv X pins σ H s) (mu : Mut (H a)) (hs : Heap.SameBut a s.heap h') (he : ∃ q, h'.get? a = some q) (new : ObjOk X.prog X.w (upd H a ob) h' a ob) :
    Inv X pins σ (upd H a ob) { s with heap := h', toks := t' } :=
  I.write (x := a) (e := a) mu (.inl rfl) (fun b q hb z => (hs.2 b hb).trans z) he new
theorem dk_new {P : Program} {w : World} {H' : Hp} {h' : Heap} {kvs : List (Key × V)} {vs : List (Key × Value)} (z : kvs.length ≤ sizeLine) (hd : (a == sysModules) = false) (rel : KV kvs vs) (dd : h'.DictOf (mixKind P w) a vs) :
    ObjOk P w H' h' a (.dK kvs) := ⟨z, hd, vs, rel, dd⟩
theorem d_setItem {H' : Hp} {Q : Unit → Shared → Prop} (hu : A.units + 1 < cLine) (I : Inv X pins σ H s) (g : DPut H a y v H') (ry : RelV y u) (rv : RelV v r) (h : ∀ s', Inv X pins σ H' s' → Q () s') :
    wpAny (model X.prog X.w) A (setItem (.ref a) u r) Q E s := by
  rcases g with ⟨kvs, k, e, ey, l, eH⟩ | ⟨kvs, k, b, e, ey, eb, l, eH⟩
  · subst ey eH
    obtain ⟨z, hd, vs, rel, dd⟩ := dk_of I.hok e
    have hz : vs.length ≤ sizeLine := by rw [← rel.length]; exact z
    have hl : (putK kvs k v).length ≤ sizeLine := by have := length_putK kvs k v; omega
    refine wpAny_setItem_pairs (hsz := hz) (kV_is ry) dd fun h' dd' hs => h _ ?_
    have he : ∃ q, h'.get? a = some q := let ⟨q, _, _, hq, _⟩ := dd'; ⟨q, hq⟩
    exact d_write I (by rw [e]; exact True.intro) hs he (dk_new hl hd (rel.put k rv) dd')
  · subst ey eH
    cases (show u = Value.ref b from ry)
    obtain ⟨z, hd, xs, rel, dd⟩ := dt_of I.hok e
    have hz : xs.length ≤ sizeLine := by rw [← Paired.length rel]; exact z
    have hl : (putK kvs k v).length ≤ sizeLine := by have := length_putK kvs k v; omega
    refine wpAny_setItem_heap (hsz := hz) (tupleKind_room_in1 hu) (key_of I.hok eb) dd fun h' dd' hs => h _ ?_
    obtain ⟨q, es, ep, hq, h2, h3, h4, _, h5⟩ := dd'
    refine d_write I (by rw [e]; exact True.intro) hs ⟨q, hq⟩ ⟨hl, hd, _, (rel.put k eb rv).keeps fun c ys ec => ?_, q, es, ep, hq, h2, h3, h4, h5⟩
    rw [upd_ne (ne_of ec e (fun z => nomatch z))]
    exact ec
end
section
variable {X : Cx} {pins : List (Addr × Obj)} {σ : St} {H : Hp} {s : Shared} {a : Addr} {kvs : List (Key × V)} {k : Key} {u : Value} {A : Around} {E : Value → Shared → Prop}
end
def tDIn (ty td : TE) : TE := fun σ H Q => ty σ H fun y H1 => td σ H1 fun x H2 => ∃ a o, x = .ref a ∧ DGet H2 a y o ∧ Q (.bl o.isSome) H2
def tDNotIn (ty td : TE) : TE := fun σ H Q => ty σ H fun y H1 => td σ H1 fun x H2 => ∃ a o, x = .ref a ∧ DGet H2 a y o ∧ Q (.bl (!o.isSome)) H2
def sDPut (td ty tv : TE) : TS := fun D σ H => tv σ H fun v H1 => td σ H1 fun x H2 => ty σ H2 fun y H3 => ∃ a H4, x = .ref a ∧ DPut H3 a y v H4 ∧ D.nx σ H4
section
variable {X : Cx} {o i e value : Expr} {pos pos' tpos : Pos} {td ty tv : TE}
theorem pc_dnotin (hu : X.A.units + 1 < cLine) (hi : PE X i ty) (ho : PE X o td) : PC X .NotIn i o (tDNotIn ty td) := by
  intro pins s σ H Q I h
  refine thn (hi pins s σ H _ I h) fun iv s1 ⟨y, H1, I1, ry, q1⟩ => thn (ho pins s1 σ H1 _ I1 q1) fun u s2 ⟨x, H2, I2, rx, a, ov, ex, g, q2⟩ => ?_
  subst ex
  obtain rfl : u = Value.ref a := rx
  exact d_notIn hu I2 g ry fun s3 I3 => ⟨.bl (!ov.isSome), H2, I3, rfl, q2⟩
theorem ps_dput (hu : X.A.units + 1 < cLine) (ho : PE X o td) (hi : PE X i ty) (hv : PE X value tv) (hs : swapsWith value (some (.Subscript o i pos')) pos.line X.env = pure false) :
    PS X (.Assign [.Subscript o i pos'] value pos) (sDPut td ty tv) := by
  intro pins s σ H D I h
  refine wpAny_Assign_Subscript (thn (hv pins s σ H _ I h) fun r s1 ⟨v, H1, I1, rv, q1⟩ => thn (ho pins s1 σ H1 _ I1 q1) fun u s2 ⟨x, H2, I2, rx, q2⟩ => thn (hi pins s2 σ H2 _ I2 q2) fun iv s3 ⟨y, H3, I3, ry, a, H4, ex, g, q3⟩ => ?_) hs
  subst ex
  obtain rfl : u = Value.ref a := rx
  exact d_setItem hu I3 g ry rv fun s4 I4 => ⟨σ, H4, I4, q3⟩
end
theorem dk_empty {P : Program} {w : World} {H : Hp} (h : Heap) (hb : sysModules < h.objs.size) : ObjOk P w H (h.push { cls := .type "dict", data := .dict #[] }) h.objs.size (.dK []) :=
  ⟨Nat.zero_le _, beq_eq_false_iff_ne.mpr (Ne.symm (Nat.ne_of_lt hb)), [], .nil, Heap.DictOf.new h⟩
def tDNewK : TE := fun _ H Q => ∀ p, H p = none → Q (.ref p) (upd H p (.dK []))
section
variable {X : Cx} {pos : Pos}
theorem pe_dnewK : PE X (.Dict [] [] pos) tDNewK := fun pins s σ H Q I h =>
  wpAny_Dict_empty ⟨.ref s.heap.objs.size, _, I.laid (a := s.heap.objs.size) (o := .dK []) (t' := s.toks) (fun _ _ q => Heap.get?_push_of_some _ q) (Nat.le_refl _) (dk_empty s.heap I.big), rfl, h _ (I.hok.fresh (Nat.le_refl _))⟩
end
section
variable {X : Cx} {pins : List (Addr × Obj)} {σ : St} {H : Hp} {s : Shared} {a : Addr} {y d : V} {u r : Value} {o : Option V} {A : Around} {E : Value → Shared → Prop}
end
section
variable {X : Cx} {o e f : Expr} {apos cpos : Pos} {td ty tx : TE}
end
section
variable {X : Cx} {pins : List (Addr × Obj)} {σ : St} {H : Hp} {s : Shared} {a : Addr} {kvs : List (Key × V)} {A : Around} {E : Value → Shared → Prop}
end
section
variable {X : Cx} {pins : List (Addr × Obj)} {σ : St} {H : Hp} {s : Shared} {a : Addr} {y : V} {u : Value} {A : Around} {E : Value → Shared → Prop}
end
end L2
namespace L2
open PySem PySem.Spec PyProof.Rows
section
variable {X : Cx}
end
section
variable {κ : Type} [DecidableEq κ]
end
end L2
set_option Elab.async false
set_option linter.all false
set_option maxRecDepth 100000
set_option maxHeartbeats 4000000
namespace L2
open PySem PySem.Spec PyProof.Rows
theorem fold_in {α β : Type} {l : List α} {f : α → β → Sem (ForInStep β)} {g : β → α → β} (h : ∀ x ∈ l, ∀ c, f x c = pure (.yield (g c x))) : ∀ c, forIn l c f = pure (l.foldl g c) := by
  induction l with
  | nil => intro c; rfl
  | cons x l ih =>
    intro c
    rw [List.forIn_cons, h x List.mem_cons_self, pure_bind]
    exact ih (fun y hy => h y (List.mem_cons_of_mem _ hy)) (g c x)
def clStep (env : Env) (acc : List (Str × Addr)) (x : Str × NameKind) : List (Str × Addr) :=
  if x.2 == NameKind.free then (x.1, (env.cells.lookup x.1).getD 0) :: acc else acc
def clOf (env : Env) (names : List (Str × NameKind)) : List (Str × Addr) := names.foldl (clStep env) []
theorem closure_is {scope : Scope} {env : Env} (h : ∀ y ∈ scope.names, y.2 = .free → ∃ c, env.cells.lookup y.1 = some c) : closureFor scope env = pure (clOf env scope.names) := by
  simp only [closureFor]
  rw [fold_in (g := clStep env) (fun x hx c => by
    obtain ⟨n, kind⟩ := x
    by_cases hk : kind = .free
    · obtain ⟨a, e⟩ := h _ hx hk
      subst hk
      have e' : env.cells.lookup n = some a := e
      simp [cellOf, clStep, e']
    · have hb : (kind == NameKind.free) = false := by simpa using hk
      simp [clStep, hb])]
  rfl
theorem clFold_mem {env : Env} : ∀ (names : List (Str × NameKind)) (acc : List (Str × Addr)) (p : Str × Addr),
    p ∈ names.foldl (clStep env) acc → p ∈ acc ∨ ((p.1, NameKind.free) ∈ names ∧ p.2 = (env.cells.lookup p.1).getD 0)
  | [], _, _, h => .inl h
  | (n, k) :: r, acc, p, h => by
    rw [List.foldl_cons] at h
    rcases clFold_mem r _ p h with q | ⟨q, e⟩
    · unfold clStep at q
      by_cases hk : (k == NameKind.free) = true
      · rw [if_pos hk] at q
        rcases List.mem_cons.mp q with z | z
        · subst z
          have hk' : k = NameKind.free := by simpa using hk
          subst hk'
          exact .inr ⟨List.mem_cons_self, rfl⟩
        · exact .inl z
      · rw [if_neg hk] at q
        exact .inl q
    · exact .inr ⟨List.mem_cons_of_mem _ q, e⟩
theorem clFold_keep {env : Env} : ∀ (names : List (Str × NameKind)) (acc : List (Str × Addr)) (p : Str × Addr), p ∈ acc → p ∈ names.foldl (clStep env) acc
  | [], _, _, h => h
  | x :: r, acc, p, h => by
    rw [List.foldl_cons]
    refine clFold_keep r _ p ?_
    unfold clStep
    split
    · exact List.mem_cons_of_mem _ h
    · exact h
theorem clFold_has {env : Env} {n : Str} : ∀ (names : List (Str × NameKind)) (acc : List (Str × Addr)), (n, NameKind.free) ∈ names → ∃ c, (n, c) ∈ names.foldl (clStep env) acc
  | (m, k) :: r, acc, h => by
    rw [List.foldl_cons]
    rcases List.mem_cons.mp h with e | e
    · cases e
      exact ⟨(env.cells.lookup n).getD 0, clFold_keep r _ _ (by unfold clStep; rw [if_pos (show (((n, NameKind.free) : Str × NameKind).2 == NameKind.free) = true from rfl)]; exact List.mem_cons_self)⟩
    · exact clFold_has r _ e
theorem lookup_of_has {α : Type} : ∀ {l : List (Str × α)} {n : Str} {c : α}, (n, c) ∈ l → ∃ c', l.lookup n = some c'
  | (m, d) :: r, n, c, h => by
    rw [List.lookup_cons]
    cases hb : n == m with
    | true => exact ⟨d, rfl⟩
    | false =>
      rcases List.mem_cons.mp h with e | e
      · cases e
        simp at hb
      · exact lookup_of_has e
theorem clOf_has {env : Env} {names : List (Str × NameKind)} {n : Str} (h : (n, NameKind.free) ∈ names) : ∃ c, (clOf env names).lookup n = some c :=
  let ⟨_, e⟩ := clFold_has (env := env) names [] h
  lookup_of_has e
theorem clOf_look {env : Env} {names : List (Str × NameKind)} {n : Str} {c : Addr} (h : ∀ y ∈ names, y.2 = .free → ∃ c, env.cells.lookup y.1 = some c) (e : (clOf env names).lookup n = some c) : env.cells.lookup n = some c := by
  rcases clFold_mem names [] (n, c) (PySem.mem_of_lookup e) with q | ⟨q, z⟩
  · simp at q
  · obtain ⟨a, ea⟩ := h _ q rfl
    have z' : c = (env.cells.lookup n).getD 0 := z
    have ea' : env.cells.lookup n = some a := ea
    rw [ea'] at z'
    rw [ea', z']
    rfl
theorem relab_look {env : Env} : ∀ {names : List (Str × NameKind)} {x : Str} {k : NameKind},
    (names.map fun (n, k) => if (k == NameKind.free && env.scope.kind == .function && env.kindOf n == some .cell) then (n, NameKind.cell) else (n, k)).lookup x = some k →
    names.lookup x = some k ∨ (names.lookup x = some .free ∧ k = .cell)
  | [], _, _, h => by simp at h
  | (n, k0) :: r, x, k, h => by
    rw [List.map_cons] at h
    cases hx : x == n with
    | true =>
      rcases Bool.eq_false_or_eq_true (k0 == NameKind.free && env.scope.kind == .function && env.kindOf n == some .cell) with hc | hc
      · simp only [hc, if_true, List.lookup_cons, hx] at h
        have hk : k0 = .free := by
          simp only [Bool.and_eq_true, beq_iff_eq] at hc
          exact hc.1.1
        refine .inr ⟨?_, ?_⟩
        · simp only [List.lookup_cons, hx, hk]
        · exact (Option.some.inj h).symm
      · simp only [hc, Bool.false_eq_true, if_false, List.lookup_cons, hx] at h
        refine .inl ?_
        simp only [List.lookup_cons, hx]
        exact h
    | false =>
      have h' : (r.map fun (n, k) => if (k == NameKind.free && env.scope.kind == .function && env.kindOf n == some .cell) then (n, NameKind.cell) else (n, k)).lookup x = some k := by
        rcases Bool.eq_false_or_eq_true (k0 == NameKind.free && env.scope.kind == .function && env.kindOf n == some .cell) with hc | hc
        · simp only [hc, if_true, List.lookup_cons, hx] at h
          exact h
        · simp only [hc, Bool.false_eq_true, if_false, List.lookup_cons, hx] at h
          exact h
      simp only [List.lookup_cons, hx]
      exact relab_look h'
theorem relab_free {env : Env} : ∀ {names : List (Str × NameKind)} {x : Str}, names.lookup x = some .free →
    (names.map fun (n, k) => if (k == NameKind.free && env.scope.kind == .function && env.kindOf n == some .cell) then (n, NameKind.cell) else (n, k)).lookup x = some .cell ∨
    (names.map fun (n, k) => if (k == NameKind.free && env.scope.kind == .function && env.kindOf n == some .cell) then (n, NameKind.cell) else (n, k)).lookup x = some .free
  | [], _, h => by simp at h
  | (n, k0) :: r, x, h => by
    rw [List.map_cons]
    cases hx : x == n with
    | true =>
      simp only [List.lookup_cons, hx] at h
      rcases Bool.eq_false_or_eq_true (k0 == NameKind.free && env.scope.kind == .function && env.kindOf n == some .cell) with hc | hc
      · refine .inl ?_
        simp only [hc, if_true, List.lookup_cons, hx]
      · refine .inr ?_
        simp only [hc, Bool.false_eq_true, if_false, List.lookup_cons, hx]
        exact h
    | false =>
      simp only [List.lookup_cons, hx] at h
      have ih := relab_free (env := env) h
      rcases Bool.eq_false_or_eq_true (k0 == NameKind.free && env.scope.kind == .function && env.kindOf n == some .cell) with hc | hc
      · simp only [hc, if_true, List.lookup_cons, hx]
        exact ih
      · simp only [hc, Bool.false_eq_true, if_false, List.lookup_cons, hx]
        exact ih
def blkSt (js : List (Option Nat)) (σ : St) : St := js.map fun j => match j with
  | some j => (σ[j]?).join
  | none => none
structure BlkOk (X : Cx) (scope : Scope) (ns : List Str) (js : List (Option Nat)) : Prop where
  kind : scope.kind = .function
  nocell : ∀ y ∈ scope.names, y.2 ≠ .cell
  names : ∀ y ∈ scope.names, y.2 = .local → scope.names.lookup y.1 = some .local
  free : ∀ y ∈ scope.names, y.2 = .free → X.env.kindOf y.1 = some .cell ∨ X.env.kindOf y.1 = some .free
  nd : ns.Nodup
  len : js.length = ns.length
  out : ∀ (i : Nat) (x : Str) (j : Nat), ns[i]? = some x → js[i]? = some (some j) → X.N[j]? = some x ∧ scope.names.lookup x = some .free
def blkChk (N : List Str) (sc scope : Scope) (ns : List Str) (js : List (Option Nat)) : Bool :=
  decide (scope.kind = .function) && scope.names.all (fun y => decide (y.2 ≠ .cell)) && scope.names.all (fun y => decide (y.2 = .local → scope.names.lookup y.1 = some .local)) &&
  scope.names.all (fun y => decide (y.2 = .free → sc.names.lookup y.1 = some .cell ∨ sc.names.lookup y.1 = some .free)) && decide ns.Nodup && decide (js.length = ns.length) &&
  (List.range ns.length).all (fun i => match js[i]?, ns[i]? with
    | some (some j), some x => decide (N[j]? = some x) && decide (scope.names.lookup x = some .free)
    | _, _ => true)
theorem BlkOk.of {X : Cx} {scope : Scope} {ns : List Str} {js : List (Option Nat)} {N0 : List Str} {sc0 : Scope} (hN : X.N = N0) (hS : X.env.scope = sc0) (h : blkChk N0 sc0 scope ns js = true) : BlkOk X scope ns js := by
  unfold blkChk at h
  simp only [Bool.and_eq_true, List.all_eq_true, decide_eq_true_eq, List.mem_range] at h
  obtain ⟨⟨⟨⟨⟨⟨h1, h2⟩, h3⟩, h4⟩, h5⟩, h6⟩, h7⟩ := h
  refine ⟨h1, fun y hy => h2 y hy, fun y hy => h3 y hy, fun y hy hk => ?_, h5, h6, fun i x j e1 e2 => ?_⟩
  · have q := h4 y hy hk
    rw [← hS] at q
    exact q
  · have hi : i < ns.length := (List.getElem?_eq_some_iff.mp e1).1
    have q := h7 i hi
    rw [e1, e2] at q
    simp only [Bool.and_eq_true, decide_eq_true_eq] at q
    rw [hN]
    exact q
end L2
set_option Elab.async false
set_option linter.all false
set_option maxRecDepth 100000
set_option maxHeartbeats 4000000
namespace L2
open PySem PySem.Spec PyProof.Rows
def PTs (X : Cx) (ifs : List Expr) (tt : TT) : Prop :=
  ∀ (pins : List (Addr × Obj)) (s : Shared) (σ : St) (H : Hp) (Q : Bool → Hp → Prop), Inv X pins σ H s → tt σ H Q →
    wpAny (model X.prog X.w) X.A (forIn ifs true fun c r => if r = true then do let ok ← isTrue c X.env (eval c X.env); pure (ForInStep.yield ok) else pure (ForInStep.yield r)) (TP X pins σ Q) X.xe s
def tYes : TT := fun _ H Q => Q true H
theorem pts_nil {X : Cx} : PTs X [] tYes := fun _ _ _ H _ I h => wpAny_tests_nil ⟨H, I, h⟩
theorem pts_one {X : Cx} {c : Expr} {tc : TT} (hc : PT X c tc) : PTs X [c] tc := fun pins s σ H Q I h => wpAny_tests_one (hc pins s σ H Q I h)
def lcBody (g : TG) (tt : TT) (te : TE) (D : Addr) (x : V) (τ : St) (H : Hp) (N : St → Hp → Prop) : Prop :=
  g x τ H fun τ4 H4 => tt τ4 H4 fun b H5 => if b = true then te τ4 H5 fun v H6 => ∃ xs, H6 D = some (.lst xs) ∧ xs.length < sizeLine ∧ N τ4 (upd H6 D (.lst (xs ++ [v]))) else N τ4 H5
def lcRun (J : It) (g : TG) (tt : TT) (te : TE) (σ0 : St) (H1 : Hp) (D : Addr) (Q : VK) : Prop :=
  ∃ W : Nat → Nat → St → Hp → Prop, (∃ m, W 0 m σ0 (upd H1 D (.lst []))) ∧
    ∀ i m τ H2, W i m τ H2 → (J.stop i H2 ∧ Q (.ref D) H2) ∨ (J.go i H2 ∧ ∃ N : St → Hp → Prop, (∀ τ' H', N τ' H' → ∃ m', m' < m ∧ W (i + 1) m' τ' H') ∧ ∀ x H3, J.yld i H2 x H3 → lcBody g tt te D x τ H3 N)
def tLC (wi : TI) (g : TG) (tt : TT) (te : TE) (js : List (Option Nat)) : TE := fun σ H Q =>
  wi σ H fun J H1 => ∀ D, H1 D = none → lcRun J g tt te (blkSt js σ) H1 D Q
theorem thF {α : Type} {t : Sem α} {Q Q' : α → Shared → Prop} {M : Model} {A : Around} {E : Value → Shared → Prop} {s : Shared} (h : wpAny M A t Q (fun _ _ => False) s) (hQ : ∀ a s, Q a s → Q' a s) : wpAny M A t Q' E s :=
  wpAny_mono h hQ fun _ _ x => x.elim
section
variable {X : Cx} {elt tg iter : Expr} {ifs : List Expr} {scope : Scope} {pos : Pos} {ns : List Str} {js : List (Option Nat)} {wi : TI} {g : TG} {tt : TT} {te : TE}
end
end L2
set_option Elab.async false
set_option linter.all false
set_option maxRecDepth 100000
set_option maxHeartbeats 4000000
namespace L2
open PySem PySem.Spec PyProof.Rows
section
variable {X : Cx}
theorem all_places : ∀ (bs : List Bool), (List.range bs.length).all (fun i => bs.getD i true) = bs.all id := fun bs => by
  rw [Bool.eq_iff_iff, List.all_eq_true, List.all_eq_true]
  constructor
  · intro h b hb
    obtain ⟨i, hi, e⟩ := List.mem_iff_getElem.mp hb
    have q := h i (List.mem_range.mpr hi)
    rw [List.getD_eq_getElem?_getD, List.getElem?_eq_getElem hi, e] at q
    exact q
  · intro h i hi
    have hi' := List.mem_range.mp hi
    rw [List.getD_eq_getElem?_getD, List.getElem?_eq_getElem hi']
    exact h _ (List.getElem_mem hi')
theorem call_all (hc : X.calm = true) : CallR X (.builtin "all") (fun xs H Q => ∃ (p : Addr) (bs : List Bool), xs = [.ref p] ∧ SqL X.K H p (bs.map V.bl) ∧ Q (.bl (bs.all id)) H) := by
  intro pins s σ H xs us Q I r h
  obtain ⟨p, bs, rfl, hp, q⟩ := h
  obtain ⟨u, rfl, ru⟩ := vals1 r
  cases ru
  obtain ⟨its, rv, pl, hz⟩ := I.list hp
  have hl : its.length = bs.length := by rw [← rv.length, List.length_map]
  have hlt : p < s.heap.objs.size := by
    obtain ⟨o, n, e, _⟩ := id pl
    exact Heap.lt_size e
  refine call_all_walk (wpAny_pyIter_list pl.isList ?_)
  refine ⟨s.heap.objs.size, [s.heap.objs.size, p], [s.heap.objs.size], its.toArray.size, fun i v => its.toArray[i]? = some v, _, fun i => bs.getD i true, rfl, Walks.list (A := X.A.in1) (show X.A.in1.handled = none from I.ok.hd hc) s.heap.objs.size p (Nat.ne_of_lt hlt) its.toArray, ?_, ?_, ?_⟩
  · exact ⟨⟨_, Heap.get?_push_size _ rfl, rfl, rfl⟩, pl.isList.push _⟩
  · intro i v s' Q' E' hv hq
    have hv' : its[i]? = some v := by simpa using hv
    have hi : i < bs.length := by
      rw [← hl]
      exact (List.getElem?_eq_some_iff.mp hv').1
    obtain ⟨u, hu, ru⟩ := rv.get (i := i) (x := V.bl bs[i]) (by rw [List.getElem?_map, List.getElem?_eq_getElem hi]; rfl)
    rw [hu] at hv'
    cases hv'
    cases ru
    have e : bs.getD i true = bs[i] := by rw [List.getD_eq_getElem?_getD, List.getElem?_eq_getElem hi]; rfl
    have hq' : Q' (bs.getD i true) s' := hq
    rw [e] at hq'
    exact wpAny_truthy_bool hq'
  · intro h' tk hk
    have e : (List.range its.toArray.size).all (fun i => bs.getD i true) = bs.all id := by
      rw [← all_places bs, List.size_toArray, hl]
    rw [e]
    refine ⟨.bl (bs.all id), H, I.kept (t' := tk) fun b o z => hk b o ?_ (Heap.get?_push_of_some _ z), rfl, q⟩
    intro z'
    have z'' : b = s.heap.objs.size := by simpa using z'
    exact Nat.ne_of_lt (Heap.lt_size z) z''
theorem call_isi : CallR X (.builtin "isinstance") (fun xs H Q => ∃ x t n b, xs = [x, .ty n] ∧ TyOf X.K H x t ∧ PySem.W.kitOne X.K t (.type n) = some b ∧ Q (.bl b) H) := by
  intro pins s σ H xs us Q I r h
  obtain ⟨x, t, n, b, rfl, ty, e, q⟩ := h
  obtain ⟨u, w', rfl, r1, r2⟩ := vals2 r
  cases r2
  exact isinst_ok I r1 ty e fun tk => ⟨.bl b, H, I.tok _, rfl, q⟩
end
section
open PySem.SeqAt
variable {X : Cx} {pins : List (Addr × Obj)} {σ : St} {H : Hp} {s : Shared}
end
section
variable {X : Cx}
theorem Inv.turnedLaid {pins : List (Addr × Obj)} {σ : St} {H : Hp} {s : Shared} {h' : Heap} {t' : Nat} {fp : List Addr} {p : Addr} {o : HO} (I : Inv X pins σ H s) (f : ∀ b ∈ fp, FpOk X pins H b) (hp : s.heap.objs.size ≤ p)
    (k : ∀ b ob, b ∉ fp → s.heap.get? b = some ob → h'.get? b = some ob) (th : ∀ b ∈ fp, ∃ ob, h'.get? b = some ob) (new : ObjOk X.prog X.w (upd H p o) h' p o) : Inv X pins σ (upd H p o) { s with heap := h', toks := t' } := by
  have hn : H p = none := I.hok.fresh hp
  have ne : ∀ b ob, s.heap.get? b = some ob → b ≠ p := fun b ob e => Nat.ne_of_lt (Nat.lt_of_lt_of_le (Heap.lt_size e) hp)
  have nf : ∀ b u, H b = some u → b ∉ fp := fun b u e z => by rw [(f b z).1] at e; cases e
  refine I.step (g' := s.gens) (d' := s.drawn) (ch := fp) (fun b hb => ⟨(f b hb).2.2.2.1, (f b hb).2.1, (f b hb).2.2.2.2.1, (f b hb).2.2.2.2.2⟩) (fun b ob _ _ hc e _ => k b ob hc e) (fun b ob _ _ hc e _ => ⟨ob.slots, k b ob hc e⟩)
    (fun b ob _ e n => by rw [upd_ne (ne b ob e)]; exact n) (fun b ob hc e => ⟨ob, k b ob hc e⟩) (fun b xs e => by rw [upd_ne (ne_of_none e hn)]; exact e) (fun b ob u e => by rw [upd_ne (ne_of_none e hn)]; exact e)
    (fun b ps e => ⟨#[], by rw [upd_ne (ne_of_none e hn), e]; simp⟩) (fun m hm => ?_) (fun b u e => ?_) I.bare
  · obtain ⟨ob, es, ep, ho, r⟩ := hm
    exact ⟨ob, es, ep, k _ ob (fun z => (f _ z).2.1 rfl) ho, r⟩
  · by_cases hb : b = p
    · subst hb
      rw [upd_same] at e
      cases e
      exact new
    · rw [upd_ne hb] at e
      refine (I.hok b u e).stay (fun c v hc q => k c v ?_ q) (fun c q => by rw [upd_ne (ne_of_none q hn)]; exact q) fun c xs q => by rw [upd_ne (ne_of_none q hn)]; exact q
      rcases hc with z | z
      · rw [z]; exact nf b u e
      · exact nf c _ z
def Ite (K : PySem.W.Frag) (a : Addr) : It :=
  ⟨fun i H => ∃ xs x, SqL K H a xs ∧ xs[i]? = some x,
   fun i H y H' => ∃ p x, y = .ref p ∧ H p = none ∧ H' = upd H p (.tup [.int i, x]) ∧ ∀ xs, SqL K H a xs → xs[i]? = some x,
   fun i H => ∃ xs, SqL K H a xs ∧ xs.length ≤ i⟩
theorem turn_enum {P : Program} {w : World} {K : PySem.W.Frag} {elts : List Expr} {k : Nat} {tp : Pos} (a e it : Addr) (hei : e ≠ it) :
    Turn P w K (.Tuple elts k tp) (Ite K a) [e, it] e (fun i h => (∃ old, IsEnum h e it i old) ∧ h.IsListIter it a i) where
  mem := by simp
  obj := fun i h st b hb => by
    obtain ⟨⟨old, he⟩, o, ho, hc, hd⟩ := st
    have hb' : b = e ∨ b = it := by simpa using hb
    rcases hb' with rfl | rfl
    · exact ⟨_, he, fun v z => by
        have z' : Data.fields _ = Data.cell v := z
        cases z'⟩
    · exact ⟨o, ho, fun v z => by rw [hd] at z; cases z⟩
  keep := fun i h h' st kp => ⟨let ⟨old, he⟩ := st.1; ⟨old, kp e (by simp) _ he⟩, st.2.at fun o q => kp it (by simp) o q⟩
  item := by
    intro X hP hw hK hc i pins s σ H E I hf st hg
    subst hP hw hK
    obtain ⟨xs, x, hq, hx⟩ := hg
    obtain ⟨its, rv, p, hz⟩ := I.list hq
    obtain ⟨u, hu, ru⟩ := rv.get hx
    obtain ⟨⟨old, he⟩, hit⟩ := st
    refine wpAny_pyNext_enum_item he hit p.isList (x := u) (by simpa using hu) hei fun h1 ho1 hit1 ht1 hz1 hk1 => ?_
    refine ⟨_, rfl, wpAny_letOwnedTupleGo_enum ho1 fun h2 he2 hs2 => ?_⟩
    have eL : e < s.heap.objs.size := Heap.lt_size he
    have ht2 : h2.get? s.heap.objs.size = some { cls := .type "tuple", data := .seq #[.int i s.toks, u] } := (hs2.2 _ (Nat.ne_of_gt eL)).trans ht1
    have hit2 : h2.IsListIter it a (i + 1) := hit1.extBut hs2.extBut hei.symm
    have I2 : Inv X pins σ (upd H s.heap.objs.size (.tup [.int i, x])) { s with heap := h2, toks := s.toks + 1 } := by
      refine I.turnedLaid (fp := [e, it]) hf (Nat.le_refl _) (fun b ob hb q => ?_) (fun b hb => ?_) ?_
      · have h1 : b ≠ e := fun z => hb (by simp [z])
        have h2' : b ≠ it := fun z => hb (by simp [z])
        exact (hs2.2 b h1).trans (hk1 b ob h1 h2' q)
      · have hb' : b = e ∨ b = it := by simpa using hb
        rcases hb' with rfl | rfl
        · exact ⟨_, he2⟩
        · obtain ⟨o, ho, _⟩ := hit2
          exact ⟨o, ho⟩
      · refine ⟨(by show 2 ≤ sizeLine; decide), [.int i s.toks, u], .cons ⟨_, rfl⟩ (.cons ru .nil), ?_⟩
        exact ⟨_, ht2, rfl, _, rfl⟩
    have fr : ∀ b ∈ [e, it], upd H s.heap.objs.size (.tup [.int i, x]) b = none := fun b hb => by
      have hlt : b < s.heap.objs.size := by
        have hb' : b = e ∨ b = it := by simpa using hb
        rcases hb' with rfl | rfl
        · exact eL
        · obtain ⟨o, ho, _⟩ := hit
          exact Heap.lt_size ho
      rw [upd_ne (Nat.ne_of_lt hlt)]
      exact (hf b hb).1
    exact ⟨.ref s.heap.objs.size, _, I2, rfl, ⟨_, x, rfl, I.fresh, rfl, fun ys hy => by rw [I.list_inj hy hq]; exact hx⟩, ⟨⟨_, he2⟩, hit2⟩, fr⟩
  done := by
    intro X hP hw hK hc i pins s σ H E I hf st hg
    subst hP hw hK
    obtain ⟨xs, hq, hx⟩ := hg
    obtain ⟨its, rv, p, hz⟩ := I.list hq
    obtain ⟨⟨old, he⟩, hit⟩ := st
    obtain ⟨f0, f1, f2, f3, f4, f5⟩ := hf it (by simp)
    have hl := rv.length
    exact wpAny_pyNext_enum_end (I.ok.hd hc) he hit p.isList (by simp; omega) fun h' eb => ⟨rfl, I.turned (t' := s.toks) (fun b o hb q => eb b o hb q) f0 f1 f3 f4 f5⟩
  self := fun _ _ _ _ _ st h => let ⟨⟨_, he⟩, _⟩ := st; wpAny_pyIter_enum he h
end
end L2
set_option Elab.async false
set_option linter.all false
set_option maxRecDepth 100000
set_option maxHeartbeats 4000000
namespace L2
open PySem PySem.Spec PyProof.Rows
def Kn (P : Program) (w : World) (K : PySem.W.Frag) (mg : Str → Option Value) (base : Heap) (k : Nat) (x : Str) (ps : List Str) (sp : Sp) : Prop :=
  ∃ f fd, FnOk P w K mg base CX0 k f fd ps sp ∧ mg x = some (.ref f) ∧ PySem.W.keepIn K (.ref f) = true ∧ Binds K fd ps []
theorem Kn.mono {P : Program} {w : World} {K : PySem.W.Frag} {mg : Str → Option Value} {base : Heap} {j k : Nat} {x : Str} {ps : List Str} {sp : Sp} (G : Kn P w K mg base j x ps sp) (h : j ≤ k) : Kn P w K mg base k x ps sp :=
  let ⟨f, fd, a, b, c, d⟩ := G
  ⟨f, fd, a.mono h, b, c, d⟩
section
variable {X : Cx} {k : Nat} {x : Str} {ps : List Str} {sp : Sp} {p pos : Pos} {e : Expr} {es : List Expr} {t : TA}
theorem pe_fn (G : Kn X.prog X.w X.K X.mg X.base k x ps sp) (hr : Room k X.A) (hg : Gl X x) (ha : PA X (e :: es) t) (hdb : (x == ("__debug__" : Str)) = false := by decide)
    (he : starEach (e :: es) X.env = (false, eval e X.env) :: starEach es X.env := by rfl) (hpl : (backTo pos (starEach es X.env)).any (·.1) = false := by rfl) :
    PE X (.Call (.Name x p) (e :: es) [] pos) (tCall sp [] E0 t) := by
  obtain ⟨f, fd, F, hm, hk, hb⟩ := G
  exact pe_call F hr hg hm hk hb .nil pass0 ha hdb he hpl
theorem pe_fn0 (G : Kn X.prog X.w X.K X.mg X.base k x ps sp) (hr : Room k X.A) (hg : Gl X x) (hdb : (x == ("__debug__" : Str)) = false := by decide) :
    PE X (.Call (.Name x p) [] [] pos) (tCall sp [] E0 tNil) := by
  obtain ⟨f, fd, F, hm, hk, hb⟩ := G
  exact pe_call0 F hr hg hm hk hb .nil pass0 hdb
end
def rLen (K : PySem.W.Frag) : List V → Hp → VK → Prop := fun xs H Q => ∃ x n, xs = [x] ∧ LenV K x H n ∧ Q (.int n) H
def rListOf (K : PySem.W.Frag) : List V → Hp → VK → Prop := fun xs H Q => ∃ p ys, xs = [.ref p] ∧ (SqL K H p ys ∨ SqT K H p ys) ∧ ∀ l, H l = none → Q (.ref l) (upd H l (.lst ys))
def rTupOf (K : PySem.W.Frag) : List V → Hp → VK → Prop := fun xs H Q => ∃ p ys, xs = [.ref p] ∧ ((SqL K H p ys ∧ ∀ l, H l = none → Q (.ref l) (upd H l (.tup ys))) ∨ (SqT K H p ys ∧ Q (.ref p) H))
def rAll (K : PySem.W.Frag) : List V → Hp → VK → Prop := fun xs H Q => ∃ (p : Addr) (bs : List Bool), xs = [.ref p] ∧ SqL K H p (bs.map V.bl) ∧ Q (.bl (bs.all id)) H
section
variable {X : Cx} {K : PySem.W.Frag}
theorem kLen (hK : X.K = K) : CallR X (.builtin "len") (rLen K) := by subst hK; exact call_len
theorem kListOf (hK : X.K = K) : CallR X (.type "list") (rListOf K) := by subst hK; exact call_list_of
theorem kTupOf (hK : X.K = K) : CallR X (.type "tuple") (rTupOf K) := by subst hK; exact call_tuple_of
theorem kAll (hK : X.K = K) (hc : X.calm = true) : CallR X (.builtin "all") (rAll K) := by subst hK; exact call_all hc
theorem kIxL (hK : X.K = K) : IxR X (rIxL K) := by subst hK; exact ix_list
theorem kSlL (hK : X.K = K) : SlR X (rSlL K) := by subst hK; exact sl_list
theorem kIn (hK : X.K = K) : OpR X (compareOp .In) (rIn K false) := by subst hK; exact op_in_seq
variable {tg l : Expr} {tl : TE} {es : List Expr} {t : TGs} {n k : Nat} {pos p p2 cpos apos : Pos}
end
theorem Same.tup {K : PySem.W.Frag} {H H' : Hp} {a : Addr} {xs : List V} (e : Same H H') (h : SqT K H a xs) : SqT K H' a xs := by
  rcases h with (h | ⟨o, h⟩) | h
  · exact .inl (.inl (e _ _ h))
  · exact .inl (.inr ⟨o, e _ _ h⟩)
  · exact .inr h
end L2
set_option Elab.async false
set_option linter.all false
set_option maxRecDepth 100000
set_option maxHeartbeats 4000000
namespace L2
open PySem PySem.Spec PyProof.Rows
def sgn (c : Nat) : V := .str ⟨#[c]⟩
def Its (z : Str) : It := ⟨fun i _ => i < z.cps.size, fun i H x H' => H' = H ∧ ∃ c, z.cps[i]? = some c ∧ x = sgn c, fun i _ => z.cps.size ≤ i⟩
theorem turn_str {P : Program} {w : World} {K : PySem.W.Frag} {tg : Expr} (it : Addr) (z : Str) (t : Tok) (ty : String) (hty : ty = "str_ascii_iterator" ∨ ty = "str_iterator") :
    Turn P w K tg (Its z) [it] it (fun i h => h.IsStrIter it ty z t i) where
  mem := by simp
  obj := fun i h st b hb => by
    have e : b = it := by simpa using hb
    subst e
    obtain ⟨o, e, c, d⟩ := st
    exact ⟨o, e, fun v q => by rw [d] at q; cases q⟩
  keep := fun i h h' st k => let ⟨o, e, r⟩ := st; ⟨o, k it (by simp) o e, r⟩
  item := by
    intro X hP hw hK hc i pins s σ H E I hf st hg
    subst hP hw hK
    obtain ⟨f0, f1, f2, f3, f4, f5⟩ := hf it (by simp)
    have W : Walks X.prog X.w X.A it [it] [it] z.cps.size (SignAt z) (fun i h => h.IsStrIter it ty z t i) := by
      rcases hty with rfl | rfl
      · exact Walks.strAscii (I.ok.hd hc) it z t
      · exact Walks.strWide (I.ok.hd hc) it z t
    refine W.item i s _ _ hg st fun v h' tk hv st' kk => ?_
    obtain ⟨c, u, hcv, rfl⟩ := hv
    have I1 : Inv X pins σ H { s with heap := h', toks := tk } := I.turned (fun b o hb e => kk b o (by simpa using hb) e) f0 f1 f3 f4 f5
    obtain ⟨o, e, ec, ed⟩ := id st'
    refine ⟨_, rfl, go_of (s := { s with heap := h', toks := tk }) (n := ty) e ec ed (by rcases hty with rfl | rfl <;> decide) ⟨sgn c, H, I1, ⟨u, rfl⟩, ⟨rfl, c, hcv, rfl⟩, st', fun b hb => (hf b hb).1⟩⟩
  done := by
    intro X hP hw hK hc i pins s σ H E I hf st hg
    subst hP hw hK
    obtain ⟨f0, f1, f2, f3, f4, f5⟩ := hf it (by simp)
    have hle : z.cps.size ≤ i := hg
    rcases hty with rfl | rfl
    · exact wpAny_pyNext_ascii_end (I.ok.hd hc) st (by simpa using hle) fun h' he => ⟨rfl, I.turned (t' := s.toks) (fun b o hb e => he b o hb e) f0 f1 f3 f4 f5⟩
    · exact wpAny_pyNext_wide_end (I.ok.hd hc) st (by simpa using hle) fun h' he => ⟨rfl, I.turned (t' := s.toks) (fun b o hb e => he b o hb e) f0 f1 f3 f4 f5⟩
  self := fun A i s Q E st h => by
    rcases hty with rfl | rfl
    · exact wpAny_pyIter_striter_ascii st h
    · exact wpAny_pyIter_striter_wide st h
section
variable {X : Cx} {tg : Expr} {K : PySem.W.Frag}
def signsOf (z : Str) : List V := z.cps.toList.map sgn
theorem vals_of_get : ∀ {xs : List V} {us : List Value}, xs.length = us.length → (∀ (i : Nat) x u, xs[i]? = some x → us[i]? = some u → RelV x u) → Vals xs us
  | [], [], _, _ => .nil
  | [], _ :: _, h, _ => by cases h
  | _ :: _, [], h, _ => by cases h
  | x :: xs, u :: us, h, f => .cons (f 0 x u rfl rfl) (vals_of_get (Nat.succ.inj h) fun i y v a b => f (i + 1) y v (by simpa using a) (by simpa using b))
theorem call_list_text (hc : X.calm = true) : CallR X (.type "list") (fun xs H Q => ∃ z, xs = [.str z] ∧ z.cps.size ≤ sizeLine ∧ ∀ l, H l = none → Q (.ref l) (upd H l (.lst (signsOf z)))) := by
  intro pins s σ H xs us Q I r h
  obtain ⟨z, rfl, hz, q⟩ := h
  obtain ⟨u, rfl, t, rfl⟩ := vals1 r
  refine call_list_str (I.ok.hd hc) z t (fun h' tk acc c' hk ho hi => ?_) hz
  have hl : (signsOf z).length = acc.toList.length := by
    unfold signsOf
    rw [List.length_map, Array.length_toList, Array.length_toList, hi.1]
  have rv : Vals (signsOf z) acc.toList := vals_of_get hl fun i x v a b => by
    obtain ⟨c, tk', hcv, rfl⟩ := hi.2 i v (by simpa using b)
    unfold signsOf at a
    rw [List.getElem?_map] at a
    have e : z.cps.toList[i]? = some c := by simpa using hcv
    rw [e] at a
    cases a
    exact ⟨_, rfl⟩
  refine ⟨.ref s.heap.objs.size, _, I.laid (t' := tk) (o := .lst (signsOf z)) hk (Nat.le_refl _) ⟨?_, acc.toList, c', rv, by simpa using ho⟩, rfl, q _ I.fresh⟩
  unfold signsOf
  rw [List.length_map, Array.length_toList]
  exact hz
theorem strsAre_of {ys : List Str} : ∀ {us : List Value}, Vals (ys.map V.str) us → StrsAre us ys := by
  induction ys with
  | nil => intro us r; cases r; exact .nil
  | cons y ys ih =>
    intro us r
    cases r with
    | cons r1 r2 =>
      obtain ⟨t, e⟩ := r1
      subst e
      exact .cons y t (ih r2)
def rJoin (K : PySem.W.Frag) : V → List V → Hp → VK → Prop := fun x xs H Q => ∃ sep ys p, x = .str sep ∧ xs = [.ref p] ∧ (SqL K H p (ys.map V.str) ∨ SqT K H p (ys.map V.str)) ∧ sep.length ≤ 16 ∧ (ys.map (·.length)).sum + ys.length ≤ 1048576 ∧ Q (.str (Txt.join sep ys)) H
theorem mt_join (hK : X.K = K) : MtR X "str.join" (rJoin K) := by
  subst hK
  intro pins s σ H x xs v us Q I rx rs h
  obtain ⟨sep, ys, p, rfl, rfl, hp, hs, hw, q⟩ := h
  obtain ⟨t, rfl⟩ := rx
  obtain ⟨u, rfl, ru⟩ := vals1 rs
  cases ru
  rcases hp with hp | hp
  · obtain ⟨its, rv, pl, _⟩ := I.list hp
    exact join_listW pl.isList (by simpa using strsAre_of rv) hs hw fun t' k => ⟨.str _, H, I.tok k, ⟨_, rfl⟩, q⟩
  · obtain ⟨its, rv, pl, _⟩ := I.tuple hp
    exact join_tupleW pl (by simpa using strsAre_of rv) hs hw fun t' k => ⟨.str _, H, I.tok k, ⟨_, rfl⟩, q⟩
def cutL (xs : List Nat) (lo hi : Option Int) : List Nat := (xs.drop (HT.sIx xs.length 0 lo)).take (HT.sIx xs.length xs.length hi - HT.sIx xs.length 0 lo)
theorem sIx_le (n d : Nat) (v : Option Int) (h : d ≤ n) : HT.sIx n d v ≤ n := by
  cases v with
  | none => exact h
  | some i =>
    unfold HT.sIx
    dsimp only
    split <;> omega
theorem slice_ix (lo hi : Option Int) (n : Nat) : Builtin.Str.strSliceIndices lo hi 1 n = (List.range (HT.sIx n n hi - HT.sIx n 0 lo)).map (HT.sIx n 0 lo + ·) := by
  obtain ⟨h1, h2, h3⟩ := slice_bounds lo hi n
  have e : Builtin.Str.strSliceIndices lo hi 1 n = sliceRange (sliceBounds lo hi none n).1 (sliceBounds lo hi none n).2.1 (sliceBounds lo hi none n).2.2 := by
    cases lo <;> cases hi <;> rfl
  rw [e, h1, h2, h3, sliceRange_one]
theorem slice_text (x : Str) (lo hi : Option Int) : Txt.slice x lo hi = ⟨(cutL x.cps.toList lo hi).toArray⟩ := by
  unfold Txt.slice
  have hl : x.length = x.cps.toList.length := by simp [Str.length]
  rw [slice_ix]
  have e : (((List.range (HT.sIx x.length x.length hi - HT.sIx x.length 0 lo)).map (HT.sIx x.length 0 lo + ·)).filterMap (x.cps[·]?)) = cutL x.cps.toList lo hi := by
    rw [pick_run, hl]
    rfl
  rw [e]
  split
  · rename_i hc
    have hc' : HT.sIx x.length x.length hi - HT.sIx x.length 0 lo = x.length := by simpa using hc
    have h1 := sIx_le x.length x.length hi (Nat.le_refl _)
    have ha : HT.sIx x.length 0 lo = 0 ∨ x.length = 0 := by omega
    have : cutL x.cps.toList lo hi = x.cps.toList := by
      unfold cutL
      rw [← hl, hc']
      rcases ha with z | z
      · rw [z, List.drop_zero, hl, List.take_length]
      · rw [z, List.take_zero]
        rw [hl] at z
        exact (List.eq_nil_of_length_eq_zero z).symm
    rw [this]
  · rfl
def rSlS : V → Option Int → Option Int → Hp → VK → Prop := fun x lo hi H Q => ∃ z, x = .str z ∧ z.length ≤ sizeLine ∧ Q (.str ⟨(cutL z.cps.toList lo hi).toArray⟩) H
theorem sl_str : SlR X rSlS := by
  intro pins s σ H x v vl vu lo hi sl Q I rx hs pl pu h
  obtain ⟨z, rfl, hz, q⟩ := h
  obtain ⟨t, rfl⟩ := rx
  rw [← slice_text] at q
  have go : ∀ (l u : Option (Int × Tok)), s.heap.IsSlice sl l u none → l.map (·.1) = lo → u.map (·.1) = hi → wpAny (model X.prog X.w) X.A (getItem (.str z t) (.ref sl)) (EP X pins σ Q) X.xe s := fun l u hsl e1 e2 => by
    subst e1 e2
    exact wpAny_getItem_str_slice (st := none) hsl rfl (post_val_or_str ⟨Nat.le_trans (Txt.slice_le z _ _) hz, fun t' k => ⟨.str _, H, I.tok k, ⟨_, rfl⟩, q⟩⟩)
  refine ⟨"str", _, F.slot_str_getitem.lookup, typeIs_str _ _ _, ?_⟩
  cases pl with
  | none =>
    cases pu with
    | none => exact go none none hs rfl rfl
    | int j u => exact go none (some (j, u)) hs rfl rfl
  | int i t =>
    cases pu with
    | none => exact go (some (i, t)) none hs rfl rfl
    | int j u => exact go (some (i, t)) (some (j, u)) hs rfl rfl
end
end L2
set_option Elab.async false
set_option linter.all false
set_option maxRecDepth 100000
set_option maxHeartbeats 4000000
namespace L2
open PySem PySem.Spec PyProof.Rows
def hid (l : List Addr) (H : Hp) : Hp := fun b => if b ∈ l then none else H b
section
variable {l l' : List Addr} {H H' : Hp} {a b : Addr} {o : HO}
theorem hid_ne (h : b ∉ l) : hid l H b = H b := if_neg h
theorem hid_in (h : b ∈ l) : hid l H b = none := if_pos h
theorem of_hid (h : hid l H b = some o) : b ∉ l ∧ H b = some o := by
  by_cases e : b ∈ l
  · rw [hid_in e] at h
    cases h
  · rw [hid_ne e] at h
    exact ⟨e, h⟩
theorem hid_upd (h : a ∈ l) : hid l (upd H a o) = hid l H := by
  funext b
  by_cases e : b ∈ l
  · rw [hid_in e, hid_in e]
  · rw [hid_ne e, hid_ne e, upd_ne (fun (z : b = a) => e (by rw [z]; exact h))]
theorem Same.hid (s : Same H H') : Same (hid l H) (L2.hid l H') := fun b o q => by
  obtain ⟨ne, q⟩ := of_hid q
  rw [hid_ne ne]
  exact s b o q
end
section
variable {K : PySem.W.Frag}
end
end L2
set_option Elab.async false
set_option linter.all false
set_option maxRecDepth 100000
set_option maxHeartbeats 4000000
namespace L2
open PySem PySem.Spec PyProof.Rows
section
variable {X : Cx} {tg : Expr} {K : PySem.W.Frag}
def rIndex : V → List V → Hp → VK → Prop := fun x xs H Q => ∃ z y i rest, x = .str z ∧ xs = [.str y] ∧ Builtin.Str.occurrences z y 0 z.length 1 = i :: rest ∧ Q (.int (i : Nat)) H
theorem mt_index : MtR X "str.index" rIndex := by
  intro pins s σ H x xs v us Q I rx rs h
  obtain ⟨z, y, i, rest, rfl, rfl, ho, q⟩ := h
  obtain ⟨t, rfl⟩ := rx
  obtain ⟨u, rfl, ru⟩ := vals1 rs
  obtain ⟨t2, rfl⟩ := ru
  exact SC.index ho ⟨.int i, H, I.tok _, ⟨_, rfl⟩, q⟩
end
section
variable {prog : Program} {w : World} {A : Around} {E : Value → Shared → Prop} {s : Shared}
end
section
variable {X : Cx} {tg : Expr} {K : PySem.W.Frag}
end
end L2
set_option Elab.async false
set_option linter.all false
set_option maxRecDepth 100000
set_option maxHeartbeats 4000000
namespace L2
open PySem PySem.Spec PyProof.Rows
abbrev li (z : Str) : List Nat := z.cps.toList
def mk1 (c : Nat) : Str := ⟨#[c]⟩
def ofL (l : List Nat) : Str := ⟨l.toArray⟩
theorem li_ofL (l : List Nat) : li (ofL l) = l := rfl
theorem ofL_li (z : Str) : ofL (li z) = z := rfl
theorem li_inj {a b : Str} (h : li a = li b) : a = b := by rw [← ofL_li a, ← ofL_li b, h]
theorem mk1_inj {a b : Nat} (h : mk1 a = mk1 b) : a = b := by
  have : li (mk1 a) = li (mk1 b) := by rw [h]
  simpa [li, mk1] using this
theorem li_app (a b : Str) : li (a ++ b) = li a ++ li b := by
  show (a.cps ++ b.cps).toList = _
  rw [Array.toList_append]
def emp : Str := ""
def cat (ks : List Str) : Str := Txt.join emp ks
def allS (ks : List Str) : List Nat := (ks.map li).flatten
theorem cat_li (ks : List Str) : li (cat ks) = allS ks := by
  unfold cat Txt.join allS
  rw [StrLaws.glued_eq_join]
  induction ks with
  | nil => rfl
  | cons x r ih =>
    cases r with
    | nil =>
      show li x = _
      simp
    | cons y r =>
      show li (x ++ emp ++ Str.join emp (y :: r)) = _
      rw [li_app, li_app, ih]
      show li x ++ [] ++ _ = li x ++ ((y :: r).map li).flatten
      rw [List.append_nil]
theorem allS_mk1 (cs : List Nat) : allS (cs.map mk1) = cs := by
  unfold allS
  rw [List.map_map]
  induction cs with
  | nil => rfl
  | cons c r ih =>
    rw [List.map_cons, List.flatten_cons, ih]
    rfl
theorem allS_snoc (ks : List Str) (x : Str) : allS (ks ++ [x]) = allS ks ++ li x := by
  unfold allS
  rw [List.map_append, List.flatten_append]
  simp
theorem allS_len (ks : List Str) : (ks.map (·.length)).sum = (allS ks).length := by
  unfold allS
  rw [List.length_flatten, List.map_map]
  rfl
def Sub (x z : List Nat) : Prop := ∀ c ∈ x, c ∈ z
theorem Sub.app {x y z : List Nat} (a : Sub x z) (b : Sub y z) : Sub (x ++ y) z := fun c h => (List.mem_append.mp h).elim (a c) (b c)
theorem cutL_mem {l : List Nat} {lo hi : Option Int} {c : Nat} (h : c ∈ cutL l lo hi) : c ∈ l := List.mem_of_mem_drop (List.mem_of_mem_take h)
theorem Sub.cut {x z : List Nat} {lo hi : Option Int} (a : Sub x z) : Sub (cutL x lo hi) z := fun c h => a c (cutL_mem h)
theorem Sub.rev {x z : List Nat} (a : Sub x z) : Sub x.reverse z := fun c h => a c (List.mem_reverse.mp h)
theorem Sub.one {c : Nat} {z : List Nat} (h : c ∈ z) : Sub [c] z := fun d e => by
  have : d = c := (by simpa using e)
  rw [this]
  exact h
theorem cutL_len (l : List Nat) (lo hi : Option Int) : (cutL l lo hi).length ≤ l.length := by
  unfold cutL
  rw [List.length_take, List.length_drop]
  omega
theorem erase_map {α β : Type} (f : α → β) : ∀ (ys : List α) (k : Nat), (ys.map f).eraseIdx k = (ys.eraseIdx k).map f
  | [], _ => rfl
  | _ :: _, 0 => rfl
  | y :: ys, k + 1 => by
    show f y :: (ys.map f).eraseIdx k = f y :: (ys.eraseIdx k).map f
    rw [erase_map f ys k]
theorem seq_at {n : Nat} {i : Int} (h0 : 0 ≤ i) (h1 : i < (n : Int)) : seqIndex? i n = some i.toNat := PySem.seqIndex_of h0 h1
theorem erase_perm : ∀ (us : List Nat) (d : Nat) (h : d < us.length), ([us[d]] ++ us.eraseIdx d).Perm us
  | [], _, h => absurd h (Nat.not_lt_zero _)
  | a :: r, 0, _ => List.Perm.refl _
  | a :: r, d + 1, h => by
    have h' : d < r.length := Nat.lt_of_succ_lt_succ h
    show (r[d] :: a :: r.eraseIdx d).Perm (a :: r)
    exact (List.Perm.swap _ _ _).trans (List.Perm.cons a (erase_perm r d h'))
def Pen (H : Hp) (p : Addr) : Prop := ∃ a b c : Int, H p = some (.lst [.int a, .int b, .int c])
theorem Pen.same {H H' : Hp} {p : Addr} (h : Pen H p) (s : Same H H') : Pen H' p := let ⟨a, b, c, z⟩ := h; ⟨a, b, c, s _ _ z⟩
theorem Pen.eq {H H' : Hp} {p : Addr} (h : Pen H p) (e : H' p = H p) : Pen H' p := let ⟨a, b, c, z⟩ := h; ⟨a, b, c, e.trans z⟩
theorem Pen.ne {H : Hp} {p a : Addr} (h : Pen H p) (e : H a = none) : a ≠ p := let ⟨_, _, _, z⟩ := h; (ne_of_none z e).symm
theorem Pen.mk {H : Hp} {p : Addr} {a b c : Int} : Pen (upd H p (.lst [.int a, .int b, .int c])) p := ⟨a, b, c, upd_same⟩
theorem Pen.keep {H : Hp} {p : Addr} {o : HO} : Same (hid [p] H) (hid [p] (upd H p o)) := by rw [hid_upd (by simp)]; exact Same.refl _
def SameT (H H' : Hp) : Prop := ∀ (b : Addr) (xs : List V), H b = some (.tup xs) → H' b = some (.tup xs)
theorem SameT.trans {H H1 H2 : Hp} (a : SameT H H1) (b : SameT H1 H2) : SameT H H2 := fun c xs h => b c xs (a c xs h)
theorem idx_nodup {l : List Nat} {i c : Nat} (hn : l.Nodup) (h : l[i]? = some c) : l.idxOf c = i := by
  obtain ⟨hi, e⟩ := List.getElem?_eq_some_iff.mp h
  rw [← e]
  exact hn.idxOf_getElem i hi
theorem index_one {z : Str} {c : Nat} (hn : (li z).Nodup) (hm : c ∈ li z) : ∃ rest, Builtin.Str.occurrences z (mk1 c) 0 z.length 1 = (li z).idxOf c :: rest := by
  have h1 := StrLaws.found_one z c
  rw [decide_eq_true hm] at h1
  cases ho : Builtin.Str.occurrences z ⟨#[c]⟩ 0 z.length 1 with
  | nil => rw [ho] at h1; cases h1
  | cons i rest =>
    have h2 := StrLaws.occ_spec z ⟨#[c]⟩ 0 z.length 1 i (by rw [ho]; exact List.mem_cons_self)
    have h3 := (StrLaws.subAt_one z c i).mp h2
    rw [idx_nodup hn h3]
    exact ⟨rest, ho⟩
end L2
set_option Elab.async false
set_option linter.all false
set_option maxRecDepth 100000
set_option maxHeartbeats 4000000
namespace L2
open PySem PySem.Spec PyProof.Rows
section
variable {prog : Program} {w : World} {A : Around} {E : Value → Shared → Prop} {s : Shared}
end
section
variable {prog : Program} {w : World} {A : Around} {E : Value → Shared → Prop} {s : Shared}
end
section
variable {X : Cx} {K : PySem.W.Frag}
def inText (z y : Str) : Bool := !(Builtin.Str.occurrences z y 0 z.length 1).isEmpty
def rInS (neg : Bool) : R2 := fun x y H Q => ∃ a b, x = .str a ∧ y = .str b ∧ Q (.bl (if neg then !inText b a else inText b a)) H
theorem op_inS : OpR X (compareOp .In) (rInS false) := by
  intro pins s σ H x y v u Q I rx ry h
  obtain ⟨a, b, rfl, rfl, q⟩ := h
  obtain ⟨t, rfl⟩ := rx
  obtain ⟨t2, rfl⟩ := ry
  exact PySem.P.in_str ⟨.bl _, H, I, rfl, q⟩
theorem op_notInS : OpR X (compareOp .NotIn) (rInS true) := by
  intro pins s σ H x y v u Q I rx ry h
  obtain ⟨a, b, rfl, rfl, q⟩ := h
  obtain ⟨t, rfl⟩ := rx
  obtain ⟨t2, rfl⟩ := ry
  exact PySem.P.notIn_str ⟨.bl _, H, I, rfl, q⟩
end
section
open PySem.SeqAt
end
end L2
set_option Elab.async false
set_option linter.all false
set_option maxRecDepth 100000
set_option maxHeartbeats 4000000
namespace L2
open PySem PySem.Spec PyProof.Rows
theorem cellsFrom_app : ∀ (names : List (Str × NameKind)) (n : Nat) (acc : List (Str × Addr)), cellsFrom n names acc = cellsFrom n names [] ++ acc
  | [], _, _ => rfl
  | (x, k) :: r, n, acc => by
    unfold cellsFrom
    split
    · rw [cellsFrom_app r (n + 1) ((x, n) :: acc), cellsFrom_app r (n + 1) [(x, n)], List.append_assoc]
      rfl
    · exact cellsFrom_app r n acc
theorem cellsFrom_mem : ∀ (names : List (Str × NameKind)) (n : Nat) (acc : List (Str × Addr)) {x : Str} {c : Addr}, (x, c) ∈ cellsFrom n names acc → (x, c) ∈ acc ∨ (x, NameKind.cell) ∈ names
  | [], _, _, _, _, h => .inl h
  | (y, k) :: r, n, acc, x, c, h => by
    unfold cellsFrom at h
    split at h
    · rename_i hk
      rcases cellsFrom_mem r _ _ h with h | h
      · rcases List.mem_cons.mp h with e | e
        · have hk' : k = .cell := by simpa using hk
          have e' := (Prod.mk.inj e).1
          rw [e', ← hk']
          exact .inr List.mem_cons_self
        · exact .inl e
      · exact .inr (List.mem_cons_of_mem _ h)
    · rcases cellsFrom_mem r _ _ h with h | h
      · exact .inl h
      · exact .inr (List.mem_cons_of_mem _ h)
theorem cellsFrom_keep : ∀ (names : List (Str × NameKind)) (n : Nat) (acc : List (Str × Addr)) {p : Str × Addr}, p ∈ acc → p ∈ cellsFrom n names acc
  | [], _, _, _, h => h
  | (y, k) :: r, n, acc, p, h => by
    unfold cellsFrom
    split
    · exact cellsFrom_keep r _ _ (List.mem_cons_of_mem _ h)
    · exact cellsFrom_keep r _ _ h
theorem cellsFrom_has : ∀ (names : List (Str × NameKind)) (n : Nat) (acc : List (Str × Addr)) {x : Str}, (x, NameKind.cell) ∈ names → ∃ c, (x, c) ∈ cellsFrom n names acc
  | [], _, _, _, h => by simp at h
  | (y, k) :: r, n, acc, x, h => by
    unfold cellsFrom
    rcases List.mem_cons.mp h with e | e
    · cases e
      rw [if_pos (by rfl)]
      exact ⟨n, cellsFrom_keep r _ _ List.mem_cons_self⟩
    · split
      · exact cellsFrom_has r _ _ e
      · exact cellsFrom_has r _ _ e
theorem look_app {α : Type} : ∀ {a b : List (Str × α)} {x : Str} {c : α}, (a ++ b).lookup x = some c → a.lookup x = some c ∨ (a.lookup x = none ∧ b.lookup x = some c)
  | [], _, _, _, h => .inr ⟨rfl, h⟩
  | (n, v) :: r, b, x, c, h => by
    rw [List.cons_append, List.lookup_cons] at h
    rw [List.lookup_cons]
    cases e : x == n with
    | true => rw [e] at h; exact .inl h
    | false => rw [e] at h; exact look_app h
theorem look_left {α : Type} : ∀ {a b : List (Str × α)} {x : Str} {c : α}, a.lookup x = some c → (a ++ b).lookup x = some c
  | [], _, _, _, h => by simp at h
  | (n, v) :: r, b, x, c, h => by
    rw [List.cons_append, List.lookup_cons]
    rw [List.lookup_cons] at h
    cases e : x == n with
    | true => rw [e] at h; exact h
    | false => rw [e] at h; exact look_left h
theorem look_right {α : Type} : ∀ {a b : List (Str × α)} {x : Str} {c : α}, a.lookup x = none → b.lookup x = some c → (a ++ b).lookup x = some c
  | [], _, _, _, _, h => h
  | (n, v) :: r, b, x, c, hn, h => by
    rw [List.cons_append, List.lookup_cons]
    rw [List.lookup_cons] at hn
    cases e : x == n with
    | true => rw [e] at hn; cases hn
    | false => rw [e] at hn; exact look_right hn h
abbrev blkCxC (X : Cx) (scope : Scope) (ns : List Str) (C : Addr) (cl : List (Str × Addr)) (s₀ : Shared) (H₀ : Hp) (fp : List Addr) : Cx :=
  { X with N := ns, s₀ := s₀, H₀ := H₀, env := compEnvC scope cl C X.env, outer := X.stack, ex := fp, fn := fun x => scope.names.lookup x == some NameKind.cell, pn := [], xe := fun _ _ => False }
structure BlkOkC (X : Cx) (scope : Scope) (ns : List Str) (js : List (Option Nat)) : Prop where
  kind : scope.kind = .function
  uniq : ∀ y ∈ scope.names, y.2 = .cell → scope.names.lookup y.1 = some .cell
  names : ∀ y ∈ scope.names, y.2 = .local → scope.names.lookup y.1 = some .local
  free : ∀ y ∈ scope.names, y.2 = .free → X.env.kindOf y.1 = some .cell ∨ X.env.kindOf y.1 = some .free
  nd : ns.Nodup
  len : js.length = ns.length
  out : ∀ (i : Nat) (x : Str) (j : Nat), ns[i]? = some x → js[i]? = some (some j) → X.N[j]? = some x ∧ scope.names.lookup x = some .free
def blkChkC (N : List Str) (sc scope : Scope) (ns : List Str) (js : List (Option Nat)) : Bool :=
  decide (scope.kind = .function) && scope.names.all (fun y => decide (y.2 = .cell → scope.names.lookup y.1 = some .cell)) && scope.names.all (fun y => decide (y.2 = .local → scope.names.lookup y.1 = some .local)) &&
  scope.names.all (fun y => decide (y.2 = .free → sc.names.lookup y.1 = some .cell ∨ sc.names.lookup y.1 = some .free)) && decide ns.Nodup && decide (js.length = ns.length) &&
  (List.range ns.length).all (fun i => match js[i]?, ns[i]? with
    | some (some j), some x => decide (N[j]? = some x) && decide (scope.names.lookup x = some .free)
    | _, _ => true)
theorem chk_out {N : List Str} {scope : Scope} {ns : List Str} {js : List (Option Nat)} (h7 : ∀ i < ns.length, (match js[i]?, ns[i]? with
    | some (some j), some x => decide (N[j]? = some x) && decide (scope.names.lookup x = some .free)
    | _, _ => true) = true) {i : Nat} {x : Str} {j : Nat} (e1 : ns[i]? = some x) (e2 : js[i]? = some (some j)) : N[j]? = some x ∧ scope.names.lookup x = some .free := by
  have q := h7 i (List.getElem?_eq_some_iff.mp e1).1
  rw [e1, e2] at q
  simpa using q
theorem BlkOkC.of {X : Cx} {scope : Scope} {ns : List Str} {js : List (Option Nat)} {N0 : List Str} {sc0 : Scope} (hN : X.N = N0) (hS : X.env.scope = sc0) (h : blkChkC N0 sc0 scope ns js = true) : BlkOkC X scope ns js := by
  unfold blkChkC at h
  simp only [Bool.and_eq_true, List.all_eq_true, decide_eq_true_eq, List.mem_range] at h
  obtain ⟨⟨⟨⟨⟨⟨h1, h2⟩, h3⟩, h4⟩, h5⟩, h6⟩, h7⟩ := h
  refine ⟨h1, fun y hy => h2 y hy, fun y hy => h3 y hy, fun y hy hk => ?_, h5, h6, fun i x j e1 e2 => ?_⟩
  · have q := h4 y hy hk
    rw [← hS] at q
    exact q
  · rw [hN]
    exact chk_out h7 e1 e2
section
variable {M : Model} {A : Around} {E : Value → Shared → Prop} {s : Shared}
theorem wpAny_newFunctionEnv_in {scope : Scope} {globals : Addr} {closure : List (Str × Addr)} {qual : Str} {outer : Env} {builtins : Addr} {Q : Env → Shared → Prop}
    (hQ : Q (newEnv scope s.heap.objs.size globals (cellsFrom (s.heap.objs.size + 1) scope.names closure) qual none .none (some outer) builtins) { s with heap := pushCells (s.heap.push { cls := .type "dict", data := .dict #[] }) scope.names }) :
    wpAny M A (newFunctionEnv scope globals closure [] qual none .none (some outer) builtins) Q E s := by
  simp only [newFunctionEnv, Option.isSome_some, if_true]
  refine wpAny_bind (wpAny_alloc ?_)
  refine wpAny_bind (wpAny_layCells _ (fun name kind cells => by cases hkc : kind == NameKind.cell <;> simp [hkc]) _ _ _ _ ?_)
  rw [show ({ s with heap := s.heap.push { cls := .type "dict", data := .dict #[] } } : Shared).heap.objs.size = s.heap.objs.size + 1 from Heap.size_push ..]
  rw [List.forIn_nil]
  exact wpAny_bind (wpAny_pure (wpAny_pure hQ))
end
section
variable {X : Cx} {elt tg iter : Expr} {ifs : List Expr} {scope : Scope} {pos : Pos} {ns : List Str} {js : List (Option Nat)} {wi : TI} {g : TG} {tt : TT} {te : TE}
theorem blk_invC {pins : List (Addr × Obj)} {s3 : Shared} {σ : St} {H3 : Hp} {fp : List Addr} {h₁ : Heap} {tk : Nat} (B : BlkOkC X scope ns js) (I3 : Inv X pins σ H3 s3)
    (f3 : ∀ b ∈ fp, FpOk X pins H3 b) (lt3 : ∀ b ∈ fp, b < s3.heap.objs.size) (hns : h₁.Ns s3.heap.objs.size (fun _ => none)) (old : ∀ b u, s3.heap.get? b = some u → h₁.get? b = some u)
    (cok : CellsOk h₁ (s3.heap.objs.size + 1) (cellsFrom (s3.heap.objs.size + 1) scope.names [])) :
    Inv (blkCxC X scope ns s3.heap.objs.size (cellsFrom (s3.heap.objs.size + 1) scope.names (clOf X.env scope.names)) s3 H3 fp) [] (blkSt js σ) H3 { s3 with heap := h₁, toks := tk } := by
  rw [cellsFrom_app]
  have hmem : ∀ {x : Str} {c : Addr}, (x, c) ∈ cellsFrom (s3.heap.objs.size + 1) scope.names [] → scope.names.lookup x = some .cell := fun {x c} h => by
    rcases cellsFrom_mem _ _ _ h with h | h
    · simp at h
    · exact B.uniq _ h rfl
  have hhas : ∀ {x : Str}, scope.names.lookup x = some .cell → ∃ c, (cellsFrom (s3.heap.objs.size + 1) scope.names []).lookup x = some c := fun {x} h => by
    obtain ⟨c, hc⟩ := cellsFrom_has scope.names (s3.heap.objs.size + 1) [] (PySem.mem_of_lookup h)
    exact lookup_of_has hc
  generalize cellsFrom (s3.heap.objs.size + 1) scope.names [] = CS at cok hmem hhas
  have has : ∀ y ∈ scope.names, y.2 = .free → ∃ c, X.env.cells.lookup y.1 = some c := fun y hy hk => I3.ok.has y.1 (B.free y hy hk)
  have look : ∀ {n : Str} {c : Addr}, (CS ++ clOf X.env scope.names).lookup n = some c → (CS.lookup n = some c ∧ h₁.IsCell c none ∧ s3.heap.objs.size + 1 ≤ c) ∨ (CS.lookup n = none ∧ X.env.cells.lookup n = some c ∧ c < s3.heap.objs.size) := fun {n c} e => by
    rcases look_app e with e | ⟨e1, e2⟩
    · exact .inl ⟨e, cok.empty n c (PySem.mem_of_lookup e)⟩
    · have e3 := clOf_look has e2
      obtain ⟨v, hv⟩ := I3.cell n c e3
      exact .inr ⟨e1, e3, hv.lt⟩
  refine ⟨⟨I3.ok.mod, B.kind, I3.ok.glob, I3.ok.blt, Nat.le_refl _, fun y z c h1 h2 => ?_, fun y hy => ?_, fun y c hf h => ?_, I3.ok.hd, I3.ok.frames, .inl rfl, fun b hb => ?_, I3.bs, Nat.le_trans I3.ok.bsz I3.sz,
      fun b o e hb => ?_, fun b hb z => ?_, I3.stack, I3.stkFree⟩,
    rfl, I3.bare, Un.kept old, ⟨_, hns, fun i x v h1 h2 h3 => ?_⟩, fun y c h => ?_, I3.fresh, fun y c h => ?_, fun p hp => absurd (show p ∈ ([] : List (Addr × Obj)) from hp) (by simp), I3.hok.kept old, ?_⟩
  · rcases look h1 with ⟨a1, _, a3⟩ | ⟨_, a2, a3⟩ <;> rcases look h2 with ⟨b1, _, b3⟩ | ⟨_, b2, b3⟩
    · exact name_of_addr cok.apart (PySem.mem_of_lookup a1) (PySem.mem_of_lookup b1)
    · exact absurd (Nat.lt_of_lt_of_le (Nat.lt_of_lt_of_le b3 (Nat.le_succ _)) a3) (Nat.lt_irrefl _)
    · exact absurd (Nat.lt_of_lt_of_le (Nat.lt_of_lt_of_le a3 (Nat.le_succ _)) b3) (Nat.lt_irrefl _)
    · exact I3.ok.inj y z c a2 b2
  · have hf : scope.names.lookup y = some .cell ∨ scope.names.lookup y = some .free := by
      rcases hy with hy | hy
      · rcases relab_look (env := X.env) hy with q | q
        · exact .inl q
        · exact .inr q.1
      · rcases relab_look (env := X.env) hy with q | q
        · exact .inr q
        · exact .inr q.1
    show ∃ c, (CS ++ clOf X.env scope.names).lookup y = some c
    rcases hf with hf | hf
    · obtain ⟨c, hc⟩ := hhas hf
      exact ⟨c, look_left hc⟩
    · obtain ⟨c, hc⟩ := clOf_has (env := X.env) (PySem.mem_of_lookup hf)
      cases e : CS.lookup y with
      | none => exact ⟨c, look_right e hc⟩
      | some d => exact ⟨d, look_left e⟩
  · rcases look h with ⟨_, _, a3⟩ | ⟨a1, _, _⟩
    · show s3.heap.objs.size ≤ c
      omega
    · have hf' : (scope.names.lookup y == some NameKind.cell) = true := hf
      obtain ⟨d, hd⟩ := hhas (by simpa using hf')
      rw [a1] at hd
      cases hd
  · refine ⟨Nat.ne_of_lt (lt3 b hb), fun x c e => ?_⟩
    rcases look e with ⟨_, _, a3⟩ | ⟨_, a2, _⟩
    · have := lt3 b hb
      intro z
      subst z
      exact Nat.lt_irrefl _ (Nat.lt_of_lt_of_le (Nat.lt_of_lt_of_le this (Nat.le_succ _)) a3)
    · exact (f3 b hb).2.2.2.2.1 x c a2
  · rcases (f3 b hb).2.2.2.1 with z | z
    · exact I3.ok.noex b o e z
    · exact absurd (Nat.lt_of_lt_of_le (Nat.lt_of_lt_of_le (Heap.lt_size e) I3.ok.bsz) z) (Nat.lt_irrefl _)
  · rcases List.mem_cons.mp (I3.stkSub b z) with q | q
    · exact (f3 b hb).2.1 q
    · exact (f3 b hb).2.2.1 q
  · have h2' : (js.map fun j => match j with | some j => (σ[j]?).join | none => none)[i]? = some (some v) := h2
    rw [List.getElem?_map] at h2'
    obtain ⟨j, hj, hσ⟩ : ∃ j, js[i]? = some (some j) ∧ σ[j]? = some (some v) := by
      cases e : js[i]? with
      | none => rw [e] at h2'; simp at h2'
      | some oj =>
        rw [e] at h2'
        cases oj with
        | none => simp at h2'
        | some j =>
          refine ⟨j, rfl, ?_⟩
          have q : (σ[j]?).join = some v := by simpa using h2'
          cases e2 : σ[j]? with
          | none => rw [e2] at q; simp at q
          | some ov =>
            rw [e2] at q
            simp at q
            rw [q]
    obtain ⟨hN, hfr⟩ := B.out i x j h1 hj
    have hf := B.free (x, .free) (PySem.mem_of_lookup hfr) rfl
    have hf' : X.env.kindOf x = some .cell ∨ X.env.kindOf x = some .free := hf
    obtain ⟨m, hn, hl⟩ := I3.loc
    obtain ⟨u, r, l⟩ := hl j x v hN hσ (by
      rcases hf' with z | z
      · exact .inr (.inl z)
      · exact .inr (.inr z))
    refine ⟨u, r, ?_⟩
    rcases l with ⟨hk, _⟩ | ⟨hk, c, hc, hcell⟩
    · rcases hf' with z | z
      · rw [z] at hk; cases hk
      · rw [z] at hk; cases hk
    · obtain ⟨c', hc'⟩ := clOf_has (env := X.env) (PySem.mem_of_lookup hfr)
      have e' := clOf_look has hc'
      rw [hc] at e'
      cases e'
      obtain ⟨o, ho, hd⟩ := hcell
      have hno : CS.lookup x = none := by
        cases e : CS.lookup x with
        | none => rfl
        | some d =>
          have q := hmem (PySem.mem_of_lookup e)
          rw [hfr] at q
          cases q
      exact .inr ⟨relab_free (env := X.env) hfr, c, look_right hno hc', ⟨o, old c o ho, hd⟩⟩
  · rcases look h with ⟨_, a2, _⟩ | ⟨_, a2, _⟩
    · exact ⟨_, a2⟩
    · obtain ⟨v, o, ho, hd⟩ := I3.cell y c a2
      exact ⟨v, o, old c o ho, hd⟩
  · rcases look h with ⟨_, _, a3⟩ | ⟨_, a2, _⟩
    · exact I3.hok.fresh (by omega)
    · exact I3.freeC y c a2
  · show (js.map _).length = ns.length
    rw [List.length_map]
    exact B.len
theorem lc_coreC {pins : List (Addr × Obj)} {s2 : Shared} {σ : St} {H2 : Hp} {Qv : VK} {J : It} {fp : List Addr} {it : Addr} {tn : Nat → Heap → Prop} {RR : Value → Addr → Result → Shared → Prop}
    (B : BlkOkC X scope ns js) (hc : X.calm = true) (I2 : Inv X pins σ H2 s2) (T : Turn X.prog X.w X.K tg J fp it tn) (st2 : tn 0 s2.heap) (f2 : ∀ b ∈ fp, FpOk X pins H2 b)
    (hg : ∀ C cl s₀ H₀ fp, PG (blkCxC X scope ns C cl s₀ H₀ fp) tg g) (ht : ∀ C cl s₀ H₀ fp, PTs (blkCxC X scope ns C cl s₀ H₀ fp) ifs tt) (he : ∀ C cl s₀ H₀ fp, PE (blkCxC X scope ns C cl s₀ H₀ fp) elt te)
    (hw : ∀ D, H2 D = none → lcRun J g tt te (blkSt js σ) H2 D Qv)
    (hRR : ∀ D C s' H', Inv X pins σ H' s' → Qv (.ref D) H' → (∃ m, s'.heap.Ns C m) → H' C = none → C ≠ X.env.locals → X.s₀.heap.objs.size ≤ C → (∀ x c, X.env.cells.lookup x = some c → c ≠ C) → (∀ p ∈ X.pn ++ pins, p.1 ≠ C) → RR (.ref D) C (.ok .next) s') :
    wpAny (model X.prog X.w) X.A (newList []) (fun acc s₃ => wpAny (model X.prog X.w) X.A (newFunctionEnv scope X.env.globals (clOf X.env scope.names) [] X.env.qual none .none (some X.env)) (fun cenv s₄ =>
      codeAny (model X.prog X.w) X.A (.compStart (.ListComp elt [⟨tg, iter, ifs, 0⟩] scope pos) 0 (.ref it) acc { cenv with scope := relabel scope X.env }) (RR acc cenv.locals) s₄) X.xe s₃) X.xe s2 := by
  refine wpAny_newObj_type (wpAny_newFunctionEnv_in ?_)
  dsimp only
  have I3 : Inv X pins σ (upd H2 s2.heap.objs.size (.lst [])) { s2 with heap := s2.heap.push { cls := .type "list", data := .seq ([] : List Value).toArray }, toks := s2.toks } := I2.lnew .nil (Nat.zero_le _)
  generalize hs3 : ({ s2 with heap := s2.heap.push { cls := .type "list", data := .seq ([] : List Value).toArray }, toks := s2.toks } : Shared) = s3 at I3
  have e3 : s3.heap = s2.heap.push { cls := .type "list", data := .seq ([] : List Value).toArray } := by rw [← hs3]
  have k3 : ∀ b u, s2.heap.get? b = some u → s3.heap.get? b = some u := fun b u e => by rw [e3]; exact Heap.get?_push_of_some _ e
  have sz3 : s3.heap.objs.size = s2.heap.objs.size + 1 := by rw [e3, Heap.size_push]
  have hD : H2 s2.heap.objs.size = none := I2.fresh
  obtain ⟨h₁, hh₁⟩ : ∃ h₁, h₁ = pushCells (s3.heap.push { cls := .type "dict", data := .dict #[] }) scope.names := ⟨_, rfl⟩
  have old : ∀ b u, s3.heap.get? b = some u → h₁.get? b = some u := fun b u e => by
    rw [hh₁]
    exact pushCells_keeps _ _ b u (Heap.get?_push_of_some _ e)
  have hns : h₁.Ns s3.heap.objs.size (fun _ => none) := by
    rw [hh₁]
    exact (Heap.Ns.new s3.heap (.type "dict")).keeps (pushCells_keeps _ _)
  have cok : CellsOk h₁ (s3.heap.objs.size + 1) (cellsFrom (s3.heap.objs.size + 1) scope.names []) := by
    have q := cellsFrom_ok scope.names (s3.heap.push { cls := .type "dict", data := .dict #[] }) (s3.heap.objs.size + 1) [] ⟨fun _ _ hm => (nomatch hm), List.Pairwise.nil⟩ (by rw [Heap.size_push]; exact Nat.le_refl _)
    rw [Heap.size_push, ← hh₁] at q
    exact q
  have obj2 : ∀ b ∈ fp, b < s2.heap.objs.size := fun b hb => let ⟨o, e, _⟩ := T.obj 0 _ st2 b hb; Heap.lt_size e
  have f3 : ∀ b ∈ fp, FpOk X pins (upd H2 s2.heap.objs.size (.lst [])) b := fun b hb => ⟨by rw [upd_ne (Nat.ne_of_lt (obj2 b hb))]; exact (f2 b hb).1, (f2 b hb).2⟩
  have lt3 : ∀ b ∈ fp, b < s3.heap.objs.size := fun b hb => by rw [sz3]; exact Nat.lt_succ_of_lt (obj2 b hb)
  obtain ⟨W, ⟨m0, w0⟩, turn⟩ := hw _ hD
  have J0 := fun tk => blk_invC (tk := tk) B I3 f3 lt3 hns old cok
  have has : ∀ y ∈ scope.names, y.2 = .free → ∃ c, X.env.cells.lookup y.1 = some c := fun y hy hk => I2.ok.has y.1 (B.free y hy hk)
  have stat : ∀ {H' : Hp}, (∀ b ∈ fp, H' b = none) → ∀ b ∈ fp, FpOk (blkCxC X scope ns s3.heap.objs.size (cellsFrom (s3.heap.objs.size + 1) scope.names (clOf X.env scope.names)) s3 (upd H2 s2.heap.objs.size (.lst [])) fp) [] H' b := fun hn b hb =>
    ⟨hn b hb, Nat.ne_of_lt (lt3 b hb), (J0 0).ok.exfs b hb, .inl hb, fun x c e => (J0 0).ok.exf b hb |>.2 x c e, fun p hp => absurd (show p ∈ ([] : List (Addr × Obj)) from hp) (by simp)⟩
  have fin : ∀ {τ : St} {H' : Hp} {s' : Shared}, Inv (blkCxC X scope ns s3.heap.objs.size (cellsFrom (s3.heap.objs.size + 1) scope.names (clOf X.env scope.names)) s3 (upd H2 s2.heap.objs.size (.lst [])) fp) [] τ H' s' → Qv (.ref s2.heap.objs.size) H' → RR (.ref s2.heap.objs.size) s3.heap.objs.size (.ok .next) s' := fun {τ H' s'} I6 q => by
    have u1 : Un (frs X.stack) fp H2 (upd H2 s2.heap.objs.size (.lst [])) s2.heap s3.heap := Un.laid k3 (Nat.le_refl _) hD
    have os3 : s3.os = s2.os := by rw [← hs3]
    have I7 : Inv X pins σ H' s' := I2.call' (ch := fp) (I6.os.trans os3) (u1.trans I6.base) I6.hok I6.bare fun b hb => ⟨(f2 b hb).2.2.2.1, (f2 b hb).2.1, (f2 b hb).2.2.2.2.1, (f2 b hb).2.2.2.2.2⟩
    have le2 : s2.heap.objs.size ≤ s3.heap.objs.size := by rw [sz3]; exact Nat.le_succ _
    refine hRR _ _ s' H' I7 q ?_ I6.free (Nat.ne_of_gt (Nat.lt_of_lt_of_le I2.lt le2)) (Nat.le_trans I2.sz le2) (fun x c e z => ?_) fun p hp z => ?_
    · obtain ⟨m, hn, _⟩ := I6.loc
      exact ⟨m, hn⟩
    · obtain ⟨v, hv⟩ := I2.cell x c e
      exact absurd (Nat.lt_of_lt_of_le hv.lt (by rw [z]; exact le2)) (Nat.lt_irrefl _)
    · exact absurd (Nat.lt_of_lt_of_le (Heap.lt_size (I2.pin p hp).1) (by rw [z]; exact le2)) (Nat.lt_irrefl _)
  rw [← e3, ← hh₁]
  have loop : ∀ tk, codeAny (model X.prog X.w) X.A (.compLoop (.ListComp elt [⟨tg, iter, ifs, 0⟩] scope pos) 0 (.ref it) (.ref s2.heap.objs.size) (compEnvC scope (cellsFrom (s3.heap.objs.size + 1) scope.names (clOf X.env scope.names)) s3.heap.objs.size X.env))
      (RR (.ref s2.heap.objs.size) s3.heap.objs.size) { s3 with heap := h₁, toks := tk } := fun tk => by
    refine codeAny_loop rfl (fun n s' => ∃ i τ H', Inv (blkCxC X scope ns s3.heap.objs.size (cellsFrom (s3.heap.objs.size + 1) scope.names (clOf X.env scope.names)) s3 (upd H2 s2.heap.objs.size (.lst [])) fp) [] τ H' s' ∧ tn i s'.heap ∧ (∀ b ∈ fp, H' b = none) ∧ W i n τ H') (fun n s5 hI => ?_) m0
      ⟨0, _, _, J0 tk, T.keep _ _ _ st2 fun b _ o e => old b o (k3 b o e), fun b hb => (f3 b hb).1, w0⟩
    obtain ⟨i, τ, H5, I5, st5, fr5, w5⟩ := hI
    show wpAny _ X.A ((compTurn (.ListComp elt [⟨tg, iter, ifs, 0⟩] scope pos) 0 (.ref it) (.ref s2.heap.objs.size) (compEnvC scope (cellsFrom (s3.heap.objs.size + 1) scope.names (clOf X.env scope.names)) s3.heap.objs.size X.env)).onRaise (fun x => do noteFrame x (compEnvC scope (cellsFrom (s3.heap.objs.size + 1) scope.names (clOf X.env scope.names)) s3.heap.objs.size X.env); theTreesLotGoes x)) _ _ s5
    refine wpAny_noted ?_
    rw [compTurn_list]
    refine wpAny_bind (wpAny_standAt (wpAny_bind ?_))
    rcases turn i n τ H5 w5 with ⟨stop, qn⟩ | ⟨go, N, hN, step⟩
    · refine thn (T.done (blkCxC X scope ns s3.heap.objs.size (cellsFrom (s3.heap.objs.size + 1) scope.names (clOf X.env scope.names)) s3 (upd H2 s2.heap.objs.size (.lst [])) fp) rfl rfl rfl hc i [] s5 τ H5 _ I5 (stat fr5) st5 stop) fun r s6 ⟨hr, I6⟩ => ?_
      subst hr
      exact wpAny_pure (fin I6 qn)
    · refine thn (T.item (blkCxC X scope ns s3.heap.objs.size (cellsFrom (s3.heap.objs.size + 1) scope.names (clOf X.env scope.names)) s3 (upd H2 s2.heap.objs.size (.lst [])) fp) rfl rfl rfl hc i [] s5 τ H5 _ I5 (stat fr5) st5 go) fun r s6 ⟨u, hr, h6⟩ => ?_
      subst hr
      dsimp only
      refine wpAny_bind (thn h6 fun _ s7 ⟨x, H7, I7, r7, y7, st7, fr7⟩ => ?_)
      have I7' := I7.pinned (stat fr7) (T.obj _ _ st7)
      have back : ∀ {τ9 : St} {H9 : Hp} {s9 : Shared}, Inv (blkCxC X scope ns s3.heap.objs.size (cellsFrom (s3.heap.objs.size + 1) scope.names (clOf X.env scope.names)) s3 (upd H2 s2.heap.objs.size (.lst [])) fp) ([] ++ pinsAt fp s7.heap) τ9 H9 s9 →
          Inv (blkCxC X scope ns s3.heap.objs.size (cellsFrom (s3.heap.objs.size + 1) scope.names (clOf X.env scope.names)) s3 (upd H2 s2.heap.objs.size (.lst [])) fp) [] τ9 H9 s9 ∧ tn (i + 1) s9.heap ∧ ∀ b ∈ fp, H9 b = none := fun {τ9 H9 s9} I9 => by
        refine ⟨I9.unpinned, T.keep _ _ _ st7 fun b hb o e => (I9.pin (b, o) (List.mem_append_right _ (List.mem_append_right _ (mem_pinsAt hb e)))).1, fun b hb => ?_⟩
        obtain ⟨o, e, d⟩ := T.obj _ _ st7 b hb
        exact (I9.pin (b, o) (List.mem_append_right _ (List.mem_append_right _ (mem_pinsAt hb e)))).2.1
      refine wpAny_bind (thF (hg _ _ _ _ _ _ s7 τ H7 x u _ I7' r7 (step x H7 y7)) fun _ s8 ⟨τ8, H8, I8, q8⟩ => ?_)
      refine wpAny_bind (thF (ht _ _ _ _ _ _ s8 τ8 H8 _ I8 q8) fun b s9 ⟨H9, I9, q9⟩ => ?_)
      cases b with
      | false =>
        rw [if_neg Bool.false_ne_true] at q9
        obtain ⟨m', hm, w9⟩ := hN _ _ q9
        obtain ⟨a1, a2, a3⟩ := back I9
        exact wpAny_pure ⟨rfl, m', hm, i + 1, τ8, H9, a1, a2, a3, w9⟩
      | true =>
        rw [if_pos rfl] at q9
        refine wpAny_bind (wpAny_bind (thF (he _ _ _ _ _ _ s9 τ8 H9 _ I9 q9) fun v s10 ⟨y, H10, I10, r10, q10⟩ => ?_))
        obtain ⟨xs, hx, hz, n10⟩ := q10
        obtain ⟨m', hm, w10⟩ := hN _ _ n10
        refine wpAny_bind (thF (mt_append _ s10 τ8 H10 (.ref s2.heap.objs.size) [y] (.ref s2.heap.objs.size) [v] (fun _ H11 => W (i + 1) m' τ8 H11) I10 rfl (.cons r10 .nil) ⟨_, xs, y, rfl, rfl, hx, hz, w10⟩) fun _ s11 ⟨_, H11, I11, _, q11⟩ => ?_)
        obtain ⟨a1, a2, a3⟩ := back I11
        exact wpAny_pure (wpAny_pure ⟨rfl, m', hm, i + 1, τ8, H11, a1, a2, a3, q11⟩)
  have hst1 : tn 0 h₁ := T.keep _ _ _ st2 fun b _ o e => old b o (k3 b o e)
  subst hs3
  exact codeAny_compStart_list (loop _) (T.self _ 0 _ _ _ hst1 (loop _))
theorem pe_lcC (B : BlkOkC X scope ns js) (hc : X.calm = true) (hi : PI X tg iter wi)
    (hg : ∀ C cl s₀ H₀ fp, PG (blkCxC X scope ns C cl s₀ H₀ fp) tg g) (ht : ∀ C cl s₀ H₀ fp, PTs (blkCxC X scope ns C cl s₀ H₀ fp) ifs tt) (he : ∀ C cl s₀ H₀ fp, PE (blkCxC X scope ns C cl s₀ H₀ fp) elt te)
    (hs : ∀ x, foldedSetIterable iter X.env x = pure x := by intro _; rfl) : PE X (.ListComp elt [⟨tg, iter, ifs, 0⟩] scope pos) (tLC wi g tt te js) := by
  intro pins s σ H Q I h
  rw [eval_ListComp]
  have hclos := closure_is (scope := scope) (env := X.env) (fun y hy hk => I.ok.has y.1 (B.free y hy hk))
  refine wpAny_comprehension_free (use := none) rfl hs hclos B.kind B.names (thn (hi pins s σ H _ I h) fun v s1 h1 => thn h1 fun itv s2 h2 => ?_)
  obtain ⟨it, fp, tn, J, H2, e, I2, T, st2, f2, hw⟩ := h2
  subst e
  refine lc_coreC (RR := fun acc C => compPost (model X.prog X.w) X.A X.xe none (EP X pins σ Q) acc C) B hc I2 T st2 f2 hg ht he hw ?_
  intro D C s' H' I' q hm c0 c1 c2 c3 c4
  obtain ⟨m, hn⟩ := hm
  exact ⟨m, hn, fun h' hs' => ⟨.ref D, H', I'.turned (t' := s'.toks) (fun b o hb e => (hs'.2 b hb).trans e) c0 c1 (.inr c2) c3 c4, rfl, q⟩⟩
end
end L2
set_option Elab.async false
set_option linter.all false
set_option maxRecDepth 100000
set_option maxHeartbeats 4000000
namespace L2
open PySem PySem.Spec PyProof.Rows
section
variable {X : Cx} {K : PySem.W.Frag}
def rMulS : R2 := fun x y H Q => ∃ z n, x = .str z ∧ y = .int n ∧ z.length ≤ 4000 ∧ -(2 ^ 63) ≤ n ∧ n ≤ 4000 ∧ Q (.str (Txt.mul z n)) H
theorem op_mulS : OpR X (binaryOp .Mult) rMulS := by
  intro pins s σ H x y v u Q I rx ry h
  obtain ⟨z, n, rfl, rfl, hz, h0, h1, q⟩ := h
  obtain ⟨t, rfl⟩ := rx
  obtain ⟨t2, rfl⟩ := ry
  exact SB.mul (mulOk_of 4000 4000 hz h1 h0 (by decide) (by decide)) fun t' k => ⟨.str _, H, I.tok _, ⟨_, rfl⟩, q⟩
theorem mul_len {z : Str} {n : Int} {L N : Nat} (hz : z.length ≤ L) (hn : n ≤ (N : Int)) : (Txt.mul z n).length ≤ L * N := PyProof.Rows.len_mul_leN hz hn
theorem preSum_take (ns : List Int) : ∀ k, k ≤ ns.length → preSum (fun i => ns.getD i 0) k = (ns.take k).sum
  | 0, _ => rfl
  | k + 1, h => by
    show preSum (fun i => ns.getD i 0) k + ns.getD k 0 = _
    rw [preSum_take ns k (by omega), PyProof.Rows.take_sum_succ ns k (by omega)]
end
end L2
set_option Elab.async false
set_option linter.all false
set_option maxRecDepth 100000
set_option maxHeartbeats 4000000
namespace L2
open PySem PySem.Spec PyProof.Rows
mutual
def DV (H : Hp) : V → PyData → Prop
  | v, .none => v = .non
  | v, .bool b => v = .bl b
  | v, .int i => v = .int i
  | v, .str x => v = .str x
  | v, .list ds => ∃ a xs, v = .ref a ∧ H a = some (.lst xs) ∧ DVs H xs ds
  | v, .tuple ds => ∃ a xs, v = .ref a ∧ H a = some (.tup xs) ∧ DVs H xs ds
  | _, .dict _ => False
def DVs (H : Hp) : List V → List PyData → Prop
  | vs, [] => vs = []
  | vs, d :: ds => ∃ v r, vs = v :: r ∧ DV H v d ∧ DVs H r ds
end
mutual
theorem DV.same {H H' : Hp} (s : Same H H') : ∀ {v : V} (d : PyData), DV H v d → DV H' v d
  | _, .none, h => by simpa [DV] using h
  | _, .bool _, h => by simpa [DV] using h
  | _, .int _, h => by simpa [DV] using h
  | _, .str _, h => by simpa [DV] using h
  | _, .list ds, h => by
    unfold DV at h ⊢
    obtain ⟨a, xs, e, h1, h2⟩ := h
    exact ⟨a, xs, e, s _ _ h1, DVs.same s ds h2⟩
  | _, .tuple ds, h => by
    unfold DV at h ⊢
    obtain ⟨a, xs, e, h1, h2⟩ := h
    exact ⟨a, xs, e, s _ _ h1, DVs.same s ds h2⟩
  | _, .dict _, h => by
    unfold DV at h
    exact h.elim
theorem DVs.same {H H' : Hp} (s : Same H H') : ∀ {vs : List V} (ds : List PyData), DVs H vs ds → DVs H' vs ds
  | _, [], h => by
    unfold DVs at h ⊢
    exact h
  | _, d :: ds, h => by
    unfold DVs at h ⊢
    obtain ⟨v, r, e, h1, h2⟩ := h
    exact ⟨v, r, e, DV.same s d h1, DVs.same s ds h2⟩
end
section
variable {X : Cx} {pins : List (Addr × Obj)} {σ : St} {H : Hp} {s : Shared}
mutual
theorem DV.reads (I : Inv X pins σ H s) : ∀ {v : V} {u : Value} (d : PyData), DV H v d → RelV v u → ∃ as, Reads s.heap u d as
  | _, _, .none, h, r => by
    unfold DV at h
    subst h
    cases r
    exact ⟨_, .none⟩
  | _, _, .bool b, h, r => by
    unfold DV at h
    subst h
    cases r
    exact ⟨_, .bool _⟩
  | _, _, .int i, h, r => by
    unfold DV at h
    subst h
    obtain ⟨t, rfl⟩ := r
    exact ⟨_, .int _ _⟩
  | _, _, .str x, h, r => by
    unfold DV at h
    subst h
    obtain ⟨t, rfl⟩ := r
    exact ⟨_, .str _ _⟩
  | _, _, .list ds, h, r => by
    unfold DV at h
    obtain ⟨a, xs, rfl, h1, h2⟩ := h
    cases r
    obtain ⟨its, rv, ⟨o, n, e1, e2, _, e3⟩, _⟩ := I.list (SqL.of h1)
    obtain ⟨as, ra⟩ := DVs.reads I ds h2 rv
    exact ⟨_, .list e1 e2 e3 (by simpa using ra)⟩
  | _, _, .tuple ds, h, r => by
    unfold DV at h
    obtain ⟨a, xs, rfl, h1, h2⟩ := h
    cases r
    obtain ⟨its, rv, ⟨o, e1, e2, n, e3⟩, _⟩ := I.tuple (SqT.of h1)
    obtain ⟨as, ra⟩ := DVs.reads I ds h2 rv
    exact ⟨_, .tuple e1 e2 e3 (by simpa using ra)⟩
  | _, _, .dict _, h, _ => by
    unfold DV at h
    exact h.elim
theorem DVs.reads (I : Inv X pins σ H s) : ∀ {vs : List V} {us : List Value} (ds : List PyData), DVs H vs ds → Vals vs us → ∃ as, ReadsAll s.heap us ds as
  | _, _, [], h, r => by
    unfold DVs at h
    subst h
    cases r
    exact ⟨_, .nil⟩
  | _, _, d :: ds, h, r => by
    unfold DVs at h
    obtain ⟨v, t, rfl, h1, h2⟩ := h
    cases r with
    | cons ru rr =>
      obtain ⟨as, a1⟩ := DV.reads I d h1 ru
      obtain ⟨bs, a2⟩ := DVs.reads I ds h2 rr
      exact ⟨_, .cons a1 a2⟩
end
end
mutual
theorem dv_nodict {H : Hp} : ∀ {v : V} (d : PyData), DV H v d → d.hasDict = false
  | _, .none, _ => by simp only [PyData.hasDict]
  | _, .bool _, _ => by simp only [PyData.hasDict]
  | _, .int _, _ => by simp only [PyData.hasDict]
  | _, .str _, _ => by simp only [PyData.hasDict]
  | _, .list ds, h => by
    unfold DV at h
    obtain ⟨a, xs, e, h1, h2⟩ := h
    simp only [PyData.hasDict]
    exact dvs_nodict ds h2
  | _, .tuple ds, h => by
    unfold DV at h
    obtain ⟨a, xs, e, h1, h2⟩ := h
    simp only [PyData.hasDict]
    exact dvs_nodict ds h2
  | _, .dict _, h => by
    unfold DV at h
    exact h.elim
theorem dvs_nodict {H : Hp} : ∀ {vs : List V} (ds : List PyData), DVs H vs ds → PyData.hasDictAll ds = false
  | _, [], _ => by simp only [PyData.hasDictAll]
  | _, d :: ds, h => by
    unfold DVs at h
    obtain ⟨v, r, e, h1, h2⟩ := h
    simp only [PyData.hasDictAll, dv_nodict d h1, dvs_nodict ds h2, Bool.or_self]
end
section
variable {X : Cx}
def rRepr : List V → Hp → VK → Prop := fun xs H Q => ∃ x d, xs = [x] ∧ DV H x d ∧ d.showable = true ∧ d.depth ≤ 60 ∧ d.shown.length ≤ sizeLine ∧ Q (.str d.shown) H
theorem call_repr (hg : X.A.guards = some []) (hu : X.A.units + 64 < cLine) : CallR X (.builtin "repr") rRepr := by
  intro pins s σ H xs us Q I r h
  obtain ⟨x, d, rfl, hd, hsh, hdp, hsz, q⟩ := h
  obtain ⟨u, rfl, ru⟩ := vals1 r
  have nd := dv_nodict d hd
  obtain ⟨as, rd⟩ := DV.reads I d hd ru
  cases d with
  | none =>
    unfold DV at hd
    subst hd
    cases ru
    have e : (PyData.none).shown = ("None" : Str) := PyData.shown_none
    rw [e] at q
    exact P.repr_of_none ⟨.str _, H, I.tok _, ⟨_, rfl⟩, q⟩
  | bool b =>
    unfold DV at hd
    subst hd
    cases ru
    have e : (PyData.bool b).shown = (if b then "True" else "False" : Str) := PyData.shown_bool b
    rw [e] at q
    exact P.repr_of_bool ⟨.str (if b then "True" else "False"), H, I.tok _, ⟨_, rfl⟩, q⟩
  | int i =>
    unfold DV at hd
    subst hd
    obtain ⟨t, rfl⟩ := ru
    have e : (PyData.int i).shown = ((toString i : String) : Str) := PyData.shown_int i
    rw [e] at q
    have hl : i.natAbs.log2 < 1920 := by simpa [PyData.showable] using hsh
    exact P.repr_of_int hl ⟨.str _, H, I.tok _, ⟨_, rfl⟩, q⟩
  | str y =>
    unfold DV at hd
    subst hd
    obtain ⟨t, rfl⟩ := ru
    have e : (PyData.str y).shown = reprText y := PyData.shown_str y
    rw [e] at q hsz
    exact P.repr_of_str ⟨.str _, H, I.tok _, ⟨_, rfl⟩, q⟩ hsz
  | list ds =>
    have hd' := hd
    unfold DV at hd'
    obtain ⟨a, ys, rfl, _, _⟩ := hd'
    cases ru
    exact repr_of_reads' rd hsh (PyData.noDict_hsm nd) hg (by omega) (fun _ _ e => e) (fun h' u tk hk => ⟨.str _, H, I.kept (t' := tk) hk, ⟨_, rfl⟩, q⟩) hsz
  | tuple ds =>
    have hd' := hd
    unfold DV at hd'
    obtain ⟨a, ys, rfl, _, _⟩ := hd'
    cases ru
    exact repr_of_reads' rd hsh (PyData.noDict_hsm nd) hg (by omega) (fun _ _ e => e) (fun h' u tk hk => ⟨.str _, H, I.kept (t' := tk) hk, ⟨_, rfl⟩, q⟩) hsz
  | dict _ =>
    unfold DV at hd
    exact hd.elim
end
end L2
set_option Elab.async false
set_option linter.all false
set_option maxRecDepth 100000
set_option maxHeartbeats 4000000
namespace L2
open PySem PySem.Spec PyProof.Rows
section
variable {prog : Program} {w : World} {A : Around} {E : Value → Shared → Prop} {s : Shared}
theorem tnext_item {jt tu : Addr} {n : Nat} {vals : Array Value} {y : Value} {R : Value → Shared → Prop} (a1 : s.heap.IsTupleIter jt tu n) (a2 : s.heap.IsTuple tu vals) (a3 : vals[n]? = some y)
    (q : ∀ g, g.IsTupleIter jt tu (n + 1) → Heap.SameBut jt s.heap g → R y { s with heap := g }) : wpAny (model prog w) A (Builtin.SmallTypes.nextOf (.ref jt)) R E s := by
  obtain ⟨ob, b1, b2, b3⟩ := id a1
  obtain ⟨ot, c1, _, m, c2⟩ := a2
  unfold Builtin.SmallTypes.nextOf
  refine wpAny_bind (wpAny_callSpecial?_slot (name := Str.ofString "__next__") a1.typeIs F.slot_tuple_iterator_next (wpAny_call_entry F.slot_tuple_iterator_next a1.typeIs F.entry_tuple_iterator_next ?_ (F.args_tuple_iterator_next_1 _)))
  show wpAny _ _ (field (.ref jt) 0 >>= _) _ _ s
  refine wpAny_bind (wpAny_field b1 b3 (x := .ref tu) rfl ?_)
  show wpAny _ _ (if (Value.ref tu == Value.none) = true then _ else _) _ _ s
  rw [if_neg (show ¬ ((Value.ref tu == Value.none) = true) from Bool.false_ne_true)]
  show wpAny _ _ (field (.ref jt) 1 >>= _) _ _ s
  refine wpAny_bind (wpAny_field b1 b3 (x := .int n 0) rfl ?_)
  show wpAny _ _ (seqItems? (.ref tu) >>= _) _ _ s
  refine wpAny_bind (wpAny_seqItems c1 c2 ?_)
  simp only [Int.toNat_natCast, a3]
  refine wpAny_bind (wpAny_setField b1 b3 (by simp) (wpAny_pure ⟨y, rfl, wpAny_pure (q _ ?_ (Heap.SameBut.update ..))⟩))
  refine ⟨_, Heap.get?_update_self _ b1 (Obj.isFreed_of_fields (Obj.data_mapFields b3 _)), (Obj.cls_mapFields ..).trans b2, ?_⟩
  rw [Obj.data_mapFields b3]
  simp [rawInt]
theorem tnext_end {jt tu : Addr} {n : Nat} {vals : Array Value} {R : Value → Shared → Prop} (hh : A.handled = none) (a1 : s.heap.IsTupleIter jt tu n) (a2 : s.heap.IsTuple tu vals) (a3 : vals[n]? = none)
    (q : ∀ g e, Heap.ExtBut jt s.heap g → (∃ o, g.get? e = some o ∧ o.cls = .type "StopIteration") → E (.ref e) { s with heap := g }) : wpAny (model prog w) A (Builtin.SmallTypes.nextOf (.ref jt)) R E s := by
  obtain ⟨ob, b1, b2, b3⟩ := id a1
  obtain ⟨ot, c1, _, m, c2⟩ := a2
  unfold Builtin.SmallTypes.nextOf
  refine wpAny_bind (wpAny_callSpecial?_slot (name := Str.ofString "__next__") a1.typeIs F.slot_tuple_iterator_next (wpAny_call_entry F.slot_tuple_iterator_next a1.typeIs F.entry_tuple_iterator_next ?_ (F.args_tuple_iterator_next_1 _)))
  show wpAny _ _ (field (.ref jt) 0 >>= _) _ _ s
  refine wpAny_bind (wpAny_field b1 b3 (x := .ref tu) rfl ?_)
  show wpAny _ _ (if (Value.ref tu == Value.none) = true then _ else _) _ _ s
  rw [if_neg (show ¬ ((Value.ref tu == Value.none) = true) from Bool.false_ne_true)]
  show wpAny _ _ (field (.ref jt) 1 >>= _) _ _ s
  refine wpAny_bind (wpAny_field b1 b3 (x := .int n 0) rfl ?_)
  show wpAny _ _ (seqItems? (.ref tu) >>= _) _ _ s
  refine wpAny_bind (wpAny_seqItems c1 c2 ?_)
  simp only [Int.toNat_natCast, a3]
  refine wpAny_bind (wpAny_rule (wpAny_bind (wpAny_setField b1 b3 (by simp) ?_)))
  show wpAny _ _ (newExc (.type "StopIteration") [] >>= _) _ _ _
  refine wpAny_bind ?_
  simp only [newExc, newTuple]
  refine wpAny_bind (wpAny_newObj_type ?_ (by show (0 : Nat) ≤ _; exact Nat.zero_le _))
  refine wpAny_bind (m := firstArgMember _ _) (wpAny_of_eq (a := Value.none) (by first | rfl | (simp only [firstArgMember]; rfl)) ?_)
  refine wpAny_newObj_type ?_
  simp only [raiseNew]
  refine wpAny_bind (wpAny_handled ?_)
  first | rw [show A.in1.handled = none from hh] | rw [hh]
  refine wpAny_bind (wpAny_pure (wpAny_throw ?_))
  exact q _ _ (((Heap.SameBut.update ..).extBut.push _).push _) ⟨_, Heap.get?_push_size _ rfl, rfl⟩
theorem draws_tup (hh : A.handled = none) (jt tu : Addr) (hne : tu ≠ jt) (vals : Array Value) : Draws prog w A jt [jt, tu] vals.size (fun i v => vals[i]? = some v) (fun i h => h.IsTupleIter jt tu i ∧ h.IsTuple tu vals) where
  live := fun _ _ st => let ⟨o, ho, _⟩ := st.1; ⟨o, ho⟩
  frame := fun _ _ _ st hk => ⟨st.1.at fun o e => hk jt (by simp) o e, let ⟨o, ho, r⟩ := st.2; ⟨o, hk tu (by simp) o ho, r⟩⟩
  item := fun i s Q E hi st hQ => by
    refine tnext_item st.1 st.2 (y := vals[i]) (by simp [hi]) fun g st' sb => ?_
    exact hQ _ g s.toks (by simp [hi]) ⟨st', let ⟨o, ho, r⟩ := st.2; ⟨o, sb.extBut _ _ hne ho, r⟩⟩ sb
  done := fun s Q E st hE => tnext_end hh st.1 st.2 (by simp) hE
end
theorem meets_enum_tup (tu : Addr) (vals : Array Value) (n : Nat) (dct : Option Addr) (sl : Array (Option Value)) :
    Meets (Builtin.«enumerate.__new__» ⟨[.type "enumerate", .ref tu], []⟩) (fun _ R s => s.heap.get? tu = some { cls := .type "tuple", dict := dct, data := .seq vals n, slots := sl } ∧
      R (.ok (.ret (.ref (s.heap.push { cls := .type "tuple_iterator", data := .fields #[.ref tu, .int 0 0] }).objs.size)))
        { s with heap := (s.heap.push { cls := .type "tuple_iterator", data := .fields #[.ref tu, .int 0 0] }).push { cls := .type "enumerate", data := .fields #[.none, .bool false, .ref s.heap.objs.size, rawInt 0, .none, .none] } }) :=
  .of_wp fun prog w A R s h => by
    obtain ⟨hp, g, d, tk, os⟩ := s
    obtain ⟨ht, h⟩ := h
    have hsub := sub_enumerate
    have hT : Heap.IsTuple (Shared.heap ⟨hp, g, d, tk, os⟩) tu vals := ⟨_, ht, rfl, n, rfl⟩
    wp_walk using AutoSeq1.wpAny_loadPart' ht
    refine wpAny_stack_any fun st => wpAny_pure ?_
    split
    · rename_i c _ _ _ _ _
      cases (c == Value.type "enumerate")
      · wp_walk using AutoSeq1.wpAny_loadPart' ht, wpAny_pyIter_tuple hT
        exact ⟨_, rfl, h⟩
      · wp_walk using AutoSeq1.wpAny_loadPart' ht, wpAny_pyIter_tuple hT
        exact ⟨_, rfl, h⟩
    · wp_walk using AutoSeq1.wpAny_loadPart' ht, wpAny_pyIter_tuple hT
      exact ⟨_, rfl, h⟩
end L2
set_option Elab.async false
set_option linter.all false
set_option maxRecDepth 100000
set_option maxHeartbeats 4000000
namespace L2
open PySem PySem.Spec PyProof.Rows
section
variable {prog : Program} {w : World} {A : Around} {E : Value → Shared → Prop} {s : Shared}
theorem call_enum_tup {tu : Addr} {vals : Array Value} {Q : Value → Shared → Prop} (hT : s.heap.IsTuple tu vals)
    (h : ∀ g, IsEnum g (s.heap.objs.size + 1) s.heap.objs.size 0 .none → g.IsTupleIter s.heap.objs.size tu 0 → g.objs.size = s.heap.objs.size + 2 →
      (∀ b o, s.heap.get? b = some o → g.get? b = some o) → Q (.ref (s.heap.objs.size + 1)) { s with heap := g }) :
    wpAny (model prog w) A (call (.type "enumerate") [.ref tu]) Q E s := by
  obtain ⟨⟨c, dct, dt, sl⟩, hl, hc, n, hd⟩ := hT
  have hc' : c = .type "tuple" := hc
  have hd' : dt = .seq vals n := hd
  subst hc' hd'
  refine callType_new F.called_enumerate (by decide) (F.typeCall_enumerate_1 _) (F.newCall_enumerate_1 _) (fun ob => F.args_object_init_2 ob _) F.entry_enumerate_new (meets_enum_tup tu vals n dct sl) ⟨hl, ?_⟩
  have sz1 : (s.heap.push { cls := .type "tuple_iterator", data := .fields #[.ref tu, .int 0 0] }).objs.size = s.heap.objs.size + 1 := Heap.size_push ..
  show _ ∧ _
  rw [sz1]
  have g2 := Heap.get?_push_size (s.heap.push { cls := .type "tuple_iterator", data := .fields #[.ref tu, .int 0 0] }) (o := { cls := .type "enumerate", data := .fields #[.none, .bool false, .ref s.heap.objs.size, rawInt 0, .none, .none] }) rfl
  rw [sz1] at g2
  refine ⟨⟨_, g2, rfl⟩, h _ g2 ⟨_, Heap.get?_push_of_some _ (Heap.get?_push_size _ rfl), rfl, rfl⟩ (by rw [Heap.size_push, sz1]) fun b o x => Heap.get?_push_of_some _ (Heap.get?_push_of_some _ x)⟩
theorem enumT_end {e it tu : Addr} {i : Int} {n : Nat} {vals : Array Value} {old : Value} {Q : Option Value → Shared → Prop} (hh : A.handled = none) (he : IsEnum s.heap e it i old) (a1 : s.heap.IsTupleIter it tu n) (a2 : s.heap.IsTuple tu vals) (a3 : vals[n]? = none)
    (q : ∀ g, Heap.ExtBut it s.heap g → Q none { s with heap := g }) : wpAny (model prog w) A (pyNext (.ref e)) Q E s := by
  have ty : s.TypeIs (.ref e) "enumerate" := ⟨_, he, rfl⟩
  unfold pyNext
  refine wpAny_bind (wpAny_attempt (wpAny_callSpecial?_slot (name := Str.ofString "__next__") ty F.slot_enumerate_next (wpAny_call_entry F.slot_enumerate_next ty F.entry_enumerate_next ?_ (F.args_enumerate_next_1 _))))
  show wpAny _ _ (field (.ref e) 2 >>= _) _ _ _
  refine wpAny_bind (wpAny_field he rfl (x := .ref it) rfl ?_)
  refine wpAny_bind (tnext_end hh a1 a2 a3 fun g x k hx => ?_)
  obtain ⟨o, ho, hc⟩ := hx
  exact wpAny_bind (wpAny_isInstance (T := "StopIteration") (b := true) ⟨o, ho, hc⟩ isSubtype_stop (wpAny_pure (q _ k)))
end
def ItT (K : PySem.W.Frag) (a : Addr) : It :=
  ⟨fun i H => ∃ xs x, SqT K H a xs ∧ xs[i]? = some x,
   fun i H y H' => ∃ p x, y = .ref p ∧ H p = none ∧ H' = upd H p (.tup [.int i, x]) ∧ ∀ xs, SqT K H a xs → xs[i]? = some x,
   fun i H => ∃ xs, SqT K H a xs ∧ xs.length ≤ i⟩
theorem turn_enumT {P : Program} {w : World} {K : PySem.W.Frag} {elts : List Expr} {k : Nat} {tp : Pos} (a e it : Addr) (hei : e ≠ it) (hai : a ≠ it) :
    Turn P w K (.Tuple elts k tp) (ItT K a) [e, it] e (fun i h => (∃ old, IsEnum h e it i old) ∧ h.IsTupleIter it a i) where
  mem := by simp
  obj := fun i h st b hb => by
    obtain ⟨⟨old, he⟩, o, ho, hc, hd⟩ := st
    have hb' : b = e ∨ b = it := by simpa using hb
    rcases hb' with rfl | rfl
    · exact ⟨_, he, fun v z => by
        have z' : Data.fields _ = Data.cell v := z
        cases z'⟩
    · exact ⟨o, ho, fun v z => by rw [hd] at z; cases z⟩
  keep := fun i h h' st kp => ⟨let ⟨old, he⟩ := st.1; ⟨old, kp e (by simp) _ he⟩, st.2.at fun o q => kp it (by simp) o q⟩
  item := by
    intro X hP hw hK hc i pins s σ H E I hf st hg
    subst hP hw hK
    obtain ⟨xs, x, hq, hx⟩ := hg
    obtain ⟨its, rv, pt, hz⟩ := I.tuple hq
    obtain ⟨u, hu, ru⟩ := rv.get hx
    obtain ⟨⟨old, he⟩, hit⟩ := st
    have hT : s.heap.IsTuple a its.toArray := pt
    have hea : e ≠ a := fun z => by
      subst z
      obtain ⟨o, e1, e2, _⟩ := id hT
      have he' : s.heap.get? e = some _ := he
      rw [e1] at he'
      cases he'
      simp at e2
    have hu' : its.toArray[i]? = some u := by simpa using hu
    have hlt : i < its.toArray.size := (Array.getElem?_eq_some_iff.mp hu').1
    refine wpAny_pyNext_enum_itemD (draws_tup (A := X.A.in1) (show X.A.in1.handled = none from I.ok.hd hc) it a hai its.toArray) he ⟨hit, hT⟩ hlt hei (by simp [hei, hea]) fun y h1 tk hy ho1 st1 ht1 hz1 hk1 => ?_
    rw [hu'] at hy
    cases hy
    refine ⟨_, rfl, wpAny_letOwnedTupleGo_enum ho1 fun h2 he2 hs2 => ?_⟩
    have eL : e < s.heap.objs.size := Heap.lt_size he
    have ht2 : h2.get? s.heap.objs.size = some { cls := .type "tuple", data := .seq #[.int i tk, u] } := (hs2.2 _ (Nat.ne_of_gt eL)).trans ht1
    have hit2 : h2.IsTupleIter it a (i + 1) := st1.1.at fun o q => hs2.extBut _ _ hei.symm q
    have I2 : Inv X pins σ (upd H s.heap.objs.size (.tup [.int i, x])) { s with heap := h2, toks := tk + 1 } := by
      refine I.turnedLaid (fp := [e, it]) hf (Nat.le_refl _) (fun b ob hb q => ?_) (fun b hb => ?_) ?_
      · have h1 : b ≠ e := fun z => hb (by simp [z])
        have h2' : b ≠ it := fun z => hb (by simp [z])
        exact (hs2.2 b h1).trans (hk1 b ob h1 h2' q)
      · have hb' : b = e ∨ b = it := by simpa using hb
        rcases hb' with rfl | rfl
        · exact ⟨_, he2⟩
        · obtain ⟨o, ho, _⟩ := hit2
          exact ⟨o, ho⟩
      · refine ⟨(by show 2 ≤ sizeLine; decide), [.int i tk, u], .cons ⟨_, rfl⟩ (.cons ru .nil), ?_⟩
        exact ⟨_, ht2, rfl, _, rfl⟩
    have fr : ∀ b ∈ [e, it], upd H s.heap.objs.size (.tup [.int i, x]) b = none := fun b hb => by
      have hlt : b < s.heap.objs.size := by
        have hb' : b = e ∨ b = it := by simpa using hb
        rcases hb' with rfl | rfl
        · exact eL
        · obtain ⟨o, ho, _⟩ := hit
          exact Heap.lt_size ho
      rw [upd_ne (Nat.ne_of_lt hlt)]
      exact (hf b hb).1
    exact ⟨.ref s.heap.objs.size, _, I2, rfl, ⟨_, x, rfl, I.fresh, rfl, fun ys hy => by rw [I.tuple_inj hy hq]; exact hx⟩, ⟨⟨_, he2⟩, hit2⟩, fr⟩
  done := by
    intro X hP hw hK hc i pins s σ H E I hf st hg
    subst hP hw hK
    obtain ⟨xs, hq, hx⟩ := hg
    obtain ⟨its, rv, pt, hz⟩ := I.tuple hq
    obtain ⟨⟨old, he⟩, hit⟩ := st
    obtain ⟨f0, f1, f2, f3, f4, f5⟩ := hf it (by simp)
    have hl := rv.length
    have hT : s.heap.IsTuple a its.toArray := pt
    exact enumT_end (I.ok.hd hc) he hit hT (by simp; omega) fun h' eb => ⟨rfl, I.turned (t' := s.toks) (fun b o hb q => eb b o hb q) f0 f1 f3 f4 f5⟩
  self := fun _ _ _ _ _ st h => let ⟨⟨_, he⟩, _⟩ := st; wpAny_pyIter_enum he h
section
variable {X : Cx} {K : PySem.W.Frag}
end
end L2
set_option Elab.async false
set_option linter.all false
set_option maxRecDepth 100000
set_option maxHeartbeats 4000000
namespace L2
open PySem PySem.Spec PyProof.Rows
section
open PySem.SeqAt
end
end L2
set_option Elab.async false
set_option linter.all false
set_option maxRecDepth 100000
set_option maxHeartbeats 4000000
namespace L2
open PySem PySem.Spec PyProof.Rows
def Rp (H : Hp) (v : V) (txt : Str) : Prop := (∃ d, DV H v d ∧ d.showable = true ∧ d.depth ≤ 60 ∧ d.shown.length ≤ sizeLine ∧ txt = d.shown) ∨ ∃ a, v = .ref a ∧ H a = some (.dK []) ∧ txt = ("{}" : Str)
theorem Rp.same {H H' : Hp} {v : V} {txt : Str} (h : Rp H v txt) (s : Same H H') : Rp H' v txt := by
  rcases h with ⟨d, a, b, c, e, f⟩ | ⟨a, e, h, t⟩
  · exact .inl ⟨d, a.same s d, b, c, e, f⟩
  · exact .inr ⟨a, e, s _ _ h, t⟩
section
variable {X : Cx}
def rRepr2 : List V → Hp → VK → Prop := fun xs H Q => ∃ x txt, xs = [x] ∧ Rp H x txt ∧ Q (.str txt) H
theorem call_repr2 (hg : X.A.guards = some []) (hu : X.A.units + 64 < cLine) : CallR X (.builtin "repr") rRepr2 := by
  intro pins s σ H xs us Q I r h
  obtain ⟨x, txt, rfl, hd, q⟩ := h
  rcases hd with ⟨d, h1, h2, h3, h4, rfl⟩ | ⟨a, rfl, ha, rfl⟩
  · exact call_repr hg hu pins s σ H _ us Q I r ⟨x, d, rfl, h1, h2, h3, h4, q⟩
  · obtain ⟨u, rfl, ru⟩ := vals1 r
    cases ru
    obtain ⟨_, hsys, vs, kv, dd⟩ := dk_of I.hok ha
    have hv : vs = [] := by
      have e := KV.length kv
      exact List.length_eq_zero_iff.mp e.symm
    subst hv
    have rd : Reads s.heap (.ref a) (.dict []) (a :: [] ++ []) := by
      obtain ⟨o, es, n, g1, g2, g3, _, g5, _⟩ := dd
      have h0 : es.toList = [] := by
        generalize es.toList = L at g5
        cases g5
        rfl
      refine .dict g1 g2.1 g3 ?_ ?_
      · rw [h0]
        exact .nil
      · rw [h0]
        exact .nil
    have e : (PyData.dict []).shown = ("{}" : Str) := by decide +kernel
    refine repr_of_reads' rd (by decide +kernel) (fun _ hm => ?_) hg (by show X.A.units + (1 + 1) < cLine; omega) (fun _ _ e => e) (fun h' u tk hk => ⟨.str _, H, I.kept (t' := tk) hk, ⟨_, rfl⟩, ?_⟩) (by rw [e]; decide)
    · have hm' : sysModules = a := by simpa using hm
      rw [← hm'] at hsys
      simp at hsys
    · rw [e]
      exact q
end
end L2
set_option Elab.async false
set_option linter.all false
set_option maxRecDepth 100000
set_option maxHeartbeats 4000000
namespace L2
open PySem PySem.Spec PyProof.Rows
abbrev D := PyData
abbrev En := List (Option D)
abbrev AS := Addr → Prop
def dn : Nat → Nat
  | 0 => 0
  | 1 => 0
  | 2 => 1
  | n + 3 => n + 3
theorem dn_mono : ∀ {a b : Nat}, a ≤ b → dn a ≤ dn b
  | 0, _, _ => Nat.zero_le _
  | 1, _, _ => Nat.zero_le _
  | 2, 2, _ => Nat.le_refl _
  | 2, b + 3, _ => by show 1 ≤ b + 3; omega
  | a + 3, b + 3, h => h
  | a + 3, 0, h => by omega
  | a + 3, 1, h => by omega
  | a + 3, 2, h => by omega
  | 2, 0, h => by omega
  | 2, 1, h => by omega
def kD : Key → D
  | .inl i => .int i
  | .inr x => .str x
def FzL (K : PySem.W.Frag) (O : AS) (H : Hp) (a : Addr) (vs : List V) : Prop := (Rd H a (.lst vs) ∧ ¬ O a) ∨ ∀ H', SqL K H' a vs
def FzT (K : PySem.W.Frag) (O : AS) (H : Hp) (a : Addr) (vs : List V) : Prop := H a = some (.tup vs) ∧ ¬ O a
theorem FzL.sq {K : PySem.W.Frag} {O : AS} {H : Hp} {a : Addr} {vs : List V} (h : FzL K O H a vs) : SqL K H a vs := h.elim (fun h => .inl h.1) fun h => h H
theorem FzT.sq {K : PySem.W.Frag} {O : AS} {H : Hp} {a : Addr} {vs : List V} (h : FzT K O H a vs) : SqT K H a vs := SqT.of h.1
mutual
def Ow (K : PySem.W.Frag) (O : AS) (H : Hp) : D → Nat → V → AS → Prop
  | .none, _, v, _ => v = .non
  | .bool b, _, v, _ => v = .bl b
  | .int i, _, v, _ => v = .int i
  | .str x, _, v, _ => v = .str x
  | .tuple ts, d, v, F => ∃ a vs, v = .ref a ∧ ((d = 0 ∧ FzT K O H a vs ∧ Ows K O H ts 0 vs F) ∨ (d ≠ 0 ∧ H a = some (.tup vs) ∧ F a ∧ ∃ F' : AS, (∀ b, F' b → F b ∧ b ≠ a) ∧ Ows K O H ts (dn d) vs F'))
  | .list ts, d, v, F => ∃ a vs, v = .ref a ∧ ((d = 0 ∧ FzL K O H a vs ∧ Ows K O H ts 0 vs F) ∨ (d ≠ 0 ∧ H a = some (.lst vs) ∧ F a ∧ ∃ F' : AS, (∀ b, F' b → F b ∧ b ≠ a) ∧ Ows K O H ts (dn d) vs F'))
  | .dict ks, d, v, F => ∃ a vs, v = .ref a ∧ ((d = 0 ∧ H a = some (.dK vs) ∧ ¬ O a ∧ Owd K O H ks 0 vs F) ∨ (d ≠ 0 ∧ H a = some (.dK vs) ∧ F a ∧ ∃ F' : AS, (∀ b, F' b → F b ∧ b ≠ a) ∧ Owd K O H ks (dn d) vs F'))
def Ows (K : PySem.W.Frag) (O : AS) (H : Hp) : List D → Nat → List V → AS → Prop
  | [], _, vs, _ => vs = []
  | t :: ts, d, vs, F => ∃ v r, ∃ F1 F2 : AS, vs = v :: r ∧ (∀ b, F1 b → F b) ∧ (∀ b, F2 b → F b) ∧ (∀ b, F1 b → ¬ F2 b) ∧ Ow K O H t d v F1 ∧ Ows K O H ts d r F2
def Owd (K : PySem.W.Frag) (O : AS) (H : Hp) : List (D × D) → Nat → List (Key × V) → AS → Prop
  | [], _, vs, _ => vs = []
  | (k, t) :: ts, d, vs, F => ∃ q v r, ∃ F1 F2 : AS, vs = (q, v) :: r ∧ k = kD q ∧ (∀ b, F1 b → F b) ∧ (∀ b, F2 b → F b) ∧ (∀ b, F1 b → ¬ F2 b) ∧ Ow K O H t d v F1 ∧ Owd K O H ts d r F2
end
section
variable {K : PySem.W.Frag} {O O' : AS} {H H' : Hp}
theorem Rd.mv {a : Addr} {u : HO} (hk : ∀ o, H a = some o → H' a = some o) (h : Rd H a u) : Rd H' a u := by
  rcases h with h | ⟨o, h⟩
  · exact .inl (hk _ h)
  · exact .inr ⟨o, hk _ h⟩
theorem Rd.there {a : Addr} {u : HO} (h : Rd H a u) : H a ≠ none := by
  rcases h with h | ⟨o, h⟩ <;> rw [h] <;> exact fun z => nomatch z
structure Mv (O O' : AS) (G : AS) (H H' : Hp) : Prop where
  k : ∀ a o, H a = some o → (¬ O a ∨ G a) → H' a = some o
  o : ∀ a, O' a → O a ∨ H a = none
theorem FzL.mv {G : AS} {a : Addr} {vs : List V} (m : Mv O O' G H H') (h : FzL K O H a vs) : FzL K O' H' a vs := by
  rcases h with ⟨h, n⟩ | h
  · refine .inl ⟨h.mv fun o e => m.k _ _ e (.inl n), fun z => ?_⟩
    rcases m.o _ z with z | z
    · exact n z
    · exact h.there z
  · exact .inr h
theorem FzT.mv {G : AS} {a : Addr} {vs : List V} (m : Mv O O' G H H') (h : FzT K O H a vs) : FzT K O' H' a vs := by
  obtain ⟨h, n⟩ := h
  refine ⟨m.k _ _ h (.inl n), fun z => ?_⟩
  rcases m.o _ z with z | z
  · exact n z
  · rw [h] at z; cases z
mutual
theorem Ow.mv {G : AS} (m : Mv O O' G H H') : ∀ (t : D) {d : Nat} {v : V} {F : AS}, (∀ b, F b → G b) → Ow K O H t d v F → Ow K O' H' t d v F
  | .none, _, _, _, _, h => h
  | .bool _, _, _, _, _, h => h
  | .int _, _, _, _, _, h => h
  | .str _, _, _, _, _, h => h
  | .tuple ts, _, _, _, g, h => by
    obtain ⟨a, vs, e, ⟨h0, h1, h2⟩ | ⟨h0, h1, h2, F', hf, h3⟩⟩ := h
    · exact ⟨a, vs, e, .inl ⟨h0, h1.mv m, Ows.mv m ts g h2⟩⟩
    · exact ⟨a, vs, e, .inr ⟨h0, m.k _ _ h1 (.inr (g _ h2)), h2, F', hf, Ows.mv m ts (fun b hb => g _ (hf b hb).1) h3⟩⟩
  | .list ts, _, _, _, g, h => by
    obtain ⟨a, vs, e, ⟨h0, h1, h2⟩ | ⟨h0, h1, h2, F', hf, h3⟩⟩ := h
    · exact ⟨a, vs, e, .inl ⟨h0, h1.mv m, Ows.mv m ts g h2⟩⟩
    · exact ⟨a, vs, e, .inr ⟨h0, m.k _ _ h1 (.inr (g _ h2)), h2, F', hf, Ows.mv m ts (fun b hb => g _ (hf b hb).1) h3⟩⟩
  | .dict ks, _, _, _, g, h => by
    obtain ⟨a, vs, e, ⟨h0, h1, hn, h2⟩ | ⟨h0, h1, h2, F', hf, h3⟩⟩ := h
    · refine ⟨a, vs, e, .inl ⟨h0, m.k _ _ h1 (.inl hn), fun z => ?_, Owd.mv m ks g h2⟩⟩
      rcases m.o _ z with z | z
      · exact hn z
      · rw [h1] at z; cases z
    · exact ⟨a, vs, e, .inr ⟨h0, m.k _ _ h1 (.inr (g _ h2)), h2, F', hf, Owd.mv m ks (fun b hb => g _ (hf b hb).1) h3⟩⟩
theorem Ows.mv {G : AS} (m : Mv O O' G H H') : ∀ (ts : List D) {d : Nat} {vs : List V} {F : AS}, (∀ b, F b → G b) → Ows K O H ts d vs F → Ows K O' H' ts d vs F
  | [], _, _, _, _, h => h
  | t :: ts, _, _, _, g, h => by
    obtain ⟨v, r, F1, F2, e, h1, h2, h3, h4, h5⟩ := h
    exact ⟨v, r, F1, F2, e, h1, h2, h3, Ow.mv m t (fun b hb => g _ (h1 b hb)) h4, Ows.mv m ts (fun b hb => g _ (h2 b hb)) h5⟩
theorem Owd.mv {G : AS} (m : Mv O O' G H H') : ∀ (ts : List (D × D)) {d : Nat} {vs : List (Key × V)} {F : AS}, (∀ b, F b → G b) → Owd K O H ts d vs F → Owd K O' H' ts d vs F
  | [], _, _, _, _, h => h
  | (k, t) :: ts, _, _, _, g, h => by
    obtain ⟨q, v, r, F1, F2, e, e2, h1, h2, h3, h4, h5⟩ := h
    exact ⟨q, v, r, F1, F2, e, e2, h1, h2, h3, Ow.mv m t (fun b hb => g _ (h1 b hb)) h4, Owd.mv m ts (fun b hb => g _ (h2 b hb)) h5⟩
end
theorem FzL.sub {a : Addr} {vs : List V} (ho : ∀ a, O' a → O a) (h : FzL K O H a vs) : FzL K O' H a vs := h.imp (fun h => ⟨h.1, fun z => h.2 (ho _ z)⟩) id
theorem FzT.sub {a : Addr} {vs : List V} (ho : ∀ a, O' a → O a) (h : FzT K O H a vs) : FzT K O' H a vs := ⟨h.1, fun z => h.2 (ho _ z)⟩
mutual
theorem Ow.cut : ∀ (t : D) {d d' : Nat} {v : V} {F : AS}, d' ≤ d → Ow K O H t d v F → ∃ F' : AS, (∀ b, F' b → F b) ∧ ∀ O' : AS, (∀ a, O' a → O a) → (∀ a, F a → O' a → F' a) → Ow K O' H t d' v F'
  | .none, _, _, _, F, _, h => ⟨F, fun _ z => z, fun _ _ _ => h⟩
  | .bool _, _, _, _, F, _, h => ⟨F, fun _ z => z, fun _ _ _ => h⟩
  | .int _, _, _, _, F, _, h => ⟨F, fun _ z => z, fun _ _ _ => h⟩
  | .str _, _, _, _, F, _, h => ⟨F, fun _ z => z, fun _ _ _ => h⟩
  | .tuple ts, d, d', _, F, hd, h => by
    obtain ⟨a, vs, e, ⟨h0, h1, h2⟩ | ⟨h0, h1, h2, G, hg, h3⟩⟩ := h
    · subst h0
      have e0 : d' = 0 := by omega
      subst e0
      obtain ⟨F', s1, s2⟩ := Ows.cut ts (Nat.le_refl _) h2
      exact ⟨F', s1, fun O' ho hx => ⟨a, vs, e, .inl ⟨rfl, h1.sub ho, s2 O' ho hx⟩⟩⟩
    · by_cases e0 : d' = 0
      · subst e0
        obtain ⟨F', s1, s2⟩ := Ows.cut ts (Nat.zero_le _) h3
        refine ⟨F', fun b hb => (hg _ (s1 b hb)).1, fun O' ho hx => ⟨a, vs, e, .inl ⟨rfl, ⟨h1, fun z => (hg _ (s1 _ (hx _ h2 z))).2 rfl⟩, s2 O' ho fun b hb => hx b (hg b hb).1⟩⟩⟩
      · obtain ⟨F', s1, s2⟩ := Ows.cut ts (dn_mono hd) h3
        refine ⟨fun b => b = a ∨ F' b, fun b hb => hb.elim (fun z => z ▸ h2) fun z => (hg _ (s1 b z)).1, fun O' ho hx => ⟨a, vs, e, .inr ⟨e0, h1, .inl rfl, F', fun b hb => ⟨.inr hb, (hg _ (s1 b hb)).2⟩, s2 O' ho fun b hb hz => ?_⟩⟩⟩
        exact (hx b (hg b hb).1 hz).elim (fun z => absurd z (hg b hb).2) id
  | .list ts, d, d', _, F, hd, h => by
    obtain ⟨a, vs, e, ⟨h0, h1, h2⟩ | ⟨h0, h1, h2, G, hg, h3⟩⟩ := h
    · subst h0
      have e0 : d' = 0 := by omega
      subst e0
      obtain ⟨F', s1, s2⟩ := Ows.cut ts (Nat.le_refl _) h2
      exact ⟨F', s1, fun O' ho hx => ⟨a, vs, e, .inl ⟨rfl, h1.sub ho, s2 O' ho hx⟩⟩⟩
    · by_cases e0 : d' = 0
      · subst e0
        obtain ⟨F', s1, s2⟩ := Ows.cut ts (Nat.zero_le _) h3
        refine ⟨F', fun b hb => (hg _ (s1 b hb)).1, fun O' ho hx => ⟨a, vs, e, .inl ⟨rfl, .inl ⟨.inl h1, fun z => (hg _ (s1 _ (hx _ h2 z))).2 rfl⟩, s2 O' ho fun b hb => hx b (hg b hb).1⟩⟩⟩
      · obtain ⟨F', s1, s2⟩ := Ows.cut ts (dn_mono hd) h3
        refine ⟨fun b => b = a ∨ F' b, fun b hb => hb.elim (fun z => z ▸ h2) fun z => (hg _ (s1 b z)).1, fun O' ho hx => ⟨a, vs, e, .inr ⟨e0, h1, .inl rfl, F', fun b hb => ⟨.inr hb, (hg _ (s1 b hb)).2⟩, s2 O' ho fun b hb hz => ?_⟩⟩⟩
        exact (hx b (hg b hb).1 hz).elim (fun z => absurd z (hg b hb).2) id
  | .dict ts, d, d', _, F, hd, h => by
    obtain ⟨a, vs, e, ⟨h0, h1, hn, h2⟩ | ⟨h0, h1, h2, G, hg, h3⟩⟩ := h
    · subst h0
      have e0 : d' = 0 := by omega
      subst e0
      obtain ⟨F', s1, s2⟩ := Owd.cut ts (Nat.le_refl _) h2
      exact ⟨F', s1, fun O' ho hx => ⟨a, vs, e, .inl ⟨rfl, h1, fun z => hn (ho _ z), s2 O' ho hx⟩⟩⟩
    · by_cases e0 : d' = 0
      · subst e0
        obtain ⟨F', s1, s2⟩ := Owd.cut ts (Nat.zero_le _) h3
        refine ⟨F', fun b hb => (hg _ (s1 b hb)).1, fun O' ho hx => ⟨a, vs, e, .inl ⟨rfl, h1, fun z => (hg _ (s1 _ (hx _ h2 z))).2 rfl, s2 O' ho fun b hb => hx b (hg b hb).1⟩⟩⟩
      · obtain ⟨F', s1, s2⟩ := Owd.cut ts (dn_mono hd) h3
        refine ⟨fun b => b = a ∨ F' b, fun b hb => hb.elim (fun z => z ▸ h2) fun z => (hg _ (s1 b z)).1, fun O' ho hx => ⟨a, vs, e, .inr ⟨e0, h1, .inl rfl, F', fun b hb => ⟨.inr hb, (hg _ (s1 b hb)).2⟩, s2 O' ho fun b hb hz => ?_⟩⟩⟩
        exact (hx b (hg b hb).1 hz).elim (fun z => absurd z (hg b hb).2) id
theorem Ows.cut : ∀ (ts : List D) {d d' : Nat} {vs : List V} {F : AS}, d' ≤ d → Ows K O H ts d vs F → ∃ F' : AS, (∀ b, F' b → F b) ∧ ∀ O' : AS, (∀ a, O' a → O a) → (∀ a, F a → O' a → F' a) → Ows K O' H ts d' vs F'
  | [], _, _, _, F, _, h => ⟨F, fun _ z => z, fun _ _ _ => h⟩
  | t :: ts, _, _, _, F, hd, h => by
    obtain ⟨v, r, F1, F2, e, h1, h2, h3, h4, h5⟩ := h
    obtain ⟨G1, a1, a2⟩ := Ow.cut t hd h4
    obtain ⟨G2, b1, b2⟩ := Ows.cut ts hd h5
    refine ⟨fun b => G1 b ∨ G2 b, fun b hb => hb.elim (fun z => h1 _ (a1 _ z)) fun z => h2 _ (b1 _ z), fun O' ho hx => ⟨v, r, G1, G2, e, fun b => .inl, fun b => .inr, fun b z1 z2 => h3 b (a1 b z1) (b1 b z2), a2 O' ho fun b hb hz => ?_, b2 O' ho fun b hb hz => ?_⟩⟩
    · exact (hx b (h1 b hb) hz).elim id fun z => absurd (b1 b z) (h3 b hb)
    · exact (hx b (h2 b hb) hz).elim (fun z => absurd hb (h3 b (a1 b z))) id
theorem Owd.cut : ∀ (ts : List (D × D)) {d d' : Nat} {vs : List (Key × V)} {F : AS}, d' ≤ d → Owd K O H ts d vs F → ∃ F' : AS, (∀ b, F' b → F b) ∧ ∀ O' : AS, (∀ a, O' a → O a) → (∀ a, F a → O' a → F' a) → Owd K O' H ts d' vs F'
  | [], _, _, _, F, _, h => ⟨F, fun _ z => z, fun _ _ _ => h⟩
  | (k, t) :: ts, _, _, _, F, hd, h => by
    obtain ⟨q, v, r, F1, F2, e, e2, h1, h2, h3, h4, h5⟩ := h
    obtain ⟨G1, a1, a2⟩ := Ow.cut t hd h4
    obtain ⟨G2, b1, b2⟩ := Owd.cut ts hd h5
    refine ⟨fun b => G1 b ∨ G2 b, fun b hb => hb.elim (fun z => h1 _ (a1 _ z)) fun z => h2 _ (b1 _ z), fun O' ho hx => ⟨q, v, r, G1, G2, e, e2, fun b => .inl, fun b => .inr, fun b z1 z2 => h3 b (a1 b z1) (b1 b z2), a2 O' ho fun b hb hz => ?_, b2 O' ho fun b hb hz => ?_⟩⟩
    · exact (hx b (h1 b hb) hz).elim id fun z => absurd (b1 b z) (h3 b hb)
    · exact (hx b (h2 b hb) hz).elim (fun z => absurd hb (h3 b (a1 b z))) id
end
mutual
theorem Ow.grow (ho : ∀ a, O' a → O a) : ∀ (t : D) {d : Nat} {v : V} {F F' : AS}, (∀ b, F b → F' b) → Ow K O H t d v F → Ow K O' H t d v F'
  | .none, _, _, _, _, _, h => h
  | .bool _, _, _, _, _, _, h => h
  | .int _, _, _, _, _, _, h => h
  | .str _, _, _, _, _, _, h => h
  | .tuple ts, _, _, _, _, hf, h => by
    obtain ⟨a, vs, e, ⟨h0, h1, h2⟩ | ⟨h0, h1, h2, G, hg, h3⟩⟩ := h
    · exact ⟨a, vs, e, .inl ⟨h0, h1.sub ho, Ows.grow ho ts hf h2⟩⟩
    · exact ⟨a, vs, e, .inr ⟨h0, h1, hf _ h2, G, fun b hb => ⟨hf _ (hg b hb).1, (hg b hb).2⟩, Ows.grow ho ts (fun _ z => z) h3⟩⟩
  | .list ts, _, _, _, _, hf, h => by
    obtain ⟨a, vs, e, ⟨h0, h1, h2⟩ | ⟨h0, h1, h2, G, hg, h3⟩⟩ := h
    · exact ⟨a, vs, e, .inl ⟨h0, h1.sub ho, Ows.grow ho ts hf h2⟩⟩
    · exact ⟨a, vs, e, .inr ⟨h0, h1, hf _ h2, G, fun b hb => ⟨hf _ (hg b hb).1, (hg b hb).2⟩, Ows.grow ho ts (fun _ z => z) h3⟩⟩
  | .dict ts, _, _, _, _, hf, h => by
    obtain ⟨a, vs, e, ⟨h0, h1, hn, h2⟩ | ⟨h0, h1, h2, G, hg, h3⟩⟩ := h
    · exact ⟨a, vs, e, .inl ⟨h0, h1, fun z => hn (ho _ z), Owd.grow ho ts hf h2⟩⟩
    · exact ⟨a, vs, e, .inr ⟨h0, h1, hf _ h2, G, fun b hb => ⟨hf _ (hg b hb).1, (hg b hb).2⟩, Owd.grow ho ts (fun _ z => z) h3⟩⟩
theorem Ows.grow (ho : ∀ a, O' a → O a) : ∀ (ts : List D) {d : Nat} {vs : List V} {F F' : AS}, (∀ b, F b → F' b) → Ows K O H ts d vs F → Ows K O' H ts d vs F'
  | [], _, _, _, _, _, h => h
  | t :: ts, _, _, _, _, hf, h => by
    obtain ⟨v, r, F1, F2, e, h1, h2, h3, h4, h5⟩ := h
    exact ⟨v, r, F1, F2, e, fun b z => hf _ (h1 b z), fun b z => hf _ (h2 b z), h3, Ow.grow ho t (fun _ z => z) h4, Ows.grow ho ts (fun _ z => z) h5⟩
theorem Owd.grow (ho : ∀ a, O' a → O a) : ∀ (ts : List (D × D)) {d : Nat} {vs : List (Key × V)} {F F' : AS}, (∀ b, F b → F' b) → Owd K O H ts d vs F → Owd K O' H ts d vs F'
  | [], _, _, _, _, _, h => h
  | (k, t) :: ts, _, _, _, _, hf, h => by
    obtain ⟨q, v, r, F1, F2, e, e2, h1, h2, h3, h4, h5⟩ := h
    exact ⟨q, v, r, F1, F2, e, e2, fun b z => hf _ (h1 b z), fun b z => hf _ (h2 b z), h3, Ow.grow ho t (fun _ z => z) h4, Owd.grow ho ts (fun _ z => z) h5⟩
end
mutual
theorem Ow.full : ∀ (t : D) {d : Nat} {v : V} {F : AS}, Ow K O H t (d + 3) v F → Ow K O' H t (d + 3) v F
  | .none, _, _, _, h => h
  | .bool _, _, _, _, h => h
  | .int _, _, _, _, h => h
  | .str _, _, _, _, h => h
  | .tuple ts, _, _, _, h => by
    obtain ⟨a, vs, e, ⟨h0, h1, h2⟩ | ⟨h0, h1, h2, G, hg, h3⟩⟩ := h
    · cases h0
    · exact ⟨a, vs, e, .inr ⟨h0, h1, h2, G, hg, Ows.full ts h3⟩⟩
  | .list ts, _, _, _, h => by
    obtain ⟨a, vs, e, ⟨h0, h1, h2⟩ | ⟨h0, h1, h2, G, hg, h3⟩⟩ := h
    · cases h0
    · exact ⟨a, vs, e, .inr ⟨h0, h1, h2, G, hg, Ows.full ts h3⟩⟩
  | .dict ts, _, _, _, h => by
    obtain ⟨a, vs, e, ⟨h0, h1, hn, h2⟩ | ⟨h0, h1, h2, G, hg, h3⟩⟩ := h
    · cases h0
    · exact ⟨a, vs, e, .inr ⟨h0, h1, h2, G, hg, Owd.full ts h3⟩⟩
theorem Ows.full : ∀ (ts : List D) {d : Nat} {vs : List V} {F : AS}, Ows K O H ts (d + 3) vs F → Ows K O' H ts (d + 3) vs F
  | [], _, _, _, h => h
  | t :: ts, _, _, _, h => by
    obtain ⟨v, r, F1, F2, e, h1, h2, h3, h4, h5⟩ := h
    exact ⟨v, r, F1, F2, e, h1, h2, h3, Ow.full t h4, Ows.full ts h5⟩
theorem Owd.full : ∀ (ts : List (D × D)) {d : Nat} {vs : List (Key × V)} {F : AS}, Owd K O H ts (d + 3) vs F → Owd K O' H ts (d + 3) vs F
  | [], _, _, _, h => h
  | (k, t) :: ts, _, _, _, h => by
    obtain ⟨q, v, r, F1, F2, e, e2, h1, h2, h3, h4, h5⟩ := h
    exact ⟨q, v, r, F1, F2, e, e2, h1, h2, h3, Ow.full t h4, Owd.full ts h5⟩
end
mutual
theorem Ow.any0 : ∀ (t : D) {v : V} {F F' : AS}, Ow K O H t 0 v F → Ow K O H t 0 v F'
  | .none, _, _, _, h => h
  | .bool _, _, _, _, h => h
  | .int _, _, _, _, h => h
  | .str _, _, _, _, h => h
  | .tuple ts, _, _, _, h => by
    obtain ⟨a, vs, e, ⟨h0, h1, h2⟩ | ⟨h0, _⟩⟩ := h
    · exact ⟨a, vs, e, .inl ⟨rfl, h1, Ows.any0 ts h2⟩⟩
    · exact absurd rfl h0
  | .list ts, _, _, _, h => by
    obtain ⟨a, vs, e, ⟨h0, h1, h2⟩ | ⟨h0, _⟩⟩ := h
    · exact ⟨a, vs, e, .inl ⟨rfl, h1, Ows.any0 ts h2⟩⟩
    · exact absurd rfl h0
  | .dict ts, _, _, _, h => by
    obtain ⟨a, vs, e, ⟨h0, h1, hn, h2⟩ | ⟨h0, _⟩⟩ := h
    · exact ⟨a, vs, e, .inl ⟨rfl, h1, hn, Owd.any0 ts h2⟩⟩
    · exact absurd rfl h0
theorem Ows.any0 : ∀ (ts : List D) {vs : List V} {F F' : AS}, Ows K O H ts 0 vs F → Ows K O H ts 0 vs F'
  | [], _, _, _, h => h
  | t :: ts, _, _, _, h => by
    obtain ⟨v, r, F1, F2, e, _, _, _, h4, h5⟩ := h
    exact ⟨v, r, fun _ => False, fun _ => False, e, fun _ z => z.elim, fun _ z => z.elim, fun _ z => z.elim, Ow.any0 t h4, Ows.any0 ts h5⟩
theorem Owd.any0 : ∀ (ts : List (D × D)) {vs : List (Key × V)} {F F' : AS}, Owd K O H ts 0 vs F → Owd K O H ts 0 vs F'
  | [], _, _, _, h => h
  | (k, t) :: ts, _, _, _, h => by
    obtain ⟨q, v, r, F1, F2, e, e2, _, _, _, h4, h5⟩ := h
    exact ⟨q, v, r, fun _ => False, fun _ => False, e, e2, fun _ z => z.elim, fun _ z => z.elim, fun _ z => z.elim, Ow.any0 t h4, Owd.any0 ts h5⟩
end
theorem Ow.fz {t : D} {d : Nat} {v : V} {F F2 : AS} (ho : ∀ a, O' a → O a) (hn : ∀ a, F a → ¬ O' a) (h : Ow K O H t d v F) : Ow K O' H t 0 v F2 := by
  obtain ⟨F', s1, s2⟩ := Ow.cut t (Nat.zero_le d) h
  exact Ow.any0 t (s2 O' ho fun a z1 z2 => absurd z2 (hn a z1))
end
def U (A B : AS) : AS := fun a => A a ∨ B a
def Own (R : Nat → AS) (Ox : AS) : AS := fun a => (∃ i, R i a) ∨ Ox a
theorem as_eq {A B : AS} (h : ∀ a, A a ↔ B a) : A = B := funext fun a => propext (h a)
structure EnvOk (K : PySem.W.Frag) (ds : List Nat) (Ox : AS) (H : Hp) (σ : St) (en : En) (R : Nat → AS) : Prop where
  at_ : ∀ (i : Nat) (t : D), en[i]? = some (some t) → ∃ v d, σ[i]? = some (some v) ∧ ds[i]? = some d ∧ Ow K (Own R Ox) H t d v (R i)
  dj : ∀ i j a, R i a → R j a → i = j
  dx : ∀ i a, R i a → ¬ Ox a
  dom : ∀ a, Own R Ox a → ∃ o, H a = some o
  l1 : en.length = σ.length
  l2 : ds.length = σ.length
structure Post (K : PySem.W.Frag) (p : Bool) (ds' : List Nat) (Ox : AS) (σ : St) (H : Hp) (en : En) (R : Nat → AS) (en' : En) (H' : Hp) (R' : Nat → AS) (F : AS) : Prop where
  env : EnvOk K ds' (U F Ox) H' σ en' R'
  fx : ∀ a, F a → ¬ Ox a
  keep : ∀ a o, H a = some o → (∀ i, ¬ R i a) → H' a = some o
  own : ∀ a, (F a ∨ ∃ i, R' i a) → (∃ i, R i a) ∨ H a = none
  dom : ∀ a o, H a = some o → ∃ o', H' a = some o'
  pure : p = true → en' = en ∧ R' = R ∧ ∀ a o, H a = some o → H' a = some o
section
variable {K : PySem.W.Frag} {p p1 p2 : Bool} {ds ds1 ds2 ds' : List Nat} {Ox Ox' : AS} {H H' : Hp} {σ : St} {en en' en1 en2 : En} {R R' : Nat → AS} {d d1 d2 : Nat} {t1 t2 : D}
theorem EnvOk.grow (e : EnvOk K ds Ox H σ en R) (hk : ∀ a o, H a = some o → H' a = some o) {F : AS} (hf : ∀ a, F a → H a = none ∧ ∃ o, H' a = some o) : EnvOk K ds (U F Ox) H' σ en R := by
  have fo : ∀ a, F a → ¬ Own R Ox a := fun a z z2 => by
    obtain ⟨o, q⟩ := e.dom a z2
    rw [(hf a z).1] at q
    cases q
  refine ⟨fun i t h => ?_, e.dj, fun i a h z => ?_, fun a h => ?_, e.l1, e.l2⟩
  · obtain ⟨v, d, h1, h2, h3⟩ := e.at_ i t h
    refine ⟨v, d, h1, h2, Ow.mv (G := R i) ⟨fun a o q _ => hk a o q, fun a z => ?_⟩ t (fun _ z => z) h3⟩
    rcases z with z | z | z
    · exact .inl (.inl z)
    · exact .inr (hf a z).1
    · exact .inl (.inr z)
  · rcases z with z | z
    · exact fo a z (.inl ⟨i, h⟩)
    · exact e.dx i a h z
  · rcases h with h | h | h
    · obtain ⟨o, q⟩ := e.dom a (.inl h)
      exact ⟨o, hk a o q⟩
    · exact (hf a h).2
    · obtain ⟨o, q⟩ := e.dom a (.inr h)
      exact ⟨o, hk a o q⟩
theorem EnvOk.fewer (e : EnvOk K ds Ox H σ en R) (h : ∀ a, Ox' a → Ox a) : EnvOk K ds Ox' H σ en R := by
  refine ⟨fun i t q => ?_, e.dj, fun i a z1 z2 => e.dx i a z1 (h a z2), fun a z => e.dom a (z.imp id (h a)), e.l1, e.l2⟩
  obtain ⟨v, d, h1, h2, h3⟩ := e.at_ i t q
  exact ⟨v, d, h1, h2, Ow.grow (fun a z => z.imp id (h a)) t (fun _ z => z) h3⟩
def tF (K : PySem.W.Frag) (p : Bool) (ds ds' : List Nat) (d : Nat) (f : En → Option (D × En)) : TE := fun σ H Q =>
  ∃ Ox en R t en', EnvOk K ds Ox H σ en R ∧ f en = some (t, en') ∧ ∀ v H' R' F, Post K p ds' Ox σ H en R en' H' R' F → Ow K (Own R' (U F Ox)) H' t d v F → Q v H'
theorem Post.refl (e : EnvOk K ds Ox H σ en R) : Post K p ds Ox σ H en R en H R (fun _ => False) := by
  have eq : U (fun _ => False) Ox = Ox := as_eq fun a => ⟨fun z => z.elim (fun z => z.elim) id, .inr⟩
  exact ⟨eq.symm ▸ e, fun _ z => z.elim, fun _ _ q _ => q, fun a z => z.elim (fun z => z.elim) .inl, fun a o q => ⟨o, q⟩, fun _ => ⟨rfl, rfl, fun _ _ q => q⟩⟩
theorem Post.new (e : EnvOk K ds Ox H σ en R) (hk : ∀ a o, H a = some o → H' a = some o) {F : AS} (hf : ∀ a, F a → H a = none ∧ ∃ o, H' a = some o) : Post K p ds Ox σ H en R en H' R F := by
  refine ⟨e.grow hk hf, fun a z z2 => ?_, fun a o q _ => hk a o q, fun a z => z.elim (fun z => .inr (hf a z).1) .inl, fun a o q => ⟨o, hk a o q⟩, fun _ => ⟨rfl, rfl, hk⟩⟩
  obtain ⟨o, q⟩ := e.dom a (.inr z2)
  rw [(hf a z).1] at q
  cases q
theorem Post.trans {H1 H2 : Hp} {R1 R2 : Nat → AS} {F1 F2 : AS} (P1 : Post K p1 ds1 Ox σ H en R en1 H1 R1 F1) (P2 : Post K p2 ds2 (U F1 Ox) σ H1 en1 R1 en2 H2 R2 F2) :
    Post K (p1 && p2) ds2 Ox σ H en R en2 H2 R2 (U F1 F2) := by
  have eq : U F2 (U F1 Ox) = U (U F1 F2) Ox := as_eq fun a => by unfold U; exact ⟨fun z => by rcases z with z | z | z; exact .inl (.inr z); exact .inl (.inl z); exact .inr z, fun z => by rcases z with (z | z) | z; exact .inr (.inl z); exact .inl z; exact .inr (.inr z)⟩
  have n1 : ∀ a, H1 a = none → H a = none := fun a z => by
    cases q : H a with
    | none => rfl
    | some o =>
      obtain ⟨o', q'⟩ := P1.dom a o q
      rw [z] at q'
      cases q'
  refine ⟨eq ▸ P2.env, fun a z z2 => ?_, fun a o q n => ?_, fun a z => ?_, fun a o q => ?_, fun hp => ?_⟩
  · rcases z with z | z
    · exact P1.fx a z z2
    · exact P2.fx a z (.inr z2)
  · refine P2.keep a o (P1.keep a o q n) fun i z => ?_
    rcases P1.own a (.inr ⟨i, z⟩) with ⟨j, z⟩ | z
    · exact n j z
    · rw [q] at z; cases z
  · rcases z with (z | z) | z
    · exact P1.own a (.inl z)
    · rcases P2.own a (.inl z) with z | z
      · exact P1.own a (.inr z)
      · exact .inr (n1 a z)
    · rcases P2.own a (.inr z) with z | z
      · exact P1.own a (.inr z)
      · exact .inr (n1 a z)
  · obtain ⟨o', q'⟩ := P1.dom a o q
    exact P2.dom a o' q'
  · have h1 : p1 = true := by cases p1 <;> simp_all
    have h2 : p2 = true := by cases p2 <;> simp_all
    obtain ⟨a1, a2, a3⟩ := P1.pure h1
    obtain ⟨b1, b2, b3⟩ := P2.pure h2
    exact ⟨b1.trans a1, b2.trans a2, fun a o q => b3 a o (a3 a o q)⟩
theorem Ow.over {H1 H2 : Hp} {R1 R2 : Nat → AS} {F1 F2 : AS} {t : D} {v : V} (P1 : EnvOk K ds1 (U F1 Ox) H1 σ en1 R1) (P2 : Post K p2 ds2 (U F1 Ox) σ H1 en1 R1 en2 H2 R2 F2) (h : Ow K (Own R1 (U F1 Ox)) H1 t d v F1) :
    Ow K (Own R2 (U (U F1 F2) Ox)) H2 t d v F1 := by
  refine Ow.mv (G := F1) ⟨fun a o q z => P2.keep a o q fun i zi => ?_, fun a z => ?_⟩ t (fun _ z => z) h
  · rcases z with z | z
    · exact z (.inl ⟨i, zi⟩)
    · exact P1.dx i a zi (.inl z)
  · rcases z with z | (z | z) | z
    · rcases P2.own a (.inr z) with z | z
      · exact .inl (.inl z)
      · exact .inr z
    · exact .inl (.inr (.inl z))
    · rcases P2.own a (.inl z) with z | z
      · exact .inl (.inl z)
      · exact .inr z
    · exact .inl (.inr (.inr z))
theorem U_swap {F1 F2 : AS} : U F2 (U F1 Ox) = U (U F1 F2) Ox := as_eq fun a => by unfold U; exact ⟨fun z => by rcases z with z | z | z; exact .inl (.inr z); exact .inl (.inl z); exact .inr z, fun z => by rcases z with (z | z) | z; exact .inr (.inl z); exact .inl z; exact .inr (.inr z)⟩
theorem two {f g : En → Option (D × En)} {Q : V → V → Hp → Prop} (e : EnvOk K ds Ox H σ en R) (h1 : f en = some (t1, en1)) (h2 : g en1 = some (t2, en2))
    (k : ∀ x y H2 R2 F1 F2, Post K (p1 && p2) ds2 Ox σ H en R en2 H2 R2 (U F1 F2) → Ow K (Own R2 (U (U F1 F2) Ox)) H2 t1 d1 x F1 → Ow K (Own R2 (U (U F1 F2) Ox)) H2 t2 d2 y F2 → Q x y H2) :
    tF K p1 ds ds1 d1 f σ H fun x H1 => tF K p2 ds1 ds2 d2 g σ H1 fun y H2 => Q x y H2 := by
  refine ⟨Ox, en, R, t1, en1, e, h1, fun x H1 R1 F1 P1 o1 => ?_⟩
  refine ⟨U F1 Ox, en1, R1, t2, en2, P1.env, h2, fun y H2 R2 F2 P2 o2 => ?_⟩
  exact k x y H2 R2 F1 F2 (P1.trans P2) (Ow.over P1.env P2 o1) (U_swap ▸ o2)
end
end L2
set_option Elab.async false
set_option linter.all false
set_option maxRecDepth 100000
set_option maxHeartbeats 4000000
namespace L2
open PySem PySem.Spec PyProof.Rows
abbrev ME := En → Option (D × En)
abbrev MT := En → Option (Bool × En)
abbrev MA := En → Option (List (D ⊕ Nat) × En)
def eVar (i : Nat) : ME := fun en => (en[i]?).join.map fun t => (t, en)
def eC (t : D) : ME := fun en => some (t, en)
def e1 (g : D → Option D) (f : ME) : ME := fun en => (f en).bind fun r => (g r.1).map fun t => (t, r.2)
def e2 (g : D → D → Option D) (f1 f2 : ME) : ME := fun en => (f1 en).bind fun r => (f2 r.2).bind fun q => (g r.1 q.1).map fun t => (t, q.2)
def eAnd (f g : ME) : ME := fun en => (f en).bind fun r => match r.1 with
  | .bool true => g r.2
  | .bool false => some (.bool false, r.2)
  | _ => none
def eNot (f : ME) : ME := fun en => (f en).bind fun r => match r.1 with
  | .bool b => some (.bool (!b), r.2)
  | _ => none
def tV (f : ME) : MT := fun en => (f en).bind fun r => match r.1 with
  | .bool b => some (b, r.2)
  | _ => none
def bAnd (f g : MT) : MT := fun en => (f en).bind fun r => if r.1 then g r.2 else some (false, r.2)
def bOr (f g : MT) : MT := fun en => (f en).bind fun r => if r.1 then some (true, r.2) else g r.2
def bNot (f : MT) : MT := fun en => (f en).map fun r => (!r.1, r.2)
def aNil : MA := fun en => some ([], en)
def aCons (f : ME) (r : MA) : MA := fun en => (f en).bind fun x => (r x.2).map fun y => (.inl x.1 :: y.1, y.2)
def aSlot (i : Nat) (r : MA) : MA := fun en => (en[i]?).join.bind fun _ => (r en).map fun y => (.inr i :: y.1, y.2)
def vals : List (D ⊕ Nat) → Option (List D)
  | [] => some []
  | .inl t :: r => (vals r).map (t :: ·)
  | .inr _ :: _ => none
def eN (g : List D → Option D) (fa : MA) : ME := fun en => (fa en).bind fun r => (vals r.1).bind fun ts => (g ts).map fun t => (t, r.2)
def NewTo (H H' : Hp) (F : AS) : Prop := (∀ a o, H a = some o → H' a = some o) ∧ ∀ a, F a → H a = none ∧ ∃ o, H' a = some o
def NoA : AS := fun _ => False
theorem U_no {A : AS} : U NoA A = A := as_eq fun a => ⟨fun z => z.elim (fun z => z.elim) id, .inr⟩
def rF1 (K : PySem.W.Frag) (g : D → Option D) (d : Nat) : V → Hp → VK → Prop := fun x H Q => ∃ (O : AS) (a t : D), Ow K O H a 0 x NoA ∧ (∀ a, O a → ∃ o, H a = some o) ∧ g a = some t ∧ ∀ v H' F, NewTo H H' F → Ow K (U F O) H' t d v F → Q v H'
def rF2 (K : PySem.W.Frag) (g : D → D → Option D) (d : Nat) : R2 := fun x y H Q => ∃ (O : AS) (a b t : D), Ow K O H a 0 x NoA ∧ Ow K O H b 0 y NoA ∧ (∀ a, O a → ∃ o, H a = some o) ∧ g a b = some t ∧ ∀ v H' F, NewTo H H' F → Ow K (U F O) H' t d v F → Q v H'
def rFn (K : PySem.W.Frag) (g : List D → Option D) (d : Nat) : List V → Hp → VK → Prop := fun xs H Q => ∃ (O : AS) (ts : List D) (t : D), Ows K O H ts 0 xs NoA ∧ (∀ a, O a → ∃ o, H a = some o) ∧ g ts = some t ∧ ∀ v H' F, NewTo H H' F → Ow K (U F O) H' t d v F → Q v H'
section
variable {K : PySem.W.Frag} {p p1 p2 : Bool} {ds ds0 ds1 ds2 ds' : List Nat} {Ox Ox' : AS} {H H' : Hp} {σ : St} {en en' en1 en2 : En} {R R' : Nat → AS} {d d' d1 d2 : Nat} {t t1 t2 : D} {Q : VK} {f f1 f2 fa fb : ME}
theorem Own_U {F : AS} : U F (Own R Ox) = Own R (U F Ox) := as_eq fun a => by
  unfold U Own
  exact ⟨fun z => by rcases z with z | z | z; exact .inr (.inl z); exact .inl z; exact .inr (.inr z), fun z => by rcases z with z | z | z; exact .inr (.inl z); exact .inl z; exact .inr (.inr z)⟩
theorem Post.fin {H1 : Hp} {F0 F : AS} (P : Post K p ds' Ox σ H en R en' H1 R' F0) (n : NewTo H1 H' F) : Post K p ds' Ox σ H en R en' H' R' F := by
  have e := P.env.fewer (Ox' := Ox) fun a z => .inr z
  have n1 : ∀ a, H1 a = none → H a = none := fun a z => by
    cases q : H a with
    | none => rfl
    | some o =>
      obtain ⟨o', q'⟩ := P.dom a o q
      rw [z] at q'
      cases q'
  refine ⟨e.grow n.1 n.2, fun a z z2 => ?_, fun a o q nn => n.1 a o (P.keep a o q nn), fun a z => ?_, fun a o q => ?_, fun hp => ?_⟩
  · obtain ⟨o, q⟩ := e.dom a (.inr z2)
    rw [(n.2 a z).1] at q
    cases q
  · rcases z with z | z
    · exact .inr (n1 a (n.2 a z).1)
    · exact P.own a (.inr z)
  · obtain ⟨o', q'⟩ := P.dom a o q
    exact ⟨o', n.1 a o' q'⟩
  · obtain ⟨a1, a2, a3⟩ := P.pure hp
    exact ⟨a1, a2, fun a o q => n.1 a o (a3 a o q)⟩
theorem Post.less {F F' : AS} (P : Post K p ds' Ox σ H en R en' H' R' F) (h : ∀ a, F' a → F a) : Post K p ds' Ox σ H en R en' H' R' F' :=
  ⟨P.env.fewer fun a z => z.imp (h a) id, fun a z => P.fx a (h a z), P.keep, fun a z => P.own a (z.imp (h a) id), P.dom, P.pure⟩
theorem Ow.letgo {F F0 : AS} {v : V} (P : Post K p ds' Ox σ H en R en' H' R' F0) (hf : ∀ a, F a → F0 a) (h : Ow K (Own R' (U F0 Ox)) H' t d v F) : Ow K (Own R' Ox) H' t 0 v NoA := by
  refine Ow.fz (fun a z => z.imp id .inr) (fun a z z2 => ?_) h
  rcases z2 with ⟨i, z2⟩ | z2
  · exact P.env.dx i a z2 (.inl (hf a z))
  · exact P.fx a (hf a z) z2
theorem Post.doms {F0 : AS} (P : Post K p ds' Ox σ H en R en' H' R' F0) : ∀ a, Own R' Ox a → ∃ o, H' a = some o := fun a z => P.env.dom a (z.imp id .inr)
theorem f_var (hd : ds[i]? = some 0) (h : tF K true ds ds 0 (eVar i) σ H Q) : tVar i σ H Q := by
  obtain ⟨Ox, en, R, t, en', e, hf, k⟩ := h
  unfold eVar at hf
  cases q : en[i]? with
  | none => rw [q] at hf; cases hf
  | some o =>
    rw [q] at hf
    cases o with
    | none => cases hf
    | some t' =>
      cases hf
      obtain ⟨v, d, h1, h2, h3⟩ := e.at_ i t q
      rw [hd] at h2
      cases h2
      exact ⟨v, h1, k v H R NoA (Post.refl e) (by rw [U_no]; exact Ow.any0 t h3)⟩
theorem f_c {v : V} (hv : ∀ K O H F, Ow K O H t 3 v F) (h : tF K true ds ds 3 (eC t) σ H Q) : tC v σ H Q := by
  obtain ⟨Ox, en, R, t', en', e, hf, k⟩ := h
  cases hf
  exact k v H R NoA (Post.refl e) (hv _ _ _ _)
theorem f_sub (hd : d' ≤ d) (h : tF K p ds ds' d' f σ H Q) : tF K p ds ds' d f σ H Q := by
  obtain ⟨Ox, en, R, t, en', e, hf, k⟩ := h
  refine ⟨Ox, en, R, t, en', e, hf, fun v H' R' F P o => ?_⟩
  obtain ⟨F', s1, s2⟩ := Ow.cut t hd o
  refine k v H' R' F' (P.less s1) (s2 _ (fun a z => z.imp id fun z => z.imp (s1 a) id) fun a z z2 => ?_)
  rcases z2 with ⟨i, z2⟩ | z2 | z2
  · exact absurd (.inl z) (P.env.dx i a z2)
  · exact z2
  · exact absurd z2 (P.fx a z)
theorem f_imp (hp : p' = true → p = true) (h : tF K p' ds ds' d f σ H Q) : tF K p ds ds' d f σ H Q := by
  obtain ⟨Ox, en, R, t, en', e, hf, k⟩ := h
  exact ⟨Ox, en, R, t, en', e, hf, fun v H' R' F P o => k v H' R' F ⟨P.env, P.fx, P.keep, P.own, P.dom, fun z => P.pure (hp z)⟩ o⟩
theorem EnvOk.cut (e : EnvOk K ds Ox H σ en R) (hl : ds0.length = ds.length) (hd : ∀ (i : Nat) a b, ds0[i]? = some a → ds[i]? = some b → a ≤ b) : ∃ R', (∀ i a, R' i a → R i a) ∧ EnvOk K ds0 Ox H σ en R' := by
  have ch : ∀ i, ∃ F' : AS, (∀ b, F' b → R i b) ∧ ∀ t v d0, en[i]? = some (some t) → σ[i]? = some (some v) → ds0[i]? = some d0 → ∀ O' : AS, (∀ a, O' a → Own R Ox a) → (∀ a, R i a → O' a → F' a) → Ow K O' H t d0 v F' := fun i => by
    by_cases h : ∃ t, en[i]? = some (some t)
    · obtain ⟨t, ht⟩ := h
      obtain ⟨v, d, h1, h2, h3⟩ := e.at_ i t ht
      cases q : ds0[i]? with
      | none => exact ⟨NoA, fun _ z => z.elim, fun _ _ _ _ _ z => nomatch z⟩
      | some d0 =>
        obtain ⟨F', s1, s2⟩ := Ow.cut t (hd i d0 d q h2) h3
        refine ⟨F', s1, fun t' v' d0' h1' h2' h3' O' => ?_⟩
        rw [ht] at h1'; cases h1'
        rw [h1] at h2'; cases h2'
        cases h3'
        exact s2 O'
    · exact ⟨NoA, fun _ z => z.elim, fun t _ _ ht => absurd ⟨t, ht⟩ h⟩
  refine ⟨fun i => (ch i).choose, fun i => (ch i).choose_spec.1, fun i t ht => ?_, fun i j a z1 z2 => e.dj i j a ((ch i).choose_spec.1 a z1) ((ch j).choose_spec.1 a z2), fun i a z => e.dx i a ((ch i).choose_spec.1 a z), fun a z => e.dom a (z.imp (fun ⟨i, z⟩ => ⟨i, (ch i).choose_spec.1 a z⟩) id), e.l1, hl.trans e.l2⟩
  obtain ⟨v, d, h1, h2, h3⟩ := e.at_ i t ht
  have hi : i < ds0.length := by rw [hl]; exact (List.getElem?_eq_some_iff.mp h2).1
  refine ⟨v, ds0[i], h1, List.getElem?_eq_getElem hi, (ch i).choose_spec.2 t v _ ht h1 (List.getElem?_eq_getElem hi) _ (fun a z => z.imp (fun ⟨j, z⟩ => ⟨j, (ch j).choose_spec.1 a z⟩) id) fun a z z2 => ?_⟩
  rcases z2 with ⟨j, z2⟩ | z2
  · have := e.dj i j a z ((ch j).choose_spec.1 a z2)
    subst this
    exact z2
  · exact absurd z2 (e.dx i a z)
def leD : List Nat → List Nat → Bool
  | [], [] => true
  | a :: r, b :: s => decide (a ≤ b) && leD r s
  | _, _ => false
theorem leD_get : ∀ {a b : List Nat}, leD a b = true → a.length = b.length ∧ ∀ (i : Nat) x y, a[i]? = some x → b[i]? = some y → x ≤ y
  | [], [], _ => ⟨rfl, fun i x y h => by simp at h⟩
  | a :: r, b :: s, h => by
    unfold leD at h
    rw [Bool.and_eq_true] at h
    obtain ⟨h1, h2⟩ := h
    obtain ⟨h3, h4⟩ := leD_get h2
    refine ⟨by rw [List.length_cons, List.length_cons, h3], fun i x y e1 e2 => ?_⟩
    cases i with
    | zero => cases e1; cases e2; exact of_decide_eq_true h1
    | succ i => exact h4 i x y e1 e2
  | [], _ :: _, h => nomatch h
  | _ :: _, [], h => nomatch h
theorem f_fz (hd : leD ds0 ds = true) (h : tF K false ds ds' d f σ H Q) : tF K p ds0 ds' d f σ H Q := by
  obtain ⟨Ox, en, R, t, en', e, hf, k⟩ := h
  obtain ⟨R1, s1, e1⟩ := e.cut (leD_get hd).1 (leD_get hd).2
  refine ⟨Ox, en, R1, t, en', e1, hf, fun v H' R' F P o => k v H' R' F ⟨P.env, P.fx, fun a o q n => P.keep a o q fun i z => n i (s1 i a z), fun a z => (P.own a z).imp (fun ⟨i, z⟩ => ⟨i, s1 i a z⟩) id, P.dom, fun z => nomatch z⟩ o⟩
theorem f_bor (hd : leD ds0 ds = true) (h : tF K true ds ds 3 f σ H Q) : tF K true ds0 ds0 3 f σ H Q := by
  obtain ⟨Ox, en, R, t, en', e, hf, k⟩ := h
  obtain ⟨R1, s1, e1⟩ := e.cut (leD_get hd).1 (leD_get hd).2
  refine ⟨Ox, en, R1, t, en', e1, hf, fun v H' R' F P o => ?_⟩
  obtain ⟨a1, a2, a3⟩ := P.pure rfl
  subst a1 a2
  have nf : ∀ a, F a → H a = none := fun a z => by
    rcases P.own a (.inl z) with ⟨i, z2⟩ | z2
    · exact absurd (.inl z) (P.env.dx i a z2)
    · exact z2
  have nt : NewTo H H' F := ⟨a3, fun a z => ⟨nf a z, P.env.dom a (.inr (.inl z))⟩⟩
  exact k v H' R F (Post.new e nt.1 nt.2) (Ow.full t o)
theorem f_op1 {g : D → Option D} (h : tF K p ds ds1 d (e1 g f) σ H Q) : tUn (rF1 K g d) (tF K p ds ds1 d1 f) σ H Q := by
  obtain ⟨Ox, en, R, t, en', e, hf, k⟩ := h
  unfold e1 at hf
  obtain ⟨⟨t1, en1⟩, h1, hf⟩ := Option.bind_eq_some_iff.mp hf
  obtain ⟨t', h3, hf⟩ := Option.map_eq_some_iff.mp hf
  cases hf
  refine ⟨Ox, en, R, t1, en1, e, h1, fun v H' R' F P o => ?_⟩
  refine ⟨Own R' Ox, t1, t, Ow.letgo P (fun _ z => z) o, P.doms, h3, fun v2 H2 F2 n o2 => k v2 H2 R' F2 (P.fin n) (Own_U ▸ o2)⟩
theorem f_op2 {g : D → D → Option D} (h : tF K (p1 && p2) ds ds2 d (e2 g f1 f2) σ H Q) : tOp (rF2 K g d) (tF K p1 ds ds1 d1 f1) (tF K p2 ds1 ds2 d2 f2) σ H Q := by
  obtain ⟨Ox, en, R, t, en', e, hf, k⟩ := h
  unfold e2 at hf
  obtain ⟨⟨t1, en1⟩, h1, hf⟩ := Option.bind_eq_some_iff.mp hf
  obtain ⟨⟨t2, en2⟩, h2, hf⟩ := Option.bind_eq_some_iff.mp hf
  obtain ⟨t', h3, hf⟩ := Option.map_eq_some_iff.mp hf
  cases hf
  refine two e h1 h2 fun x y H2 R2 F1 F2 P o1 o2 => ?_
  exact ⟨Own R2 Ox, t1, t2, t, Ow.letgo P (fun _ => .inl) o1, Ow.letgo P (fun _ => .inr) o2, P.doms, h3, fun v2 H3 F3 n o3 => k v2 H3 R2 F3 (P.fin n) (Own_U ▸ o3)⟩
theorem Post.after {H1 : Hp} {R1 R2 : Nat → AS} {F1 F : AS} (P1 : Post K p1 ds1 Ox σ H en R en1 H1 R1 F1) (P2 : Post K p2 ds2 Ox σ H1 en1 R1 en2 H' R2 F) : Post K (p1 && p2) ds2 Ox σ H en R en2 H' R2 F := by
  have P1' := P1.less (F' := NoA) fun _ z => z.elim
  have P2' : Post K p2 ds2 (U NoA Ox) σ H1 en1 R1 en2 H' R2 F := by rw [U_no]; exact P2
  have := P1'.trans P2'
  rw [U_no] at this
  exact this
theorem Post.env0 {F : AS} (P : Post K p ds' Ox σ H en R en' H' R' F) : EnvOk K ds' Ox H' σ en' R' := P.env.fewer fun a z => .inr z
theorem f_and (h : tF K (p1 && p2) ds ds1 d (eAnd f1 f2) σ H Q) : tAndV (tF K p1 ds ds1 d1 f1) (tF K p2 ds1 ds1 d f2) σ H Q := by
  obtain ⟨Ox, en, R, t, en', e, hf, k⟩ := h
  unfold eAnd at hf
  obtain ⟨⟨t1, en1⟩, h1, hf⟩ := Option.bind_eq_some_iff.mp hf
  refine ⟨Ox, en, R, t1, en1, e, h1, fun v H1 R1 F1 P1 o1 => ?_⟩
  cases t1 with
  | bool b =>
    have ev : v = .bl b := o1
    refine ⟨b, ev, ?_⟩
    cases b with
    | true =>
      rw [if_pos rfl]
      exact ⟨Ox, en1, R1, t, en', P1.env0, hf, fun v2 H2 R2 F2 P2 o2 => k v2 H2 R2 F2 (P1.after P2) o2⟩
    | false =>
      cases hf
      rw [if_neg Bool.false_ne_true]
      refine k _ H1 R1 NoA ?_ rfl
      have := (P1.less (F' := NoA) fun _ z => z.elim)
      exact ⟨this.env, this.fx, this.keep, this.own, this.dom, fun hp => this.pure (by cases p1 <;> simp_all)⟩
  | _ => cases hf
theorem f_not (h : tF K p ds ds1 3 (eNot f) σ H Q) : tNotV (tF K p ds ds1 d1 f) σ H Q := by
  obtain ⟨Ox, en, R, t, en', e, hf, k⟩ := h
  unfold eNot at hf
  obtain ⟨⟨t1, en1⟩, h1, hf⟩ := Option.bind_eq_some_iff.mp hf
  refine ⟨Ox, en, R, t1, en1, e, h1, fun v H1 R1 F1 P1 o1 => ?_⟩
  cases t1 with
  | bool b =>
    cases hf
    exact ⟨b, o1, k _ H1 R1 NoA (P1.less fun _ z => z.elim) rfl⟩
  | _ => cases hf
def tFT (K : PySem.W.Frag) (p : Bool) (ds ds' : List Nat) (f : MT) : TT := fun σ H Q =>
  ∃ Ox en R b en', EnvOk K ds Ox H σ en R ∧ f en = some (b, en') ∧ ∀ H' R', Post K p ds' Ox σ H en R en' H' R' NoA → Q b H'
variable {c c1 c2 : MT} {QT : Bool → Hp → Prop}
theorem ft_val (h : tFT K p ds ds' (tV f) σ H QT) : tB (tF K p ds ds' d f) σ H QT := by
  obtain ⟨Ox, en, R, b, en', e, hf, k⟩ := h
  unfold tV at hf
  obtain ⟨⟨t1, en1⟩, h1, hf⟩ := Option.bind_eq_some_iff.mp hf
  refine ⟨Ox, en, R, t1, en1, e, h1, fun v H1 R1 F1 P1 o1 => ?_⟩
  cases t1 with
  | bool b =>
    cases hf
    exact ⟨_, o1, k H1 R1 (P1.less fun _ z => z.elim)⟩
  | _ => cases hf
theorem ft_and (h : tFT K (p1 && p2) ds ds1 (bAnd c1 c2) σ H QT) : tAnd (tFT K p1 ds ds1 c1) (tFT K p2 ds1 ds1 c2) σ H QT := by
  obtain ⟨Ox, en, R, b, en', e, hf, k⟩ := h
  unfold bAnd at hf
  obtain ⟨⟨b1, en1⟩, h1, hf⟩ := Option.bind_eq_some_iff.mp hf
  refine ⟨Ox, en, R, b1, en1, e, h1, fun H1 R1 P1 => ?_⟩
  cases b1 with
  | true =>
    rw [if_pos rfl]
    exact ⟨Ox, en1, R1, b, en', P1.env0, hf, fun H2 R2 P2 => k H2 R2 (P1.after P2)⟩
  | false =>
    cases hf
    rw [if_neg Bool.false_ne_true]
    exact k H1 R1 ⟨P1.env, P1.fx, P1.keep, P1.own, P1.dom, fun hp => P1.pure (by cases p1 <;> simp_all)⟩
theorem ft_or (h : tFT K (p1 && p2) ds ds1 (bOr c1 c2) σ H QT) : tOr (tFT K p1 ds ds1 c1) (tFT K p2 ds1 ds1 c2) σ H QT := by
  obtain ⟨Ox, en, R, b, en', e, hf, k⟩ := h
  unfold bOr at hf
  obtain ⟨⟨b1, en1⟩, h1, hf⟩ := Option.bind_eq_some_iff.mp hf
  refine ⟨Ox, en, R, b1, en1, e, h1, fun H1 R1 P1 => ?_⟩
  cases b1 with
  | false =>
    rw [if_neg Bool.false_ne_true]
    exact ⟨Ox, en1, R1, b, en', P1.env0, hf, fun H2 R2 P2 => k H2 R2 (P1.after P2)⟩
  | true =>
    cases hf
    rw [if_pos rfl]
    exact k H1 R1 ⟨P1.env, P1.fx, P1.keep, P1.own, P1.dom, fun hp => P1.pure (by cases p1 <;> simp_all)⟩
theorem ft_not (h : tFT K p ds ds1 (bNot c) σ H QT) : tNot (tFT K p ds ds1 c) σ H QT := by
  obtain ⟨Ox, en, R, b, en', e, hf, k⟩ := h
  unfold bNot at hf
  obtain ⟨⟨b1, en1⟩, h1, hf⟩ := Option.map_eq_some_iff.mp hf
  cases hf
  exact ⟨Ox, en, R, b1, _, e, h1, fun H1 R1 P1 => k H1 R1 P1⟩
theorem ft_bor (hd : leD ds0 ds = true) (h : tFT K true ds ds c σ H QT) : tFT K true ds0 ds0 c σ H QT := by
  obtain ⟨Ox, en, R, t, en', e, hf, k⟩ := h
  obtain ⟨R1, s1, e1⟩ := e.cut (leD_get hd).1 (leD_get hd).2
  refine ⟨Ox, en, R1, t, en', e1, hf, fun H' R' P => ?_⟩
  obtain ⟨a1, a2, a3⟩ := P.pure rfl
  subst a1 a2
  exact k H' R (Post.new e a3 fun _ z => z.elim)
end
end L2
set_option Elab.async false
set_option linter.all false
set_option maxRecDepth 100000
set_option maxHeartbeats 4000000
namespace L2
open PySem PySem.Spec PyProof.Rows
abbrev Sh := List (Nat ⊕ Nat)
def OwA (K : PySem.W.Frag) (O : AS) (H : Hp) (σ : St) : List (D ⊕ Nat) → Sh → List V → AS → Prop
  | [], ds, vs, _ => ds = [] ∧ vs = []
  | .inl t :: as, ds, vs, F => ∃ v r d dr, ∃ F1 F2 : AS, vs = v :: r ∧ ds = .inl d :: dr ∧ (∀ b, F1 b → F b) ∧ (∀ b, F2 b → F b) ∧ (∀ b, F1 b → ¬ F2 b) ∧ Ow K O H t d v F1 ∧ OwA K O H σ as dr r F2
  | .inr i :: as, ds, vs, F => ∃ v r dr, vs = v :: r ∧ ds = .inr i :: dr ∧ σ[i]? = some (some v) ∧ OwA K O H σ as dr r F
def tFA (K : PySem.W.Frag) (p : Bool) (ds ds' : List Nat) (sh : Sh) (f : MA) : TA := fun σ H Q =>
  ∃ Ox en R as en', EnvOk K ds Ox H σ en R ∧ f en = some (as, en') ∧ ∀ vs H' R' F, Post K p ds' Ox σ H en R en' H' R' F → OwA K (Own R' (U F Ox)) H' σ as sh vs F → Q vs H'
def eLst (fa : MA) : ME := fun en => (fa en).bind fun r => (vals r.1).bind fun ts => if ts.length ≤ sizeLine then some (.list ts, r.2) else none
def eTup (fa : MA) : ME := fun en => (fa en).bind fun r => (vals r.1).bind fun ts => if ts.length ≤ sizeLine then some (.tuple ts, r.2) else none
section
variable {K : PySem.W.Frag} {p p1 p2 : Bool} {ds ds0 ds1 ds2 ds' : List Nat} {Ox Ox' O O' : AS} {H H' : Hp} {σ : St} {en en' en1 en2 : En} {R R' : Nat → AS} {d d' d1 d2 : Nat} {t t1 t2 : D} {Q : VK} {f f1 f2 : ME} {fa : MA} {sh : Sh} {QA : List V → Hp → Prop} {i : Nat}
theorem OwA.grow (ho : ∀ a, O' a → O a) : ∀ {as : List (D ⊕ Nat)} {sh : Sh} {vs : List V} {F F' : AS}, (∀ b, F b → F' b) → OwA K O H σ as sh vs F → OwA K O' H σ as sh vs F'
  | [], _, _, _, _, _, h => h
  | .inl t :: as, _, _, _, _, hf, h => by
    obtain ⟨v, r, d, dr, F1, F2, e1, e2, s1, s2, s3, h1, h2⟩ := h
    exact ⟨v, r, d, dr, F1, F2, e1, e2, fun b z => hf _ (s1 b z), fun b z => hf _ (s2 b z), s3, Ow.grow ho t (fun _ z => z) h1, OwA.grow ho (fun _ z => z) h2⟩
  | .inr i :: as, _, _, _, _, hf, h => by
    obtain ⟨v, r, dr, e1, e2, e3, h2⟩ := h
    exact ⟨v, r, dr, e1, e2, e3, OwA.grow ho hf h2⟩
theorem fa_nil (h : tFA K true ds ds [] aNil σ H QA) : tNil σ H QA := by
  obtain ⟨Ox, en, R, as, en', e, hf, k⟩ := h
  cases hf
  exact k [] H R NoA (Post.refl e) ⟨rfl, rfl⟩
theorem fa_cons (h : tFA K (p1 && p2) ds ds2 (.inl d :: sh) (aCons f fa) σ H QA) : tCons (tF K p1 ds ds1 d f) (tFA K p2 ds1 ds2 sh fa) σ H QA := by
  obtain ⟨Ox, en, R, as, en', e, hf, k⟩ := h
  unfold aCons at hf
  obtain ⟨⟨t1, en1⟩, h1, hf⟩ := Option.bind_eq_some_iff.mp hf
  obtain ⟨⟨as2, en2⟩, h2, hf⟩ := Option.map_eq_some_iff.mp hf
  cases hf
  refine ⟨Ox, en, R, t1, en1, e, h1, fun x H1 R1 F1 P1 o1 => ?_⟩
  refine ⟨U F1 Ox, en1, R1, as2, en2, P1.env, h2, fun vs H2 R2 F2 P2 o2 => ?_⟩
  refine k (x :: vs) H2 R2 (U F1 F2) (P1.trans P2) ⟨x, vs, d, sh, F1, F2, rfl, rfl, fun _ => .inl, fun _ => .inr, fun b z1 z2 => P2.fx b z2 (.inl z1), Ow.over P1.env P2 o1, ?_⟩
  rw [← U_swap]
  exact o2
theorem fa_slot (h : tFA K p ds ds2 (.inr i :: sh) (aSlot i fa) σ H QA) : tCons (tVar i) (tFA K p ds ds2 sh fa) σ H QA := by
  obtain ⟨Ox, en, R, as, en', e, hf, k⟩ := h
  unfold aSlot at hf
  obtain ⟨t0, h0, hf⟩ := Option.bind_eq_some_iff.mp hf
  obtain ⟨⟨as2, en2⟩, h2, hf⟩ := Option.map_eq_some_iff.mp hf
  cases hf
  have q : en[i]? = some (some t0) := by
    cases q : en[i]? with
    | none => rw [q] at h0; cases h0
    | some o => rw [q] at h0; exact congrArg some h0
  obtain ⟨v, d, h1, _⟩ := e.at_ i t0 q
  exact ⟨v, h1, Ox, en, R, as2, en2, e, h2, fun vs H2 R2 F2 P2 o2 => k (v :: vs) H2 R2 F2 P2 ⟨v, vs, sh, rfl, rfl, h1, o2⟩⟩
def shAll (c : Nat) : Sh → Bool
  | [] => true
  | .inl d :: r => decide (c ≤ d) && shAll c r
  | .inr _ :: _ => false
theorem OwA.ows : ∀ {as : List (D ⊕ Nat)} {sh : Sh} {vs : List V} {F : AS} {ts : List D} {c : Nat}, shAll c sh = true → vals as = some ts → OwA K O H σ as sh vs F →
    ∃ F' : AS, (∀ b, F' b → F b) ∧ ∀ O' : AS, (∀ a, O' a → O a) → (∀ a, F a → O' a → F' a) → Ows K O' H ts c vs F'
  | [], _, _, F, ts, c, _, hv, h => by
    cases hv
    exact ⟨F, fun _ z => z, fun _ _ _ => h.2⟩
  | .inl t :: as, _, _, F, ts, c, hs, hv, h => by
    obtain ⟨v, r, d, dr, F1, F2, e1, e2, s1, s2, s3, h1, h2⟩ := h
    subst e1 e2
    unfold vals at hv
    obtain ⟨ts', hv', e⟩ := Option.map_eq_some_iff.mp hv
    subst e
    unfold shAll at hs
    rw [Bool.and_eq_true] at hs
    obtain ⟨G1, a1, a2⟩ := Ow.cut t (of_decide_eq_true hs.1) h1
    obtain ⟨G2, b1, b2⟩ := OwA.ows hs.2 hv' h2
    refine ⟨fun b => G1 b ∨ G2 b, fun b hb => hb.elim (fun z => s1 _ (a1 _ z)) fun z => s2 _ (b1 _ z), fun O' ho hx => ⟨v, r, G1, G2, rfl, fun b => .inl, fun b => .inr, fun b z1 z2 => s3 b (a1 b z1) (b1 b z2), a2 O' ho fun b hb hz => ?_, b2 O' ho fun b hb hz => ?_⟩⟩
    · exact (hx b (s1 b hb) hz).elim id fun z => absurd (b1 b z) (s3 b hb)
    · exact (hx b (s2 b hb) hz).elim (fun z => absurd hb (s3 b (a1 b z))) id
  | .inr i :: as, _, _, F, ts, c, _, hv, _ => by cases hv
theorem OwA.len : ∀ {as : List (D ⊕ Nat)} {sh : Sh} {vs : List V} {F : AS}, OwA K O H σ as sh vs F → vs.length = as.length
  | [], _, _, _, h => by rw [h.2]; rfl
  | .inl t :: as, _, _, _, h => by
    obtain ⟨v, r, d, dr, F1, F2, e1, e2, s1, s2, s3, h1, h2⟩ := h
    rw [e1, List.length_cons, List.length_cons, h2.len]
  | .inr i :: as, _, _, _, h => by
    obtain ⟨v, r, dr, e1, e2, e3, h2⟩ := h
    rw [e1, List.length_cons, List.length_cons, h2.len]
theorem vals_len : ∀ {as : List (D ⊕ Nat)} {ts : List D}, vals as = some ts → ts.length = as.length
  | [], _, h => by cases h; rfl
  | .inl t :: as, _, h => by
    unfold vals at h
    obtain ⟨ts', hv', e⟩ := Option.map_eq_some_iff.mp h
    subst e
    rw [List.length_cons, List.length_cons, vals_len hv']
  | .inr _ :: _, _, h => by cases h
theorem f_call {g : List D → Option D} (hs : shAll 0 sh = true) (h : tF K p ds ds1 d (eN g fa) σ H Q) : tCB (rFn K g d) (tFA K p ds ds1 sh fa) σ H Q := by
  obtain ⟨Ox, en, R, t, en', e, hf, k⟩ := h
  unfold eN at hf
  obtain ⟨⟨as, en1⟩, h1, hf⟩ := Option.bind_eq_some_iff.mp hf
  obtain ⟨ts, h2, hf⟩ := Option.bind_eq_some_iff.mp hf
  obtain ⟨t', h3, hf⟩ := Option.map_eq_some_iff.mp hf
  cases hf
  refine ⟨Ox, en, R, as, en1, e, h1, fun vs H1 R1 F P o => ?_⟩
  obtain ⟨F', s1, s2⟩ := OwA.ows hs h2 o
  have o2 : Ows K (Own R1 Ox) H1 ts 0 vs F' := s2 _ (fun a z => z.imp id .inr) fun a z z2 => by
    rcases z2 with ⟨i, z2⟩ | z2
    · exact absurd (.inl z) (P.env.dx i a z2)
    · exact absurd z2 (P.fx a z)
  exact ⟨Own R1 Ox, ts, t, Ows.any0 ts o2, P.doms, h3, fun v2 H2 F2 n o2 => k v2 H2 R1 F2 (P.fin n) (Own_U ▸ o2)⟩
theorem Post.add {H1 : Hp} {F G : AS} (P : Post K p ds' Ox σ H en R en' H1 R' F) (n : NewTo H1 H' G) : Post K p ds' Ox σ H en R en' H' R' (U F G) := by
  have P2 : Post K true ds' (U F Ox) σ H1 en' R' en' H' R' G := Post.new P.env n.1 n.2
  have := P.trans P2
  rw [Bool.and_true] at this
  exact this
theorem new_upd {l : Addr} {o : HO} (hl : H l = none) : NewTo H (upd H l o) (fun b => b = l) := by
  refine ⟨fun a u q => ?_, fun a z => ?_⟩
  · rw [upd_ne]
    · exact q
    · intro z
      subst z
      rw [hl] at q
      cases q
  · subst z
    exact ⟨hl, _, upd_same⟩
theorem f_lst {c : Nat} (hs : shAll c sh = true) (hd : dn d = c) (hz : d ≠ 0) (h : tF K p ds ds1 d (eLst fa) σ H Q) : tLst (tFA K p ds ds1 sh fa) σ H Q := by
  obtain ⟨Ox, en, R, t, en', e, hf, k⟩ := h
  unfold eLst at hf
  obtain ⟨⟨as, en1⟩, h1, hf⟩ := Option.bind_eq_some_iff.mp hf
  obtain ⟨ts, h2, hf⟩ := Option.bind_eq_some_iff.mp hf
  by_cases hlen : ts.length ≤ sizeLine
  case neg => rw [if_neg hlen] at hf; cases hf
  rw [if_pos hlen] at hf
  cases hf
  refine ⟨Ox, en, R, as, en1, e, h1, fun vs H1 R1 F P o => ⟨?_, fun l hl => ?_⟩⟩
  · rw [o.len, ← vals_len h2]; exact hlen
  obtain ⟨F', s1, s2⟩ := OwA.ows hs h2 o
  have o2 := s2 (Own R1 (U F' Ox)) (fun a z => z.imp id fun z => z.imp (s1 a) id) fun a z z2 => by
    rcases z2 with ⟨i, z2⟩ | z2 | z2
    · exact absurd (.inl z) (P.env.dx i a z2)
    · exact z2
    · exact absurd z2 (P.fx a z)
  have P' := (P.less s1).add (new_upd (o := .lst vs) hl)
  have nl : ∀ a, F' a → a ≠ l := fun a z z2 => by
    subst z2
    obtain ⟨o', q⟩ := P.env.dom a (.inr (.inl (s1 a z)))
    rw [hl] at q
    cases q
  refine k (.ref l) (upd H1 l (.lst vs)) R1 _ P' ⟨l, vs, rfl, .inr ⟨hz, upd_same, .inr rfl, F', fun b z => ⟨.inl z, nl b z⟩, ?_⟩⟩
  rw [hd]
  refine Ows.mv (G := F') ⟨fun a o q _ => (new_upd (o := .lst vs) hl).1 a o q, fun a z => ?_⟩ ts (fun _ z => z) o2
  rcases z with z | (z | z) | z
  · exact .inl (.inl z)
  · exact .inl (.inr (.inl z))
  · exact .inr (by rw [show a = l from z]; exact hl)
  · exact .inl (.inr (.inr z))
theorem f_tup {c : Nat} (hs : shAll c sh = true) (hd : dn d = c) (h : tF K p ds ds1 d (eTup fa) σ H Q) : tTup (tFA K p ds ds1 sh fa) σ H Q := by
  obtain ⟨Ox, en, R, t, en', e, hf, k⟩ := h
  unfold eTup at hf
  obtain ⟨⟨as, en1⟩, h1, hf⟩ := Option.bind_eq_some_iff.mp hf
  obtain ⟨ts, h2, hf⟩ := Option.bind_eq_some_iff.mp hf
  by_cases hlen : ts.length ≤ sizeLine
  case neg => rw [if_neg hlen] at hf; cases hf
  rw [if_pos hlen] at hf
  cases hf
  refine ⟨Ox, en, R, as, en1, e, h1, fun vs H1 R1 F P o => ⟨?_, fun l hl => ?_⟩⟩
  · rw [o.len, ← vals_len h2]; exact hlen
  obtain ⟨F', s1, s2⟩ := OwA.ows hs h2 o
  have o2 := s2 (Own R1 (U F' Ox)) (fun a z => z.imp id fun z => z.imp (s1 a) id) fun a z z2 => by
    rcases z2 with ⟨i, z2⟩ | z2 | z2
    · exact absurd (.inl z) (P.env.dx i a z2)
    · exact z2
    · exact absurd z2 (P.fx a z)
  have nl : ∀ a, Own R1 (U F' Ox) a → a ≠ l := fun a z z2 => by
    subst z2
    obtain ⟨o', q⟩ := P.env.dom a (z.imp id fun z => z.imp (s1 a) id)
    rw [hl] at q
    cases q
  by_cases hz : d = 0
  · subst hz
    have P' := (P.less s1).add (G := NoA) (H' := upd H1 l (.tup vs)) ⟨(new_upd (o := .tup vs) hl).1, fun _ z => z.elim⟩
    have eq : U F' NoA = F' := as_eq fun a => ⟨fun z => z.elim id fun z => z.elim, .inl⟩
    rw [eq] at P'
    refine k (.ref l) (upd H1 l (.tup vs)) R1 _ P' ⟨l, vs, rfl, .inl ⟨rfl, ⟨upd_same, fun z => nl l z rfl⟩, ?_⟩⟩
    have hc : c = 0 := hd.symm
    subst hc
    exact Ows.mv (G := F') ⟨fun a o q _ => (new_upd (o := .tup vs) hl).1 a o q, fun a z => .inl z⟩ ts (fun _ z => z) o2
  · have P' := (P.less s1).add (new_upd (o := .tup vs) hl)
    refine k (.ref l) (upd H1 l (.tup vs)) R1 _ P' ⟨l, vs, rfl, .inr ⟨hz, upd_same, .inr rfl, F', fun b z => ⟨.inl z, nl b (.inr (.inl z))⟩, ?_⟩⟩
    rw [hd]
    refine Ows.mv (G := F') ⟨fun a o q _ => (new_upd (o := .tup vs) hl).1 a o q, fun a z => ?_⟩ ts (fun _ z => z) o2
    rcases z with z | (z | z) | z
    · exact .inl (.inl z)
    · exact .inl (.inr (.inl z))
    · exact .inr (by rw [show a = l from z]; exact hl)
    · exact .inl (.inr (.inr z))
end
def spF (K : PySem.W.Frag) (dps : List Nat) (dr : Nat) (F : List D → Option (D × En)) : Sp := fun vs H Q _ =>
  ∃ Ox ts R r outs, EnvOk K dps Ox H (vs.map some) (ts.map some) R ∧ F ts = some (r, outs) ∧
    ∀ v H' R' Fr, Post K false dps Ox (vs.map some) H (ts.map some) R outs H' R' Fr → Ow K (Own R' (U Fr Ox)) H' r dr v Fr → Q v H'
def argv : List (D ⊕ Nat) → En → Option (List D)
  | [], _ => some []
  | .inl t :: r, en => (argv r en).map (t :: ·)
  | .inr i :: r, en => (en[i]?).join.bind fun t => (argv r en).map (t :: ·)
def wb : List (D ⊕ Nat) → En → En → En
  | .inr i :: r, o :: outs, en => wb r outs (en.set i o)
  | .inl _ :: r, _ :: outs, en => wb r outs en
  | _, _, en => en
def eCall (F : List D → Option (D × En)) (fa : MA) : ME := fun en => (fa en).bind fun r => (argv r.1 r.2).bind fun ts => (F ts).map fun q => (q.1, wb r.1 q.2 r.2)
def slotsOf : Sh → List Nat
  | [] => []
  | .inl _ :: r => slotsOf r
  | .inr i :: r => i :: slotsOf r
def callD (ds : List Nat) : Sh → List Nat → Bool
  | [], [] => true
  | .inl d :: r, q :: s => decide (d = q) && callD ds r s
  | .inr i :: r, q :: s => decide (ds[i]? = some q) && (decide (i ∉ slotsOf r) && callD ds r s)
  | _, _ => false
def noSlot : Sh → Bool
  | [] => true
  | .inl _ :: r => noSlot r
  | .inr _ :: _ => false
section
variable {K : PySem.W.Frag} {p p1 p2 : Bool} {ds ds0 ds1 ds2 ds' dps : List Nat} {Ox Ox' O O' : AS} {H H' : Hp} {σ : St} {en en' en1 en2 : En} {R R' : Nat → AS} {d d' d1 d2 dr : Nat} {t t1 t2 : D} {Q : VK} {f f1 f2 : ME} {fa : MA} {sh : Sh} {QA : List V → Hp → Prop} {i : Nat}
theorem OwA.parts : ∀ {as : List (D ⊕ Nat)} {sh : Sh} {vs : List V} {F : AS}, OwA K O H σ as sh vs F →
    ∃ Rp : Nat → AS, (∀ (j : Nat) t, as[j]? = some (.inl t) → ∃ v d, vs[j]? = some v ∧ sh[j]? = some (.inl d) ∧ Ow K O H t d v (Rp j)) ∧ (∀ (j i : Nat), as[j]? = some (.inr i) → ∃ v, vs[j]? = some v ∧ sh[j]? = some (.inr i) ∧ σ[i]? = some (some v)) ∧
      (∀ j a, Rp j a → F a) ∧ (∀ j j' a, Rp j a → Rp j' a → j = j')
  | [], sh, vs, F, h => ⟨fun _ => NoA, fun j t z => by simp at z, fun j i z => by simp at z, fun _ _ z => z.elim, fun _ _ _ z => z.elim⟩
  | .inl t :: as, sh, vs, F, h => by
    obtain ⟨v, r, d, dr, F1, F2, e1, e2, s1, s2, s3, h1, h2⟩ := h
    subst e1 e2
    obtain ⟨Rp, a1, a2, a3, a4⟩ := h2.parts
    refine ⟨fun j => match j with | 0 => F1 | j + 1 => Rp j, fun j u hj => ?_, fun j i hj => ?_, fun j a z => ?_, fun j j' a z z' => ?_⟩
    · cases j with
      | zero =>
        have : t = u := by simpa using hj
        subst this
        exact ⟨v, d, rfl, rfl, h1⟩
      | succ j => exact a1 j u (by simpa using hj)
    · cases j with
      | zero => simp at hj
      | succ j => exact a2 j i (by simpa using hj)
    · cases j with
      | zero => exact s1 a z
      | succ j => exact s2 a (a3 j a z)
    · cases j with
      | zero =>
        cases j' with
        | zero => rfl
        | succ j' => exact absurd (a3 j' a z') (s3 a z)
      | succ j =>
        cases j' with
        | zero => exact absurd (a3 j a z) (s3 a z')
        | succ j' => rw [a4 j j' a z z']
  | .inr i :: as, sh, vs, F, h => by
    obtain ⟨v, r, dr, e1, e2, e3, h2⟩ := h
    subst e1 e2
    obtain ⟨Rp, a1, a2, a3, a4⟩ := h2.parts
    refine ⟨fun j => match j with | 0 => NoA | j + 1 => Rp j, fun j u hj => ?_, fun j i' hj => ?_, fun j a z => ?_, fun j j' a z z' => ?_⟩
    · cases j with
      | zero => simp at hj
      | succ j => exact a1 j u (by simpa using hj)
    · cases j with
      | zero =>
        have : i = i' := by simpa using hj
        subst this
        exact ⟨v, rfl, rfl, e3⟩
      | succ j => exact a2 j i' (by simpa using hj)
    · cases j with
      | zero => exact z.elim
      | succ j => exact a3 j a z
    · cases j with
      | zero => exact z.elim
      | succ j =>
        cases j' with
        | zero => exact z'.elim
        | succ j' => rw [a4 j j' a z z']
theorem argv_get : ∀ {as : List (D ⊕ Nat)} {en : En} {ts : List D}, argv as en = some ts → ts.length = as.length ∧ ∀ (j : Nat) t, ts[j]? = some t → as[j]? = some (.inl t) ∨ ∃ i, as[j]? = some (.inr i) ∧ en[i]? = some (some t)
  | [], _, _, h => by cases h; exact ⟨rfl, fun j t z => by simp at z⟩
  | .inl t :: as, en, _, h => by
    unfold argv at h
    obtain ⟨ts', h', e⟩ := Option.map_eq_some_iff.mp h
    subst e
    obtain ⟨l, g⟩ := argv_get h'
    refine ⟨by rw [List.length_cons, List.length_cons, l], fun j u z => ?_⟩
    cases j with
    | zero => simp at z; subst z; exact .inl rfl
    | succ j => exact g j u (by simpa using z)
  | .inr i :: as, en, _, h => by
    unfold argv at h
    obtain ⟨t, ht, h⟩ := Option.bind_eq_some_iff.mp h
    obtain ⟨ts', h', e⟩ := Option.map_eq_some_iff.mp h
    subst e
    obtain ⟨l, g⟩ := argv_get h'
    refine ⟨by rw [List.length_cons, List.length_cons, l], fun j u z => ?_⟩
    cases j with
    | zero =>
      simp at z
      subst z
      refine .inr ⟨i, rfl, ?_⟩
      cases q : en[i]? with
      | none => rw [q] at ht; cases ht
      | some o => rw [q] at ht; exact congrArg some ht
    | succ j => exact g j u (by simpa using z)
theorem callD_get : ∀ {sh : Sh} {dps : List Nat}, callD ds sh dps = true → sh.length = dps.length ∧ (∀ (j d : Nat), sh[j]? = some (.inl d) → dps[j]? = some d) ∧ (∀ (j i : Nat), sh[j]? = some (.inr i) → ∃ q, dps[j]? = some q ∧ ds[i]? = some q) ∧
      (∀ (j j' i : Nat), sh[j]? = some (.inr i) → sh[j']? = some (.inr i) → j = j')
  | [], [], _ => ⟨rfl, fun j d z => by simp at z, fun j d z => by simp at z, fun j j' d z => by simp at z⟩
  | .inl d :: r, q :: s, h => by
    unfold callD at h
    rw [Bool.and_eq_true] at h
    obtain ⟨h1, h2⟩ := h
    have h1' := of_decide_eq_true h1
    subst h1'
    obtain ⟨l, a, b, c⟩ := callD_get h2
    refine ⟨by rw [List.length_cons, List.length_cons, l], fun j u z => ?_, fun j i z => ?_, fun j j' i z z' => ?_⟩
    · cases j with
      | zero => simp at z; subst z; rfl
      | succ j => exact a j u (by simpa using z)
    · cases j with
      | zero => simp at z
      | succ j => exact b j i (by simpa using z)
    · cases j with
      | zero => simp at z
      | succ j =>
        cases j' with
        | zero => simp at z'
        | succ j' => rw [c j j' i (by simpa using z) (by simpa using z')]
  | .inr i0 :: r, q :: s, h => by
    unfold callD at h
    rw [Bool.and_eq_true, Bool.and_eq_true] at h
    obtain ⟨h1, h2, h3⟩ := h
    have h1' := of_decide_eq_true h1
    have h2' := of_decide_eq_true h2
    obtain ⟨l, a, b, c⟩ := callD_get h3
    have mem : ∀ {r : Sh} {j i : Nat}, r[j]? = some (.inr i) → i ∈ slotsOf r := fun {r} => by
      induction r with
      | nil => intro j i z; simp at z
      | cons x r ih =>
        intro j i z
        cases j with
        | zero =>
          simp at z
          subst z
          unfold slotsOf
          exact List.mem_cons_self
        | succ j =>
          have := ih (j := j) (i := i) (by simpa using z)
          cases x with
          | inl _ => exact this
          | inr _ => exact List.mem_cons_of_mem _ this
    refine ⟨by rw [List.length_cons, List.length_cons, l], fun j u z => ?_, fun j i z => ?_, fun j j' i z z' => ?_⟩
    · cases j with
      | zero => simp at z
      | succ j => exact a j u (by simpa using z)
    · cases j with
      | zero => simp at z; subst z; exact ⟨q, rfl, h1'⟩
      | succ j => exact b j i (by simpa using z)
    · cases j with
      | zero =>
        simp at z
        subst z
        cases j' with
        | zero => rfl
        | succ j' => exact absurd (mem (by simpa using z')) h2'
      | succ j =>
        cases j' with
        | zero =>
          simp at z'
          subst z'
          exact absurd (mem (by simpa using z)) h2'
        | succ j' => rw [c j j' i (by simpa using z) (by simpa using z')]
  | [], _ :: _, h => nomatch h
  | .inl _ :: _, [], h => nomatch h
  | .inr _ :: _, [], h => nomatch h
theorem wb_len : ∀ (as : List (D ⊕ Nat)) (outs en : En), (wb as outs en).length = en.length
  | [], _, _ => by unfold wb; rfl
  | .inl _ :: as, [], _ => by unfold wb; rfl
  | .inr _ :: as, [], _ => by unfold wb; rfl
  | .inl _ :: as, o :: outs, en => by unfold wb; exact wb_len as outs en
  | .inr i :: as, o :: outs, en => by unfold wb; rw [wb_len as outs _, List.length_set]
theorem wb_out : ∀ (as : List (D ⊕ Nat)) (outs en : En) (i : Nat), (∀ j : Nat, as[j]? ≠ some (.inr i)) → (wb as outs en)[i]? = en[i]?
  | [], _, _, _, _ => by unfold wb; rfl
  | .inl _ :: as, [], _, _, _ => by unfold wb; rfl
  | .inr _ :: as, [], _, _, _ => by unfold wb; rfl
  | .inl _ :: as, o :: outs, en, i, h => by unfold wb; exact wb_out as outs en i fun j => h (j + 1)
  | .inr k :: as, o :: outs, en, i, h => by
    unfold wb
    rw [wb_out as outs _ i fun j => h (j + 1), List.getElem?_set_ne]
    intro e
    subst e
    exact h 0 rfl
theorem wb_in : ∀ (as : List (D ⊕ Nat)) (outs en : En) (i j : Nat), as[j]? = some (.inr i) → (∀ j' : Nat, as[j']? = some (.inr i) → j' = j) → outs.length = as.length → i < en.length → (wb as outs en)[i]? = outs[j]?
  | [], _, _, _, _, h, _, _, _ => by simp at h
  | .inl _ :: as, [], _, _, _, _, _, h, _ => by simp at h
  | .inr _ :: as, [], _, _, _, _, _, h, _ => by simp at h
  | .inl _ :: as, o :: outs, en, i, j, h, u, l, b => by
    unfold wb
    cases j with
    | zero => simp at h
    | succ j => exact wb_in as outs en i j (by simpa using h) (fun j' z => by have := u (j' + 1) (by simpa using z); omega) (by simpa using l) b
  | .inr k :: as, o :: outs, en, i, j, h, u, l, b => by
    unfold wb
    cases j with
    | zero =>
      have e : k = i := by simpa using h
      subst e
      rw [wb_out as outs _ k fun j' z => by have := u (j' + 1) (by simpa using z); omega]
      rw [List.getElem?_set_self b]
      rfl
    | succ j => exact wb_in as outs _ i j (by simpa using h) (fun j' z => by have := u (j' + 1) (by simpa using z); omega) (by simpa using l) (by rw [List.length_set]; exact b)
end
end L2
set_option Elab.async false
set_option linter.all false
set_option maxRecDepth 100000
set_option maxHeartbeats 4000000
namespace L2
open PySem PySem.Spec PyProof.Rows
section
variable {K : PySem.W.Frag} {p p1 p2 : Bool} {ds ds0 ds1 ds2 ds' dps : List Nat} {Ox Ox' O O' : AS} {H H' : Hp} {σ : St} {en en' en1 en2 : En} {R R' : Nat → AS} {d d' d1 d2 dr : Nat} {t t1 t2 : D} {Q : VK} {f f1 f2 : ME} {fa : MA} {sh : Sh} {QA : List V → Hp → Prop} {i : Nat}
theorem OwA.shl : ∀ {as : List (D ⊕ Nat)} {sh : Sh} {vs : List V} {F : AS}, OwA K O H σ as sh vs F → sh.length = as.length
  | [], _, _, _, h => by rw [h.1]; rfl
  | .inl t :: as, _, _, _, h => by
    obtain ⟨v, r, d, dr, F1, F2, e1, e2, s1, s2, s3, h1, h2⟩ := h
    rw [e2, List.length_cons, List.length_cons, h2.shl]
  | .inr i :: as, _, _, _, h => by
    obtain ⟨v, r, dr, e1, e2, e3, h2⟩ := h
    rw [e2, List.length_cons, List.length_cons, h2.shl]
theorem noSlot_get : ∀ {sh : Sh}, noSlot sh = true → ∀ (j i : Nat), sh[j]? ≠ some (.inr i)
  | [], _, j, i, z => by simp at z
  | .inl _ :: r, h, j, i, z => by
    cases j with
    | zero => simp at z
    | succ j => exact noSlot_get (sh := r) h j i (by simpa using z)
  | .inr _ :: r, h, _, _, _ => nomatch h
theorem f_fn {E : XK} {F : List D → Option (D × En)} (hc : callD ds1 sh dps = true) (h : tF K (p && noSlot sh) ds ds1 dr (eCall F fa) σ H Q) : tCall (spF K dps dr F) [] E (tFA K p ds ds1 sh fa) σ H Q := by
  obtain ⟨Ox, en, R, t, en', e, hf, k⟩ := h
  unfold eCall at hf
  obtain ⟨⟨as, en1⟩, h1, hf⟩ := Option.bind_eq_some_iff.mp hf
  obtain ⟨ts, h2, hf⟩ := Option.bind_eq_some_iff.mp hf
  obtain ⟨⟨r, outs⟩, h3, hf⟩ := Option.map_eq_some_iff.mp hf
  cases hf
  refine ⟨Ox, en, R, as, en1, e, h1, fun vs H1 R1 F0 P o => ?_⟩
  obtain ⟨cl, c1, c2, c3⟩ := callD_get hc
  obtain ⟨Rp, a1, a2, a3, a4⟩ := o.parts
  obtain ⟨tl, tg⟩ := argv_get h2
  have ol := o.len
  have asl : ∀ (j i : Nat), as[j]? = some (.inr i) → sh[j]? = some (.inr i) := fun j i z => (a2 j i z).choose_spec.2.1
  have asr : ∀ (j i : Nat), sh[j]? = some (.inr i) → as[j]? = some (.inr i) := fun j i z => by
    cases q : as[j]? with
    | none =>
      have e1 : as.length ≤ j := List.getElem?_eq_none_iff.mp q
      have e2 : j < sh.length := (List.getElem?_eq_some_iff.mp z).1
      have := o.shl
      omega
    | some x =>
      cases x with
      | inl t =>
        obtain ⟨_, _, _, e2, _⟩ := a1 j t q
        rw [z] at e2; cases e2
      | inr i' =>
        have := asl j i' q
        rw [z] at this
        cases this
        rfl
  let Rq : Nat → AS := fun j => match sh[j]? with | some (.inr i) => R1 i | _ => Rp j
  have rq1 : ∀ j i : Nat, sh[j]? = some (.inr i) → Rq j = R1 i := fun j i z => by show (match sh[j]? with | some (.inr i) => R1 i | _ => Rp j) = R1 i; rw [z]
  have rq2 : ∀ j : Nat, (∀ i : Nat, sh[j]? ≠ some (.inr i)) → Rq j = Rp j := fun j z => by
    show (match sh[j]? with | some (.inr i) => R1 i | _ => Rp j) = Rp j
    split
    · next i q => exact absurd q (z i)
    · rfl
  have rqc : ∀ (j : Nat) a, Rq j a → (∃ i, sh[j]? = some (.inr i) ∧ R1 i a) ∨ Rp j a := fun j a z => by
    by_cases q : ∃ i, sh[j]? = some (.inr i)
    · obtain ⟨i, q⟩ := q
      rw [rq1 j i q] at z
      exact .inl ⟨i, q, z⟩
    · rw [rq2 j fun i z => q ⟨i, z⟩] at z
      exact .inr z
  let Oxp : AS := fun a => Ox a ∨ ∃ i, R1 i a ∧ ∀ j : Nat, sh[j]? ≠ some (.inr i)
  have sub : ∀ a, Own Rq Oxp a → Own R1 (U F0 Ox) a := fun a z => by
    rcases z with ⟨j, z⟩ | z | ⟨i, z, _⟩
    · rcases rqc j a z with ⟨i, _, z⟩ | z
      · exact .inl ⟨i, z⟩
      · exact .inr (.inl (a3 j a z))
    · exact .inr (.inr z)
    · exact .inl ⟨i, z⟩
  have ec : EnvOk K dps Oxp H1 (vs.map some) (ts.map some) Rq := by
    refine ⟨fun j u hu => ?_, fun j j' a z z' => ?_, fun j a z z2 => ?_, fun a z => P.env.dom a (sub a z), by rw [List.length_map, List.length_map, tl, ol], ?_⟩
    · rw [List.getElem?_map] at hu
      obtain ⟨u', hu, eu⟩ := Option.map_eq_some_iff.mp hu
      cases eu
      rcases tg j u hu with q | ⟨i, q, qe⟩
      · obtain ⟨v, d, b1, b2, b3⟩ := a1 j u q
        refine ⟨v, d, by rw [List.getElem?_map, b1]; rfl, c1 j d b2, ?_⟩
        rw [rq2 j fun i z => by rw [b2] at z; cases z]
        exact Ow.grow sub u (fun _ z => z) b3
      · obtain ⟨v, b1, b2, b3⟩ := a2 j i q
        obtain ⟨v', d, g1, g2, g3⟩ := P.env.at_ i u qe
        rw [b3] at g1
        cases g1
        obtain ⟨qd, q1, q2⟩ := c2 j i b2
        rw [g2] at q2
        cases q2
        refine ⟨v, d, by rw [List.getElem?_map, b1]; rfl, q1, ?_⟩
        rw [rq1 j i b2]
        exact Ow.grow sub u (fun _ z => z) g3
    · rcases rqc j a z with ⟨i, q, z⟩ | z <;> rcases rqc j' a z' with ⟨i', q', z'⟩ | z'
      · have := P.env.dj i i' a z z'
        subst this
        exact c3 j j' i q q'
      · exact absurd (.inl (a3 j' a z')) (P.env.dx i a z)
      · exact absurd (.inl (a3 j a z)) (P.env.dx i' a z')
      · exact a4 j j' a z z'
    · rcases rqc j a z with ⟨i, q, z⟩ | z
      · rcases z2 with z2 | ⟨i', z2, n⟩
        · exact P.env.dx i a z (.inr z2)
        · have := P.env.dj i i' a z z2
          subst this
          exact n j q
      · rcases z2 with z2 | ⟨i', z2, n⟩
        · exact P.fx a (a3 j a z) z2
        · exact P.env.dx i' a z2 (.inl (a3 j a z))
    · have := o.shl
      rw [List.length_map]
      omega
  rw [List.append_nil]
  refine ⟨Oxp, ts, Rq, r, outs, ec, h3, fun v H2 R2 Fr Pc oc => ?_⟩
  have outl : outs.length = as.length := by rw [Pc.env.l1, List.length_map]; exact ol
  -- the names behind the call
  classical
  let R3 : Nat → AS := fun i => if q : ∃ j : Nat, sh[j]? = some (.inr i) then R2 q.choose else R1 i
  have r31 : ∀ (i j : Nat), sh[j]? = some (.inr i) → R3 i = R2 j := fun i j z => by
    have q : ∃ j : Nat, sh[j]? = some (.inr i) := ⟨j, z⟩
    have : q.choose = j := c3 _ _ i q.choose_spec z
    show (if q : ∃ j : Nat, sh[j]? = some (.inr i) then R2 q.choose else R1 i) = R2 j
    rw [dif_pos q, this]
  have r32 : ∀ i : Nat, (∀ j : Nat, sh[j]? ≠ some (.inr i)) → R3 i = R1 i := fun i z => by
    show (if q : ∃ j : Nat, sh[j]? = some (.inr i) then R2 q.choose else R1 i) = R1 i
    rw [dif_neg fun ⟨j, q⟩ => z j q]
  have r3c : ∀ (i : Nat) a, R3 i a → (∃ j : Nat, sh[j]? = some (.inr i) ∧ R2 j a) ∨ ((∀ j : Nat, sh[j]? ≠ some (.inr i)) ∧ R1 i a) := fun i a z => by
    by_cases q : ∃ j : Nat, sh[j]? = some (.inr i)
    · obtain ⟨j, q⟩ := q
      rw [r31 i j q] at z
      exact .inl ⟨j, q, z⟩
    · rw [r32 i fun j z => q ⟨j, z⟩] at z
      exact .inr ⟨fun j z => q ⟨j, z⟩, z⟩
  have sub3 : ∀ a, Own R3 (U Fr Ox) a → Own R2 (U Fr Oxp) a := fun a z => by
    rcases z with ⟨i, z⟩ | z | z
    · rcases r3c i a z with ⟨j, _, z⟩ | ⟨n, z⟩
      · exact .inl ⟨j, z⟩
      · exact .inr (.inr (.inr ⟨i, z, n⟩))
    · exact .inr (.inl z)
    · exact .inr (.inr (.inl z))
  have back : ∀ a, (Fr a ∨ ∃ j, R2 j a) → Own R1 (U F0 Ox) a ∨ H1 a = none := fun a z => by
    rcases Pc.own a z with ⟨j, z⟩ | z
    · exact .inl (sub a (.inl ⟨j, z⟩))
    · exact .inr z
  have back2 : ∀ a, (Fr a ∨ ∃ j, R2 j a) → (F0 a ∨ ∃ i, R1 i a) ∨ H1 a = none := fun a z => by
    rcases Pc.own a z with ⟨j, z⟩ | z
    · rcases rqc j a z with ⟨i, _, z⟩ | z
      · exact .inl (.inr ⟨i, z⟩)
      · exact .inl (.inl (a3 j a z))
    · exact .inr z
  have n1 : ∀ a, H1 a = none → H a = none := fun a z => by
    cases q : H a with
    | none => rfl
    | some o =>
      obtain ⟨o', q'⟩ := P.dom a o q
      rw [z] at q'
      cases q'
  have rqsub : ∀ j a, Rq j a → Own R1 (U F0 Ox) a := fun j a z => sub a (.inl ⟨j, z⟩)
  have env3 : EnvOk K ds1 (U Fr Ox) H2 σ (wb as outs en1) R3 := by
    refine ⟨fun i u hu => ?_, fun i i' a z z' => ?_, fun i a z z2 => ?_, fun a z => Pc.env.dom a (sub3 a z), by rw [wb_len]; exact P.env.l1, P.env.l2⟩
    · by_cases q : ∃ j : Nat, as[j]? = some (.inr i)
      · obtain ⟨j, q⟩ := q
        obtain ⟨v, b1, b2, b3⟩ := a2 j i q
        have hil : i < en1.length := by rw [P.env.l1]; exact (List.getElem?_eq_some_iff.mp b3).1
        rw [wb_in as outs en1 i j q (fun j' z => c3 j' j i (asl j' i z) b2) outl hil] at hu
        obtain ⟨v', d, g1, g2, g3⟩ := Pc.env.at_ j u hu
        rw [List.getElem?_map, b1] at g1
        cases g1
        obtain ⟨qd, q1, q2⟩ := c2 j i b2
        rw [g2] at q1
        cases q1
        refine ⟨v, d, b3, q2, ?_⟩
        rw [r31 i j b2]
        exact Ow.grow sub3 u (fun _ z => z) g3
      · rw [wb_out as outs en1 i fun j z => q ⟨j, z⟩] at hu
        have ns : ∀ j : Nat, sh[j]? ≠ some (.inr i) := fun j z => q ⟨j, asr j i z⟩
        obtain ⟨v, d, g1, g2, g3⟩ := P.env.at_ i u hu
        refine ⟨v, d, g1, g2, ?_⟩
        rw [r32 i ns]
        refine Ow.mv (G := R1 i) ⟨fun a o q z => Pc.keep a o q fun j zj => ?_, fun a z => ?_⟩ u (fun _ z => z) g3
        · rcases z with z | z
          · exact z (rqsub j a zj)
          · rcases rqc j a zj with ⟨i', q', z'⟩ | z'
            · have := P.env.dj i i' a z z'
              subst this
              exact ns j q'
            · exact P.env.dx i a z (.inl (a3 j a z'))
        · rcases z with ⟨i', z⟩ | z | z
          · rcases r3c i' a z with ⟨j, _, z⟩ | ⟨n, z⟩
            · exact back a (.inr ⟨j, z⟩)
            · exact .inl (.inl ⟨i', z⟩)
          · exact back a (.inl z)
          · exact .inl (.inr (.inr z))
    · rcases r3c i a z with ⟨j, q, z⟩ | ⟨n, z⟩ <;> rcases r3c i' a z' with ⟨j', q', z'⟩ | ⟨n', z'⟩
      · have := Pc.env.dj j j' a z z'
        subst this
        rw [q] at q'
        cases q'
        rfl
      · exact absurd (.inr (.inr ⟨i', z', n'⟩)) (Pc.env.dx j a z)
      · exact absurd (.inr (.inr ⟨i, z, n⟩)) (Pc.env.dx j' a z')
      · exact P.env.dj i i' a z z'
    · rcases r3c i a z with ⟨j, q, z⟩ | ⟨n, z⟩
      · exact Pc.env.dx j a z (z2.imp id .inl)
      · rcases z2 with z2 | z2
        · exact Pc.fx a z2 (.inr ⟨i, z, n⟩)
        · exact P.env.dx i a z (.inr z2)
  refine k v H2 R3 Fr ⟨env3, fun a z z2 => Pc.fx a z (.inl z2), fun a o q n => ?_, fun a z => ?_, fun a o q => ?_, fun hp => ?_⟩ (Ow.grow sub3 r (fun _ z => z) oc)
  · refine Pc.keep a o (P.keep a o q n) fun j z => ?_
    have nn : ∀ i, ¬ R1 i a := fun i z => by
      rcases P.own a (.inr ⟨i, z⟩) with ⟨i', z⟩ | z
      · exact n i' z
      · rw [q] at z; cases z
    rcases rqc j a z with ⟨i, _, z⟩ | z
    · exact nn i z
    · rcases P.own a (.inl (a3 j a z)) with ⟨i', z⟩ | z
      · exact n i' z
      · rw [q] at z; cases z
  · have : (F0 a ∨ ∃ i, R1 i a) ∨ H1 a = none := by
      rcases z with z | ⟨i, z⟩
      · exact back2 a (.inl z)
      · rcases r3c i a z with ⟨j, _, z⟩ | ⟨n, z⟩
        · exact back2 a (.inr ⟨j, z⟩)
        · exact .inl (.inr ⟨i, z⟩)
    rcases this with z | z
    · exact P.own a z
    · exact .inr (n1 a z)
  · obtain ⟨o', q'⟩ := P.dom a o q
    exact Pc.dom a o' q'
  · obtain ⟨hp1, hp2⟩ := (Bool.and_eq_true _ _ ▸ hp : p = true ∧ noSlot sh = true)
    obtain ⟨b1, b2, b3⟩ := P.pure hp1
    have ns := noSlot_get hp2
    refine ⟨?_, ?_, fun a o q => ?_⟩
    · show wb as outs en1 = en
      rw [← b1]
      refine List.ext_getElem? fun i => ?_
      exact wb_out as outs en1 i fun j z => ns j i (asl j i z)
    · rw [← b2]
      funext i
      exact r32 i fun j => ns j i
    · refine Pc.keep a o (b3 a o q) fun j z => ?_
      rcases rqc j a z with ⟨i, z, _⟩ | z
      · exact ns j i z
      · have zf := a3 j a z
        rcases P.own a (.inl zf) with ⟨i, z2⟩ | z2
        · rw [← b2] at z2
          exact P.env.dx i a z2 (.inl zf)
        · rw [q] at z2; cases z2
end
end L2
set_option Elab.async false
set_option linter.all false
set_option maxRecDepth 100000
set_option maxHeartbeats 4000000
namespace L2
open PySem PySem.Spec PyProof.Rows
inductive Fl where
  | nx (en : En) | rt (t : D) (en : En) | ct (en : En)
abbrev MS := En → Option Fl
structure Jd where
  lk : List Nat
  dsr : List Nat
  dr : Nat
  dsl : List Nat
structure PostS (K : PySem.W.Frag) (lk : List Nat) (ds' : List Nat) (Ox : AS) (σ : St) (H : Hp) (R : Nat → AS) (σ' : St) (en' : En) (H' : Hp) (R' : Nat → AS) (F : AS) : Prop where
  env : EnvOk K ds' (U F Ox) H' σ' en' R'
  fx : ∀ a, F a → ¬ Ox a
  keep : ∀ a o, H a = some o → (∀ i, ¬ R i a) → H' a = some o
  own : ∀ a, (F a ∨ ∃ i, R' i a) → (∃ i, R i a) ∨ H a = none
  dom : ∀ a o, H a = some o → ∃ o', H' a = some o'
  lk : ∀ j ∈ lk, σ'[j]? = σ[j]?
def tFS (K : PySem.W.Frag) (J : Jd) (ds ds' : List Nat) (f : MS) : TS := fun D σ H =>
  ∃ Ox en R fl, EnvOk K ds Ox H σ en R ∧ f en = some fl ∧ match fl with
    | .nx en' => ∀ σ' H' R', PostS K J.lk ds' Ox σ H R σ' en' H' R' NoA → D.nx σ' H'
    | .ct en' => ∀ σ' H' R', PostS K J.lk J.dsl Ox σ H R σ' en' H' R' NoA → D.ct σ' H'
    | .rt t en' => ∀ v σ' H' R' F, PostS K J.lk J.dsr Ox σ H R σ' en' H' R' F → Ow K (Own R' (U F Ox)) H' t J.dr v F → D.rt v H'
def sSeq (f g : MS) : MS := fun en => (f en).bind fun fl => match fl with
  | .nx en1 => g en1
  | .rt t en1 => some (.rt t en1)
  | .ct en1 => some (.ct en1)
def sSet (i : Nat) (f : ME) : MS := fun en => (f en).map fun r => .nx (r.2.set i (some r.1))
def sExp (f : ME) : MS := fun en => (f en).map fun r => .nx r.2
def sRet (f : ME) : MS := fun en => (f en).map fun r => .rt r.1 r.2
def sNil : MS := fun en => some (.nx en)
def sIf (c : MT) (f g : MS) : MS := fun en => (c en).bind fun r => if r.1 then f r.2 else g r.2
section
variable {K : PySem.W.Frag} {p p1 p2 : Bool} {J : Jd} {lk : List Nat} {ds ds0 ds1 ds2 ds' : List Nat} {Ox Ox' O O' : AS} {H H' : Hp} {σ σ' : St} {en en' en1 en2 : En} {R R' : Nat → AS} {d d' d1 d2 dr : Nat} {t t1 t2 : D} {f f1 f2 : ME} {c : MT} {m m1 m2 : MS} {i : Nat} {D : Ends}
theorem PostS.refl (e : EnvOk K ds Ox H σ en R) : PostS K lk ds Ox σ H R σ en H R NoA :=
  ⟨by rw [U_no]; exact e, fun _ z => z.elim, fun _ _ q _ => q, fun a z => z.elim (fun z => z.elim) .inl, fun a o q => ⟨o, q⟩, fun _ _ => rfl⟩
theorem PostS.env0 {F : AS} (P : PostS K lk ds' Ox σ H R σ' en' H' R' F) : EnvOk K ds' Ox H' σ' en' R' := P.env.fewer fun a z => .inr z
theorem PostS.less {F F' : AS} (P : PostS K lk ds' Ox σ H R σ' en' H' R' F) (h : ∀ a, F' a → F a) : PostS K lk ds' Ox σ H R σ' en' H' R' F' :=
  ⟨P.env.fewer fun a z => z.imp (h a) id, fun a z => P.fx a (h a z), P.keep, fun a z => P.own a (z.imp (h a) id), P.dom, P.lk⟩
theorem PostS.after {σ1 σ2 : St} {H1 : Hp} {R1 R2 : Nat → AS} {F : AS} (P1 : PostS K lk ds1 Ox σ H R σ1 en1 H1 R1 NoA) (P2 : PostS K lk ds2 Ox σ1 H1 R1 σ2 en2 H' R2 F) : PostS K lk ds2 Ox σ H R σ2 en2 H' R2 F := by
  have n1 : ∀ a, H1 a = none → H a = none := fun a z => by
    cases q : H a with
    | none => rfl
    | some o =>
      obtain ⟨o', q'⟩ := P1.dom a o q
      rw [z] at q'
      cases q'
  refine ⟨P2.env, P2.fx, fun a o q n => ?_, fun a z => ?_, fun a o q => ?_, fun j hj => (P2.lk j hj).trans (P1.lk j hj)⟩
  · refine P2.keep a o (P1.keep a o q n) fun i z => ?_
    rcases P1.own a (.inr ⟨i, z⟩) with ⟨j, z⟩ | z
    · exact n j z
    · rw [q] at z; cases z
  · rcases P2.own a z with z | z
    · exact P1.own a (.inr z)
    · exact .inr (n1 a z)
  · obtain ⟨o', q'⟩ := P1.dom a o q
    exact P2.dom a o' q'
theorem Post.s {F : AS} (P : Post K p ds' Ox σ H en R en' H' R' F) : PostS K lk ds' Ox σ H R σ en' H' R' F := ⟨P.env, P.fx, P.keep, P.own, P.dom, fun _ _ => rfl⟩
theorem PostS.cut {F : AS} (P : PostS K lk ds1 Ox σ H R σ' en' H' R' F) (hd : leD ds2 ds1 = true) : ∃ R2, (∀ i a, R2 i a → R' i a) ∧ PostS K lk ds2 Ox σ H R σ' en' H' R2 F := by
  obtain ⟨R2, s1, e2⟩ := P.env.cut (leD_get hd).1 (leD_get hd).2
  exact ⟨R2, s1, e2, P.fx, P.keep, fun a z => P.own a (z.imp id fun ⟨i, z⟩ => ⟨i, s1 i a z⟩), P.dom, P.lk⟩
theorem fs_nil (h : tFS K J ds ds sNil D σ H) : tNext D σ H := by
  obtain ⟨Ox, en, R, fl, e, hf, k⟩ := h
  cases hf
  exact k σ H R (PostS.refl e)
theorem fs_seq (h : tFS K J ds ds2 (sSeq m1 m2) D σ H) : tSeq (tFS K J ds ds1 m1) (tFS K J ds1 ds2 m2) D σ H := by
  obtain ⟨Ox, en, R, fl, e, hf, k⟩ := h
  unfold sSeq at hf
  obtain ⟨fl1, h1, hf⟩ := Option.bind_eq_some_iff.mp hf
  refine ⟨Ox, en, R, fl1, e, h1, ?_⟩
  cases fl1 with
  | nx en1 =>
    intro σ1 H1 R1 P1
    refine ⟨Ox, en1, R1, fl, P1.env0, hf, ?_⟩
    cases fl with
    | nx en2 => exact fun σ2 H2 R2 P2 => k σ2 H2 R2 (P1.after P2)
    | ct en2 => exact fun σ2 H2 R2 P2 => k σ2 H2 R2 (P1.after P2)
    | rt t en2 => exact fun v σ2 H2 R2 F P2 o => k v σ2 H2 R2 F (P1.after P2) o
  | ct en1 => cases hf; exact k
  | rt t en1 => cases hf; exact k
theorem fs_sub (hd : leD ds1 ds2 = true) (h : tFS K J ds ds1 m D σ H) : tFS K J ds ds2 m D σ H := by
  obtain ⟨Ox, en, R, fl, e, hf, k⟩ := h
  refine ⟨Ox, en, R, fl, e, hf, ?_⟩
  cases fl with
  | nx en2 =>
    intro σ2 H2 R2 P2
    obtain ⟨R3, _, P3⟩ := P2.cut hd
    exact k σ2 H2 R3 P3
  | ct en2 => exact k
  | rt t en2 => exact k
theorem fs_exp (h : tFS K J ds ds1 (sExp f) D σ H) : tDrop (tF K p ds ds1 d f) D σ H := by
  obtain ⟨Ox, en, R, fl, e, hf, k⟩ := h
  unfold sExp at hf
  obtain ⟨⟨t, en1⟩, h1, hf⟩ := Option.map_eq_some_iff.mp hf
  cases hf
  exact ⟨Ox, en, R, t, en1, e, h1, fun v H1 R1 F P o => k σ H1 R1 (P.s.less fun _ z => z.elim)⟩
theorem fs_ret (hd : leD J.dsr ds1 = true) (h : tFS K J ds ds' (sRet f) D σ H) : tRet (tF K p ds ds1 J.dr f) D σ H := by
  obtain ⟨Ox, en, R, fl, e, hf, k⟩ := h
  unfold sRet at hf
  obtain ⟨⟨t, en1⟩, h1, hf⟩ := Option.map_eq_some_iff.mp hf
  cases hf
  refine ⟨Ox, en, R, t, en1, e, h1, fun v H1 R1 F P o => ?_⟩
  obtain ⟨R2, s1, P2⟩ := (P.s (lk := J.lk)).cut hd
  exact k v σ H1 R2 F P2 (Ow.grow (fun a z => z.imp (fun ⟨i, z⟩ => ⟨i, s1 i a z⟩) id) t (fun _ z => z) o)
theorem fs_if (h : tFS K J ds ds2 (sIf c m1 m2) D σ H) : tIfS (tFT K p ds ds1 c) (tFS K J ds1 ds2 m1) (tFS K J ds1 ds2 m2) D σ H := by
  obtain ⟨Ox, en, R, fl, e, hf, k⟩ := h
  unfold sIf at hf
  obtain ⟨⟨b, en1⟩, h1, hf⟩ := Option.bind_eq_some_iff.mp hf
  refine ⟨Ox, en, R, b, en1, e, h1, fun H1 R1 P1 => ?_⟩
  have fin : ∀ m, m en1 = some fl → tFS K J ds1 ds2 m D σ H1 := fun m hm => by
    refine ⟨Ox, en1, R1, fl, P1.env0, hm, ?_⟩
    cases fl with
    | nx en2 => exact fun σ2 H2 R2 P2 => k σ2 H2 R2 (P1.s.after P2)
    | ct en2 => exact fun σ2 H2 R2 P2 => k σ2 H2 R2 (P1.s.after P2)
    | rt t en2 => exact fun v σ2 H2 R2 F P2 o => k v σ2 H2 R2 F (P1.s.after P2) o
  cases b with
  | true => exact fin m1 hf
  | false => exact fin m2 hf
theorem PostS.store {F : AS} {v : V} (P : Post K p ds1 Ox σ H en R en1 H' R' F) (o : Ow K (Own R' (U F Ox)) H' t d v F) (hi : i < ds1.length) (hl : i ∉ lk) :
    PostS K lk (ds1.set i d) Ox σ H R (σ.set i (some v)) (en1.set i (some t)) H' (fun j => if j = i then F else R' j) NoA := by
  have l1 := P.env.l1
  have l2 := P.env.l2
  have sub : ∀ a, Own (fun j => if j = i then F else R' j) Ox a → Own R' (U F Ox) a := fun a z => by
    rcases z with ⟨j, z⟩ | z
    · by_cases hj : j = i
      · rw [if_pos hj] at z; exact .inr (.inl z)
      · rw [if_neg hj] at z; exact .inl ⟨j, z⟩
    · exact .inr (.inr z)
  refine ⟨?_, fun _ z => z.elim, P.keep, fun a z => ?_, P.dom, fun j hj => ?_⟩
  · rw [U_no]
    refine ⟨fun j u hu => ?_, fun j j' a z z' => ?_, fun j a z z2 => ?_, fun a z => P.env.dom a (sub a z), by rw [List.length_set, List.length_set]; exact l1, by rw [List.length_set, List.length_set]; exact l2⟩
    · by_cases hj : j = i
      · subst hj
        rw [List.getElem?_set_self (by omega)] at hu
        cases hu
        refine ⟨v, d, List.getElem?_set_self (by omega), List.getElem?_set_self hi, ?_⟩
        rw [if_pos rfl]
        exact Ow.grow sub t (fun _ z => z) o
      · rw [List.getElem?_set_ne (Ne.symm hj)] at hu
        obtain ⟨v', d', g1, g2, g3⟩ := P.env.at_ j u hu
        refine ⟨v', d', by rw [List.getElem?_set_ne (Ne.symm hj)]; exact g1, by rw [List.getElem?_set_ne (Ne.symm hj)]; exact g2, ?_⟩
        rw [if_neg hj]
        exact Ow.grow sub u (fun _ z => z) g3
    · by_cases hj : j = i <;> by_cases hj' : j' = i
      · rw [hj, hj']
      · rw [if_pos hj] at z; rw [if_neg hj'] at z'
        exact absurd (.inl z) (P.env.dx j' a z')
      · rw [if_neg hj] at z; rw [if_pos hj'] at z'
        exact absurd (.inl z') (P.env.dx j a z)
      · rw [if_neg hj] at z; rw [if_neg hj'] at z'
        exact P.env.dj j j' a z z'
    · by_cases hj : j = i
      · rw [if_pos hj] at z
        exact P.fx a z z2
      · rw [if_neg hj] at z
        exact P.env.dx j a z (.inr z2)
  · rcases z with z | ⟨j, z⟩
    · exact z.elim
    · by_cases hj : j = i
      · rw [if_pos hj] at z; exact P.own a (.inl z)
      · rw [if_neg hj] at z; exact P.own a (.inr ⟨j, z⟩)
  · rw [List.getElem?_set_ne]
    intro z
    subst z
    exact hl hj
theorem fs_set (hi : i < ds1.length) (hl : i ∉ J.lk) (h : tFS K J ds (ds1.set i d) (sSet i f) D σ H) : tAsg (tF K p ds ds1 d f) (gName i) D σ H := by
  obtain ⟨Ox, en, R, fl, e, hf, k⟩ := h
  unfold sSet at hf
  obtain ⟨⟨t, en1⟩, h1, hf⟩ := Option.map_eq_some_iff.mp hf
  cases hf
  exact ⟨Ox, en, R, t, en1, e, h1, fun v H1 R1 F P o => k _ H1 _ (PostS.store P o hi hl)⟩
abbrev MG := PyData → En → Option En
def tFG (K : PySem.W.Frag) (lk : List Nat) (ds ds' : List Nat) (g : MG) : TG := fun v σ H Q =>
  ∃ Ox en R t en', EnvOk K ds Ox H σ en R ∧ Ow K (Own R Ox) H t 0 v NoA ∧ g t en = some en' ∧ ∀ σ' R', PostS K lk ds' Ox σ H R σ' en' H R' NoA → (∀ j ∈ lk, R' j = R j) → Q σ' H
def tFGs (K : PySem.W.Frag) (lk : List Nat) (ds ds' : List Nat) (g : List PyData → En → Option En) : TGs := fun vs σ H Q =>
  ∃ Ox en R ts en', EnvOk K ds Ox H σ en R ∧ Ows K (Own R Ox) H ts 0 vs NoA ∧ g ts en = some en' ∧ ∀ σ' R', PostS K lk ds' Ox σ H R σ' en' H R' NoA → (∀ j ∈ lk, R' j = R j) → Q σ' H
def gN (i : Nat) : MG := fun t en => some (en.set i (some t))
def gs0 : List PyData → En → Option En := fun ts en => match ts with
  | [] => some en
  | _ => none
def gsC (g : MG) (r : List PyData → En → Option En) : List PyData → En → Option En := fun ts en => match ts with
  | t :: ts => (g t en).bind fun en1 => r ts en1
  | [] => none
def gT (g : List PyData → En → Option En) : MG := fun t en => match t with
  | .tuple ts => g ts en
  | _ => none
variable {g g1 : MG} {gs : List PyData → En → Option En} {v : V} {vs : List V} {QS : St → Hp → Prop}
theorem fg_name (hi : i < ds.length) (hl : i ∉ lk) (h : tFG K lk ds (ds.set i 0) (gN i) v σ H QS) : gName i v σ H QS := by
  obtain ⟨Ox, en, R, t, en', e, o, hf, k⟩ := h
  cases hf
  exact k _ _ (PostS.store (p := true) (Post.refl e) (by rw [show (fun _ => False : AS) = NoA from rfl, U_no]; exact o) hi hl) fun j hj => if_neg (fun (z : j = i) => hl (by rw [← z]; exact hj))
theorem fgs_nil (h : tFGs K lk ds ds gs0 vs σ H QS) : gNil vs σ H QS := by
  obtain ⟨Ox, en, R, ts, en', e, o, hf, k⟩ := h
  cases ts with
  | nil => cases hf; exact ⟨o, k σ R (PostS.refl e) fun _ _ => rfl⟩
  | cons t ts => cases hf
theorem fgs_cons (h : tFGs K lk ds ds2 (gsC g gs) vs σ H QS) : gCons (tFG K lk ds ds1 g) (tFGs K lk ds1 ds2 gs) vs σ H QS := by
  obtain ⟨Ox, en, R, ts, en', e, o, hf, k⟩ := h
  cases ts with
  | nil => cases hf
  | cons t ts =>
    obtain ⟨en1, h1, h2⟩ := Option.bind_eq_some_iff.mp hf
    obtain ⟨v, r, F1, F2, e1, s1, s2, s3, o1, o2⟩ := o
    refine ⟨v, r, e1, Ox, en, R, t, en1, e, Ow.any0 t o1, h1, fun σ1 R1 P1 r1 => ?_⟩
    refine ⟨Ox, en1, R1, ts, en', P1.env0, Ows.any0 ts (Ows.mv (G := NoA) ⟨fun a o q _ => q, fun a z => ?_⟩ ts (F := NoA) (fun _ z => z) (Ows.any0 ts o2)), h2, fun σ2 R2 P2 r2 => k σ2 R2 (P1.after P2) fun j hj => (r2 j hj).trans (r1 j hj)⟩
    rcases z with z | z
    · exact (P1.own a (.inr z)).imp .inl id
    · exact .inl (.inr z)
theorem fg_tup {n : Nat} (hn : ∀ ts en, (∃ en', gs ts en = some en') → ts.length = n) (h : tFG K lk ds ds1 (gT gs) v σ H QS) : gTup K n (tFGs K lk ds ds1 gs) v σ H QS := by
  obtain ⟨Ox, en, R, t, en', e, o, hf, k⟩ := h
  cases t with
  | tuple ts =>
    have hf' : gs ts en = some en' := hf
    obtain ⟨a, vs, e1, ⟨_, h1, h2⟩ | ⟨z, _⟩⟩ := o
    · refine ⟨a, vs, e1, h1.sq, ?_, Ox, en, R, ts, en', e, h2, hf', k⟩
      rw [← hn ts en ⟨en', hf'⟩]
      have : ∀ {ts : List PyData} {vs : List V} {F : AS}, Ows K (Own R Ox) H ts 0 vs F → vs.length = ts.length := fun {ts} => by
        induction ts with
        | nil => intro vs F h; rw [show vs = [] from h]; rfl
        | cons t ts ih =>
          intro vs F h
          obtain ⟨v, r, F1, F2, e, h1, h2, h3, h4, h5⟩ := h
          rw [e, List.length_cons, List.length_cons, ih h5]
      exact this h2
    · exact absurd rfl z
  | _ => cases hf
abbrev MI := En → Option (List PyData × En)
def Walk (K : PySem.W.Frag) (O : AS) (H0 : Hp) (J : It) (ts : List PyData) : Prop :=
  ∀ (i : Nat) (H : Hp) (O1 : AS), (∀ a o, H0 a = some o → ¬ O a → H a = some o) → (∀ a, O1 a → O a ∨ H0 a = none) → (∀ a, O1 a → ∃ o, H a = some o) →
    (∀ t, ts[i]? = some t → J.go i H ∧ ∀ x H1, J.yld i H x H1 → (∀ a o, H a = some o → H1 a = some o) ∧ Ow K O1 H1 t 0 x NoA) ∧ (ts.length = i → J.stop i H)
def tFI (K : PySem.W.Frag) (p : Bool) (ds ds' : List Nat) (f : MI) : TI := fun σ H RJ =>
  ∃ Ox en R ts en', EnvOk K ds Ox H σ en R ∧ f en = some (ts, en') ∧ ∀ J H' R', Post K p ds' Ox σ H en R en' H' R' NoA → Walk K (Own R' Ox) H' J ts → RJ J H'
def forF (g : MG) (b : MS) : List PyData → En → Option Fl
  | [], en => some (.nx en)
  | t :: ts, en => (g t en).bind fun en1 => (b en1).bind fun fl => match fl with
    | .nx en2 => forF g b ts en2
    | .ct en2 => forF g b ts en2
    | .rt r en2 => some (.rt r en2)
def sFor (fi : MI) (g : MG) (b : MS) : MS := fun en => (fi en).bind fun r => forF g b r.1 r.2
theorem fs_for {fi : MI} (h : tFS K J ds ds1 (sFor fi g m) D σ H) : tFor (tFI K p ds ds1 fi) (tFG K J.lk ds1 ds2 g) (tFS K { J with dsl := ds1 } ds2 ds1 m) D σ H := by
  obtain ⟨Ox, en, R, fl, e, hf, k⟩ := h
  unfold sFor at hf
  obtain ⟨⟨ts, en1⟩, h1, hf⟩ := Option.bind_eq_some_iff.mp hf
  refine ⟨Ox, en, R, ts, en1, e, h1, fun Jt H1 R1 P1 wk => ?_⟩
  refine ⟨fun i n σ' H' => ∃ en' R', n = ts.length - i ∧ i ≤ ts.length ∧ PostS K J.lk ds1 Ox σ H1 R1 σ' en' H' R' NoA ∧ forF g m (ts.drop i) en' = some fl, ⟨_, en1, R1, rfl, Nat.zero_le _, PostS.refl P1.env0, hf⟩, ?_⟩
  rintro i n σ2 H2 ⟨en2, R2, rfl, hi, P2, hr⟩
  obtain ⟨w1, w2⟩ := wk i H2 (Own R2 Ox) (fun a o q z => P2.keep a o q fun j zj => z (.inl ⟨j, zj⟩)) (fun a z => by
    rcases z with z | z
    · exact (P2.own a (.inr z)).imp .inl id
    · exact .inl (.inr z)) fun a z => P2.env0.dom a z
  by_cases hlt : i < ts.length
  · obtain ⟨go, yl⟩ := w1 ts[i] (List.getElem?_eq_getElem hlt)
    have hd : ts.drop i = ts[i] :: ts.drop (i + 1) := List.drop_eq_getElem_cons hlt
    rw [hd] at hr
    obtain ⟨en3, h3, hr⟩ := Option.bind_eq_some_iff.mp hr
    obtain ⟨fl2, h4, hr⟩ := Option.bind_eq_some_iff.mp hr
    refine .inr ⟨go, fun σ' H' => ∃ en' R', PostS K J.lk ds1 Ox σ H1 R1 σ' en' H' R' NoA ∧ forF g m (ts.drop (i + 1)) en' = some fl, fun σ' H' ⟨en', R', P', h'⟩ => ⟨ts.length - (i + 1), by omega, en', R', rfl, hlt, P', h'⟩, fun x H3 y => ?_⟩
    obtain ⟨gr, ox⟩ := yl x H3 y
    have P3 : Post K true ds1 Ox σ2 H2 en2 R2 en2 H3 R2 NoA := Post.new P2.env0 gr fun _ z => z.elim
    refine ⟨Ox, en2, R2, ts[i], en3, P3.env0, ox, h3, fun σ4 R4 P4 _ => ?_⟩
    have P4' := (P2.after P3.s).after P4
    refine ⟨Ox, en3, R4, fl2, P4.env0, h4, ?_⟩
    cases fl2 with
    | nx en5 => exact fun σ5 H5 R5 P5 => ⟨en5, R5, P4'.after P5, hr⟩
    | ct en5 => exact fun σ5 H5 R5 P5 => ⟨en5, R5, P4'.after P5, hr⟩
    | rt t en5 =>
      cases hr
      exact fun v σ5 H5 R5 F P5 o => k v σ5 H5 R5 F (P1.s.after (P4'.after P5)) o
  · have e2 : i = ts.length := by omega
    subst e2
    rw [List.drop_length] at hr
    cases hr
    exact .inl ⟨w2 rfl, k σ2 H2 R2 (P1.s.after P2)⟩
end
end L2
set_option Elab.async false
set_option linter.all false
set_option maxRecDepth 100000
set_option maxHeartbeats 4000000
namespace L2
open PySem PySem.Spec PyProof.Rows
def lcF (g : MG) (c : MT) (f : ME) : List D → List D → En → Option (List D × En)
  | [], acc, en => some (acc, en)
  | t :: ts, acc, en => (g t en).bind fun en1 => (c en1).bind fun r => if r.1 then (f r.2).bind fun q => if acc.length < sizeLine then lcF g c f ts (acc ++ [q.1]) q.2 else none else lcF g c f ts acc r.2
def blkEn (js : List (Option Nat)) (en : En) : En := js.map fun j => match j with
  | some j => (en[j]?).join
  | none => none
def wbB : List (Option Nat) → En → En → En
  | some j :: js, o :: r, en => wbB js r (en.set j o)
  | none :: js, _ :: r, en => wbB js r en
  | _, _, en => en
def eLC (q : Bool) (fi : MI) (g : MG) (c : MT) (f : ME) (js : List (Option Nat)) : ME := fun en => (fi en).bind fun r => (lcF g c f r.1 [] (blkEn js r.2)).map fun z => (.list z.1, if q then r.2 else wbB js z.2 r.2)
def capD (ds : List Nat) : List (Option Nat) → List Nat → Bool
  | [], [] => true
  | some j :: js, d :: r => decide (ds[j]? = some d) && (decide (some j ∉ js) && capD ds js r)
  | none :: js, _ :: r => capD ds js r
  | _, _ => false
section
variable {K : PySem.W.Frag} {p p1 p2 q : Bool} {lk : List Nat} {ds ds0 ds1 ds2 ds' dsi : List Nat} {Ox Ox' O O' : AS} {H H' : Hp} {σ σ' : St} {en en' en1 en2 : En} {R R' : Nat → AS} {d d' d1 d2 dr : Nat} {t t1 t2 : D} {Q : VK} {f f1 f2 : ME} {c : MT} {g : MG} {fi : MI} {i : Nat} {js : List (Option Nat)}
theorem capD_get : ∀ {js : List (Option Nat)} {dsi : List Nat}, capD ds js dsi = true → dsi.length = js.length ∧ (∀ (k j : Nat), js[k]? = some (some j) → ∃ d, dsi[k]? = some d ∧ ds[j]? = some d) ∧ (∀ (k k' j : Nat), js[k]? = some (some j) → js[k']? = some (some j) → k = k')
  | [], [], _ => ⟨rfl, fun k j z => by simp at z, fun k k' j z => by simp at z⟩
  | some j0 :: js, d :: r, h => by
    unfold capD at h
    rw [Bool.and_eq_true, Bool.and_eq_true] at h
    obtain ⟨h1, h2, h3⟩ := h
    obtain ⟨a, b, c⟩ := capD_get h3
    have n := of_decide_eq_true h2
    refine ⟨by rw [List.length_cons, List.length_cons, a], fun k j z => ?_, fun k k' j z z' => ?_⟩
    · cases k with
      | zero => simp at z; subst z; exact ⟨d, rfl, of_decide_eq_true h1⟩
      | succ k => exact b k j (by simpa using z)
    · cases k with
      | zero =>
        simp at z
        subst z
        cases k' with
        | zero => rfl
        | succ k' => exact absurd (List.mem_of_getElem? (by simpa using z' : js[k']? = some (some j0))) n
      | succ k =>
        cases k' with
        | zero =>
          simp at z'
          subst z'
          exact absurd (List.mem_of_getElem? (by simpa using z : js[k]? = some (some j0))) n
        | succ k' => rw [c k k' j (by simpa using z) (by simpa using z')]
  | none :: js, d :: r, h => by
    unfold capD at h
    obtain ⟨a, b, c⟩ := capD_get h
    refine ⟨by rw [List.length_cons, List.length_cons, a], fun k j z => ?_, fun k k' j z z' => ?_⟩
    · cases k with
      | zero => simp at z
      | succ k => exact b k j (by simpa using z)
    · cases k with
      | zero => simp at z
      | succ k =>
        cases k' with
        | zero => simp at z'
        | succ k' => rw [c k k' j (by simpa using z) (by simpa using z')]
  | [], _ :: _, h => nomatch h
  | some _ :: _, [], h => nomatch h
  | none :: _, [], h => nomatch h
theorem wbB_len : ∀ (js : List (Option Nat)) (r en : En), (wbB js r en).length = en.length
  | [], _, _ => by unfold wbB; rfl
  | some _ :: _, [], _ => by unfold wbB; rfl
  | none :: _, [], _ => by unfold wbB; rfl
  | some j :: js, o :: r, en => by unfold wbB; rw [wbB_len js r _, List.length_set]
  | none :: js, o :: r, en => by unfold wbB; exact wbB_len js r _
theorem wbB_out : ∀ (js : List (Option Nat)) (r en : En) (i : Nat), (∀ k : Nat, js[k]? ≠ some (some i)) → (wbB js r en)[i]? = en[i]?
  | [], _, _, _, _ => by unfold wbB; rfl
  | some _ :: _, [], _, _, _ => by unfold wbB; rfl
  | none :: _, [], _, _, _ => by unfold wbB; rfl
  | none :: js, o :: r, en, i, h => by unfold wbB; exact wbB_out js r en i fun j => h (j + 1)
  | some k :: js, o :: r, en, i, h => by
    unfold wbB
    rw [wbB_out js r _ i fun j => h (j + 1), List.getElem?_set_ne]
    intro e
    subst e
    exact h 0 rfl
theorem wbB_in : ∀ (js : List (Option Nat)) (r en : En) (i k : Nat), js[k]? = some (some i) → (∀ k' : Nat, js[k']? = some (some i) → k' = k) → r.length = js.length → i < en.length → (wbB js r en)[i]? = r[k]?
  | [], _, _, _, _, h, _, _, _ => by simp at h
  | some _ :: js, [], _, _, _, _, _, h, _ => by simp at h
  | none :: js, [], _, _, _, _, _, h, _ => by simp at h
  | none :: js, o :: r, en, i, k, h, u, l, b => by
    unfold wbB
    cases k with
    | zero => simp at h
    | succ k => exact wbB_in js r en i k (by simpa using h) (fun j' z => by have := u (j' + 1) (by simpa using z); omega) (by simpa using l) b
  | some j :: js, o :: r, en, i, k, h, u, l, b => by
    unfold wbB
    cases k with
    | zero =>
      have e : j = i := by simpa using h
      subst e
      rw [wbB_out js r _ j fun j' z => by have := u (j' + 1) (by simpa using z); omega]
      rw [List.getElem?_set_self b]
      rfl
    | succ k => exact wbB_in js r _ i k (by simpa using h) (fun j' z => by have := u (j' + 1) (by simpa using z); omega) (by simpa using l) (by rw [List.length_set]; exact b)
theorem Ows.snoc : ∀ {ts : List D} {vs : List V} {F1 F2 : AS} {v : V}, Ows K O H ts d vs F1 → Ow K O H t d v F2 → (∀ b, F1 b → ¬ F2 b) → Ows K O H (ts ++ [t]) d (vs ++ [v]) (U F1 F2)
  | [], vs, F1, F2, v, h, h2, _ => by
    have e : vs = [] := h
    subst e
    exact ⟨v, [], F2, NoA, rfl, fun _ z => .inr z, fun _ z => z.elim, fun _ _ z => z.elim, h2, rfl⟩
  | u :: ts, vs, F1, F2, v, h, h2, hd => by
    obtain ⟨w, r, G1, G2, e, s1, s2, s3, h4, h5⟩ := h
    subst e
    refine ⟨w, r ++ [v], G1, U G2 F2, rfl, fun b z => .inl (s1 b z), fun b z => z.imp (s2 b) id, fun b z z2 => ?_, h4, Ows.snoc h5 h2 fun b z => hd b (s2 b z)⟩
    rcases z2 with z2 | z2
    · exact s3 b z z2
    · exact hd b (s1 b z) z2
theorem Ows.len : ∀ {ts : List D} {vs : List V} {F : AS}, Ows K O H ts d vs F → vs.length = ts.length
  | [], _, _, h => by rw [show _ = [] from h]; rfl
  | t :: ts, _, _, h => by
    obtain ⟨v, r, F1, F2, e, h1, h2, h3, h4, h5⟩ := h
    rw [e, List.length_cons, List.length_cons, h5.len]
def caps : List (Option Nat) → Nat → List Nat
  | [], _ => []
  | some _ :: r, n => n :: caps r (n + 1)
  | none :: r, n => caps r (n + 1)
theorem mem_caps : ∀ {js : List (Option Nat)} {n k j : Nat}, js[k]? = some (some j) → n + k ∈ caps js n
  | [], n, k, j, h => by simp at h
  | some x :: r, n, k, j, h => by
    unfold caps
    cases k with
    | zero => exact List.mem_cons_self
    | succ k =>
      refine List.mem_cons_of_mem _ ?_
      have := mem_caps (n := n + 1) (k := k) (j := j) (by simpa using h)
      rw [show n + (k + 1) = n + 1 + k by omega]
      exact this
  | none :: r, n, k, j, h => by
    unfold caps
    cases k with
    | zero => simp at h
    | succ k =>
      have := mem_caps (n := n + 1) (k := k) (j := j) (by simpa using h)
      rw [show n + (k + 1) = n + 1 + k by omega]
      exact this
def capR (js : List (Option Nat)) (R1 : Nat → AS) : Nat → AS := fun k => match js[k]? with
  | some (some j) => R1 j
  | _ => NoA
theorem capR_at {R1 : Nat → AS} {k j : Nat} (h : js[k]? = some (some j)) : capR js R1 k = R1 j := by unfold capR; rw [h]
theorem capR_of {R1 : Nat → AS} {k : Nat} {a : Addr} (h : capR js R1 k a) : ∃ j, js[k]? = some (some j) ∧ R1 j a := by
  unfold capR at h
  cases q : js[k]? with
  | none => rw [q] at h; exact h.elim
  | some o =>
    rw [q] at h
    cases o with
    | none => exact h.elim
    | some j => exact ⟨j, rfl, h⟩
theorem f_lc {cd : Nat} (hc : capD ds1 js dsi = true) (hd : dn d = cd) (hz : d ≠ 0) (hl : lk = caps js 0) (h : tF K (p && q) ds ds1 d (eLC q fi g c f js) σ H Q) :
    tLC (tFI K p ds ds1 fi) (tFG K lk dsi dsi g) (tFT K q dsi dsi c) (tF K q dsi dsi cd f) js σ H Q := by
  obtain ⟨Ox, en, R, t, en', e, hf, k⟩ := h
  unfold eLC at hf
  obtain ⟨⟨ts, en1⟩, h1, hf⟩ := Option.bind_eq_some_iff.mp hf
  obtain ⟨⟨fin, enf⟩, h2, hf⟩ := Option.map_eq_some_iff.mp hf
  cases hf
  obtain ⟨cl, c1, c2⟩ := capD_get hc
  refine ⟨Ox, en, R, ts, en1, e, h1, fun J H1 R1 P1 wk D hD => ?_⟩
  have E1 := P1.env0
  -- the block's start
  generalize hRI : capR js R1 = RI
  have ri1 : ∀ k j : Nat, js[k]? = some (some j) → RI k = R1 j := fun k j z => by rw [← hRI]; exact capR_at z
  have ric : ∀ (k : Nat) a, RI k a → ∃ j, js[k]? = some (some j) ∧ R1 j a := fun k a z => by rw [← hRI] at z; exact capR_of z
  let OxI : AS := fun a => Ox a ∨ a = D ∨ ∃ i, R1 i a ∧ ∀ k : Nat, js[k]? ≠ some (some i)
  have nD : ∀ a, Own R1 Ox a → a ≠ D := fun a z z2 => by
    subst z2
    obtain ⟨o, q⟩ := E1.dom a z
    rw [hD] at q
    cases q
  have lI : (blkEn js en1).length = js.length := by unfold blkEn; rw [List.length_map]
  have lS : (blkSt js σ).length = js.length := by unfold blkSt; rw [List.length_map]
  have getE : ∀ (k : Nat) t, (blkEn js en1)[k]? = some (some t) → ∃ j, js[k]? = some (some j) ∧ en1[j]? = some (some t) := fun k t z => by
    unfold blkEn at z
    rw [List.getElem?_map] at z
    obtain ⟨oj, h1, h2⟩ := Option.map_eq_some_iff.mp z
    cases oj with
    | none => cases h2
    | some j =>
      refine ⟨j, h1, ?_⟩
      have h2' : (en1[j]?).join = some t := h2
      cases q : en1[j]? with
      | none => rw [q] at h2'; cases h2'
      | some o => rw [q] at h2'; exact congrArg some h2'
  have getS : ∀ (k j : Nat) v, js[k]? = some (some j) → σ[j]? = some (some v) → (blkSt js σ)[k]? = some (some v) := fun k j v z1 z2 => by
    unfold blkSt
    rw [List.getElem?_map, z1]
    show some ((σ[j]?).join) = _
    rw [z2]
    rfl
  have u2 : ∀ a o, H1 a = some o → upd H1 D (.lst []) a = some o := fun a o q => (new_upd (o := .lst []) hD).1 a o q
  have EI : EnvOk K dsi OxI (upd H1 D (.lst [])) (blkSt js σ) (blkEn js en1) RI := by
    refine ⟨fun k t hk => ?_, fun k k' a z z' => ?_, fun k a z z2 => ?_, fun a z => ?_, by rw [lI, lS], by rw [cl, lS]⟩
    · obtain ⟨j, hj, ht⟩ := getE k t hk
      obtain ⟨v, d, g1, g2, g3⟩ := E1.at_ j t ht
      obtain ⟨d', q1, q2⟩ := c1 k j hj
      rw [g2] at q2
      cases q2
      refine ⟨v, d, getS k j v hj g1, q1, ?_⟩
      rw [ri1 k j hj]
      refine Ow.mv (G := R1 j) ⟨fun a o q _ => u2 a o q, fun a z => ?_⟩ t (fun _ z => z) g3
      rcases z with ⟨k', z⟩ | z | z | ⟨i, z, _⟩
      · obtain ⟨j', _, z⟩ := ric k' a z
        exact .inl (.inl ⟨j', z⟩)
      · exact .inl (.inr z)
      · exact .inr (z ▸ hD)
      · exact .inl (.inl ⟨i, z⟩)
    · obtain ⟨j, hj, z⟩ := ric k a z
      obtain ⟨j', hj', z'⟩ := ric k' a z'
      have := E1.dj j j' a z z'
      subst this
      exact c2 k k' j hj hj'
    · obtain ⟨j, hj, z⟩ := ric k a z
      rcases z2 with z2 | z2 | ⟨i, z2, n⟩
      · exact E1.dx j a z z2
      · exact nD a (.inl ⟨j, z⟩) z2
      · have := E1.dj j i a z z2
        subst this
        exact n k hj
    · rcases z with ⟨k, z⟩ | z | z | ⟨i, z, _⟩
      · obtain ⟨j, hj, z⟩ := ric k a z
        obtain ⟨o, q⟩ := E1.dom a (.inl ⟨j, z⟩)
        exact ⟨o, u2 a o q⟩
      · obtain ⟨o, q⟩ := E1.dom a (.inr z)
        exact ⟨o, u2 a o q⟩
      · subst z
        exact ⟨_, upd_same⟩
      · obtain ⟨o, q⟩ := E1.dom a (.inl ⟨i, z⟩)
        exact ⟨o, u2 a o q⟩
  -- the turns
  refine ⟨fun i n τ H' => ∃ eni RI' acc vs Fa, n = ts.length - i ∧ i ≤ ts.length ∧ PostS K lk dsi OxI (blkSt js σ) H1 RI τ eni H' RI' Fa ∧ H' D = some (.lst vs) ∧ Ows K (Own RI' (U Fa OxI)) H' acc cd vs Fa ∧ lcF g c f (ts.drop i) acc eni = some (fin, enf) ∧
      (q = true → (∀ k j : Nat, js[k]? = some (some j) → RI' k = RI k) ∧ (∀ a o, H1 a = some o → H' a = some o)),
    ⟨_, blkEn js en1, RI, [], [], NoA, rfl, Nat.zero_le _, ⟨by rw [U_no]; exact EI, fun _ z => z.elim, fun a o q _ => u2 a o q, fun a z => z.elim (fun z => z.elim) .inl, fun a o q => ⟨o, u2 a o q⟩, fun _ _ => rfl⟩, upd_same, rfl, h2, fun _ => ⟨fun _ _ _ => rfl, u2⟩⟩, ?_⟩
  rintro i n τ H2 ⟨eni, RI2, acc, vs, Fa, rfl, hi, P2, hDl, oacc, hr, pu⟩
  have subI : ∀ a, Own RI2 (U Fa OxI) a → Own R1 Ox a ∨ H1 a = none := fun a z => by
    rcases z with z | z | z | z | ⟨i, z, _⟩
    · rcases P2.own a (.inr z) with ⟨k, z⟩ | z
      · obtain ⟨j, _, z⟩ := ric k a z
        exact .inl (.inl ⟨j, z⟩)
      · exact .inr z
    · rcases P2.own a (.inl z) with ⟨k, z⟩ | z
      · obtain ⟨j, _, z⟩ := ric k a z
        exact .inl (.inl ⟨j, z⟩)
      · exact .inr z
    · exact .inl (.inr z)
    · exact .inr (z ▸ hD)
    · exact .inl (.inl ⟨i, z⟩)
  obtain ⟨w1, w2⟩ := wk i H2 (Own RI2 (U Fa OxI)) (fun a o q z => P2.keep a o q fun k zk => by
    obtain ⟨j, _, zj⟩ := ric k a zk
    exact z (.inl ⟨j, zj⟩)) subI fun a z => P2.env.dom a z
  have DO : OxI D := .inr (.inl rfl)
  by_cases hlt : i < ts.length
  · obtain ⟨go, yl⟩ := w1 ts[i] (List.getElem?_eq_getElem hlt)
    rw [List.drop_eq_getElem_cons hlt] at hr
    obtain ⟨en3, h3, hr⟩ := Option.bind_eq_some_iff.mp hr
    obtain ⟨⟨b, en4⟩, h4, hr⟩ := Option.bind_eq_some_iff.mp hr
    refine .inr ⟨go, fun τ' H' => ∃ eni RI' acc vs Fa, PostS K lk dsi OxI (blkSt js σ) H1 RI τ' eni H' RI' Fa ∧ H' D = some (.lst vs) ∧ Ows K (Own RI' (U Fa OxI)) H' acc cd vs Fa ∧ lcF g c f (ts.drop (i + 1)) acc eni = some (fin, enf) ∧ (q = true → (∀ k j : Nat, js[k]? = some (some j) → RI' k = RI k) ∧ (∀ a o, H1 a = some o → H' a = some o)),
      fun τ' H' ⟨eni, RI', acc, vs, Fa, P', x1, x2, x3, x4⟩ => ⟨_, by omega, eni, RI', acc, vs, Fa, rfl, hlt, P', x1, x2, x3, x4⟩, fun x H3 y => ?_⟩
    obtain ⟨gr, ox⟩ := yl x H3 y
    have P3 : Post K true dsi (U Fa OxI) τ H2 eni RI2 eni H3 RI2 NoA := Post.new P2.env gr fun _ z => z.elim
    -- steps of the block as steps from the start
    have chain : ∀ {τ5 en5 H5 RI5 F5}, PostS K lk dsi (U Fa OxI) τ H2 RI2 τ5 en5 H5 RI5 F5 → PostS K lk dsi OxI (blkSt js σ) H1 RI τ5 en5 H5 RI5 (U Fa F5) := fun {τ5 en5 H5 RI5 F5} P5 => by
      have n1 : ∀ a, H2 a = none → H1 a = none := fun a z => by
        cases q : H1 a with
        | none => rfl
        | some o =>
          obtain ⟨o', q'⟩ := P2.dom a o q
          rw [z] at q'
          cases q'
      refine ⟨U_swap ▸ P5.env, fun a z z2 => ?_, fun a o q n => ?_, fun a z => ?_, fun a o q => ?_, fun j hj => (P5.lk j hj).trans (P2.lk j hj)⟩
      · rcases z with z | z
        · exact P2.fx a z z2
        · exact P5.fx a z (.inr z2)
      · refine P5.keep a o (P2.keep a o q n) fun i z => ?_
        rcases P2.own a (.inr ⟨i, z⟩) with ⟨j, z⟩ | z
        · exact n j z
        · rw [q] at z; cases z
      · rcases z with (z | z) | z
        · exact P2.own a (.inl z)
        · rcases P5.own a (.inl z) with z | z
          · exact P2.own a (.inr z)
          · exact .inr (n1 a z)
        · rcases P5.own a (.inr z) with z | z
          · exact P2.own a (.inr z)
          · exact .inr (n1 a z)
      · obtain ⟨o', q'⟩ := P2.dom a o q
        exact P5.dom a o' q'
    have carry : ∀ {τ5 en5 H5 RI5 F5}, PostS K lk dsi (U Fa OxI) τ H2 RI2 τ5 en5 H5 RI5 F5 → Ows K (Own RI5 (U (U Fa F5) OxI)) H5 acc cd vs Fa := fun {τ5 en5 H5 RI5 F5} P5 => by
      refine Ows.mv (G := Fa) ⟨fun a o q z => P5.keep a o q fun i zi => ?_, fun a z => ?_⟩ acc (fun _ z => z) oacc
      · rcases z with z | z
        · exact z (.inl ⟨i, zi⟩)
        · exact P2.env.dx i a zi (.inl z)
      · rcases z with z | (z | z) | z
        · exact (P5.own a (.inr z)).imp .inl id
        · exact .inl (.inr (.inl z))
        · exact (P5.own a (.inl z)).imp .inl id
        · exact .inl (.inr (.inr z))
    have UFN : U Fa NoA = Fa := as_eq fun a => ⟨fun z => z.elim id fun z => z.elim, .inl⟩
    refine ⟨U Fa OxI, eni, RI2, ts[i], en3, P3.env0, ox, h3, fun τ4 R4 P4 r4 => ?_⟩
    have P4' := (P3.s (lk := lk)).after P4
    refine ⟨U Fa OxI, en3, R4, b, en4, P4.env0, h4, fun H5 R5 P5 => ?_⟩
    have P5' := P4'.after (P5.s (lk := lk))
    have pu5 : q = true → (∀ k j : Nat, js[k]? = some (some j) → R5 k = RI k) ∧ (∀ a o, H1 a = some o → H5 a = some o) := fun hq => by
      obtain ⟨_, b2, b3⟩ := P5.pure hq
      obtain ⟨e1, e2⟩ := pu hq
      refine ⟨fun k j z => ?_, fun a o qq => b3 a o (gr a o (e2 a o qq))⟩
      rw [b2, r4 k (by rw [hl]; have := mem_caps (n := 0) z; rw [Nat.zero_add] at this; exact this)]
      exact e1 k j z
    cases b with
    | false =>
      dsimp only
      rw [if_neg Bool.false_ne_true]
      have c5 := chain P5'
      have o5 := carry P5'
      rw [UFN] at c5 o5
      exact ⟨en4, R5, acc, vs, Fa, c5, P5'.keep D _ hDl fun k z => P2.env.dx k D z (.inr DO), o5, hr, pu5⟩
    | true =>
      dsimp only
      rw [if_pos rfl]
      obtain ⟨⟨t6, en6⟩, h6, hr⟩ := Option.bind_eq_some_iff.mp (show ((f en4).bind fun q => if acc.length < sizeLine then lcF g c f (ts.drop (i + 1)) (acc ++ [q.1]) q.2 else none) = some (fin, enf) from hr)
      refine ⟨U Fa OxI, en4, R5, t6, en6, P5.env0, h6, fun v H6 R6 F6 P6 o6 => ?_⟩
      have P6' := P5'.after (P6.s (lk := lk))
      by_cases hlen : acc.length < sizeLine
      case neg => rw [if_neg hlen] at hr; cases hr
      rw [if_pos hlen] at hr
      have hD6 := P6'.keep D _ hDl fun k z => P2.env.dx k D z (.inr DO)
      refine ⟨vs, hD6, by rw [oacc.len]; exact hlen, en6, R6, acc ++ [t6], vs ++ [v], U Fa F6, ?_, upd_same, ?_, hr, ?_⟩
      · have c6 := chain P6'
        have keepD : ∀ a o, H6 a = some o → a ≠ D → upd H6 D (.lst (vs ++ [v])) a = some o := fun a o q n => by rw [upd_ne n]; exact q
        refine ⟨⟨fun k t hk => ?_, c6.env.dj, c6.env.dx, fun a z => ?_, c6.env.l1, c6.env.l2⟩, c6.fx, fun a o q n => ?_, c6.own, fun a o q => ?_, c6.lk⟩
        · obtain ⟨v', d', g1, g2, g3⟩ := c6.env.at_ k t hk
          refine ⟨v', d', g1, g2, Ow.mv (G := R6 k) ⟨fun a o q z => keepD a o q fun zD => ?_, fun a z => .inl z⟩ t (fun _ z => z) g3⟩
          subst zD
          rcases z with z | z
          · exact z (.inr (.inr DO))
          · exact c6.env.dx k a z (.inr DO)
        · by_cases ha : a = D
          · subst ha; exact ⟨_, upd_same⟩
          · obtain ⟨o, q⟩ := c6.env.dom a z
            exact ⟨o, keepD a o q ha⟩
        · refine keepD a o (c6.keep a o q n) fun zD => ?_
          subst zD
          rw [hD] at q
          cases q
        · obtain ⟨o', q'⟩ := c6.dom a o q
          by_cases ha : a = D
          · subst ha; exact ⟨_, upd_same⟩
          · exact ⟨o', keepD a o' q' ha⟩
      · have o1 := carry P6'
        have o2 : Ow K (Own R6 (U (U Fa F6) OxI)) H6 t6 cd v F6 := U_swap ▸ o6
        have := Ows.snoc o1 o2 fun b z1 z2 => P6.fx b z2 (.inl z1)
        refine Ows.mv (G := U Fa F6) ⟨fun a o q z => ?_, fun a z => .inl z⟩ _ (fun _ z => z) this
        rw [upd_ne]
        · exact q
        · intro zD
          subst zD
          rcases z with z | z | z
          · exact z (.inr (.inr DO))
          · exact P2.fx a z DO
          · exact P6.fx a z (.inr DO)
      · intro hq
        obtain ⟨_, b2, b3⟩ := P6.pure hq
        obtain ⟨e1, e2⟩ := pu5 hq
        refine ⟨fun k j z => by rw [b2]; exact e1 k j z, fun a o qq => ?_⟩
        rw [upd_ne]
        · exact b3 a o (e2 a o qq)
        · intro zD
          subst zD
          rw [hD] at qq
          cases qq
  · have e2 : i = ts.length := by omega
    subst e2
    rw [List.drop_length] at hr
    obtain ⟨e3, e4⟩ : acc = fin ∧ eni = enf := by cases hr; exact ⟨rfl, rfl⟩
    subst e3 e4
    refine .inl ⟨w2 rfl, ?_⟩
    have fD : ∀ a, Fa a → a ≠ D := fun a z z2 => by
      subst z2
      exact P2.fx a z DO
    cases hq : q with
    | true =>
      obtain ⟨e1, e2⟩ := pu hq
      subst hq
      have fn : ∀ a, Fa a → H1 a = none := fun a z => by
        rcases P2.own a (.inl z) with ⟨k, z2⟩ | z2
        · obtain ⟨j, hj, z3⟩ := ric k a z2
          rw [← e1 k j hj] at z2
          exact absurd (.inl z) (P2.env.dx k a z2)
        · exact z2
      have nt : NewTo H1 H2 (fun a => a = D ∨ Fa a) := ⟨e2, fun a z => by
        rcases z with z | z
        · subst z
          exact ⟨hD, _, hDl⟩
        · exact ⟨fn a z, P2.env.dom a (.inr (.inl z))⟩⟩
      have PF := P1.fin nt
      rw [Bool.and_true] at k
      refine k (.ref D) H2 R1 _ PF ⟨D, vs, rfl, .inr ⟨hz, hDl, .inl rfl, Fa, fun b z => ⟨.inr z, fD b z⟩, ?_⟩⟩
      rw [hd]
      refine Ows.grow (fun a z => ?_) _ (fun _ z => z) oacc
      rcases z with ⟨i, z⟩ | (z | z) | z
      · by_cases hc2 : ∃ kk : Nat, js[kk]? = some (some i)
        · obtain ⟨kk, hk⟩ := hc2
          refine .inl ⟨kk, ?_⟩
          rw [e1 kk i hk, ri1 kk i hk]
          exact z
        · exact .inr (.inr (.inr (.inr ⟨i, z, fun kk hk => hc2 ⟨kk, hk⟩⟩)))
      · exact .inr (.inr (z ▸ DO))
      · exact .inr (.inl z)
      · exact .inr (.inr (.inl z))
    | false =>
      subst hq
      rw [Bool.and_false] at k
      classical
      let R3 : Nat → AS := fun i => if hh : ∃ kk : Nat, js[kk]? = some (some i) then RI2 hh.choose else R1 i
      have r31 : ∀ (i kk : Nat), js[kk]? = some (some i) → R3 i = RI2 kk := fun i kk z => by
        have hh : ∃ kk : Nat, js[kk]? = some (some i) := ⟨kk, z⟩
        have : hh.choose = kk := c2 _ _ i hh.choose_spec z
        show (if hh : ∃ kk : Nat, js[kk]? = some (some i) then RI2 hh.choose else R1 i) = RI2 kk
        rw [dif_pos hh, this]
      have r32 : ∀ i : Nat, (∀ kk : Nat, js[kk]? ≠ some (some i)) → R3 i = R1 i := fun i z => by
        show (if hh : ∃ kk : Nat, js[kk]? = some (some i) then RI2 hh.choose else R1 i) = R1 i
        rw [dif_neg fun ⟨j, q⟩ => z j q]
      have r3c : ∀ (i : Nat) a, R3 i a → (∃ kk : Nat, js[kk]? = some (some i) ∧ RI2 kk a) ∨ ((∀ kk : Nat, js[kk]? ≠ some (some i)) ∧ R1 i a) := fun i a z => by
        by_cases hh : ∃ kk : Nat, js[kk]? = some (some i)
        · obtain ⟨kk, hk⟩ := hh
          rw [r31 i kk hk] at z
          exact .inl ⟨kk, hk, z⟩
        · rw [r32 i fun j z => hh ⟨j, z⟩] at z
          exact .inr ⟨fun j z => hh ⟨j, z⟩, z⟩
      have sub3 : ∀ a, Own R3 (U (fun a => a = D ∨ Fa a) Ox) a → Own RI2 (U Fa OxI) a := fun a z => by
        rcases z with ⟨i, z⟩ | (z | z) | z
        · rcases r3c i a z with ⟨j, _, z⟩ | ⟨n, z⟩
          · exact .inl ⟨j, z⟩
          · exact .inr (.inr (.inr (.inr ⟨i, z, n⟩)))
        · exact .inr (.inr (z ▸ DO))
        · exact .inr (.inl z)
        · exact .inr (.inr (.inl z))
      have el : eni.length = js.length := by rw [P2.env.l1, ← P2.env.l2]; exact cl
      have riO : ∀ (kk : Nat) a, RI kk a → Own R1 Ox a := fun kk a z => by
        obtain ⟨j, _, z⟩ := ric kk a z
        exact .inl ⟨j, z⟩
      have env3 : EnvOk K ds1 (U (fun a => a = D ∨ Fa a) Ox) H2 σ (wbB js eni en1) R3 := by
        refine ⟨fun i u hu => ?_, fun i i' a z z' => ?_, fun i a z z2 => ?_, fun a z => P2.env.dom a (sub3 a z), by rw [wbB_len]; exact E1.l1, E1.l2⟩
        · by_cases hh : ∃ kk : Nat, js[kk]? = some (some i)
          · obtain ⟨kk, hk⟩ := hh
            obtain ⟨dd, q1, q2⟩ := c1 kk i hk
            have hil : i < en1.length := by rw [E1.l1, ← E1.l2]; exact (List.getElem?_eq_some_iff.mp q2).1
            rw [wbB_in js eni en1 i kk hk (fun k' z => c2 k' kk i z hk) el hil] at hu
            obtain ⟨v, d', g1, g2, g3⟩ := P2.env.at_ kk u hu
            rw [q1] at g2
            cases g2
            have hlk := P2.lk kk (by rw [hl]; have := mem_caps (n := 0) hk; rw [Nat.zero_add] at this; exact this)
            rw [hlk] at g1
            refine ⟨v, dd, ?_, q2, ?_⟩
            · unfold blkSt at g1
              rw [List.getElem?_map, hk] at g1
              have g1' : (σ[i]?).join = some v := Option.some.inj g1
              cases q3 : σ[i]? with
              | none => rw [q3] at g1'; cases g1'
              | some o => rw [q3] at g1'; exact congrArg some g1'
            · rw [r31 i kk hk]
              exact Ow.grow sub3 u (fun _ z => z) g3
          · rw [wbB_out js eni en1 i fun j z => hh ⟨j, z⟩] at hu
            have ns : ∀ j : Nat, js[j]? ≠ some (some i) := fun j z => hh ⟨j, z⟩
            obtain ⟨v, d', g1, g2, g3⟩ := E1.at_ i u hu
            refine ⟨v, d', g1, g2, ?_⟩
            rw [r32 i ns]
            refine Ow.mv (G := R1 i) ⟨fun a o q z => P2.keep a o q fun j zj => ?_, fun a z => subI a (sub3 a z)⟩ u (fun _ z => z) g3
            obtain ⟨j', hj', zj⟩ := ric j a zj
            rcases z with z | z
            · exact z (.inl ⟨j', zj⟩)
            · have := E1.dj i j' a z zj
              subst this
              exact ns j hj'
        · rcases r3c i a z with ⟨j, q, z⟩ | ⟨n, z⟩ <;> rcases r3c i' a z' with ⟨j', q', z'⟩ | ⟨n', z'⟩
          · have := P2.env.dj j j' a z z'
            subst this
            rw [q] at q'
            cases q'
            rfl
          · exact absurd (.inr (.inr (.inr ⟨i', z', n'⟩))) (P2.env.dx j a z)
          · exact absurd (.inr (.inr (.inr ⟨i, z, n⟩))) (P2.env.dx j' a z')
          · exact E1.dj i i' a z z'
        · rcases r3c i a z with ⟨j, q, z⟩ | ⟨n, z⟩
          · refine P2.env.dx j a z ?_
            rcases z2 with (z2 | z2) | z2
            · exact .inr (z2 ▸ DO)
            · exact .inl z2
            · exact .inr (.inl z2)
          · rcases z2 with (z2 | z2) | z2
            · exact nD a (.inl ⟨i, z⟩) z2
            · exact P2.fx a z2 (.inr (.inr ⟨i, z, n⟩))
            · exact E1.dx i a z z2
      have n1 : ∀ a, H1 a = none → H a = none := fun a z => by
        cases q : H a with
        | none => rfl
        | some o =>
          obtain ⟨o', q'⟩ := P1.dom a o q
          rw [z] at q'
          cases q'
      refine k (.ref D) H2 R3 (fun a => a = D ∨ Fa a) ⟨env3, fun a z z2 => ?_, fun a o q n => ?_, fun a z => ?_, fun a o q => ?_, fun z => nomatch z⟩ ⟨D, vs, rfl, .inr ⟨hz, hDl, .inl rfl, Fa, fun b z => ⟨.inr z, fD b z⟩, ?_⟩⟩
      · rcases z with z | z
        · exact nD a (.inr z2) z
        · exact P2.fx a z (.inl z2)
      · refine P2.keep a o (P1.keep a o q n) fun kk z => ?_
        obtain ⟨j, _, z⟩ := ric kk a z
        rcases P1.own a (.inr ⟨j, z⟩) with ⟨i', z⟩ | z
        · exact n i' z
        · rw [q] at z; cases z
      · have h3 : (∃ i, R1 i a) ∨ H1 a = none := by
          have h4 : (Fa a ∨ ∃ kk, RI2 kk a) → (∃ i, R1 i a) ∨ H1 a = none := fun z => by
            rcases P2.own a z with ⟨kk, z⟩ | z
            · obtain ⟨j, _, z⟩ := ric kk a z
              exact .inl ⟨j, z⟩
            · exact .inr z
          rcases z with (z | z) | ⟨i, z⟩
          · exact .inr (z ▸ hD)
          · exact h4 (.inl z)
          · rcases r3c i a z with ⟨j, _, z⟩ | ⟨n, z⟩
            · exact h4 (.inr ⟨j, z⟩)
            · exact .inl ⟨i, z⟩
        rcases h3 with h3 | h3
        · exact P1.own a (.inr h3)
        · exact .inr (n1 a h3)
      · obtain ⟨o', q'⟩ := P1.dom a o q
        exact P2.dom a o' q'
      · rw [hd]
        exact Ows.grow sub3 _ (fun _ z => z) oacc
end
end L2
set_option Elab.async false
set_option linter.all false
set_option maxRecDepth 100000
set_option maxHeartbeats 4000000
namespace L2
open PySem PySem.Spec PyProof.Rows
def msk : List Nat → En → En
  | d :: ds, o :: en => (if d = 0 then none else o) :: msk ds en
  | _, _ => []
def fnF (n : Nat) (dps : List Nat) (b : MS) : List PyData → Option (PyData × En) := fun ts => (b (ts.map some ++ List.replicate n none)).bind fun fl => match fl with
  | .rt t en => some (t, msk dps en)
  | .nx en => some (.none, msk dps en)
  | .ct _ => none
def lkOf (dps : List Nat) : List Nat := (List.range dps.length).filter fun j => dps[j]? != some 0
section
variable {K : PySem.W.Frag} {p p1 p2 q : Bool} {J : Jd} {lk : List Nat} {ds ds0 ds1 ds2 ds' dps : List Nat} {Ox Ox' O O' : AS} {H H' H1 : Hp} {σ σ' : St} {en en' en1 en2 : En} {R R' R1 : Nat → AS} {d d' d1 d2 dr : Nat} {t t1 t2 : PyData} {Q : VK} {f f1 f2 : ME} {i : Nat} {v : V} {D : Ends}
theorem msk_get : ∀ {dps : List Nat} {en : En} {j : Nat} {u : PyData}, (msk dps en)[j]? = some (some u) → ∃ d, dps[j]? = some d ∧ d ≠ 0 ∧ en[j]? = some (some u)
  | [], en, j, u, h => by unfold msk at h; simp at h
  | d :: ds, [], j, u, h => by unfold msk at h; simp at h
  | d :: ds, o :: en, j, u, h => by
    unfold msk at h
    cases j with
    | zero =>
      by_cases hd : d = 0
      · simp [hd] at h
      · refine ⟨d, rfl, hd, ?_⟩
        simpa [hd] using h
    | succ j =>
      have := msk_get (dps := ds) (en := en) (j := j) (u := u) (by simpa using h)
      simpa using this
theorem msk_len : ∀ {dps : List Nat} {en : En}, dps.length ≤ en.length → (msk dps en).length = dps.length
  | [], en, _ => by unfold msk; rfl
  | d :: ds, [], h => by simp at h
  | d :: ds, o :: en, h => by
    unfold msk
    rw [List.length_cons, List.length_cons, msk_len (by simpa using h)]
theorem fn_body {N : List Str} {vs : List V} {E : XK} {n : Nat} {b : MS} (hn : N.length - dps.length = n) (h : spF K dps dr (fnF n dps b) vs H Q E) :
    tFS K ⟨lkOf dps, dps ++ List.replicate n 0, dr, []⟩ (dps ++ List.replicate n 0) (dps ++ List.replicate n 0) b { nx := fun _ H' => Q .non H', rt := Q } (start N vs) H := by
  obtain ⟨Ox, ts, R, r, outs, e, hf, k⟩ := h
  have lv : dps.length = vs.length := by have := e.l2; rw [List.length_map] at this; exact this
  have lt : ts.length = vs.length := by have := e.l1; rw [List.length_map, List.length_map] at this; exact this
  have hs : start N vs = vs.map some ++ List.replicate n none := by unfold start; rw [← lv, hn]
  unfold fnF at hf
  obtain ⟨fl, h1, hf⟩ := Option.bind_eq_some_iff.mp hf
  have get0 : ∀ {α : Type} (xs : List α) (i : Nat) (u : α), (xs.map some ++ List.replicate n none)[i]? = some (some u) → (xs.map some)[i]? = some (some u) ∧ i < xs.length := fun xs i u z => by
    by_cases hi : i < xs.length
    · rw [List.getElem?_append_left (by rw [List.length_map]; exact hi)] at z
      exact ⟨z, hi⟩
    · rw [List.getElem?_append_right (by rw [List.length_map]; omega), List.getElem?_replicate] at z
      split at z
      · cases z
      · cases z
  have e0 : EnvOk K (dps ++ List.replicate n 0) Ox H (start N vs) (ts.map some ++ List.replicate n none) R := by
    rw [hs]
    refine ⟨fun i u hu => ?_, e.dj, e.dx, e.dom, by simp [lt], by simp [lv]⟩
    obtain ⟨hu', hi⟩ := get0 ts i u hu
    obtain ⟨v, d, g1, g2, g3⟩ := e.at_ i u hu'
    refine ⟨v, d, ?_, ?_, g3⟩
    · rw [List.getElem?_append_left (by rw [List.length_map]; omega)]; exact g1
    · rw [List.getElem?_append_left (by omega)]; exact g2
  have back : ∀ {σ' en' H' R' F}, PostS K (lkOf dps) (dps ++ List.replicate n 0) Ox (start N vs) H R σ' en' H' R' F → Post K false dps Ox (vs.map some) H (ts.map some) R (msk dps en') H' R' F := fun {σ' en' H' R' F} P => by
    have l1 := P.env.l1
    have l2 := P.env.l2
    rw [List.length_append, List.length_replicate] at l2
    refine ⟨⟨fun j u hu => ?_, P.env.dj, P.env.dx, P.env.dom, by rw [msk_len (by omega), List.length_map]; exact lv, by rw [List.length_map]; exact lv⟩, P.fx, P.keep, P.own, P.dom, fun z => nomatch z⟩
    obtain ⟨d, a1, a2, a3⟩ := msk_get hu
    obtain ⟨v, d', g1, g2, g3⟩ := P.env.at_ j u a3
    have hj : j < dps.length := (List.getElem?_eq_some_iff.mp a1).1
    have hlk : j ∈ lkOf dps := by
      unfold lkOf
      rw [List.mem_filter, List.mem_range]
      refine ⟨hj, ?_⟩
      rw [a1]
      simpa using a2
    rw [P.lk j hlk, hs, List.getElem?_append_left (by rw [List.length_map]; omega)] at g1
    rw [List.getElem?_append_left hj] at g2
    exact ⟨v, d', g1, g2, g3⟩
  refine ⟨Ox, _, R, fl, e0, h1, ?_⟩
  cases fl with
  | nx en2 =>
    cases hf
    exact fun σ2 H2 R2 P2 => k .non H2 R2 NoA (back P2) rfl
  | ct en2 => cases hf
  | rt t en2 =>
    cases hf
    exact fun v σ2 H2 R2 F P2 o => k v H2 R2 F (back P2) o
theorem Post.slot {F G F' : AS} {l : Addr} {o2 : HO} (P : Post K p ds1 Ox σ H en R en1 H1 R1 F) (hl : R1 i l) (hi : i < en1.length) (hv : σ[i]? = some (some v)) (hd : ds1[i]? = some d)
    (hg : ∀ a, G a → R1 i a ∨ F a) (hf : ∀ a, F' a → R1 i a ∨ F a) (hx : ∀ a, G a → ¬ F' a)
    (ho : Ow K (Own (fun j => if j = i then G else R1 j) (U F' Ox)) (upd H1 l o2) t d v G) :
    Post K false ds1 Ox σ H en R (en1.set i (some t)) (upd H1 l o2) (fun j => if j = i then G else R1 j) F' := by
  have rc : ∀ (j : Nat) a, (if j = i then G else R1 j) a → R1 j a ∨ (j = i ∧ F a) := fun j a z => by
    by_cases hj : j = i
    · rw [if_pos hj] at z
      rcases hg a z with z | z
      · exact .inl (hj ▸ z)
      · exact .inr ⟨hj, z⟩
    · rw [if_neg hj] at z; exact .inl z
  have sub : ∀ a, Own (fun j => if j = i then G else R1 j) (U F' Ox) a → Own R1 (U F Ox) a := fun a z => by
    rcases z with ⟨j, z⟩ | z | z
    · rcases rc j a z with z | ⟨_, z⟩
      · exact .inl ⟨j, z⟩
      · exact .inr (.inl z)
    · rcases hf a z with z | z
      · exact .inl ⟨i, z⟩
      · exact .inr (.inl z)
    · exact .inr (.inr z)
  have dom2 : ∀ a o, H1 a = some o → ∃ o', upd H1 l o2 a = some o' := fun a o q => by
    by_cases ha : a = l
    · subst ha; exact ⟨_, upd_same⟩
    · exact ⟨o, by rw [upd_ne ha]; exact q⟩
  have nl : ∀ a o, H1 a = some o → a ≠ l → upd H1 l o2 a = some o := fun a o q n => by rw [upd_ne n]; exact q
  refine ⟨⟨fun j u hu => ?_, fun j j' a z z' => ?_, fun j a z z2 => ?_, fun a z => ?_, by rw [List.length_set]; exact P.env.l1, P.env.l2⟩, fun a z z2 => ?_, fun a o q n => ?_, fun a z => ?_, fun a o q => ?_, fun z => nomatch z⟩
  · by_cases hj : j = i
    · subst hj
      rw [List.getElem?_set_self hi] at hu
      cases hu
      refine ⟨v, d, hv, hd, ?_⟩
      rw [if_pos rfl]
      exact ho
    · rw [List.getElem?_set_ne (Ne.symm hj)] at hu
      obtain ⟨v', d', g1, g2, g3⟩ := P.env.at_ j u hu
      refine ⟨v', d', g1, g2, ?_⟩
      rw [if_neg hj]
      refine Ow.mv (G := R1 j) ⟨fun a o q z => nl a o q fun za => ?_, fun a z => .inl (sub a z)⟩ u (fun _ z => z) g3
      subst za
      rcases z with z | z
      · exact z (.inl ⟨i, hl⟩)
      · exact hj (P.env.dj j i a z hl)
  · have z0 := z
    have z0' := z'
    by_cases hj : j = i <;> by_cases hj' : j' = i
    · rw [hj, hj']
    · rw [if_pos hj] at z0; rw [if_neg hj'] at z0'
      rcases hg a z0 with z1 | z1
      · exact absurd (P.env.dj i j' a z1 z0') (fun e => hj' e.symm)
      · exact absurd (.inl z1) (P.env.dx j' a z0')
    · rw [if_neg hj] at z0; rw [if_pos hj'] at z0'
      rcases hg a z0' with z1 | z1
      · exact absurd (P.env.dj j i a z0 z1) hj
      · exact absurd (.inl z1) (P.env.dx j a z0)
    · rw [if_neg hj] at z0; rw [if_neg hj'] at z0'
      exact P.env.dj j j' a z0 z0'
  · have z0 := z
    by_cases hj : j = i
    · rw [if_pos hj] at z0
      rcases z2 with z2 | z2
      · exact hx a z0 z2
      · rcases hg a z0 with z1 | z1
        · exact P.env.dx i a z1 (.inr z2)
        · exact P.fx a z1 z2
    · rw [if_neg hj] at z0
      rcases z2 with z2 | z2
      · rcases hf a z2 with z1 | z1
        · exact hj (P.env.dj j i a z0 z1)
        · exact P.env.dx j a z0 (.inl z1)
      · exact P.env.dx j a z0 (.inr z2)
  · obtain ⟨o, q⟩ := P.env.dom a (sub a z)
    exact dom2 a o q
  · rcases hf a z with z1 | z1
    · exact P.env.dx i a z1 (.inr z2)
    · exact P.fx a z1 z2
  · refine nl a o (P.keep a o q n) fun za => ?_
    subst za
    rcases P.own a (.inr ⟨i, hl⟩) with ⟨j, z⟩ | z
    · exact n j z
    · rw [q] at z; cases z
  · have : F a ∨ ∃ j, R1 j a := by
      rcases z with z | ⟨j, z⟩
      · rcases hf a z with z | z
        · exact .inr ⟨i, z⟩
        · exact .inl z
      · rcases rc j a z with z | ⟨_, z⟩
        · exact .inr ⟨j, z⟩
        · exact .inl z
    exact P.own a this
  · obtain ⟨o', q'⟩ := P.dom a o q
    exact dom2 a o' q'
theorem Own_if {G F' F : AS} (hg : ∀ a, G a → R1 i a ∨ F a) (hf : ∀ a, F' a → R1 i a ∨ F a) : ∀ a, Own (fun j => if j = i then G else R1 j) (U F' Ox) a → Own R1 (U F Ox) a := fun a z => by
  rcases z with ⟨j, z⟩ | z | z
  · by_cases hj : j = i
    · rw [if_pos hj] at z
      rcases hg a z with z | z
      · exact .inl ⟨i, z⟩
      · exact .inr (.inl z)
    · rw [if_neg hj] at z; exact .inl ⟨j, z⟩
  · rcases hf a z with z | z
    · exact .inl ⟨i, z⟩
    · exact .inr (.inl z)
  · exact .inr (.inr z)
theorem get_join {α : Type} {en : List (Option α)} {i : Nat} {t : α} (h : (en[i]?).join = some t) : en[i]? = some (some t) := by
  cases q : en[i]? with
  | none => rw [q] at h; cases h
  | some o => rw [q] at h; exact congrArg some h
theorem Ow.sqL {ts : List PyData} {F : AS} (h : Ow K O H (.list ts) d v F) : ∃ a vs, v = .ref a ∧ SqL K H a vs := by
  obtain ⟨a, vs, e, ⟨_, h1, _⟩ | ⟨_, h1, _⟩⟩ := h
  · exact ⟨a, vs, e, h1.sq⟩
  · exact ⟨a, vs, e, SqL.of h1⟩
theorem Ow.ownL {ts : List PyData} {F : AS} (hd : d ≠ 0) (h : Ow K O H (.list ts) d v F) : ∃ a vs, v = .ref a ∧ H a = some (.lst vs) ∧ F a ∧ ∃ F' : AS, (∀ b, F' b → F b ∧ b ≠ a) ∧ Ows K O H ts (dn d) vs F' := by
  obtain ⟨a, vs, e, ⟨h0, _⟩ | ⟨_, h1, h2, h3⟩⟩ := h
  · exact absurd h0 hd
  · exact ⟨a, vs, e, h1, h2, h3⟩
theorem Ows.past {ts : List PyData} {vs : List V} {F : AS} {l : Addr} {o : HO} (ho : ∀ a, O' a → O a) (hl : O l) (hf : ∀ b, F b → b ≠ l) (h : Ows K O H ts d vs F) : Ows K O' (upd H l o) ts d vs F :=
  Ows.mv (G := F) ⟨fun a u q z => by
    rw [upd_ne]
    · exact q
    · intro za
      subst za
      rcases z with z | z
      · exact z hl
      · exact hf a z rfl, fun a z => .inl (ho a z)⟩ ts (fun _ z => z) h
theorem Ow.past {F : AS} {l : Addr} {o : HO} (ho : ∀ a, O' a → O a) (hl : O l) (hf : ∀ b, F b → b ≠ l) (h : Ow K O H t d v F) : Ow K O' (upd H l o) t d v F :=
  Ow.mv (G := F) ⟨fun a u q z => by
    rw [upd_ne]
    · exact q
    · intro za
      subst za
      rcases z with z | z
      · exact z hl
      · exact hf a z rfl, fun a z => .inl (ho a z)⟩ t (fun _ z => z) h
def eApp (i : Nat) (f : ME) : ME := fun en => match (en[i]?).join with
  | some (.list _) => (f en).bind fun r => match (r.2[i]?).join with
    | some (.list ts) => if ts.length < sizeLine then some (.none, r.2.set i (some (.list (ts ++ [r.1])))) else none
    | _ => none
  | _ => none
theorem f_app {c : Nat} (hd : ds1[i]? = some d) (hz : d ≠ 0) (hc : dn d = c) (h : tF K false ds ds1 3 (eApp i f) σ H Q) : tBM K "list" rAppend (tVar i) (tCons (tF K p ds ds1 c f) tNil) σ H Q := by
  obtain ⟨Ox, en, R, t, en', e, hf, k⟩ := h
  unfold eApp at hf
  split at hf
  case h_2 => cases hf
  next ts0 h0 =>
  obtain ⟨⟨t1, en1⟩, h1, hf⟩ := Option.bind_eq_some_iff.mp hf
  dsimp only at hf
  split at hf
  case h_2 => cases hf
  next ts h2 =>
  by_cases hlen : ts.length < sizeLine
  case neg => rw [if_neg hlen] at hf; cases hf
  rw [if_pos hlen] at hf
  cases hf
  obtain ⟨v, d0, a1, _, a3⟩ := e.at_ i _ (get_join h0)
  obtain ⟨l0, vs0, e0, sq⟩ := a3.sqL
  refine ⟨v, a1, ?_, Ox, en, R, t1, en1, e, h1, fun x H1 R1 F P o => ?_⟩
  · rw [e0]; exact .inl ⟨rfl, vs0, sq⟩
  obtain ⟨v', d', b1, b2, b3⟩ := P.env.at_ i _ (get_join h2)
  rw [a1] at b1
  cases b1
  rw [hd] at b2
  cases b2
  obtain ⟨l, vs, el, hl, hr, F', hf', ow⟩ := b3.ownL hz
  refine ⟨l, vs, x, el, rfl, hl, by rw [ow.len]; exact hlen, ?_⟩
  have hi : i < en1.length := (List.getElem?_eq_some_iff.mp (get_join h2)).1
  have Fn : ∀ a, F a → a ≠ l := fun a z z2 => by
    subst z2
    exact P.env.dx i a hr (.inl z)
  have sub := Own_if (i := i) (R1 := R1) (Ox := Ox) (G := fun a => R1 i a ∨ F a) (F' := NoA) (F := F) (fun _ z => z) (fun _ z => z.elim)
  have Ol : Own R1 (U F Ox) l := .inl ⟨i, hr⟩
  refine k .non (upd H1 l (.lst (vs ++ [x]))) _ NoA (P.slot (G := fun a => R1 i a ∨ F a) hr hi a1 hd (fun _ z => z) (fun _ z => z.elim) (fun _ _ z => z) ?_) rfl
  refine ⟨l, vs ++ [x], el, .inr ⟨hz, upd_same, .inl hr, U F' F, fun b z => ?_, ?_⟩⟩
  · rcases z with z | z
    · exact ⟨.inl (hf' b z).1, (hf' b z).2⟩
    · exact ⟨.inr z, Fn b z⟩
  · refine Ows.snoc (Ows.past sub Ol (fun b z => (hf' b z).2) ow) ?_ fun b z1 z2 => P.env.dx i b (hf' b z1).1 (.inl z2)
    rw [hc]
    exact Ow.past sub Ol Fn o
theorem Ows.out : ∀ {ts : List PyData} {vs : List V} {F : AS} {k : Nat} {t : PyData}, Ows K O H ts d vs F → ts[k]? = some t →
    ∃ v, ∃ F1 F2 : AS, vs[k]? = some v ∧ (∀ b, F1 b → F b) ∧ (∀ b, F2 b → F b) ∧ (∀ b, F1 b → ¬ F2 b) ∧ Ow K O H t d v F1 ∧ Ows K O H (ts.eraseIdx k) d (vs.eraseIdx k) F2
  | [], _, _, k, t, _, h => by simp at h
  | u :: ts, _, F, k, t, h, hk => by
    obtain ⟨v, r, F1, F2, e, s1, s2, s3, h4, h5⟩ := h
    subst e
    cases k with
    | zero =>
      have : u = t := by simpa using hk
      subst this
      exact ⟨v, F1, F2, rfl, s1, s2, s3, h4, h5⟩
    | succ k =>
      obtain ⟨w, G1, G2, g1, g2, g3, g4, g5, g6⟩ := Ows.out (k := k) h5 (by simpa using hk)
      refine ⟨w, G1, U F1 G2, by simpa using g1, fun b z => s2 b (g2 b z), fun b z => z.elim (s1 b) fun z => s2 b (g3 b z), fun b z z2 => ?_, g5, v, r.eraseIdx k, F1, G2, rfl, fun b => .inl, fun b => .inr, fun b z1 z2 => s3 b z1 (g3 b z2), h4, g6⟩
      rcases z2 with z2 | z2
      · exact s3 b z2 (g2 b z)
      · exact g4 b z z2
def ePopAt (i : Nat) (f : ME) : ME := fun en => match (en[i]?).join with
  | some (.list _) => (f en).bind fun r => match r.1, (r.2[i]?).join with
    | .int n, some (.list ts) => if -(2 ^ 63) ≤ n ∧ n < 2 ^ 63 then (seqIndex? n ts.length).bind fun k => (ts[k]?).map fun t => (t, r.2.set i (some (.list (ts.eraseIdx k)))) else none
    | _, _ => none
  | _ => none
theorem f_popAt {c : Nat} (hd : ds1[i]? = some d) (hz : d ≠ 0) (hc : dn d = c) (h : tF K false ds ds1 c (ePopAt i f) σ H Q) : tBM K "list" rPopAt (tVar i) (tCons (tF K p ds ds1 d1 f) tNil) σ H Q := by
  obtain ⟨Ox, en, R, t, en', e, hf, k⟩ := h
  unfold ePopAt at hf
  split at hf
  case h_2 => cases hf
  next ts0 h0 =>
  obtain ⟨⟨t1, en1⟩, h1, hf⟩ := Option.bind_eq_some_iff.mp hf
  dsimp only at hf
  split at hf
  case h_2 => cases hf
  next n ts h2 =>
  by_cases hn : -(2 ^ 63) ≤ n ∧ n < 2 ^ 63
  case neg => rw [if_neg hn] at hf; cases hf
  rw [if_pos hn] at hf
  obtain ⟨kk, h3, hf⟩ := Option.bind_eq_some_iff.mp hf
  obtain ⟨t', h4, hf⟩ := Option.map_eq_some_iff.mp hf
  cases hf
  obtain ⟨v, d0, a1, _, a3⟩ := e.at_ i _ (get_join h0)
  obtain ⟨l0, vs0, e0, sq⟩ := a3.sqL
  refine ⟨v, a1, ?_, Ox, en, R, .int n, en1, e, h1, fun x H1 R1 F P o => ?_⟩
  · rw [e0]; exact .inl ⟨rfl, vs0, sq⟩
  obtain ⟨v', d', b1, b2, b3⟩ := P.env.at_ i _ (get_join h2)
  rw [a1] at b1
  cases b1
  rw [hd] at b2
  cases b2
  obtain ⟨l, vs, el, hl, hr, F', hf', ow⟩ := b3.ownL hz
  have len := ow.len
  obtain ⟨w, F1, F2, g1, g2, g3, g4, g5, g6⟩ := ow.out h4
  have ex : x = .int n := o
  refine ⟨l, vs, n, kk, w, el, by rw [ex], hl, hn.1, hn.2, by rw [len]; exact h3, g1, ?_⟩
  have hi : i < en1.length := (List.getElem?_eq_some_iff.mp (get_join h2)).1
  have gG : ∀ a, (fun a => R1 i a ∧ ¬ F1 a) a → R1 i a ∨ F a := fun a z => .inl z.1
  have gF : ∀ a, F1 a → R1 i a ∨ F a := fun a z => .inl (hf' a (g2 a z)).1
  have sub : ∀ a, Own (fun j => if j = i then (fun a => R1 i a ∧ ¬ F1 a) else R1 j) (U F1 Ox) a → Own R1 (U F Ox) a := fun a z => Own_if gG gF a z
  have Ol : Own R1 (U F Ox) l := .inl ⟨i, hr⟩
  have F1l : ¬ F1 l := fun z => (hf' l (g2 l z)).2 rfl
  rw [hc] at g5
  refine k w (upd H1 l (.lst (vs.eraseIdx kk))) _ F1 (P.slot (G := fun a => R1 i a ∧ ¬ F1 a) hr hi a1 hd gG gF (fun a z z2 => z.2 z2) ?_) (Ow.past sub Ol (fun b z => (hf' b (g2 b z)).2) g5)
  exact ⟨l, vs.eraseIdx kk, el, .inr ⟨hz, upd_same, ⟨hr, F1l⟩, F2, fun b z => ⟨⟨(hf' b (g3 b z)).1, fun z1 => g4 b z1 z⟩, (hf' b (g3 b z)).2⟩, Ows.past sub Ol (fun b z => (hf' b (g3 b z)).2) g6⟩⟩
theorem Ows.rev : ∀ {ts : List PyData} {vs : List V} {F : AS}, Ows K O H ts d vs F → Ows K O H ts.reverse d vs.reverse F
  | [], _, _, h => by rw [show _ = [] from h]; rfl
  | t :: ts, _, F, h => by
    obtain ⟨v, r, F1, F2, e, s1, s2, s3, h4, h5⟩ := h
    subst e
    rw [List.reverse_cons, List.reverse_cons]
    exact Ows.grow (fun _ z => z) _ (fun b z => z.elim (s2 b) (s1 b)) (Ows.snoc h5.rev h4 fun b z1 z2 => s3 b z2 z1)
def eRev (i : Nat) : ME := fun en => match (en[i]?).join with
  | some (.list ts) => some (.none, en.set i (some (.list ts.reverse)))
  | _ => none
theorem f_rev (hd : ds[i]? = some d) (hz : d ≠ 0) (h : tF K false ds ds 3 (eRev i) σ H Q) : tBM0 K "list" rReverse (tVar i) σ H Q := by
  obtain ⟨Ox, en, R, t, en', e, hf, k⟩ := h
  unfold eRev at hf
  split at hf
  case h_2 => cases hf
  next ts h0 =>
  cases hf
  obtain ⟨v, d', a1, a2, a3⟩ := e.at_ i _ (get_join h0)
  rw [hd] at a2
  cases a2
  obtain ⟨l, vs, el, hl, hr, F', hf', ow⟩ := a3.ownL hz
  refine ⟨v, a1, by rw [el]; exact .inl ⟨rfl, vs, SqL.of hl⟩, l, vs, el, rfl, hl, ?_⟩
  have hi : i < en.length := (List.getElem?_eq_some_iff.mp (get_join h0)).1
  have P := Post.refl (p := true) e
  have gG : ∀ a, (fun a => R i a) a → R i a ∨ False := fun a z => .inl z
  have gF : ∀ a, NoA a → R i a ∨ False := fun a z => z.elim
  have hO : Own R (U (fun _ => False) Ox) = Own R Ox := by rw [show U (fun _ => False) Ox = Ox from U_no]
  have sub : ∀ a, Own (fun j => if j = i then (fun a => R i a) else R j) (U NoA Ox) a → Own R Ox a := fun a z => hO ▸ Own_if gG gF a z
  have Ol : Own R Ox l := .inl ⟨i, hr⟩
  refine k .non (upd H l (.lst vs.reverse)) _ NoA (P.slot (G := fun a => R i a) (F := fun _ => False) hr hi a1 hd gG gF (fun a _ z2 => z2) ?_) rfl
  exact ⟨l, vs.reverse, el, .inr ⟨hz, upd_same, hr, F', hf', Ows.rev (Ows.past sub Ol (fun b z => (hf' b z).2) ow)⟩⟩
theorem Ows.setAt : ∀ {ts : List PyData} {vs : List V} {F F2 : AS} {k : Nat} {t : PyData} {v : V}, Ows K O H ts d vs F → Ow K O H t d v F2 → (∀ b, F b → ¬ F2 b) → Ows K O H (ts.set k t) d (vs.set k v) (U F F2)
  | [], _, _, _, _, _, _, h, _, _ => by rw [show _ = [] from h]; rfl
  | u :: ts, _, F, F2, k, t, v, h, h2, hd => by
    obtain ⟨w, r, G1, G2, e, s1, s2, s3, h4, h5⟩ := h
    subst e
    cases k with
    | zero => exact ⟨v, r, F2, G2, rfl, fun _ z => .inr z, fun b z => .inl (s2 b z), fun b z z2 => hd b (s2 b z2) z, h2, h5⟩
    | succ k =>
      refine ⟨w, r.set k v, G1, U G2 F2, rfl, fun b z => .inl (s1 b z), fun b z => z.imp (s2 b) id, fun b z z2 => ?_, h4, Ows.setAt h5 h2 fun b z => hd b (s2 b z)⟩
      rcases z2 with z2 | z2
      · exact s3 b z z2
      · exact hd b (s1 b z) z2
def sSetL (i : Nat) (fk fe : ME) : MS := fun en => (fe en).bind fun r => match (r.2[i]?).join with
  | some _ => (fk r.2).bind fun q => match q.1, (q.2[i]?).join with
    | .int n, some (.list ts) => (ixN ts.length n).map fun k => .nx (q.2.set i (some (.list (ts.set k r.1))))
    | _, _ => none
  | none => none
theorem fs_setL {c : Nat} {fk fe : ME} (hd : ds2[i]? = some d) (hz : d ≠ 0) (hc : dn d = c) (h : tFS K J ds ds2 (sSetL i fk fe) D σ H) :
    tAsg (tF K p1 ds ds1 c fe) (gSub (tVar i) (tF K p2 ds1 ds2 d2 fk) rSetL) D σ H := by
  obtain ⟨Ox, en, R, fl, e, hf, k⟩ := h
  unfold sSetL at hf
  obtain ⟨⟨t1, en1⟩, h1, hf⟩ := Option.bind_eq_some_iff.mp hf
  dsimp only at hf
  split at hf
  case h_2 => cases hf
  next tt h0 =>
  obtain ⟨⟨t2, en2⟩, h2, hf⟩ := Option.bind_eq_some_iff.mp hf
  dsimp only at hf
  split at hf
  case h_2 => cases hf
  next n ts h3 =>
  obtain ⟨kk, h4, hf⟩ := Option.map_eq_some_iff.mp hf
  cases hf
  refine ⟨Ox, en, R, t1, en1, e, h1, fun x H1 R1 F1 P1 o1 => ?_⟩
  obtain ⟨v0, d0, a1, _, _⟩ := P1.env.at_ i tt (get_join h0)
  refine ⟨v0, a1, ?_⟩
  refine ⟨U F1 Ox, en1, R1, .int n, en2, P1.env, h2, fun y H2 R2 F2 P2 o2 => ?_⟩
  have P := P1.trans P2
  have o1' := Ow.over P1.env P2 o1
  obtain ⟨v', d', b1, b2, b3⟩ := P.env.at_ i _ (get_join h3)
  rw [a1] at b1
  cases b1
  rw [hd] at b2
  cases b2
  obtain ⟨l, vs, el, hl, hr, F', hf', ow⟩ := b3.ownL hz
  refine ⟨l, vs, n, kk, el, o2, hl, by rw [ow.len]; exact h4, ?_⟩
  have hi : i < en2.length := (List.getElem?_eq_some_iff.mp (get_join h3)).1
  have Fn : ∀ a, F1 a → a ≠ l := fun a z z2 => by
    subst z2
    exact P.env.dx i a hr (.inl (.inl z))
  have gG : ∀ a, (fun a => R2 i a ∨ F1 a) a → R2 i a ∨ U F1 F2 a := fun a z => z.imp id .inl
  have sub := Own_if (i := i) (R1 := R2) (Ox := Ox) (G := fun a => R2 i a ∨ F1 a) (F' := NoA) (F := U F1 F2) gG (fun _ z => z.elim)
  have Ol : Own R2 (U (U F1 F2) Ox) l := .inl ⟨i, hr⟩
  have PS := P.slot (G := fun a => R2 i a ∨ F1 a) (F' := NoA) (o2 := .lst (vs.set kk x)) (t := .list (ts.set kk t1)) hr hi a1 hd gG (fun _ z => z.elim) (fun _ _ z => z) ?_
  · exact k σ _ _ PS.s
  refine ⟨l, vs.set kk x, el, .inr ⟨hz, upd_same, .inl hr, U F' F1, fun b z => ?_, ?_⟩⟩
  · rcases z with z | z
    · exact ⟨.inl (hf' b z).1, (hf' b z).2⟩
    · exact ⟨.inr z, Fn b z⟩
  · refine Ows.setAt (Ows.past sub Ol (fun b z => (hf' b z).2) ow) ?_ fun b z1 z2 => P.env.dx i b (hf' b z1).1 (.inl (.inl z2))
    rw [hc]
    exact Ow.past sub Ol Fn o1'
theorem Ows.get : ∀ {ts : List PyData} {vs : List V} {F : AS} {k : Nat} {t : PyData}, Ows K O H ts d vs F → ts[k]? = some t → ∃ v, vs[k]? = some v ∧ Ow K O H t d v F
  | [], _, _, k, t, _, h => by simp at h
  | u :: ts, _, F, k, t, h, hk => by
    obtain ⟨v, r, F1, F2, e, s1, s2, s3, h4, h5⟩ := h
    subst e
    cases k with
    | zero =>
      have : u = t := by simpa using hk
      subst this
      exact ⟨v, rfl, Ow.grow (fun _ z => z) u s1 h4⟩
    | succ k =>
      obtain ⟨w, g1, g2⟩ := Ows.get (k := k) h5 (by simpa using hk)
      exact ⟨w, by simpa using g1, Ow.grow (fun _ z => z) t s2 g2⟩
theorem Ows.atI {ts : List PyData} {vs : List V} {F : AS} {n : Int} {t : PyData} (h : Ows K O H ts d vs F) (ht : L2.atI ts n = some t) : ∃ v, L2.atI vs n = some v ∧ Ow K O H t d v F := by
  unfold L2.atI at ht ⊢
  rw [h.len]
  obtain ⟨k, h1, h2⟩ := Option.bind_eq_some_iff.mp ht
  obtain ⟨v, g1, g2⟩ := h.get h2
  exact ⟨v, by rw [h1]; exact g1, g2⟩
def eIxL (i : Nat) (f : ME) : ME := fun en => (en[i]?).join.bind fun _ => (f en).bind fun r => match r.1, (r.2[i]?).join with
  | .int n, some (.list ts) => (atI ts n).map fun t => (t, r.2)
  | _, _ => none
theorem f_ixL (hd : ds1[i]? = some 1) (h : tF K p ds ds1 0 (eIxL i f) σ H Q) : tOp (rIxL K) (tVar i) (tF K p ds ds1 d1 f) σ H Q := by
  obtain ⟨Ox, en, R, t, en', e, hf, k⟩ := h
  unfold eIxL at hf
  obtain ⟨t0, h0, hf⟩ := Option.bind_eq_some_iff.mp hf
  obtain ⟨⟨t1, en1⟩, h1, hf⟩ := Option.bind_eq_some_iff.mp hf
  dsimp only at hf
  split at hf
  case h_2 => cases hf
  next n ts h2 =>
  obtain ⟨t', h3, hf⟩ := Option.map_eq_some_iff.mp hf
  cases hf
  obtain ⟨v, d0, a1, _, a3⟩ := e.at_ i _ (get_join h0)
  refine ⟨v, a1, Ox, en, R, .int n, _, e, h1, fun x H1 R1 F P o => ?_⟩
  obtain ⟨v', d', b1, b2, b3⟩ := P.env.at_ i _ (get_join h2)
  rw [a1] at b1
  cases b1
  rw [hd] at b2
  cases b2
  obtain ⟨l, vs, el, hl, hr, F', hf', ow⟩ := b3.ownL (by decide)
  obtain ⟨w, g1, g2⟩ := ow.atI h3
  refine ⟨l, vs, n, w, el, o, SqL.of hl, g1, k w H1 R1 NoA (P.less fun _ z => z.elim) ?_⟩
  exact Ow.any0 _ (Ow.grow (fun a z => z.imp id fun z => z.elim (fun z => False.elim z) Or.inr) _ (fun _ z => z) g2)
end
end L2
set_option Elab.async false
set_option linter.all false
set_option maxRecDepth 100000
set_option maxHeartbeats 4000000
namespace L2
open PySem PySem.Spec PyProof.Rows
theorem PE.imp {X : Cx} {e : Expr} {t t' : TE} (h : PE X e t) (hi : ∀ σ H Q, t' σ H Q → t σ H Q) : PE X e t' := fun pins s σ H Q I hw => h pins s σ H Q I (hi _ _ _ hw)
theorem PT.imp {X : Cx} {e : Expr} {t t' : TT} (h : PT X e t) (hi : ∀ σ H Q, t' σ H Q → t σ H Q) : PT X e t' := fun pins s σ H Q I hw => h pins s σ H Q I (hi _ _ _ hw)
theorem PW.imp {X : Cx} {e : Expr} {t t' : TT} (h : PW X e t) (hi : ∀ σ H Q, t' σ H Q → t σ H Q) : PW X e t' := fun wh pins s σ H Q I hw => h wh pins s σ H Q I (hi _ _ _ hw)
theorem PA.imp {X : Cx} {e : List Expr} {t t' : TA} (h : PA X e t) (hi : ∀ σ H Q, t' σ H Q → t σ H Q) : PA X e t' := fun pos pins s σ H Q I hw => h pos pins s σ H Q I (hi _ _ _ hw)
theorem PS.imp {X : Cx} {e : Stmt} {t t' : TS} (h : PS X e t) (hi : ∀ D σ H, t' D σ H → t D σ H) : PS X e t' := fun pins s σ H D I hw => h pins s σ H D I (hi _ _ _ hw)
theorem PSs.imp {X : Cx} {e : List Stmt} {t t' : TS} (h : PSs X e t) (hi : ∀ D σ H, t' D σ H → t D σ H) : PSs X e t' := fun pins s σ H D I hw => h pins s σ H D I (hi _ _ _ hw)
theorem PG.imp {X : Cx} {e : Expr} {t t' : TG} (h : PG X e t) (hi : ∀ v σ H Q, t' v σ H Q → t v σ H Q) : PG X e t' := fun pins s σ H v u Q I r hw => h pins s σ H v u Q I r (hi _ _ _ _ hw)
theorem PGs.imp {X : Cx} {e : List Expr} {t t' : TGs} (h : PGs X e t) (hi : ∀ v σ H Q, t' v σ H Q → t v σ H Q) : PGs X e t' := fun pins s σ H v u Q I r hw => h pins s σ H v u Q I r (hi _ _ _ _ hw)
theorem PI.imp {X : Cx} {tg e : Expr} {t t' : TI} (h : PI X tg e t) (hi : ∀ σ H R, t' σ H R → t σ H R) : PI X tg e t' := fun pins s σ H R I hw => h pins s σ H R I (hi _ _ _ hw)
theorem PTs.imp {X : Cx} {e : List Expr} {t t' : TT} (h : PTs X e t) (hi : ∀ σ H Q, t' σ H Q → t σ H Q) : PTs X e t' := fun pins s σ H Q I hw => h pins s σ H Q I (hi _ _ _ hw)
def notStar : Expr → Bool
  | .Starred _ _ => false
  | _ => true
theorem star_cons {e : Expr} {es : List Expr} {env : Env} (h : notStar e = true) : starEach (e :: es) env = (false, eval e env) :: starEach es env := by
  cases e <;> first | rfl | cases h
theorem star_any {pos : Pos} {env : Env} : ∀ {es : List Expr}, es.all notStar = true → (backTo pos (starEach es env)).any (·.1) = false
  | [], _ => rfl
  | e :: es, h => by
    rw [List.all_cons, Bool.and_eq_true] at h
    rw [star_cons h.1]
    show (false || (backTo pos (starEach es env)).any (·.1)) = false
    rw [star_any h.2]
    rfl
section
variable {X : Cx} {K : PySem.W.Frag} {p p1 p2 q : Bool} {ds ds0 ds1 ds2 ds' dsi : List Nat} {d d' d1 d2 : Nat} {a b c e : Expr} {es : List Expr} {f f1 f2 : ME} {m c1 c2 : MT} {fa : MA} {sh : Sh} {pos : Pos} {i : Nat} {x : Str}
theorem fe_var {x : Str} (hN : X.N[i]? = some x) (hv : Vis X.env.scope x) (h0 : ds[i]? = some 0) (hd : (x == ("__debug__" : Str)) = false) (hcd : (x == ("__classdict__" : Str)) = false) : PE X (.Name x pos) (tF K p ds ds 0 (eVar i)) :=
  (pe_var hN hv hd hcd).imp fun _ _ _ h => f_var h0 (f_imp (fun _ => rfl) h)
theorem fe_int {n : Int} {j} : PE X (.Constant (.int n) j pos) (tF K p ds ds 3 (eC (.int n))) := pe_int.imp fun _ _ _ h => f_c (t := .int n) (fun _ _ _ _ => rfl) (f_imp (fun _ => rfl) h)
theorem fe_bl {n : Bool} {j} : PE X (.Constant (.bool n) j pos) (tF K p ds ds 3 (eC (.bool n))) := pe_bl.imp fun _ _ _ h => f_c (t := .bool n) (fun _ _ _ _ => rfl) (f_imp (fun _ => rfl) h)
theorem fe_non {j} : PE X (.Constant .none j pos) (tF K p ds ds 3 (eC .none)) := pe_non.imp fun _ _ _ h => f_c (t := .none) (fun _ _ _ _ => rfl) (f_imp (fun _ => rfl) h)
theorem fe_str {n : Str} {j} : PE X (.Constant (.str n) j pos) (tF K p ds ds 3 (eC (.str n))) := pe_str.imp fun _ _ _ h => f_c (t := .str n) (fun _ _ _ _ => rfl) (f_imp (fun _ => rfl) h)
theorem fe_globI {x : Str} {n : Int} {t : Tok} (hg : Gl X x) (hm : X.mg x = some (.int n t)) (hd : (x == ("__debug__" : Str)) = false) : PE X (.Name x pos) (tF K p ds ds 3 (eC (.int n))) :=
  (pe_glob (v := .int n) hg hm ⟨t, rfl⟩ hd).imp fun _ _ _ h => f_c (t := .int n) (fun _ _ _ _ => rfl) (f_imp (fun _ => rfl) h)
theorem fe_sub (h : PE X e (tF K p ds ds' d f)) (hd : d' ≤ d) : PE X e (tF K p ds ds' d' f) := h.imp fun _ _ _ => f_sub hd
theorem fe_fz (h : PE X e (tF K p ds0 ds' d f)) (hd : leD ds0 ds = true) : PE X e (tF K false ds ds' d f) := h.imp fun _ _ _ => f_fz hd
theorem fe_bor (h : PE X e (tF K true ds0 ds0 3 f)) (hd : leD ds0 ds = true) : PE X e (tF K p ds ds 3 f) := h.imp fun _ _ _ h => f_bor hd (f_imp (fun _ => rfl) h)
theorem fe_op {op : Operator} {g : D → D → Option D} (ho : OpR X (binaryOp op) (rF2 K g d)) (ha : PE X a (tF K p ds ds1 d1 f1)) (hb : PE X b (tF K p ds1 ds2 d2 f2)) : PE X (.BinOp a op b pos) (tF K p ds ds2 d (e2 g f1 f2)) :=
  (pe_op ho ha hb).imp fun _ _ _ h => f_op2 (by rw [Bool.and_self]; exact h)
theorem fe_un {op : UnaryOp} {g : D → Option D} (ho : UnR X (unaryOp op) (rF1 K g d)) (ha : PE X a (tF K p ds ds1 d1 f1)) : PE X (.UnaryOp op a pos) (tF K p ds ds1 d (e1 g f1)) :=
  (pe_un ho ha).imp fun _ _ _ => f_op1
theorem fe_cmp {op : CmpOp} {g : D → D → Option D} (ho : OpR X (compareOp op) (rF2 K g d)) (ha : PE X a (tF K p ds ds1 d1 f1)) (hb : PE X b (tF K p ds1 ds2 d2 f2)) (hm : behindInMarks op b = false) : PE X (.Compare a [op] [b] pos) (tF K p ds ds2 d (e2 g f1 f2)) :=
  (pe_cmpR ho ha hb hm).imp fun _ _ _ h => f_op2 (by rw [Bool.and_self]; exact h)
theorem ft_cmp' {op : CmpOp} {g : D → D → Option D} (ho : OpR X (compareOp op) (rF2 K g d)) (ha : PE X a (tF K p ds ds1 d1 f1)) (hb : PE X b (tF K p ds1 ds2 d2 f2)) (hm : behindInMarks op b = false) : PT X (.Compare a [op] [b] pos) (tFT K p ds ds2 (tV (e2 g f1 f2))) :=
  (pt_cmpR ho ha hb hm).imp fun σ H Q h => by
    obtain ⟨Ox, en, R, t, en', e, hf, k⟩ := ft_val (d := d) h
    exact f_op2 (by rw [Bool.and_self]; exact ⟨Ox, en, R, t, en', e, hf, k⟩)
theorem ft_val' (h : PE X e (tF K p ds ds' d f)) (he : ∀ whole, isTrue e X.env whole = (do let v ← whole; standAt e.pos; holding [v] (truthy v))) : PT X e (tFT K p ds ds' (tV f)) := (pt_val h he).imp fun _ _ _ => ft_val
theorem fw_and1 (ha : PT X a (tFT K p ds ds1 c1)) : PW X (.BoolOp .And [a] pos) (tFT K p ds ds1 c1) := pw_and1 ha
theorem fw_or1 (ha : PT X a (tFT K p ds ds1 c1)) : PW X (.BoolOp .Or [a] pos) (tFT K p ds ds1 c1) := pw_or1 ha
theorem fw_and {rest : List Expr} (ha : PT X a (tFT K p ds ds1 c1)) (hb : PW X (.BoolOp .And (b :: rest) pos) (tFT K p ds1 ds1 c2)) : PW X (.BoolOp .And (a :: b :: rest) pos) (tFT K p ds ds1 (bAnd c1 c2)) := (pw_and ha hb).imp fun _ _ _ h => ft_and (by rw [Bool.and_self]; exact h)
theorem fw_or {rest : List Expr} (ha : PT X a (tFT K p ds ds1 c1)) (hb : PW X (.BoolOp .Or (b :: rest) pos) (tFT K p ds1 ds1 c2)) : PW X (.BoolOp .Or (a :: b :: rest) pos) (tFT K p ds ds1 (bOr c1 c2)) := (pw_or ha hb).imp fun _ _ _ h => ft_or (by rw [Bool.and_self]; exact h)
theorem ft_not' (ha : PT X a (tFT K p ds ds1 c1)) : PT X (.UnaryOp .Not a pos) (tFT K p ds ds1 (bNot c1)) := (pt_not ha).imp fun _ _ _ => ft_not
theorem ft_bor' (h : PT X e (tFT K true ds0 ds0 c1)) (hd : leD ds0 ds = true) : PT X e (tFT K p ds ds c1) := h.imp fun _ _ _ ⟨Ox, en, R, t, en', e, hf, k⟩ => ft_bor hd ⟨Ox, en, R, t, en', e, hf, fun H' R' P => k H' R' ⟨P.env, P.fx, P.keep, P.own, P.dom, fun _ => P.pure rfl⟩⟩
theorem fe_one {op} (h : PE X a (tF K p ds ds1 d f)) : PE X (.BoolOp op [a] pos) (tF K p ds ds1 d f) := pe_one h
theorem fe_and {rest : List Expr} (ha : PE X a (tF K p ds ds1 d1 f1)) (hb : PE X (.BoolOp .And (b :: rest) pos) (tF K p ds1 ds1 d f2)) : PE X (.BoolOp .And (a :: b :: rest) pos) (tF K p ds ds1 d (eAnd f1 f2)) := (pe_and ha hb).imp fun _ _ _ h => f_and (by rw [Bool.and_self]; exact h)
theorem fe_not (ha : PE X a (tF K p ds ds1 d1 f)) : PE X (.UnaryOp .Not a pos) (tF K p ds ds1 3 (eNot f)) := (pe_not ha).imp fun _ _ _ => f_not
theorem fa_nil' : PA X [] (tFA K p ds ds [] aNil) := pa_nil.imp fun _ _ _ ⟨Ox, en, R, t, en', e, hf, k⟩ => fa_nil ⟨Ox, en, R, t, en', e, hf, fun vs H' R' F P => k vs H' R' F ⟨P.env, P.fx, P.keep, P.own, P.dom, fun _ => P.pure rfl⟩⟩
theorem fa_cons' (ha : PE X e (tF K p ds ds1 d f)) (hr : PA X es (tFA K p ds1 ds2 sh fa)) (hs : notStar e = true) : PA X (e :: es) (tFA K p ds ds2 (.inl d :: sh) (aCons f fa)) := (pa_cons ha hr (star_cons hs)).imp fun _ _ _ h => fa_cons (by rw [Bool.and_self]; exact h)
theorem fa_slot' {x : Str} (hN : X.N[i]? = some x) (hv : Vis X.env.scope x) (hr : PA X es (tFA K p ds ds2 sh fa)) (hd : (x == ("__debug__" : Str)) = false) (hcd : (x == ("__classdict__" : Str)) = false) :
    PA X (.Name x pos :: es) (tFA K p ds ds2 (.inr i :: sh) (aSlot i fa)) := (pa_cons (pe_var hN hv hd hcd) hr (star_cons rfl)).imp fun _ _ _ => fa_slot
theorem fe_lst {c : Nat} (h : PA X es (tFA K p ds ds1 sh fa)) (hs : shAll c sh = true) (hd : dn d = c) (hz : d ≠ 0) : PE X (.List es pos) (tF K p ds ds1 d (eLst fa)) := (pe_lst h).imp fun _ _ _ => f_lst hs hd hz
theorem fe_tup {c : Nat} {x1} (h : PA X es (tFA K p ds ds1 sh fa)) (hs : shAll c sh = true) (hd : dn d = c) : PE X (.Tuple es x1 pos) (tF K p ds ds1 d (eTup fa)) := (pe_tup h).imp fun _ _ _ => f_tup hs hd
theorem fe_callB {id : String} {x : Str} {px : Pos} {g : List D → Option D} (hc : CallR X (.builtin id) (rFn K g d)) (hg : Gl X x) (hm : X.mg x = none) (hv : bootBuiltins x = some (.builtin id)) (ha : PA X (e :: es) (tFA K p ds ds1 sh fa)) (hsh : shAll 0 sh = true) (hn : x ≠ "__name__") (hdb : (x == ("__debug__" : Str)) = false)
    (he : notStar e = true) (hpl : es.all notStar = true) : PE X (.Call (.Name x px) (e :: es) [] pos) (tF K p ds ds1 d (eN g fa)) :=
  (pe_callB hc hg hm hv ha hn hdb (star_cons he) (star_any hpl)).imp fun _ _ _ => f_call hsh
theorem fe_callTy {T : String} {x : Str} {px : Pos} {g : List D → Option D} (hc : CallR X (.type T) (rFn K g d)) (hg : Gl X x) (hm : X.mg x = none) (hv : bootBuiltins x = some (.type T)) (ha : PA X (e :: es) (tFA K p ds ds1 sh fa)) (hsh : shAll 0 sh = true) (hn : x ≠ "__name__") (hdb : (x == ("__debug__" : Str)) = false)
    (he : notStar e = true) (hpl : es.all notStar = true) : PE X (.Call (.Name x px) (e :: es) [] pos) (tF K p ds ds1 d (eN g fa)) :=
  (pe_callTy hc hg hm hv ha hn hdb (star_cons he) (star_any hpl)).imp fun _ _ _ => f_call hsh
theorem fe_fn {k : Nat} {x : Str} {ps : List Str} {px : Pos} {dps : List Nat} {dr : Nat} {F : List D → Option (D × En)} (G : Kn X.prog X.w X.K X.mg X.base k x ps (spF K dps dr F)) (hr : Room k X.A) (hg : Gl X x) (ha : PA X (e :: es) (tFA K p ds ds1 sh fa)) (hns : noSlot sh = true) (hcd : callD ds1 sh dps = true) (hdb : (x == ("__debug__" : Str)) = false)
    (he : notStar e = true) (hpl : es.all notStar = true) :
    PE X (.Call (.Name x px) (e :: es) [] pos) (tF K p ds ds1 dr (eCall F fa)) := (pe_fn G hr hg ha hdb (star_cons he) (star_any hpl)).imp fun _ _ _ h => f_fn hcd (by rw [hns, Bool.and_true]; exact h)
theorem fe_fnS {k : Nat} {x : Str} {ps : List Str} {px : Pos} {dps : List Nat} {dr : Nat} {F : List D → Option (D × En)} (G : Kn X.prog X.w X.K X.mg X.base k x ps (spF K dps dr F)) (hr : Room k X.A) (hg : Gl X x) (ha : PA X (e :: es) (tFA K false ds ds1 sh fa)) (hcd : callD ds1 sh dps = true) (hdb : (x == ("__debug__" : Str)) = false)
    (he : notStar e = true) (hpl : es.all notStar = true) :
    PE X (.Call (.Name x px) (e :: es) [] pos) (tF K false ds ds1 dr (eCall F fa)) := (pe_fn G hr hg ha hdb (star_cons he) (star_any hpl)).imp fun _ _ _ h => f_fn hcd h
theorem fe_fn0 {k : Nat} {x : Str} {ps : List Str} {px : Pos} {dr : Nat} {F : List D → Option (D × En)} (G : Kn X.prog X.w X.K X.mg X.base k x ps (spF K [] dr F)) (hr : Room k X.A) (hg : Gl X x) (hdb : (x == ("__debug__" : Str)) = false) :
    PE X (.Call (.Name x px) [] [] pos) (tF K p ds ds dr (eCall F aNil)) := (pe_fn0 G hr hg hdb).imp fun σ H Q h => by
  have h2 := f_fn (E := E0) (sh := []) (ds1 := ds) (dps := []) (p := true) rfl (f_imp (fun _ => rfl) h)
  exact fa_nil h2
theorem fe_ix {g : D → D → Option D} (ho : IxR X (rF2 K g d)) (ha : PE X a (tF K p ds ds1 d1 f1)) (hb : PE X b (tF K p ds1 ds2 d2 f2)) (hs : PlainIx b) : PE X (.Subscript a b pos) (tF K p ds ds2 d (e2 g f1 f2)) :=
  (pe_ix ho ha hb hs).imp fun _ _ _ h => f_op2 (by rw [Bool.and_self]; exact h)
theorem fe_ixL {x : Str} {px : Pos} (hK : X.K = K) (hN : X.N[i]? = some x) (hv : Vis X.env.scope x) (h1 : ds1[i]? = some 1) (hb : PE X b (tF K p ds ds1 d1 f)) (hs : PlainIx b) (hd : (x == ("__debug__" : Str)) = false) (hcd : (x == ("__classdict__" : Str)) = false) :
    PE X (.Subscript (.Name x px) b pos) (tF K p ds ds1 0 (eIxL i f)) := (pe_ix (kIxL hK) (pe_var hN hv hd hcd) hb hs).imp fun _ _ _ => f_ixL h1
theorem fe_app {c : Nat} {x : Str} {px apos cpos : Pos} (hK : X.K = K) (hN : X.N[i]? = some x) (hv : Vis X.env.scope x) (h1 : ds1[i]? = some d) (he : PE X e (tF K false ds ds1 c f)) (hz : d ≠ 0) (hc : dn d = c)
    (hd : (x == ("__debug__" : Str)) = false) (hcd : (x == ("__classdict__" : Str)) = false)
    (hbase : attributeBase (.Name x px) "append" X.env (eval (.Name x px) X.env) = eval (.Name x px) X.env)
    (hfew : ((backTo cpos (starEach [e] X.env)).all (fun x => !x.1) && (backToKw cpos (keywordEach [] X.env)).all (fun x => x.1.isSome) && decide (([e] : List Expr).length + ([] : List Keyword).length + (if ([] : List Keyword).isEmpty then 0 else 1) < 30)) = true)
    (hline : (apos.endLine == cpos.line) = true) (hs : starEach [e] X.env = [(false, eval e X.env)]) (hplain : (backTo cpos (starEach [] X.env)).any (·.1) = false) :
    PE X (.Call (.Attribute (.Name x px) "append" apos) [e] [] cpos) (tF K false ds ds1 3 (eApp i f)) := by
  subst hK
  exact (pe_bm PySem.F.plainAttrs_list PySem.F.slot_list_append PySem.F.type_list_append mt_append (pe_var hN hv hd hcd) (pa_cons he pa_nil hs) hbase hfew hline hs hplain).imp fun _ _ _ => f_app h1 hz hc
theorem fe_popAt {c : Nat} {x : Str} {px apos cpos : Pos} (hK : X.K = K) (hN : X.N[i]? = some x) (hv : Vis X.env.scope x) (h1 : ds1[i]? = some d) (he : PE X e (tF K false ds ds1 d1 f)) (hz : d ≠ 0) (hc : dn d = c)
    (hd : (x == ("__debug__" : Str)) = false) (hcd : (x == ("__classdict__" : Str)) = false)
    (hbase : attributeBase (.Name x px) "pop" X.env (eval (.Name x px) X.env) = eval (.Name x px) X.env)
    (hfew : ((backTo cpos (starEach [e] X.env)).all (fun x => !x.1) && (backToKw cpos (keywordEach [] X.env)).all (fun x => x.1.isSome) && decide (([e] : List Expr).length + ([] : List Keyword).length + (if ([] : List Keyword).isEmpty then 0 else 1) < 30)) = true)
    (hline : (apos.endLine == cpos.line) = true) (hs : starEach [e] X.env = [(false, eval e X.env)]) (hplain : (backTo cpos (starEach [] X.env)).any (·.1) = false) :
    PE X (.Call (.Attribute (.Name x px) "pop" apos) [e] [] cpos) (tF K false ds ds1 c (ePopAt i f)) := by
  subst hK
  exact (pe_bm PySem.F.plainAttrs_list PySem.F.slot_list_pop PySem.F.type_list_pop mt_popAt (pe_var hN hv hd hcd) (pa_cons he pa_nil hs) hbase hfew hline hs hplain).imp fun _ _ _ => f_popAt h1 hz hc
theorem fe_rev {x : Str} {px apos cpos : Pos} (hK : X.K = K) (hN : X.N[i]? = some x) (hv : Vis X.env.scope x) (h1 : ds[i]? = some d) (hz : d ≠ 0)
    (hd : (x == ("__debug__" : Str)) = false) (hcd : (x == ("__classdict__" : Str)) = false)
    (hbase : attributeBase (.Name x px) "reverse" X.env (eval (.Name x px) X.env) = eval (.Name x px) X.env) (hline : (apos.endLine == cpos.line) = true) :
    PE X (.Call (.Attribute (.Name x px) "reverse" apos) [] [] cpos) (tF K false ds ds 3 (eRev i)) := by
  subst hK
  exact (pe_bm0 PySem.F.plainAttrs_list PySem.F.slot_list_reverse PySem.F.type_list_reverse mt_reverse (pe_var hN hv hd hcd) hbase hline).imp fun _ _ _ => f_rev h1 hz
def cY : MT := fun en => some (true, en)
theorem fts_nil : PTs X [] (tFT K p ds ds cY) := pts_nil.imp fun σ H Q ⟨Ox, en, R, b, en', e, hf, k⟩ => by
  cases hf
  exact k H R (Post.refl e)
theorem fts_one (hc : PT X c (tFT K p ds ds1 c1)) : PTs X [c] (tFT K p ds ds1 c1) := pts_one hc
theorem fe_lc {elt tg iter : Expr} {ifs : List Expr} {scope : Scope} {ns : List Str} {js : List (Option Nat)} {fi : MI} {g : MG} {lk : List Nat} {cd : Nat} (B : BlkOkC X scope ns js) (hc : X.calm = true) (hi : PI X tg iter (tFI K p ds ds1 fi))
    (hg : ∀ C cl s₀ H₀ fp, PG (blkCxC X scope ns C cl s₀ H₀ fp) tg (tFG K lk dsi dsi g)) (ht : ∀ C cl s₀ H₀ fp, PTs (blkCxC X scope ns C cl s₀ H₀ fp) ifs (tFT K true dsi dsi c1)) (he : ∀ C cl s₀ H₀ fp, PE (blkCxC X scope ns C cl s₀ H₀ fp) elt (tF K true dsi dsi cd f))
    (hcap : capD ds1 js dsi = true) (hd : dn d = cd) (hz : d ≠ 0) (hlk : lk = caps js 0)
    (hs : ∀ x, foldedSetIterable iter X.env x = pure x) : PE X (.ListComp elt [⟨tg, iter, ifs, 0⟩] scope pos) (tF K p ds ds1 d (eLC true fi g c1 f js)) :=
  (pe_lcC B hc hi hg ht he hs).imp fun _ _ _ h => f_lc hcap hd hz hlk (by rw [Bool.and_true]; exact h)
theorem fe_lcS {elt tg iter : Expr} {ifs : List Expr} {scope : Scope} {ns : List Str} {js : List (Option Nat)} {fi : MI} {g : MG} {lk : List Nat} {cd : Nat} (B : BlkOkC X scope ns js) (hc : X.calm = true) (hi : PI X tg iter (tFI K false ds ds1 fi))
    (hg : ∀ C cl s₀ H₀ fp, PG (blkCxC X scope ns C cl s₀ H₀ fp) tg (tFG K lk dsi dsi g)) (ht : ∀ C cl s₀ H₀ fp, PTs (blkCxC X scope ns C cl s₀ H₀ fp) ifs (tFT K false dsi dsi c1)) (he : ∀ C cl s₀ H₀ fp, PE (blkCxC X scope ns C cl s₀ H₀ fp) elt (tF K false dsi dsi cd f))
    (hcap : capD ds1 js dsi = true) (hd : dn d = cd) (hz : d ≠ 0) (hlk : lk = caps js 0)
    (hs : ∀ x, foldedSetIterable iter X.env x = pure x) : PE X (.ListComp elt [⟨tg, iter, ifs, 0⟩] scope pos) (tF K false ds ds1 d (eLC false fi g c1 f js)) :=
  (pe_lcC B hc hi hg ht he hs).imp fun _ _ _ h => f_lc hcap hd hz hlk h
end
end L2
set_option Elab.async false
set_option linter.all false
set_option maxRecDepth 100000
set_option maxHeartbeats 4000000
namespace L2
open PySem PySem.Spec PyProof.Rows
section
variable {K : PySem.W.Frag} {p p1 p2 q : Bool} {J : Jd} {ds ds0 ds1 ds2 ds' dsi dps : List Nat} {d d' d1 d2 dr : Nat} {f f1 f2 fk fe : ME} {c1 c2 : MT} {fa : MA} {sh : Sh} {i : Nat} {m m1 m2 : MS} {g : MG} {lk : List Nat} {σ : St} {H : Hp} {Dn : Ends}
end
section
variable {X : Cx} {K : PySem.W.Frag} {p p1 p2 q : Bool} {J : Jd} {ds ds0 ds1 ds2 ds' dsi dps : List Nat} {d d' d1 d2 dr : Nat} {a b c e tg iter : Expr} {es : List Expr} {st : Stmt} {rest body bodyB : List Stmt} {f f1 f2 fk fe : ME} {c1 c2 : MT} {fa : MA} {sh : Sh} {pos px : Pos} {i : Nat} {x : Str} {m m1 m2 : MS} {g : MG} {gs : List D → En → Option En} {fi : MI} {lk : List Nat}
theorem fss_nil : PSs X [] (tFS K J ds ds sNil) := pss_nil.imp fun _ _ _ => fs_nil
theorem fss_cons (h1 : PS X st (tFS K J ds ds1 m1)) (h2 : PSs X rest (tFS K J ds1 ds2 m2)) : PSs X (st :: rest) (tFS K J ds ds2 (sSeq m1 m2)) := (pss_cons h1 h2).imp fun _ _ _ => fs_seq
theorem fss_one (h1 : PS X st (tFS K J ds ds1 m1)) : PSs X [st] (tFS K J ds ds1 m1) := pss_one h1
theorem fss_sub (h : PSs X rest (tFS K J ds ds2 m)) (hd : leD ds1 ds2 = true) : PSs X rest (tFS K J ds ds1 m) := h.imp fun _ _ _ => fs_sub hd
theorem fps_exp (he : PE X e (tF K false ds ds1 d f)) (hs : swapsWith e none pos.line X.env = pure false) : PS X (.Expr e pos) (tFS K J ds ds1 (sExp f)) := (ps_expr he hs).imp fun _ _ _ => fs_exp
theorem fps_ret (he : PE X e (tF K false ds ds1 J.dr f)) (hd : leD J.dsr ds1 = true) : PS X (.Return (some e) pos) (tFS K J ds ds' (sRet f)) := (ps_ret he).imp fun _ _ _ => fs_ret hd
theorem fps_if (hc : PT X c (tFT K false ds ds1 c1)) (ha : PSs X body (tFS K J ds1 ds2 m1)) (hb : PSs X bodyB (tFS K J ds1 ds2 m2)) : PS X (.If c body bodyB pos) (tFS K J ds ds2 (sIf c1 m1 m2)) := (ps_if hc ha hb).imp fun _ _ _ => fs_if
theorem fps_set {x : Str} {pos' : Pos} (hN : X.N.Nodup) (hi : X.N[i]? = some x) (hx : Loc X.env.scope x) (he : PE X e (tF K false ds ds1 d f)) (hds : ds1.set i d = ds') (hl : i < ds1.length) (hk : i ∉ J.lk)
    (hs : swapsWith e (some (.Name x pos')) pos.line X.env = pure false) (hf : X.fn x = true ∨ X.env.scope.names.lookup x = some .local) :
    PS X (.Assign [.Name x pos'] e pos) (tFS K J ds ds' (sSet i f)) := by
  subst hds
  exact (ps_set hN hi hx he hs hf).imp fun _ _ _ => fs_set hl hk
theorem fps_setL {c : Nat} {x : Str} {spos : Pos} {k : Expr} (hN : X.N[i]? = some x) (hv : Vis X.env.scope x) (he : PE X e (tF K false ds ds1 c fe)) (hk : PE X k (tF K false ds1 ds2 d2 fk)) (h1 : ds2[i]? = some d) (hz : d ≠ 0) (hc : dn d = c)
    (hdb : (x == ("__debug__" : Str)) = false) (hcd : (x == ("__classdict__" : Str)) = false)
    (ha : ∀ v, assign (.Subscript (.Name x px) k spos) X.env v = (do
      let ov ← holding [v] (eval (.Name x px) X.env)
      let iv ← holding [v, ov] (eval k X.env)
      standAt spos
      holding [v, ov, iv] (setItem ov iv v)
      release [v, ov, iv] []))
    (hs : swapsWithSole [.Subscript (.Name x px) k spos] e pos.line X.env = pure false) (hw : swappedStores [.Subscript (.Name x px) k spos] e X.env = pure none)
    (h2 : (assignEach [.Subscript (.Name x px) k spos] X.env).map (·.2) = [assign (.Subscript (.Name x px) k spos) X.env]) :
    PS X (.Assign [.Subscript (.Name x px) k spos] e pos) (tFS K J ds ds2 (sSetL i fk fe)) :=
  (ps_asg he (pg_sub (pe_var hN hv hdb hcd) hk set_list ha) hs hw h2).imp fun _ _ _ => fs_setL h1 hz hc
theorem fg_name' {x : Str} (hN : X.N.Nodup) (hi : X.N[i]? = some x) (hx : Loc X.env.scope x) (hds : ds.set i 0 = ds') (hl : i < ds.length) (hk : i ∉ lk) (hf : X.fn x = true ∨ X.env.scope.names.lookup x = some .local) :
    PG X (.Name x pos) (tFG K lk ds ds' (gN i)) := by
  subst hds
  exact (pg_name hN hi hx hf).imp fun _ _ _ _ => fg_name hl hk
theorem fgs_nil' : PGs X [] (tFGs K lk ds ds gs0) := pgs_nil.imp fun _ _ _ _ => fgs_nil
theorem fgs_cons' (h1 : PG X e (tFG K lk ds ds1 g)) (h2 : PGs X es (tFGs K lk ds1 ds2 gs)) (hs : (assignEach (e :: es) X.env).map (·.2) = assign e X.env :: (assignEach es X.env).map (·.2)) : PGs X (e :: es) (tFGs K lk ds ds2 (gsC g gs)) := (pgs_cons h1 h2 hs).imp fun _ _ _ _ => fgs_cons
theorem gs_len2 {g1 g2 : MG} : ∀ ts en, (∃ en', gsC g1 (gsC g2 gs0) ts en = some en') → ts.length = 2 := fun ts en ⟨en', h⟩ => by
  match ts, h with
  | [], h => cases h
  | [_], h =>
    obtain ⟨_, _, h⟩ := Option.bind_eq_some_iff.mp h
    cases h
  | [_, _], _ => rfl
  | a :: b :: c :: r, h =>
    obtain ⟨_, _, h⟩ := Option.bind_eq_some_iff.mp h
    obtain ⟨_, _, h⟩ := Option.bind_eq_some_iff.mp h
    cases h
theorem fg_tup' {k n : Nat} (hK : X.K = K) (hc : X.calm = true) (h : PGs X es (tFGs K lk ds ds1 gs)) (hl : ∀ ts en, (∃ en', gs ts en = some en') → ts.length = n) (hn : (assignEach es X.env).length = n) (hst : (assignEach es X.env).findIdx? (·.1) = none) :
    PG X (.Tuple es k pos) (tFG K lk ds ds1 (gT gs)) := by
  subst hK
  exact (pg_tup hc h hn hst).imp fun _ _ _ _ => fg_tup hl
theorem fps_for (hc : X.calm = true) (hi : PI X tg iter (tFI K false ds ds1 fi)) (hg : PG X tg (tFG K J.lk ds1 ds2 g)) (hb : PSs X body (tFS K { J with dsl := ds1 } ds2 ds1 m)) (hp : PassesOwn (model X.prog X.w) X.A X.env X.xe)
    (hs : ∀ x, foldedSetIterable iter X.env x = pure x) : PS X (.For tg iter body [] pos) (tFS K J ds ds1 (sFor fi g m)) := (ps_for hp hc hi hg hb hs).imp fun _ _ _ => fs_for
end
def seqOf : D → Option (List D)
  | .list ts => some ts
  | .tuple ts => some ts
  | .str z => some ((li z).map fun c => .str (mk1 c))
  | _ => none
def iAny (f : ME) : MI := fun en => (f en).bind fun r => (seqOf r.1).map fun ts => (ts, r.2)
section
variable {K : PySem.W.Frag} {O O1 : AS} {H0 H : Hp} {ts : List D} {vs : List V} {a : Addr} {F : AS}
theorem walk_mv {O O1 : AS} (h1 : ∀ a o, H0 a = some o → ¬ O a → H a = some o) (h2 : ∀ a, O1 a → O a ∨ H0 a = none) : Mv O O1 NoA H0 H := ⟨fun a o q z => z.elim (h1 a o q) fun z => z.elim, h2⟩
theorem walk_list (h : FzL K O H0 a vs) (ho : Ows K O H0 ts 0 vs NoA) : Walk K O H0 (Itl K a) ts := fun i H O1 h1 h2 h3 => by
  have sq := (h.mv (walk_mv h1 h2)).sq
  refine ⟨fun t ht => ?_, fun hl => ⟨vs, sq, by rw [ho.len]; omega⟩⟩
  obtain ⟨v, hv, ov⟩ := ho.get ht
  refine ⟨⟨vs, v, sq, hv⟩, fun x H1 ⟨e, y⟩ => ?_⟩
  subst e
  have e2 := y vs sq
  rw [hv] at e2
  cases e2
  exact ⟨fun _ _ q => q, Ow.mv (walk_mv h1 h2) t (fun _ z => z) ov⟩
theorem walk_tup (h : FzT K O H0 a vs) (ho : Ows K O H0 ts 0 vs NoA) : Walk K O H0 (Itt K a) ts := fun i H O1 h1 h2 h3 => by
  have sq := (h.mv (walk_mv h1 h2)).sq
  refine ⟨fun t ht => ?_, fun hl => ⟨vs, sq, by rw [ho.len]; omega⟩⟩
  obtain ⟨v, hv, ov⟩ := ho.get ht
  refine ⟨⟨vs, v, sq, hv⟩, fun x H1 ⟨e, y⟩ => ?_⟩
  subst e
  have e2 := y vs sq
  rw [hv] at e2
  cases e2
  exact ⟨fun _ _ q => q, Ow.mv (walk_mv h1 h2) t (fun _ z => z) ov⟩
theorem walk_str {z : Str} : Walk K O H0 (Its z) ((li z).map fun c => .str (mk1 c)) := fun i H O1 h1 h2 h3 => by
  refine ⟨fun t ht => ?_, fun hl => ?_⟩
  · rw [List.getElem?_map] at ht
    obtain ⟨c, hc, e⟩ := Option.map_eq_some_iff.mp ht
    have hi : i < z.cps.size := by
      have := (List.getElem?_eq_some_iff.mp hc).1
      simpa [li] using this
    have hc' : z.cps[i]? = some c := by
      have : z.cps.toList[i]? = some c := hc
      simpa using this
    refine ⟨hi, fun x H1 ⟨e1, c', e2, e3⟩ => ?_⟩
    subst e1 e e3
    rw [hc'] at e2
    cases e2
    exact ⟨fun _ _ q => q, rfl⟩
  · have : z.cps.size = i := by
      rw [List.length_map] at hl
      simpa [li] using hl
    show z.cps.size ≤ i
    omega
theorem walk_rng {lo : Int} {n : Nat} : Walk K O H0 (Itr lo n) ((List.range n).map fun k => .int (lo + (k : Nat))) := fun i H O1 h1 h2 h3 => by
  refine ⟨fun t ht => ?_, fun hl => ?_⟩
  · rw [List.getElem?_map] at ht
    obtain ⟨c, hc, e⟩ := Option.map_eq_some_iff.mp ht
    have hi := (List.getElem?_eq_some_iff.mp hc).1
    rw [List.length_range] at hi
    rw [List.getElem?_range hi] at hc
    cases hc
    refine ⟨hi, fun x H1 ⟨e1, e2⟩ => ?_⟩
    subst e1 e e2
    exact ⟨fun _ _ q => q, rfl⟩
  · rw [List.length_map, List.length_range] at hl
    show n ≤ i
    omega
theorem ow_pair {t : D} {v : V} {i : Nat} {p : Addr} (hp : H p = none) (h3 : ∀ a, O1 a → ∃ o, H a = some o) (ov : Ow K O1 H t 0 v NoA) : (∀ a o, H a = some o → upd H p (.tup [.int i, v]) a = some o) ∧ Ow K O1 (upd H p (.tup [.int (i : Nat), v])) (.tuple [.int i, t]) 0 (.ref p) NoA := by
  have g := (new_upd (o := .tup [.int i, v]) hp).1
  refine ⟨g, p, [.int i, v], rfl, .inl ⟨rfl, ⟨upd_same, fun z => ?_⟩, .int i, [v], NoA, NoA, rfl, fun _ z => z, fun _ z => z, fun _ z => z.elim, rfl, v, [], NoA, NoA, rfl, fun _ z => z, fun _ z => z, fun _ z => z.elim, ?_, rfl⟩⟩
  · obtain ⟨o, q⟩ := h3 p z
    rw [hp] at q
    cases q
  · exact Ow.mv (G := NoA) ⟨fun a o q _ => g a o q, fun a z => .inl z⟩ t (fun _ z => z) ov
def enumD (ts : List D) : List D := ts.zipIdx.map fun p => .tuple [.int (p.2 : Nat), p.1]
theorem enumD_get {i : Nat} {u : D} (h : (enumD ts)[i]? = some u) : ∃ t, ts[i]? = some t ∧ u = .tuple [.int (i : Nat), t] := by
  unfold enumD at h
  rw [List.getElem?_map] at h
  obtain ⟨⟨t, k⟩, h1, h2⟩ := Option.map_eq_some_iff.mp h
  rw [List.getElem?_zipIdx] at h1
  obtain ⟨t', h3, h4⟩ := Option.map_eq_some_iff.mp h1
  cases h4
  refine ⟨t, h3, ?_⟩
  rw [← h2, Nat.zero_add]
theorem enumD_len : (enumD ts).length = ts.length := by unfold enumD; rw [List.length_map, List.length_zipIdx]
theorem walk_enum (h : FzL K O H0 a vs) (ho : Ows K O H0 ts 0 vs NoA) : Walk K O H0 (Ite K a) (enumD ts) := fun i H O1 h1 h2 h3 => by
  have sq := (h.mv (walk_mv h1 h2)).sq
  refine ⟨fun u hu => ?_, fun hl => ⟨vs, sq, by rw [enumD_len] at hl; rw [ho.len]; omega⟩⟩
  obtain ⟨t, ht, rfl⟩ := enumD_get hu
  obtain ⟨v, hv, ov⟩ := ho.get ht
  refine ⟨⟨vs, v, sq, hv⟩, fun x H1 ⟨p, v', e1, hp, e2, y⟩ => ?_⟩
  have e3 := y vs sq
  rw [hv] at e3
  cases e3
  subst e1 e2
  exact ow_pair hp h3 (Ow.mv (walk_mv h1 h2) t (fun _ z => z) ov)
theorem walk_enumT (h : FzT K O H0 a vs) (ho : Ows K O H0 ts 0 vs NoA) : Walk K O H0 (ItT K a) (enumD ts) := fun i H O1 h1 h2 h3 => by
  have sq := (h.mv (walk_mv h1 h2)).sq
  refine ⟨fun u hu => ?_, fun hl => ⟨vs, sq, by rw [enumD_len] at hl; rw [ho.len]; omega⟩⟩
  obtain ⟨t, ht, rfl⟩ := enumD_get hu
  obtain ⟨v, hv, ov⟩ := ho.get ht
  refine ⟨⟨vs, v, sq, hv⟩, fun x H1 ⟨p, v', e1, hp, e2, y⟩ => ?_⟩
  have e3 := y vs sq
  rw [hv] at e3
  cases e3
  subst e1 e2
  exact ow_pair hp h3 (Ow.mv (walk_mv h1 h2) t (fun _ z => z) ov)
end
def iRng1f (fa : MA) : MI := fun en => (fa en).bind fun r => match r.1 with
  | [.inl (.int j)] => if -(2 ^ 62) ≤ j ∧ j < 2 ^ 62 then some ((List.range j.toNat).map fun k => .int (0 + (k : Nat)), r.2) else none
  | _ => none
def iEnumf (fa : MA) : MI := fun en => (fa en).bind fun r => match r.1 with
  | [.inl (.list ts)] => some (enumD ts, r.2)
  | [.inl (.tuple ts)] => some (enumD ts, r.2)
  | _ => none
section
variable {X : Cx} {K : PySem.W.Frag} {p : Bool} {ds ds1 : List Nat} {d : Nat} {e tg l : Expr} {f : ME} {fa : MA} {sh : Sh}
theorem fi_any (hK : X.K = K) (hl : PE X l (tF K p ds ds1 d f)) : PI X tg l (tFI K p ds ds1 (iAny f)) := by
  subst hK
  intro pins s σ H R I h
  obtain ⟨Ox, en, Rg, ts, en', e, hf, k⟩ := h
  unfold iAny at hf
  obtain ⟨⟨t, en1⟩, h1, hf⟩ := Option.bind_eq_some_iff.mp hf
  obtain ⟨ts', h2, hf⟩ := Option.map_eq_some_iff.mp hf
  cases hf
  refine thn (hl pins s σ H (fun v H1 => ∃ R1, Post X.K p ds1 Ox σ H en Rg en1 H1 R1 NoA ∧ Ow X.K (Own R1 Ox) H1 t 0 v NoA) I ⟨Ox, en, Rg, t, en1, e, h1, fun v H1 R1 F P o => ⟨R1, P.less fun _ z => z.elim, Ow.letgo P (fun _ z => z) o⟩⟩) fun v s1 ⟨x, H1, I1, r1, R1, P, o⟩ => ?_
  cases t with
  | list ts0 =>
    cases h2
    obtain ⟨a, vs, e1, ⟨_, fz, ow⟩ | ⟨z, _⟩⟩ := o
    · subst e1
      cases r1
      obtain ⟨its, rv, pl, hz⟩ := I1.list fz.sq
      refine wpAny_pyIter_list pl.isList ?_
      refine ⟨s1.heap.objs.size, [s1.heap.objs.size], _, _, H1, rfl, I1.kept (t' := s1.toks) fun b o e => Heap.get?_push_of_some _ e, turn_list a _, ⟨_, Heap.get?_push_size _ rfl, rfl, rfl⟩, fun b hb => ?_, k _ H1 R1 P (walk_list fz ow)⟩
      have e : b = s1.heap.objs.size := by simpa using hb
      subst e
      exact I1.fpOk (Nat.le_refl _) (I1.hok.fresh (Nat.le_refl _))
    · exact absurd rfl z
  | tuple ts0 =>
    cases h2
    obtain ⟨a, vs, e1, ⟨_, fz, ow⟩ | ⟨z, _⟩⟩ := o
    · subst e1
      cases r1
      obtain ⟨its, rv, pl, hz⟩ := I1.tuple fz.sq
      refine wpAny_pyIter_tuple (show s1.heap.IsTuple a its.toArray from pl) ?_
      refine ⟨s1.heap.objs.size, [s1.heap.objs.size], _, _, H1, rfl, I1.kept (t' := s1.toks) fun b o e => Heap.get?_push_of_some _ e, turn_tuple a _, ⟨_, Heap.get?_push_size _ rfl, rfl, rfl⟩, fun b hb => ?_, k _ H1 R1 P (walk_tup fz ow)⟩
      have e : b = s1.heap.objs.size := by simpa using hb
      subst e
      exact I1.fpOk (Nat.le_refl _) (I1.hok.fresh (Nat.le_refl _))
    · exact absurd rfl z
  | str z =>
    cases h2
    have e1 : x = .str z := o
    subst e1
    obtain ⟨t, rfl⟩ := r1
    have fin : ∀ (ty : String) (o : Obj), (ty = "str_ascii_iterator" ∨ ty = "str_iterator") → (s1.heap.push o).IsStrIter s1.heap.objs.size ty z t 0 → PIE X pins σ tg R (.ref s1.heap.objs.size) { s1 with heap := s1.heap.push o } := fun ty o hty st => by
      refine ⟨s1.heap.objs.size, [s1.heap.objs.size], _, _, H1, rfl, I1.kept (t' := s1.toks) fun b o e => Heap.get?_push_of_some _ e, turn_str _ z t ty hty, st, fun b hb => ?_, k _ H1 R1 P walk_str⟩
      have e : b = s1.heap.objs.size := by simpa using hb
      subst e
      exact I1.fpOk (Nat.le_refl _) (I1.hok.fresh (Nat.le_refl _))
    cases ha : z.cps.all (· < 128)
    · exact wpAny_pyIter_wide ha (fin _ _ (.inr rfl) ⟨_, Heap.get?_push_size _ rfl, rfl, rfl⟩)
    · exact wpAny_pyIter_ascii ha (fin _ _ (.inl rfl) ⟨_, Heap.get?_push_size _ rfl, rfl, rfl⟩)
  | _ => cases h2
theorem fi_rng1 {a : Expr} {px pos : Pos} (hg : Gl X "range") (hm : X.mg "range" = none) (ha : PA X [a] (tFA K p ds ds1 sh fa)) (hs : notStar a = true) : PI X tg (.Call (.Name "range" px) [a] [] pos) (tFI K p ds ds1 (iRng1f fa)) :=
  (pi_range1 hg hm ha (star_cons hs)).imp fun σ H R ⟨Ox, en, Rg, ts, en', e, hf, k⟩ => by
    unfold iRng1f at hf
    obtain ⟨⟨as, en1⟩, h1, hf⟩ := Option.bind_eq_some_iff.mp hf
    refine ⟨Ox, en, Rg, as, en1, e, h1, fun vs H1 R1 F P o => ?_⟩
    dsimp only at hf
    split at hf
    case h_2 => cases hf
    next j =>
    by_cases hj : -(2 ^ 62) ≤ j ∧ j < 2 ^ 62
    case neg => rw [if_neg hj] at hf; cases hf
    rw [if_pos hj] at hf
    cases hf
    obtain ⟨v, r, d, dr, F1, F2, e1, e2, _, _, _, o1, o2⟩ := o
    obtain ⟨_, o2⟩ := o2
    subst e1 o2
    have ev : v = .int j := o1
    subst ev
    exact ⟨j, rfl, hj.1, hj.2, k _ H1 R1 (P.less fun _ z => z.elim) walk_rng⟩
theorem fi_enum {px pos : Pos} {elts : List Expr} {k : Nat} {tp : Pos} (hK : X.K = K) (hg : Gl X "enumerate") (hm : X.mg "enumerate" = none) (ha : PA X [l] (tFA K p ds ds1 sh fa)) (hs : starEach [l] X.env = [(false, eval l X.env)]) :
    PI X (.Tuple elts k tp) (.Call (.Name "enumerate" px) [l] [] pos) (tFI K p ds ds1 (iEnumf fa)) := by
  subst hK
  intro pins s σ H R I h
  obtain ⟨Ox, en, Rg, ts, en', e, hf, k⟩ := h
  unfold iEnumf at hf
  obtain ⟨⟨as, en1⟩, h1, hf⟩ := Option.bind_eq_some_iff.mp hf
  refine Call_ (ld_blt I hg hm boot_enumerate (PyProof.Rows.callWith_type1 (thn (ha pos pins s σ H (fun vs H1 => ∃ R1 t v, as = [.inl t] ∧ vs = [v] ∧ Post X.K p ds1 Ox σ H en Rg en1 H1 R1 NoA ∧ Ow X.K (Own R1 Ox) H1 t 0 v NoA) I ⟨Ox, en, Rg, as, en1, e, h1, fun vs H1 R1 F P o => ?_⟩) fun us s1 ⟨vs, H1, I1, r1, R1, t, v, ea, ev, P, o⟩ => ?_) hs rfl))
  · have one : ∃ t, as = [.inl t] := by
      dsimp only at hf
      split at hf
      · exact ⟨_, rfl⟩
      · exact ⟨_, rfl⟩
      · cases hf
    obtain ⟨t, rfl⟩ := one
    obtain ⟨v, r, d, dr, F1, F2, e1, e2, s1, _, _, o1, o2⟩ := o
    obtain ⟨_, o2⟩ := o2
    subst o2
    exact ⟨R1, t, v, rfl, e1, P.less fun _ z => z.elim, Ow.letgo P s1 o1⟩
  subst ea ev
  obtain ⟨u, rfl, ru⟩ := vals1 r1
  cases t with
  | list ts0 =>
    cases hf
    obtain ⟨a, vs, e1, ⟨_, fz, ow⟩ | ⟨z, _⟩⟩ := o
    · subst e1
      cases ru
      obtain ⟨its, rv, pl, hz⟩ := I1.list fz.sq
      refine call_enumerate_list pl.isList fun h' hE hI hsz hk => ?_
      refine wpAny_pyIter_enum hE ?_
      have I2 : Inv X pins σ H1 { s1 with heap := h' } := I1.kept (t' := s1.toks) hk
      refine ⟨s1.heap.objs.size + 1, [s1.heap.objs.size + 1, s1.heap.objs.size], _, _, H1, rfl, I2, turn_enum a _ _ (Nat.succ_ne_self _), ⟨⟨_, hE⟩, hI⟩, fun b hb => ?_, k _ H1 R1 P (walk_enum fz ow)⟩
      have hb' : b = s1.heap.objs.size + 1 ∨ b = s1.heap.objs.size := by simpa using hb
      rcases hb' with rfl | rfl
      · exact I1.fpOk (Nat.le_succ _) (I1.hok.fresh (Nat.le_succ _))
      · exact I1.fpOk (Nat.le_refl _) (I1.hok.fresh (Nat.le_refl _))
    · exact absurd rfl z
  | tuple ts0 =>
    cases hf
    obtain ⟨a, vs, e1, ⟨_, fz, ow⟩ | ⟨z, _⟩⟩ := o
    · subst e1
      cases ru
      obtain ⟨its, rv, pt, hz⟩ := I1.tuple fz.sq
      have hT : s1.heap.IsTuple a its.toArray := pt
      have hlt : a < s1.heap.objs.size := by
        obtain ⟨o, e1, _⟩ := id hT
        exact Heap.lt_size e1
      refine call_enum_tup hT fun h' hE hI hsz hk => ?_
      refine wpAny_pyIter_enum hE ?_
      have I2 : Inv X pins σ H1 { s1 with heap := h' } := I1.kept (t' := s1.toks) hk
      refine ⟨s1.heap.objs.size + 1, [s1.heap.objs.size + 1, s1.heap.objs.size], _, _, H1, rfl, I2, turn_enumT a _ _ (Nat.succ_ne_self _) (Nat.ne_of_lt hlt), ⟨⟨_, hE⟩, hI⟩, fun b hb => ?_, k _ H1 R1 P (walk_enumT fz ow)⟩
      have hb' : b = s1.heap.objs.size + 1 ∨ b = s1.heap.objs.size := by simpa using hb
      rcases hb' with rfl | rfl
      · exact I1.fpOk (Nat.le_succ _) (I1.hok.fresh (Nat.le_succ _))
      · exact I1.fpOk (Nat.le_refl _) (I1.hok.fresh (Nat.le_refl _))
    · exact absurd rfl z
  | _ => cases hf
end
end L2
set_option Elab.async false
set_option linter.all false
set_option maxRecDepth 100000
set_option maxHeartbeats 4000000
namespace L2
open PySem PySem.Spec PyProof.Rows
theorem NewTo.refl {H : Hp} : NewTo H H NoA := ⟨fun _ _ q => q, fun _ z => z.elim⟩
theorem OpR.imp {X : Cx} {fn : Value → Value → Sem Value} {r r' : R2} (h : OpR X fn r) (hi : ∀ x y H Q, r' x y H Q → r x y H Q) : OpR X fn r' := fun pins s σ H x y v u Q I rx ry q => h pins s σ H x y v u Q I rx ry (hi _ _ _ _ q)
theorem OpR.or' {X : Cx} {fn : Value → Value → Sem Value} {r r' : R2} (h : OpR X fn r) (h' : OpR X fn r') : OpR X fn (fun x y H Q => r x y H Q ∨ r' x y H Q) := fun pins s σ H x y v u Q I rx ry q => q.elim (h pins s σ H x y v u Q I rx ry) (h' pins s σ H x y v u Q I rx ry)
theorem UnR.imp {X : Cx} {fn : Value → Sem Value} {r r' : V → Hp → VK → Prop} (h : UnR X fn r) (hi : ∀ x H Q, r' x H Q → r x H Q) : UnR X fn r' := fun pins s σ H x v Q I rx q => h pins s σ H x v Q I rx (hi _ _ _ q)
theorem CallR.imp {X : Cx} {fn : Value} {r r' : List V → Hp → VK → Prop} (h : CallR X fn r) (hi : ∀ x H Q, r' x H Q → r x H Q) : CallR X fn r' := fun pins s σ H x v Q I rx q => h pins s σ H x v Q I rx (hi _ _ _ q)
theorem CallR.or' {X : Cx} {fn : Value} {r r' : List V → Hp → VK → Prop} (h : CallR X fn r) (h' : CallR X fn r') : CallR X fn (fun x H Q => r x H Q ∨ r' x H Q) := fun pins s σ H x v Q I rx q => q.elim (h pins s σ H x v Q I rx) (h' pins s σ H x v Q I rx)
theorem IxR.imp {X : Cx} {r r' : R2} (h : IxR X r) (hi : ∀ x y H Q, r' x y H Q → r x y H Q) : IxR X r' := fun value slice pins s σ H x y v u Q I rx ry q => h value slice pins s σ H x y v u Q I rx ry (hi _ _ _ _ q)
section
variable {X : Cx} {K : PySem.W.Frag} {O : AS} {H : Hp} {ts us : List D} {vs ws : List V} {x y : V} {d : Nat} {Q : VK}
theorem ow_newL {l : Addr} (hl : H l = none) (hd : ∀ a, O a → ∃ o, H a = some o) (h : Ows K O H ts 0 vs NoA) : NewTo H (upd H l (.lst vs)) (fun b => b = l) ∧ Ow K (U (fun b => b = l) O) (upd H l (.lst vs)) (.list ts) 1 (.ref l) (fun b => b = l) := by
  refine ⟨new_upd hl, l, vs, rfl, .inr ⟨by decide, upd_same, rfl, NoA, fun _ z => z.elim, ?_⟩⟩
  refine Ows.mv (G := NoA) ⟨fun a o q _ => (new_upd (o := .lst vs) hl).1 a o q, fun a z => ?_⟩ ts (fun _ z => z) h
  rcases z with z | z
  · exact .inr (by rw [show a = l from z]; exact hl)
  · exact .inl z
theorem ow_newT {l : Addr} (hl : H l = none) (hd : ∀ a, O a → ∃ o, H a = some o) (h : Ows K O H ts 0 vs NoA) : NewTo H (upd H l (.tup vs)) NoA ∧ Ow K (U NoA O) (upd H l (.tup vs)) (.tuple ts) 0 (.ref l) NoA := by
  refine ⟨⟨(new_upd hl).1, fun _ z => z.elim⟩, l, vs, rfl, .inl ⟨rfl, ⟨upd_same, fun z => ?_⟩, ?_⟩⟩
  · rcases z with z | z
    · exact z
    · obtain ⟨o, q⟩ := hd l z
      rw [hl] at q
      cases q
  · refine Ows.mv (G := NoA) ⟨fun a o q _ => (new_upd (o := .tup vs) hl).1 a o q, fun a z => ?_⟩ ts (fun _ z => z) h
    rcases z with z | z
    · exact z.elim
    · exact .inl z
theorem Ows.app : ∀ {ts : List D} {vs : List V}, Ows K O H ts 0 vs NoA → Ows K O H us 0 ws NoA → Ows K O H (ts ++ us) 0 (vs ++ ws) NoA
  | [], _, h, h2 => by rw [show _ = [] from h]; exact h2
  | t :: ts, _, h, h2 => by
    obtain ⟨v, r, F1, F2, e, _, _, _, h4, h5⟩ := h
    subst e
    exact ⟨v, r ++ ws, NoA, NoA, rfl, fun _ z => z, fun _ z => z, fun _ z => z.elim, Ow.any0 t h4, Ows.app (Ows.any0 ts h5) h2⟩
theorem Ows.drop : ∀ {ts : List D} {vs : List V} (n : Nat), Ows K O H ts 0 vs NoA → Ows K O H (ts.drop n) 0 (vs.drop n) NoA
  | ts, vs, 0, h => h
  | [], _, n + 1, h => by rw [show _ = [] from h]; rfl
  | t :: ts, _, n + 1, h => by
    obtain ⟨v, r, F1, F2, e, _, _, _, h4, h5⟩ := h
    subst e
    exact Ows.drop n (Ows.any0 ts h5)
theorem Ows.take : ∀ {ts : List D} {vs : List V} (n : Nat), Ows K O H ts 0 vs NoA → Ows K O H (ts.take n) 0 (vs.take n) NoA
  | ts, vs, 0, h => rfl
  | [], _, n + 1, h => by rw [show _ = [] from h]; rfl
  | t :: ts, _, n + 1, h => by
    obtain ⟨v, r, F1, F2, e, _, _, _, h4, h5⟩ := h
    subst e
    exact ⟨v, r.take n, NoA, NoA, rfl, fun _ z => z, fun _ z => z, fun _ z => z.elim, Ow.any0 t h4, Ows.take n (Ows.any0 ts h5)⟩
theorem Ow.lst0 {v : V} (h : Ow K O H (.list ts) 0 v NoA) : ∃ a vs, v = .ref a ∧ FzL K O H a vs ∧ Ows K O H ts 0 vs NoA := by
  obtain ⟨a, vs, e, ⟨_, h1, h2⟩ | ⟨z, _⟩⟩ := h
  · exact ⟨a, vs, e, h1, h2⟩
  · exact absurd rfl z
theorem Ow.tup0 {v : V} (h : Ow K O H (.tuple ts) 0 v NoA) : ∃ a vs, v = .ref a ∧ FzT K O H a vs ∧ Ows K O H ts 0 vs NoA := by
  obtain ⟨a, vs, e, ⟨_, h1, h2⟩ | ⟨z, _⟩⟩ := h
  · exact ⟨a, vs, e, h1, h2⟩
  · exact absurd rfl z
theorem Ows.one {t : D} (h : Ows K O H [t] 0 vs NoA) : ∃ v, vs = [v] ∧ Ow K O H t 0 v NoA := by
  obtain ⟨v, r, F1, F2, e, _, _, _, h4, h5⟩ := h
  rw [show r = [] from h5] at e
  exact ⟨v, e, Ow.any0 t h4⟩
theorem Ows.two {t t2 : D} (h : Ows K O H [t, t2] 0 vs NoA) : ∃ v w, vs = [v, w] ∧ Ow K O H t 0 v NoA ∧ Ow K O H t2 0 w NoA := by
  obtain ⟨v, r, F1, F2, e, _, _, _, h4, h5⟩ := h
  obtain ⟨w, e2, h6⟩ := Ows.one (Ows.any0 [t2] h5)
  subst e2
  exact ⟨v, w, e, Ow.any0 t h4, h6⟩
def addS : D → D → Option D
  | .int a, .int b => some (.int (a + b))
  | .str a, .str b => if a.length + b.length ≤ sizeLine then some (.str (a ++ b)) else none
  | _, _ => none
theorem fo_add : OpR X (binaryOp .Add) (rF2 K addS 3) := (op_add.or' op_add_str).imp fun x y H Q ⟨O, a, b, t, oa, ob, hd, hg, k⟩ => by
  cases a with
  | int i => cases b with
    | int j => cases hg; exact .inl ⟨i, j, oa, ob, k _ H NoA .refl rfl⟩
    | _ => cases hg
  | str i => cases b with
    | str j =>
      dsimp only [addS] at hg
      by_cases hl : i.length + j.length ≤ sizeLine
      · rw [if_pos hl] at hg; cases hg; exact .inr ⟨i, j, oa, ob, hl, k _ H NoA .refl rfl⟩
      · rw [if_neg hl] at hg; cases hg
    | _ => cases hg
  | _ => cases hg
def int2 (g : Int → Int → Option D) : D → D → Option D
  | .int a, .int b => g a b
  | _, _ => none
theorem int2_get {g : Int → Int → Option D} {a b t : D} (h : int2 g a b = some t) : ∃ i j, a = .int i ∧ b = .int j ∧ g i j = some t := by
  cases a with
  | int i => cases b with
    | int j => exact ⟨i, j, rfl, rfl, h⟩
    | _ => cases h
  | _ => cases h
def subI : D → D → Option D := int2 fun a b => some (.int (a - b))
theorem fo_sub : OpR X (binaryOp .Sub) (rF2 K subI 3) := op_sub.imp fun x y H Q ⟨O, a, b, t, oa, ob, hd, hg, k⟩ => by
  obtain ⟨i, j, rfl, rfl, h⟩ := int2_get hg
  cases h
  exact ⟨i, j, oa, ob, k _ H NoA .refl rfl⟩
instance (i j : Int) : Decidable (CMul i j) := by unfold CMul; exact inferInstance
instance (i j : Int) : Decidable (CDiv i j) := by unfold CDiv; exact inferInstance
instance (i j : Int) : Decidable (CPow i j) := by unfold CPow; exact inferInstance
def mulI : D → D → Option D := int2 fun a b => if CMul a b then some (.int (a * b)) else none
theorem fo_mul : OpR X (binaryOp .Mult) (rF2 K mulI 3) := op_mul.imp fun x y H Q ⟨O, a, b, t, oa, ob, hd, hg, k⟩ => by
  obtain ⟨i, j, rfl, rfl, h⟩ := int2_get hg
  by_cases hc : CMul i j
  · rw [if_pos hc] at h; cases h; exact ⟨i, j, oa, ob, hc, k _ H NoA .refl rfl⟩
  · rw [if_neg hc] at h; cases h
def fdivI : D → D → Option D := int2 fun a b => if CDiv a b then some (.int (a / b)) else none
theorem fo_fdiv : OpR X (binaryOp .FloorDiv) (rF2 K fdivI 3) := op_fdiv.imp fun x y H Q ⟨O, a, b, t, oa, ob, hd, hg, k⟩ => by
  obtain ⟨i, j, rfl, rfl, h⟩ := int2_get hg
  by_cases hc : CDiv i j
  · rw [if_pos hc] at h; cases h; exact ⟨i, j, oa, ob, hc, k _ H NoA .refl rfl⟩
  · rw [if_neg hc] at h; cases h
def modI : D → D → Option D := int2 fun a b => if 0 < b then some (.int (a % b)) else none
theorem fo_mod : OpR X (binaryOp .Mod) (rF2 K modI 3) := op_mod.imp fun x y H Q ⟨O, a, b, t, oa, ob, hd, hg, k⟩ => by
  obtain ⟨i, j, rfl, rfl, h⟩ := int2_get hg
  by_cases hc : 0 < j
  · rw [if_pos hc] at h; cases h; exact ⟨i, j, oa, ob, hc, k _ H NoA .refl rfl⟩
  · rw [if_neg hc] at h; cases h
def powI : D → D → Option D := int2 fun a b => if CPow a b then some (.int (a ^ b.toNat)) else none
theorem fo_pow : OpR X (binaryOp .Pow) (rF2 K powI 3) := op_pow.imp fun x y H Q ⟨O, a, b, t, oa, ob, hd, hg, k⟩ => by
  obtain ⟨i, j, rfl, rfl, h⟩ := int2_get hg
  by_cases hc : CPow i j
  · rw [if_pos hc] at h; cases h; exact ⟨i, j, oa, ob, hc, k _ H NoA .refl rfl⟩
  · rw [if_neg hc] at h; cases h
def ltI : D → D → Option D := int2 fun a b => some (.bool (decide (a < b)))
def leI : D → D → Option D := int2 fun a b => some (.bool (decide (a ≤ b)))
def gtI : D → D → Option D := int2 fun a b => some (.bool (decide (b < a)))
def geI : D → D → Option D := int2 fun a b => some (.bool (decide (b ≤ a)))
theorem fo_lt : OpR X (compareOp .Lt) (rF2 K ltI 3) := op_lt.imp fun x y H Q ⟨O, a, b, t, oa, ob, hd, hg, k⟩ => by
  obtain ⟨i, j, rfl, rfl, h⟩ := int2_get hg
  cases h
  exact ⟨i, j, oa, ob, k _ H NoA .refl rfl⟩
theorem fo_gt : OpR X (compareOp .Gt) (rF2 K gtI 3) := op_gt.imp fun x y H Q ⟨O, a, b, t, oa, ob, hd, hg, k⟩ => by
  obtain ⟨i, j, rfl, rfl, h⟩ := int2_get hg
  cases h
  exact ⟨i, j, oa, ob, k _ H NoA .refl rfl⟩
theorem fo_ge : OpR X (compareOp .GtE) (rF2 K geI 3) := op_ge.imp fun x y H Q ⟨O, a, b, t, oa, ob, hd, hg, k⟩ => by
  obtain ⟨i, j, rfl, rfl, h⟩ := int2_get hg
  cases h
  exact ⟨i, j, oa, ob, k _ H NoA .refl rfl⟩
def isNoneB : D → Bool
  | .none => true
  | _ => false
def notN : D → D → Option D
  | a, .none => some (.bool (!isNoneB a))
  | _, _ => none
def inSf : D → D → Option D
  | .str a, .str b => some (.bool (inText b a))
  | _, _ => none
def notInSf : D → D → Option D
  | .str a, .str b => some (.bool (!inText b a))
  | _, _ => none
theorem fo_inS : OpR X (compareOp .In) (rF2 K inSf 3) := op_inS.imp fun x y H Q ⟨O, a, b, t, oa, ob, hd, hg, k⟩ => by
  cases a with
  | str i => cases b with
    | str j => cases hg; exact ⟨i, j, oa, ob, k _ H NoA .refl rfl⟩
    | _ => cases hg
  | _ => cases hg
theorem fo_notInS : OpR X (compareOp .NotIn) (rF2 K notInSf 3) := op_notInS.imp fun x y H Q ⟨O, a, b, t, oa, ob, hd, hg, k⟩ => by
  cases a with
  | str i => cases b with
    | str j => cases hg; exact ⟨i, j, oa, ob, k _ H NoA .refl rfl⟩
    | _ => cases hg
  | _ => cases hg
def ixA : D → D → Option D
  | .list ts, .int n => atI ts n
  | .tuple ts, .int n => atI ts n
  | .str z, .int n => if z.length ≤ sizeLine then (atI z.cps.toList n).map fun c => .str (mk1 c) else none
  | _, _ => none
theorem fo_ix (hK : X.K = K) : IxR X (rF2 K ixA 0) := by
  subst hK
  refine ix_seq.imp fun x y H Q ⟨O, a, b, t, oa, ob, hd, hg, k⟩ => ?_
  cases b with
  | int n =>
    cases a with
    | list ts =>
      obtain ⟨a, vs, e, fz, ow⟩ := oa.lst0
      obtain ⟨v, h1, h2⟩ := ow.atI hg
      exact .inl ⟨a, vs, n, v, e, ob, fz.sq, h1, k v H NoA .refl (by rw [U_no]; exact h2)⟩
    | tuple ts =>
      obtain ⟨a, vs, e, fz, ow⟩ := oa.tup0
      obtain ⟨v, h1, h2⟩ := ow.atI hg
      exact .inr (.inl ⟨a, vs, n, v, e, ob, fz.sq, h1, k v H NoA .refl (by rw [U_no]; exact h2)⟩)
    | str z =>
      dsimp only [ixA] at hg
      by_cases hl : z.length ≤ sizeLine
      · rw [if_pos hl] at hg
        obtain ⟨c, h1, h2⟩ := Option.map_eq_some_iff.mp hg
        cases h2
        exact .inr (.inr ⟨z, n, c, oa, ob, hl, h1, k _ H NoA .refl rfl⟩)
      · rw [if_neg hl] at hg; cases hg
    | _ => cases hg
  | _ => cases a <;> cases hg
def ixT : D → D → Option D
  | .str z, .int n => if z.length ≤ sizeLine then (atI z.cps.toList n).map fun c => .str (mk1 c) else none
  | _, _ => none
theorem fo_ixT : IxR X (rF2 K ixT 3) := by
  refine ix_str.imp fun x y H Q ⟨O, a, b, t, oa, ob, hd, hg, k⟩ => ?_
  cases a with
  | str z => cases b with
    | int n =>
      dsimp only [ixT] at hg
      by_cases hl : z.length ≤ sizeLine
      · rw [if_pos hl] at hg
        obtain ⟨c, h1, h2⟩ := Option.map_eq_some_iff.mp hg
        cases h2
        exact ⟨z, n, c, oa, ob, hl, h1, k _ H NoA .refl rfl⟩
      · rw [if_neg hl] at hg; cases hg
    | _ => cases hg
  | _ => cases hg
def addL : D → D → Option D
  | .list a, .list b => if a.length + b.length ≤ sizeLine then some (.list (a ++ b)) else none
  | _, _ => none
end
end L2
set_option Elab.async false
set_option linter.all false
set_option maxRecDepth 100000
set_option maxHeartbeats 4000000
namespace L2
open PySem PySem.Spec PyProof.Rows
def grd {α : Type} (c : Prop) [Decidable c] (t : α) : Option α := if c then some t else none
theorem grd_some {α : Type} {c : Prop} [Decidable c] {t u : α} (h : grd c t = some u) : c ∧ t = u := by
  unfold grd at h
  by_cases hc : c
  · rw [if_pos hc] at h; exact ⟨hc, Option.some.inj h⟩
  · rw [if_neg hc] at h; cases h
section
variable {X : Cx} {K : PySem.W.Frag} {O : AS} {H : Hp} {ts us : List D} {vs ws : List V} {x y : V} {d : Nat} {Q : VK}
def rCatL (K : PySem.W.Frag) : R2 := fun x y H Q => ∃ l b xs zs, x = .ref l ∧ y = .ref b ∧ SqL K H l xs ∧ SqL K H b zs ∧ xs.length + zs.length ≤ sizeLine ∧ ∀ p, H p = none → Q (.ref p) (upd H p (.lst (xs ++ zs)))
theorem op_catL : OpR X (binaryOp .Add) (rCatL X.K) := by
  intro pins s σ H x y v u Q I rx ry h
  obtain ⟨l, b, xs, zs, rfl, rfl, hH, hB, hz, q⟩ := h
  cases rx
  cases ry
  obtain ⟨its, r, ⟨⟨c1, dd, da1, sl⟩, n, ho, hc, hdd, hda⟩, _⟩ := I.list hH
  obtain ⟨its2, r2, ⟨⟨c2, dd2, da2, sl2⟩, n2, ho2, hc2, hdd2, hda2⟩, _⟩ := I.list hB
  have hl := r.length
  have hl2 := r2.length
  simp only at hc hda hc2 hda2
  subst hc hda hc2 hda2
  refine concat_meets ⟨_, ho, rfl⟩ ⟨_, ho2, rfl⟩ noFill_list_add seq_list_add PySem.F.slot_list_add PySem.F.entry_list_add (PySem.F.args_list_add_2 _ _) (list_addW l b its.toArray its2.toArray n n2 dd dd2 sl sl2 (by simp only [List.size_toArray]; omega)) ⟨ho, ho2, ?_⟩
  have ea : its.toArray ++ its2.toArray = (its ++ its2).toArray := by simp
  rw [ea]
  exact ⟨.ref _, _, I.lnew (t' := s.toks) (r.append r2) (by rw [List.length_append]; omega), rfl, q _ I.fresh⟩
theorem fo_addL (hK : X.K = K) : OpR X (binaryOp .Add) (rF2 K addL 1) := by
  subst hK
  refine op_catL.imp fun x y H Q ⟨O, a, b, t, oa, ob, hd, hg, k⟩ => ?_
  cases a with
  | list ts => cases b with
    | list us =>
      dsimp only [addL] at hg
      by_cases hl : ts.length + us.length ≤ sizeLine
      case neg => rw [if_neg hl] at hg; cases hg
      rw [if_pos hl] at hg
      cases hg
      obtain ⟨a, vs, e1, f1, w1⟩ := oa.lst0
      obtain ⟨b, ws, e2, f2, w2⟩ := ob.lst0
      refine ⟨a, b, vs, ws, e1, e2, f1.sq, f2.sq, by rw [w1.len, w2.len]; exact hl, fun p hp => ?_⟩
      obtain ⟨n1, n2⟩ := ow_newL hp hd (w1.app w2)
      exact k _ _ _ n1 n2
    | _ => cases hg
  | _ => cases hg
theorem Ows.rep (h : Ows K O H ts 0 vs NoA) : ∀ n : Nat, Ows K O H (List.replicate n ts).flatten 0 (List.replicate n vs).flatten NoA
  | 0 => rfl
  | n + 1 => by
    rw [List.replicate_succ, List.replicate_succ, List.flatten_cons, List.flatten_cons]
    exact h.app (Ows.rep h n)
def mulS : D → D → Option D
  | .str z, .int k => grd (z.length ≤ 4000 ∧ -(2 ^ 63) ≤ k ∧ k ≤ 4000) (.str (Txt.mul z k))
  | _, _ => none
theorem fo_mulS : OpR X (binaryOp .Mult) (rF2 K mulS 3) := op_mulS.imp fun x y H Q ⟨O, a, b, t, oa, ob, hd, hg, k⟩ => by
  cases a with
  | str z => cases b with
    | int n =>
      obtain ⟨⟨c1, c2, c3⟩, rfl⟩ := grd_some hg
      exact ⟨z, n, oa, ob, c1, c2, c3, k _ H NoA .refl rfl⟩
    | _ => cases hg
  | _ => cases hg
def negI : D → Option D
  | .int i => some (.int (-i))
  | _ => none
theorem fo_neg : UnR X (unaryOp .USub) (rF1 K negI 3) := un_neg.imp fun x H Q ⟨O, a, t, oa, hd, hg, k⟩ => by
  cases a with
  | int i => cases hg; exact ⟨i, oa, k _ H NoA .refl rfl⟩
  | _ => cases hg
def lenD : List D → Option D
  | [.list ts] => some (.int ts.length)
  | [.tuple ts] => some (.int ts.length)
  | [.str z] => grd (z.length ≤ sizeLine) (.int z.length)
  | _ => none
theorem fo_len (hK : X.K = K) : CallR X (.builtin "len") (rFn K lenD 3) := (kLen hK).imp fun xs H Q ⟨O, as, t, oa, hd, hg, k⟩ => by
  match as, hg with
  | [.list ts], hg =>
    cases hg
    obtain ⟨v, rfl, o⟩ := oa.one
    obtain ⟨a, vs, rfl, fz, w⟩ := o.lst0
    exact ⟨_, _, rfl, .inl ⟨vs, fz.sq, rfl⟩, by rw [w.len]; exact k _ H NoA .refl rfl⟩
  | [.tuple ts], hg =>
    cases hg
    obtain ⟨v, rfl, o⟩ := oa.one
    obtain ⟨a, vs, rfl, fz, w⟩ := o.tup0
    exact ⟨_, _, rfl, .inr ⟨vs, fz.sq, rfl⟩, by rw [w.len]; exact k _ H NoA .refl rfl⟩
  | [.str z], hg =>
    obtain ⟨c, rfl⟩ := grd_some hg
    obtain ⟨v, rfl, o⟩ := oa.one
    exact ⟨_, _, rfl, by rw [show v = .str z from o]; exact ⟨c, rfl⟩, k _ H NoA .refl rfl⟩
def absD : List D → Option D
  | [.int i] => some (.int (if i < 0 then -i else i))
  | _ => none
theorem fo_abs : CallR X (.builtin "abs") (rFn K absD 3) := call_abs.imp fun xs H Q ⟨O, as, t, oa, hd, hg, k⟩ => by
  match as, hg with
  | [.int i], hg =>
    cases hg
    obtain ⟨v, rfl, o⟩ := oa.one
    exact ⟨i, by rw [show v = .int i from o], k _ H NoA .refl rfl⟩
def min2D : List D → Option D
  | [.int i, .int j] => some (.int (if j < i then j else i))
  | _ => none
theorem fo_min2 (hc : X.calm = true) : CallR X (.builtin "min") (rFn K min2D 3) := (call_min2 hc).imp fun xs H Q ⟨O, as, t, oa, hd, hg, k⟩ => by
  match as, hg with
  | [.int i, .int j], hg =>
    cases hg
    obtain ⟨v, w, rfl, o, o2⟩ := oa.two
    exact ⟨i, j, by rw [show v = .int i from o, show w = .int j from o2], k _ H NoA .refl rfl⟩
def signD (z : Str) : List D := (li z).map fun c => .str (mk1 c)
theorem ows_sign {z : Str} : Ows K O H (signD z) 0 (signsOf z) NoA := by
  unfold signD signsOf
  show Ows K O H ((li z).map fun c => .str (mk1 c)) 0 ((li z).map sgn) NoA
  generalize li z = l
  induction l with
  | nil => rfl
  | cons c r ih => exact ⟨sgn c, r.map sgn, NoA, NoA, rfl, fun _ z => z, fun _ z => z, fun _ z => z.elim, rfl, ih⟩
def listD : List D → Option D
  | [.list ts] => some (.list ts)
  | [.tuple ts] => some (.list ts)
  | [.str z] => grd (z.cps.size ≤ sizeLine) (.list (signD z))
  | _ => none
theorem fo_list (hK : X.K = K) (hc : X.calm = true) : CallR X (.type "list") (rFn K listD 1) := ((kListOf hK).or' (call_list_text hc)).imp fun xs H Q ⟨O, as, t, oa, hd, hg, k⟩ => by
  match as, hg with
  | [.list ts], hg =>
    cases hg
    obtain ⟨v, rfl, o⟩ := oa.one
    obtain ⟨a, vs, rfl, fz, w⟩ := o.lst0
    exact .inl ⟨a, vs, rfl, .inl fz.sq, fun l hl => k _ _ _ (ow_newL hl hd w).1 (ow_newL hl hd w).2⟩
  | [.tuple ts], hg =>
    cases hg
    obtain ⟨v, rfl, o⟩ := oa.one
    obtain ⟨a, vs, rfl, fz, w⟩ := o.tup0
    exact .inl ⟨a, vs, rfl, .inr fz.sq, fun l hl => k _ _ _ (ow_newL hl hd w).1 (ow_newL hl hd w).2⟩
  | [.str z], hg =>
    obtain ⟨c, rfl⟩ := grd_some hg
    obtain ⟨v, rfl, o⟩ := oa.one
    exact .inr ⟨z, by rw [show v = .str z from o], c, fun l hl => k _ _ _ (ow_newL (K := K) hl hd ows_sign).1 (ow_newL hl hd ows_sign).2⟩
def tupD : List D → Option D
  | [.list ts] => some (.tuple ts)
  | [.tuple ts] => some (.tuple ts)
  | _ => none
theorem fo_tuple (hK : X.K = K) : CallR X (.type "tuple") (rFn K tupD 0) := (kTupOf hK).imp fun xs H Q ⟨O, as, t, oa, hd, hg, k⟩ => by
  match as, hg with
  | [.list ts], hg =>
    cases hg
    obtain ⟨v, rfl, o⟩ := oa.one
    obtain ⟨a, vs, rfl, fz, w⟩ := o.lst0
    exact ⟨a, vs, rfl, .inl ⟨fz.sq, fun l hl => k _ _ _ (ow_newT hl hd w).1 (ow_newT hl hd w).2⟩⟩
  | [.tuple ts], hg =>
    cases hg
    obtain ⟨v, rfl, o⟩ := oa.one
    obtain ⟨a, vs, rfl, fz, w⟩ := o.tup0
    exact ⟨a, vs, rfl, .inr ⟨fz.sq, k _ H NoA .refl (by rw [U_no]; exact o)⟩⟩
def boolsOf : List D → Option (List Bool)
  | [] => some []
  | .bool b :: r => (boolsOf r).map (b :: ·)
  | _ :: _ => none
theorem ows_bools : ∀ {ts : List D} {vs : List V} {bs : List Bool}, Ows K O H ts 0 vs NoA → boolsOf ts = some bs → vs = bs.map V.bl
  | [], _, _, h, hb => by cases hb; exact h
  | .bool b :: r, _, _, h, hb => by
    obtain ⟨v, w, F1, F2, e, _, _, _, h4, h5⟩ := h
    obtain ⟨bs', h6, h7⟩ := Option.map_eq_some_iff.mp hb
    subst e h7
    rw [show v = .bl b from h4, ows_bools (Ows.any0 r h5) h6]
    rfl
  | .none :: _, _, _, _, hb => by cases hb
  | .int _ :: _, _, _, _, hb => by cases hb
  | .str _ :: _, _, _, _, hb => by cases hb
  | .list _ :: _, _, _, _, hb => by cases hb
  | .tuple _ :: _, _, _, _, hb => by cases hb
  | .dict _ :: _, _, _, _, hb => by cases hb
def allD : List D → Option D
  | [.list ts] => (boolsOf ts).map fun bs => .bool (bs.all id)
  | _ => none
theorem fo_all (hK : X.K = K) (hc : X.calm = true) : CallR X (.builtin "all") (rFn K allD 3) := (kAll hK hc).imp fun xs H Q ⟨O, as, t, oa, hd, hg, k⟩ => by
  match as, hg with
  | [.list ts], hg =>
    obtain ⟨bs, h1, rfl⟩ := Option.map_eq_some_iff.mp hg
    obtain ⟨v, rfl, o⟩ := oa.one
    obtain ⟨a, vs, rfl, fz, w⟩ := o.lst0
    have e := ows_bools w h1
    subst e
    exact ⟨a, bs, rfl, fz.sq, k _ H NoA .refl rfl⟩
def tyN : D → String
  | .none => "NoneType" | .bool _ => "bool" | .int _ => "int" | .str _ => "str" | .list _ => "list" | .tuple _ => "tuple" | .dict _ => "dict"
def isiB (n T : String) : Bool := n == T || (n == "bool" && T == "int")
theorem kit_all {T : String} (hT : T ∈ ["int", "bool", "str", "list", "tuple", "dict"]) (a : D) : PySem.W.kitOne K (.type (tyN a)) (.type T) = some (isiB (tyN a) T) := by
  simp only [List.mem_cons, List.not_mem_nil, or_false] at hT
  rcases hT with rfl | rfl | rfl | rfl | rfl | rfl <;> cases a <;> rfl
def rIsi2 (K : PySem.W.Frag) : List V → Hp → VK → Prop := fun xs H Q => ∃ x T, ∃ (O : AS) (a : D), xs = [x, .ty T] ∧ Ow K O H a 0 x NoA ∧ T ∈ ["int", "bool", "str", "list", "tuple", "dict"] ∧ Q (.bl (isiB (tyN a) T)) H
theorem call_isi2 : CallR X (.builtin "isinstance") (rIsi2 X.K) := by
  intro pins s σ H xs us Q I r h
  obtain ⟨x, T, O, a, rfl, oa, hT, q⟩ := h
  have base : ∀ ty, TyOf X.K H x (.type ty) → tyN a = ty → wpAny (model X.prog X.w) X.A (call (.builtin "isinstance") us) (EP X pins σ Q) X.xe s := fun ty h1 h2 => by
    refine call_isi pins s σ H _ us Q I r ⟨x, .type ty, T, isiB (tyN a) T, rfl, h1, ?_, q⟩
    rw [← h2]
    exact kit_all hT a
  cases a with
  | none => exact base _ (by rw [show x = .non from oa]; exact .non) rfl
  | bool b => exact base _ (by rw [show x = .bl b from oa]; exact .bl b) rfl
  | int b => exact base _ (by rw [show x = .int b from oa]; exact .int b) rfl
  | str b => exact base _ (by rw [show x = .str b from oa]; exact .str b) rfl
  | tuple ts =>
    obtain ⟨p, vs, rfl, fz, w⟩ := oa.tup0
    exact base _ (.tup fz.1) rfl
  | dict ts =>
    obtain ⟨p, vs, rfl, ⟨_, h1, _⟩ | ⟨_, h1, _⟩⟩ := oa
    · exact base _ (.dK h1) rfl
    · exact base _ (.dK h1) rfl
  | list ts =>
    obtain ⟨p, vs, rfl, fz, w⟩ := oa.lst0
    obtain ⟨u, u2, rfl, r1, r2⟩ := r.two
    cases r1
    cases r2
    obtain ⟨its, rv, pl, _⟩ := I.list fz.sq
    have e := kit_all (K := X.K) hT (.list ts)
    obtain ⟨o, n, h1, h2, _⟩ := pl
    exact PySem.W.kia_one PySem.W.kitx_list I.kIn ⟨o, h1, h2⟩ e (fun z => nomatch z) fun tk => ⟨.bl _, H, I.tok tk, rfl, q⟩
end
def isiD (T : String) : D → Option D := fun a => some (.bool (isiB (tyN a) T))
section
variable {X : Cx} {K : PySem.W.Frag} {p : Bool} {ds ds1 : List Nat} {d1 : Nat} {e : Expr} {f : ME}
theorem fe_isi {T : Str} {n : String} {px pt pos : Pos} (hK : X.K = K) (hg : Gl X "isinstance") (hm : X.mg "isinstance" = none) (hgT : Gl X T) (hmT : X.mg T = none) (hbT : bootBuiltins T = some (.type n)) (hT : n ∈ ["int", "bool", "str", "list", "tuple", "dict"]) (he : PE X e (tF K p ds ds1 d1 f))
    (hnT : T ≠ "__name__") (hdT : (T == ("__debug__" : Str)) = false)
    (hs1 : starEach [e, .Name T pt] X.env = (false, eval e X.env) :: starEach [.Name T pt] X.env) (hs2 : starEach [.Name T pt] X.env = (false, eval (.Name T pt) X.env) :: starEach [] X.env) (hpl : (backTo pos (starEach [.Name T pt] X.env)).any (·.1) = false) :
    PE X (.Call (.Name "isinstance" px) [e, .Name T pt] [] pos) (tF K p ds ds1 3 (e1 (isiD n) f)) := by
  subst hK
  refine (pe_callB call_isi2 hg hm boot_isinstance (pa_cons he (pa_cons (pe_bltn (v := .ty n) hgT hmT hbT rfl hnT hdT) pa_nil hs2) hs1) (by decide) (by decide) hs1 hpl).imp fun σ H Q h => ?_
  obtain ⟨Ox, en, R, t, en', e, hf, k⟩ := h
  unfold e1 at hf
  obtain ⟨⟨t1, en1⟩, h1, hf⟩ := Option.bind_eq_some_iff.mp hf
  obtain ⟨t', h3, hf⟩ := Option.map_eq_some_iff.mp hf
  cases hf
  cases h3
  refine ⟨Ox, en, R, t1, en1, e, h1, fun v H' R' F P o => ?_⟩
  exact ⟨v, n, Own R' Ox, t1, rfl, Ow.letgo P (fun _ z => z) o, hT, k _ H' R' NoA (P.less fun _ z => z.elim) rfl⟩
end
end L2
set_option Elab.async false
set_option linter.all false
set_option maxRecDepth 100000
set_option maxHeartbeats 4000000
namespace L2
open PySem PySem.Spec PyProof.Rows
mutual
def peq : D → D → Bool
  | .none, .none => true
  | .bool a, .bool b => a == b
  | .bool a, .int b => (if a then (1 : Int) else 0) == b
  | .int a, .bool b => a == (if b then (1 : Int) else 0)
  | .int a, .int b => a == b
  | .str a, .str b => a == b
  | .list a, .list b => peqs a b
  | .tuple a, .tuple b => peqs a b
  | _, _ => false
def peqs : List D → List D → Bool
  | [], [] => true
  | a :: r, b :: s => peq a b && peqs r s
  | _, _ => false
end
mutual
def noDict : D → Bool
  | .dict _ => false
  | .list ts => noDicts ts
  | .tuple ts => noDicts ts
  | _ => true
def noDicts : List D → Bool
  | [] => true
  | t :: r => noDict t && noDicts r
end
mutual
theorem peq_refl : ∀ a : D, noDict a = true → peq a a = true
  | .none, _ => rfl
  | .bool b, _ => by cases b <;> rfl
  | .int i, _ => by simp [peq]
  | .str i, _ => by simp [peq]
  | .list ts, h => by simp only [peq]; exact peqs_refl ts (by simpa [noDict] using h)
  | .tuple ts, h => by simp only [peq]; exact peqs_refl ts (by simpa [noDict] using h)
  | .dict _, h => by simp [noDict] at h
theorem peqs_refl : ∀ a : List D, noDicts a = true → peqs a a = true
  | [], _ => rfl
  | t :: r, h => by
    have h' : noDict t = true ∧ noDicts r = true := by simpa [noDicts] using h
    simp only [peqs, peq_refl t h'.1, peqs_refl r h'.2, Bool.and_self]
end
mutual
def dpth : D → Nat
  | .list ts => dpths ts + 1
  | .tuple ts => dpths ts + 1
  | _ => 0
def dpths : List D → Nat
  | [] => 0
  | t :: r => max (dpth t) (dpths r)
end
theorem dpths_get : ∀ {ts : List D} {i : Nat} {t : D}, ts[i]? = some t → dpth t ≤ dpths ts
  | [], _, _, h => by simp at h
  | u :: r, i, t, h => by
    simp only [dpths]
    cases i with
    | zero => simp at h; subst h; exact Nat.le_max_left _ _
    | succ i => exact Nat.le_trans (dpths_get (by simpa using h)) (Nat.le_max_right _ _)
theorem noDicts_get : ∀ {ts : List D} {i : Nat} {t : D}, noDicts ts = true → ts[i]? = some t → noDict t = true
  | [], _, _, _, h => by simp at h
  | u :: r, i, t, hn, h => by
    have h' : noDict u = true ∧ noDicts r = true := by simpa [noDicts] using hn
    cases i with
    | zero => simp at h; subst h; exact h'.1
    | succ i => exact noDicts_get h'.2 (by simpa using h)
theorem peqs_len : ∀ {a b : List D}, a.length ≠ b.length → peqs a b = false
  | [], [], h => absurd rfl h
  | [], _ :: _, _ => rfl
  | _ :: _, [], _ => rfl
  | a :: r, b :: s, h => by
    simp only [peqs, peqs_len (a := r) (b := s) (fun z => h (by rw [List.length_cons, List.length_cons, z])), Bool.and_false]
def eAt (a b : List D) (j : Nat) : Bool := match a[j]?, b[j]? with
  | some x, some y => peq x y
  | _, _ => true
theorem all_range_succ (n : Nat) (f : Nat → Bool) : (List.range (n + 1)).all f = (f 0 && (List.range n).all fun j => f (j + 1)) := by
  rw [List.range_succ_eq_map, List.all_cons, List.all_map]
  rfl
theorem peqs_all : ∀ {a b : List D}, a.length = b.length → (List.range a.length).all (eAt a b) = peqs a b
  | [], [], _ => rfl
  | a :: r, b :: s, h => by
    rw [List.length_cons, all_range_succ]
    have e : (List.range r.length).all (fun j => eAt (a :: r) (b :: s) (j + 1)) = (List.range r.length).all (eAt r s) := by
      congr 1
    rw [e, peqs_all (by simpa using h)]
    rfl
  | [], _ :: _, h => by simp at h
  | _ :: _, [], h => by simp at h
section
open PySem.SeqAt
variable {X : Cx} {pins : List (Addr × Obj)} {σ : St} {H : Hp} {s : Shared} {O : AS}
theorem no_lt {p : Addr} {vs ws : List V} (I : Inv X pins σ H s) (h : SqL X.K H p vs) (g : SqT X.K H p ws) : False := by
  obtain ⟨its, _, p1, _⟩ := I.list h
  obtain ⟨its2, _, p2, _⟩ := I.tuple g
  exact ne_of_list_tuple p1.isList (show s.heap.IsTuple p its2.toArray from p2) rfl
theorem no_ld {p : Addr} {vs : List V} {ks : List (Key × V)} (I : Inv X pins σ H s) (h : SqL X.K H p vs) (g : H p = some (.dK ks)) : False := by
  obtain ⟨its, _, ⟨o, n, e1, e2, _⟩, _⟩ := I.list h
  obtain ⟨_, _, _, _, o', _, _, g1, g2, _⟩ := dk_of I.hok g
  rw [e1] at g1
  cases g1
  rw [g2.1] at e2
  simp at e2
mutual
theorem Ow.inj (I : Inv X pins σ H s) : ∀ (a b : D) {x : V}, Ow X.K O H a 0 x NoA → Ow X.K O H b 0 x NoA → noDict a = true → a = b
  | .none, b, _, h, g, _ => by
    cases (show _ = _ from h)
    cases b with
    | none => rfl
    | list ts => obtain ⟨_, _, z, _⟩ := g; cases z
    | tuple ts => obtain ⟨_, _, z, _⟩ := g; cases z
    | dict ts => obtain ⟨_, _, z, _⟩ := g; cases z
    | bool c => cases (show V.non = V.bl c from g)
    | int c => cases (show V.non = V.int c from g)
    | str c => cases (show V.non = V.str c from g)
  | .bool c, b, _, h, g, _ => by
    cases (show _ = _ from h)
    cases b with
    | none => cases (show V.bl c = V.non from g)
    | list ts => obtain ⟨_, _, z, _⟩ := g; cases z
    | tuple ts => obtain ⟨_, _, z, _⟩ := g; cases z
    | dict ts => obtain ⟨_, _, z, _⟩ := g; cases z
    | bool c' => cases (show V.bl c = V.bl c' from g); rfl
    | int c' => cases (show V.bl c = V.int c' from g)
    | str c' => cases (show V.bl c = V.str c' from g)
  | .int c, b, _, h, g, _ => by
    cases (show _ = _ from h)
    cases b with
    | none => cases (show V.int c = V.non from g)
    | list ts => obtain ⟨_, _, z, _⟩ := g; cases z
    | tuple ts => obtain ⟨_, _, z, _⟩ := g; cases z
    | dict ts => obtain ⟨_, _, z, _⟩ := g; cases z
    | bool c' => cases (show V.int c = V.bl c' from g)
    | int c' => cases (show V.int c = V.int c' from g); rfl
    | str c' => cases (show V.int c = V.str c' from g)
  | .str c, b, _, h, g, _ => by
    cases (show _ = _ from h)
    cases b with
    | none => cases (show V.str c = V.non from g)
    | list ts => obtain ⟨_, _, z, _⟩ := g; cases z
    | tuple ts => obtain ⟨_, _, z, _⟩ := g; cases z
    | dict ts => obtain ⟨_, _, z, _⟩ := g; cases z
    | bool c' => cases (show V.str c = V.bl c' from g)
    | int c' => cases (show V.str c = V.int c' from g)
    | str c' => cases (show V.str c = V.str c' from g); rfl
  | .list ts, b, _, h, g, hn => by
    obtain ⟨p, vs, rfl, fz, w⟩ := h.lst0
    cases b with
    | none => cases (show V.ref p = V.non from g)
    | bool c' => cases (show V.ref p = V.bl c' from g)
    | int c' => cases (show V.ref p = V.int c' from g)
    | str c' => cases (show V.ref p = V.str c' from g)
    | list us =>
      obtain ⟨p', vs', e, fz', w'⟩ := g.lst0
      cases e
      have := I.list_inj fz.sq fz'.sq
      subst this
      rw [Ows.inj I ts us w w' (by simpa [noDict] using hn)]
    | tuple us =>
      obtain ⟨p', vs', e, fz', w'⟩ := g.tup0
      cases e
      exact (no_lt I fz.sq fz'.sq).elim
    | dict us =>
      obtain ⟨p', vs', e, ⟨_, g1, _⟩ | ⟨z, _⟩⟩ := g
      · cases e
        exact (no_ld I fz.sq g1).elim
      · exact absurd rfl z
  | .tuple ts, b, _, h, g, hn => by
    obtain ⟨p, vs, rfl, fz, w⟩ := h.tup0
    cases b with
    | none => cases (show V.ref p = V.non from g)
    | bool c' => cases (show V.ref p = V.bl c' from g)
    | int c' => cases (show V.ref p = V.int c' from g)
    | str c' => cases (show V.ref p = V.str c' from g)
    | tuple us =>
      obtain ⟨p', vs', e, fz', w'⟩ := g.tup0
      cases e
      have := fz.1.symm.trans fz'.1
      cases this
      rw [Ows.inj I ts us w w' (by simpa [noDict] using hn)]
    | list us =>
      obtain ⟨p', vs', e, fz', w'⟩ := g.lst0
      cases e
      exact (no_lt I fz'.sq fz.sq).elim
    | dict us =>
      obtain ⟨p', vs', e, ⟨_, g1, _⟩ | ⟨z, _⟩⟩ := g
      · cases e
        rw [fz.1] at g1
        cases g1
      · exact absurd rfl z
  | .dict _, _, _, _, _, hn => by simp [noDict] at hn
theorem Ows.inj (I : Inv X pins σ H s) : ∀ (a b : List D) {x : List V}, Ows X.K O H a 0 x NoA → Ows X.K O H b 0 x NoA → noDicts a = true → a = b
  | [], b, _, h, g, _ => by
    cases (show _ = _ from h)
    cases b with
    | nil => rfl
    | cons u us => obtain ⟨_, _, _, _, e, _⟩ := g; cases e
  | t :: ts, b, _, h, g, hn => by
    obtain ⟨v, r, F1, F2, e, _, _, _, h4, h5⟩ := h
    subst e
    have hn' : noDict t = true ∧ noDicts ts = true := by simpa [noDicts] using hn
    cases b with
    | nil => cases (show v :: r = [] from g)
    | cons u us =>
      obtain ⟨v', r', G1, G2, e, _, _, _, g4, g5⟩ := g
      cases e
      rw [Ow.inj I t u (Ow.any0 t h4) (Ow.any0 u g4) hn'.1, Ows.inj I ts us (Ows.any0 ts h5) (Ows.any0 us g5) hn'.2]
end
theorem items_at {A : Around} {ts us : List D} {vs ws : List V} {its its2 : List Value} (w : Ows X.K O H ts 0 vs NoA) (w2 : Ows X.K O H us 0 ws NoA) (rv : Vals vs its) (rv2 : Vals ws its2)
    (ih : ∀ (j : Nat) a b x y v u, ts[j]? = some a → us[j]? = some b → Ow X.K O H a 0 x NoA → Ow X.K O H b 0 y NoA → RelV x v → RelV y u → EqAt A s v u (peq a b)) :
    ∀ j (h1 : j < its.toArray.size) (h2 : j < its2.toArray.size), EqAt A s its.toArray[j] its2.toArray[j] (eAt ts us j) := fun j h1 h2 => by
  have h1' : j < its.length := by simpa using h1
  have h2' : j < its2.length := by simpa using h2
  have l1 := rv.length
  have l2 := rv2.length
  have m1 := w.len
  have m2 := w2.len
  have e1 : ts[j]? = some ts[j] := List.getElem?_eq_getElem (by omega)
  have e2 : us[j]? = some us[j] := List.getElem?_eq_getElem (by omega)
  obtain ⟨x, g1, o1⟩ := w.get e1
  obtain ⟨y, g2, o2⟩ := w2.get e2
  obtain ⟨u1, f1, q1⟩ := rv.get g1
  obtain ⟨u2, f2, q2⟩ := rv2.get g2
  have z := ih j _ _ x y u1 u2 e1 e2 o1 o2 q1 q2
  rw [List.getElem?_eq_getElem h1'] at f1
  rw [List.getElem?_eq_getElem h2'] at f2
  have i1 : its.toArray[j] = u1 := by simpa using Option.some.inj f1
  have i2 : its2.toArray[j] = u2 := by simpa using Option.some.inj f2
  rw [i1, i2]
  unfold eAt
  rw [e1, e2]
  exact z
theorem eq_at (I : Inv X pins σ H s) : ∀ (n : Nat) (a b : D) (A : Around) (x y : V) (v u : Value), dpth a ≤ n → noDict a = true → noDict b = true → Ow X.K O H a 0 x NoA → Ow X.K O H b 0 y NoA → RelV x v → RelV y u → A.units + n + 1 < cLine →
    EqAt A s v u (peq a b) ∧ RcAt A s v u (peq a b) ∧ RcNeAt A s v u (!peq a b) := by
  intro n
  induction n with
  | zero =>
    intro a b A x y v u hdp hna hnb o1 o2 r1 r2 hun
    have hu : A.units < cLine := by omega
    cases a with
    | none =>
      cases b with
      | none =>
        cases (show x = V.non from o1)
        cases r1
        cases (show y = V.non from o2)
        cases r2
        exact ⟨EqAt.same _, RcAt.none_none, RcNeAt.none_none⟩
      | bool c2 =>
        cases (show x = V.non from o1)
        cases r1
        cases (show y = V.bl c2 from o2)
        cases r2
        exact ⟨EqAt.none_bool _, RcAt.none_bool _, RcNeAt.none_bool _⟩
      | int c2 =>
        cases (show x = V.non from o1)
        cases r1
        cases (show y = V.int c2 from o2)
        obtain ⟨tk2, rfl⟩ := r2
        exact ⟨EqAt.none_int _ _, RcAt.none_int _ _, RcNeAt.none_int _ _⟩
      | str c2 =>
        cases (show x = V.non from o1)
        cases r1
        cases (show y = V.str c2 from o2)
        obtain ⟨tk2, rfl⟩ := r2
        exact ⟨EqAt.none_str _ _, RcAt.none_str _ _, RcNeAt.none_str _ _⟩
      | list c2 =>
        cases (show x = V.non from o1)
        cases r1
        obtain ⟨p2, vs2, rfl, fz2, w2⟩ := o2.lst0
        cases r2
        obtain ⟨its2, rv2, pl2, _⟩ := I.list fz2.sq
        have hl2 := pl2.isList
        exact ⟨EqAt.none_list  hl2 hu, RcAt.none_list  hl2 hu, RcNeAt.none_list  hl2 hu⟩
      | tuple c2 =>
        cases (show x = V.non from o1)
        cases r1
        obtain ⟨p2, vs2, rfl, fz2, w2⟩ := o2.tup0
        cases r2
        obtain ⟨its2, rv2, pl2, _⟩ := I.tuple fz2.sq
        have hl2 : s.heap.IsTuple p2 its2.toArray := pl2
        exact ⟨EqAt.none_tuple  hl2 hu, RcAt.none_tuple  hl2 hu, RcNeAt.none_tuple  hl2 hu⟩
      | dict c2 => simp [noDict] at hnb
    | bool c1 =>
      cases b with
      | none =>
        cases (show x = V.bl c1 from o1)
        cases r1
        cases (show y = V.non from o2)
        cases r2
        exact ⟨EqAt.bool_none _, RcAt.bool_none _, RcNeAt.bool_none _⟩
      | bool c2 =>
        cases (show x = V.bl c1 from o1)
        cases r1
        cases (show y = V.bl c2 from o2)
        cases r2
        exact ⟨EqAt.bool_bool _ _, RcAt.bool_bool _ _, RcNeAt.bool_bool _ _⟩
      | int c2 =>
        cases (show x = V.bl c1 from o1)
        cases r1
        cases (show y = V.int c2 from o2)
        obtain ⟨tk2, rfl⟩ := r2
        exact ⟨EqAt.bool_int _ _ _, RcAt.bool_int _ _ _, RcNeAt.bool_int _ _ _⟩
      | str c2 =>
        cases (show x = V.bl c1 from o1)
        cases r1
        cases (show y = V.str c2 from o2)
        obtain ⟨tk2, rfl⟩ := r2
        exact ⟨EqAt.bool_str _ _ _, RcAt.bool_str _ _ _, RcNeAt.bool_str _ _ _⟩
      | list c2 =>
        cases (show x = V.bl c1 from o1)
        cases r1
        obtain ⟨p2, vs2, rfl, fz2, w2⟩ := o2.lst0
        cases r2
        obtain ⟨its2, rv2, pl2, _⟩ := I.list fz2.sq
        have hl2 := pl2.isList
        exact ⟨EqAt.bool_list _ hl2 hu, RcAt.bool_list _ hl2 hu, RcNeAt.bool_list _ hl2 hu⟩
      | tuple c2 =>
        cases (show x = V.bl c1 from o1)
        cases r1
        obtain ⟨p2, vs2, rfl, fz2, w2⟩ := o2.tup0
        cases r2
        obtain ⟨its2, rv2, pl2, _⟩ := I.tuple fz2.sq
        have hl2 : s.heap.IsTuple p2 its2.toArray := pl2
        exact ⟨EqAt.bool_tuple _ hl2 hu, RcAt.bool_tuple _ hl2 hu, RcNeAt.bool_tuple _ hl2 hu⟩
      | dict c2 => simp [noDict] at hnb
    | int c1 =>
      cases b with
      | none =>
        cases (show x = V.int c1 from o1)
        obtain ⟨tk1, rfl⟩ := r1
        cases (show y = V.non from o2)
        cases r2
        exact ⟨EqAt.int_none _ _, RcAt.int_none _ _, RcNeAt.int_none _ _⟩
      | bool c2 =>
        cases (show x = V.int c1 from o1)
        obtain ⟨tk1, rfl⟩ := r1
        cases (show y = V.bl c2 from o2)
        cases r2
        exact ⟨EqAt.int_bool _ _ _, RcAt.int_bool _ _ _, RcNeAt.int_bool _ _ _⟩
      | int c2 =>
        cases (show x = V.int c1 from o1)
        obtain ⟨tk1, rfl⟩ := r1
        cases (show y = V.int c2 from o2)
        obtain ⟨tk2, rfl⟩ := r2
        exact ⟨EqAt.int_int _ _ _ _, RcAt.int_int _ _ _ _, RcNeAt.int_int _ _ _ _⟩
      | str c2 =>
        cases (show x = V.int c1 from o1)
        obtain ⟨tk1, rfl⟩ := r1
        cases (show y = V.str c2 from o2)
        obtain ⟨tk2, rfl⟩ := r2
        exact ⟨EqAt.int_str _ _ _ _, RcAt.int_str _ _ _ _, RcNeAt.int_str _ _ _ _⟩
      | list c2 =>
        cases (show x = V.int c1 from o1)
        obtain ⟨tk1, rfl⟩ := r1
        obtain ⟨p2, vs2, rfl, fz2, w2⟩ := o2.lst0
        cases r2
        obtain ⟨its2, rv2, pl2, _⟩ := I.list fz2.sq
        have hl2 := pl2.isList
        exact ⟨EqAt.int_list _ _ hl2 hu, RcAt.int_list _ _ hl2 hu, RcNeAt.int_list _ _ hl2 hu⟩
      | tuple c2 =>
        cases (show x = V.int c1 from o1)
        obtain ⟨tk1, rfl⟩ := r1
        obtain ⟨p2, vs2, rfl, fz2, w2⟩ := o2.tup0
        cases r2
        obtain ⟨its2, rv2, pl2, _⟩ := I.tuple fz2.sq
        have hl2 : s.heap.IsTuple p2 its2.toArray := pl2
        exact ⟨EqAt.int_tuple _ _ hl2 hu, RcAt.int_tuple _ _ hl2 hu, RcNeAt.int_tuple _ _ hl2 hu⟩
      | dict c2 => simp [noDict] at hnb
    | str c1 =>
      cases b with
      | none =>
        cases (show x = V.str c1 from o1)
        obtain ⟨tk1, rfl⟩ := r1
        cases (show y = V.non from o2)
        cases r2
        exact ⟨EqAt.str_none _ _, RcAt.str_none _ _, RcNeAt.str_none _ _⟩
      | bool c2 =>
        cases (show x = V.str c1 from o1)
        obtain ⟨tk1, rfl⟩ := r1
        cases (show y = V.bl c2 from o2)
        cases r2
        exact ⟨EqAt.str_bool _ _ _, RcAt.str_bool _ _ _, RcNeAt.str_bool _ _ _⟩
      | int c2 =>
        cases (show x = V.str c1 from o1)
        obtain ⟨tk1, rfl⟩ := r1
        cases (show y = V.int c2 from o2)
        obtain ⟨tk2, rfl⟩ := r2
        exact ⟨EqAt.str_int _ _ _ _, RcAt.str_int _ _ _ _, RcNeAt.str_int _ _ _ _⟩
      | str c2 =>
        cases (show x = V.str c1 from o1)
        obtain ⟨tk1, rfl⟩ := r1
        cases (show y = V.str c2 from o2)
        obtain ⟨tk2, rfl⟩ := r2
        exact ⟨EqAt.str_str _ _ _ _, RcAt.str_str _ _ _ _, RcNeAt.str_str _ _ _ _⟩
      | list c2 =>
        cases (show x = V.str c1 from o1)
        obtain ⟨tk1, rfl⟩ := r1
        obtain ⟨p2, vs2, rfl, fz2, w2⟩ := o2.lst0
        cases r2
        obtain ⟨its2, rv2, pl2, _⟩ := I.list fz2.sq
        have hl2 := pl2.isList
        exact ⟨EqAt.str_list _ _ hl2 hu, RcAt.str_list _ _ hl2 hu, RcNeAt.str_list _ _ hl2 hu⟩
      | tuple c2 =>
        cases (show x = V.str c1 from o1)
        obtain ⟨tk1, rfl⟩ := r1
        obtain ⟨p2, vs2, rfl, fz2, w2⟩ := o2.tup0
        cases r2
        obtain ⟨its2, rv2, pl2, _⟩ := I.tuple fz2.sq
        have hl2 : s.heap.IsTuple p2 its2.toArray := pl2
        exact ⟨EqAt.str_tuple _ _ hl2 hu, RcAt.str_tuple _ _ hl2 hu, RcNeAt.str_tuple _ _ hl2 hu⟩
      | dict c2 => simp [noDict] at hnb
    | list c1 =>
      simp only [dpth] at hdp
      omega
    | tuple c1 =>
      simp only [dpth] at hdp
      omega
    | dict c1 => simp [noDict] at hna
  | succ n ih =>
    intro a b A x y v u hdp hna hnb o1 o2 r1 r2 hun
    have hu : A.units < cLine := by omega
    have hu1 : A.in1.units + n + 1 < cLine := by
      show A.units + 1 + n + 1 < cLine
      omega
    cases a with
    | none =>
      cases b with
      | none =>
        cases (show x = V.non from o1)
        cases r1
        cases (show y = V.non from o2)
        cases r2
        exact ⟨EqAt.same _, RcAt.none_none, RcNeAt.none_none⟩
      | bool c2 =>
        cases (show x = V.non from o1)
        cases r1
        cases (show y = V.bl c2 from o2)
        cases r2
        exact ⟨EqAt.none_bool _, RcAt.none_bool _, RcNeAt.none_bool _⟩
      | int c2 =>
        cases (show x = V.non from o1)
        cases r1
        cases (show y = V.int c2 from o2)
        obtain ⟨tk2, rfl⟩ := r2
        exact ⟨EqAt.none_int _ _, RcAt.none_int _ _, RcNeAt.none_int _ _⟩
      | str c2 =>
        cases (show x = V.non from o1)
        cases r1
        cases (show y = V.str c2 from o2)
        obtain ⟨tk2, rfl⟩ := r2
        exact ⟨EqAt.none_str _ _, RcAt.none_str _ _, RcNeAt.none_str _ _⟩
      | list c2 =>
        cases (show x = V.non from o1)
        cases r1
        obtain ⟨p2, vs2, rfl, fz2, w2⟩ := o2.lst0
        cases r2
        obtain ⟨its2, rv2, pl2, _⟩ := I.list fz2.sq
        have hl2 := pl2.isList
        exact ⟨EqAt.none_list  hl2 hu, RcAt.none_list  hl2 hu, RcNeAt.none_list  hl2 hu⟩
      | tuple c2 =>
        cases (show x = V.non from o1)
        cases r1
        obtain ⟨p2, vs2, rfl, fz2, w2⟩ := o2.tup0
        cases r2
        obtain ⟨its2, rv2, pl2, _⟩ := I.tuple fz2.sq
        have hl2 : s.heap.IsTuple p2 its2.toArray := pl2
        exact ⟨EqAt.none_tuple  hl2 hu, RcAt.none_tuple  hl2 hu, RcNeAt.none_tuple  hl2 hu⟩
      | dict c2 => simp [noDict] at hnb
    | bool c1 =>
      cases b with
      | none =>
        cases (show x = V.bl c1 from o1)
        cases r1
        cases (show y = V.non from o2)
        cases r2
        exact ⟨EqAt.bool_none _, RcAt.bool_none _, RcNeAt.bool_none _⟩
      | bool c2 =>
        cases (show x = V.bl c1 from o1)
        cases r1
        cases (show y = V.bl c2 from o2)
        cases r2
        exact ⟨EqAt.bool_bool _ _, RcAt.bool_bool _ _, RcNeAt.bool_bool _ _⟩
      | int c2 =>
        cases (show x = V.bl c1 from o1)
        cases r1
        cases (show y = V.int c2 from o2)
        obtain ⟨tk2, rfl⟩ := r2
        exact ⟨EqAt.bool_int _ _ _, RcAt.bool_int _ _ _, RcNeAt.bool_int _ _ _⟩
      | str c2 =>
        cases (show x = V.bl c1 from o1)
        cases r1
        cases (show y = V.str c2 from o2)
        obtain ⟨tk2, rfl⟩ := r2
        exact ⟨EqAt.bool_str _ _ _, RcAt.bool_str _ _ _, RcNeAt.bool_str _ _ _⟩
      | list c2 =>
        cases (show x = V.bl c1 from o1)
        cases r1
        obtain ⟨p2, vs2, rfl, fz2, w2⟩ := o2.lst0
        cases r2
        obtain ⟨its2, rv2, pl2, _⟩ := I.list fz2.sq
        have hl2 := pl2.isList
        exact ⟨EqAt.bool_list _ hl2 hu, RcAt.bool_list _ hl2 hu, RcNeAt.bool_list _ hl2 hu⟩
      | tuple c2 =>
        cases (show x = V.bl c1 from o1)
        cases r1
        obtain ⟨p2, vs2, rfl, fz2, w2⟩ := o2.tup0
        cases r2
        obtain ⟨its2, rv2, pl2, _⟩ := I.tuple fz2.sq
        have hl2 : s.heap.IsTuple p2 its2.toArray := pl2
        exact ⟨EqAt.bool_tuple _ hl2 hu, RcAt.bool_tuple _ hl2 hu, RcNeAt.bool_tuple _ hl2 hu⟩
      | dict c2 => simp [noDict] at hnb
    | int c1 =>
      cases b with
      | none =>
        cases (show x = V.int c1 from o1)
        obtain ⟨tk1, rfl⟩ := r1
        cases (show y = V.non from o2)
        cases r2
        exact ⟨EqAt.int_none _ _, RcAt.int_none _ _, RcNeAt.int_none _ _⟩
      | bool c2 =>
        cases (show x = V.int c1 from o1)
        obtain ⟨tk1, rfl⟩ := r1
        cases (show y = V.bl c2 from o2)
        cases r2
        exact ⟨EqAt.int_bool _ _ _, RcAt.int_bool _ _ _, RcNeAt.int_bool _ _ _⟩
      | int c2 =>
        cases (show x = V.int c1 from o1)
        obtain ⟨tk1, rfl⟩ := r1
        cases (show y = V.int c2 from o2)
        obtain ⟨tk2, rfl⟩ := r2
        exact ⟨EqAt.int_int _ _ _ _, RcAt.int_int _ _ _ _, RcNeAt.int_int _ _ _ _⟩
      | str c2 =>
        cases (show x = V.int c1 from o1)
        obtain ⟨tk1, rfl⟩ := r1
        cases (show y = V.str c2 from o2)
        obtain ⟨tk2, rfl⟩ := r2
        exact ⟨EqAt.int_str _ _ _ _, RcAt.int_str _ _ _ _, RcNeAt.int_str _ _ _ _⟩
      | list c2 =>
        cases (show x = V.int c1 from o1)
        obtain ⟨tk1, rfl⟩ := r1
        obtain ⟨p2, vs2, rfl, fz2, w2⟩ := o2.lst0
        cases r2
        obtain ⟨its2, rv2, pl2, _⟩ := I.list fz2.sq
        have hl2 := pl2.isList
        exact ⟨EqAt.int_list _ _ hl2 hu, RcAt.int_list _ _ hl2 hu, RcNeAt.int_list _ _ hl2 hu⟩
      | tuple c2 =>
        cases (show x = V.int c1 from o1)
        obtain ⟨tk1, rfl⟩ := r1
        obtain ⟨p2, vs2, rfl, fz2, w2⟩ := o2.tup0
        cases r2
        obtain ⟨its2, rv2, pl2, _⟩ := I.tuple fz2.sq
        have hl2 : s.heap.IsTuple p2 its2.toArray := pl2
        exact ⟨EqAt.int_tuple _ _ hl2 hu, RcAt.int_tuple _ _ hl2 hu, RcNeAt.int_tuple _ _ hl2 hu⟩
      | dict c2 => simp [noDict] at hnb
    | str c1 =>
      cases b with
      | none =>
        cases (show x = V.str c1 from o1)
        obtain ⟨tk1, rfl⟩ := r1
        cases (show y = V.non from o2)
        cases r2
        exact ⟨EqAt.str_none _ _, RcAt.str_none _ _, RcNeAt.str_none _ _⟩
      | bool c2 =>
        cases (show x = V.str c1 from o1)
        obtain ⟨tk1, rfl⟩ := r1
        cases (show y = V.bl c2 from o2)
        cases r2
        exact ⟨EqAt.str_bool _ _ _, RcAt.str_bool _ _ _, RcNeAt.str_bool _ _ _⟩
      | int c2 =>
        cases (show x = V.str c1 from o1)
        obtain ⟨tk1, rfl⟩ := r1
        cases (show y = V.int c2 from o2)
        obtain ⟨tk2, rfl⟩ := r2
        exact ⟨EqAt.str_int _ _ _ _, RcAt.str_int _ _ _ _, RcNeAt.str_int _ _ _ _⟩
      | str c2 =>
        cases (show x = V.str c1 from o1)
        obtain ⟨tk1, rfl⟩ := r1
        cases (show y = V.str c2 from o2)
        obtain ⟨tk2, rfl⟩ := r2
        exact ⟨EqAt.str_str _ _ _ _, RcAt.str_str _ _ _ _, RcNeAt.str_str _ _ _ _⟩
      | list c2 =>
        cases (show x = V.str c1 from o1)
        obtain ⟨tk1, rfl⟩ := r1
        obtain ⟨p2, vs2, rfl, fz2, w2⟩ := o2.lst0
        cases r2
        obtain ⟨its2, rv2, pl2, _⟩ := I.list fz2.sq
        have hl2 := pl2.isList
        exact ⟨EqAt.str_list _ _ hl2 hu, RcAt.str_list _ _ hl2 hu, RcNeAt.str_list _ _ hl2 hu⟩
      | tuple c2 =>
        cases (show x = V.str c1 from o1)
        obtain ⟨tk1, rfl⟩ := r1
        obtain ⟨p2, vs2, rfl, fz2, w2⟩ := o2.tup0
        cases r2
        obtain ⟨its2, rv2, pl2, _⟩ := I.tuple fz2.sq
        have hl2 : s.heap.IsTuple p2 its2.toArray := pl2
        exact ⟨EqAt.str_tuple _ _ hl2 hu, RcAt.str_tuple _ _ hl2 hu, RcNeAt.str_tuple _ _ hl2 hu⟩
      | dict c2 => simp [noDict] at hnb
    | list c1 =>
      cases b with
      | none =>
        obtain ⟨p1, vs1, rfl, fz1, w1⟩ := o1.lst0
        cases r1
        obtain ⟨its1, rv1, pl1, _⟩ := I.list fz1.sq
        have hl1 := pl1.isList
        cases (show y = V.non from o2)
        cases r2
        exact ⟨EqAt.list_none  hl1 hu, RcAt.list_none  hl1 hu, RcNeAt.list_none  hl1 hu⟩
      | bool c2 =>
        obtain ⟨p1, vs1, rfl, fz1, w1⟩ := o1.lst0
        cases r1
        obtain ⟨its1, rv1, pl1, _⟩ := I.list fz1.sq
        have hl1 := pl1.isList
        cases (show y = V.bl c2 from o2)
        cases r2
        exact ⟨EqAt.list_bool _ hl1 hu, RcAt.list_bool _ hl1 hu, RcNeAt.list_bool _ hl1 hu⟩
      | int c2 =>
        obtain ⟨p1, vs1, rfl, fz1, w1⟩ := o1.lst0
        cases r1
        obtain ⟨its1, rv1, pl1, _⟩ := I.list fz1.sq
        have hl1 := pl1.isList
        cases (show y = V.int c2 from o2)
        obtain ⟨tk2, rfl⟩ := r2
        exact ⟨EqAt.list_int _ _ hl1 hu, RcAt.list_int _ _ hl1 hu, RcNeAt.list_int _ _ hl1 hu⟩
      | str c2 =>
        obtain ⟨p1, vs1, rfl, fz1, w1⟩ := o1.lst0
        cases r1
        obtain ⟨its1, rv1, pl1, _⟩ := I.list fz1.sq
        have hl1 := pl1.isList
        cases (show y = V.str c2 from o2)
        obtain ⟨tk2, rfl⟩ := r2
        exact ⟨EqAt.list_str _ _ hl1 hu, RcAt.list_str _ _ hl1 hu, RcNeAt.list_str _ _ hl1 hu⟩
      | list c2 =>
        obtain ⟨p1, vs1, rfl, fz1, w1⟩ := o1.lst0
        cases r1
        obtain ⟨its1, rv1, pl1, _⟩ := I.list fz1.sq
        have hl1 := pl1.isList
        obtain ⟨p2, vs2, rfl, fz2, w2⟩ := o2.lst0
        cases r2
        obtain ⟨its2, rv2, pl2, _⟩ := I.list fz2.sq
        have hl2 := pl2.isList
        have dl : dpths c1 ≤ n := by simp only [dpth] at hdp; omega
        have nd1 : noDicts c1 = true := by simpa [noDict] using hna
        have nd2 : noDicts c2 = true := by simpa [noDict] using hnb
        have el := items_at (A := A.in1) w1 w2 rv1 rv2 fun j a b x y v u e1 e2 q1 q2 q3 q4 => (ih a b A.in1 x y v u (Nat.le_trans (dpths_get e1) dl) (noDicts_get nd1 e1) (noDicts_get nd2 e2) q1 q2 q3 q4 hu1).1
        have l1 := rv1.length
        have l2 := rv2.length
        have m1 := w1.len
        have m2 := w2.len
        have rc : RcAt A s (.ref p1) (.ref p2) (peqs c1 c2) ∧ RcNeAt A s (.ref p1) (.ref p2) (!peqs c1 c2) := by
          by_cases hz : c1.length = c2.length
          · have hs1 : its1.toArray.size = its2.toArray.size := by rw [List.size_toArray, List.size_toArray]; omega
            have hs2 : its1.toArray.size = c1.length := by rw [List.size_toArray]; omega
            have z1 := RcAt.lists hl1 hl2 hs1 hu el
            have z2 := RcNeAt.lists hl1 hl2 hs1 hu el
            rw [hs2, peqs_all hz] at z1 z2
            exact ⟨z1, z2⟩
          · have hs1 : (its1.toArray.size != its2.toArray.size) = true := by rw [List.size_toArray, List.size_toArray, bne_iff_ne]; omega
            rw [peqs_len hz]
            exact ⟨RcAt.lists_lengths hl1 hl2 hs1 hu, RcNeAt.lists_lengths hl1 hl2 hs1 hu⟩
        have pe : peq (.list c1) (.list c2) = peqs c1 c2 := by simp only [peq]
        refine ⟨?_, by rw [pe]; exact rc.1, by rw [pe]; exact rc.2⟩
        by_cases hp : p1 = p2
        · subst hp
          have := Ow.inj I _ _ o1 o2 hna
          cases this
          rw [peq_refl _ hna]
          exact EqAt.same _
        · rw [pe]
          exact EqAt.of_refs hp rc.1
      | tuple c2 =>
        obtain ⟨p1, vs1, rfl, fz1, w1⟩ := o1.lst0
        cases r1
        obtain ⟨its1, rv1, pl1, _⟩ := I.list fz1.sq
        have hl1 := pl1.isList
        obtain ⟨p2, vs2, rfl, fz2, w2⟩ := o2.tup0
        cases r2
        obtain ⟨its2, rv2, pl2, _⟩ := I.tuple fz2.sq
        have hl2 : s.heap.IsTuple p2 its2.toArray := pl2
        exact ⟨EqAt.list_tuple hl1 hl2 hu, RcAt.list_tuple hl1 hl2 hu, RcNeAt.list_tuple hl1 hl2 hu⟩
      | dict c2 => simp [noDict] at hnb
    | tuple c1 =>
      cases b with
      | none =>
        obtain ⟨p1, vs1, rfl, fz1, w1⟩ := o1.tup0
        cases r1
        obtain ⟨its1, rv1, pl1, _⟩ := I.tuple fz1.sq
        have hl1 : s.heap.IsTuple p1 its1.toArray := pl1
        cases (show y = V.non from o2)
        cases r2
        exact ⟨EqAt.tuple_none  hl1 hu, RcAt.tuple_none  hl1 hu, RcNeAt.tuple_none  hl1 hu⟩
      | bool c2 =>
        obtain ⟨p1, vs1, rfl, fz1, w1⟩ := o1.tup0
        cases r1
        obtain ⟨its1, rv1, pl1, _⟩ := I.tuple fz1.sq
        have hl1 : s.heap.IsTuple p1 its1.toArray := pl1
        cases (show y = V.bl c2 from o2)
        cases r2
        exact ⟨EqAt.tuple_bool _ hl1 hu, RcAt.tuple_bool _ hl1 hu, RcNeAt.tuple_bool _ hl1 hu⟩
      | int c2 =>
        obtain ⟨p1, vs1, rfl, fz1, w1⟩ := o1.tup0
        cases r1
        obtain ⟨its1, rv1, pl1, _⟩ := I.tuple fz1.sq
        have hl1 : s.heap.IsTuple p1 its1.toArray := pl1
        cases (show y = V.int c2 from o2)
        obtain ⟨tk2, rfl⟩ := r2
        exact ⟨EqAt.tuple_int _ _ hl1 hu, RcAt.tuple_int _ _ hl1 hu, RcNeAt.tuple_int _ _ hl1 hu⟩
      | str c2 =>
        obtain ⟨p1, vs1, rfl, fz1, w1⟩ := o1.tup0
        cases r1
        obtain ⟨its1, rv1, pl1, _⟩ := I.tuple fz1.sq
        have hl1 : s.heap.IsTuple p1 its1.toArray := pl1
        cases (show y = V.str c2 from o2)
        obtain ⟨tk2, rfl⟩ := r2
        exact ⟨EqAt.tuple_str _ _ hl1 hu, RcAt.tuple_str _ _ hl1 hu, RcNeAt.tuple_str _ _ hl1 hu⟩
      | list c2 =>
        obtain ⟨p1, vs1, rfl, fz1, w1⟩ := o1.tup0
        cases r1
        obtain ⟨its1, rv1, pl1, _⟩ := I.tuple fz1.sq
        have hl1 : s.heap.IsTuple p1 its1.toArray := pl1
        obtain ⟨p2, vs2, rfl, fz2, w2⟩ := o2.lst0
        cases r2
        obtain ⟨its2, rv2, pl2, _⟩ := I.list fz2.sq
        have hl2 := pl2.isList
        exact ⟨EqAt.tuple_list hl1 hl2 hu, RcAt.tuple_list hl1 hl2 hu, RcNeAt.tuple_list hl1 hl2 hu⟩
      | tuple c2 =>
        obtain ⟨p1, vs1, rfl, fz1, w1⟩ := o1.tup0
        cases r1
        obtain ⟨its1, rv1, pl1, _⟩ := I.tuple fz1.sq
        have hl1 : s.heap.IsTuple p1 its1.toArray := pl1
        obtain ⟨p2, vs2, rfl, fz2, w2⟩ := o2.tup0
        cases r2
        obtain ⟨its2, rv2, pl2, _⟩ := I.tuple fz2.sq
        have hl2 : s.heap.IsTuple p2 its2.toArray := pl2
        have dl : dpths c1 ≤ n := by simp only [dpth] at hdp; omega
        have nd1 : noDicts c1 = true := by simpa [noDict] using hna
        have nd2 : noDicts c2 = true := by simpa [noDict] using hnb
        have el := items_at (A := A.in1) w1 w2 rv1 rv2 fun j a b x y v u e1 e2 q1 q2 q3 q4 => (ih a b A.in1 x y v u (Nat.le_trans (dpths_get e1) dl) (noDicts_get nd1 e1) (noDicts_get nd2 e2) q1 q2 q3 q4 hu1).1
        have l1 := rv1.length
        have l2 := rv2.length
        have m1 := w1.len
        have m2 := w2.len
        have rc : RcAt A s (.ref p1) (.ref p2) (peqs c1 c2) ∧ RcNeAt A s (.ref p1) (.ref p2) (!peqs c1 c2) := by
          have z1 := RcAt.tuples hl1 hl2 hu el
          have z2 := RcNeAt.tuples hl1 hl2 hu el
          have ez : ((List.range (min its1.toArray.size its2.toArray.size)).all (eAt c1 c2) && its1.toArray.size == its2.toArray.size) = peqs c1 c2 := by
            rw [List.size_toArray, List.size_toArray]
            by_cases hz : c1.length = c2.length
            · have h3 : its1.length = its2.length := by omega
              have h4 : min its1.length its2.length = c1.length := by omega
              rw [h4, peqs_all hz, h3, beq_self_eq_true, Bool.and_true]
            · have h3 : (its1.length == its2.length) = false := by rw [beq_eq_false_iff_ne]; omega
              rw [h3, Bool.and_false, peqs_len hz]
          rw [ez] at z1 z2
          exact ⟨z1, z2⟩
        have pe : peq (.tuple c1) (.tuple c2) = peqs c1 c2 := by simp only [peq]
        refine ⟨?_, by rw [pe]; exact rc.1, by rw [pe]; exact rc.2⟩
        by_cases hp : p1 = p2
        · subst hp
          have := Ow.inj I _ _ o1 o2 hna
          cases this
          rw [peq_refl _ hna]
          exact EqAt.same _
        · rw [pe]
          exact EqAt.of_refs hp rc.1
      | dict c2 => simp [noDict] at hnb
    | dict c1 => simp [noDict] at hna
end
def eqD (a b : D) : Option D := grd (noDict a = true ∧ noDict b = true ∧ dpth a ≤ 60) (.bool (peq a b))
def neD (a b : D) : Option D := grd (noDict a = true ∧ noDict b = true ∧ dpth a ≤ 60) (.bool (!peq a b))
section
variable {X : Cx} {K : PySem.W.Frag}
theorem fo_eq (hK : X.K = K) (hu : X.A.units + 64 < cLine) : OpR X (compareOp .Eq) (rF2 K eqD 3) := by
  subst hK
  intro pins s σ H x y v u Q I rx ry ⟨O, a, b, t, oa, ob, hd, hg, k⟩
  obtain ⟨⟨c1, c2, c3⟩, rfl⟩ := grd_some hg
  exact (eq_at I 60 a b X.A x y v u c3 c1 c2 oa ob rx ry (by omega)).2.1 X.prog X.w _ _ ⟨.bl _, H, I, rfl, k _ H NoA .refl rfl⟩
theorem fo_ne (hK : X.K = K) (hu : X.A.units + 64 < cLine) : OpR X (compareOp .NotEq) (rF2 K neD 3) := by
  subst hK
  intro pins s σ H x y v u Q I rx ry ⟨O, a, b, t, oa, ob, hd, hg, k⟩
  obtain ⟨⟨c1, c2, c3⟩, rfl⟩ := grd_some hg
  exact (eq_at I 60 a b X.A x y v u c3 c1 c2 oa ob rx ry (by omega)).2.2 X.prog X.w _ _ ⟨.bl _, H, I, rfl, k _ H NoA .refl rfl⟩
end
end L2
set_option Elab.async false
set_option linter.all false
set_option maxRecDepth 100000
set_option maxHeartbeats 4000000
namespace L2
open PySem PySem.Spec PyProof.Rows
theorem spF_len {K : PySem.W.Frag} {dps : List Nat} {dr n : Nat} {F : List D → Option (D × En)} {vs : List V} {H : Hp} {Q : VK} {E : XK} (hn : dps.length = n) (h : spF K dps dr F vs H Q E) : vs.length = n := by
  obtain ⟨Ox, ts, R, r, outs, e, _⟩ := h
  have := e.l2
  rw [List.length_map] at this
  omega
section
variable {X : Cx} {K : PySem.W.Frag} {p : Bool} {J : Jd} {ds ds0 ds1 ds2 ds3 ds' : List Nat} {d d' d1 d2 d3 : Nat} {a b c e : Expr} {st : Stmt} {f f1 f2 f3 : ME} {m : MS} {pos p2 : Pos}
abbrev MO := En → Option (Option Int × En)
def tFO (K : PySem.W.Frag) (p : Bool) (ds ds' : List Nat) (f : MO) : TO := fun σ H Q => ∃ Ox en R o en', EnvOk K ds Ox H σ en R ∧ f en = some (o, en') ∧ ∀ H' R', Post K p ds' Ox σ H en R en' H' R' NoA → Q o H'
def oNone : MO := fun en => some (none, en)
def oSome (f : ME) : MO := fun en => (f en).bind fun r => match r.1 with
  | .int i => some (some i, r.2)
  | _ => none
theorem PO.imp {X : Cx} {e : Option Expr} {t t' : TO} (h : PO X e t) (hi : ∀ σ H Q, t' σ H Q → t σ H Q) : PO X e t' := fun pins s σ H Q I hw => h pins s σ H Q I (hi _ _ _ hw)
theorem fo_none : PO X none (tFO K p ds ds oNone) := po_none.imp fun σ H Q ⟨Ox, en, R, o, en', e, hf, k⟩ => by
  cases hf
  exact k H R (Post.refl e)
theorem fo_some (h : PE X e (tF K p ds ds1 d f)) : PO X (some e) (tFO K p ds ds1 (oSome f)) := (po_some h).imp fun σ H Q ⟨Ox, en, R, o, en', e, hf, k⟩ => by
  unfold oSome at hf
  obtain ⟨⟨t1, en1⟩, h1, hf⟩ := Option.bind_eq_some_iff.mp hf
  refine ⟨Ox, en, R, t1, en1, e, h1, fun v H' R' F P o => ?_⟩
  cases t1 with
  | int i => cases hf; exact ⟨i, o, k H' R' (P.less fun _ z => z.elim)⟩
  | _ => cases hf
def rFs (K : PySem.W.Frag) (g : D → Option Int → Option Int → Option D) (d : Nat) : V → Option Int → Option Int → Hp → VK → Prop := fun x lo hi H Q => ∃ (O : AS) (a t : D), Ow K O H a 0 x NoA ∧ (∀ a, O a → ∃ o, H a = some o) ∧ g a lo hi = some t ∧ ∀ v H' F, NewTo H H' F → Ow K (U F O) H' t d v F → Q v H'
def eSl (g : D → Option Int → Option Int → Option D) (f : ME) (lo hi : MO) : ME := fun en => (f en).bind fun r => (lo r.2).bind fun l => (hi l.2).bind fun h => (g r.1 l.1 h.1).map fun t => (t, h.2)
variable {lo hi : MO}
theorem Ow.past0 {H1 H2 : Hp} {R1 R2 : Nat → AS} {Ox : AS} {σ : St} {en1 en2 : En} {F2 : AS} {t : D} {v : V} (P2 : Post K p ds2 Ox σ H1 en1 R1 en2 H2 R2 F2) (h : Ow K (Own R1 Ox) H1 t 0 v NoA) : Ow K (Own R2 Ox) H2 t 0 v NoA := by
  refine Ow.mv (G := NoA) ⟨fun a o q z => P2.keep a o q fun i zi => ?_, fun a z => ?_⟩ t (fun _ z => z) h
  · rcases z with z | z
    · exact z (.inl ⟨i, zi⟩)
    · exact z
  · rcases z with z | z
    · exact (P2.own a (.inr z)).imp .inl id
    · exact .inl (.inr z)
theorem f_sl {g : D → Option Int → Option Int → Option D} {σ : St} {H : Hp} {Q : VK} (h : tF K p ds ds3 d (eSl g f lo hi) σ H Q) : tSl (rFs K g d) (tF K p ds ds1 d1 f) (tFO K p ds1 ds2 lo) (tFO K p ds2 ds3 hi) σ H Q := by
  obtain ⟨Ox, en, R, t, en', e, hf, k⟩ := h
  unfold eSl at hf
  obtain ⟨⟨t1, en1⟩, h1, hf⟩ := Option.bind_eq_some_iff.mp hf
  obtain ⟨⟨l, en2⟩, h2, hf⟩ := Option.bind_eq_some_iff.mp hf
  obtain ⟨⟨u, en3⟩, h3, hf⟩ := Option.bind_eq_some_iff.mp hf
  obtain ⟨t', h4, hf⟩ := Option.map_eq_some_iff.mp hf
  cases hf
  refine ⟨Ox, en, R, t1, en1, e, h1, fun v H1 R1 F1 P1 o1 => ?_⟩
  have o0 := Ow.letgo P1 (fun _ z => z) o1
  refine ⟨Ox, en1, R1, l, en2, P1.env0, h2, fun H2 R2 P2 => ?_⟩
  refine ⟨Ox, en2, R2, u, en3, P2.env0, h3, fun H3 R3 P3 => ?_⟩
  have P := (P1.after P2).after P3
  rw [Bool.and_self, Bool.and_self] at P
  exact ⟨Own R3 Ox, t1, t, (o0.past0 P2).past0 P3, P3.doms, h4, fun v4 H4 F4 n4 o4 => k v4 H4 R3 F4 (P.fin n4) (Own_U ▸ o4)⟩
theorem SlR.imp {r r' : V → Option Int → Option Int → Hp → VK → Prop} (h : SlR X r) (hi : ∀ x lo hi H Q, r' x lo hi H Q → r x lo hi H Q) : SlR X r' := fun pins s σ H x v vl vu lo hi' sl Q I rx hs pl pu q => h pins s σ H x v vl vu lo hi' sl Q I rx hs pl pu (hi _ _ _ _ _ q)
theorem fe_slice {g : D → Option Int → Option Int → Option D} {elo ehi : Option Expr} (hr : SlR X (rFs K g d)) (he : PE X e (tF K p ds ds1 d1 f)) (hl : PO X elo (tFO K p ds1 ds2 lo)) (hu : PO X ehi (tFO K p ds2 ds3 hi)) : PE X (.Subscript e (.Slice elo ehi none p2) pos) (tF K p ds ds3 d (eSl g f lo hi)) :=
  (pe_slice hr he hl hu).imp fun _ _ _ => f_sl
def cutA {α : Type} (xs : List α) (lo hi : Option Int) : List α := (xs.drop (HT.sIx xs.length 0 lo)).take (HT.sIx xs.length xs.length hi - HT.sIx xs.length 0 lo)
def cutLD : D → Option Int → Option Int → Option D
  | .list ts, lo, hi => some (.list (cutA ts lo hi))
  | _, _, _ => none
theorem fl_list (hK : X.K = K) : SlR X (rFs K cutLD 1) := (kSlL hK).imp fun x lo hi H Q ⟨O, a, t, oa, hd, hg, k⟩ => by
  cases a with
  | list ts =>
    cases hg
    obtain ⟨a, vs, e1, f1, w1⟩ := oa.lst0
    refine ⟨a, vs, e1, f1.sq, fun p hp => ?_⟩
    have w2 : Ows K O H (cutA ts lo hi) 0 (cutV vs lo hi) NoA := by
      unfold cutA cutV
      rw [w1.len]
      exact (w1.drop _).take _
    exact k _ _ _ (ow_newL hp hd w2).1 (ow_newL hp hd w2).2
  | _ => cases hg
def cutS : D → Option Int → Option Int → Option D
  | .str z, lo, hi => grd (z.length ≤ sizeLine) (.str ⟨(cutL z.cps.toList lo hi).toArray⟩)
  | _, _, _ => none
theorem fl_str : SlR X (rFs K cutS 3) := sl_str.imp fun x lo hi H Q ⟨O, a, t, oa, hd, hg, k⟩ => by
  cases a with
  | str z =>
    obtain ⟨c, rfl⟩ := grd_some hg
    exact ⟨z, oa, c, k _ H NoA .refl rfl⟩
  | _ => cases hg
end
end L2
set_option Elab.async false
set_option linter.all false
set_option maxRecDepth 100000
set_option maxHeartbeats 4000000
namespace L2
open PySem PySem.Spec PyProof.Rows
def kEq : D → D → Bool
  | .int a, .int b => a == b
  | .str a, .str b => a == b
  | _, _ => false
theorem kEq_kD (a b : Key) : kEq (kD a) (kD b) = decide (a = b) := by
  cases a with
  | inl i => cases b with
    | inl j => rw [key_ll]; rfl
    | inr j => rw [key_lr]; rfl
  | inr i => cases b with
    | inl j => rw [key_rl]; rfl
    | inr j =>
      rw [key_rr]
      show (i == j) = _
      by_cases h : i = j
      · subst h; simp
      · rw [decide_eq_false h, beq_eq_false_iff_ne]; exact h
def kOf : D → Option Key
  | .int i => some (.inl i)
  | .str x => some (.inr x)
  | _ => none
theorem kOf_kD {a : D} {q : Key} (h : kOf a = some q) : a = kD q := by
  cases a <;> cases h <;> rfl
theorem ow_key {K : PySem.W.Frag} {O : AS} {H : Hp} {a : D} {q : Key} {d : Nat} {v : V} {F : AS} (h : kOf a = some q) (o : Ow K O H a d v F) : v = kV q := by
  cases a with
  | int i => cases h; exact o
  | str i => cases h; exact o
  | _ => cases h
def dlook (ks : List (D × D)) (q : D) : Option D := (ks.find? fun kv => kEq kv.1 q).map (·.2)
def dput (ks : List (D × D)) (q t : D) : List (D × D) := if ks.any (fun kv => kEq kv.1 q) then ks.map (fun kv => if kEq kv.1 q then (kv.1, t) else kv) else ks ++ [(q, t)]
section
variable {K : PySem.W.Frag} {O : AS} {H : Hp} {d : Nat}
theorem Owd.look : ∀ {ks : List (D × D)} {vs : List (Key × V)} {F : AS} (q : Key), Owd K O H ks d vs F → (∃ t v, dlook ks (kD q) = some t ∧ valV vs q = some v ∧ Ow K O H t d v F) ∨ (dlook ks (kD q) = none ∧ valV vs q = none)
  | [], _, _, q, h => by rw [show _ = [] from h]; exact .inr ⟨rfl, rfl⟩
  | (k, t) :: ks, _, F, q, h => by
    obtain ⟨q', v, r, F1, F2, e, e2, s1, s2, _, h4, h5⟩ := h
    subst e e2
    by_cases hq : q' = q
    · subst hq
      refine .inl ⟨t, v, ?_, valV_pos rfl, Ow.grow (fun _ z => z) t s1 h4⟩
      unfold dlook
      rw [List.find?_cons, kEq_kD, decide_eq_true rfl]
      rfl
    · have e1 : dlook ((kD q', t) :: ks) (kD q) = dlook ks (kD q) := by
        unfold dlook
        rw [List.find?_cons, kEq_kD, decide_eq_false hq]
      have e2 : valV ((q', v) :: r) q = valV r q := valV_neg hq
      rw [e1, e2]
      rcases Owd.look q h5 with ⟨t', v', a1, a2, a3⟩ | z
      · exact .inl ⟨t', v', a1, a2, Ow.grow (fun _ z => z) t' s2 a3⟩
      · exact .inr z
theorem Owd.any : ∀ {ks : List (D × D)} {vs : List (Key × V)} {F : AS} (q : Key), Owd K O H ks d vs F → ks.any (fun kv => kEq kv.1 (kD q)) = vs.any (fun kv => decide (kv.1 = q))
  | [], _, _, q, h => by rw [show _ = [] from h]; rfl
  | (k, t) :: ks, _, F, q, h => by
    obtain ⟨q', v, r, F1, F2, e, e2, _, _, _, _, h5⟩ := h
    subst e e2
    rw [List.any_cons, List.any_cons, kEq_kD, Owd.any q h5]
theorem Owd.len : ∀ {ks : List (D × D)} {vs : List (Key × V)} {F : AS}, Owd K O H ks d vs F → vs.length = ks.length
  | [], _, _, h => by rw [show _ = [] from h]; rfl
  | (k, t) :: ks, _, F, h => by
    obtain ⟨q', v, r, F1, F2, e, e2, _, _, _, _, h5⟩ := h
    rw [e, List.length_cons, List.length_cons, h5.len]
theorem Owd.rep0 {t : D} {v : V} {q : Key} (ht : Ow K O H t 0 v NoA) : ∀ {ks : List (D × D)} {vs : List (Key × V)}, Owd K O H ks 0 vs NoA → Owd K O H (ks.map fun kv => if kEq kv.1 (kD q) then (kv.1, t) else kv) 0 (vs.map fun kv => if kv.1 = q then (kv.1, v) else kv) NoA
  | [], _, h => by rw [show _ = [] from h]; rfl
  | (k, u) :: ks, _, h => by
    obtain ⟨q', w, r, F1, F2, e, e2, _, _, _, h4, h5⟩ := h
    subst e e2
    rw [List.map_cons, List.map_cons]
    have ih := Owd.rep0 (q := q) ht (Owd.any0 ks h5)
    dsimp only
    rw [kEq_kD]
    by_cases hq : q' = q
    · rw [if_pos hq, if_pos (decide_eq_true hq)]
      exact ⟨q', v, _, NoA, NoA, rfl, rfl, fun _ z => z, fun _ z => z, fun _ z => z.elim, ht, ih⟩
    · rw [if_neg hq, if_neg (by rw [decide_eq_false hq]; exact Bool.false_ne_true)]
      exact ⟨q', w, _, NoA, NoA, rfl, rfl, fun _ z => z, fun _ z => z, fun _ z => z.elim, Ow.any0 u h4, ih⟩
theorem Owd.snoc0 {t : D} {v : V} {q : Key} (ht : Ow K O H t 0 v NoA) : ∀ {ks : List (D × D)} {vs : List (Key × V)}, Owd K O H ks 0 vs NoA → Owd K O H (ks ++ [(kD q, t)]) 0 (vs ++ [(q, v)]) NoA
  | [], _, h => by
    rw [show _ = [] from h]
    exact ⟨q, v, [], NoA, NoA, rfl, rfl, fun _ z => z, fun _ z => z, fun _ z => z.elim, ht, rfl⟩
  | (k, u) :: ks, _, h => by
    obtain ⟨q', w, r, F1, F2, e, e2, _, _, _, h4, h5⟩ := h
    subst e e2
    exact ⟨q', w, _, NoA, NoA, rfl, rfl, fun _ z => z, fun _ z => z, fun _ z => z.elim, Ow.any0 u h4, Owd.snoc0 ht (Owd.any0 ks h5)⟩
theorem Owd.put0 {t : D} {v : V} {q : Key} {ks : List (D × D)} {vs : List (Key × V)} (h : Owd K O H ks 0 vs NoA) (ht : Ow K O H t 0 v NoA) : Owd K O H (dput ks (kD q) t) 0 (putK vs q v) NoA := by
  unfold dput putK
  rw [h.any q]
  by_cases hq : (vs.any fun kv => decide (kv.1 = q)) = true
  · rw [if_pos hq, if_pos hq]
    exact Owd.rep0 ht h
  · rw [if_neg hq, if_neg hq]
    exact Owd.snoc0 ht h
theorem Owd.past {ks : List (D × D)} {vs : List (Key × V)} {F : AS} {l : Addr} {o : HO} {O' : AS} (ho : ∀ a, O' a → O a) (hl : O l) (hf : ∀ b, F b → b ≠ l) (h : Owd K O H ks d vs F) : Owd K O' (upd H l o) ks d vs F := by
  refine Owd.mv (G := F) ⟨fun a u q z => ?_, fun a z => .inl (ho a z)⟩ ks (fun _ z => z) h
  rw [upd_ne]
  · exact q
  · intro za
    subst za
    rcases z with z | z
    · exact z hl
    · exact hf a z rfl
theorem Ow.dict0 {ks : List (D × D)} {v : V} (h : Ow K O H (.dict ks) 0 v NoA) : ∃ a vs, v = .ref a ∧ H a = some (.dK vs) ∧ Owd K O H ks 0 vs NoA := by
  obtain ⟨a, vs, e, ⟨_, h1, _, h2⟩ | ⟨z, _⟩⟩ := h
  · exact ⟨a, vs, e, h1, h2⟩
  · exact absurd rfl z
theorem Ow.dict1 {ks : List (D × D)} {v : V} {F : AS} (hd : d ≠ 0) (h : Ow K O H (.dict ks) d v F) : ∃ a vs, v = .ref a ∧ H a = some (.dK vs) ∧ F a ∧ ∃ F' : AS, (∀ b, F' b → F b ∧ b ≠ a) ∧ Owd K O H ks (dn d) vs F' := by
  obtain ⟨a, vs, e, ⟨z, _⟩ | ⟨_, h1, h2, h3⟩⟩ := h
  · exact absurd z hd
  · exact ⟨a, vs, e, h1, h2, h3⟩
end
def eDnew : ME := eC (.dict [])
def dIn : D → D → Option D
  | q, .dict ks => (kOf q).map fun _ => .bool (dlook ks q).isSome
  | _, _ => none
def dNotIn : D → D → Option D
  | q, .dict ks => (kOf q).map fun _ => .bool (!(dlook ks q).isSome)
  | _, _ => none
section
variable {X : Cx} {K : PySem.W.Frag} {p : Bool} {J : Jd} {ds ds0 ds1 ds2 ds' : List Nat} {d d' d1 d2 : Nat} {a b c e o k : Expr} {f f1 f2 fk fe : ME} {pos px spos : Pos} {i : Nat} {σ : St} {H : Hp} {Q : VK} {Dn : Ends}
theorem fe_dnew : PE X (.Dict [] [] pos) (tF K p ds ds 3 eDnew) := pe_dnewK.imp fun σ H Q ⟨Ox, en, R, t, en', e, hf, k⟩ => by
  cases hf
  intro l hl
  have n : NewTo H (upd H l (.dK [])) (fun b => b = l) := new_upd hl
  exact k (.ref l) _ R _ (Post.new e n.1 n.2) ⟨l, [], rfl, .inr ⟨by decide, upd_same, rfl, NoA, fun _ z => z.elim, rfl⟩⟩
def eDgetL (i : Nat) (f : ME) : ME := fun en => (en[i]?).join.bind fun _ => (f en).bind fun r => match (r.2[i]?).join with
  | some (.dict ks) => (kOf r.1).bind fun _ => (dlook ks r.1).map fun t => (t, r.2)
  | _ => none
theorem f_din {neg : Bool} (h : tF K p ds ds2 3 (e2 (if neg then dNotIn else dIn) f1 f2) σ H Q) : (if neg then tDNotIn else tDIn) (tF K p ds ds1 d1 f1) (tF K p ds1 ds2 d2 f2) σ H Q := by
  obtain ⟨Ox, en, R, t, en', e, hf, k⟩ := h
  unfold e2 at hf
  obtain ⟨⟨t1, en1⟩, h1, hf⟩ := Option.bind_eq_some_iff.mp hf
  obtain ⟨⟨t2, en2⟩, h2, hf⟩ := Option.bind_eq_some_iff.mp hf
  obtain ⟨t', h3, hf⟩ := Option.map_eq_some_iff.mp hf
  cases hf
  have go : ∀ (b : Bool → Bool), (∃ q ks, t2 = .dict ks ∧ kOf t1 = some q ∧ t = .bool (b (dlook ks t1).isSome)) → tF K p ds ds1 d1 f1 σ H fun y H1 => tF K p ds1 ds2 d2 f2 σ H1 fun x H2 => ∃ a o, x = .ref a ∧ DGet H2 a y o ∧ Q (.bl (b o.isSome)) H2 := fun b ⟨q, ks, e1, e2, e3⟩ => by
    subst e1 e3
    refine two (p1 := p) (p2 := p) e h1 h2 fun x y H2 R2 F1 F2 P o1 o2 => ?_
    rw [Bool.and_self] at P
    obtain ⟨a, vs, ex, ha, ow⟩ := (Ow.letgo P (fun _ => .inr) o2).dict0
    rw [kOf_kD e2] at k
    rcases ow.look q with ⟨t', v, a1, a2, a3⟩ | ⟨z1, z2⟩
    · rw [a1] at k
      refine ⟨a, some v, ex, ?_, k _ H2 R2 NoA (P.less fun _ z => z.elim) rfl⟩
      rw [← a2, ow_key e2 o1]
      exact DGet.k ha
    · rw [z1] at k
      refine ⟨a, none, ex, ?_, k _ H2 R2 NoA (P.less fun _ z => z.elim) rfl⟩
      rw [← z2, ow_key e2 o1]
      exact DGet.k ha
  cases neg with
  | true =>
    refine go (fun b => !b) ?_
    cases t2 with
    | dict ks =>
      obtain ⟨q, hq, e⟩ := Option.map_eq_some_iff.mp (show (kOf t1).map (fun _ => PyData.bool (!(dlook ks t1).isSome)) = some t from h3)
      exact ⟨q, ks, rfl, hq, e.symm⟩
    | _ => cases t1 <;> cases h3
  | false =>
    refine go (fun b => b) ?_
    cases t2 with
    | dict ks =>
      obtain ⟨q, hq, e⟩ := Option.map_eq_some_iff.mp (show (kOf t1).map (fun _ => PyData.bool (dlook ks t1).isSome) = some t from h3)
      exact ⟨q, ks, rfl, hq, e.symm⟩
    | _ => cases t1 <;> cases h3
theorem PC.imp {op : CmpOp} {t t' : TE} (h : PC X op a b t) (hi : ∀ σ H Q, t' σ H Q → t σ H Q) : PC X op a b t' := fun pins s σ H Q I hw => h pins s σ H Q I (hi _ _ _ hw)
theorem ft_dnin (hu : X.A.units + 1 < cLine) (ha : PE X a (tF K p ds ds1 d1 f1)) (hb : PE X b (tF K p ds1 ds2 d2 f2)) (h1 : behindInMarks .NotIn b = false) : PT X (.Compare a [.NotIn] [b] pos) (tFT K p ds ds2 (tV (e2 dNotIn f1 f2))) :=
  (pt_cmp ((pc_dnotin hu ha hb).imp fun _ _ _ => f_din (neg := true)) h1).imp fun _ _ _ => ft_val
def sDput (i : Nat) (fk fe : ME) : MS := fun en => (fe en).bind fun r => match (r.2[i]?).join with
  | some _ => (fk r.2).bind fun q => match (q.2[i]?).join with
    | some (.dict ks) => (kOf q.1).bind fun _ => if ks.length < sizeLine then some (.nx (q.2.set i (some (.dict (dput ks q.1 r.1))))) else none
    | _ => none
  | none => none
theorem fs_dput (hd : ds2[i]? = some 1) (h : tFS K J ds ds2 (sDput i fk fe) Dn σ H) : sDPut (tVar i) (tF K false ds1 ds2 d2 fk) (tF K false ds ds1 0 fe) Dn σ H := by
  obtain ⟨Ox, en, R, fl, e, hf, k⟩ := h
  unfold sDput at hf
  obtain ⟨⟨t1, en1⟩, h1, hf⟩ := Option.bind_eq_some_iff.mp hf
  dsimp only at hf
  split at hf
  case h_2 => cases hf
  next tt h0 =>
  obtain ⟨⟨t2, en2⟩, h2, hf⟩ := Option.bind_eq_some_iff.mp hf
  dsimp only at hf
  split at hf
  case h_2 => cases hf
  next ks h3 =>
  obtain ⟨q, hq, hf⟩ := Option.bind_eq_some_iff.mp hf
  by_cases hlen : ks.length < sizeLine
  case neg => rw [if_neg hlen] at hf; cases hf
  rw [if_pos hlen] at hf
  cases hf
  refine ⟨Ox, en, R, t1, en1, e, h1, fun x H1 R1 F1 P1 o1 => ?_⟩
  obtain ⟨v0, d0, a1, _, _⟩ := P1.env.at_ i tt (get_join h0)
  refine ⟨v0, a1, ?_⟩
  refine ⟨U F1 Ox, en1, R1, t2, en2, P1.env, h2, fun y H2 R2 F2 P2 o2 => ?_⟩
  have P := P1.trans P2
  have o1' := Ow.over P1.env P2 o1
  have w1 := Ow.letgo P (fun _ => .inl) o1'
  obtain ⟨v', d', b1, b2, b3⟩ := P.env.at_ i _ (get_join h3)
  rw [a1] at b1
  cases b1
  rw [hd] at b2
  cases b2
  obtain ⟨l, vs, el, hl, hr, F', hf', ow⟩ := b3.dict1 (by decide)
  have eq := ow_key hq o2
  subst eq
  refine ⟨l, _, el, DPut.k hl (by rw [ow.len]; exact hlen), ?_⟩
  have hi : i < en2.length := (List.getElem?_eq_some_iff.mp (get_join h3)).1
  have gG : ∀ a, (fun a => R2 i a) a → R2 i a ∨ U F1 F2 a := fun a z => .inl z
  have sub := Own_if (i := i) (R1 := R2) (Ox := Ox) (G := fun a => R2 i a) (F' := NoA) (F := U F1 F2) gG (fun _ z => z.elim)
  have Ol : Own R2 (U (U F1 F2) Ox) l := .inl ⟨i, hr⟩
  have PS := P.slot (G := fun a => R2 i a) (F' := NoA) (o2 := .dK (putK vs q x)) (t := .dict (dput ks t2 t1)) hr hi a1 hd gG (fun _ z => z.elim) (fun _ _ z => z) ?_
  · exact k σ _ _ PS.s
  refine ⟨l, putK vs q x, el, .inr ⟨by decide, upd_same, hr, NoA, fun _ z => z.elim, ?_⟩⟩
  rw [kOf_kD hq]
  refine Owd.put0 (Owd.past sub Ol (fun _ z => z.elim) (Owd.any0 ks ow)) ?_
  refine Ow.past (O := Own R2 Ox) (fun a z => ?_) (.inl ⟨i, hr⟩) (fun _ z => z.elim) w1
  rcases z with ⟨j, z⟩ | z | z
  · by_cases hj : j = i
    · rw [if_pos hj] at z; exact .inl ⟨i, z⟩
    · rw [if_neg hj] at z; exact .inl ⟨j, z⟩
  · exact z.elim
  · exact .inr z
theorem fps_dput {x : Str} (hu : X.A.units + 1 < cLine) (hN : X.N[i]? = some x) (hv : Vis X.env.scope x) (he : PE X e (tF K false ds ds1 0 fe)) (hk : PE X k (tF K false ds1 ds2 d2 fk)) (h1 : ds2[i]? = some 1)
    (hdb : (x == ("__debug__" : Str)) = false) (hcd : (x == ("__classdict__" : Str)) = false) (hs : swapsWith e (some (.Subscript (.Name x px) k spos)) pos.line X.env = pure false) :
    PS X (.Assign [.Subscript (.Name x px) k spos] e pos) (tFS K J ds ds2 (sDput i fk fe)) := (ps_dput hu (pe_var hN hv hdb hcd) hk he hs).imp fun _ _ _ => fs_dput h1
end
end L2
set_option Elab.async false
set_option linter.all false
set_option maxRecDepth 100000
set_option maxHeartbeats 4000000
namespace L2
open PySem PySem.Spec PyProof.Rows
def evP : List (ME × ME) → En → Option (List (D × D) × En)
  | [], en => some ([], en)
  | (fk, fv) :: r, en => (fk en).bind fun x => (fv x.2).bind fun y => (evP r y.2).bind fun z => (kOf x.1).map fun _ => ((x.1, y.1) :: z.1, z.2)
def mergeD (ks : List (D × D)) : List (D × D) := ks.foldl (fun acc kv => dput acc kv.1 kv.2) []
def eDisp (fs : List (ME × ME)) : ME := fun en => (evP fs en).bind fun r => if r.1.length ≤ 15 then some (.dict (mergeD r.1), r.2) else none
def OwP (K : PySem.W.Frag) (O : AS) (H : Hp) : List (D × D) → List (V × V) → Prop
  | [], ps => ps = []
  | (k, t) :: r, ps => ∃ q v s, ps = (kV q, v) :: s ∧ k = kD q ∧ Ow K O H t 0 v NoA ∧ OwP K O H r s
section
variable {X : Cx} {K : PySem.W.Frag} {p : Bool} {J : Jd} {ds ds0 ds1 ds2 ds' : List Nat} {d d' d1 d2 : Nat} {a b c e o k : Expr} {es : List Expr} {f f1 f2 fk fe : ME} {fa : MA} {sh : Sh} {pos px spos : Pos} {i j : Nat} {σ : St} {H : Hp} {Q : VK} {Dn : Ends}
theorem OwP.mv {O O' : AS} {H H' : Hp} (m : Mv O O' NoA H H') : ∀ {ks : List (D × D)} {ps : List (V × V)}, OwP K O H ks ps → OwP K O' H' ks ps
  | [], _, h => h
  | (k, t) :: r, _, h => by
    obtain ⟨q, v, s, e1, e2, o, h⟩ := h
    exact ⟨q, v, s, e1, e2, Ow.mv m t (fun _ z => z) o, OwP.mv m h⟩
end
section
variable {X : Cx} {K : PySem.W.Frag}
end
end L2
set_option Elab.async false
set_option linter.all false
set_option maxRecDepth 100000
set_option maxHeartbeats 4000000
namespace L2
open PySem PySem.Spec PyProof.Rows
section
variable {X : Cx} {K : PySem.W.Frag} {O : AS} {H : Hp} {ts us : List D} {vs ws : List V} {x y : V} {d : Nat} {Q : VK}
def rSumA (K : PySem.W.Frag) : List V → Hp → VK → Prop := fun xs H Q => ∃ (p : Addr) (ns : List Int), xs = [.ref p] ∧ SqL K H p (ns.map V.int) ∧ Q (.int ns.sum) H
theorem call_sumA (hc : X.calm = true) : CallR X (.builtin "sum") (rSumA X.K) := by
  intro pins s σ H xs us Q I r h
  obtain ⟨p, ns, rfl, hp, q⟩ := h
  obtain ⟨u, rfl, ru⟩ := vals1 r
  cases ru
  obtain ⟨its, rv, pl, hz⟩ := I.list hp
  have hl : its.length = ns.length := by rw [← rv.length, List.length_map]
  have hlt : p < s.heap.objs.size := by
    obtain ⟨o, n, e, _⟩ := id pl
    exact Heap.lt_size e
  have hsz : its.toArray.size = ns.length := by rw [List.size_toArray, hl]
  refine call_sum_walkAnyS (wpAny_pyIter_list pl.isList ?_)
  refine ⟨s.heap.objs.size, [s.heap.objs.size, p], [s.heap.objs.size], _, its.toArray.size, fun i v => its.toArray[i]? = some v, _, fun i => ns.getD i 0, rfl, (Walks.list (A := X.A.in1) (show X.A.in1.handled = none from I.ok.hd hc) s.heap.objs.size p (Nat.ne_of_lt hlt) its.toArray).toS, ?_, ?_, ?_, ?_⟩
  · exact ⟨⟨_, Heap.get?_push_size _ rfl, rfl, rfl⟩, pl.isList.push _⟩
  · intro b hb
    show b < (s.heap.push _).objs.size
    rw [Heap.size_push]
    have hb' : b = s.heap.objs.size ∨ b = p := by simpa using hb
    rcases hb' with rfl | rfl
    · exact Nat.lt_succ_self _
    · exact Nat.lt_succ_of_lt hlt
  · intro i v hv
    have hv' : its[i]? = some v := by simpa using hv
    have hi : i < ns.length := by
      rw [← hl]
      exact (List.getElem?_eq_some_iff.mp hv').1
    obtain ⟨u, hu, ru⟩ := rv.get (i := i) (x := V.int ns[i]) (by rw [List.getElem?_map, List.getElem?_eq_getElem hi]; rfl)
    rw [hu] at hv'
    cases hv'
    obtain ⟨t, rfl⟩ := ru
    refine ⟨t, ?_⟩
    show Value.int ns[i] t = Value.int (ns.getD i 0) t
    rw [List.getD_eq_getElem?_getD, List.getElem?_eq_getElem hi]
    rfl
  · intro s' t' hm
    have e : preSum (fun i => ns.getD i 0) its.toArray.size = ns.sum := by
      rw [hsz, preSum_take ns ns.length (Nat.le_refl _), List.take_length]
    rw [e]
    obtain ⟨hh, g, dr, tk, os'⟩ := s'
    have e1 : dr = s.drawn := hm.drawn
    have e2 : os' = s.os := hm.os
    have e3 : g = s.gens := hm.gens
    subst e1 e2 e3
    refine ⟨.int ns.sum, H, I.kept (t' := tk) fun b o z => hm.heap b o ?_ (Heap.get?_push_of_some _ z), ⟨_, rfl⟩, q⟩
    intro z'
    have z'' : b = s.heap.objs.size := by simpa using z'
    exact Nat.ne_of_lt (Heap.lt_size z) z''
def intsOf : List D → Option (List Int)
  | [] => some []
  | .int i :: r => (intsOf r).map (i :: ·)
  | _ :: _ => none
theorem ows_ints : ∀ {ts : List D} {vs : List V} {bs : List Int}, Ows K O H ts 0 vs NoA → intsOf ts = some bs → vs = bs.map V.int
  | [], _, _, h, hb => by cases hb; exact h
  | .int b :: r, _, _, h, hb => by
    obtain ⟨v, w, F1, F2, e, _, _, _, h4, h5⟩ := h
    obtain ⟨bs', h6, h7⟩ := Option.map_eq_some_iff.mp hb
    subst e h7
    rw [show v = .int b from h4, ows_ints (Ows.any0 r h5) h6]
    rfl
  | .none :: _, _, _, _, hb => by cases hb
  | .bool _ :: _, _, _, _, hb => by cases hb
  | .str _ :: _, _, _, _, hb => by cases hb
  | .list _ :: _, _, _, _, hb => by cases hb
  | .tuple _ :: _, _, _, _, hb => by cases hb
  | .dict _ :: _, _, _, _, hb => by cases hb
def sumD : List D → Option D
  | [.list ts] => (intsOf ts).map fun ns => .int ns.sum
  | _ => none
theorem fo_sum (hK : X.K = K) (hc : X.calm = true) : CallR X (.builtin "sum") (rFn K sumD 3) := by
  subst hK
  refine (call_sumA hc).imp fun xs H Q ⟨O, as, t, oa, hd, hg, k⟩ => ?_
  match as, hg with
  | [.list ts], hg =>
    obtain ⟨ns, h1, rfl⟩ := Option.map_eq_some_iff.mp hg
    obtain ⟨v, rfl, o⟩ := oa.one
    obtain ⟨a, vs, rfl, fz, w⟩ := o.lst0
    have e := ows_ints w h1
    subst e
    exact ⟨a, ns, rfl, fz.sq, k _ H NoA .refl rfl⟩
end
end L2
set_option Elab.async false
set_option linter.all false
set_option maxRecDepth 100000
set_option maxHeartbeats 4000000
namespace L2
open PySem PySem.Spec PyProof.Rows
section
variable {X : Cx} {K : PySem.W.Frag} {p : Bool} {ds ds1 : List Nat} {O : AS} {H : Hp} {σ : St} {d : Nat} {f : ME} {i : Nat} {e : Expr} {Q : VK}
theorem Ows.cat {us : List D} {ws : List V} {F2 : AS} : ∀ {ts : List D} {vs : List V} {F1 : AS}, Ows K O H ts d vs F1 → Ows K O H us d ws F2 → (∀ b, F1 b → ¬ F2 b) → Ows K O H (ts ++ us) d (vs ++ ws) (U F1 F2)
  | [], vs, F1, h, h2, _ => by
    have e : vs = [] := h
    subst e
    exact Ows.mv (G := fun _ => True) ⟨fun _ _ q _ => q, fun _ z => .inl z⟩ us (fun _ _ => trivial) (Ows.grow (fun _ z => z) us (fun _ z => .inr z) h2)
  | u :: ts, vs, F1, h, h2, hd => by
    obtain ⟨w, r, G1, G2, e, s1, s2, s3, h4, h5⟩ := h
    subst e
    refine ⟨w, r ++ ws, G1, U G2 F2, rfl, fun b z => .inl (s1 b z), fun b z => z.imp (s2 b) id, fun b z z2 => ?_, h4, Ows.cat h5 h2 fun b z => hd b (s2 b z)⟩
    rcases z2 with z2 | z2
    · exact s3 b z z2
    · exact hd b (s1 b z) z2
end
end L2
set_option Elab.async false
set_option linter.all false
set_option maxRecDepth 100000
set_option maxHeartbeats 4000000
namespace L2
open PySem PySem.Spec PyProof.Rows
section
variable {X : Cx} {K : PySem.W.Frag} {p : Bool} {ds ds1 : List Nat} {d : Nat} {fa : MA} {sh : Sh} {O O1 : AS} {H0 H : Hp} {ts us : List D} {vs ws : List V} {a b : Addr}
end
end L2
set_option Elab.async false
set_option linter.all false
set_option maxRecDepth 100000
set_option maxHeartbeats 4000000
namespace L2
open PySem PySem.Spec PyProof.Rows
section
variable {X : Cx} {K : PySem.W.Frag} {p : Bool} {ds ds1 : List Nat} {d1 : Nat} {e : Expr} {f : ME}
end
end L2
set_option Elab.async false
set_option linter.all false
set_option maxRecDepth 100000
set_option maxHeartbeats 4000000
namespace L2
open PySem PySem.Spec PyProof.Rows
section
variable {X : Cx} {K : PySem.W.Frag} {p p1 p2 : Bool} {ds ds1 ds2 : List Nat} {d d1 : Nat} {e : Expr} {f : ME} {fa : MA} {sh : Sh} {σ : St} {H : Hp} {Q : VK}
def eM (g : Str → List D → Option D) (f : ME) (fa : MA) : ME := fun en => (f en).bind fun r => match r.1 with
  | .str z => (fa r.2).bind fun q => (vals q.1).bind fun ts => (g z ts).map fun t => (t, q.2)
  | _ => none
structure MtF (K : PySem.W.Frag) (r : V → List V → Hp → VK → Prop) (g : Str → List D → Option D) : Prop where
  h : ∀ {O : AS} {H : Hp} {z : Str} {ts : List D} {xs : List V} {t : D} {Q : VK}, Ows K O H ts 0 xs NoA → g z ts = some t → (∀ v, Ow K O H t 3 v NoA → Q v H) → r (.str z) xs H Q
theorem f_strm {r : V → List V → Hp → VK → Prop} {g : Str → List D → Option D} (hr : MtF K r g) (hs : shAll 0 sh = true) (h : tF K (p1 && p2) ds ds2 3 (eM g f fa) σ H Q) : tBM K "str" r (tF K p1 ds ds1 d1 f) (tFA K p2 ds1 ds2 sh fa) σ H Q := by
  obtain ⟨Ox, en, R, t, en', e, hf, k⟩ := h
  unfold eM at hf
  obtain ⟨⟨t1, en1⟩, h1, hf⟩ := Option.bind_eq_some_iff.mp hf
  dsimp only at hf
  split at hf
  case h_2 => cases hf
  next z =>
  obtain ⟨⟨as, en2⟩, h2, hf⟩ := Option.bind_eq_some_iff.mp hf
  obtain ⟨ts, h3, hf⟩ := Option.bind_eq_some_iff.mp hf
  obtain ⟨t', h4, hf⟩ := Option.map_eq_some_iff.mp hf
  cases hf
  refine ⟨Ox, en, R, .str z, en1, e, h1, fun x H1 R1 F1 P1 o1 => ?_⟩
  have ex : x = .str z := o1
  subst ex
  refine ⟨rfl, Ox, en1, R1, as, en2, P1.env0, h2, fun vs H2 R2 F P2 o => ?_⟩
  have P := P1.after P2
  obtain ⟨F', s1, s2⟩ := OwA.ows hs h3 o
  have o2 : Ows K (Own R2 Ox) H2 ts 0 vs F' := s2 _ (fun a z => z.imp id .inr) fun a z z2 => by
    rcases z2 with ⟨i, z2⟩ | z2
    · exact absurd (.inl z) (P.env.dx i a z2)
    · exact absurd z2 (P.fx a z)
  refine hr.h (Ows.any0 ts o2) h4 fun v ov => k v H2 R2 NoA (P.less fun _ z => z.elim) ?_
  rw [U_no]
  exact ov
def joinD : Str → List D → Option D
  | sep, [.list ts] => (strsOf ts).bind fun ys => if sep.length ≤ 16 ∧ (ys.map (·.length)).sum + ys.length ≤ 1048576 then some (.str (Txt.join sep ys)) else none
  | sep, [.tuple ts] => (strsOf ts).bind fun ys => if sep.length ≤ 16 ∧ (ys.map (·.length)).sum + ys.length ≤ 1048576 then some (.str (Txt.join sep ys)) else none
  | _, _ => none
where strsOf : List D → Option (List Str)
  | [] => some []
  | .str z :: r => (strsOf r).map (z :: ·)
  | _ :: _ => none
theorem ows_strs {O : AS} : ∀ {ts : List D} {ys : List Str} {xs : List V}, joinD.strsOf ts = some ys → Ows K O H ts 0 xs NoA → xs = ys.map V.str
  | [], ys, xs, h, o => by
    cases h
    exact o
  | t :: ts, ys, xs, h, o => by
    obtain ⟨v, r, F1, F2, e, _, _, _, h4, h5⟩ := o
    cases t with
    | str z =>
      obtain ⟨ys', h6, rfl⟩ := Option.map_eq_some_iff.mp h
      have e4 : v = .str z := h4
      rw [e, e4, ows_strs h6 (Ows.any0 ts h5)]
      rfl
    | _ => cases h
theorem fm_join : MtF K (rJoin K) joinD where
  h := fun {O H z ts xs t Q} o hg q => by
    unfold joinD at hg
    split at hg
    · next us =>
      obtain ⟨ys, h1, h2⟩ := Option.bind_eq_some_iff.mp hg
      by_cases hc : z.length ≤ 16 ∧ (ys.map (·.length)).sum + ys.length ≤ 1048576
      case neg => rw [if_neg hc] at h2; cases h2
      rw [if_pos hc] at h2
      cases h2
      obtain ⟨v, r, F1, F2, e, _, _, _, h4, h5⟩ := o
      have e5 : r = [] := h5
      subst e5 e
      obtain ⟨a, vs, rfl, fz, w⟩ := (Ow.any0 _ h4).lst0
      have e6 := ows_strs h1 w
      subst e6
      exact ⟨z, ys, a, rfl, rfl, .inl fz.sq, hc.1, hc.2, q _ rfl⟩
    · next us =>
      obtain ⟨ys, h1, h2⟩ := Option.bind_eq_some_iff.mp hg
      by_cases hc : z.length ≤ 16 ∧ (ys.map (·.length)).sum + ys.length ≤ 1048576
      case neg => rw [if_neg hc] at h2; cases h2
      rw [if_pos hc] at h2
      cases h2
      obtain ⟨v, r, F1, F2, e, _, _, _, h4, h5⟩ := o
      have e5 : r = [] := h5
      subst e5 e
      obtain ⟨a, vs, rfl, fz, w⟩ := (Ow.any0 _ h4).tup0
      have e6 := ows_strs h1 w
      subst e6
      exact ⟨z, ys, a, rfl, rfl, .inr fz.sq, hc.1, hc.2, q _ rfl⟩
    · cases hg
def indexD : Str → List D → Option D
  | z, [.str y] => match Builtin.Str.occurrences z y 0 z.length 1 with
    | i :: _ => some (.int (i : Nat))
    | [] => none
  | _, _ => none
theorem ows_str1 {O : AS} {y : Str} {xs : List V} (o : Ows K O H [.str y] 0 xs NoA) : xs = [.str y] := by
  obtain ⟨v, r, F1, F2, e, _, _, _, h4, h5⟩ := o
  have e4 : v = .str y := h4
  have e5 : r = [] := h5
  rw [e, e4, e5]
theorem fm_index : MtF K rIndex indexD where
  h := fun {O H z ts xs t Q} o hg q => by
    unfold indexD at hg
    split at hg
    · next y =>
      split at hg
      · next i rest he =>
        cases hg
        exact ⟨z, y, i, rest, rfl, ows_str1 o, he, q _ rfl⟩
      · cases hg
    · cases hg
theorem fe_strm {o : Expr} {es : List Expr} {name : Str} {id : String} {apos cpos : Pos} {r : V → List V → Hp → VK → Prop} {g : Str → List D → Option D} (hK : X.K = K) (slot : Slot "str" name id) (hty : typeOf (.builtin id) = pure (.type "method_descriptor")) (hm : MtR X id r) (hr : MtF K r g) (ho : PE X o (tF K p ds ds1 d1 f)) (ha : PA X (e :: es) (tFA K p ds1 ds2 sh fa))
    (hsh : shAll 0 sh = true) (hbase : attributeBase o name X.env (eval o X.env) = eval o X.env)
    (hfew : ((backTo cpos (starEach (e :: es) X.env)).all (fun x => !x.1) && (backToKw cpos (keywordEach [] X.env)).all (fun x => x.1.isSome)
      && decide ((e :: es).length + ([] : List Keyword).length + (if ([] : List Keyword).isEmpty then 0 else 1) < 30)) = true)
    (hline : (apos.endLine == cpos.line) = true) (hs : starEach (e :: es) X.env = (false, eval e X.env) :: starEach es X.env) (hplain : (backTo cpos (starEach es X.env)).any (·.1) = false) :
    PE X (.Call (.Attribute o name apos) (e :: es) [] cpos) (tF K p ds ds2 3 (eM g f fa)) := by
  subst hK
  exact (pe_bm PySem.F.plainAttrs_str slot hty hm ho ha hbase hfew hline hs hplain).imp fun _ _ _ h => f_strm hr hsh (by rw [Bool.and_self]; exact h)
end
end L2
set_option Elab.async false
set_option linter.all false
set_option maxRecDepth 100000
set_option maxHeartbeats 4000000
namespace L2
open PySem PySem.Spec PyProof.Rows
section
variable {X : Cx} {K : PySem.W.Frag} {pins : List (Addr × Obj)} {σ : St} {H : Hp} {s : Shared} {O : AS}
mutual
theorem Ow.reads (I : Inv X pins σ H s) : ∀ (t : D) {v : V} {u : Value}, noDict t = true → Ow X.K O H t 0 v NoA → RelV v u → ∃ as, Reads s.heap u t as
  | .none, _, _, _, h, r => by
    cases (show _ = V.non from h)
    cases r
    exact ⟨_, .none⟩
  | .bool b, _, _, _, h, r => by
    cases (show _ = V.bl b from h)
    cases r
    exact ⟨_, .bool _⟩
  | .int i, _, _, _, h, r => by
    cases (show _ = V.int i from h)
    obtain ⟨t, rfl⟩ := r
    exact ⟨_, .int _ _⟩
  | .str x, _, _, _, h, r => by
    cases (show _ = V.str x from h)
    obtain ⟨t, rfl⟩ := r
    exact ⟨_, .str _ _⟩
  | .list ts, _, _, hn, h, r => by
    obtain ⟨p, vs, rfl, fz, w⟩ := h.lst0
    cases r
    obtain ⟨its, rv, ⟨o, n, e1, e2, _, e3⟩, _⟩ := I.list fz.sq
    obtain ⟨as, ra⟩ := Ows.reads I ts (by simpa [noDict] using hn) w rv
    exact ⟨_, .list e1 e2 e3 (by simpa using ra)⟩
  | .tuple ts, _, _, hn, h, r => by
    obtain ⟨p, vs, rfl, fz, w⟩ := h.tup0
    cases r
    obtain ⟨its, rv, ⟨o, e1, e2, n, e3⟩, _⟩ := I.tuple fz.sq
    obtain ⟨as, ra⟩ := Ows.reads I ts (by simpa [noDict] using hn) w rv
    exact ⟨_, .tuple e1 e2 e3 (by simpa using ra)⟩
  | .dict _, _, _, hn, _, _ => by simp [noDict] at hn
theorem Ows.reads (I : Inv X pins σ H s) : ∀ (ts : List D) {vs : List V} {us : List Value}, noDicts ts = true → Ows X.K O H ts 0 vs NoA → Vals vs us → ∃ as, ReadsAll s.heap us ts as
  | [], _, _, _, h, r => by
    cases (show _ = [] from h)
    cases r
    exact ⟨_, .nil⟩
  | t :: ts, _, _, hn, h, r => by
    obtain ⟨v, q, F1, F2, e, _, _, _, h4, h5⟩ := h
    subst e
    have hn' : noDict t = true ∧ noDicts ts = true := by simpa [noDicts] using hn
    cases r with
    | cons ru rr =>
      obtain ⟨as, a1⟩ := Ow.reads I t hn'.1 (Ow.any0 t h4) ru
      obtain ⟨bs, a2⟩ := Ows.reads I ts hn'.2 (Ows.any0 ts h5) rr
      exact ⟨_, .cons a1 a2⟩
end
mutual
theorem noDict_has : ∀ t : D, noDict t = true → t.hasDict = false
  | .none, _ => by simp only [PyData.hasDict]
  | .bool _, _ => by simp only [PyData.hasDict]
  | .int _, _ => by simp only [PyData.hasDict]
  | .str _, _ => by simp only [PyData.hasDict]
  | .list ts, h => by simp only [PyData.hasDict]; exact noDicts_has ts (by simpa [noDict] using h)
  | .tuple ts, h => by simp only [PyData.hasDict]; exact noDicts_has ts (by simpa [noDict] using h)
  | .dict _, h => by simp [noDict] at h
theorem noDicts_has : ∀ ts : List D, noDicts ts = true → PyData.hasDictAll ts = false
  | [], _ => by simp only [PyData.hasDictAll]
  | t :: ts, h => by
    have h' : noDict t = true ∧ noDicts ts = true := by simpa [noDicts] using h
    simp only [PyData.hasDictAll, noDict_has t h'.1, noDicts_has ts h'.2, Bool.or_self]
end
def reprD : List D → Option D
  | [.dict []] => some (.str "{}")
  | [t] => grd (noDict t = true ∧ t.showable = true ∧ t.depth ≤ 60 ∧ t.shown.length ≤ sizeLine) (.str t.shown)
  | _ => none
theorem fo_repr (hK : X.K = K) (hg : X.A.guards = some []) (hu : X.A.units + 64 < cLine) : CallR X (.builtin "repr") (rFn K reprD 3) := by
  subst hK
  intro pins s σ H xs us Q I r ⟨O, as, t, oa, hd, hr, k⟩
  unfold reprD at hr
  split at hr
  · cases hr
    obtain ⟨v, rfl, o⟩ := oa.one
    obtain ⟨a, vs, rfl, ⟨_, g1, _, g2⟩ | ⟨z, _⟩⟩ := o
    · have e : vs = [] := g2
      subst e
      exact call_repr2 hg hu pins s σ H _ us Q I r ⟨_, _, rfl, .inr ⟨a, rfl, g1, rfl⟩, k _ H NoA .refl rfl⟩
    · exact absurd rfl z
  · next d hne =>
    obtain ⟨⟨c1, c2, c3, c4⟩, rfl⟩ := grd_some hr
    obtain ⟨v, rfl, o⟩ := oa.one
    obtain ⟨u, rfl, ru⟩ := vals1 r
    obtain ⟨as, rd⟩ := Ow.reads I d c1 o ru
    have q := k (.str d.shown) H NoA .refl rfl
    cases d with
    | none =>
      cases (show v = V.non from o)
      cases ru
      have e : (PyData.none).shown = ("None" : Str) := PyData.shown_none
      rw [e] at q
      exact P.repr_of_none ⟨.str _, H, I.tok _, ⟨_, rfl⟩, q⟩
    | bool b =>
      cases (show v = V.bl b from o)
      cases ru
      have e : (PyData.bool b).shown = (if b then "True" else "False" : Str) := PyData.shown_bool b
      rw [e] at q
      exact P.repr_of_bool ⟨.str (if b then "True" else "False"), H, I.tok _, ⟨_, rfl⟩, q⟩
    | int i =>
      cases (show v = V.int i from o)
      obtain ⟨t, rfl⟩ := ru
      have e : (PyData.int i).shown = ((toString i : String) : Str) := PyData.shown_int i
      rw [e] at q
      have hl : i.natAbs.log2 < 1920 := by simpa [PyData.showable] using c2
      exact P.repr_of_int hl ⟨.str _, H, I.tok _, ⟨_, rfl⟩, q⟩
    | str y =>
      cases (show v = V.str y from o)
      obtain ⟨t, rfl⟩ := ru
      have e : (PyData.str y).shown = reprText y := PyData.shown_str y
      rw [e] at q c4
      exact P.repr_of_str ⟨.str _, H, I.tok _, ⟨_, rfl⟩, q⟩ c4
    | list ts =>
      obtain ⟨p, vs, rfl, _, _⟩ := o.lst0
      cases ru
      exact repr_of_reads' rd c2 (PyData.noDict_hsm (noDict_has _ c1)) hg (by omega) (fun _ _ e => e) (fun h' u tk hk => ⟨.str _, H, I.kept (t' := tk) hk, ⟨_, rfl⟩, q⟩) c4
    | tuple ts =>
      obtain ⟨p, vs, rfl, _, _⟩ := o.tup0
      cases ru
      exact repr_of_reads' rd c2 (PyData.noDict_hsm (noDict_has _ c1)) hg (by omega) (fun _ _ e => e) (fun h' u tk hk => ⟨.str _, H, I.kept (t' := tk) hk, ⟨_, rfl⟩, q⟩) c4
    | dict _ => simp [noDict] at c1
  · cases hr
end
section
open PySem.SeqAt Classical
variable {X : Cx} {K : PySem.W.Frag} {pins : List (Addr × Obj)} {σ : St} {H : Hp} {s : Shared} {O : AS}
end
end L2
set_option Elab.async false
set_option linter.all false
set_option maxRecDepth 100000
set_option maxHeartbeats 4000000
namespace L2
open PySem PySem.Spec PyProof.Rows
def PathV (H : Hp) : V → List Nat → V → Prop
  | v, [], w => v = w
  | v, k :: π, w => ∃ a vs u, v = .ref a ∧ (H a = some (.lst vs) ∨ H a = some (.tup vs)) ∧ vs[k]? = some u ∧ PathV H u π w
theorem PathV.mono {H H' : Hp} (hk : ∀ a o, H a = some o → H' a = some o) : ∀ {π : List Nat} {v w : V}, PathV H v π w → PathV H' v π w
  | [], _, _, h => h
  | _ :: _, _, _, ⟨a, vs, u, e, h1, h2, h3⟩ => ⟨a, vs, u, e, h1.imp (hk _ _) (hk _ _), h2, h3.mono hk⟩
theorem PathV.snoc {H : Hp} {a : Addr} {vs : List V} {u : V} {k : Nat} (h1 : H a = some (.lst vs) ∨ H a = some (.tup vs)) (h2 : vs[k]? = some u) : ∀ {π : List Nat} {v : V}, PathV H v π (.ref a) → PathV H v (π ++ [k]) u
  | [], _, h => ⟨a, vs, u, h, h1, h2, rfl⟩
  | _ :: _, _, ⟨a', vs', u', e, g1, g2, g3⟩ => ⟨a', vs', u', e, g1, g2, PathV.snoc h1 h2 g3⟩
section
variable {K : PySem.W.Frag} {O : AS} {H : Hp}
end
abbrev MP := En → Option (List Nat × En)
section
variable {X : Cx} {K : PySem.W.Frag} {p p1 p2 : Bool} {J : Jd} {ds ds1 ds2 : List Nat} {H : Hp} {σ : St} {d d1 d2 i m : Nat} {f fk fe : ME} {mp : MP} {e b o : Expr} {Q : VK}
end
end L2
namespace L2
open PySem PySem.Spec PyProof.Rows
end L2
set_option Elab.async false
set_option linter.all false
set_option maxRecDepth 100000
set_option maxHeartbeats 4000000
namespace L2
open PySem PySem.Spec PyProof.Rows
structure QE (X : Cx) (e : Expr) (t : TE) : Prop where
  h : PE X e t
structure QT (X : Cx) (e : Expr) (t : TT) : Prop where
  h : PT X e t
structure QW (X : Cx) (e : Expr) (t : TT) : Prop where
  h : PW X e t
structure QA (X : Cx) (e : List Expr) (t : TA) : Prop where
  h : PA X e t
structure QS (X : Cx) (e : Stmt) (t : TS) : Prop where
  h : PS X e t
structure QSs (X : Cx) (e : List Stmt) (t : TS) : Prop where
  h : PSs X e t
structure QG (X : Cx) (e : Expr) (t : TG) : Prop where
  h : PG X e t
structure QGs (X : Cx) (e : List Expr) (t : TGs) : Prop where
  h : PGs X e t
structure QI (X : Cx) (tg e : Expr) (t : TI) : Prop where
  h : PI X tg e t
structure QTs (X : Cx) (e : List Expr) (t : TT) : Prop where
  h : PTs X e t
structure QO (X : Cx) (e : Option Expr) (t : TO) : Prop where
  h : PO X e t
theorem qpt {X : Cx} {e : Expr} {t : TT} (h : QW X e t) : QT X e t := ⟨h.h.pt⟩
section
variable {X : Cx} {K : PySem.W.Frag} {p p1 p2 q : Bool} {ds ds0 ds1 ds2 ds' dsi : List Nat} {d d' d1 d2 : Nat} {a b c e : Expr} {es : List Expr} {f f1 f2 : ME} {m c1 c2 : MT} {fa : MA} {sh : Sh} {pos : Pos} {i : Nat} {x : Str}
theorem fe_var_q {x : Str} (hN : X.N[i]? = some x) (hv : Vis X.env.scope x) (h0 : ds[i]? = some 0) (hd : (x == ("__debug__" : Str)) = false) (hcd : (x == ("__classdict__" : Str)) = false) : QE X (.Name x pos) (tF K p ds ds 0 (eVar i)) := ⟨fe_var hN hv h0 hd hcd⟩
theorem fe_int_q {n : Int} {j} : QE X (.Constant (.int n) j pos) (tF K p ds ds 3 (eC (.int n))) := ⟨fe_int⟩
theorem fe_bl_q {n : Bool} {j} : QE X (.Constant (.bool n) j pos) (tF K p ds ds 3 (eC (.bool n))) := ⟨fe_bl⟩
theorem fe_non_q {j} : QE X (.Constant .none j pos) (tF K p ds ds 3 (eC .none)) := ⟨fe_non⟩
theorem fe_str_q {n : Str} {j} : QE X (.Constant (.str n) j pos) (tF K p ds ds 3 (eC (.str n))) := ⟨fe_str⟩
theorem fe_globI_q {x : Str} {n : Int} {t : Tok} (hg : Gl X x) (hm : X.mg x = some (.int n t)) (hd : (x == ("__debug__" : Str)) = false) : QE X (.Name x pos) (tF K p ds ds 3 (eC (.int n))) := ⟨fe_globI hg hm hd⟩
theorem fe_sub_q (h : QE X e (tF K p ds ds' d f)) (hd : d' ≤ d) : QE X e (tF K p ds ds' d' f) := ⟨fe_sub h.h hd⟩
theorem fe_fz_q (h : QE X e (tF K p ds0 ds' d f)) (hd : leD ds0 ds = true) : QE X e (tF K false ds ds' d f) := ⟨fe_fz h.h hd⟩
theorem fe_bor_q (h : QE X e (tF K true ds0 ds0 3 f)) (hd : leD ds0 ds = true) : QE X e (tF K p ds ds 3 f) := ⟨fe_bor h.h hd⟩
theorem fe_op_q {op : Operator} {g : D → D → Option D} (ho : OpR X (binaryOp op) (rF2 K g d)) (ha : QE X a (tF K p ds ds1 d1 f1)) (hb : QE X b (tF K p ds1 ds2 d2 f2)) : QE X (.BinOp a op b pos) (tF K p ds ds2 d (e2 g f1 f2)) := ⟨fe_op ho ha.h hb.h⟩
theorem fe_un_q {op : UnaryOp} {g : D → Option D} (ho : UnR X (unaryOp op) (rF1 K g d)) (ha : QE X a (tF K p ds ds1 d1 f1)) : QE X (.UnaryOp op a pos) (tF K p ds ds1 d (e1 g f1)) := ⟨fe_un ho ha.h⟩
theorem fe_cmp_q {op : CmpOp} {g : D → D → Option D} (ho : OpR X (compareOp op) (rF2 K g d)) (ha : QE X a (tF K p ds ds1 d1 f1)) (hb : QE X b (tF K p ds1 ds2 d2 f2)) (hm : behindInMarks op b = false) : QE X (.Compare a [op] [b] pos) (tF K p ds ds2 d (e2 g f1 f2)) := ⟨fe_cmp ho ha.h hb.h hm⟩
theorem ft_cmp'_q {op : CmpOp} {g : D → D → Option D} (ho : OpR X (compareOp op) (rF2 K g d)) (ha : QE X a (tF K p ds ds1 d1 f1)) (hb : QE X b (tF K p ds1 ds2 d2 f2)) (hm : behindInMarks op b = false) : QT X (.Compare a [op] [b] pos) (tFT K p ds ds2 (tV (e2 g f1 f2))) := ⟨ft_cmp' ho ha.h hb.h hm⟩
theorem ft_val'_q (h : QE X e (tF K p ds ds' d f)) (he : ∀ whole, isTrue e X.env whole = (do let v ← whole; standAt e.pos; holding [v] (truthy v))) : QT X e (tFT K p ds ds' (tV f)) := ⟨ft_val' h.h he⟩
theorem fw_and1_q (ha : QT X a (tFT K p ds ds1 c1)) : QW X (.BoolOp .And [a] pos) (tFT K p ds ds1 c1) := ⟨fw_and1 ha.h⟩
theorem fw_or1_q (ha : QT X a (tFT K p ds ds1 c1)) : QW X (.BoolOp .Or [a] pos) (tFT K p ds ds1 c1) := ⟨fw_or1 ha.h⟩
theorem fw_and_q {rest : List Expr} (ha : QT X a (tFT K p ds ds1 c1)) (hb : QW X (.BoolOp .And (b :: rest) pos) (tFT K p ds1 ds1 c2)) : QW X (.BoolOp .And (a :: b :: rest) pos) (tFT K p ds ds1 (bAnd c1 c2)) := ⟨fw_and ha.h hb.h⟩
theorem fw_or_q {rest : List Expr} (ha : QT X a (tFT K p ds ds1 c1)) (hb : QW X (.BoolOp .Or (b :: rest) pos) (tFT K p ds1 ds1 c2)) : QW X (.BoolOp .Or (a :: b :: rest) pos) (tFT K p ds ds1 (bOr c1 c2)) := ⟨fw_or ha.h hb.h⟩
theorem ft_not'_q (ha : QT X a (tFT K p ds ds1 c1)) : QT X (.UnaryOp .Not a pos) (tFT K p ds ds1 (bNot c1)) := ⟨ft_not' ha.h⟩
theorem ft_bor'_q (h : QT X e (tFT K true ds0 ds0 c1)) (hd : leD ds0 ds = true) : QT X e (tFT K p ds ds c1) := ⟨ft_bor' h.h hd⟩
theorem fe_one_q {op} (h : QE X a (tF K p ds ds1 d f)) : QE X (.BoolOp op [a] pos) (tF K p ds ds1 d f) := ⟨fe_one h.h⟩
theorem fe_and_q {rest : List Expr} (ha : QE X a (tF K p ds ds1 d1 f1)) (hb : QE X (.BoolOp .And (b :: rest) pos) (tF K p ds1 ds1 d f2)) : QE X (.BoolOp .And (a :: b :: rest) pos) (tF K p ds ds1 d (eAnd f1 f2)) := ⟨fe_and ha.h hb.h⟩
theorem fe_not_q (ha : QE X a (tF K p ds ds1 d1 f)) : QE X (.UnaryOp .Not a pos) (tF K p ds ds1 3 (eNot f)) := ⟨fe_not ha.h⟩
theorem fa_nil'_q  : QA X [] (tFA K p ds ds [] aNil) := ⟨fa_nil'⟩
theorem fa_cons'_q (ha : QE X e (tF K p ds ds1 d f)) (hr : QA X es (tFA K p ds1 ds2 sh fa)) (hs : notStar e = true) : QA X (e :: es) (tFA K p ds ds2 (.inl d :: sh) (aCons f fa)) := ⟨fa_cons' ha.h hr.h hs⟩
theorem fa_slot'_q {x : Str} (hN : X.N[i]? = some x) (hv : Vis X.env.scope x) (hr : QA X es (tFA K p ds ds2 sh fa)) (hd : (x == ("__debug__" : Str)) = false) (hcd : (x == ("__classdict__" : Str)) = false) : QA X (.Name x pos :: es) (tFA K p ds ds2 (.inr i :: sh) (aSlot i fa)) := ⟨fa_slot' hN hv hr.h hd hcd⟩
theorem fe_lst_q {c : Nat} (h : QA X es (tFA K p ds ds1 sh fa)) (hs : shAll c sh = true) (hd : dn d = c) (hz : d ≠ 0) : QE X (.List es pos) (tF K p ds ds1 d (eLst fa)) := ⟨fe_lst h.h hs hd hz⟩
theorem fe_tup_q {c : Nat} {x1} (h : QA X es (tFA K p ds ds1 sh fa)) (hs : shAll c sh = true) (hd : dn d = c) : QE X (.Tuple es x1 pos) (tF K p ds ds1 d (eTup fa)) := ⟨fe_tup h.h hs hd⟩
theorem fe_callB_q {id : String} {x : Str} {px : Pos} {g : List D → Option D} (hc : CallR X (.builtin id) (rFn K g d)) (hg : Gl X x) (hm : X.mg x = none) (hv : bootBuiltins x = some (.builtin id)) (ha : QA X (e :: es) (tFA K p ds ds1 sh fa)) (hsh : shAll 0 sh = true) (hn : x ≠ "__name__") (hdb : (x == ("__debug__" : Str)) = false) (he : notStar e = true) (hpl : es.all notStar = true) : QE X (.Call (.Name x px) (e :: es) [] pos) (tF K p ds ds1 d (eN g fa)) := ⟨fe_callB hc hg hm hv ha.h hsh hn hdb he hpl⟩
theorem fe_callTy_q {T : String} {x : Str} {px : Pos} {g : List D → Option D} (hc : CallR X (.type T) (rFn K g d)) (hg : Gl X x) (hm : X.mg x = none) (hv : bootBuiltins x = some (.type T)) (ha : QA X (e :: es) (tFA K p ds ds1 sh fa)) (hsh : shAll 0 sh = true) (hn : x ≠ "__name__") (hdb : (x == ("__debug__" : Str)) = false) (he : notStar e = true) (hpl : es.all notStar = true) : QE X (.Call (.Name x px) (e :: es) [] pos) (tF K p ds ds1 d (eN g fa)) := ⟨fe_callTy hc hg hm hv ha.h hsh hn hdb he hpl⟩
theorem fe_fn_q {k : Nat} {x : Str} {ps : List Str} {px : Pos} {dps : List Nat} {dr : Nat} {F : List D → Option (D × En)} (G : Kn X.prog X.w X.K X.mg X.base k x ps (spF K dps dr F)) (hr : Room k X.A) (hg : Gl X x) (ha : QA X (e :: es) (tFA K p ds ds1 sh fa)) (hns : noSlot sh = true) (hcd : callD ds1 sh dps = true) (hdb : (x == ("__debug__" : Str)) = false) (he : notStar e = true) (hpl : es.all notStar = true) : QE X (.Call (.Name x px) (e :: es) [] pos) (tF K p ds ds1 dr (eCall F fa)) := ⟨fe_fn G hr hg ha.h hns hcd hdb he hpl⟩
theorem fe_fnS_q {k : Nat} {x : Str} {ps : List Str} {px : Pos} {dps : List Nat} {dr : Nat} {F : List D → Option (D × En)} (G : Kn X.prog X.w X.K X.mg X.base k x ps (spF K dps dr F)) (hr : Room k X.A) (hg : Gl X x) (ha : QA X (e :: es) (tFA K false ds ds1 sh fa)) (hcd : callD ds1 sh dps = true) (hdb : (x == ("__debug__" : Str)) = false) (he : notStar e = true) (hpl : es.all notStar = true) : QE X (.Call (.Name x px) (e :: es) [] pos) (tF K false ds ds1 dr (eCall F fa)) := ⟨fe_fnS G hr hg ha.h hcd hdb he hpl⟩
theorem fe_fn0_q {k : Nat} {x : Str} {ps : List Str} {px : Pos} {dr : Nat} {F : List D → Option (D × En)} (G : Kn X.prog X.w X.K X.mg X.base k x ps (spF K [] dr F)) (hr : Room k X.A) (hg : Gl X x) (hdb : (x == ("__debug__" : Str)) = false) : QE X (.Call (.Name x px) [] [] pos) (tF K p ds ds dr (eCall F aNil)) := ⟨fe_fn0 G hr hg hdb⟩
theorem fe_ix_q {g : D → D → Option D} (ho : IxR X (rF2 K g d)) (ha : QE X a (tF K p ds ds1 d1 f1)) (hb : QE X b (tF K p ds1 ds2 d2 f2)) (hs : PlainIx b) : QE X (.Subscript a b pos) (tF K p ds ds2 d (e2 g f1 f2)) := ⟨fe_ix ho ha.h hb.h hs⟩
theorem fe_ixL_q {x : Str} {px : Pos} (hK : X.K = K) (hN : X.N[i]? = some x) (hv : Vis X.env.scope x) (h1 : ds1[i]? = some 1) (hb : QE X b (tF K p ds ds1 d1 f)) (hs : PlainIx b) (hd : (x == ("__debug__" : Str)) = false) (hcd : (x == ("__classdict__" : Str)) = false) : QE X (.Subscript (.Name x px) b pos) (tF K p ds ds1 0 (eIxL i f)) := ⟨fe_ixL hK hN hv h1 hb.h hs hd hcd⟩
theorem fe_app_q {c : Nat} {x : Str} {px apos cpos : Pos} (hK : X.K = K) (hN : X.N[i]? = some x) (hv : Vis X.env.scope x) (h1 : ds1[i]? = some d) (he : QE X e (tF K false ds ds1 c f)) (hz : d ≠ 0) (hc : dn d = c) (hd : (x == ("__debug__" : Str)) = false) (hcd : (x == ("__classdict__" : Str)) = false) (hbase : attributeBase (.Name x px) "append" X.env (eval (.Name x px) X.env) = eval (.Name x px) X.env) (hfew : ((backTo cpos (starEach [e] X.env)).all (fun x => !x.1) && (backToKw cpos (keywordEach [] X.env)).all (fun x => x.1.isSome) && decide (([e] : List Expr).length + ([] : List Keyword).length + (if ([] : List Keyword).isEmpty then 0 else 1) < 30)) = true) (hline : (apos.endLine == cpos.line) = true) (hs : starEach [e] X.env = [(false, eval e X.env)]) (hplain : (backTo cpos (starEach [] X.env)).any (·.1) = false) : QE X (.Call (.Attribute (.Name x px) "append" apos) [e] [] cpos) (tF K false ds ds1 3 (eApp i f)) := ⟨fe_app hK hN hv h1 he.h hz hc hd hcd hbase hfew hline hs hplain⟩
theorem fe_popAt_q {c : Nat} {x : Str} {px apos cpos : Pos} (hK : X.K = K) (hN : X.N[i]? = some x) (hv : Vis X.env.scope x) (h1 : ds1[i]? = some d) (he : QE X e (tF K false ds ds1 d1 f)) (hz : d ≠ 0) (hc : dn d = c) (hd : (x == ("__debug__" : Str)) = false) (hcd : (x == ("__classdict__" : Str)) = false) (hbase : attributeBase (.Name x px) "pop" X.env (eval (.Name x px) X.env) = eval (.Name x px) X.env) (hfew : ((backTo cpos (starEach [e] X.env)).all (fun x => !x.1) && (backToKw cpos (keywordEach [] X.env)).all (fun x => x.1.isSome) && decide (([e] : List Expr).length + ([] : List Keyword).length + (if ([] : List Keyword).isEmpty then 0 else 1) < 30)) = true) (hline : (apos.endLine == cpos.line) = true) (hs : starEach [e] X.env = [(false, eval e X.env)]) (hplain : (backTo cpos (starEach [] X.env)).any (·.1) = false) : QE X (.Call (.Attribute (.Name x px) "pop" apos) [e] [] cpos) (tF K false ds ds1 c (ePopAt i f)) := ⟨fe_popAt hK hN hv h1 he.h hz hc hd hcd hbase hfew hline hs hplain⟩
theorem fe_rev_q {x : Str} {px apos cpos : Pos} (hK : X.K = K) (hN : X.N[i]? = some x) (hv : Vis X.env.scope x) (h1 : ds[i]? = some d) (hz : d ≠ 0) (hd : (x == ("__debug__" : Str)) = false) (hcd : (x == ("__classdict__" : Str)) = false) (hbase : attributeBase (.Name x px) "reverse" X.env (eval (.Name x px) X.env) = eval (.Name x px) X.env) (hline : (apos.endLine == cpos.line) = true) : QE X (.Call (.Attribute (.Name x px) "reverse" apos) [] [] cpos) (tF K false ds ds 3 (eRev i)) := ⟨fe_rev hK hN hv h1 hz hd hcd hbase hline⟩
theorem fts_nil_q  : QTs X [] (tFT K p ds ds cY) := ⟨fts_nil⟩
theorem fts_one_q (hc : QT X c (tFT K p ds ds1 c1)) : QTs X [c] (tFT K p ds ds1 c1) := ⟨fts_one hc.h⟩
theorem fe_lc_q {elt tg iter : Expr} {ifs : List Expr} {scope : Scope} {ns : List Str} {js : List (Option Nat)} {fi : MI} {g : MG} {lk : List Nat} {cd : Nat} (B : BlkOkC X scope ns js) (hc : X.calm = true) (hi : QI X tg iter (tFI K p ds ds1 fi)) (hg : ∀ C cl s₀ H₀ fp, QG (blkCxC X scope ns C cl s₀ H₀ fp) tg (tFG K lk dsi dsi g)) (ht : ∀ C cl s₀ H₀ fp, QTs (blkCxC X scope ns C cl s₀ H₀ fp) ifs (tFT K true dsi dsi c1)) (he : ∀ C cl s₀ H₀ fp, QE (blkCxC X scope ns C cl s₀ H₀ fp) elt (tF K true dsi dsi cd f)) (hcap : capD ds1 js dsi = true) (hd : dn d = cd) (hz : d ≠ 0) (hlk : lk = caps js 0) (hs : ∀ x, foldedSetIterable iter X.env x = pure x) : QE X (.ListComp elt [⟨tg, iter, ifs, 0⟩] scope pos) (tF K p ds ds1 d (eLC true fi g c1 f js)) := ⟨fe_lc B hc hi.h (fun C cl s₀ H₀ fp => (hg C cl s₀ H₀ fp).h) (fun C cl s₀ H₀ fp => (ht C cl s₀ H₀ fp).h) (fun C cl s₀ H₀ fp => (he C cl s₀ H₀ fp).h) hcap hd hz hlk hs⟩
theorem fe_lcS_q {elt tg iter : Expr} {ifs : List Expr} {scope : Scope} {ns : List Str} {js : List (Option Nat)} {fi : MI} {g : MG} {lk : List Nat} {cd : Nat} (B : BlkOkC X scope ns js) (hc : X.calm = true) (hi : QI X tg iter (tFI K false ds ds1 fi)) (hg : ∀ C cl s₀ H₀ fp, QG (blkCxC X scope ns C cl s₀ H₀ fp) tg (tFG K lk dsi dsi g)) (ht : ∀ C cl s₀ H₀ fp, QTs (blkCxC X scope ns C cl s₀ H₀ fp) ifs (tFT K false dsi dsi c1)) (he : ∀ C cl s₀ H₀ fp, QE (blkCxC X scope ns C cl s₀ H₀ fp) elt (tF K false dsi dsi cd f)) (hcap : capD ds1 js dsi = true) (hd : dn d = cd) (hz : d ≠ 0) (hlk : lk = caps js 0) (hs : ∀ x, foldedSetIterable iter X.env x = pure x) : QE X (.ListComp elt [⟨tg, iter, ifs, 0⟩] scope pos) (tF K false ds ds1 d (eLC false fi g c1 f js)) := ⟨fe_lcS B hc hi.h (fun C cl s₀ H₀ fp => (hg C cl s₀ H₀ fp).h) (fun C cl s₀ H₀ fp => (ht C cl s₀ H₀ fp).h) (fun C cl s₀ H₀ fp => (he C cl s₀ H₀ fp).h) hcap hd hz hlk hs⟩
end
section
variable {X : Cx} {K : PySem.W.Frag} {p p1 p2 q : Bool} {J : Jd} {ds ds0 ds1 ds2 ds' dsi dps : List Nat} {d d' d1 d2 dr : Nat} {a b c e tg iter : Expr} {es : List Expr} {st : Stmt} {rest body bodyB : List Stmt} {f f1 f2 fk fe : ME} {c1 c2 : MT} {fa : MA} {sh : Sh} {pos px : Pos} {i : Nat} {x : Str} {m m1 m2 : MS} {g : MG} {gs : List D → En → Option En} {fi : MI} {lk : List Nat}
theorem fss_nil_q  : QSs X [] (tFS K J ds ds sNil) := ⟨fss_nil⟩
theorem fss_cons_q (h1 : QS X st (tFS K J ds ds1 m1)) (h2 : QSs X rest (tFS K J ds1 ds2 m2)) : QSs X (st :: rest) (tFS K J ds ds2 (sSeq m1 m2)) := ⟨fss_cons h1.h h2.h⟩
theorem fss_one_q (h1 : QS X st (tFS K J ds ds1 m1)) : QSs X [st] (tFS K J ds ds1 m1) := ⟨fss_one h1.h⟩
theorem fss_sub_q (h : QSs X rest (tFS K J ds ds2 m)) (hd : leD ds1 ds2 = true) : QSs X rest (tFS K J ds ds1 m) := ⟨fss_sub h.h hd⟩
theorem fps_exp_q (he : QE X e (tF K false ds ds1 d f)) (hs : swapsWith e none pos.line X.env = pure false) : QS X (.Expr e pos) (tFS K J ds ds1 (sExp f)) := ⟨fps_exp he.h hs⟩
theorem fps_ret_q (he : QE X e (tF K false ds ds1 J.dr f)) (hd : leD J.dsr ds1 = true) : QS X (.Return (some e) pos) (tFS K J ds ds' (sRet f)) := ⟨fps_ret he.h hd⟩
theorem fps_if_q (hc : QT X c (tFT K false ds ds1 c1)) (ha : QSs X body (tFS K J ds1 ds2 m1)) (hb : QSs X bodyB (tFS K J ds1 ds2 m2)) : QS X (.If c body bodyB pos) (tFS K J ds ds2 (sIf c1 m1 m2)) := ⟨fps_if hc.h ha.h hb.h⟩
theorem fps_set_q {x : Str} {pos' : Pos} (hN : X.N.Nodup) (hi : X.N[i]? = some x) (hx : Loc X.env.scope x) (he : QE X e (tF K false ds ds1 d f)) (hds : ds1.set i d = ds') (hl : i < ds1.length) (hk : i ∉ J.lk) (hs : swapsWith e (some (.Name x pos')) pos.line X.env = pure false) (hf : X.fn x = true ∨ X.env.scope.names.lookup x = some .local) : QS X (.Assign [.Name x pos'] e pos) (tFS K J ds ds' (sSet i f)) := ⟨fps_set hN hi hx he.h hds hl hk hs hf⟩
theorem fps_setL_q {c : Nat} {x : Str} {spos : Pos} {k : Expr} (hN : X.N[i]? = some x) (hv : Vis X.env.scope x) (he : QE X e (tF K false ds ds1 c fe)) (hk : QE X k (tF K false ds1 ds2 d2 fk)) (h1 : ds2[i]? = some d) (hz : d ≠ 0) (hc : dn d = c) (hdb : (x == ("__debug__" : Str)) = false) (hcd : (x == ("__classdict__" : Str)) = false) (ha : ∀ v, assign (.Subscript (.Name x px) k spos) X.env v = (do
      let ov ← holding [v] (eval (.Name x px) X.env)
      let iv ← holding [v, ov] (eval k X.env)
      standAt spos
      holding [v, ov, iv] (setItem ov iv v)
      release [v, ov, iv] [])) (hs : swapsWithSole [.Subscript (.Name x px) k spos] e pos.line X.env = pure false) (hw : swappedStores [.Subscript (.Name x px) k spos] e X.env = pure none) (h2 : (assignEach [.Subscript (.Name x px) k spos] X.env).map (·.2) = [assign (.Subscript (.Name x px) k spos) X.env]) : QS X (.Assign [.Subscript (.Name x px) k spos] e pos) (tFS K J ds ds2 (sSetL i fk fe)) := ⟨fps_setL hN hv he.h hk.h h1 hz hc hdb hcd ha hs hw h2⟩
theorem fg_name'_q {x : Str} (hN : X.N.Nodup) (hi : X.N[i]? = some x) (hx : Loc X.env.scope x) (hds : ds.set i 0 = ds') (hl : i < ds.length) (hk : i ∉ lk) (hf : X.fn x = true ∨ X.env.scope.names.lookup x = some .local) : QG X (.Name x pos) (tFG K lk ds ds' (gN i)) := ⟨fg_name' hN hi hx hds hl hk hf⟩
theorem fgs_nil'_q  : QGs X [] (tFGs K lk ds ds gs0) := ⟨fgs_nil'⟩
theorem fgs_cons'_q (h1 : QG X e (tFG K lk ds ds1 g)) (h2 : QGs X es (tFGs K lk ds1 ds2 gs)) (hs : (assignEach (e :: es) X.env).map (·.2) = assign e X.env :: (assignEach es X.env).map (·.2)) : QGs X (e :: es) (tFGs K lk ds ds2 (gsC g gs)) := ⟨fgs_cons' h1.h h2.h hs⟩
theorem fg_tup'_q {k n : Nat} (hK : X.K = K) (hc : X.calm = true) (h : QGs X es (tFGs K lk ds ds1 gs)) (hl : ∀ ts en, (∃ en', gs ts en = some en') → ts.length = n) (hn : (assignEach es X.env).length = n) (hst : (assignEach es X.env).findIdx? (·.1) = none) : QG X (.Tuple es k pos) (tFG K lk ds ds1 (gT gs)) := ⟨fg_tup' hK hc h.h hl hn hst⟩
theorem fps_for_q (hc : X.calm = true) (hi : QI X tg iter (tFI K false ds ds1 fi)) (hg : QG X tg (tFG K J.lk ds1 ds2 g)) (hb : QSs X body (tFS K { J with dsl := ds1 } ds2 ds1 m)) (hp : PassesOwn (model X.prog X.w) X.A X.env X.xe) (hs : ∀ x, foldedSetIterable iter X.env x = pure x) : QS X (.For tg iter body [] pos) (tFS K J ds ds1 (sFor fi g m)) := ⟨fps_for hc hi.h hg.h hb.h hp hs⟩
end
section
variable {X : Cx} {K : PySem.W.Frag} {p : Bool} {ds ds1 : List Nat} {d : Nat} {e tg l : Expr} {f : ME} {fa : MA} {sh : Sh}
theorem fi_any_q (hK : X.K = K) (hl : QE X l (tF K p ds ds1 d f)) : QI X tg l (tFI K p ds ds1 (iAny f)) := ⟨fi_any hK hl.h⟩
theorem fi_rng1_q {a : Expr} {px pos : Pos} (hg : Gl X "range") (hm : X.mg "range" = none) (ha : QA X [a] (tFA K p ds ds1 sh fa)) (hs : notStar a = true) : QI X tg (.Call (.Name "range" px) [a] [] pos) (tFI K p ds ds1 (iRng1f fa)) := ⟨fi_rng1 hg hm ha.h hs⟩
theorem fi_enum_q {px pos : Pos} {elts : List Expr} {k : Nat} {tp : Pos} (hK : X.K = K) (hg : Gl X "enumerate") (hm : X.mg "enumerate" = none) (ha : QA X [l] (tFA K p ds ds1 sh fa)) (hs : starEach [l] X.env = [(false, eval l X.env)]) : QI X (.Tuple elts k tp) (.Call (.Name "enumerate" px) [l] [] pos) (tFI K p ds ds1 (iEnumf fa)) := ⟨fi_enum hK hg hm ha.h hs⟩
end
section
variable {X : Cx} {K : PySem.W.Frag} {p : Bool} {ds ds1 : List Nat} {d1 : Nat} {e : Expr} {f : ME}
theorem fe_isi_q {T : Str} {n : String} {px pt pos : Pos} (hK : X.K = K) (hg : Gl X "isinstance") (hm : X.mg "isinstance" = none) (hgT : Gl X T) (hmT : X.mg T = none) (hbT : bootBuiltins T = some (.type n)) (hT : n ∈ ["int", "bool", "str", "list", "tuple", "dict"]) (he : QE X e (tF K p ds ds1 d1 f)) (hnT : T ≠ "__name__") (hdT : (T == ("__debug__" : Str)) = false) (hs1 : starEach [e, .Name T pt] X.env = (false, eval e X.env) :: starEach [.Name T pt] X.env) (hs2 : starEach [.Name T pt] X.env = (false, eval (.Name T pt) X.env) :: starEach [] X.env) (hpl : (backTo pos (starEach [.Name T pt] X.env)).any (·.1) = false) : QE X (.Call (.Name "isinstance" px) [e, .Name T pt] [] pos) (tF K p ds ds1 3 (e1 (isiD n) f)) := ⟨fe_isi hK hg hm hgT hmT hbT hT he.h hnT hdT hs1 hs2 hpl⟩
end
section
variable {X : Cx} {K : PySem.W.Frag} {p : Bool} {J : Jd} {ds ds0 ds1 ds2 ds3 ds' : List Nat} {d d' d1 d2 d3 : Nat} {a b c e : Expr} {st : Stmt} {f f1 f2 f3 : ME} {m : MS} {pos p2 : Pos}
theorem fo_none_q  : QO X none (tFO K p ds ds oNone) := ⟨fo_none⟩
theorem fo_some_q (h : QE X e (tF K p ds ds1 d f)) : QO X (some e) (tFO K p ds ds1 (oSome f)) := ⟨fo_some h.h⟩
variable {lo hi : MO}
theorem fe_slice_q {g : D → Option Int → Option Int → Option D} {elo ehi : Option Expr} (hr : SlR X (rFs K g d)) (he : QE X e (tF K p ds ds1 d1 f)) (hl : QO X elo (tFO K p ds1 ds2 lo)) (hu : QO X ehi (tFO K p ds2 ds3 hi)) : QE X (.Subscript e (.Slice elo ehi none p2) pos) (tF K p ds ds3 d (eSl g f lo hi)) := ⟨fe_slice hr he.h hl.h hu.h⟩
end
section
variable {X : Cx} {K : PySem.W.Frag} {p : Bool} {J : Jd} {ds ds0 ds1 ds2 ds' : List Nat} {d d' d1 d2 : Nat} {a b c e o k : Expr} {f f1 f2 fk fe : ME} {pos px spos : Pos} {i : Nat} {σ : St} {H : Hp} {Q : VK} {Dn : Ends}
theorem fe_dnew_q  : QE X (.Dict [] [] pos) (tF K p ds ds 3 eDnew) := ⟨fe_dnew⟩
theorem ft_dnin_q (hu : X.A.units + 1 < cLine) (ha : QE X a (tF K p ds ds1 d1 f1)) (hb : QE X b (tF K p ds1 ds2 d2 f2)) (h1 : behindInMarks .NotIn b = false) : QT X (.Compare a [.NotIn] [b] pos) (tFT K p ds ds2 (tV (e2 dNotIn f1 f2))) := ⟨ft_dnin hu ha.h hb.h h1⟩
theorem fps_dput_q {x : Str} (hu : X.A.units + 1 < cLine) (hN : X.N[i]? = some x) (hv : Vis X.env.scope x) (he : QE X e (tF K false ds ds1 0 fe)) (hk : QE X k (tF K false ds1 ds2 d2 fk)) (h1 : ds2[i]? = some 1) (hdb : (x == ("__debug__" : Str)) = false) (hcd : (x == ("__classdict__" : Str)) = false) (hs : swapsWith e (some (.Subscript (.Name x px) k spos)) pos.line X.env = pure false) : QS X (.Assign [.Subscript (.Name x px) k spos] e pos) (tFS K J ds ds2 (sDput i fk fe)) := ⟨fps_dput hu hN hv he.h hk.h h1 hdb hcd hs⟩
end
section
variable {X : Cx} {K : PySem.W.Frag} {p : Bool} {J : Jd} {ds ds0 ds1 ds2 ds' : List Nat} {d d' d1 d2 : Nat} {a b c e o k : Expr} {es : List Expr} {f f1 f2 fk fe : ME} {fa : MA} {sh : Sh} {pos px spos : Pos} {i j : Nat} {σ : St} {H : Hp} {Q : VK} {Dn : Ends}
end
section
variable {X : Cx} {K : PySem.W.Frag} {p : Bool} {ds ds1 : List Nat} {O : AS} {H : Hp} {σ : St} {d : Nat} {f : ME} {i : Nat} {e : Expr} {Q : VK}
end
section
variable {X : Cx} {K : PySem.W.Frag} {p : Bool} {ds ds1 : List Nat} {d : Nat} {fa : MA} {sh : Sh} {O O1 : AS} {H0 H : Hp} {ts us : List D} {vs ws : List V} {a b : Addr}
end
section
variable {X : Cx} {K : PySem.W.Frag} {p : Bool} {ds ds1 : List Nat} {d1 : Nat} {e : Expr} {f : ME}
end
section
variable {X : Cx} {K : PySem.W.Frag} {p p1 p2 : Bool} {ds ds1 ds2 : List Nat} {d d1 : Nat} {e : Expr} {f : ME} {fa : MA} {sh : Sh} {σ : St} {H : Hp} {Q : VK}
theorem fe_strm_q {o : Expr} {es : List Expr} {name : Str} {id : String} {apos cpos : Pos} {r : V → List V → Hp → VK → Prop} {g : Str → List D → Option D} (hK : X.K = K) (slot : Slot "str" name id) (hty : typeOf (.builtin id) = pure (.type "method_descriptor")) (hm : MtR X id r) (hr : MtF K r g) (ho : QE X o (tF K p ds ds1 d1 f)) (ha : QA X (e :: es) (tFA K p ds1 ds2 sh fa)) (hsh : shAll 0 sh = true) (hbase : attributeBase o name X.env (eval o X.env) = eval o X.env) (hfew : ((backTo cpos (starEach (e :: es) X.env)).all (fun x => !x.1) && (backToKw cpos (keywordEach [] X.env)).all (fun x => x.1.isSome)
      && decide ((e :: es).length + ([] : List Keyword).length + (if ([] : List Keyword).isEmpty then 0 else 1) < 30)) = true) (hline : (apos.endLine == cpos.line) = true) (hs : starEach (e :: es) X.env = (false, eval e X.env) :: starEach es X.env) (hplain : (backTo cpos (starEach es X.env)).any (·.1) = false) : QE X (.Call (.Attribute o name apos) (e :: es) [] cpos) (tF K p ds ds2 3 (eM g f fa)) := ⟨fe_strm hK slot hty hm hr ho.h ha.h hsh hbase hfew hline hs hplain⟩
end
section
variable {X : Cx} {K : PySem.W.Frag} {p p1 p2 : Bool} {J : Jd} {ds ds1 ds2 : List Nat} {H : Hp} {σ : St} {d d1 d2 i m : Nat} {f fk fe : ME} {mp : MP} {e b o : Expr} {Q : VK}
end
end L2
set_option Elab.async false
set_option linter.all false
set_option maxRecDepth 100000
set_option maxHeartbeats 4000000
namespace L2
open PySem PySem.Spec PyProof.Rows
theorem Fun.okQ {P : Program} {w : World} {K : PySem.W.Frag} {mg : Str → Option Value} {base : Heap} {x qual : Str} {st : Stmt} {f : Addr} {fd : FuncData} {N ps : List Str} {k n dr : Nat} {dps ds0 : List Nat} {J : Jd} {b : MS}
    (F : Fun K x qual st f fd) (S : FnScope N ps (defScope st)) (hl : dps.length = ps.length) (hn : N.length - dps.length = n) (hJ : J = ⟨lkOf dps, dps ++ List.replicate n 0, dr, []⟩) (hd : ds0 = dps ++ List.replicate n 0)
    (hb : ∀ (cdv : Value) (A : Around) (outer : List Env) (s : Shared) (H : Hp) (E : XK), Room k (A.deeper (envOfC qual (defScope st) s.heap.objs.size f cdv)) →
      QSs (cxOf CX0 P w K mg base N qual (defScope st) f cdv A outer s H E).nox (defBody st) (tFS K J ds0 ds0 b)) : FnOk P w K mg base CX0 (k + 1) f fd ps (spF K dps dr (fnF n dps b)) := by
  subst hJ hd
  exact F.ok S (fun vs H Q E h => spF_len hl h) fun cdv A outer s H vs Q E hr h => ⟨_, (hb cdv A outer s H E hr).h, fn_body hn h⟩
def lawT (F : List D → Option (D × En)) : Prop := ∀ ns : List Int, ns.length ≤ 63 → ∃ outs, F [.list (ns.map .int)] = some (.bool true, outs)
def spLawF (K : PySem.W.Frag) : Sp := fun vs H Q _ => ∃ (a : Addr) (ns : List Int), vs = [.ref a] ∧ SqL K H a (ns.map V.int) ∧ (∀ b, H b = none ∨ ∃ o xs, H b = some (.frz o (.lst xs))) ∧ ns.length ≤ 63 ∧ ∀ H' : Hp, Q (.bl true) H'
theorem ows_of_ints {K : PySem.W.Frag} {O : AS} {H : Hp} : ∀ ns : List Int, Ows K O H (ns.map .int) 0 (ns.map V.int) NoA
  | [] => rfl
  | n :: r => ⟨.int n, r.map V.int, NoA, NoA, rfl, fun _ z => z, fun _ z => z, fun _ z => z.elim, rfl, ows_of_ints r⟩
theorem law_sp {K : PySem.W.Frag} {dr : Nat} {F : List D → Option (D × En)} (h : lawT F) {vs : List V} {H : Hp} {Q : VK} {E : XK} (q : spLawF K vs H Q E) : spF K [0] dr F vs H Q E := by
  obtain ⟨a, ns, rfl, hs, _, hl, q⟩ := q
  obtain ⟨outs, e⟩ := h ns hl
  have fz : FzL K (fun _ => False) H a (ns.map V.int) := by
    rcases hs with hs | hs
    · exact .inl ⟨hs, fun z => z⟩
    · exact .inr fun H' => .inr hs
  have eO : Own (fun _ => NoA) NoA = (fun _ => False) := as_eq fun b => ⟨fun z => z.elim (fun ⟨_, z⟩ => z) fun z => z, fun z => z.elim⟩
  refine ⟨NoA, [.list (ns.map .int)], fun _ => NoA, .bool true, outs, ⟨fun i t hi => ?_, fun _ _ _ z => z.elim, fun _ _ z => z.elim, fun b z => ?_, rfl, rfl⟩, e, fun v H' R' Fr _ o => ?_⟩
  · cases i with
    | zero =>
      have : t = .list (ns.map .int) := by
        have h2 : some (some (PyData.list (ns.map .int))) = some (some t) := hi
        injection h2 with h3
        injection h3 with h4
        exact h4.symm
      subst this
      refine ⟨.ref a, 0, rfl, rfl, ?_⟩
      rw [eO]
      exact ⟨a, ns.map V.int, rfl, .inl ⟨rfl, fz, ows_of_ints ns⟩⟩
    | succ i => simp at hi
  · rw [eO] at z
    exact z.elim
  · rw [show v = .bl true from o]
    exact q H'
end L2
set_option Elab.async false
set_option linter.all false
set_option maxRecDepth 100000
set_option maxHeartbeats 4000000
namespace L2
open PySem PySem.Spec PyProof.Rows
inductive All2 (r : D → D → Prop) : List D → List D → Prop
  | nil : All2 r [] []
  | cons {a b : D} {as bs : List D} (h : r a b) (t : All2 r as bs) : All2 r (a :: as) (b :: bs)
section
variable {c : MT} {b : MS} {en en1 en2 : En} {fl : Fl} {t : D}
theorem lcF_all {g : MG} {c : MT} {f : ME} (I : Nat → En → Prop) (r : D → D → Prop) {N : Nat} (hs : ∀ n t en, n < N → I n en → ∃ en1 en2 q en3, g t en = some en1 ∧ c en1 = some (true, en2) ∧ f en2 = some (q, en3) ∧ I (n + 1) en3 ∧ r t q) :
    ∀ (ts acc : List D) (n : Nat) (en : En), I n en → n + ts.length ≤ N → acc.length + ts.length ≤ sizeLine → ∃ us en', lcF g c f ts acc en = some (acc ++ us, en') ∧ I (n + ts.length) en' ∧ All2 r ts us
  | [], acc, n, en, hi, _, _ => ⟨[], en, by rw [List.append_nil]; rfl, hi, .nil⟩
  | t :: ts, acc, n, en, hi, hN, hl => by
    have hN' : n + (ts.length + 1) ≤ N := hN
    obtain ⟨en1, en2, q, en3, h1, h2, h3, h4, h5⟩ := hs n t en (by omega) hi
    have hl' : acc.length + (ts.length + 1) ≤ sizeLine := hl
    obtain ⟨us, en', h6, h7, h8⟩ := lcF_all I r hs ts (acc ++ [q]) (n + 1) en3 h4 (by omega) (by rw [List.length_append]; show acc.length + 1 + _ ≤ _; omega)
    refine ⟨q :: us, en', ?_, by rw [show n + (t :: ts).length = n + 1 + ts.length by show n + (ts.length + 1) = _; omega]; exact h7, .cons h5 h8⟩
    unfold lcF
    rw [h1]
    show (c en1).bind _ = _
    rw [h2]
    show (f en2).bind _ = _
    rw [h3]
    show (if acc.length < sizeLine then _ else _) = _
    rw [if_pos (by omega), h6]
    simp
theorem All2.ex {α : Type} {h : α → D} {Q : α → Prop} : ∀ {ts us : List D}, All2 (fun _ q => ∃ o, q = h o ∧ Q o) ts us → ∃ os : List α, us = os.map h ∧ os.length = ts.length ∧ ∀ o ∈ os, Q o
  | _, _, .nil => ⟨[], rfl, rfl, fun _ z => by cases z⟩
  | _, _, .cons ⟨o, e, q⟩ t => by
    obtain ⟨os, e1, e2, e3⟩ := All2.ex t
    refine ⟨o :: os, by rw [e, e1]; rfl, by show os.length + 1 = _ + 1; rw [e2], fun x hx => ?_⟩
    rcases List.mem_cons.mp hx with rfl | hx
    · exact q
    · exact e3 x hx
theorem lcF_filter {c : MT} {f : ME} {p : D → Bool} {F : D → D} {rest : En} : ∀ (ts acc : List D) (o : Option D), (∀ t ∈ ts, c (some t :: rest) = some (p t, some t :: rest)) → (∀ t ∈ ts, p t = true → f (some t :: rest) = some (F t, some t :: rest)) → acc.length + ts.length ≤ sizeLine →
    ∃ o', lcF (gN 0) c f ts acc (o :: rest) = some (acc ++ (ts.filter p).map F, o' :: rest)
  | [], acc, o, _, _, _ => ⟨o, by simp [lcF]⟩
  | t :: ts, acc, o, hc, hf, hl => by
    have hl' : acc.length + (ts.length + 1) ≤ sizeLine := hl
    cases hp : p t with
    | true =>
      obtain ⟨o', h⟩ := lcF_filter (c := c) (f := f) (p := p) (F := F) ts (acc ++ [F t]) (some t) (fun x hx => hc x (List.mem_cons_of_mem _ hx)) (fun x hx => hf x (List.mem_cons_of_mem _ hx)) (by rw [List.length_append]; show acc.length + 1 + _ ≤ _; omega)
      refine ⟨o', ?_⟩
      unfold lcF
      show ((c (some t :: rest)).bind _) = _
      rw [hc t List.mem_cons_self, hp]
      show ((f (some t :: rest)).bind _) = _
      rw [hf t List.mem_cons_self hp]
      show (if acc.length < sizeLine then _ else _) = _
      rw [if_pos (by omega)]
      dsimp only
      rw [h, List.filter_cons_of_pos hp]
      simp
    | false =>
      obtain ⟨o', h⟩ := lcF_filter (c := c) (f := f) (p := p) (F := F) ts acc (some t) (fun x hx => hc x (List.mem_cons_of_mem _ hx)) (fun x hx => hf x (List.mem_cons_of_mem _ hx)) (by omega)
      refine ⟨o', ?_⟩
      unfold lcF
      show ((c (some t :: rest)).bind _) = _
      rw [hc t List.mem_cons_self, hp]
      show lcF (gN 0) c f ts acc (some t :: rest) = _
      rw [h, List.filter_cons_of_neg (by rw [hp]; decide)]
theorem lcF_map {f : ME} {F : D → D} {rest : En} (ts acc : List D) (o : Option D) (hf : ∀ t ∈ ts, f (some t :: rest) = some (F t, some t :: rest)) (hl : acc.length + ts.length ≤ sizeLine) :
    ∃ o', lcF (gN 0) cY f ts acc (o :: rest) = some (acc ++ ts.map F, o' :: rest) := by
  obtain ⟨o', h⟩ := lcF_filter (c := cY) (f := f) (p := fun _ => true) (F := F) ts acc o (fun _ _ => rfl) (fun t ht _ => hf t ht) hl
  rw [List.filter_eq_self.mpr (fun _ _ => rfl)] at h
  exact ⟨o', h⟩
theorem forF_all {g : MG} {b : MS} (I : Nat → En → Prop) {ts : List D} (hs : ∀ i t en, ts[i]? = some t → I i en → ∃ en1 en2, g t en = some en1 ∧ (b en1 = some (.nx en2) ∨ b en1 = some (.ct en2)) ∧ I (i + 1) en2) {en : En} (h0 : I 0 en) :
    ∃ en', forF g b ts en = some (.nx en') ∧ I ts.length en' := by
  suffices ∀ (us : List D) (i : Nat) (en : En), ts.drop i = us → i ≤ ts.length → I i en → ∃ en', forF g b us en = some (.nx en') ∧ I ts.length en' from this ts 0 en rfl (Nat.zero_le _) h0
  intro us
  induction us with
  | nil =>
    intro i en hu hi h
    refine ⟨en, rfl, ?_⟩
    have : ts.length - i = 0 := by rw [← List.length_drop, hu]; rfl
    rw [show ts.length = i by omega]
    exact h
  | cons t us ih =>
    intro i en hu hi h
    have ht : ts[i]? = some t := by
      have : (ts.drop i)[0]? = some t := by rw [hu]; rfl
      rw [List.getElem?_drop] at this
      exact this
    obtain ⟨en1, en2, h1, h2, h3⟩ := hs i t en ht h
    have hl : i < ts.length := (List.getElem?_eq_some_iff.mp ht).1
    have hd : ts.drop (i + 1) = us := by rw [← List.drop_drop, hu]; rfl
    obtain ⟨en', h4, h5⟩ := ih (i + 1) en2 hd hl h3
    refine ⟨en', ?_, h5⟩
    unfold forF
    rw [h1]
    show (b en1).bind _ = _
    rcases h2 with h2 | h2
    · rw [h2]; exact h4
    · rw [h2]; exact h4
end
section
variable {c c1 c2 : MT} {m1 m2 b : MS} {en en1 en2 : En} {fl : Fl} {t t1 t2 u : D} {f f1 f2 : ME} {g : D → D → Option D} {fa : MA} {i n : Nat} {x y : Bool} {F : List D → Option (D × En)} {as : List (D ⊕ Nat)} {ts : List D} {outs : En} {dps : List Nat}
theorem ev_seq (h1 : m1 en = some (.nx en1)) (h2 : m2 en1 = some fl) : sSeq m1 m2 en = some fl := by unfold sSeq; rw [h1]; exact h2
theorem ev_ret (h1 : m1 en = some (.rt t en1)) : sSeq m1 m2 en = some (.rt t en1) := by unfold sSeq; rw [h1]; rfl
theorem ev_ifT {b : Bool} (h1 : c en = some (b, en1)) (hb : b = true) (h2 : m1 en1 = some fl) : sIf c m1 m2 en = some fl := by unfold sIf; rw [h1, hb]; exact h2
theorem ev_ifF {b : Bool} (h1 : c en = some (b, en1)) (hb : b = false) (h2 : m2 en1 = some fl) : sIf c m1 m2 en = some fl := by unfold sIf; rw [h1, hb]; exact h2
theorem ev_set (h : f en = some (t, en1)) (he : en1.set i (some t) = en2) : sSet i f en = some (.nx en2) := by unfold sSet; rw [h, ← he]; rfl
theorem ev_exp (h : f en = some (t, en1)) : sExp f en = some (.nx en1) := by unfold sExp; rw [h]; rfl
theorem ev_rt (h : f en = some (t, en1)) : sRet f en = some (.rt t en1) := by unfold sRet; rw [h]; rfl
theorem ev_2 (h1 : f1 en = some (t1, en1)) (h2 : f2 en1 = some (t2, en2)) (h : g t1 t2 = some u) : e2 g f1 f2 en = some (u, en2) := by
  unfold e2
  rw [h1]
  show (f2 en1).bind _ = _
  rw [h2]
  show (g t1 t2).map _ = _
  rw [h]
  rfl
theorem ev_orT {b : Bool} (h1 : c1 en = some (b, en1)) (hb : b = true) : bOr c1 c2 en = some (true, en1) := by unfold bOr; rw [h1, hb]; rfl
theorem ev_orF {b : Bool} {r : Bool × En} (h1 : c1 en = some (b, en1)) (hb : b = false) (h2 : c2 en1 = some r) : bOr c1 c2 en = some r := by unfold bOr; rw [h1, hb]; exact h2
theorem ev_andT {b : Bool} {r : Bool × En} (h1 : c1 en = some (b, en1)) (hb : b = true) (h2 : c2 en1 = some r) : bAnd c1 c2 en = some r := by unfold bAnd; rw [h1, hb]; exact h2
theorem ev_andF {b : Bool} (h1 : c1 en = some (b, en1)) (hb : b = false) : bAnd c1 c2 en = some (false, en1) := by unfold bAnd; rw [h1, hb]; rfl
theorem ev_tv {b : Bool} (h : f en = some (.bool b, en1)) : tV f en = some (b, en1) := by unfold tV; rw [h]; rfl
theorem ev_call (h1 : fa en = some (as, en1)) (h2 : argv as en1 = some ts) (h : F ts = some (t, outs)) (hw : wb as outs en1 = en2) : eCall F fa en = some (t, en2) := by
  subst hw
  unfold eCall
  rw [h1]
  show (argv as en1).bind _ = _
  rw [h2]
  show (F ts).map _ = _
  rw [h]
  rfl
theorem ev_n {g : List D → Option D} (h1 : fa en = some (as, en1)) (h2 : vals as = some ts) (h : g ts = some t) : eN g fa en = some (t, en1) := by
  unfold eN
  rw [h1]
  show (vals as).bind _ = _
  rw [h2]
  show (g ts).map _ = _
  rw [h]
  rfl
theorem ev_ac {r : MA} (h1 : f en = some (t, en1)) (h2 : r en1 = some (as, en2)) : aCons f r en = some (.inl t :: as, en2) := by
  unfold aCons
  rw [h1]
  show (r en1).map _ = _
  rw [h2]
  rfl
theorem ev_lst (h1 : fa en = some (as, en1)) (h2 : vals as = some ts) (h : ts.length ≤ sizeLine) : eLst fa en = some (.list ts, en1) := by
  unfold eLst
  rw [h1]
  show (vals as).bind _ = _
  rw [h2]
  exact if_pos h
theorem ev_tup (h1 : fa en = some (as, en1)) (h2 : vals as = some ts) (h : ts.length ≤ sizeLine) : eTup fa en = some (.tuple ts, en1) := by
  unfold eTup
  rw [h1]
  show (vals as).bind _ = _
  rw [h2]
  exact if_pos h
theorem ev_app {us : List D} (h0 : en[i]? = some (some (.list ts))) (h1 : f en = some (t, en1)) (h2 : en1[i]? = some (some (.list us))) (h : us.length < sizeLine) (he : en1.set i (some (.list (us ++ [t]))) = en2) : eApp i f en = some (.none, en2) := by
  unfold eApp
  rw [h0]
  show (f en).bind _ = _
  rw [h1]
  show (match (en1[i]?).join with
    | some (.list ts) => if ts.length < sizeLine then some (PyData.none, en1.set i (some (.list (ts ++ [t])))) else none
    | _ => none) = _
  rw [h2, ← he]
  exact if_pos h
theorem ev_lc {fi : MI} {g : MG} {js : List (Option Nat)} {q : Bool} {us : List D} {ex : En} (h1 : fi en = some (ts, en1)) (h2 : lcF g c f ts [] (blkEn js en1) = some (us, ex)) (he : (if q then en1 else wbB js ex en1) = en2) : eLC q fi g c f js en = some (.list us, en2) := by
  unfold eLC
  rw [h1]
  show (lcF g c f ts [] (blkEn js en1)).map _ = _
  rw [h2, ← he]
  rfl
theorem ev_for {fi : MI} {g : MG} (h1 : fi en = some (ts, en1)) (h2 : forF g b ts en1 = some fl) : sFor fi g b en = some fl := by
  unfold sFor
  rw [h1]
  exact h2
theorem sl100 : 100 ≤ sizeLine := by rw [sizeLine_eq]; decide
theorem fnF_rt (h : b (ts.map some ++ List.replicate n none) = some (.rt t en)) : fnF n dps b ts = some (t, msk dps en) := by
  unfold fnF
  rw [h]
  rfl
end
namespace Pen2
def B_law_pen : MS := (sRet (eDisp [((eC (.str "script")), (eVar 0)), ((eC (.str "at")), (eVar 1)), ((eC (.str "left")), (eC (.int 0)))]))
def F_law_pen : List D → Option (D × En) := fnF 0 [0, 0] B_law_pen
def B_law_mixed : MS := (sSeq (sSet 2 (e2 modI (e2 mulI (e2 addS (e2 addS (e2 modI (eVar 0) (eC (.int 2147483629))) (e2 mulI (eC (.int 40503)) (eVar 1))) (eC (.int 24691))) (eC (.int 48271))) (eC (.int 2147483647))))
  (sSeq (sSet 3 (e2 modI (e2 addS (e2 addS (e2 mulI (eVar 2) (eVar 2)) (e2 mulI (eC (.int 69621)) (eVar 2))) (eVar 1)) (eC (.int 2147483629))))
  (sRet (e2 fdivI (e2 modI (e2 addS (e2 addS (e2 mulI (eVar 3) (eVar 3)) (e2 mulI (eC (.int 16807)) (eVar 3))) (e2 mulI (eC (.int 31)) (eVar 1))) (eC (.int 1073741789))) (eC (.int 64))))))
def F_law_mixed : List D → Option (D × En) := fnF 2 [0, 0] B_law_mixed
def B_law_take : MS := (sSeq (sSet 2 (eDgetL 0 (eC (.str "at"))))
  (sSeq (sSet 3 (eDgetL 0 (eC (.str "script"))))
  (sSeq (sIf (tV (e2 eqD (eDgetL 0 (eC (.str "left"))) (eC (.int 0)))) (sSeq (sDput 0 (eC (.str "at")) (e2 addS (eVar 2) (eC (.int 1))))
  (sSeq (sSet 4 (eC (.int 0)))
  (sSeq (sIf (tV (e2 gtI (eN lenD (aCons (eVar 3) aNil)) (eC (.int 0)))) (sSet 4 (e2 ixA (eVar 3) (e2 modI (eVar 2) (eN lenD (aCons (eVar 3) aNil))))) sNil)
  (sSeq (sIf (bOr (tV (e2 geI (eVar 2) (eN lenD (aCons (eVar 3) aNil)))) (tV (e2 ltI (eN absD (aCons (eVar 4) aNil)) (e2 powI (eC (.int 10)) (eC (.int 18)))))) (sRet (e2 modI (eCall F_law_mixed (aCons (eVar 4) (aCons (eVar 2) aNil))) (eVar 1))) sNil)
  (sDput 0 (eC (.str "left")) (eN absD (aCons (eVar 4) aNil))))))) sNil)
  (sSeq (sSet 5 (e2 modI (eDgetL 0 (eC (.str "left"))) (eVar 1)))
  (sSeq (sDput 0 (eC (.str "left")) (e2 fdivI (eDgetL 0 (eC (.str "left"))) (eVar 1)))
  (sRet (eVar 5)))))))
def F_law_take : List D → Option (D × En) := fnF 4 [1, 0] B_law_take
def penD (ns : List Int) (k l : Int) : D := .dict [(.str "script", .list (ns.map .int)), (.str "at", .int k), (.str "left", .int l)]
theorem mixed_ok {c k : Int} (h0 : 0 ≤ k) (h1 : k ≤ 1000000000) : ∃ r, F_law_mixed [.int c, .int k] = some (.int r, [none, none]) ∧ 0 ≤ r := by
  have a0 : 0 ≤ c % 2147483629 := by omega
  have a1 : c % 2147483629 < 2147483629 := by omega
  generalize g1 : (c % 2147483629 + 40503 * k + 24691) * 48271 % 2147483647 = x
  have x0 : 0 ≤ x := by omega
  have x1 : x < 2147483647 := by omega
  generalize g2 : (x * x + 69621 * x + k) % 2147483629 = y
  have y0 : 0 ≤ y := by omega
  have y1 : y < 2147483629 := by omega
  refine ⟨(y * y + 16807 * y + 31 * k) % 1073741789 / 64, ?_, by omega⟩
  have c1 : CMul 40503 k := .inl (by decide)
  have c2 : CMul (c % 2147483629 + 40503 * k + 24691) 48271 := .inr (by decide)
  have c3 : CMul x x := .inl (by constructor <;> omega)
  have c4 : CMul 69621 x := .inl (by decide)
  have c5 : CMul y y := .inl (by constructor <;> omega)
  have c6 : CMul 16807 y := .inl (by decide)
  have c7 : CMul 31 k := .inl (by decide)
  have c8 : ∀ z, CDiv z 64 := fun z => by unfold CDiv; decide
  simp [F_law_mixed, fnF, B_law_mixed, sSeq, sSet, sRet, e2, eVar, eC, modI, mulI, addS, fdivI, int2, c1, c2, c3, c4, c5, c6, c7, c8, g1, g2, msk]
theorem take_ok {ns : List Int} {k l m : Int} (h0 : 0 ≤ k) (h1 : k ≤ 1000000000) (h2 : 0 ≤ l) (h3 : 0 < m) (h4 : m < 1073741824) :
    ∃ r k' l', F_law_take [penD ns k l, .int m] = some (.int r, [some (penD ns k' l'), none]) ∧ 0 ≤ r ∧ r < m ∧ k ≤ k' ∧ k' ≤ k + 1 ∧ 0 ≤ l' := by
  have cd : ∀ z, CDiv z m := fun z => ⟨h3, h4⟩
  have cp : CPow 10 18 := by unfold CPow; decide
  have md : ∀ z, modI (.int z) (.int m) = some (.int (z % m)) := fun z => if_pos h3
  have dv : ∀ z, fdivI (.int z) (.int m) = some (.int (z / m)) := fun z => if_pos (cd z)
  have last : ∀ (k' b : Int) (x y z : Option D), (sSeq (sSet 5 (e2 modI (eDgetL 0 (eC (.str "left"))) (eVar 1)))
      (sSeq (sDput 0 (eC (.str "left")) (e2 fdivI (eDgetL 0 (eC (.str "left"))) (eVar 1)))
      (sRet (eVar 5)))) [some (penD ns k' b), some (.int m), x, y, z, none] = some (.rt (.int (b % m)) [some (penD ns k' (b / m)), some (.int m), x, y, z, some (.int (b % m))]) := by
    intro k' b x y z
    refine ev_seq (en1 := [some (penD ns k' b), some (.int m), x, y, z, some (.int (b % m))]) (ev_set (ev_2 (t1 := .int b) (t2 := .int m) rfl rfl (md b)) rfl) (ev_seq (en1 := [some (penD ns k' (b / m)), some (.int m), x, y, z, some (.int (b % m))]) ?_ rfl)
    unfold sDput
    rw [ev_2 (t1 := .int b) (t2 := .int m) (f1 := eDgetL 0 (eC (.str "left"))) (f2 := eVar 1) (g := fdivI) (en := [some (penD ns k' b), some (.int m), x, y, z, some (.int (b % m))]) (en1 := [some (penD ns k' b), some (.int m), x, y, z, some (.int (b % m))]) (en2 := [some (penD ns k' b), some (.int m), x, y, z, some (.int (b % m))]) rfl rfl (dv b)]
    rfl
  by_cases hl : l = 0
  · subst hl
    by_cases hn : ns.length = 0
    · have hns : ns = [] := List.length_eq_zero_iff.mp hn
      subst hns
      obtain ⟨r, e, hr⟩ := mixed_ok (c := 0) h0 h1
      refine ⟨r % m, k + 1, 0, ?_, Int.emod_nonneg _ (by omega), Int.emod_lt_of_pos _ h3, by omega, by omega, by omega⟩
      refine fnF_rt (en := [some (penD [] (k + 1) 0), some (.int m), some (.int k), some (.list []), some (.int 0), none]) (ev_seq rfl (ev_seq rfl (ev_ret (ev_ifT (b := true) rfl rfl (ev_seq (en1 := [some (penD [] (k + 1) 0), some (.int m), some (.int k), some (.list []), none, none]) rfl (ev_seq rfl (ev_seq rfl (ev_ret (ev_ifT (b := true) (ev_orT (b := decide ((0 : Int) ≤ k)) rfl (decide_eq_true h0)) rfl (ev_rt (ev_2 (en1 := [some (penD [] (k + 1) 0), some (.int m), some (.int k), some (.list []), some (.int 0), none]) (t2 := .int m) (ev_call (as := [.inl (.int 0), .inl (.int k)]) (en1 := [some (penD [] (k + 1) 0), some (.int m), some (.int k), some (.list []), some (.int 0), none]) rfl rfl e rfl) rfl (md r))))))))))))
    · obtain ⟨j, ej⟩ : ∃ j : Nat, ixN ns.length (k % ns.length) = some j ∧ j < ns.length := by
        have q1 : 0 ≤ k % (ns.length : Int) := Int.emod_nonneg _ (by omega)
        have q2 : k % (ns.length : Int) < ns.length := Int.emod_lt_of_pos _ (by omega)
        exact ⟨(k % (ns.length : Int)).toNat, by unfold ixN; rw [if_pos q1, if_pos q2], by omega⟩
      obtain ⟨c, ec⟩ : ∃ c, ns[j]? = some c := ⟨_, List.getElem?_eq_getElem ej.2⟩
      have at1 : ixA (.list (ns.map .int)) (.int (k % ns.length)) = some (.int c) := by
        show atI _ _ = _
        unfold atI
        rw [List.length_map, ej.1]
        show (ns.map PyData.int)[j]? = _
        rw [List.getElem?_map, ec]
        rfl
      have hn1 : (0 : Int) < ns.length := by omega
      have len : lenD [.list (ns.map .int)] = some (.int ns.length) := by show some (PyData.int (ns.map PyData.int).length) = _; rw [List.length_map]
      have ml : modI (.int k) (.int ns.length) = some (.int (k % ns.length)) := if_pos hn1
      obtain ⟨r, e, hr⟩ := mixed_ok (c := c) h0 h1
      obtain ⟨b, ab, b0⟩ : ∃ b, absD [.int c] = some (.int b) ∧ 0 ≤ b := ⟨if c < 0 then -c else c, rfl, by split <;> omega⟩
      have pw : powI (.int 10) (.int 18) = some (.int 1000000000000000000) := by
        show (if CPow 10 18 then some (PyData.int (10 ^ Int.toNat 18)) else none) = _
        rw [if_pos cp]; rfl
      have ln : ∀ (x y : Option D) (p : D), (eN lenD (aCons (eVar 3) aNil)) [some p, some (.int m), x, some (.list (ns.map .int)), y, none] = some (.int ns.length, [some p, some (.int m), x, some (.list (ns.map .int)), y, none]) := fun x y p => ev_n rfl rfl len
      have pre : ∀ (x y : Option D) {m2 : MS} {fl : Fl}, m2 [some (penD ns (k + 1) 0), some (.int m), some (.int k), some (.list (ns.map .int)), some (.int c), none] = some fl → (sSeq (sDput 0 (eC (.str "at")) (e2 addS (eVar 2) (eC (.int 1))))
  (sSeq (sSet 4 (eC (.int 0)))
  (sSeq (sIf (tV (e2 gtI (eN lenD (aCons (eVar 3) aNil)) (eC (.int 0)))) (sSet 4 (e2 ixA (eVar 3) (e2 modI (eVar 2) (eN lenD (aCons (eVar 3) aNil))))) sNil) m2))) [some (penD ns k 0), some (.int m), some (.int k), some (.list (ns.map .int)), none, none] = some fl := by
        intro x y m2 fl h
        refine ev_seq (en1 := [some (penD ns (k + 1) 0), some (.int m), some (.int k), some (.list (ns.map .int)), none, none]) rfl (ev_seq (en1 := [some (penD ns (k + 1) 0), some (.int m), some (.int k), some (.list (ns.map .int)), some (.int 0), none]) rfl (ev_seq ?_ h))
        exact ev_ifT (ev_tv (ev_2 (ln _ _ _) rfl rfl)) (decide_eq_true hn1) (ev_set (ev_2 rfl (ev_2 rfl (ln _ _ _) ml) at1) rfl)
      by_cases hq : (ns.length : Int) ≤ k ∨ b < 1000000000000000000
      · refine ⟨r % m, k + 1, 0, ?_, Int.emod_nonneg _ (by omega), Int.emod_lt_of_pos _ h3, by omega, by omega, by omega⟩
        refine fnF_rt (en := [some (penD ns (k + 1) 0), some (.int m), some (.int k), some (.list (ns.map .int)), some (.int c), none]) (ev_seq rfl (ev_seq rfl (ev_ret (ev_ifT (b := true) rfl rfl (pre none none (ev_ret (ev_ifT (en1 := [some (penD ns (k + 1) 0), some (.int m), some (.int k), some (.list (ns.map .int)), some (.int c), none]) (b := true) ?_ rfl (ev_rt (ev_2 (en1 := [some (penD ns (k + 1) 0), some (.int m), some (.int k), some (.list (ns.map .int)), some (.int c), none]) (t2 := .int m) (ev_call (as := [.inl (.int c), .inl (.int k)]) (en1 := [some (penD ns (k + 1) 0), some (.int m), some (.int k), some (.list (ns.map .int)), some (.int c), none]) rfl rfl e rfl) rfl (md r))))))))))
        by_cases hq2 : (ns.length : Int) ≤ k
        · exact ev_orT (ev_tv (ev_2 rfl (ln _ _ _) rfl)) (decide_eq_true hq2)
        · have hq3 := hq.resolve_left hq2
          exact ev_orF (ev_tv (ev_2 rfl (ln _ _ _) rfl)) (decide_eq_false hq2) (ev_tv (ev_2 (ev_n rfl rfl ab) (ev_2 rfl rfl pw) (congrArg (fun q => some (PyData.bool q)) (decide_eq_true hq3))))
      · have hq1 : ¬ (ns.length : Int) ≤ k := fun z => hq (.inl z)
        have hq2 : ¬ b < 1000000000000000000 := fun z => hq (.inr z)
        refine ⟨b % m, k + 1, b / m, ?_, Int.emod_nonneg _ (by omega), Int.emod_lt_of_pos _ h3, by omega, by omega, Int.ediv_nonneg b0 (by omega)⟩
        refine fnF_rt (ev_seq rfl (ev_seq rfl (ev_seq (en1 := [some (penD ns (k + 1) b), some (.int m), some (.int k), some (.list (ns.map .int)), some (.int c), none]) (ev_ifT (b := true) rfl rfl (pre none none (ev_seq (ev_ifF (ev_orF (ev_tv (ev_2 rfl (ln _ _ _) rfl)) (decide_eq_false hq1) (ev_tv (ev_2 (ev_n rfl rfl ab) (ev_2 rfl rfl pw) rfl))) (decide_eq_false hq2) rfl) ?_))) (last _ _ _ _ _))))
        unfold sDput
        rw [ev_n (fa := aCons (eVar 4) aNil) (en := [some (penD ns (k + 1) 0), some (.int m), some (.int k), some (.list (ns.map .int)), some (.int c), none]) (en1 := [some (penD ns (k + 1) 0), some (.int m), some (.int k), some (.list (ns.map .int)), some (.int c), none]) rfl rfl ab]
        rfl
  · refine ⟨l % m, k, l / m, ?_, Int.emod_nonneg _ (by omega), Int.emod_lt_of_pos _ h3, Int.le_refl _, by omega, Int.ediv_nonneg h2 (by omega)⟩
    exact fnF_rt (ev_seq rfl (ev_seq rfl (ev_seq (ev_ifF (b := l == 0) rfl (beq_eq_false_iff_ne.mpr hl) rfl) (last k l _ _ _))))
theorem ev_take {ns : List Int} {k l m : Int} {i : Nat} {en : En} {fa : MA} (hp : en[i]? = some (some (penD ns k l))) (hf : fa en = some ([.inr i, .inl (.int m)], en)) (h0 : 0 ≤ k) (h1 : k ≤ 1000000000) (h2 : 0 ≤ l) (h3 : 0 < m) (h4 : m < 1073741824) :
    ∃ r k' l', eCall F_law_take fa en = some (.int r, en.set i (some (penD ns k' l'))) ∧ 0 ≤ r ∧ r < m ∧ k ≤ k' ∧ k' ≤ k + 1 ∧ 0 ≤ l' := by
  obtain ⟨r, k', l', e, q⟩ := take_ok (ns := ns) h0 h1 h2 h3 h4
  refine ⟨r, k', l', ev_call hf (ts := [penD ns k l, .int m]) ?_ e rfl, q⟩
  unfold argv
  rw [hp]
  rfl
end Pen2
end L2
set_option Elab.async false
set_option linter.all false
set_option maxRecDepth 100000
set_option maxHeartbeats 4000000
namespace L2
open PySem PySem.Spec PyProof.Rows
theorem eq_same {t : D} (hn : noDict t = true) (hd : dpth t ≤ 60) : eqD t t = some (.bool true) := by
  show grd _ (PyData.bool (peq t t)) = _
  rw [peq_refl _ hn]
  exact if_pos ⟨hn, hn, hd⟩
theorem ev_not {c : MT} {en en1 : En} {b : Bool} (h : c en = some (b, en1)) : bNot c en = some (!b, en1) := by
  unfold bNot
  rw [h]
  rfl
theorem ev_slot {r : MA} {i : Nat} {en en1 : En} {t : D} {as : List (D ⊕ Nat)} (h0 : en[i]? = some (some t)) (h : r en = some (as, en1)) : aSlot i r en = some (.inr i :: as, en1) := by
  unfold aSlot
  rw [h, h0]
  rfl
end L2
set_option Elab.async false
set_option linter.all false
set_option maxRecDepth 100000
set_option maxHeartbeats 4000000
namespace L2
namespace Pen3
open PySem L2
theorem sl1000 : 1000 ≤ sizeLine := by rw [sizeLine_eq]; decide
def B_law_pen : MS := (sSeq (sSet 2 (eC (.int 0)))
  (sSeq (sIf (tV (e2 gtI (eN lenD (aCons (eVar 0) aNil)) (eC (.int 0)))) (sSet 2 (e2 ixA (eVar 0) (e2 modI (eVar 1) (eN lenD (aCons (eVar 0) aNil))))) sNil)
  (sSeq (sIf (bAnd (tV (e2 ltI (eVar 1) (eN lenD (aCons (eVar 0) aNil)))) (tV (e2 geI (eN absD (aCons (eVar 2) aNil)) (e2 powI (eC (.int 10)) (eC (.int 18)))))) (sRet (eLst (aCons (eN absD (aCons (eVar 2) aNil)) (aCons (eC (.int 0)) (aCons (eC (.int 0)) aNil))))) sNil)
  (sRet (eLst (aCons (eC (.int 0)) (aCons (e2 addS (e2 modI (eVar 2) (eC (.int 999999937))) (e2 mulI (eC (.int 70001)) (eVar 1))) (aCons (eC (.int 0)) aNil))))))))
def F_law_pen : List D → Option (D × En) := fnF 1 [0, 0] B_law_pen
def B_law_draw : MS := (sSeq (sIf (tV (e2 gtI (eIxL 0 (eC (.int 0))) (eC (.int 0)))) (sSeq (sSet 2 (e2 modI (eIxL 0 (eC (.int 0))) (eVar 1)))
  (sSeq (sSetL 0 (eC (.int 0)) (e2 fdivI (eIxL 0 (eC (.int 0))) (eVar 1)))
  (sRet (eVar 2)))) sNil)
  (sSeq (sSetL 0 (eC (.int 2)) (e2 addS (eIxL 0 (eC (.int 2))) (eC (.int 1))))
  (sSeq (sSet 3 (e2 modI (e2 addS (e2 addS (e2 mulI (eIxL 0 (eC (.int 1))) (eC (.int 48271))) (e2 mulI (eIxL 0 (eC (.int 2))) (eC (.int 39373)))) (eC (.int 11))) (eC (.int 2147483647))))
  (sSeq (sSet 3 (e2 modI (e2 mulI (eVar 3) (e2 addS (e2 modI (eVar 3) (eC (.int 65521))) (eIxL 0 (eC (.int 2))))) (eC (.int 2147483629))))
  (sRet (e2 modI (e2 fdivI (eVar 3) (eC (.int 64))) (eVar 1)))))))
def F_law_draw : List D → Option (D × En) := fnF 2 [1, 0] B_law_draw
def penL (a b c : Int) : D := .list [.int a, .int b, .int c]
def IsPen (t : D) : Prop := ∃ a b c, t = penL a b c
theorem draw_ok {p : D} {m : Int} (hp : IsPen p) (h3 : 0 < m) (h4 : m < 1073741824) : ∃ r p', F_law_draw [p, .int m] = some (.int r, [some p', none]) ∧ 0 ≤ r ∧ r < m ∧ IsPen p' := by
  obtain ⟨a, b, c, rfl⟩ := hp
  have cd : ∀ z, CDiv z m := fun z => ⟨h3, h4⟩
  have md : ∀ z, modI (.int z) (.int m) = some (.int (z % m)) := fun z => if_pos h3
  have dv : ∀ z, fdivI (.int z) (.int m) = some (.int (z / m)) := fun z => if_pos (cd z)
  by_cases ha : 0 < a
  · refine ⟨a % m, penL (a / m) b c, ?_, Int.emod_nonneg _ (by omega), Int.emod_lt_of_pos _ h3, _, _, _, rfl⟩
    refine fnF_rt (b := B_law_draw) (en := [some (penL (a / m) b c), some (.int m), some (.int (a % m)), none]) (ev_ret (ev_ifT (b := decide ((0 : Int) < a)) rfl (decide_eq_true ha) (ev_seq (en1 := [some (penL a b c), some (.int m), some (.int (a % m)), none]) (ev_set (ev_2 (t1 := .int a) (t2 := .int m) rfl rfl (md a)) rfl) (ev_seq (en1 := [some (penL (a / m) b c), some (.int m), some (.int (a % m)), none]) ?_ rfl))))
    unfold sSetL
    rw [ev_2 (t1 := .int a) (t2 := .int m) (f1 := eIxL 0 (eC (.int 0))) (f2 := eVar 1) (g := fdivI) (en := [some (penL a b c), some (.int m), some (.int (a % m)), none]) (en1 := [some (penL a b c), some (.int m), some (.int (a % m)), none]) (en2 := [some (penL a b c), some (.int m), some (.int (a % m)), none]) rfl rfl (dv a)]
    rfl
  · generalize g1 : (b * 48271 + (c + 1) * 39373 + 11) % 2147483647 = x
    have x0 : 0 ≤ x := by omega
    have x1 : x < 2147483647 := by omega
    generalize g2 : x * (x % 65521 + (c + 1)) % 2147483629 = y
    refine ⟨y / 64 % m, penL a b (c + 1), ?_, Int.emod_nonneg _ (by omega), Int.emod_lt_of_pos _ h3, _, _, _, rfl⟩
    have c1 : mulI (.int b) (.int 48271) = some (.int (b * 48271)) := if_pos (.inr (by decide))
    have c2 : mulI (.int (c + 1)) (.int 39373) = some (.int ((c + 1) * 39373)) := if_pos (.inr (by decide))
    have c3 : mulI (.int x) (.int (x % 65521 + (c + 1))) = some (.int (x * (x % 65521 + (c + 1)))) := if_pos (.inl (by constructor <;> omega))
    have c80 : CDiv y 64 := ⟨by decide, by decide⟩
    have c8 : fdivI (.int y) (.int 64) = some (.int (y / 64)) := by
      show (if CDiv y 64 then some (PyData.int (y / 64)) else none) = _
      rw [if_pos c80]
    refine fnF_rt (b := B_law_draw) (en := [some (penL a b (c + 1)), some (.int m), none, some (.int y)]) (ev_seq (en1 := [some (penL a b c), some (.int m), none, none]) (ev_ifF (b := decide ((0 : Int) < a)) rfl (decide_eq_false ha) rfl)
      (ev_seq (en1 := [some (penL a b (c + 1)), some (.int m), none, none]) rfl
      (ev_seq (en1 := [some (penL a b (c + 1)), some (.int m), none, some (.int x)]) (ev_set (ev_2 (t2 := .int 2147483647) (ev_2 (ev_2 (ev_2 (t1 := .int b) (t2 := .int 48271) rfl rfl c1) (ev_2 (t1 := .int (c + 1)) (t2 := .int 39373) rfl rfl c2) rfl) rfl rfl) rfl (by rw [← g1]; rfl)) rfl)
      (ev_seq (en1 := [some (penL a b (c + 1)), some (.int m), none, some (.int y)]) (ev_set (ev_2 (t2 := .int 2147483629) (ev_2 (t1 := .int x) (t2 := .int (x % 65521 + (c + 1))) rfl (ev_2 (t1 := .int (x % 65521)) (t2 := .int (c + 1)) rfl rfl rfl) c3) rfl (by rw [← g2]; rfl)) rfl)
      (ev_rt (ev_2 (t2 := .int m) (ev_2 (t1 := .int y) (t2 := .int 64) rfl rfl c8) rfl (md _)))))))
theorem ev_draw {p : D} {m : Int} {i : Nat} {en : En} {fa : MA} (hp : en[i]? = some (some p)) (hI : IsPen p) (hf : fa en = some ([.inr i, .inl (.int m)], en)) (h3 : 0 < m) (h4 : m < 1073741824) :
    ∃ r p', eCall F_law_draw fa en = some (.int r, en.set i (some p')) ∧ 0 ≤ r ∧ r < m ∧ IsPen p' := by
  obtain ⟨r, p', e, q⟩ := draw_ok hI h3 h4
  refine ⟨r, p', ev_call hf (ts := [p, .int m]) ?_ e rfl, q⟩
  unfold argv
  rw [hp]
  rfl
theorem pen_ok {ns : List Int} {k : Int} (h0 : 0 ≤ k) : ∃ p, F_law_pen [.list (ns.map .int), .int k] = some (p, [none, none]) ∧ IsPen p := by
  have len : lenD [.list (ns.map .int)] = some (.int ns.length) := by show some (PyData.int (ns.map PyData.int).length) = _; rw [List.length_map]
  have ln : ∀ (y : Option D), (eN lenD (aCons (eVar 0) aNil)) [some (.list (ns.map .int)), some (.int k), y] = some (.int ns.length, [some (.list (ns.map .int)), some (.int k), y]) := fun y => ev_n rfl rfl len
  have mk0 : CMul 70001 k := .inl (by decide)
  have mk : mulI (.int 70001) (.int k) = some (.int (70001 * k)) := by
    show (if CMul 70001 k then some (PyData.int (70001 * k)) else none) = _
    rw [if_pos mk0]
  have pw : powI (.int 10) (.int 18) = some (.int 1000000000000000000) := by
    show (if CPow 10 18 then some (PyData.int (10 ^ Int.toNat 18)) else none) = _
    rw [if_pos (by unfold CPow; decide)]; rfl
  obtain ⟨c, st⟩ : ∃ c : Int, (sIf (tV (e2 gtI (eN lenD (aCons (eVar 0) aNil)) (eC (.int 0)))) (sSet 2 (e2 ixA (eVar 0) (e2 modI (eVar 1) (eN lenD (aCons (eVar 0) aNil))))) sNil) [some (.list (ns.map .int)), some (.int k), some (.int 0)] = some (.nx [some (.list (ns.map .int)), some (.int k), some (.int c)]) := by
    by_cases hn : (0 : Int) < ns.length
    · obtain ⟨j, ej⟩ : ∃ j : Nat, ixN ns.length (k % ns.length) = some j ∧ j < ns.length := by
        have q1 : 0 ≤ k % (ns.length : Int) := Int.emod_nonneg _ (by omega)
        have q2 : k % (ns.length : Int) < ns.length := Int.emod_lt_of_pos _ (by omega)
        exact ⟨(k % (ns.length : Int)).toNat, by unfold ixN; rw [if_pos q1, if_pos q2], by omega⟩
      obtain ⟨c, ec⟩ : ∃ c, ns[j]? = some c := ⟨_, List.getElem?_eq_getElem ej.2⟩
      have at1 : ixA (.list (ns.map .int)) (.int (k % ns.length)) = some (.int c) := by
        show atI _ _ = _
        unfold atI
        rw [List.length_map, ej.1]
        show (ns.map PyData.int)[j]? = _
        rw [List.getElem?_map, ec]
        rfl
      have ml : modI (.int k) (.int ns.length) = some (.int (k % ns.length)) := if_pos hn
      exact ⟨c, ev_ifT (ev_tv (ev_2 (ln _) rfl rfl)) (decide_eq_true hn) (ev_set (ev_2 rfl (ev_2 rfl (ln _) ml) at1) rfl)⟩
    · exact ⟨0, ev_ifF (ev_tv (ev_2 (ln _) rfl rfl)) (decide_eq_false hn) rfl⟩
  obtain ⟨b, ab⟩ : ∃ b, absD [.int c] = some (.int b) := ⟨if c < 0 then -c else c, rfl⟩
  have l3 : ∀ x y z : D, [x, y, z].length ≤ sizeLine := fun x y z => Nat.le_trans (by show 3 ≤ 1000; decide) sl1000
  have fin : (sRet (eLst (aCons (eC (.int 0)) (aCons (e2 addS (e2 modI (eVar 2) (eC (.int 999999937))) (e2 mulI (eC (.int 70001)) (eVar 1))) (aCons (eC (.int 0)) aNil))))) [some (.list (ns.map .int)), some (.int k), some (.int c)] = some (.rt (penL 0 (c % 999999937 + 70001 * k) 0) [some (.list (ns.map .int)), some (.int k), some (.int c)]) :=
    ev_rt (ev_lst (ev_ac rfl (ev_ac (ev_2 (t1 := .int (c % 999999937)) (t2 := .int (70001 * k)) rfl (ev_2 rfl rfl mk) rfl) rfl)) rfl (l3 _ _ _))
  by_cases h1 : (k < (ns.length : Int)) ∧ (1000000000000000000 ≤ b)
  · refine ⟨penL b 0 0, fnF_rt (b := B_law_pen) (en := [some (.list (ns.map .int)), some (.int k), some (.int c)]) (ev_seq (en1 := [some (.list (ns.map .int)), some (.int k), some (.int 0)]) rfl (ev_seq st (ev_ret (ev_ifT (b := true) (ev_andT (b := decide (k < (ns.length : Int))) (ev_tv (ev_2 rfl (ln _) rfl)) (decide_eq_true h1.1) (ev_tv (ev_2 (ev_n rfl rfl ab) (ev_2 rfl rfl pw) (congrArg (fun q => some (PyData.bool q)) (decide_eq_true h1.2))))) rfl (ev_rt (ev_lst (ev_ac (ev_n rfl rfl ab) rfl) rfl (l3 _ _ _))))))), _, _, _, rfl⟩
  · refine ⟨_, fnF_rt (b := B_law_pen) (en := [some (.list (ns.map .int)), some (.int k), some (.int c)]) (ev_seq (en1 := [some (.list (ns.map .int)), some (.int k), some (.int 0)]) rfl (ev_seq st (ev_seq (en1 := [some (.list (ns.map .int)), some (.int k), some (.int c)]) (ev_ifF (b := false) ?_ rfl rfl) fin))), _, _, _, rfl⟩
    by_cases h2 : k < (ns.length : Int)
    · exact ev_andT (b := decide (k < (ns.length : Int))) (ev_tv (ev_2 rfl (ln _) rfl)) (decide_eq_true h2) (ev_tv (ev_2 (ev_n rfl rfl ab) (ev_2 rfl rfl pw) (congrArg (fun q => some (PyData.bool q)) (decide_eq_false fun z => h1 ⟨h2, z⟩))))
    · exact ev_andF (b := decide (k < (ns.length : Int))) (ev_tv (ev_2 rfl (ln _) rfl)) (decide_eq_false h2)
end Pen3
end L2
set_option Elab.async false
set_option linter.all false
set_option maxRecDepth 100000
set_option maxHeartbeats 4000000
namespace Mch
open PySem L2 Pen2
def B_law_signs : MS := (sRet (e2 ixA (eLst (aCons (eC (.int 2)) (aCons (eC (.int 1)) (aCons (eC (.int 3)) (aCons (eC (.int 2)) (aCons (eC (.int 4)) (aCons (eC (.int 3)) (aCons (eC (.int 2)) (aCons (e2 addS (eC (.int 5)) (eCall F_law_take (aSlot 0 (aCons (eC (.int 8)) aNil)))) aNil))))))))) (eCall F_law_take (aSlot 0 (aCons (eC (.int 8)) aNil)))))
def F_law_signs : List D → Option (D × En) := fnF 0 [1] B_law_signs
def B_law_goal : MS := (sSeq (sSet 4 (eCall F_law_take (aSlot 0 (aCons (e2 addS (eVar 2) (eC (.int 1))) aNil))))
  (sSeq (sIf (bOr (tV (e2 eqD (eVar 4) (eVar 2))) (bAnd (tV (e2 eqD (eVar 3) (eC (.int 1)))) (tV (e2 leI (eVar 4) (eVar 1))))) (sRet (eC .none)) sNil)
  (sRet (eVar 4))))
def F_law_goal : List D → Option (D × En) := fnF 1 [1, 0, 0, 0] B_law_goal
def goD : Option Nat → D
  | none => .none
  | some j => .int j
def rowD (r : List (Option Nat)) : D := .list (r.map goD)
def mach (es : List Bool) (gs : List (List (Option Nat))) : D := .tuple [.list (es.map .bool), .list (gs.map rowD)]
def RowOk (S W : Nat) (r : List (Option Nat)) : Prop := r.length = W ∧ ∀ o ∈ r, ∀ j, o = some j → j < S
theorem signs_ok {ns : List Int} {k l : Int} (h0 : 0 ≤ k) (h1 : k ≤ 1000) (h2 : 0 ≤ l) : ∃ (s : Nat) (k' l' : Int), F_law_signs [penD ns k l] = some (.int s, [some (penD ns k' l')]) ∧ 1 ≤ s ∧ s ≤ 12 ∧ k ≤ k' ∧ k' ≤ k + 2 ∧ 0 ≤ l' := by
  obtain ⟨r1, k1, l1, e1, a1, a2, a3, a4, a5⟩ := ev_take (ns := ns) (k := k) (l := l) (m := 8) (i := 0) (en := [some (penD ns k l)]) (fa := aSlot 0 (aCons (eC (.int 8)) aNil)) rfl rfl h0 (by omega) h2 (by decide) (by decide)
  obtain ⟨r2, k2, l2, e2', b1, b2, b3, b4, b5⟩ := ev_take (ns := ns) (k := k1) (l := l1) (m := 8) (i := 0) (en := [some (penD ns k1 l1)]) (fa := aSlot 0 (aCons (eC (.int 8)) aNil)) rfl rfl (by omega) (by omega) a5 (by decide) (by decide)
  have hx : ∃ s : Nat, ixA (.list [.int 2, .int 1, .int 3, .int 2, .int 4, .int 3, .int 2, .int (5 + r1)]) (.int r2) = some (.int s) ∧ 1 ≤ s ∧ s ≤ 12 := by
    have : r2 = 0 ∨ r2 = 1 ∨ r2 = 2 ∨ r2 = 3 ∨ r2 = 4 ∨ r2 = 5 ∨ r2 = 6 ∨ r2 = 7 := by omega
    rcases this with rfl | rfl | rfl | rfl | rfl | rfl | rfl | rfl
    · exact ⟨2, rfl, by decide, by decide⟩
    · exact ⟨1, rfl, by decide, by decide⟩
    · exact ⟨3, rfl, by decide, by decide⟩
    · exact ⟨2, rfl, by decide, by decide⟩
    · exact ⟨4, rfl, by decide, by decide⟩
    · exact ⟨3, rfl, by decide, by decide⟩
    · exact ⟨2, rfl, by decide, by decide⟩
    · refine ⟨(5 + r1).toNat, ?_, by omega, by omega⟩
      rw [show (((5 + r1).toNat : Nat) : Int) = 5 + r1 by omega]
      rfl
  obtain ⟨s, ex, s1, s2⟩ := hx
  refine ⟨s, k2, l2, ?_, s1, s2, by omega, by omega, b5⟩
  refine fnF_rt (en := [some (penD ns k2 l2)]) (ev_rt (ev_2 (en1 := [some (penD ns k1 l1)]) (ev_lst (ev_ac rfl (ev_ac rfl (ev_ac rfl (ev_ac rfl (ev_ac rfl (ev_ac rfl (ev_ac rfl (ev_ac (ev_2 rfl e1 rfl) rfl)))))))) rfl ?_) e2' ex))
  exact Nat.le_trans (by show 8 ≤ 100; decide) sl100
theorem goal_ok {ns : List Int} {k l way : Int} {i S : Nat} (hS : S ≤ 60) (h0 : 0 ≤ k) (h1 : k ≤ 10000) (h2 : 0 ≤ l) : ∃ (o : Option Nat) (k' l' : Int), F_law_goal [penD ns k l, .int i, .int S, .int way] = some (goD o, [some (penD ns k' l'), none, none, none]) ∧ (∀ j, o = some j → j < S) ∧ k ≤ k' ∧ k' ≤ k + 1 ∧ 0 ≤ l' := by
  obtain ⟨r1, k1, l1, e1, a1, a2, a3, a4, a5⟩ := ev_take (ns := ns) (k := k) (l := l) (m := S + 1) (i := 0) (en := [some (penD ns k l), some (.int i), some (.int S), some (.int way), none]) (fa := aSlot 0 (aCons (e2 addS (eVar 2) (eC (.int 1))) aNil)) rfl rfl h0 (by omega) h2 (by omega) (by omega)
  have c1 : (tV (e2 eqD (eVar 4) (eVar 2))) [some (penD ns k1 l1), some (.int i), some (.int S), some (.int way), some (.int r1)] = some (r1 == (S : Int), [some (penD ns k1 l1), some (.int i), some (.int S), some (.int way), some (.int r1)]) := rfl
  have c2 : (tV (e2 eqD (eVar 3) (eC (.int 1)))) [some (penD ns k1 l1), some (.int i), some (.int S), some (.int way), some (.int r1)] = some (way == 1, [some (penD ns k1 l1), some (.int i), some (.int S), some (.int way), some (.int r1)]) := rfl
  have c3 : (tV (e2 leI (eVar 4) (eVar 1))) [some (penD ns k1 l1), some (.int i), some (.int S), some (.int way), some (.int r1)] = some (decide (r1 ≤ (i : Int)), [some (penD ns k1 l1), some (.int i), some (.int S), some (.int way), some (.int r1)]) := rfl
  obtain ⟨b, cb, hb⟩ : ∃ b, (bOr (tV (e2 eqD (eVar 4) (eVar 2))) (bAnd (tV (e2 eqD (eVar 3) (eC (.int 1)))) (tV (e2 leI (eVar 4) (eVar 1))))) [some (penD ns k1 l1), some (.int i), some (.int S), some (.int way), some (.int r1)] = some (b, [some (penD ns k1 l1), some (.int i), some (.int S), some (.int way), some (.int r1)]) ∧ (b = false → r1 ≠ S) := by
    cases q1 : (r1 == (S : Int)) with
    | true => exact ⟨true, ev_orT c1 q1, fun z => by cases z⟩
    | false =>
      have n1 : r1 ≠ S := by simpa using q1
      cases q2 : (way == 1) with
      | true => exact ⟨_, ev_orF c1 q1 (ev_andT c2 q2 c3), fun _ => n1⟩
      | false => exact ⟨_, ev_orF c1 q1 (ev_andF c2 q2), fun _ => n1⟩
  cases b with
  | true => exact ⟨none, k1, l1, fnF_rt (b := B_law_goal) (t := .none) (en := [some (penD ns k1 l1), some (.int i), some (.int S), some (.int way), some (.int r1)]) (ev_seq (en1 := [some (penD ns k1 l1), some (.int i), some (.int S), some (.int way), some (.int r1)]) (ev_set e1 rfl) (ev_ret (ev_ifT cb rfl rfl))), fun _ (z : none = some _) => (by cases z), a3, a4, a5⟩
  | false =>
    have := hb rfl
    refine ⟨some r1.toNat, k1, l1, ?_, fun j hj => by cases hj; omega, a3, a4, a5⟩
    have e : goD (some r1.toNat) = .int r1 := by show PyData.int ((r1.toNat : Nat) : Int) = _; rw [Int.toNat_of_nonneg a1]
    rw [e]
    exact fnF_rt (b := B_law_goal) (en := [some (penD ns k1 l1), some (.int i), some (.int S), some (.int way), some (.int r1)]) (ev_seq (en1 := [some (penD ns k1 l1), some (.int i), some (.int S), some (.int way), some (.int r1)]) (ev_set e1 rfl) (ev_seq (ev_ifF cb rfl rfl) rfl))
theorem rng_in (n : Nat) (hn : n < 1000000) : -(2 ^ 62) ≤ (n : Int) ∧ (n : Int) < 2 ^ 62 := by
  have : (n : Int) < 1000000 := by omega
  constructor
  · exact Int.le_trans (by decide +kernel) (Int.natCast_nonneg n)
  · exact Int.lt_of_lt_of_le this (by decide +kernel)
theorem ev_rng {j : Int} (p1 : -(2 ^ 62) ≤ j ∧ j < 2 ^ 62) {fa : MA} {en en1 : En} (h : fa en = some ([.inl (.int j)], en1)) : iRng1f fa en = some ((List.range j.toNat).map fun k => .int (0 + (k : Nat)), en1) := by
  unfold iRng1f
  rw [h]
  simp only [Option.bind_some]
  exact if_pos p1
theorem ev_rng1 {n : Nat} {fa : MA} {en en1 : En} (h : fa en = some ([.inl (.int n)], en1)) (hn : n < 1000000) : iRng1f fa en = some ((List.range n).map fun k => .int (0 + (k : Nat)), en1) := by
  have e := ev_rng (rng_in n hn) h
  rw [Int.toNat_natCast] at e
  exact e
def mEn (mo : Int) (ns : List Int) (k l : Int) (W S : Nat) (way fence : Int) (es : List Bool) (gs : List (List (Option Nat))) (x y : Option D) : En :=
  [some (penD ns k l), some (.int W), some (.int mo), some (.int S), some (.int way), some (.int fence), some (.list (es.map .bool)), some (.list (gs.map rowD)), x, y]
theorem row_ok {mo : Int} {ns : List Int} {k l way fence : Int} {W S i : Nat} {es : List Bool} {gs : List (List (Option Nat))} {y : Option D} (hW : W ≤ 12) (hS : S ≤ 60) (h0 : 0 ≤ k) (h1 : k ≤ 9000) (h2 : 0 ≤ l) :
    ∃ (r : List (Option Nat)) (k' l' : Int), eLC false (iRng1f (aCons (eVar 1) aNil)) (gN 0) cY (eCall F_law_goal (aSlot 1 (aCons (eVar 4) (aCons (eVar 2) (aCons (eVar 3) aNil))))) [none, some 0, some 3, some 4, some 8] (mEn mo ns k l W S way fence es gs (some (.int i)) y)
      = some (rowD r, mEn mo ns k' l' W S way fence es gs (some (.int i)) y) ∧ RowOk S W r ∧ k ≤ k' ∧ k' ≤ k + 12 ∧ 0 ≤ l' := by
  have hl : ((List.range W).map fun k => PyData.int (0 + (k : Nat))).length = W := by rw [List.length_map, List.length_range]
  obtain ⟨us, ex, e1, ⟨o, k', l', rfl, q1, q2, q3⟩, a⟩ := lcF_all (N := W) (g := gN 0) (c := cY) (f := eCall F_law_goal (aSlot 1 (aCons (eVar 4) (aCons (eVar 2) (aCons (eVar 3) aNil)))))
    (fun n en => ∃ o k' l', en = [o, some (penD ns k' l'), some (.int S), some (.int way), some (.int i)] ∧ k ≤ k' ∧ k' ≤ k + n ∧ 0 ≤ l') (fun _ q => ∃ o, q = goD o ∧ ∀ j, o = some j → j < S)
    (fun n t en hn ⟨o, k', l', he, q1, q2, q3⟩ => by
      subst he
      obtain ⟨o', k2, l2, e, p1, p2, p3, p4⟩ := goal_ok (ns := ns) (k := k') (l := l') (way := way) (i := i) (S := S) hS (by omega) (by omega) q3
      exact ⟨[some t, some (penD ns k' l'), some (.int S), some (.int way), some (.int i)], [some t, some (penD ns k' l'), some (.int S), some (.int way), some (.int i)], goD o', [some t, some (penD ns k2 l2), some (.int S), some (.int way), some (.int i)], rfl, rfl, ev_call (as := [.inr 1, .inl (.int i), .inl (.int S), .inl (.int way)]) rfl rfl e rfl, ⟨some t, k2, l2, rfl, by omega, by omega, p4⟩, ⟨o', rfl, p1⟩⟩)
    ((List.range W).map fun k => .int (0 + (k : Nat))) [] 0 (blkEn [none, some 0, some 3, some 4, some 8] (mEn mo ns k l W S way fence es gs (some (.int i)) y)) ⟨none, k, l, rfl, Int.le_refl _, by omega, h2⟩ (by rw [hl]; omega) (by rw [hl]; show 0 + W ≤ _; exact Nat.le_trans (by omega) sl100)
  obtain ⟨os, rfl, o1, o2⟩ := a.ex
  rw [hl] at o1 q2
  refine ⟨os, k', l', ev_lc (ev_rng1 (n := W) rfl (by omega)) e1 rfl, ⟨o1, o2⟩, q1, by omega, q3⟩
theorem ixN_int {n : Nat} {j : Int} (h0 : 0 ≤ j) (h1 : j < n) : ixN n j = some j.toNat := by
  unfold ixN
  rw [if_pos h0, if_pos h1]
theorem ixN_nat {n i : Nat} (h : i < n) : ixN n (i : Int) = some i := by
  have e := ixN_int (n := n) (j := (i : Int)) (Int.natCast_nonneg i) (Int.ofNat_lt.mpr h)
  rw [Int.toNat_natCast] at e
  exact e
def intsD (v : List Int) : D := .list (v.map .int)
def pick (v : List Int) : D → Option Int
  | .int j => some (v.getD j.toNat 0)
  | _ => none
def rsD (v : List Int) : D → Int
  | .list xs => (xs.filterMap (pick v)).sum
  | _ => 0
def nxt (gs : List (List (Option Nat))) (v : List Int) : List Int := gs.map fun r => rsD v (rowD r)
def base (es : List Bool) : List Int := es.map fun b => if b then 1 else 0
def it (gs : List (List (Option Nat))) (v : List Int) : Nat → List Int
  | 0 => v
  | n + 1 => nxt gs (it gs v n)
def pF (v : List Int) : D → D
  | .int j => .int (v.getD j.toNat 0)
  | _ => .none
theorem ints_pick (v : List Int) : ∀ r : List (Option Nat), intsOf ((((r.map goD).filter fun t => !isNoneB t)).map (pF v)) = some ((r.map goD).filterMap (pick v))
  | [] => rfl
  | none :: r => ints_pick v r
  | some j :: r => by
    show (intsOf ((((r.map goD).filter fun t => !isNoneB t)).map (pF v))).map (v.getD (j : Int).toNat 0 :: ·) = _
    rw [ints_pick v r]
    rfl
theorem ix_ints {v : List Int} {j : Nat} (h : j < v.length) : ixA (intsD v) (.int j) = some (.int (v.getD j 0)) := by
  show atI (v.map PyData.int) (j : Int) = _
  unfold atI
  rw [ixN_nat (by rw [List.length_map]; exact h)]
  show (v.map PyData.int)[j]? = _
  rw [List.getElem?_map, List.getElem?_eq_getElem h, List.getD_eq_getElem?_getD, List.getElem?_eq_getElem h]
  rfl
def inF : ME := eN sumD (aCons (eLC true (iAny (eVar 0)) (gN 0) (tV (e2 notN (eVar 0) (eC .none))) (e2 ixA (eVar 1) (eVar 0)) [none, some 1]) aNil)
theorem in_ok {v : List Int} {r : List (Option Nat)} {S W : Nat} (hr : RowOk S W r) (hv : v.length = S) (hW : W ≤ 12) : inF [some (rowD r), some (intsD v)] = some (.int (rsD v (rowD r)), [some (rowD r), some (intsD v)]) := by
  obtain ⟨o', e⟩ := lcF_filter (c := tV (e2 notN (eVar 0) (eC .none))) (f := e2 ixA (eVar 1) (eVar 0)) (p := fun t => !isNoneB t) (F := pF v) (rest := [some (intsD v)]) (r.map goD) [] none
    (fun t ht => by
      obtain ⟨o, ho, rfl⟩ := List.mem_map.mp ht
      cases o <;> rfl)
    (fun t ht hp => by
      obtain ⟨o, ho, rfl⟩ := List.mem_map.mp ht
      cases o with
      | none => cases hp
      | some j => exact ev_2 rfl rfl (ix_ints (by rw [hv]; exact hr.2 _ ho _ rfl)))
    (by rw [List.length_map, hr.1]; exact Nat.le_trans (by show 0 + W ≤ 100; omega) sl100)
  refine ev_n (ev_ac (ev_lc rfl e rfl) rfl) rfl ?_
  show (intsOf _).map _ = _
  rw [List.nil_append, ints_pick]
  rfl
theorem step_ok {i : Nat} {en : En} {es : List Bool} {gs : List (List (Option Nat))} {v : List Int} {S W : Nat} (h0 : (eVar 0) en = some (mach es gs, en)) (hi : (en[i]?).join = some (intsD v)) (hg : ∀ r ∈ gs, RowOk S W r) (hl : gs.length ≤ 60) (hv : v.length = S) (hW : W ≤ 12) :
    eLC true (iAny (e2 ixA (eVar 0) (eC (.int 1)))) (gN 0) cY inF [none, some i] en = some (intsD (nxt gs v), en) := by
  obtain ⟨o', e⟩ := lcF_map (f := inF) (F := fun t => .int (rsD v t)) (rest := [some (intsD v)]) (gs.map rowD) [] none
    (fun t ht => by
      obtain ⟨r, hr, rfl⟩ := List.mem_map.mp ht
      exact in_ok (hg r hr) hv hW)
    (by rw [List.length_map]; exact Nat.le_trans (by show 0 + _ ≤ 100; omega) sl100)
  have e2' : (gs.map rowD).map (fun t => PyData.int (rsD v t)) = (nxt gs v).map .int := by
    unfold nxt
    rw [List.map_map, List.map_map]
    rfl
  rw [List.nil_append, e2'] at e
  refine ev_lc (ts := gs.map rowD) (en1 := en) (ex := [o', some (intsD v)]) ?_ ?_ rfl
  · have : e2 ixA (eVar 0) (eC (.int 1)) en = some (.list (gs.map rowD), en) := ev_2 h0 rfl rfl
    unfold iAny
    rw [this]
    rfl
  · show lcF (gN 0) cY inF (gs.map rowD) [] [none, (en[i]?).join] = _
    rw [hi]
    exact e
structure MOk (S W : Nat) (es : List Bool) (gs : List (List (Option Nat))) : Prop where
  s1 : 1 ≤ S
  s2 : S ≤ 40
  w1 : 1 ≤ W
  w2 : W ≤ 12
  le : es.length = S
  lg : gs.length = S
  ok : ∀ r ∈ gs, RowOk S W r
section
variable {S W : Nat} {es : List Bool} {gs : List (List (Option Nat))}
theorem MOk.lit (M : MOk S W es gs) : ∀ n, (it gs (base es) n).length = S
  | 0 => by show (es.map _).length = S; rw [List.length_map, M.le]
  | n + 1 => by show (gs.map _).length = S; rw [List.length_map, M.lg]
end
theorem sum_in {v : List Int} {B : Int} (h0 : 0 ≤ B) (h : ∀ x ∈ v, 0 ≤ x ∧ x ≤ B) : ∀ r : List (Option Nat), 0 ≤ ((r.map goD).filterMap (pick v)).sum ∧ ((r.map goD).filterMap (pick v)).sum ≤ r.length * B
  | [] => ⟨Int.le_refl 0, by show (0 : Int) ≤ (0 : Nat) * B; simp⟩
  | none :: r => by
    have := sum_in h0 h r
    refine ⟨this.1, ?_⟩
    show ((r.map goD).filterMap (pick v)).sum ≤ ((r.length + 1 : Nat) : Int) * B
    rw [Int.natCast_add, Int.add_mul]
    have : (0 : Int) ≤ ((1 : Nat) : Int) * B := by omega
    omega
  | some j :: r => by
    have q := sum_in h0 h r
    have e : (((some j :: r).map goD).filterMap (pick v)).sum = v.getD j 0 + ((r.map goD).filterMap (pick v)).sum := rfl
    have g : 0 ≤ v.getD j 0 ∧ v.getD j 0 ≤ B := by
      rw [List.getD_eq_getElem?_getD]
      cases hj : v[j]? with
      | none => exact ⟨by decide, h0⟩
      | some x => exact h x (List.mem_of_getElem? hj)
    rw [e]
    refine ⟨by omega, ?_⟩
    show _ ≤ ((r.length + 1 : Nat) : Int) * B
    rw [Int.natCast_add, Int.add_mul]
    have : ((1 : Nat) : Int) * B = B := by simp
    omega
section
variable {S W : Nat} {es : List Bool} {gs : List (List (Option Nat))}
theorem MOk.itB (M : MOk S W es gs) : ∀ n, ∀ x ∈ it gs (base es) n, 0 ≤ x ∧ x ≤ ((W ^ n : Nat) : Int)
  | 0 => fun x hx => by
    obtain ⟨b, _, rfl⟩ := List.mem_map.mp hx
    cases b with
    | false => exact ⟨Int.le_refl 0, Int.natCast_nonneg _⟩
    | true => exact ⟨by show (0 : Int) ≤ 1; decide, by show (1 : Int) ≤ ((W ^ 0 : Nat) : Int); rw [Nat.pow_zero]; decide⟩
  | n + 1 => fun x hx => by
    obtain ⟨r, hr, rfl⟩ := List.mem_map.mp hx
    have := sum_in (B := ((W ^ n : Nat) : Int)) (Int.natCast_nonneg _) (M.itB n) r
    rw [(M.ok r hr).1, ← Int.natCast_mul] at this
    rw [show W ^ (n + 1) = W * W ^ n by rw [Nat.pow_succ, Nat.mul_comm]]
    exact this
theorem MOk.c (M : MOk S W es gs) (n : Nat) : ∃ c : Nat, ixA (intsD (it gs (base es) n)) (.int 0) = some (.int c) ∧ c ≤ W ^ n := by
  have hl := M.lit n
  have h0 : 0 < (it gs (base es) n).length := by have := M.s1; omega
  have hm : (it gs (base es) n).getD 0 0 ∈ it gs (base es) n := by
    rw [List.getD_eq_getElem?_getD, List.getElem?_eq_getElem h0]
    exact List.getElem_mem h0
  have hb := M.itB n _ hm
  refine ⟨((it gs (base es) n).getD 0 0).toNat, ?_, by omega⟩
  rw [Int.toNat_of_nonneg hb.1]
  exact ix_ints (j := 0) h0
end
end Mch
set_option Elab.async false
set_option linter.all false
set_option maxRecDepth 100000
set_option maxHeartbeats 4000000
namespace W02
open PySem L2
def top (i : Nat) : Stmt := PySem.Challenge.pw_wordrules_k02_signs_kinds_rows.main.body.getD i (.Pass ⟨0, 0, 0, 0⟩)
structure Bl (mg : Str → Option Value) : Prop where
  abs0 : mg "abs" = none
  all0 : mg "all" = none
  bool0 : mg "bool" = none
  enumerate0 : mg "enumerate" = none
  int0 : mg "int" = none
  isinstance0 : mg "isinstance" = none
  len0 : mg "len" = none
  list0 : mg "list" = none
  min0 : mg "min" = none
  range0 : mg "range" = none
  repr0 : mg "repr" = none
  str0 : mg "str" = none
  sum0 : mg "sum" = none
  tuple0 : mg "tuple" = none
section
variable {P : Program} {w : World} {K : PySem.W.Frag} {mg : Str → Option Value} {base : Heap} {f : Addr} {fd : FuncData}
abbrev Ssigns_of : Stmt := top 3
abbrev Nsigns_of : List Str := ["tongue"]
theorem scsigns_of : FnScope Nsigns_of ["tongue"] (defScope Ssigns_of) := ⟨rfl, rfl, rfl, by decide +kernel, rfl, by decide +kernel, by decide +kernel⟩
def Bsigns_of : MS := (sRet (eM joinD (eC (.str "")) (aCons (eVar 0) aNil)))
def Fsigns_of : List D → Option (D × En) := fnF 0 [0] Bsigns_of
theorem oksigns_of {k : Nat} (T : Bl mg)   (F : Fun K "signs_of" "signs_of" Ssigns_of f fd) : FnOk P w K mg base CX0 (k + 1) f fd ["tongue"] (spF K [0] 3 Fsigns_of) := by
  have nd := scsigns_of.nd
  refine F.okQ (N := Nsigns_of) (b := Bsigns_of) (J := ⟨[], [0], 3, []⟩) (ds0 := [0]) scsigns_of rfl rfl rfl rfl fun cdv A outer s H E hr => ?_
  exact (fss_one_q (fps_ret_q (fe_strm_q (K := K) rfl PySem.F.slot_str_join PySem.F.type_str_join (mt_join rfl) fm_join fe_str_q (fa_cons'_q (fe_var_q (i := 0) rfl (.inl rfl) rfl (by decide) (by decide)) fa_nil'_q rfl) rfl rfl rfl rfl rfl rfl) rfl))
abbrev Sis_word : Stmt := top 2
abbrev Nis_word : List Str := ["tongue", "thing", "signs"]
theorem scis_word : FnScope Nis_word ["tongue", "thing"] (defScope Sis_word) := ⟨rfl, rfl, rfl, by decide +kernel, rfl, by decide +kernel, by decide +kernel⟩
def Bis_word : MS := (sSeq (sIf (bOr (bNot (tV (e1 (isiD "str") (eVar 1)))) (tV (e2 gtI (eN lenD (aCons (eVar 1) aNil)) (eC (.int 60))))) (sRet (eC (.bool false))) sNil)
  (sSeq (sSet 2 (eCall Fsigns_of (aCons (eVar 0) aNil)))
  (sRet (eN allD (aCons (eLC true (iAny (eVar 1)) (gN 0) cY (e2 inSf (eVar 0) (eVar 1)) [none, some 2]) aNil)))))
def Fis_word : List D → Option (D × En) := fnF 1 [0, 0] Bis_word
theorem okis_word {k : Nat} (T : Bl mg) {tk_MOST_SIGNS_OF_A_WORD : Tok} (g_MOST_SIGNS_OF_A_WORD : mg "MOST_SIGNS_OF_A_WORD" = some (.int 60 tk_MOST_SIGNS_OF_A_WORD)) (Gsigns_of : Kn P w K mg base k "signs_of" ["tongue"] (spF K [0] 3 Fsigns_of)) (F : Fun K "is_word" "is_word" Sis_word f fd) : FnOk P w K mg base CX0 (k + 1) f fd ["tongue", "thing"] (spF K [0, 0] 3 Fis_word) := by
  have nd := scis_word.nd
  refine F.okQ (N := Nis_word) (b := Bis_word) (J := ⟨[], [0, 0, 0], 3, []⟩) (ds0 := [0, 0, 0]) scis_word rfl rfl rfl rfl fun cdv A outer s H E hr => ?_
  exact (fss_cons_q (fps_if_q (ds2 := [0, 0, 0]) (qpt (fw_or_q (ft_not'_q (ft_val'_q (fe_isi_q (K := K) (n := "str") rfl rfl T.isinstance0 rfl T.str0 (by decide +kernel) (by decide) (fe_var_q (i := 1) rfl (.inl rfl) rfl (by decide) (by decide)) (by decide) (by decide) rfl rfl rfl) (fun _ => rfl))) (fw_or1_q (ft_cmp'_q fo_gt (fe_callB_q (fo_len (K := K) rfl) rfl T.len0 (by decide +kernel) (fa_cons'_q (fe_var_q (i := 1) rfl (.inl rfl) rfl (by decide) (by decide)) fa_nil'_q rfl) rfl (by decide) (by decide) rfl rfl) (fe_globI_q rfl g_MOST_SIGNS_OF_A_WORD (by decide)) (nomark _))))) (fss_one_q (fps_ret_q fe_bl_q rfl)) fss_nil_q)
    (fss_cons_q (fps_set_q (i := 2) (d := 0) (ds' := [0, 0, 0]) nd rfl (.inr rfl) (fe_sub_q (d' := 0) (d := 3) (fe_fn_q Gsigns_of hr rfl (fa_cons'_q (fe_var_q (i := 0) rfl (.inl rfl) rfl (by decide) (by decide)) fa_nil'_q rfl) rfl rfl (by decide) rfl rfl) (by decide)) rfl (by decide) (by decide) rfl (by first | exact .inl rfl | exact .inr rfl | assumption))
    (fss_one_q (fps_ret_q (fe_callB_q (fo_all (K := K) rfl rfl) rfl T.all0 (by decide +kernel) (fa_cons'_q (fe_sub_q (d' := 0) (d := 3) (fe_lc_q (cd := 3) (d := 3) (dsi := [0, 0]) (lk := [1]) (BlkOkC.of (ns := ["sign", "signs"]) (js := [none, some 2]) (N0 := Nis_word) (sc0 := defScope Sis_word) rfl rfl (by decide +kernel)) rfl (fi_any_q (K := K) rfl (fe_var_q (i := 1) rfl (.inl rfl) rfl (by decide) (by decide))) (fun _ _ _ _ _ => (fg_name'_q (i := 0) (ds' := [0, 0]) (show (["sign", "signs"] : List Str).Nodup by decide +kernel) rfl (.inl rfl) rfl (by decide) (by decide) (by first | exact .inl rfl | exact .inr rfl | assumption))) (fun _ _ _ _ _ => fts_nil_q) (fun _ _ _ _ _ => (fe_cmp_q fo_inS (fe_var_q (i := 0) rfl (.inl rfl) rfl (by decide) (by decide)) (fe_var_q (i := 1) rfl (.inr (.inl rfl)) rfl (by decide) (by decide)) (by with_unfolding_all rfl))) rfl rfl (by decide) rfl (fun _ => rfl)) (by decide)) fa_nil'_q rfl) rfl (by decide) (by decide) rfl rfl) rfl))))
abbrev Skind_of : Stmt := top 4
abbrev Nkind_of : List Str := ["tongue", "sign", "number", "kind"]
theorem sckind_of : FnScope Nkind_of ["tongue", "sign"] (defScope Skind_of) := ⟨rfl, rfl, rfl, by decide +kernel, rfl, by decide +kernel, by decide +kernel⟩
def Bkind_of : MS := (sSeq (sFor (iEnumf (aCons (eVar 0) aNil)) (gT (gsC (gN 2) (gsC (gN 3) gs0))) (sIf (tV (e2 inSf (eVar 1) (eVar 3))) (sRet (eVar 2)) sNil))
  (sRet (eC .none)))
def Fkind_of : List D → Option (D × En) := fnF 2 [0, 0] Bkind_of
theorem okkind_of {k : Nat} (T : Bl mg)   (F : Fun K "kind_of" "kind_of" Skind_of f fd) : FnOk P w K mg base CX0 (k + 1) f fd ["tongue", "sign"] (spF K [0, 0] 0 Fkind_of) := by
  have nd := sckind_of.nd
  refine F.okQ (N := Nkind_of) (b := Bkind_of) (J := ⟨[], [0, 0, 0, 0], 0, []⟩) (ds0 := [0, 0, 0, 0]) sckind_of rfl rfl rfl rfl fun cdv A outer s H E hr => ?_
  exact (fss_cons_q (fps_for_q (ds1 := [0, 0, 0, 0]) rfl (fi_enum_q (K := K) rfl rfl T.enumerate0 (fa_cons'_q (fe_var_q (i := 0) rfl (.inl rfl) rfl (by decide) (by decide)) fa_nil'_q rfl) rfl) (fg_tup'_q (K := K) rfl rfl (fgs_cons'_q (fg_name'_q (i := 2) (ds' := [0, 0, 0, 0]) nd rfl (.inl rfl) rfl (by decide) (by decide) (by first | exact .inl rfl | exact .inr rfl | assumption)) (fgs_cons'_q (fg_name'_q (i := 3) (ds' := [0, 0, 0, 0]) nd rfl (.inl rfl) rfl (by decide) (by decide) (by first | exact .inl rfl | exact .inr rfl | assumption)) fgs_nil'_q rfl) rfl) gs_len2 rfl rfl) (fss_one_q (fps_if_q (ds2 := [0, 0, 0, 0]) (ft_cmp'_q fo_inS (fe_var_q (i := 1) rfl (.inl rfl) rfl (by decide) (by decide)) (fe_var_q (i := 3) rfl (.inl rfl) rfl (by decide) (by decide)) (by with_unfolding_all rfl)) (fss_one_q (fps_ret_q (fe_var_q (i := 2) rfl (.inl rfl) rfl (by decide) (by decide)) rfl)) fss_nil_q)) PassesOwn.never (fun _ => rfl))
    (fss_one_q (fps_ret_q (fe_sub_q (d' := 0) (d := 3) fe_non_q (by decide)) rfl)))
abbrev Srow_of : Stmt := top 5
abbrev Nrow_of : List Str := ["tongue", "word", "signs"]
theorem scrow_of : FnScope Nrow_of ["tongue", "word"] (defScope Srow_of) := ⟨rfl, rfl, rfl, by decide +kernel, rfl, by decide +kernel, by decide +kernel⟩
def Brow_of : MS := (sSeq (sSet 2 (eCall Fsigns_of (aCons (eVar 0) aNil)))
  (sRet (eLC true (iAny (eVar 1)) (gN 0) cY (eM indexD (eVar 1) (aCons (eVar 0) aNil)) [none, some 2])))
def Frow_of : List D → Option (D × En) := fnF 1 [0, 0] Brow_of
theorem okrow_of {k : Nat} (T : Bl mg)  (Gsigns_of : Kn P w K mg base k "signs_of" ["tongue"] (spF K [0] 3 Fsigns_of)) (F : Fun K "row_of" "row_of" Srow_of f fd) : FnOk P w K mg base CX0 (k + 1) f fd ["tongue", "word"] (spF K [0, 0] 3 Frow_of) := by
  have nd := scrow_of.nd
  refine F.okQ (N := Nrow_of) (b := Brow_of) (J := ⟨[], [0, 0, 0], 3, []⟩) (ds0 := [0, 0, 0]) scrow_of rfl rfl rfl rfl fun cdv A outer s H E hr => ?_
  exact (fss_cons_q (fps_set_q (i := 2) (d := 0) (ds' := [0, 0, 0]) nd rfl (.inr rfl) (fe_sub_q (d' := 0) (d := 3) (fe_fn_q Gsigns_of hr rfl (fa_cons'_q (fe_var_q (i := 0) rfl (.inl rfl) rfl (by decide) (by decide)) fa_nil'_q rfl) rfl rfl (by decide) rfl rfl) (by decide)) rfl (by decide) (by decide) rfl (by first | exact .inl rfl | exact .inr rfl | assumption))
    (fss_one_q (fps_ret_q (fe_lc_q (cd := 3) (d := 3) (dsi := [0, 0]) (lk := [1]) (BlkOkC.of (ns := ["sign", "signs"]) (js := [none, some 2]) (N0 := Nrow_of) (sc0 := defScope Srow_of) rfl rfl (by decide +kernel)) rfl (fi_any_q (K := K) rfl (fe_var_q (i := 1) rfl (.inl rfl) rfl (by decide) (by decide))) (fun _ _ _ _ _ => (fg_name'_q (i := 0) (ds' := [0, 0]) (show (["sign", "signs"] : List Str).Nodup by decide +kernel) rfl (.inl rfl) rfl (by decide) (by decide) (by first | exact .inl rfl | exact .inr rfl | assumption))) (fun _ _ _ _ _ => fts_nil_q) (fun _ _ _ _ _ => (fe_strm_q (K := K) rfl PySem.F.slot_str_index PySem.F.type_str_index mt_index fm_index (fe_var_q (i := 1) rfl (.inr (.inl rfl)) rfl (by decide) (by decide)) (fa_cons'_q (fe_var_q (i := 0) rfl (.inl rfl) rfl (by decide) (by decide)) fa_nil'_q rfl) rfl rfl rfl rfl rfl rfl)) rfl rfl (by decide) rfl (fun _ => rfl)) rfl)))
abbrev Sword_of : Stmt := top 6
abbrev Nword_of : List Str := ["tongue", "row", "signs"]
theorem scword_of : FnScope Nword_of ["tongue", "row"] (defScope Sword_of) := ⟨rfl, rfl, rfl, by decide +kernel, rfl, by decide +kernel, by decide +kernel⟩
def Bword_of : MS := (sSeq (sSet 2 (eCall Fsigns_of (aCons (eVar 0) aNil)))
  (sRet (eM joinD (eC (.str "")) (aCons (eLC true (iAny (eVar 1)) (gN 0) cY (e2 ixT (eVar 1) (eVar 0)) [none, some 2]) aNil))))
def Fword_of : List D → Option (D × En) := fnF 1 [0, 0] Bword_of
theorem okword_of {k : Nat} (T : Bl mg)  (Gsigns_of : Kn P w K mg base k "signs_of" ["tongue"] (spF K [0] 3 Fsigns_of)) (F : Fun K "word_of" "word_of" Sword_of f fd) : FnOk P w K mg base CX0 (k + 1) f fd ["tongue", "row"] (spF K [0, 0] 3 Fword_of) := by
  have nd := scword_of.nd
  refine F.okQ (N := Nword_of) (b := Bword_of) (J := ⟨[], [0, 0, 0], 3, []⟩) (ds0 := [0, 0, 0]) scword_of rfl rfl rfl rfl fun cdv A outer s H E hr => ?_
  exact (fss_cons_q (fps_set_q (i := 2) (d := 0) (ds' := [0, 0, 0]) nd rfl (.inr rfl) (fe_sub_q (d' := 0) (d := 3) (fe_fn_q Gsigns_of hr rfl (fa_cons'_q (fe_var_q (i := 0) rfl (.inl rfl) rfl (by decide) (by decide)) fa_nil'_q rfl) rfl rfl (by decide) rfl rfl) (by decide)) rfl (by decide) (by decide) rfl (by first | exact .inl rfl | exact .inr rfl | assumption))
    (fss_one_q (fps_ret_q (fe_strm_q (K := K) rfl PySem.F.slot_str_join PySem.F.type_str_join (mt_join rfl) fm_join fe_str_q (fa_cons'_q (fe_sub_q (d' := 0) (d := 3) (fe_lc_q (cd := 3) (d := 3) (dsi := [0, 0]) (lk := [1]) (BlkOkC.of (ns := ["number", "signs"]) (js := [none, some 2]) (N0 := Nword_of) (sc0 := defScope Sword_of) rfl rfl (by decide +kernel)) rfl (fi_any_q (K := K) rfl (fe_var_q (i := 1) rfl (.inl rfl) rfl (by decide) (by decide))) (fun _ _ _ _ _ => (fg_name'_q (i := 0) (ds' := [0, 0]) (show (["number", "signs"] : List Str).Nodup by decide +kernel) rfl (.inl rfl) rfl (by decide) (by decide) (by first | exact .inl rfl | exact .inr rfl | assumption))) (fun _ _ _ _ _ => fts_nil_q) (fun _ _ _ _ _ => (fe_ix_q fo_ixT (fe_var_q (i := 1) rfl (.inr (.inl rfl)) rfl (by decide) (by decide)) (fe_var_q (i := 0) rfl (.inl rfl) rfl (by decide) (by decide)) (fun _ _ => rfl))) rfl rfl (by decide) rfl (fun _ => rfl)) (by decide)) fa_nil'_q rfl) rfl rfl rfl rfl rfl rfl) rfl)))
abbrev S_law_pen : Stmt := top 8
abbrev N_law_pen : List Str := ["_law_script", "_law_k", "_law_cell"]
theorem sc_law_pen : FnScope N_law_pen ["_law_script", "_law_k"] (defScope S_law_pen) := ⟨rfl, rfl, rfl, by decide +kernel, rfl, by decide +kernel, by decide +kernel⟩
def B_law_pen : MS := (sSeq (sSet 2 (eC (.int 0)))
  (sSeq (sIf (tV (e2 gtI (eN lenD (aCons (eVar 0) aNil)) (eC (.int 0)))) (sSet 2 (e2 ixA (eVar 0) (e2 modI (eVar 1) (eN lenD (aCons (eVar 0) aNil))))) sNil)
  (sSeq (sIf (bAnd (tV (e2 ltI (eVar 1) (eN lenD (aCons (eVar 0) aNil)))) (tV (e2 geI (eN absD (aCons (eVar 2) aNil)) (e2 powI (eC (.int 10)) (eC (.int 18)))))) (sRet (eLst (aCons (eN absD (aCons (eVar 2) aNil)) (aCons (eC (.int 0)) (aCons (eC (.int 0)) aNil))))) sNil)
  (sRet (eLst (aCons (eC (.int 0)) (aCons (e2 addS (e2 modI (eVar 2) (eC (.int 999999937))) (e2 mulI (eC (.int 70001)) (eVar 1))) (aCons (eC (.int 0)) aNil))))))))
def F_law_pen : List D → Option (D × En) := fnF 1 [0, 0] B_law_pen
theorem ok_law_pen {k : Nat} (T : Bl mg)   (F : Fun K "_law_pen" "_law_pen" S_law_pen f fd) : FnOk P w K mg base CX0 (k + 1) f fd ["_law_script", "_law_k"] (spF K [0, 0] 3 F_law_pen) := by
  have nd := sc_law_pen.nd
  refine F.okQ (N := N_law_pen) (b := B_law_pen) (J := ⟨[], [0, 0, 0], 3, []⟩) (ds0 := [0, 0, 0]) sc_law_pen rfl rfl rfl rfl fun cdv A outer s H E hr => ?_
  exact (fss_cons_q (fps_set_q (i := 2) (d := 0) (ds' := [0, 0, 0]) nd rfl (.inl rfl) (fe_sub_q (d' := 0) (d := 3) fe_int_q (by decide)) rfl (by decide) (by decide) rfl (by first | exact .inl rfl | exact .inr rfl | assumption))
    (fss_cons_q (fps_if_q (ds2 := [0, 0, 0]) (ft_cmp'_q fo_gt (fe_callB_q (fo_len (K := K) rfl) rfl T.len0 (by decide +kernel) (fa_cons'_q (fe_var_q (i := 0) rfl (.inl rfl) rfl (by decide) (by decide)) fa_nil'_q rfl) rfl (by decide) (by decide) rfl rfl) fe_int_q (nomark _)) (fss_one_q (fps_set_q (i := 2) (d := 0) (ds' := [0, 0, 0]) nd rfl (.inl rfl) (fe_ix_q (fo_ix (K := K) rfl) (fe_var_q (i := 0) rfl (.inl rfl) rfl (by decide) (by decide)) (fe_op_q fo_mod (fe_var_q (i := 1) rfl (.inl rfl) rfl (by decide) (by decide)) (fe_callB_q (fo_len (K := K) rfl) rfl T.len0 (by decide +kernel) (fa_cons'_q (fe_var_q (i := 0) rfl (.inl rfl) rfl (by decide) (by decide)) fa_nil'_q rfl) rfl (by decide) (by decide) rfl rfl)) (fun _ _ => rfl)) rfl (by decide) (by decide) rfl (by first | exact .inl rfl | exact .inr rfl | assumption))) fss_nil_q)
    (fss_cons_q (fps_if_q (ds2 := [0, 0, 0]) (qpt (fw_and_q (ft_cmp'_q fo_lt (fe_var_q (i := 1) rfl (.inl rfl) rfl (by decide) (by decide)) (fe_callB_q (fo_len (K := K) rfl) rfl T.len0 (by decide +kernel) (fa_cons'_q (fe_var_q (i := 0) rfl (.inl rfl) rfl (by decide) (by decide)) fa_nil'_q rfl) rfl (by decide) (by decide) rfl rfl) (nomark _)) (fw_and1_q (ft_cmp'_q fo_ge (fe_callB_q fo_abs rfl T.abs0 (by decide +kernel) (fa_cons'_q (fe_var_q (i := 2) rfl (.inl rfl) rfl (by decide) (by decide)) fa_nil'_q rfl) rfl (by decide) (by decide) rfl rfl) (fe_op_q fo_pow fe_int_q fe_int_q) (nomark _))))) (fss_one_q (fps_ret_q (fe_lst_q (d := 3) (c := 3) (fa_cons'_q (fe_callB_q fo_abs rfl T.abs0 (by decide +kernel) (fa_cons'_q (fe_var_q (i := 2) rfl (.inl rfl) rfl (by decide) (by decide)) fa_nil'_q rfl) rfl (by decide) (by decide) rfl rfl) (fa_cons'_q fe_int_q (fa_cons'_q fe_int_q fa_nil'_q rfl) rfl) rfl) rfl rfl (by decide)) rfl)) fss_nil_q)
    (fss_one_q (fps_ret_q (fe_lst_q (d := 3) (c := 3) (fa_cons'_q fe_int_q (fa_cons'_q (fe_op_q fo_add (fe_op_q fo_mod (fe_var_q (i := 2) rfl (.inl rfl) rfl (by decide) (by decide)) fe_int_q) (fe_op_q fo_mul fe_int_q (fe_var_q (i := 1) rfl (.inl rfl) rfl (by decide) (by decide)))) (fa_cons'_q fe_int_q fa_nil'_q rfl) rfl) rfl) rfl rfl (by decide)) rfl)))))
abbrev S_law_draw : Stmt := top 9
abbrev N_law_draw : List Str := ["_law_pen_here", "_law_many", "_law_found", "_law_number"]
theorem sc_law_draw : FnScope N_law_draw ["_law_pen_here", "_law_many"] (defScope S_law_draw) := ⟨rfl, rfl, rfl, by decide +kernel, rfl, by decide +kernel, by decide +kernel⟩
def B_law_draw : MS := (sSeq (sIf (tV (e2 gtI (eIxL 0 (eC (.int 0))) (eC (.int 0)))) (sSeq (sSet 2 (e2 modI (eIxL 0 (eC (.int 0))) (eVar 1)))
  (sSeq (sSetL 0 (eC (.int 0)) (e2 fdivI (eIxL 0 (eC (.int 0))) (eVar 1)))
  (sRet (eVar 2)))) sNil)
  (sSeq (sSetL 0 (eC (.int 2)) (e2 addS (eIxL 0 (eC (.int 2))) (eC (.int 1))))
  (sSeq (sSet 3 (e2 modI (e2 addS (e2 addS (e2 mulI (eIxL 0 (eC (.int 1))) (eC (.int 48271))) (e2 mulI (eIxL 0 (eC (.int 2))) (eC (.int 39373)))) (eC (.int 11))) (eC (.int 2147483647))))
  (sSeq (sSet 3 (e2 modI (e2 mulI (eVar 3) (e2 addS (e2 modI (eVar 3) (eC (.int 65521))) (eIxL 0 (eC (.int 2))))) (eC (.int 2147483629))))
  (sRet (e2 modI (e2 fdivI (eVar 3) (eC (.int 64))) (eVar 1)))))))
def F_law_draw : List D → Option (D × En) := fnF 2 [1, 0] B_law_draw
theorem ok_law_draw {k : Nat} (T : Bl mg)   (F : Fun K "_law_draw" "_law_draw" S_law_draw f fd) : FnOk P w K mg base CX0 (k + 1) f fd ["_law_pen_here", "_law_many"] (spF K [1, 0] 0 F_law_draw) := by
  have nd := sc_law_draw.nd
  refine F.okQ (N := N_law_draw) (b := B_law_draw) (J := ⟨[0], [1, 0, 0, 0], 0, []⟩) (ds0 := [1, 0, 0, 0]) sc_law_draw rfl rfl rfl rfl fun cdv A outer s H E hr => ?_
  exact (fss_cons_q (fps_if_q (ds2 := [1, 0, 0, 0]) (ft_cmp'_q fo_gt (fe_ixL_q (K := K) (i := 0) rfl rfl (.inl rfl) rfl fe_int_q (fun _ _ => rfl) (by decide) (by decide)) fe_int_q (nomark _)) (fss_cons_q (fps_set_q (i := 2) (d := 0) (ds' := [1, 0, 0, 0]) nd rfl (.inl rfl) (fe_sub_q (d' := 0) (d := 3) (fe_op_q fo_mod (fe_ixL_q (K := K) (i := 0) rfl rfl (.inl rfl) rfl fe_int_q (fun _ _ => rfl) (by decide) (by decide)) (fe_var_q (i := 1) rfl (.inl rfl) rfl (by decide) (by decide))) (by decide)) rfl (by decide) (by decide) rfl (by first | exact .inl rfl | exact .inr rfl | assumption))
    (fss_cons_q (fps_setL_q (i := 0) (d := 1) (c := 0) rfl (.inl rfl) (fe_sub_q (d' := 0) (d := 3) (fe_op_q fo_fdiv (fe_ixL_q (K := K) (i := 0) rfl rfl (.inl rfl) rfl fe_int_q (fun _ _ => rfl) (by decide) (by decide)) (fe_var_q (i := 1) rfl (.inl rfl) rfl (by decide) (by decide))) (by decide)) fe_int_q rfl (by decide) rfl (by decide) (by decide) (fun _ => rfl) rfl rfl rfl)
    (fss_one_q (fps_ret_q (fe_var_q (i := 2) rfl (.inl rfl) rfl (by decide) (by decide)) rfl)))) fss_nil_q)
    (fss_cons_q (fps_setL_q (i := 0) (d := 1) (c := 0) rfl (.inl rfl) (fe_sub_q (d' := 0) (d := 3) (fe_op_q fo_add (fe_ixL_q (K := K) (i := 0) rfl rfl (.inl rfl) rfl fe_int_q (fun _ _ => rfl) (by decide) (by decide)) fe_int_q) (by decide)) fe_int_q rfl (by decide) rfl (by decide) (by decide) (fun _ => rfl) rfl rfl rfl)
    (fss_cons_q (fps_set_q (i := 3) (d := 0) (ds' := [1, 0, 0, 0]) nd rfl (.inl rfl) (fe_sub_q (d' := 0) (d := 3) (fe_op_q fo_mod (fe_op_q fo_add (fe_op_q fo_add (fe_op_q fo_mul (fe_ixL_q (K := K) (i := 0) rfl rfl (.inl rfl) rfl fe_int_q (fun _ _ => rfl) (by decide) (by decide)) fe_int_q) (fe_op_q fo_mul (fe_ixL_q (K := K) (i := 0) rfl rfl (.inl rfl) rfl fe_int_q (fun _ _ => rfl) (by decide) (by decide)) fe_int_q)) fe_int_q) fe_int_q) (by decide)) rfl (by decide) (by decide) rfl (by first | exact .inl rfl | exact .inr rfl | assumption))
    (fss_cons_q (fps_set_q (i := 3) (d := 0) (ds' := [1, 0, 0, 0]) nd rfl (.inl rfl) (fe_sub_q (d' := 0) (d := 3) (fe_op_q fo_mod (fe_op_q fo_mul (fe_var_q (i := 3) rfl (.inl rfl) rfl (by decide) (by decide)) (fe_op_q fo_add (fe_op_q fo_mod (fe_var_q (i := 3) rfl (.inl rfl) rfl (by decide) (by decide)) fe_int_q) (fe_ixL_q (K := K) (i := 0) rfl rfl (.inl rfl) rfl fe_int_q (fun _ _ => rfl) (by decide) (by decide)))) fe_int_q) (by decide)) rfl (by decide) (by decide) rfl (by first | exact .inl rfl | exact .inr rfl | assumption))
    (fss_one_q (fps_ret_q (fe_sub_q (d' := 0) (d := 3) (fe_op_q fo_mod (fe_op_q fo_fdiv (fe_var_q (i := 3) rfl (.inl rfl) rfl (by decide) (by decide)) fe_int_q) (fe_var_q (i := 1) rfl (.inl rfl) rfl (by decide) (by decide))) (by decide)) rfl))))))
abbrev S_law_every : Stmt := top 10
abbrev N_law_every : List Str := ["_law_text"]
theorem sc_law_every : FnScope N_law_every [] (defScope S_law_every) := ⟨rfl, rfl, rfl, by decide +kernel, rfl, by decide +kernel, by decide +kernel⟩
def B_law_every : MS := (sSeq (sSet 0 (eC (.str "!\"#$&'()*+,-./0123456789:;<=>?@ABCDEFGHIJKLMNOPQRSTUVWXYZ")))
  (sRet (e2 addS (eVar 0) (eC (.str "[\\]^_`abcdefghijklmnopqrstuvwxyz{|}~")))))
def F_law_every : List D → Option (D × En) := fnF 1 [] B_law_every
theorem ok_law_every {k : Nat} (T : Bl mg)   (F : Fun K "_law_every" "_law_every" S_law_every f fd) : FnOk P w K mg base CX0 (k + 1) f fd [] (spF K [] 3 F_law_every) := by
  have nd := sc_law_every.nd
  refine F.okQ (N := N_law_every) (b := B_law_every) (J := ⟨[], [0], 3, []⟩) (ds0 := [0]) sc_law_every rfl rfl rfl rfl fun cdv A outer s H E hr => ?_
  exact (fss_cons_q (fps_set_q (i := 0) (d := 0) (ds' := [0]) nd rfl (.inl rfl) (fe_sub_q (d' := 0) (d := 3) fe_str_q (by decide)) rfl (by decide) (by decide) rfl (by first | exact .inl rfl | exact .inr rfl | assumption))
    (fss_one_q (fps_ret_q (fe_op_q fo_add (fe_var_q (i := 0) rfl (.inl rfl) rfl (by decide) (by decide)) fe_str_q) rfl)))
abbrev S_law_unlike : Stmt := top 11
abbrev N_law_unlike : List Str := ["_law_pen_here", "_law_many", "_law_left"]
theorem sc_law_unlike : FnScope N_law_unlike ["_law_pen_here", "_law_many"] (defScope S_law_unlike) := ⟨rfl, rfl, rfl, by decide +kernel, rfl, by decide +kernel, by decide +kernel⟩
def B_law_unlike : MS := (sSeq (sSet 2 (eN listD (aCons (eCall F_law_every aNil) aNil)))
  (sRet (eLC false (iRng1f (aCons (eVar 1) aNil)) (gN 0) cY (ePopAt 2 (eCall F_law_draw (aSlot 1 (aCons (eN lenD (aCons (eVar 2) aNil)) aNil)))) [none, some 0, some 2])))
def F_law_unlike : List D → Option (D × En) := fnF 1 [1, 0] B_law_unlike
theorem ok_law_unlike {k : Nat} (T : Bl mg)  (G_law_every : Kn P w K mg base k "_law_every" [] (spF K [] 3 F_law_every)) (G_law_draw : Kn P w K mg base k "_law_draw" ["_law_pen_here", "_law_many"] (spF K [1, 0] 0 F_law_draw)) (F : Fun K "_law_unlike" "_law_unlike" S_law_unlike f fd) : FnOk P w K mg base CX0 (k + 1) f fd ["_law_pen_here", "_law_many"] (spF K [1, 0] 1 F_law_unlike) := by
  have nd := sc_law_unlike.nd
  refine F.okQ (N := N_law_unlike) (b := B_law_unlike) (J := ⟨[0], [1, 0, 0], 1, []⟩) (ds0 := [1, 0, 0]) sc_law_unlike rfl rfl rfl rfl fun cdv A outer s H E hr => ?_
  exact (fss_cons_q (fps_set_q (i := 2) (d := 1) (ds' := [1, 0, 1]) nd rfl (.inr rfl) (fe_callTy_q (fo_list (K := K) rfl rfl) rfl T.list0 (by decide +kernel) (fa_cons'_q (fe_sub_q (d' := 0) (d := 3) (fe_fn0_q G_law_every hr rfl (by decide)) (by decide)) fa_nil'_q rfl) rfl (by decide) (by decide) rfl rfl) rfl (by decide) (by decide) rfl (by first | exact .inl rfl | exact .inr rfl | assumption))
    (fss_one_q (fps_ret_q (fe_lcS_q (cd := 0) (d := 1) (dsi := [0, 1, 1]) (lk := [1, 2]) (BlkOkC.of (ns := ["_law_k", "_law_pen_here", "_law_left"]) (js := [none, some 0, some 2]) (N0 := N_law_unlike) (sc0 := defScope S_law_unlike) rfl rfl (by decide +kernel)) rfl (fi_rng1_q rfl T.range0 (fa_cons'_q (fe_var_q (i := 1) rfl (.inl rfl) rfl (by decide) (by decide)) fa_nil'_q rfl) rfl) (fun _ _ _ _ _ => (fg_name'_q (i := 0) (ds' := [0, 1, 1]) (show (["_law_k", "_law_pen_here", "_law_left"] : List Str).Nodup by decide +kernel) rfl (.inl rfl) rfl (by decide) (by decide) (by first | exact .inl rfl | exact .inr rfl | assumption))) (fun _ _ _ _ _ => fts_nil_q) (fun _ _ _ _ _ => (fe_popAt_q (K := K) (i := 2) (d := 1) rfl rfl (.inr (.inl rfl)) rfl (fe_fnS_q G_law_draw hr rfl (fa_slot'_q (i := 1) rfl (.inr (.inl rfl)) (fa_cons'_q (fe_sub_q (d' := 0) (d := 3) (fe_bor_q (ds0 := [0, 1, 0]) (fe_callB_q (fo_len (K := K) rfl) rfl T.len0 (by decide +kernel) (fa_cons'_q (fe_var_q (i := 2) rfl (.inr (.inl rfl)) rfl (by decide) (by decide)) fa_nil'_q rfl) rfl (by decide) (by decide) rfl rfl) rfl) (by decide)) fa_nil'_q rfl) (by decide) (by decide)) rfl (by decide) rfl rfl) (by decide) rfl (by decide) (by decide) rfl rfl rfl rfl rfl)) rfl rfl (by decide) rfl (fun _ => rfl)) rfl)))
abbrev S_law_tongue : Stmt := top 12
abbrev N_law_tongue : List Str := ["_law_pen_here", "_law_many", "_law_way", "_law_signs", "_law_kinds", "_law_k", "_law_most", "_law_size"]
theorem sc_law_tongue : FnScope N_law_tongue ["_law_pen_here"] (defScope S_law_tongue) := ⟨rfl, rfl, rfl, by decide +kernel, rfl, by decide +kernel, by decide +kernel⟩
def B_law_tongue : MS := (sSeq (sSet 1 (e2 addS (eC (.int 1)) (eCall F_law_draw (aSlot 0 (aCons (eC (.int 4)) aNil)))))
  (sSeq (sSet 2 (eCall F_law_draw (aSlot 0 (aCons (eC (.int 6)) aNil))))
  (sSeq (sSet 3 (eCall F_law_unlike (aSlot 0 (aCons (eC (.int 12)) aNil))))
  (sSeq (sSet 4 (eLst aNil))
  (sSeq (sFor (iRng1f (aCons (eVar 1) aNil)) (gN 5) (sSeq (sSet 6 (eN min2D (aCons (eC (.int 6)) (aCons (e2 subI (eN lenD (aCons (eVar 3) aNil)) (e2 subI (e2 subI (eVar 1) (eC (.int 1))) (eVar 5))) aNil))))
  (sSeq (sSet 7 (e2 ixA (eLst (aCons (eC (.int 1)) (aCons (eVar 6) (aCons (e2 addS (eC (.int 1)) (eCall F_law_draw (aSlot 0 (aCons (eVar 6) aNil)))) aNil)))) (eN min2D (aCons (eC (.int 2)) (aCons (eVar 2) aNil)))))
  (sSeq (sExp (eApp 4 (eM joinD (eC (.str "")) (aCons (eSl cutLD (eVar 3) oNone (oSome (eVar 7))) aNil))))
  (sSet 3 (eSl cutLD (eVar 3) (oSome (eVar 7)) oNone))))))
  (sRet (eN tupD (aCons (eVar 4) aNil))))))))
def F_law_tongue : List D → Option (D × En) := fnF 7 [1] B_law_tongue
theorem ok_law_tongue {k : Nat} (T : Bl mg)  (G_law_draw : Kn P w K mg base k "_law_draw" ["_law_pen_here", "_law_many"] (spF K [1, 0] 0 F_law_draw)) (G_law_unlike : Kn P w K mg base k "_law_unlike" ["_law_pen_here", "_law_many"] (spF K [1, 0] 1 F_law_unlike)) (F : Fun K "_law_tongue" "_law_tongue" S_law_tongue f fd) : FnOk P w K mg base CX0 (k + 1) f fd ["_law_pen_here"] (spF K [1] 0 F_law_tongue) := by
  have nd := sc_law_tongue.nd
  refine F.okQ (N := N_law_tongue) (b := B_law_tongue) (J := ⟨[0], [1, 0, 0, 0, 0, 0, 0, 0], 0, []⟩) (ds0 := [1, 0, 0, 0, 0, 0, 0, 0]) sc_law_tongue rfl rfl rfl rfl fun cdv A outer s H E hr => ?_
  exact (fss_cons_q (fps_set_q (i := 1) (d := 0) (ds' := [1, 0, 0, 0, 0, 0, 0, 0]) nd rfl (.inl rfl) (fe_sub_q (d' := 0) (d := 3) (fe_op_q fo_add fe_int_q (fe_fnS_q G_law_draw hr rfl (fa_slot'_q (i := 0) rfl (.inl rfl) (fa_cons'_q (fe_sub_q (d' := 0) (d := 3) fe_int_q (by decide)) fa_nil'_q rfl) (by decide) (by decide)) rfl (by decide) rfl rfl)) (by decide)) rfl (by decide) (by decide) rfl (by first | exact .inl rfl | exact .inr rfl | assumption))
    (fss_cons_q (fps_set_q (i := 2) (d := 0) (ds' := [1, 0, 0, 0, 0, 0, 0, 0]) nd rfl (.inl rfl) (fe_fnS_q G_law_draw hr rfl (fa_slot'_q (i := 0) rfl (.inl rfl) (fa_cons'_q (fe_sub_q (d' := 0) (d := 3) fe_int_q (by decide)) fa_nil'_q rfl) (by decide) (by decide)) rfl (by decide) rfl rfl) rfl (by decide) (by decide) rfl (by first | exact .inl rfl | exact .inr rfl | assumption))
    (fss_cons_q (fps_set_q (i := 3) (d := 0) (ds' := [1, 0, 0, 0, 0, 0, 0, 0]) nd rfl (.inl rfl) (fe_sub_q (d' := 0) (d := 1) (fe_fnS_q G_law_unlike hr rfl (fa_slot'_q (i := 0) rfl (.inl rfl) (fa_cons'_q (fe_sub_q (d' := 0) (d := 3) fe_int_q (by decide)) fa_nil'_q rfl) (by decide) (by decide)) rfl (by decide) rfl rfl) (by decide)) rfl (by decide) (by decide) rfl (by first | exact .inl rfl | exact .inr rfl | assumption))
    (fss_cons_q (fps_set_q (i := 4) (d := 1) (ds' := [1, 0, 0, 0, 1, 0, 0, 0]) nd rfl (.inl rfl) (fe_sub_q (d' := 1) (d := 3) (fe_lst_q (d := 3) (c := 3) fa_nil'_q rfl rfl (by decide)) (by decide)) rfl (by decide) (by decide) rfl (by first | exact .inl rfl | exact .inr rfl | assumption))
    (fss_cons_q (fps_for_q (ds1 := [1, 0, 0, 0, 1, 0, 0, 0]) rfl (fi_rng1_q rfl T.range0 (fa_cons'_q (fe_var_q (i := 1) rfl (.inl rfl) rfl (by decide) (by decide)) fa_nil'_q rfl) rfl) (fg_name'_q (i := 5) (ds' := [1, 0, 0, 0, 1, 0, 0, 0]) nd rfl (.inl rfl) rfl (by decide) (by decide) (by first | exact .inl rfl | exact .inr rfl | assumption)) (fss_cons_q (fps_set_q (i := 6) (d := 0) (ds' := [1, 0, 0, 0, 1, 0, 0, 0]) nd rfl (.inl rfl) (fe_sub_q (d' := 0) (d := 3) (fe_callB_q (fo_min2 rfl) rfl T.min0 (by decide +kernel) (fa_cons'_q (fe_sub_q (d' := 0) (d := 3) fe_int_q (by decide)) (fa_cons'_q (fe_sub_q (d' := 0) (d := 3) (fe_op_q fo_sub (fe_callB_q (fo_len (K := K) rfl) rfl T.len0 (by decide +kernel) (fa_cons'_q (fe_var_q (i := 3) rfl (.inl rfl) rfl (by decide) (by decide)) fa_nil'_q rfl) rfl (by decide) (by decide) rfl rfl) (fe_op_q fo_sub (fe_op_q fo_sub (fe_var_q (i := 1) rfl (.inl rfl) rfl (by decide) (by decide)) fe_int_q) (fe_var_q (i := 5) rfl (.inl rfl) rfl (by decide) (by decide)))) (by decide)) fa_nil'_q rfl) rfl) rfl (by decide) (by decide) rfl rfl) (by decide)) rfl (by decide) (by decide) rfl (by first | exact .inl rfl | exact .inr rfl | assumption))
    (fss_cons_q (fps_set_q (i := 7) (d := 0) (ds' := [1, 0, 0, 0, 1, 0, 0, 0]) nd rfl (.inl rfl) (fe_ix_q (fo_ix (K := K) rfl) (fe_lst_q (d := 1) (c := 0) (fa_cons'_q fe_int_q (fa_cons'_q (fe_var_q (i := 6) rfl (.inl rfl) rfl (by decide) (by decide)) (fa_cons'_q (fe_op_q fo_add fe_int_q (fe_fnS_q G_law_draw hr rfl (fa_slot'_q (i := 0) rfl (.inl rfl) (fa_cons'_q (fe_var_q (i := 6) rfl (.inl rfl) rfl (by decide) (by decide)) fa_nil'_q rfl) (by decide) (by decide)) rfl (by decide) rfl rfl)) fa_nil'_q rfl) rfl) rfl) rfl rfl (by decide)) (fe_callB_q (fo_min2 rfl) rfl T.min0 (by decide +kernel) (fa_cons'_q (fe_sub_q (d' := 0) (d := 3) fe_int_q (by decide)) (fa_cons'_q (fe_var_q (i := 2) rfl (.inl rfl) rfl (by decide) (by decide)) fa_nil'_q rfl) rfl) rfl (by decide) (by decide) rfl rfl) (fun _ _ => rfl)) rfl (by decide) (by decide) rfl (by first | exact .inl rfl | exact .inr rfl | assumption))
    (fss_cons_q (fps_exp_q (fe_app_q (K := K) (i := 4) (d := 1) rfl rfl (.inl rfl) rfl (fe_sub_q (d' := 0) (d := 3) (fe_strm_q (K := K) rfl PySem.F.slot_str_join PySem.F.type_str_join (mt_join rfl) fm_join fe_str_q (fa_cons'_q (fe_sub_q (d' := 0) (d := 1) (fe_slice_q (fl_list (K := K) rfl) (fe_var_q (i := 3) rfl (.inl rfl) rfl (by decide) (by decide)) fo_none_q (fo_some_q (fe_var_q (i := 7) rfl (.inl rfl) rfl (by decide) (by decide)))) (by decide)) fa_nil'_q rfl) rfl rfl rfl rfl rfl rfl) (by decide)) (by decide) rfl (by decide) (by decide) rfl rfl rfl rfl rfl) rfl)
    (fss_one_q (fps_set_q (i := 3) (d := 0) (ds' := [1, 0, 0, 0, 1, 0, 0, 0]) nd rfl (.inl rfl) (fe_sub_q (d' := 0) (d := 1) (fe_slice_q (fl_list (K := K) rfl) (fe_var_q (i := 3) rfl (.inl rfl) rfl (by decide) (by decide)) (fo_some_q (fe_var_q (i := 7) rfl (.inl rfl) rfl (by decide) (by decide))) fo_none_q) (by decide)) rfl (by decide) (by decide) rfl (by first | exact .inl rfl | exact .inr rfl | assumption)))))) PassesOwn.never (fun _ => rfl))
    (fss_one_q (fps_ret_q (fe_callTy_q (fo_tuple (K := K) rfl) rfl T.tuple0 (by decide +kernel) (fa_cons'_q (fe_fz_q (ds0 := [1, 0, 0, 0, 0, 0, 0, 0]) (fe_var_q (p := false) (i := 4) rfl (.inl rfl) rfl (by decide) (by decide)) rfl) fa_nil'_q rfl) rfl (by decide) (by decide) rfl rfl) rfl)))))))
abbrev S_law_row : Stmt := top 13
abbrev N_law_row : List Str := ["_law_pen_here", "_law_tongue_here", "_law_most", "_law_many", "_law_size"]
theorem sc_law_row : FnScope N_law_row ["_law_pen_here", "_law_tongue_here", "_law_most"] (defScope S_law_row) := ⟨rfl, rfl, rfl, by decide +kernel, rfl, by decide +kernel, by decide +kernel⟩
def B_law_row : MS := (sSeq (sSet 3 (eN sumD (aCons (eLC true (iAny (eVar 1)) (gN 0) cY (eN lenD (aCons (eVar 0) aNil)) [none]) aNil)))
  (sSeq (sSet 4 (e2 ixA (eLst (aCons (eVar 2) (aCons (eCall F_law_draw (aSlot 0 (aCons (e2 addS (eVar 2) (eC (.int 1))) aNil))) (aCons (eCall F_law_draw (aSlot 0 (aCons (eC (.int 9)) aNil))) aNil)))) (eCall F_law_draw (aSlot 0 (aCons (eC (.int 3)) aNil)))))
  (sRet (eLC false (iRng1f (aCons (eN min2D (aCons (eVar 4) (aCons (eVar 2) aNil))) aNil)) (gN 0) cY (eCall F_law_draw (aSlot 1 (aCons (eVar 2) aNil))) [none, some 0, some 3]))))
def F_law_row : List D → Option (D × En) := fnF 2 [1, 0, 0] B_law_row
theorem ok_law_row {k : Nat} (T : Bl mg)  (G_law_draw : Kn P w K mg base k "_law_draw" ["_law_pen_here", "_law_many"] (spF K [1, 0] 0 F_law_draw)) (F : Fun K "_law_row" "_law_row" S_law_row f fd) : FnOk P w K mg base CX0 (k + 1) f fd ["_law_pen_here", "_law_tongue_here", "_law_most"] (spF K [1, 0, 0] 1 F_law_row) := by
  have nd := sc_law_row.nd
  refine F.okQ (N := N_law_row) (b := B_law_row) (J := ⟨[0], [1, 0, 0, 0, 0], 1, []⟩) (ds0 := [1, 0, 0, 0, 0]) sc_law_row rfl rfl rfl rfl fun cdv A outer s H E hr => ?_
  exact (fss_cons_q (fps_set_q (i := 3) (d := 0) (ds' := [1, 0, 0, 0, 0]) nd rfl (.inr rfl) (fe_sub_q (d' := 0) (d := 3) (fe_callB_q (fo_sum (K := K) rfl rfl) rfl T.sum0 (by decide +kernel) (fa_cons'_q (fe_sub_q (d' := 0) (d := 3) (fe_lc_q (cd := 3) (d := 3) (dsi := [0]) (lk := []) (BlkOkC.of (ns := ["_law_kind"]) (js := [none]) (N0 := N_law_row) (sc0 := defScope S_law_row) rfl rfl (by decide +kernel)) rfl (fi_any_q (K := K) rfl (fe_var_q (i := 1) rfl (.inl rfl) rfl (by decide) (by decide))) (fun _ _ _ _ _ => (fg_name'_q (i := 0) (ds' := [0]) (show (["_law_kind"] : List Str).Nodup by decide +kernel) rfl (.inl rfl) rfl (by decide) (by decide) (by first | exact .inl rfl | exact .inr rfl | assumption))) (fun _ _ _ _ _ => fts_nil_q) (fun _ _ _ _ _ => (fe_callB_q (fo_len (K := K) rfl) rfl T.len0 (by decide +kernel) (fa_cons'_q (fe_var_q (i := 0) rfl (.inl rfl) rfl (by decide) (by decide)) fa_nil'_q rfl) rfl (by decide) (by decide) rfl rfl)) rfl rfl (by decide) rfl (fun _ => rfl)) (by decide)) fa_nil'_q rfl) rfl (by decide) (by decide) rfl rfl) (by decide)) rfl (by decide) (by decide) rfl (by first | exact .inl rfl | exact .inr rfl | assumption))
    (fss_cons_q (fps_set_q (i := 4) (d := 0) (ds' := [1, 0, 0, 0, 0]) nd rfl (.inl rfl) (fe_ix_q (fo_ix (K := K) rfl) (fe_lst_q (d := 1) (c := 0) (fa_cons'_q (fe_var_q (i := 2) rfl (.inl rfl) rfl (by decide) (by decide)) (fa_cons'_q (fe_fnS_q G_law_draw hr rfl (fa_slot'_q (i := 0) rfl (.inr (.inl rfl)) (fa_cons'_q (fe_sub_q (d' := 0) (d := 3) (fe_op_q fo_add (fe_var_q (i := 2) rfl (.inl rfl) rfl (by decide) (by decide)) fe_int_q) (by decide)) fa_nil'_q rfl) (by decide) (by decide)) rfl (by decide) rfl rfl) (fa_cons'_q (fe_fnS_q G_law_draw hr rfl (fa_slot'_q (i := 0) rfl (.inr (.inl rfl)) (fa_cons'_q (fe_sub_q (d' := 0) (d := 3) fe_int_q (by decide)) fa_nil'_q rfl) (by decide) (by decide)) rfl (by decide) rfl rfl) fa_nil'_q rfl) rfl) rfl) rfl rfl (by decide)) (fe_fnS_q G_law_draw hr rfl (fa_slot'_q (i := 0) rfl (.inr (.inl rfl)) (fa_cons'_q (fe_sub_q (d' := 0) (d := 3) fe_int_q (by decide)) fa_nil'_q rfl) (by decide) (by decide)) rfl (by decide) rfl rfl) (fun _ _ => rfl)) rfl (by decide) (by decide) rfl (by first | exact .inl rfl | exact .inr rfl | assumption))
    (fss_one_q (fps_ret_q (fe_lcS_q (cd := 0) (d := 1) (dsi := [0, 1, 0]) (lk := [1, 2]) (BlkOkC.of (ns := ["_law_k", "_law_pen_here", "_law_many"]) (js := [none, some 0, some 3]) (N0 := N_law_row) (sc0 := defScope S_law_row) rfl rfl (by decide +kernel)) rfl (fi_rng1_q rfl T.range0 (fa_cons'_q (fe_sub_q (d' := 0) (d := 3) (fe_callB_q (fo_min2 rfl) rfl T.min0 (by decide +kernel) (fa_cons'_q (fe_var_q (i := 4) rfl (.inl rfl) rfl (by decide) (by decide)) (fa_cons'_q (fe_var_q (i := 2) rfl (.inl rfl) rfl (by decide) (by decide)) fa_nil'_q rfl) rfl) rfl (by decide) (by decide) rfl rfl) (by decide)) fa_nil'_q rfl) rfl) (fun _ _ _ _ _ => (fg_name'_q (i := 0) (ds' := [0, 1, 0]) (show (["_law_k", "_law_pen_here", "_law_many"] : List Str).Nodup by decide +kernel) rfl (.inl rfl) rfl (by decide) (by decide) (by first | exact .inl rfl | exact .inr rfl | assumption))) (fun _ _ _ _ _ => fts_nil_q) (fun _ _ _ _ _ => (fe_fnS_q G_law_draw hr rfl (fa_slot'_q (i := 1) rfl (.inr (.inl rfl)) (fa_cons'_q (fe_var_q (i := 2) rfl (.inr (.inl rfl)) rfl (by decide) (by decide)) fa_nil'_q rfl) (by decide) (by decide)) rfl (by decide) rfl rfl)) rfl rfl (by decide) rfl (fun _ => rfl)) rfl))))
abbrev S_law_spelt : Stmt := top 14
abbrev N_law_spelt : List Str := ["_law_tongue_here", "_law_row_here", "_law_signs", "_law_text", "_law_number"]
theorem sc_law_spelt : FnScope N_law_spelt ["_law_tongue_here", "_law_row_here"] (defScope S_law_spelt) := ⟨rfl, rfl, rfl, by decide +kernel, rfl, by decide +kernel, by decide +kernel⟩
def B_law_spelt : MS := (sSeq (sSet 2 (eM joinD (eC (.str "")) (aCons (eVar 0) aNil)))
  (sSeq (sSet 3 (eC (.str "")))
  (sSeq (sFor (iAny (eVar 1)) (gN 4) (sSet 3 (e2 addS (eVar 3) (e2 ixT (eVar 2) (eVar 4)))))
  (sRet (eVar 3)))))
def F_law_spelt : List D → Option (D × En) := fnF 3 [0, 0] B_law_spelt
theorem ok_law_spelt {k : Nat} (T : Bl mg)   (F : Fun K "_law_spelt" "_law_spelt" S_law_spelt f fd) : FnOk P w K mg base CX0 (k + 1) f fd ["_law_tongue_here", "_law_row_here"] (spF K [0, 0] 0 F_law_spelt) := by
  have nd := sc_law_spelt.nd
  refine F.okQ (N := N_law_spelt) (b := B_law_spelt) (J := ⟨[], [0, 0, 0, 0, 0], 0, []⟩) (ds0 := [0, 0, 0, 0, 0]) sc_law_spelt rfl rfl rfl rfl fun cdv A outer s H E hr => ?_
  exact (fss_cons_q (fps_set_q (i := 2) (d := 0) (ds' := [0, 0, 0, 0, 0]) nd rfl (.inl rfl) (fe_sub_q (d' := 0) (d := 3) (fe_strm_q (K := K) rfl PySem.F.slot_str_join PySem.F.type_str_join (mt_join rfl) fm_join fe_str_q (fa_cons'_q (fe_var_q (i := 0) rfl (.inl rfl) rfl (by decide) (by decide)) fa_nil'_q rfl) rfl rfl rfl rfl rfl rfl) (by decide)) rfl (by decide) (by decide) rfl (by first | exact .inl rfl | exact .inr rfl | assumption))
    (fss_cons_q (fps_set_q (i := 3) (d := 0) (ds' := [0, 0, 0, 0, 0]) nd rfl (.inl rfl) (fe_sub_q (d' := 0) (d := 3) fe_str_q (by decide)) rfl (by decide) (by decide) rfl (by first | exact .inl rfl | exact .inr rfl | assumption))
    (fss_cons_q (fps_for_q (ds1 := [0, 0, 0, 0, 0]) rfl (fi_any_q (K := K) rfl (fe_var_q (i := 1) rfl (.inl rfl) rfl (by decide) (by decide))) (fg_name'_q (i := 4) (ds' := [0, 0, 0, 0, 0]) nd rfl (.inl rfl) rfl (by decide) (by decide) (by first | exact .inl rfl | exact .inr rfl | assumption)) (fss_one_q (fps_set_q (i := 3) (d := 0) (ds' := [0, 0, 0, 0, 0]) nd rfl (.inl rfl) (fe_sub_q (d' := 0) (d := 3) (fe_op_q fo_add (fe_var_q (i := 3) rfl (.inl rfl) rfl (by decide) (by decide)) (fe_ix_q fo_ixT (fe_var_q (i := 2) rfl (.inl rfl) rfl (by decide) (by decide)) (fe_var_q (i := 4) rfl (.inl rfl) rfl (by decide) (by decide)) (fun _ _ => rfl))) (by decide)) rfl (by decide) (by decide) rfl (by first | exact .inl rfl | exact .inr rfl | assumption))) PassesOwn.never (fun _ => rfl))
    (fss_one_q (fps_ret_q (fe_var_q (i := 3) rfl (.inl rfl) rfl (by decide) (by decide)) rfl)))))
abbrev S_law_whole : Stmt := top 15
abbrev N_law_whole : List Str := ["_law_found"]
theorem sc_law_whole : FnScope N_law_whole ["_law_found"] (defScope S_law_whole) := ⟨rfl, rfl, rfl, by decide +kernel, rfl, by decide +kernel, by decide +kernel⟩
def B_law_whole : MS := (sRet (eAnd (e1 (isiD "int") (eVar 0)) (eNot (e1 (isiD "bool") (eVar 0)))))
def F_law_whole : List D → Option (D × En) := fnF 0 [0] B_law_whole
theorem ok_law_whole {k : Nat} (T : Bl mg)   (F : Fun K "_law_whole" "_law_whole" S_law_whole f fd) : FnOk P w K mg base CX0 (k + 1) f fd ["_law_found"] (spF K [0] 3 F_law_whole) := by
  have nd := sc_law_whole.nd
  refine F.okQ (N := N_law_whole) (b := B_law_whole) (J := ⟨[], [0], 3, []⟩) (ds0 := [0]) sc_law_whole rfl rfl rfl rfl fun cdv A outer s H E hr => ?_
  exact (fss_one_q (fps_ret_q (fe_and_q (fe_isi_q (K := K) (n := "int") rfl rfl T.isinstance0 rfl T.int0 (by decide +kernel) (by decide) (fe_var_q (i := 0) rfl (.inl rfl) rfl (by decide) (by decide)) (by decide) (by decide) rfl rfl rfl) (fe_one_q (fe_not_q (fe_isi_q (K := K) (n := "bool") rfl rfl T.isinstance0 rfl T.bool0 (by decide +kernel) (by decide) (fe_var_q (i := 0) rfl (.inl rfl) rfl (by decide) (by decide)) (by decide) (by decide) rfl rfl rfl)))) rfl))
abbrev S_law_signs_right : Stmt := top 16
abbrev N_law_signs_right : List Str := ["_law_tongue_here", "_law_signs", "_law_k", "_law_kind", "_law_sign", "_law_found"]
theorem sc_law_signs_right : FnScope N_law_signs_right ["_law_tongue_here"] (defScope S_law_signs_right) := ⟨rfl, rfl, rfl, by decide +kernel, rfl, by decide +kernel, by decide +kernel⟩
def B_law_signs_right : MS := (sSeq (sSet 1 (eC (.str "")))
  (sSeq (sFor (iEnumf (aCons (eVar 0) aNil)) (gT (gsC (gN 2) (gsC (gN 3) gs0))) (sFor (iAny (eVar 3)) (gN 4) (sSeq (sSet 1 (e2 addS (eVar 1) (eVar 4)))
  (sSeq (sSet 5 (eCall Fkind_of (aCons (eVar 0) (aCons (eVar 4) aNil))))
  (sIf (bOr (bNot (tV (eCall F_law_whole (aCons (eVar 5) aNil)))) (tV (e2 neD (eVar 5) (eVar 2)))) (sRet (eC (.bool false))) sNil)))))
  (sRet (e2 eqD (eN reprD (aCons (eCall Fsigns_of (aCons (eVar 0) aNil)) aNil)) (eN reprD (aCons (eVar 1) aNil))))))
def F_law_signs_right : List D → Option (D × En) := fnF 5 [0] B_law_signs_right
theorem ok_law_signs_right {k : Nat} (T : Bl mg)  (Gkind_of : Kn P w K mg base k "kind_of" ["tongue", "sign"] (spF K [0, 0] 0 Fkind_of)) (Gsigns_of : Kn P w K mg base k "signs_of" ["tongue"] (spF K [0] 3 Fsigns_of)) (G_law_whole : Kn P w K mg base k "_law_whole" ["_law_found"] (spF K [0] 3 F_law_whole)) (F : Fun K "_law_signs_right" "_law_signs_right" S_law_signs_right f fd) : FnOk P w K mg base CX0 (k + 1) f fd ["_law_tongue_here"] (spF K [0] 3 F_law_signs_right) := by
  have nd := sc_law_signs_right.nd
  refine F.okQ (N := N_law_signs_right) (b := B_law_signs_right) (J := ⟨[], [0, 0, 0, 0, 0, 0], 3, []⟩) (ds0 := [0, 0, 0, 0, 0, 0]) sc_law_signs_right rfl rfl rfl rfl fun cdv A outer s H E hr => ?_
  exact (fss_cons_q (fps_set_q (i := 1) (d := 0) (ds' := [0, 0, 0, 0, 0, 0]) nd rfl (.inl rfl) (fe_sub_q (d' := 0) (d := 3) fe_str_q (by decide)) rfl (by decide) (by decide) rfl (by first | exact .inl rfl | exact .inr rfl | assumption))
    (fss_cons_q (fps_for_q (ds1 := [0, 0, 0, 0, 0, 0]) rfl (fi_enum_q (K := K) rfl rfl T.enumerate0 (fa_cons'_q (fe_var_q (i := 0) rfl (.inl rfl) rfl (by decide) (by decide)) fa_nil'_q rfl) rfl) (fg_tup'_q (K := K) rfl rfl (fgs_cons'_q (fg_name'_q (i := 2) (ds' := [0, 0, 0, 0, 0, 0]) nd rfl (.inl rfl) rfl (by decide) (by decide) (by first | exact .inl rfl | exact .inr rfl | assumption)) (fgs_cons'_q (fg_name'_q (i := 3) (ds' := [0, 0, 0, 0, 0, 0]) nd rfl (.inl rfl) rfl (by decide) (by decide) (by first | exact .inl rfl | exact .inr rfl | assumption)) fgs_nil'_q rfl) rfl) gs_len2 rfl rfl) (fss_one_q (fps_for_q (ds1 := [0, 0, 0, 0, 0, 0]) rfl (fi_any_q (K := K) rfl (fe_var_q (i := 3) rfl (.inl rfl) rfl (by decide) (by decide))) (fg_name'_q (i := 4) (ds' := [0, 0, 0, 0, 0, 0]) nd rfl (.inl rfl) rfl (by decide) (by decide) (by first | exact .inl rfl | exact .inr rfl | assumption)) (fss_cons_q (fps_set_q (i := 1) (d := 0) (ds' := [0, 0, 0, 0, 0, 0]) nd rfl (.inl rfl) (fe_sub_q (d' := 0) (d := 3) (fe_op_q fo_add (fe_var_q (i := 1) rfl (.inl rfl) rfl (by decide) (by decide)) (fe_var_q (i := 4) rfl (.inl rfl) rfl (by decide) (by decide))) (by decide)) rfl (by decide) (by decide) rfl (by first | exact .inl rfl | exact .inr rfl | assumption))
    (fss_cons_q (fps_set_q (i := 5) (d := 0) (ds' := [0, 0, 0, 0, 0, 0]) nd rfl (.inl rfl) (fe_fn_q Gkind_of hr rfl (fa_cons'_q (fe_var_q (i := 0) rfl (.inl rfl) rfl (by decide) (by decide)) (fa_cons'_q (fe_var_q (i := 4) rfl (.inl rfl) rfl (by decide) (by decide)) fa_nil'_q rfl) rfl) rfl rfl (by decide) rfl rfl) rfl (by decide) (by decide) rfl (by first | exact .inl rfl | exact .inr rfl | assumption))
    (fss_one_q (fps_if_q (ds2 := [0, 0, 0, 0, 0, 0]) (qpt (fw_or_q (ft_not'_q (ft_val'_q (fe_fn_q G_law_whole hr rfl (fa_cons'_q (fe_var_q (i := 5) rfl (.inl rfl) rfl (by decide) (by decide)) fa_nil'_q rfl) rfl rfl (by decide) rfl rfl) (fun _ => rfl))) (fw_or1_q (ft_cmp'_q (fo_ne (K := K) rfl hr.units) (fe_var_q (i := 5) rfl (.inl rfl) rfl (by decide) (by decide)) (fe_var_q (i := 2) rfl (.inl rfl) rfl (by decide) (by decide)) (nomark _))))) (fss_one_q (fps_ret_q fe_bl_q rfl)) fss_nil_q)))) PassesOwn.never (fun _ => rfl))) PassesOwn.never (fun _ => rfl))
    (fss_one_q (fps_ret_q (fe_cmp_q (fo_eq (K := K) rfl hr.units) (fe_callB_q (fo_repr (K := K) rfl hr.gd hr.units) rfl T.repr0 (by decide +kernel) (fa_cons'_q (fe_sub_q (d' := 0) (d := 3) (fe_fn_q Gsigns_of hr rfl (fa_cons'_q (fe_var_q (i := 0) rfl (.inl rfl) rfl (by decide) (by decide)) fa_nil'_q rfl) rfl rfl (by decide) rfl rfl) (by decide)) fa_nil'_q rfl) rfl (by decide) (by decide) rfl rfl) (fe_callB_q (fo_repr (K := K) rfl hr.gd hr.units) rfl T.repr0 (by decide +kernel) (fa_cons'_q (fe_var_q (i := 1) rfl (.inl rfl) rfl (by decide) (by decide)) fa_nil'_q rfl) rfl (by decide) (by decide) rfl rfl) (nomark _)) rfl))))
abbrev S_law_rows_right : Stmt := top 17
abbrev N_law_rows_right : List Str := ["_law_tongue_here", "_law_row_here", "_law_other", "_law_word", "_law_handed", "_law_turn", "_law_found"]
theorem sc_law_rows_right : FnScope N_law_rows_right ["_law_tongue_here", "_law_row_here", "_law_other"] (defScope S_law_rows_right) := ⟨rfl, rfl, rfl, by decide +kernel, rfl, by decide +kernel, by decide +kernel⟩
def B_law_rows_right : MS := (sSeq (sSet 3 (eCall F_law_spelt (aCons (eVar 0) (aCons (eVar 1) aNil))))
  (sSeq (sSet 4 (eN listD (aCons (eVar 1) aNil)))
  (sSeq (sIf (bOr (tV (e2 neD (eN reprD (aCons (eCall Fword_of (aCons (eVar 0) (aCons (eVar 4) aNil))) aNil)) (eN reprD (aCons (eVar 3) aNil)))) (tV (e2 neD (eVar 4) (eVar 1)))) (sRet (eC (.bool false))) sNil)
  (sSeq (sExp (eApp 4 (eC (.int 0))))
  (sSeq (sFor (iRng1f (aCons (eC (.int 2)) aNil)) (gN 5) (sSeq (sSet 6 (eCall Frow_of (aCons (eVar 0) (aCons (eVar 3) aNil))))
  (sSeq (sIf (bOr (bNot (tV (e1 (isiD "list") (eVar 6)))) (tV (e2 neD (eN reprD (aCons (eVar 6) aNil)) (eN reprD (aCons (eVar 1) aNil))))) (sRet (eC (.bool false))) sNil)
  (sSeq (sExp (eRev 6))
  (sSeq (sExp (eApp 6 (eC (.int 0))))
  (sIf (tV (e2 neD (eCall Frow_of (aCons (eVar 2) (aCons (e2 ixA (eVar 2) (eC (.int 0))) aNil))) (eLC true (iRng1f (aCons (eN lenD (aCons (e2 ixA (eVar 2) (eC (.int 0))) aNil)) aNil)) (gN 0) cY (eVar 0) [none]))) (sRet (eC (.bool false))) sNil))))))
  (sRet (eC (.bool true))))))))
def F_law_rows_right : List D → Option (D × En) := fnF 4 [0, 0, 0] B_law_rows_right
theorem ok_law_rows_right {k : Nat} (T : Bl mg)  (G_law_spelt : Kn P w K mg base k "_law_spelt" ["_law_tongue_here", "_law_row_here"] (spF K [0, 0] 0 F_law_spelt)) (Grow_of : Kn P w K mg base k "row_of" ["tongue", "word"] (spF K [0, 0] 3 Frow_of)) (Gword_of : Kn P w K mg base k "word_of" ["tongue", "row"] (spF K [0, 0] 3 Fword_of)) (F : Fun K "_law_rows_right" "_law_rows_right" S_law_rows_right f fd) : FnOk P w K mg base CX0 (k + 1) f fd ["_law_tongue_here", "_law_row_here", "_law_other"] (spF K [0, 0, 0] 3 F_law_rows_right) := by
  have nd := sc_law_rows_right.nd
  refine F.okQ (N := N_law_rows_right) (b := B_law_rows_right) (J := ⟨[], [0, 0, 0, 0, 0, 0, 0], 3, []⟩) (ds0 := [0, 0, 0, 0, 0, 0, 0]) sc_law_rows_right rfl rfl rfl rfl fun cdv A outer s H E hr => ?_
  exact (fss_cons_q (fps_set_q (i := 3) (d := 0) (ds' := [0, 0, 0, 0, 0, 0, 0]) nd rfl (.inl rfl) (fe_fn_q G_law_spelt hr rfl (fa_cons'_q (fe_var_q (i := 0) rfl (.inl rfl) rfl (by decide) (by decide)) (fa_cons'_q (fe_var_q (i := 1) rfl (.inl rfl) rfl (by decide) (by decide)) fa_nil'_q rfl) rfl) rfl rfl (by decide) rfl rfl) rfl (by decide) (by decide) rfl (by first | exact .inl rfl | exact .inr rfl | assumption))
    (fss_cons_q (fps_set_q (i := 4) (d := 1) (ds' := [0, 0, 0, 0, 1, 0, 0]) nd rfl (.inl rfl) (fe_callTy_q (fo_list (K := K) rfl rfl) rfl T.list0 (by decide +kernel) (fa_cons'_q (fe_var_q (i := 1) rfl (.inl rfl) rfl (by decide) (by decide)) fa_nil'_q rfl) rfl (by decide) (by decide) rfl rfl) rfl (by decide) (by decide) rfl (by first | exact .inl rfl | exact .inr rfl | assumption))
    (fss_cons_q (fps_if_q (ds2 := [0, 0, 0, 0, 1, 0, 0]) (ft_bor'_q (ds0 := [0, 0, 0, 0, 0, 0, 0]) (qpt (fw_or_q (ft_cmp'_q (fo_ne (K := K) rfl hr.units) (fe_callB_q (fo_repr (K := K) rfl hr.gd hr.units) rfl T.repr0 (by decide +kernel) (fa_cons'_q (fe_sub_q (d' := 0) (d := 3) (fe_fn_q Gword_of hr rfl (fa_cons'_q (fe_var_q (i := 0) rfl (.inl rfl) rfl (by decide) (by decide)) (fa_cons'_q (fe_var_q (i := 4) rfl (.inl rfl) rfl (by decide) (by decide)) fa_nil'_q rfl) rfl) rfl rfl (by decide) rfl rfl) (by decide)) fa_nil'_q rfl) rfl (by decide) (by decide) rfl rfl) (fe_callB_q (fo_repr (K := K) rfl hr.gd hr.units) rfl T.repr0 (by decide +kernel) (fa_cons'_q (fe_var_q (i := 3) rfl (.inl rfl) rfl (by decide) (by decide)) fa_nil'_q rfl) rfl (by decide) (by decide) rfl rfl) (nomark _)) (fw_or1_q (ft_cmp'_q (fo_ne (K := K) rfl hr.units) (fe_var_q (i := 4) rfl (.inl rfl) rfl (by decide) (by decide)) (fe_var_q (i := 1) rfl (.inl rfl) rfl (by decide) (by decide)) (nomark _))))) rfl) (fss_one_q (fps_ret_q fe_bl_q rfl)) fss_nil_q)
    (fss_cons_q (fps_exp_q (fe_app_q (K := K) (i := 4) (d := 1) rfl rfl (.inl rfl) rfl (fe_sub_q (d' := 0) (d := 3) fe_int_q (by decide)) (by decide) rfl (by decide) (by decide) rfl rfl rfl rfl rfl) rfl)
    (fss_cons_q (fps_for_q (ds1 := [0, 0, 0, 0, 1, 0, 0]) rfl (fi_rng1_q rfl T.range0 (fa_cons'_q (fe_sub_q (d' := 0) (d := 3) fe_int_q (by decide)) fa_nil'_q rfl) rfl) (fg_name'_q (i := 5) (ds' := [0, 0, 0, 0, 1, 0, 0]) nd rfl (.inl rfl) rfl (by decide) (by decide) (by first | exact .inl rfl | exact .inr rfl | assumption)) (fss_sub_q (ds2 := [0, 0, 0, 0, 1, 0, 1]) (fss_cons_q (fps_set_q (i := 6) (d := 1) (ds' := [0, 0, 0, 0, 1, 0, 1]) nd rfl (.inl rfl) (fe_sub_q (d' := 1) (d := 3) (fe_fn_q Grow_of hr rfl (fa_cons'_q (fe_var_q (i := 0) rfl (.inl rfl) rfl (by decide) (by decide)) (fa_cons'_q (fe_var_q (i := 3) rfl (.inl rfl) rfl (by decide) (by decide)) fa_nil'_q rfl) rfl) rfl rfl (by decide) rfl rfl) (by decide)) rfl (by decide) (by decide) rfl (by first | exact .inl rfl | exact .inr rfl | assumption))
    (fss_cons_q (fps_if_q (ds2 := [0, 0, 0, 0, 1, 0, 1]) (ft_bor'_q (ds0 := [0, 0, 0, 0, 1, 0, 0]) (qpt (fw_or_q (ft_not'_q (ft_val'_q (fe_isi_q (K := K) (n := "list") rfl rfl T.isinstance0 rfl T.list0 (by decide +kernel) (by decide) (fe_var_q (i := 6) rfl (.inl rfl) rfl (by decide) (by decide)) (by decide) (by decide) rfl rfl rfl) (fun _ => rfl))) (fw_or1_q (ft_cmp'_q (fo_ne (K := K) rfl hr.units) (fe_callB_q (fo_repr (K := K) rfl hr.gd hr.units) rfl T.repr0 (by decide +kernel) (fa_cons'_q (fe_var_q (i := 6) rfl (.inl rfl) rfl (by decide) (by decide)) fa_nil'_q rfl) rfl (by decide) (by decide) rfl rfl) (fe_callB_q (fo_repr (K := K) rfl hr.gd hr.units) rfl T.repr0 (by decide +kernel) (fa_cons'_q (fe_var_q (i := 1) rfl (.inl rfl) rfl (by decide) (by decide)) fa_nil'_q rfl) rfl (by decide) (by decide) rfl rfl) (nomark _))))) rfl) (fss_one_q (fps_ret_q fe_bl_q rfl)) fss_nil_q)
    (fss_cons_q (fps_exp_q (fe_rev_q (K := K) (i := 6) (d := 1) rfl rfl (.inl rfl) rfl (by decide) (by decide) (by decide) rfl rfl) rfl)
    (fss_cons_q (fps_exp_q (fe_app_q (K := K) (i := 6) (d := 1) rfl rfl (.inl rfl) rfl (fe_sub_q (d' := 0) (d := 3) fe_int_q (by decide)) (by decide) rfl (by decide) (by decide) rfl rfl rfl rfl rfl) rfl)
    (fss_one_q (fps_if_q (ds2 := [0, 0, 0, 0, 1, 0, 1]) (ft_cmp'_q (fo_ne (K := K) rfl hr.units) (fe_fn_q Grow_of hr rfl (fa_cons'_q (fe_var_q (i := 2) rfl (.inl rfl) rfl (by decide) (by decide)) (fa_cons'_q (fe_ix_q (fo_ix (K := K) rfl) (fe_var_q (i := 2) rfl (.inl rfl) rfl (by decide) (by decide)) fe_int_q (fun _ _ => rfl)) fa_nil'_q rfl) rfl) rfl rfl (by decide) rfl rfl) (fe_lc_q (cd := 0) (d := 1) (dsi := [0]) (lk := []) (BlkOkC.of (ns := ["_law_k"]) (js := [none]) (N0 := N_law_rows_right) (sc0 := defScope S_law_rows_right) rfl rfl (by decide +kernel)) rfl (fi_rng1_q rfl T.range0 (fa_cons'_q (fe_sub_q (d' := 0) (d := 3) (fe_callB_q (fo_len (K := K) rfl) rfl T.len0 (by decide +kernel) (fa_cons'_q (fe_ix_q (fo_ix (K := K) rfl) (fe_var_q (i := 2) rfl (.inl rfl) rfl (by decide) (by decide)) fe_int_q (fun _ _ => rfl)) fa_nil'_q rfl) rfl (by decide) (by decide) rfl rfl) (by decide)) fa_nil'_q rfl) rfl) (fun _ _ _ _ _ => (fg_name'_q (i := 0) (ds' := [0]) (show (["_law_k"] : List Str).Nodup by decide +kernel) rfl (.inl rfl) rfl (by decide) (by decide) (by first | exact .inl rfl | exact .inr rfl | assumption))) (fun _ _ _ _ _ => fts_nil_q) (fun _ _ _ _ _ => (fe_var_q (i := 0) rfl (.inl rfl) rfl (by decide) (by decide))) rfl rfl (by decide) rfl (fun _ => rfl)) (nomark _)) (fss_one_q (fps_ret_q fe_bl_q rfl)) fss_nil_q)))))) rfl) PassesOwn.never (fun _ => rfl))
    (fss_one_q (fps_ret_q fe_bl_q rfl)))))))
abbrev S_law_is_word : Stmt := top 18
abbrev N_law_is_word : List Str := ["_law_tongue_here", "_law_thing", "_law_signs", "_law_kind", "_law_sign"]
theorem sc_law_is_word : FnScope N_law_is_word ["_law_tongue_here", "_law_thing"] (defScope S_law_is_word) := ⟨rfl, rfl, rfl, by decide +kernel, rfl, by decide +kernel, by decide +kernel⟩
def B_law_is_word : MS := (sSeq (sIf (bOr (bNot (tV (e1 (isiD "str") (eVar 1)))) (tV (e2 gtI (eN lenD (aCons (eVar 1) aNil)) (eC (.int 60))))) (sRet (eC (.bool false))) sNil)
  (sSeq (sSet 2 eDnew)
  (sSeq (sFor (iAny (eVar 0)) (gN 3) (sFor (iAny (eVar 3)) (gN 4) (sDput 2 (eVar 4) (eC (.bool true)))))
  (sSeq (sFor (iAny (eVar 1)) (gN 4) (sIf (tV (e2 dNotIn (eVar 4) (eVar 2))) (sRet (eC (.bool false))) sNil))
  (sRet (eC (.bool true)))))))
def F_law_is_word : List D → Option (D × En) := fnF 3 [0, 0] B_law_is_word
theorem ok_law_is_word {k : Nat} (T : Bl mg)   (F : Fun K "_law_is_word" "_law_is_word" S_law_is_word f fd) : FnOk P w K mg base CX0 (k + 1) f fd ["_law_tongue_here", "_law_thing"] (spF K [0, 0] 3 F_law_is_word) := by
  have nd := sc_law_is_word.nd
  refine F.okQ (N := N_law_is_word) (b := B_law_is_word) (J := ⟨[], [0, 0, 0, 0, 0], 3, []⟩) (ds0 := [0, 0, 0, 0, 0]) sc_law_is_word rfl rfl rfl rfl fun cdv A outer s H E hr => ?_
  exact (fss_cons_q (fps_if_q (ds2 := [0, 0, 0, 0, 0]) (qpt (fw_or_q (ft_not'_q (ft_val'_q (fe_isi_q (K := K) (n := "str") rfl rfl T.isinstance0 rfl T.str0 (by decide +kernel) (by decide) (fe_var_q (i := 1) rfl (.inl rfl) rfl (by decide) (by decide)) (by decide) (by decide) rfl rfl rfl) (fun _ => rfl))) (fw_or1_q (ft_cmp'_q fo_gt (fe_callB_q (fo_len (K := K) rfl) rfl T.len0 (by decide +kernel) (fa_cons'_q (fe_var_q (i := 1) rfl (.inl rfl) rfl (by decide) (by decide)) fa_nil'_q rfl) rfl (by decide) (by decide) rfl rfl) fe_int_q (nomark _))))) (fss_one_q (fps_ret_q fe_bl_q rfl)) fss_nil_q)
    (fss_cons_q (fps_set_q (i := 2) (d := 1) (ds' := [0, 0, 1, 0, 0]) nd rfl (.inl rfl) (fe_sub_q (d' := 1) (d := 3) fe_dnew_q (by decide)) rfl (by decide) (by decide) rfl (by first | exact .inl rfl | exact .inr rfl | assumption))
    (fss_cons_q (fps_for_q (ds1 := [0, 0, 1, 0, 0]) rfl (fi_any_q (K := K) rfl (fe_var_q (i := 0) rfl (.inl rfl) rfl (by decide) (by decide))) (fg_name'_q (i := 3) (ds' := [0, 0, 1, 0, 0]) nd rfl (.inl rfl) rfl (by decide) (by decide) (by first | exact .inl rfl | exact .inr rfl | assumption)) (fss_one_q (fps_for_q (ds1 := [0, 0, 1, 0, 0]) rfl (fi_any_q (K := K) rfl (fe_var_q (i := 3) rfl (.inl rfl) rfl (by decide) (by decide))) (fg_name'_q (i := 4) (ds' := [0, 0, 1, 0, 0]) nd rfl (.inl rfl) rfl (by decide) (by decide) (by first | exact .inl rfl | exact .inr rfl | assumption)) (fss_one_q (fps_dput_q (i := 2) (hu_of hr) rfl (.inl rfl) (fe_sub_q (d' := 0) (d := 3) fe_bl_q (by decide)) (fe_var_q (i := 4) rfl (.inl rfl) rfl (by decide) (by decide)) rfl (by decide) (by decide) rfl)) PassesOwn.never (fun _ => rfl))) PassesOwn.never (fun _ => rfl))
    (fss_cons_q (fps_for_q (ds1 := [0, 0, 1, 0, 0]) rfl (fi_any_q (K := K) rfl (fe_var_q (i := 1) rfl (.inl rfl) rfl (by decide) (by decide))) (fg_name'_q (i := 4) (ds' := [0, 0, 1, 0, 0]) nd rfl (.inl rfl) rfl (by decide) (by decide) (by first | exact .inl rfl | exact .inr rfl | assumption)) (fss_one_q (fps_if_q (ds2 := [0, 0, 1, 0, 0]) (ft_bor'_q (ds0 := [0, 0, 0, 0, 0]) (ft_dnin_q (hu_of hr) (fe_var_q (i := 4) rfl (.inl rfl) rfl (by decide) (by decide)) (fe_var_q (i := 2) rfl (.inl rfl) rfl (by decide) (by decide)) (by with_unfolding_all rfl)) rfl) (fss_one_q (fps_ret_q fe_bl_q rfl)) fss_nil_q)) PassesOwn.never (fun _ => rfl))
    (fss_one_q (fps_ret_q fe_bl_q rfl))))))
abbrev S_law_things : Stmt := top 19
abbrev N_law_things : List Str := ["_law_pen_here", "_law_tongue_here", "_law_other", "_law_word", "_law_spare", "_law_first", "_law_at", "_law_found"]
theorem sc_law_things : FnScope N_law_things ["_law_pen_here", "_law_tongue_here", "_law_other", "_law_word"] (defScope S_law_things) := ⟨rfl, rfl, rfl, by decide +kernel, rfl, by decide +kernel, by decide +kernel⟩
def B_law_things : MS := (sSeq (sSet 4 (e2 ixA (eLC true (iAny (eCall F_law_unlike (aSlot 0 (aCons (eC (.int 13)) aNil)))) (gN 0) (tV (e2 notInSf (eVar 0) (eM joinD (eC (.str "")) (aCons (eVar 1) aNil)))) (eVar 0) [none, some 1]) (eC (.int 0))))
  (sSeq (sSet 5 (e2 ixT (e2 ixA (eVar 1) (eC (.int 0))) (eC (.int 0))))
  (sSeq (sSet 6 (eCall F_law_draw (aSlot 0 (aCons (e2 addS (eN lenD (aCons (eVar 3) aNil)) (eC (.int 1))) aNil))))
  (sSeq (sSet 7 (eLst (aCons (eVar 3) (aCons (eC (.str "")) (aCons (e2 mulS (eVar 5) (eC (.int 60))) (aCons (e2 mulS (eVar 5) (eC (.int 61))) (aCons (eSl cutS (e2 addS (eVar 3) (e2 mulS (eVar 5) (eC (.int 61)))) oNone (oSome (eC (.int 60)))) (aCons (eSl cutS (e2 addS (eVar 3) (e2 mulS (eVar 5) (eC (.int 61)))) oNone (oSome (eC (.int 61)))) (aCons (e2 ixA (eVar 1) (e1 negI (eC (.int 1)))) aNil)))))))))
  (sSeq (sSet 7 (e2 addL (eVar 7) (eLst (aCons (e2 addS (e2 addS (eSl cutS (eVar 3) oNone (oSome (eVar 6))) (eVar 4)) (eSl cutS (eVar 3) (oSome (eVar 6)) oNone)) (aCons (e2 addS (eVar 4) (eSl cutS (eVar 3) (oSome (eC (.int 1))) oNone)) (aCons (e2 addS (eSl cutS (eVar 3) oNone (oSome (e1 negI (eC (.int 1))))) (eVar 4)) (aCons (e2 addS (eVar 3) (eC (.str " "))) (aCons (eC (.str "\n")) (aCons (eC (.str " ")) aNil)))))))))
  (sSeq (sSet 7 (e2 addL (eVar 7) (eLst (aCons (e2 ixA (eVar 2) (eC (.int 0))) (aCons (e2 addS (eVar 3) (eC (.str "\n"))) (aCons (eN listD (aCons (eVar 3) aNil)) (aCons (eTup (aCons (eVar 3) aNil)) (aCons (eLst (aCons (eVar 3) aNil)) (aCons (eC .none) (aCons (eC (.int 0)) (aCons (eC (.bool true)) (aCons eDnew (aCons (eTup aNil) (aCons (eLst aNil) (aCons (eVar 1) (aCons (eLst (aCons (eC (.int 0)) aNil)) (aCons (eVar 5) aNil)))))))))))))))))
  (sRet (eVar 7))))))))
def F_law_things : List D → Option (D × En) := fnF 4 [1, 0, 0, 0] B_law_things
theorem ok_law_things {k : Nat} (T : Bl mg)  (G_law_draw : Kn P w K mg base k "_law_draw" ["_law_pen_here", "_law_many"] (spF K [1, 0] 0 F_law_draw)) (G_law_unlike : Kn P w K mg base k "_law_unlike" ["_law_pen_here", "_law_many"] (spF K [1, 0] 1 F_law_unlike)) (F : Fun K "_law_things" "_law_things" S_law_things f fd) : FnOk P w K mg base CX0 (k + 1) f fd ["_law_pen_here", "_law_tongue_here", "_law_other", "_law_word"] (spF K [1, 0, 0, 0] 0 F_law_things) := by
  have nd := sc_law_things.nd
  refine F.okQ (N := N_law_things) (b := B_law_things) (J := ⟨[0], [1, 0, 0, 0, 0, 0, 0, 0], 0, []⟩) (ds0 := [1, 0, 0, 0, 0, 0, 0, 0]) sc_law_things rfl rfl rfl rfl fun cdv A outer s H E hr => ?_
  exact (fss_cons_q (fps_set_q (i := 4) (d := 0) (ds' := [1, 0, 0, 0, 0, 0, 0, 0]) nd rfl (.inl rfl) (fe_ix_q (fo_ix (K := K) rfl) (fe_lc_q (cd := 0) (d := 1) (dsi := [0, 0]) (lk := [1]) (BlkOkC.of (ns := ["_law_sign", "_law_tongue_here"]) (js := [none, some 1]) (N0 := N_law_things) (sc0 := defScope S_law_things) rfl rfl (by decide +kernel)) rfl (fi_any_q (K := K) rfl (fe_sub_q (d' := 0) (d := 1) (fe_fnS_q G_law_unlike hr rfl (fa_slot'_q (i := 0) rfl (.inl rfl) (fa_cons'_q (fe_sub_q (d' := 0) (d := 3) fe_int_q (by decide)) fa_nil'_q rfl) (by decide) (by decide)) rfl (by decide) rfl rfl) (by decide))) (fun _ _ _ _ _ => (fg_name'_q (i := 0) (ds' := [0, 0]) (show (["_law_sign", "_law_tongue_here"] : List Str).Nodup by decide +kernel) rfl (.inl rfl) rfl (by decide) (by decide) (by first | exact .inl rfl | exact .inr rfl | assumption))) (fun _ _ _ _ _ => (fts_one_q (ft_cmp'_q fo_notInS (fe_var_q (i := 0) rfl (.inl rfl) rfl (by decide) (by decide)) (fe_strm_q (K := K) rfl PySem.F.slot_str_join PySem.F.type_str_join (mt_join rfl) fm_join fe_str_q (fa_cons'_q (fe_var_q (i := 1) rfl (.inr (.inl rfl)) rfl (by decide) (by decide)) fa_nil'_q rfl) rfl rfl rfl rfl rfl rfl) (by with_unfolding_all rfl)))) (fun _ _ _ _ _ => (fe_var_q (i := 0) rfl (.inl rfl) rfl (by decide) (by decide))) rfl rfl (by decide) rfl (fun _ => rfl)) fe_int_q (fun _ _ => rfl)) rfl (by decide) (by decide) rfl (by first | exact .inl rfl | exact .inr rfl | assumption))
    (fss_cons_q (fps_set_q (i := 5) (d := 0) (ds' := [1, 0, 0, 0, 0, 0, 0, 0]) nd rfl (.inl rfl) (fe_sub_q (d' := 0) (d := 3) (fe_ix_q fo_ixT (fe_ix_q (fo_ix (K := K) rfl) (fe_var_q (i := 1) rfl (.inr (.inl rfl)) rfl (by decide) (by decide)) fe_int_q (fun _ _ => rfl)) fe_int_q (fun _ _ => rfl)) (by decide)) rfl (by decide) (by decide) rfl (by first | exact .inl rfl | exact .inr rfl | assumption))
    (fss_cons_q (fps_set_q (i := 6) (d := 0) (ds' := [1, 0, 0, 0, 0, 0, 0, 0]) nd rfl (.inl rfl) (fe_fnS_q G_law_draw hr rfl (fa_slot'_q (i := 0) rfl (.inl rfl) (fa_cons'_q (fe_sub_q (d' := 0) (d := 3) (fe_op_q fo_add (fe_callB_q (fo_len (K := K) rfl) rfl T.len0 (by decide +kernel) (fa_cons'_q (fe_var_q (i := 3) rfl (.inl rfl) rfl (by decide) (by decide)) fa_nil'_q rfl) rfl (by decide) (by decide) rfl rfl) fe_int_q) (by decide)) fa_nil'_q rfl) (by decide) (by decide)) rfl (by decide) rfl rfl) rfl (by decide) (by decide) rfl (by first | exact .inl rfl | exact .inr rfl | assumption))
    (fss_cons_q (fps_set_q (i := 7) (d := 0) (ds' := [1, 0, 0, 0, 0, 0, 0, 0]) nd rfl (.inl rfl) (fe_sub_q (d' := 0) (d := 1) (fe_lst_q (d := 1) (c := 0) (fa_cons'_q (fe_var_q (i := 3) rfl (.inl rfl) rfl (by decide) (by decide)) (fa_cons'_q fe_str_q (fa_cons'_q (fe_op_q fo_mulS (fe_var_q (i := 5) rfl (.inl rfl) rfl (by decide) (by decide)) fe_int_q) (fa_cons'_q (fe_op_q fo_mulS (fe_var_q (i := 5) rfl (.inl rfl) rfl (by decide) (by decide)) fe_int_q) (fa_cons'_q (fe_slice_q fl_str (fe_op_q fo_add (fe_var_q (i := 3) rfl (.inl rfl) rfl (by decide) (by decide)) (fe_op_q fo_mulS (fe_var_q (i := 5) rfl (.inl rfl) rfl (by decide) (by decide)) fe_int_q)) fo_none_q (fo_some_q fe_int_q)) (fa_cons'_q (fe_slice_q fl_str (fe_op_q fo_add (fe_var_q (i := 3) rfl (.inl rfl) rfl (by decide) (by decide)) (fe_op_q fo_mulS (fe_var_q (i := 5) rfl (.inl rfl) rfl (by decide) (by decide)) fe_int_q)) fo_none_q (fo_some_q fe_int_q)) (fa_cons'_q (fe_ix_q (fo_ix (K := K) rfl) (fe_var_q (i := 1) rfl (.inr (.inl rfl)) rfl (by decide) (by decide)) (fe_un_q fo_neg fe_int_q) (fun _ _ => rfl)) fa_nil'_q rfl) rfl) rfl) rfl) rfl) rfl) rfl) rfl rfl (by decide)) (by decide)) rfl (by decide) (by decide) rfl (by first | exact .inl rfl | exact .inr rfl | assumption))
    (fss_cons_q (fps_set_q (i := 7) (d := 0) (ds' := [1, 0, 0, 0, 0, 0, 0, 0]) nd rfl (.inl rfl) (fe_sub_q (d' := 0) (d := 1) (fe_op_q (fo_addL (K := K) rfl) (fe_var_q (i := 7) rfl (.inl rfl) rfl (by decide) (by decide)) (fe_lst_q (d := 3) (c := 3) (fa_cons'_q (fe_op_q fo_add (fe_op_q fo_add (fe_slice_q fl_str (fe_var_q (i := 3) rfl (.inl rfl) rfl (by decide) (by decide)) fo_none_q (fo_some_q (fe_var_q (i := 6) rfl (.inl rfl) rfl (by decide) (by decide)))) (fe_var_q (i := 4) rfl (.inl rfl) rfl (by decide) (by decide))) (fe_slice_q fl_str (fe_var_q (i := 3) rfl (.inl rfl) rfl (by decide) (by decide)) (fo_some_q (fe_var_q (i := 6) rfl (.inl rfl) rfl (by decide) (by decide))) fo_none_q)) (fa_cons'_q (fe_op_q fo_add (fe_var_q (i := 4) rfl (.inl rfl) rfl (by decide) (by decide)) (fe_slice_q fl_str (fe_var_q (i := 3) rfl (.inl rfl) rfl (by decide) (by decide)) (fo_some_q fe_int_q) fo_none_q)) (fa_cons'_q (fe_op_q fo_add (fe_slice_q fl_str (fe_var_q (i := 3) rfl (.inl rfl) rfl (by decide) (by decide)) fo_none_q (fo_some_q (fe_un_q fo_neg fe_int_q))) (fe_var_q (i := 4) rfl (.inl rfl) rfl (by decide) (by decide))) (fa_cons'_q (fe_op_q fo_add (fe_var_q (i := 3) rfl (.inl rfl) rfl (by decide) (by decide)) fe_str_q) (fa_cons'_q fe_str_q (fa_cons'_q fe_str_q fa_nil'_q rfl) rfl) rfl) rfl) rfl) rfl) rfl rfl (by decide))) (by decide)) rfl (by decide) (by decide) rfl (by first | exact .inl rfl | exact .inr rfl | assumption))
    (fss_cons_q (fps_set_q (i := 7) (d := 0) (ds' := [1, 0, 0, 0, 0, 0, 0, 0]) nd rfl (.inl rfl) (fe_sub_q (d' := 0) (d := 1) (fe_op_q (fo_addL (K := K) rfl) (fe_var_q (i := 7) rfl (.inl rfl) rfl (by decide) (by decide)) (fe_lst_q (d := 1) (c := 0) (fa_cons'_q (fe_ix_q (fo_ix (K := K) rfl) (fe_var_q (i := 2) rfl (.inl rfl) rfl (by decide) (by decide)) fe_int_q (fun _ _ => rfl)) (fa_cons'_q (fe_op_q fo_add (fe_var_q (i := 3) rfl (.inl rfl) rfl (by decide) (by decide)) fe_str_q) (fa_cons'_q (fe_callTy_q (fo_list (K := K) rfl rfl) rfl T.list0 (by decide +kernel) (fa_cons'_q (fe_var_q (i := 3) rfl (.inl rfl) rfl (by decide) (by decide)) fa_nil'_q rfl) rfl (by decide) (by decide) rfl rfl) (fa_cons'_q (fe_tup_q (d := 0) (c := 0) (fa_cons'_q (fe_var_q (i := 3) rfl (.inl rfl) rfl (by decide) (by decide)) fa_nil'_q rfl) rfl rfl) (fa_cons'_q (fe_lst_q (d := 1) (c := 0) (fa_cons'_q (fe_var_q (i := 3) rfl (.inl rfl) rfl (by decide) (by decide)) fa_nil'_q rfl) rfl rfl (by decide)) (fa_cons'_q fe_non_q (fa_cons'_q fe_int_q (fa_cons'_q fe_bl_q (fa_cons'_q fe_dnew_q (fa_cons'_q (fe_tup_q (d := 3) (c := 3) fa_nil'_q rfl rfl) (fa_cons'_q (fe_lst_q (d := 3) (c := 3) fa_nil'_q rfl rfl (by decide)) (fa_cons'_q (fe_var_q (i := 1) rfl (.inr (.inl rfl)) rfl (by decide) (by decide)) (fa_cons'_q (fe_lst_q (d := 3) (c := 3) (fa_cons'_q fe_int_q fa_nil'_q rfl) rfl rfl (by decide)) (fa_cons'_q (fe_var_q (i := 5) rfl (.inl rfl) rfl (by decide) (by decide)) fa_nil'_q rfl) rfl) rfl) rfl) rfl) rfl) rfl) rfl) rfl) rfl) rfl) rfl) rfl) rfl) rfl rfl (by decide))) (by decide)) rfl (by decide) (by decide) rfl (by first | exact .inl rfl | exact .inr rfl | assumption))
    (fss_one_q (fps_ret_q (fe_var_q (i := 7) rfl (.inl rfl) rfl (by decide) (by decide)) rfl))))))))
abbrev Slaw : Stmt := top 20
abbrev Nlaw : List Str := ["_law_script", "_law_turn", "_law_pen_here", "_law_tongue_here", "_law_other", "_law_row_here", "_law_far", "_law_thing", "_law_shown", "_law_one", "_law_found"]
theorem sclaw : FnScope Nlaw ["_law_script"] (defScope Slaw) := ⟨rfl, rfl, rfl, by decide +kernel, rfl, by decide +kernel, by decide +kernel⟩
def Blaw : MS := (sSeq (sFor (iRng1f (aCons (eC (.int 3)) aNil)) (gN 1) (sSeq (sSet 2 (eCall F_law_pen (aCons (eVar 0) (aCons (e2 mulI (eC (.int 2)) (eVar 1)) aNil))))
  (sSeq (sSet 3 (eCall F_law_tongue (aSlot 2 aNil)))
  (sSeq (sSet 4 (eCall F_law_tongue (aCons (eCall F_law_pen (aCons (eVar 0) (aCons (e2 addS (e2 mulI (eC (.int 2)) (eVar 1)) (eC (.int 1))) aNil))) aNil)))
  (sSeq (sIf (bOr (bNot (tV (eCall F_law_signs_right (aCons (eVar 3) aNil)))) (bNot (tV (eCall F_law_signs_right (aCons (eVar 4) aNil))))) (sRet (eC (.bool false))) sNil)
  (sSeq (sSet 5 (eCall F_law_row (aSlot 2 (aCons (eVar 3) (aCons (eC (.int 60)) aNil)))))
  (sSeq (sIf (bNot (tV (eCall F_law_rows_right (aCons (eVar 3) (aCons (eVar 5) (aCons (eVar 4) aNil)))))) (sRet (eC (.bool false))) sNil)
  (sSeq (sSet 6 (eCall F_law_row (aSlot 2 (aCons (eVar 3) (aCons (eC (.int 200)) aNil)))))
  (sSeq (sIf (tV (e2 neD (eN reprD (aCons (eCall Fword_of (aCons (eVar 3) (aCons (eVar 6) aNil))) aNil)) (eN reprD (aCons (eCall F_law_spelt (aCons (eVar 3) (aCons (eVar 6) aNil))) aNil)))) (sRet (eC (.bool false))) sNil)
  (sFor (iAny (eCall F_law_things (aSlot 2 (aCons (eVar 3) (aCons (eVar 4) (aCons (eCall F_law_spelt (aCons (eVar 3) (aCons (eVar 5) aNil))) aNil)))))) (gN 7) (sSeq (sSet 8 (eN reprD (aCons (eVar 7) aNil)))
  (sFor (iAny (eTup (aCons (eVar 3) (aCons (eVar 4) aNil)))) (gN 9) (sSeq (sSet 10 (eCall Fis_word (aCons (eVar 9) (aCons (eVar 7) aNil))))
  (sIf (bOr (bNot (tV (e1 (isiD "bool") (eVar 10)))) (bOr (tV (e2 neD (eVar 10) (eCall F_law_is_word (aCons (eVar 9) (aCons (eVar 7) aNil))))) (tV (e2 neD (eN reprD (aCons (eVar 7) aNil)) (eVar 8))))) (sRet (eC (.bool false))) sNil))))))))))))))
  (sRet (eC (.bool true))))
def Flaw : List D → Option (D × En) := fnF 10 [0] Blaw
theorem oklaw {k : Nat} (T : Bl mg)  (G_law_pen : Kn P w K mg base k "_law_pen" ["_law_script", "_law_k"] (spF K [0, 0] 3 F_law_pen)) (G_law_tongue : Kn P w K mg base k "_law_tongue" ["_law_pen_here"] (spF K [1] 0 F_law_tongue)) (G_law_row : Kn P w K mg base k "_law_row" ["_law_pen_here", "_law_tongue_here", "_law_most"] (spF K [1, 0, 0] 1 F_law_row)) (G_law_things : Kn P w K mg base k "_law_things" ["_law_pen_here", "_law_tongue_here", "_law_other", "_law_word"] (spF K [1, 0, 0, 0] 0 F_law_things)) (G_law_rows_right : Kn P w K mg base k "_law_rows_right" ["_law_tongue_here", "_law_row_here", "_law_other"] (spF K [0, 0, 0] 3 F_law_rows_right)) (G_law_spelt : Kn P w K mg base k "_law_spelt" ["_law_tongue_here", "_law_row_here"] (spF K [0, 0] 0 F_law_spelt)) (G_law_signs_right : Kn P w K mg base k "_law_signs_right" ["_law_tongue_here"] (spF K [0] 3 F_law_signs_right)) (Gword_of : Kn P w K mg base k "word_of" ["tongue", "row"] (spF K [0, 0] 3 Fword_of)) (Gis_word : Kn P w K mg base k "is_word" ["tongue", "thing"] (spF K [0, 0] 3 Fis_word)) (G_law_is_word : Kn P w K mg base k "_law_is_word" ["_law_tongue_here", "_law_thing"] (spF K [0, 0] 3 F_law_is_word)) (F : Fun K "law" "law" Slaw f fd) : FnOk P w K mg base CX0 (k + 1) f fd ["_law_script"] (spF K [0] 3 Flaw) := by
  have nd := sclaw.nd
  refine F.okQ (N := Nlaw) (b := Blaw) (J := ⟨[], [0, 0, 0, 0, 0, 0, 0, 0, 0, 0, 0], 3, []⟩) (ds0 := [0, 0, 0, 0, 0, 0, 0, 0, 0, 0, 0]) sclaw rfl rfl rfl rfl fun cdv A outer s H E hr => ?_
  exact (fss_cons_q (fps_for_q (ds1 := [0, 0, 0, 0, 0, 0, 0, 0, 0, 0, 0]) rfl (fi_rng1_q rfl T.range0 (fa_cons'_q (fe_sub_q (d' := 0) (d := 3) fe_int_q (by decide)) fa_nil'_q rfl) rfl) (fg_name'_q (i := 1) (ds' := [0, 0, 0, 0, 0, 0, 0, 0, 0, 0, 0]) nd rfl (.inl rfl) rfl (by decide) (by decide) (by first | exact .inl rfl | exact .inr rfl | assumption)) (fss_sub_q (ds2 := [0, 0, 1, 0, 0, 0, 0, 0, 0, 0, 0]) (fss_cons_q (fps_set_q (i := 2) (d := 1) (ds' := [0, 0, 1, 0, 0, 0, 0, 0, 0, 0, 0]) nd rfl (.inl rfl) (fe_sub_q (d' := 1) (d := 3) (fe_fn_q G_law_pen hr rfl (fa_cons'_q (fe_var_q (i := 0) rfl (.inl rfl) rfl (by decide) (by decide)) (fa_cons'_q (fe_sub_q (d' := 0) (d := 3) (fe_op_q fo_mul fe_int_q (fe_var_q (i := 1) rfl (.inl rfl) rfl (by decide) (by decide))) (by decide)) fa_nil'_q rfl) rfl) rfl rfl (by decide) rfl rfl) (by decide)) rfl (by decide) (by decide) rfl (by first | exact .inl rfl | exact .inr rfl | assumption))
    (fss_cons_q (fps_set_q (i := 3) (d := 0) (ds' := [0, 0, 1, 0, 0, 0, 0, 0, 0, 0, 0]) nd rfl (.inl rfl) (fe_fnS_q G_law_tongue hr rfl (fa_slot'_q (i := 2) rfl (.inl rfl) fa_nil'_q (by decide) (by decide)) rfl (by decide) rfl rfl) rfl (by decide) (by decide) rfl (by first | exact .inl rfl | exact .inr rfl | assumption))
    (fss_cons_q (fps_set_q (i := 4) (d := 0) (ds' := [0, 0, 1, 0, 0, 0, 0, 0, 0, 0, 0]) nd rfl (.inl rfl) (fe_fn_q G_law_tongue hr rfl (fa_cons'_q (fe_sub_q (d' := 1) (d := 3) (fe_fn_q G_law_pen hr rfl (fa_cons'_q (fe_var_q (i := 0) rfl (.inl rfl) rfl (by decide) (by decide)) (fa_cons'_q (fe_sub_q (d' := 0) (d := 3) (fe_op_q fo_add (fe_op_q fo_mul fe_int_q (fe_var_q (i := 1) rfl (.inl rfl) rfl (by decide) (by decide))) fe_int_q) (by decide)) fa_nil'_q rfl) rfl) rfl rfl (by decide) rfl rfl) (by decide)) fa_nil'_q rfl) rfl rfl (by decide) rfl rfl) rfl (by decide) (by decide) rfl (by first | exact .inl rfl | exact .inr rfl | assumption))
    (fss_cons_q (fps_if_q (ds2 := [0, 0, 1, 0, 0, 0, 0, 0, 0, 0, 0]) (qpt (fw_or_q (ft_not'_q (ft_val'_q (fe_fn_q G_law_signs_right hr rfl (fa_cons'_q (fe_var_q (i := 3) rfl (.inl rfl) rfl (by decide) (by decide)) fa_nil'_q rfl) rfl rfl (by decide) rfl rfl) (fun _ => rfl))) (fw_or1_q (ft_not'_q (ft_val'_q (fe_fn_q G_law_signs_right hr rfl (fa_cons'_q (fe_var_q (i := 4) rfl (.inl rfl) rfl (by decide) (by decide)) fa_nil'_q rfl) rfl rfl (by decide) rfl rfl) (fun _ => rfl)))))) (fss_one_q (fps_ret_q fe_bl_q rfl)) fss_nil_q)
    (fss_cons_q (fps_set_q (i := 5) (d := 0) (ds' := [0, 0, 1, 0, 0, 0, 0, 0, 0, 0, 0]) nd rfl (.inl rfl) (fe_sub_q (d' := 0) (d := 1) (fe_fnS_q G_law_row hr rfl (fa_slot'_q (i := 2) rfl (.inl rfl) (fa_cons'_q (fe_var_q (i := 3) rfl (.inl rfl) rfl (by decide) (by decide)) (fa_cons'_q (fe_sub_q (d' := 0) (d := 3) fe_int_q (by decide)) fa_nil'_q rfl) rfl) (by decide) (by decide)) rfl (by decide) rfl rfl) (by decide)) rfl (by decide) (by decide) rfl (by first | exact .inl rfl | exact .inr rfl | assumption))
    (fss_cons_q (fps_if_q (ds2 := [0, 0, 1, 0, 0, 0, 0, 0, 0, 0, 0]) (ft_not'_q (ft_val'_q (fe_fn_q G_law_rows_right hr rfl (fa_cons'_q (fe_var_q (i := 3) rfl (.inl rfl) rfl (by decide) (by decide)) (fa_cons'_q (fe_var_q (i := 5) rfl (.inl rfl) rfl (by decide) (by decide)) (fa_cons'_q (fe_var_q (i := 4) rfl (.inl rfl) rfl (by decide) (by decide)) fa_nil'_q rfl) rfl) rfl) rfl rfl (by decide) rfl rfl) (fun _ => rfl))) (fss_one_q (fps_ret_q fe_bl_q rfl)) fss_nil_q)
    (fss_cons_q (fps_set_q (i := 6) (d := 0) (ds' := [0, 0, 1, 0, 0, 0, 0, 0, 0, 0, 0]) nd rfl (.inl rfl) (fe_sub_q (d' := 0) (d := 1) (fe_fnS_q G_law_row hr rfl (fa_slot'_q (i := 2) rfl (.inl rfl) (fa_cons'_q (fe_var_q (i := 3) rfl (.inl rfl) rfl (by decide) (by decide)) (fa_cons'_q (fe_sub_q (d' := 0) (d := 3) fe_int_q (by decide)) fa_nil'_q rfl) rfl) (by decide) (by decide)) rfl (by decide) rfl rfl) (by decide)) rfl (by decide) (by decide) rfl (by first | exact .inl rfl | exact .inr rfl | assumption))
    (fss_cons_q (fps_if_q (ds2 := [0, 0, 1, 0, 0, 0, 0, 0, 0, 0, 0]) (ft_cmp'_q (fo_ne (K := K) rfl hr.units) (fe_callB_q (fo_repr (K := K) rfl hr.gd hr.units) rfl T.repr0 (by decide +kernel) (fa_cons'_q (fe_sub_q (d' := 0) (d := 3) (fe_fn_q Gword_of hr rfl (fa_cons'_q (fe_var_q (i := 3) rfl (.inl rfl) rfl (by decide) (by decide)) (fa_cons'_q (fe_var_q (i := 6) rfl (.inl rfl) rfl (by decide) (by decide)) fa_nil'_q rfl) rfl) rfl rfl (by decide) rfl rfl) (by decide)) fa_nil'_q rfl) rfl (by decide) (by decide) rfl rfl) (fe_callB_q (fo_repr (K := K) rfl hr.gd hr.units) rfl T.repr0 (by decide +kernel) (fa_cons'_q (fe_fn_q G_law_spelt hr rfl (fa_cons'_q (fe_var_q (i := 3) rfl (.inl rfl) rfl (by decide) (by decide)) (fa_cons'_q (fe_var_q (i := 6) rfl (.inl rfl) rfl (by decide) (by decide)) fa_nil'_q rfl) rfl) rfl rfl (by decide) rfl rfl) fa_nil'_q rfl) rfl (by decide) (by decide) rfl rfl) (nomark _)) (fss_one_q (fps_ret_q fe_bl_q rfl)) fss_nil_q)
    (fss_one_q (fps_for_q (ds1 := [0, 0, 1, 0, 0, 0, 0, 0, 0, 0, 0]) rfl (fi_any_q (K := K) rfl (fe_fnS_q G_law_things hr rfl (fa_slot'_q (i := 2) rfl (.inl rfl) (fa_cons'_q (fe_var_q (i := 3) rfl (.inl rfl) rfl (by decide) (by decide)) (fa_cons'_q (fe_var_q (i := 4) rfl (.inl rfl) rfl (by decide) (by decide)) (fa_cons'_q (fe_fn_q G_law_spelt hr rfl (fa_cons'_q (fe_var_q (i := 3) rfl (.inl rfl) rfl (by decide) (by decide)) (fa_cons'_q (fe_var_q (i := 5) rfl (.inl rfl) rfl (by decide) (by decide)) fa_nil'_q rfl) rfl) rfl rfl (by decide) rfl rfl) fa_nil'_q rfl) rfl) rfl) (by decide) (by decide)) rfl (by decide) rfl rfl)) (fg_name'_q (i := 7) (ds' := [0, 0, 1, 0, 0, 0, 0, 0, 0, 0, 0]) nd rfl (.inl rfl) rfl (by decide) (by decide) (by first | exact .inl rfl | exact .inr rfl | assumption)) (fss_cons_q (fps_set_q (i := 8) (d := 0) (ds' := [0, 0, 1, 0, 0, 0, 0, 0, 0, 0, 0]) nd rfl (.inl rfl) (fe_sub_q (d' := 0) (d := 3) (fe_callB_q (fo_repr (K := K) rfl hr.gd hr.units) rfl T.repr0 (by decide +kernel) (fa_cons'_q (fe_var_q (i := 7) rfl (.inl rfl) rfl (by decide) (by decide)) fa_nil'_q rfl) rfl (by decide) (by decide) rfl rfl) (by decide)) rfl (by decide) (by decide) rfl (by first | exact .inl rfl | exact .inr rfl | assumption))
    (fss_one_q (fps_for_q (ds1 := [0, 0, 1, 0, 0, 0, 0, 0, 0, 0, 0]) rfl (fi_any_q (K := K) rfl (fe_tup_q (d := 0) (c := 0) (fa_cons'_q (fe_var_q (i := 3) rfl (.inl rfl) rfl (by decide) (by decide)) (fa_cons'_q (fe_var_q (i := 4) rfl (.inl rfl) rfl (by decide) (by decide)) fa_nil'_q rfl) rfl) rfl rfl)) (fg_name'_q (i := 9) (ds' := [0, 0, 1, 0, 0, 0, 0, 0, 0, 0, 0]) nd rfl (.inl rfl) rfl (by decide) (by decide) (by first | exact .inl rfl | exact .inr rfl | assumption)) (fss_cons_q (fps_set_q (i := 10) (d := 0) (ds' := [0, 0, 1, 0, 0, 0, 0, 0, 0, 0, 0]) nd rfl (.inl rfl) (fe_sub_q (d' := 0) (d := 3) (fe_fn_q Gis_word hr rfl (fa_cons'_q (fe_var_q (i := 9) rfl (.inl rfl) rfl (by decide) (by decide)) (fa_cons'_q (fe_var_q (i := 7) rfl (.inl rfl) rfl (by decide) (by decide)) fa_nil'_q rfl) rfl) rfl rfl (by decide) rfl rfl) (by decide)) rfl (by decide) (by decide) rfl (by first | exact .inl rfl | exact .inr rfl | assumption))
    (fss_one_q (fps_if_q (ds2 := [0, 0, 1, 0, 0, 0, 0, 0, 0, 0, 0]) (qpt (fw_or_q (ft_not'_q (ft_val'_q (fe_isi_q (K := K) (n := "bool") rfl rfl T.isinstance0 rfl T.bool0 (by decide +kernel) (by decide) (fe_var_q (i := 10) rfl (.inl rfl) rfl (by decide) (by decide)) (by decide) (by decide) rfl rfl rfl) (fun _ => rfl))) (fw_or_q (ft_cmp'_q (fo_ne (K := K) rfl hr.units) (fe_var_q (i := 10) rfl (.inl rfl) rfl (by decide) (by decide)) (fe_fn_q G_law_is_word hr rfl (fa_cons'_q (fe_var_q (i := 9) rfl (.inl rfl) rfl (by decide) (by decide)) (fa_cons'_q (fe_var_q (i := 7) rfl (.inl rfl) rfl (by decide) (by decide)) fa_nil'_q rfl) rfl) rfl rfl (by decide) rfl rfl) (nomark _)) (fw_or1_q (ft_cmp'_q (fo_ne (K := K) rfl hr.units) (fe_callB_q (fo_repr (K := K) rfl hr.gd hr.units) rfl T.repr0 (by decide +kernel) (fa_cons'_q (fe_var_q (i := 7) rfl (.inl rfl) rfl (by decide) (by decide)) fa_nil'_q rfl) rfl (by decide) (by decide) rfl rfl) (fe_var_q (i := 8) rfl (.inl rfl) rfl (by decide) (by decide)) (nomark _)))))) (fss_one_q (fps_ret_q fe_bl_q rfl)) fss_nil_q))) PassesOwn.never (fun _ => rfl)))) PassesOwn.never (fun _ => rfl))))))))))) rfl) PassesOwn.never (fun _ => rfl))
    (fss_one_q (fps_ret_q fe_bl_q rfl)))
end
end W02
set_option Elab.async false
set_option linter.all false
set_option maxRecDepth 100000
set_option maxHeartbeats 4000000
namespace W02
open PySem L2 Pen3
abbrev s1 (c : Nat) : D := .str (mk1 c)
def ev : Str := ("!\"#$&'()*+,-./0123456789:;<=>?@ABCDEFGHIJKLMNOPQRSTUVWXYZ" : Str) ++ ("[\\]^_`abcdefghijklmnopqrstuvwxyz{|}~" : Str)
theorem ev_len : (li ev).length = 93 := by decide +kernel
theorem ev_nd : (li ev).Nodup := by decide +kernel
theorem ev_code : ∀ c ∈ li ev, 33 ≤ c ∧ c ≤ 126 := by decide +kernel
theorem add_str {a b : Str} (h : a.length + b.length ≤ 1000) : addS (.str a) (.str b) = some (.str (a ++ b)) := by
  show (if a.length + b.length ≤ sizeLine then some (PyData.str (a ++ b)) else none) = _
  rw [if_pos (Nat.le_trans h sl1000)]
theorem erase_map : ∀ (l : List Nat) (k : Nat), (l.map s1).eraseIdx k = (l.eraseIdx k).map s1
  | [], _ => rfl
  | a :: l, 0 => rfl
  | a :: l, k + 1 => by
    show s1 a :: (l.map s1).eraseIdx k = s1 a :: (l.eraseIdx k).map s1
    rw [erase_map l k]
theorem every_ok : F_law_every [] = some (.str ev, []) := by
  refine fnF_rt (b := B_law_every) (ts := []) (en := [some (.str "!\"#$&'()*+,-./0123456789:;<=>?@ABCDEFGHIJKLMNOPQRSTUVWXYZ")]) (ev_seq (en1 := [some (.str "!\"#$&'()*+,-./0123456789:;<=>?@ABCDEFGHIJKLMNOPQRSTUVWXYZ")]) rfl (ev_rt (ev_2 rfl rfl ?_)))
  have h : ("!\"#$&'()*+,-./0123456789:;<=>?@ABCDEFGHIJKLMNOPQRSTUVWXYZ" : Str).length + ("[\\]^_`abcdefghijklmnopqrstuvwxyz{|}~" : Str).length ≤ 1000 := by decide +kernel
  exact add_str h
theorem ev_popAt {i : Nat} {f : ME} {en en1 en2 : En} {ts0 ts : List D} {n : Int} {k : Nat} {t : D} (h0 : en[i]? = some (some (.list ts0))) (h1 : f en = some (.int n, en1)) (h2 : en1[i]? = some (some (.list ts))) (hn : -(2 ^ 63) ≤ n ∧ n < 2 ^ 63) (hk : seqIndex? n ts.length = some k) (ht : ts[k]? = some t) (he : en1.set i (some (.list (ts.eraseIdx k))) = en2) : ePopAt i f en = some (t, en2) := by
  simp only [ePopAt, h0, h1, h2, Option.join_some, Option.bind_some, if_pos hn, hk, ht, Option.map_some, he]
theorem in63 {j n : Int} (h0 : 0 ≤ j) (h1 : j < n) (h2 : n ≤ 1000) : -(2 ^ 63) ≤ j ∧ j < 2 ^ 63 := ⟨Int.le_trans (by decide) h0, Int.lt_of_lt_of_le h1 (Int.le_trans h2 (by decide))⟩
theorem listD_str {z : Str} (h : (li z).length ≤ 1000) : listD [.str z] = some (.list ((li z).map s1)) := by
  show grd (z.cps.size ≤ sizeLine) _ = _
  unfold grd
  rw [if_pos (Nat.le_trans (by rw [← Array.length_toList]; exact h) sl1000)]
  rfl
theorem unlike_ok {p : D} {n : Nat} (hp : IsPen p) (hn : n ≤ 93) : ∃ (cs : List Nat) (p' : D), F_law_unlike [p, .int n] = some (.list (cs.map s1), [some p', none]) ∧ cs.Nodup ∧ (∀ c ∈ cs, c ∈ li ev) ∧ cs.length = n ∧ IsPen p' := by
  have key : ∀ (ts : List D) (acc left : List Nat) (o : Option D) (p : D), IsPen p → ts.length ≤ left.length → acc.length + ts.length ≤ 1000 → left.length ≤ 1000 → ∃ (cs left' : List Nat) (o' : Option D) (p' : D), lcF (gN 0) cY (ePopAt 2 (eCall W02.F_law_draw (aSlot 1 (aCons (eN lenD (aCons (eVar 2) aNil)) aNil)))) ts (acc.map s1) [o, some p, some (.list (left.map s1))] = some ((acc ++ cs).map s1, [o', some p', some (.list (left'.map s1))]) ∧ (cs ++ left').Perm left ∧ cs.length = ts.length ∧ IsPen p' := by
    intro ts
    induction ts with
    | nil => exact fun acc left o p hp _ _ _ => ⟨[], left, o, p, by rw [List.append_nil]; rfl, List.Perm.refl _, rfl, hp⟩
    | cons t ts ih =>
      intro acc left o p hp h1 h2 h3
      rw [List.length_cons] at h1 h2
      have ln : lenD [.list (left.map s1)] = some (.int left.length) := by show some (PyData.int (left.map s1).length) = _; rw [List.length_map]
      obtain ⟨r, p1, e, r0, r1, hp1⟩ := ev_draw (p := p) (m := left.length) (i := 1) (en := [some t, some p, some (.list (left.map s1))]) (fa := aSlot 1 (aCons (eN lenD (aCons (eVar 2) aNil)) aNil)) rfl hp (ev_slot rfl (ev_ac (ev_n rfl rfl ln) rfl)) (by omega) (by omega)
      obtain ⟨k, rfl⟩ : ∃ k : Nat, r = k := ⟨r.toNat, (Int.toNat_of_nonneg r0).symm⟩
      have hk : k < left.length := by omega
      have pop : ePopAt 2 (eCall W02.F_law_draw (aSlot 1 (aCons (eN lenD (aCons (eVar 2) aNil)) aNil))) [some t, some p, some (.list (left.map s1))] = some (s1 left[k], [some t, some p1, some (.list ((left.eraseIdx k).map s1))]) := by
        refine ev_popAt (ts0 := left.map s1) (ts := left.map s1) (k := k) rfl e rfl (in63 (by omega) r1 (by omega)) (by rw [List.length_map, seq_at (by omega) (by omega), Int.toNat_natCast]) (by rw [List.getElem?_map, List.getElem?_eq_getElem hk]; rfl) ?_
        rw [erase_map]
        rfl
      obtain ⟨cs, left', o', p', q1, q2, q3, q4⟩ := ih (acc ++ [left[k]]) (left.eraseIdx k) (some t) p1 hp1 (by rw [List.length_eraseIdx_of_lt hk]; omega) (by rw [List.length_append]; show acc.length + 1 + ts.length ≤ 1000; omega) (by rw [List.length_eraseIdx_of_lt hk]; omega)
      refine ⟨left[k] :: cs, left', o', p', ?_, ?_, by rw [List.length_cons, List.length_cons, q3], q4⟩
      · show ((ePopAt 2 (eCall W02.F_law_draw (aSlot 1 (aCons (eN lenD (aCons (eVar 2) aNil)) aNil))) [some t, some p, some (.list (left.map s1))]).bind fun q => if (acc.map s1).length < sizeLine then lcF (gN 0) cY (ePopAt 2 (eCall W02.F_law_draw (aSlot 1 (aCons (eN lenD (aCons (eVar 2) aNil)) aNil)))) ts (acc.map s1 ++ [q.1]) q.2 else none) = _
        rw [pop]
        show (if (acc.map s1).length < sizeLine then lcF (gN 0) cY (ePopAt 2 (eCall W02.F_law_draw (aSlot 1 (aCons (eN lenD (aCons (eVar 2) aNil)) aNil)))) ts (acc.map s1 ++ [s1 left[k]]) [some t, some p1, some (.list ((left.eraseIdx k).map s1))] else none) = _
        rw [if_pos (by rw [List.length_map]; exact Nat.lt_of_lt_of_le (by omega) sl1000)]
        rw [List.map_append] at q1
        rw [show acc.map s1 ++ [s1 left[k]] = acc.map s1 ++ [left[k]].map s1 from rfl, q1, List.append_assoc]
        rfl
      · exact (List.Perm.cons _ q2).trans (erase_perm left k hk)
  obtain ⟨cs, left', o', p', q1, q2, q3, q4⟩ := key ((List.range n).map fun k => .int (0 + (k : Nat))) [] (li ev) none p hp (by rw [List.length_map, List.length_range, ev_len]; exact hn) (by rw [List.length_map, List.length_range]; show 0 + n ≤ 1000; omega) (by rw [ev_len]; decide)
  rw [List.length_map, List.length_range] at q3
  have nd := q2.nodup_iff.mpr ev_nd
  refine ⟨cs, p', ?_, (List.nodup_append.mp nd).1, fun c hc => q2.mem_iff.mp (List.mem_append_left _ hc), q3, q4⟩
  refine fnF_rt (b := B_law_unlike) (en := [some p', some (.int n), some (.list (left'.map s1))]) (ev_seq (en1 := [some p, some (.int n), some (.list ((li ev).map s1))]) (ev_set (ev_n (ev_ac (ev_call rfl rfl every_ok rfl) rfl) rfl (listD_str (by rw [ev_len]; decide))) rfl) (ev_rt (ev_lc (en1 := [some p, some (.int n), some (.list ((li ev).map s1))]) (ex := [o', some p', some (.list (left'.map s1))]) (Mch.ev_rng1 (n := n) rfl (by omega)) q1 rfl)))
theorem cutA_take {α : Type} (xs : List α) (n : Nat) (h : n ≤ xs.length) : cutA xs none (some (n : Int)) = xs.take n := by
  unfold cutA
  rw [HT.sIx_none, HT.sIx_nat, List.drop_zero, Nat.sub_zero, Nat.min_eq_left h]
theorem cutA_drop {α : Type} (xs : List α) (n : Nat) (h : n ≤ xs.length) : cutA xs (some (n : Int)) none = xs.drop n := by
  unfold cutA
  rw [HT.sIx_none, HT.sIx_nat, Nat.min_eq_left h, List.take_of_length_le (by rw [List.length_drop]; exact Nat.le_refl _)]
theorem strs_s1 : ∀ cs : List Nat, joinD.strsOf (cs.map s1) = some (cs.map mk1)
  | [] => rfl
  | c :: cs => by
    show (joinD.strsOf (cs.map s1)).map (mk1 c :: ·) = _
    rw [strs_s1 cs]
    rfl
theorem strs_str : ∀ ks : List Str, joinD.strsOf (ks.map .str) = some ks
  | [] => rfl
  | c :: cs => by
    show (joinD.strsOf (cs.map .str)).map (c :: ·) = _
    rw [strs_str cs]
    rfl
theorem join_mk1 (cs : List Nat) : Txt.join "" (cs.map mk1) = ofL cs := by
  refine li_inj ?_
  have h := cat_li (cs.map mk1)
  rw [allS_mk1] at h
  exact h
theorem lens_mk1 : ∀ cs : List Nat, ((cs.map mk1).map (·.length)).sum = cs.length
  | [] => rfl
  | c :: cs => by
    rw [List.map_cons, List.map_cons, List.sum_cons, lens_mk1 cs, List.length_cons, Nat.add_comm]
    rfl
theorem join_s1 {cs : List Nat} (h : cs.length ≤ 1000) : joinD "" [.list (cs.map s1)] = some (.str (ofL cs)) := by
  show (joinD.strsOf (cs.map s1)).bind _ = _
  rw [strs_s1]
  show (if _ then _ else _) = _
  rw [if_pos ⟨by decide, by rw [lens_mk1, List.length_map]; omega⟩, join_mk1]
theorem join_str {ks : List Str} (h : (allS ks).length ≤ 1000) (h2 : ks.length ≤ 1000) : joinD "" [.tuple (ks.map .str)] = some (.str (ofL (allS ks))) := by
  show (joinD.strsOf (ks.map .str)).bind _ = _
  rw [strs_str]
  show (if _ then _ else _) = _
  rw [if_pos ⟨by decide, by rw [allS_len]; omega⟩, show ofL (allS ks) = Txt.join "" ks from (li_inj (cat_li ks)).symm]
end W02
set_option Elab.async false
set_option linter.all false
set_option maxRecDepth 100000
set_option maxHeartbeats 4000000
namespace W02
open PySem L2 Pen3
structure TOk (ks : List Str) : Prop where
  n1 : 1 ≤ ks.length
  n4 : ks.length ≤ 4
  fu : ∀ k ∈ ks, 1 ≤ (li k).length
  nd : (allS ks).Nodup
  l12 : (allS ks).length ≤ 12
  mem : ∀ c ∈ allS ks, c ∈ li ev
def tD (ks : List Str) : D := .tuple (ks.map .str)
theorem item0 {n i : Nat} {t : D} (ht : ((List.range n).map fun k => PyData.int (0 + (k : Nat)))[i]? = some t) : i < n ∧ t = .int i := by
  have hi : i < n := by have := (List.getElem?_eq_some_iff.mp ht).1; rw [List.length_map, List.length_range] at this; exact this
  refine ⟨hi, ?_⟩
  rw [List.getElem?_map, List.getElem?_range hi] at ht
  injection ht with ht
  rw [← ht]
  show PyData.int (0 + (i : Int)) = _
  rw [Int.zero_add]
theorem ev_sl {g : D → Option Int → Option Int → Option D} {f : ME} {lo hi : En → Option (Option Int × En)} {en en1 en2 en3 : En} {t u : D} {a b : Option Int} (h1 : f en = some (t, en1)) (h2 : lo en1 = some (a, en2)) (h3 : hi en2 = some (b, en3)) (h : g t a b = some u) : eSl g f lo hi en = some (u, en3) := by
  simp only [eSl, h1, h2, h3, Option.bind_some, h, Option.map_some]
theorem ev_m {g : Str → List D → Option D} {f : ME} {fa : MA} {en en1 en2 : En} {z : Str} {as : List (D ⊕ Nat)} {ts : List D} {u : D} (h1 : f en = some (.str z, en1)) (h2 : fa en1 = some (as, en2)) (h3 : vals as = some ts) (h : g z ts = some u) : eM g f fa en = some (u, en2) := by
  simp only [eM, h1, h2, h3, Option.bind_some, h, Option.map_some]
theorem ev_os {f : ME} {en en1 : En} {n : Int} (h : f en = some (.int n, en1)) : oSome f en = some (some n, en1) := by
  simp only [oSome, h, Option.bind_some]
theorem tongue_ok {p : D} (hp : IsPen p) : ∃ (ks : List Str) (p' : D), F_law_tongue [p] = some (tD ks, [some p']) ∧ TOk ks ∧ IsPen p' := by
  obtain ⟨r1, p1, e1', a0, a1, hp1⟩ := ev_draw (p := p) (m := 4) (i := 0) (en := [some p, none, none, none, none, none, none, none]) (fa := aSlot 0 (aCons (eC (.int 4)) aNil)) rfl hp rfl (by decide) (by decide)
  obtain ⟨N, hN⟩ : ∃ N : Nat, (N : Int) = 1 + r1 := ⟨(1 + r1).toNat, by omega⟩
  obtain ⟨way, p2, e2', b0, b1, hp2⟩ := ev_draw (p := p1) (m := 6) (i := 0) (en := [some p1, some (.int N), none, none, none, none, none, none]) (fa := aSlot 0 (aCons (eC (.int 6)) aNil)) rfl hp1 rfl (by decide) (by decide)
  obtain ⟨cs, p3, e3', nd, mem, len, hp3⟩ := unlike_ok (n := 12) hp2 (by decide)
  let E (p : D) (left : List Nat) (ks : List Str) (a b c : Option D) : En := [some p, some (.int N), some (.int way), some (.list (left.map s1)), some (.list (ks.map .str)), a, b, c]
  obtain ⟨en', ef, p', left, ks, a, b, c, rfl, g1, g2, g3, g4, g5, g6, g7⟩ := forF_all (g := gN 5) (b := sSeq (sSet 6 (eN min2D (aCons (eC (.int 6)) (aCons (e2 subI (eN lenD (aCons (eVar 3) aNil)) (e2 subI (e2 subI (eVar 1) (eC (.int 1))) (eVar 5))) aNil))))
  (sSeq (sSet 7 (e2 ixA (eLst (aCons (eC (.int 1)) (aCons (eVar 6) (aCons (e2 addS (eC (.int 1)) (eCall W02.F_law_draw (aSlot 0 (aCons (eVar 6) aNil)))) aNil)))) (eN min2D (aCons (eC (.int 2)) (aCons (eVar 2) aNil)))))
  (sSeq (sExp (eApp 4 (eM joinD (eC (.str "")) (aCons (eSl cutLD (eVar 3) oNone (oSome (eVar 7))) aNil))))
  (sSet 3 (eSl cutLD (eVar 3) (oSome (eVar 7)) oNone))))) (ts := (List.range N).map fun k => .int (0 + (k : Nat)))
    (fun i en => ∃ p left ks a b c, en = E p left ks a b c ∧ IsPen p ∧ ks.length = i ∧ (allS ks ++ left).Nodup ∧ (∀ c ∈ allS ks ++ left, c ∈ li ev) ∧ (allS ks).length + left.length = 12 ∧ N ≤ left.length + i ∧ (∀ k ∈ ks, 1 ≤ (li k).length))
    (fun i t en ht ⟨p, left, ks, a, b, c, he, g1, g2, g3, g4, g5, g6, g7⟩ => by
      subst he
      obtain ⟨hi, rfl⟩ := item0 ht
      have ln : lenD [.list (left.map s1)] = some (.int left.length) := by show some (PyData.int (left.map s1).length) = _; rw [List.length_map]
      obtain ⟨mo, hmo, m1, m2⟩ : ∃ mo : Int, min2D [.int 6, .int ((left.length : Int) - ((N : Int) - 1 - (i : Int)))] = some (.int mo) ∧ 1 ≤ mo ∧ mo ≤ left.length ∧ mo ≤ (left.length : Int) - ((N : Int) - 1 - (i : Int)) ∧ mo ≤ 6 := by
        refine ⟨if (left.length : Int) - ((N : Int) - 1 - (i : Int)) < 6 then (left.length : Int) - ((N : Int) - 1 - (i : Int)) else 6, rfl, ?_, ?_, ?_, ?_⟩ <;> split <;> omega
      obtain ⟨m2, m3, m4⟩ := m2
      obtain ⟨r, p1, ed, r0, r1, hp1⟩ := ev_draw (p := p) (m := mo) (i := 0) (en := E p left ks (some (.int i)) (some (.int mo)) c) (fa := aSlot 0 (aCons (eVar 6) aNil)) rfl g1 rfl (by omega) (by omega)
      obtain ⟨z, hz, z1, z2⟩ : ∃ z : Nat, ixA (.list [.int 1, .int mo, .int (1 + r)]) (.int (if way < 2 then way else 2)) = some (.int z) ∧ 1 ≤ z ∧ (z : Int) ≤ mo := by
        by_cases w0 : way = 0
        · subst w0
          exact ⟨1, rfl, by omega, by omega⟩
        · by_cases w1 : way = 1
          · subst w1
            refine ⟨mo.toNat, ?_, by omega, by omega⟩
            rw [Int.toNat_of_nonneg (by omega)]
            rfl
          · rw [if_neg (by omega)]
            refine ⟨(1 + r).toNat, ?_, by omega, by omega⟩
            rw [Int.toNat_of_nonneg (by omega)]
            rfl
      have zl : z ≤ left.length := by omega
      have st : left.take z ++ left.drop z = left := List.take_append_drop z left
      have tl : (left.take z).length = z := by rw [List.length_take]; omega
      have dl : (left.drop z).length = left.length - z := List.length_drop
      have al : allS (ks ++ [ofL (left.take z)]) ++ left.drop z = allS ks ++ left := by rw [allS_snoc, li_ofL, List.append_assoc, st]
      refine ⟨E p left ks (some (.int i)) b c, E p1 (left.drop z) (ks ++ [ofL (left.take z)]) (some (.int i)) (some (.int mo)) (some (.int z)), rfl, .inl ?_, p1, left.drop z, ks ++ [ofL (left.take z)], _, _, _, rfl, hp1, by rw [List.length_append, g2]; rfl, by rw [al]; exact g3, by rw [al]; exact g4, ?_, by rw [dl]; omega, fun k hk => ?_⟩
      · have m1' : (left.map s1).length = left.length := List.length_map _
        have c1 : cutLD (.list (left.map s1)) none (some (z : Int)) = some (.list ((left.take z).map s1)) := by
          show some (PyData.list (cutA (left.map s1) none (some (z : Int)))) = _
          rw [cutA_take _ _ (by rw [m1']; exact zl), List.map_take]
        have c2 : cutLD (.list (left.map s1)) (some (z : Int)) none = some (.list ((left.drop z).map s1)) := by
          show some (PyData.list (cutA (left.map s1) (some (z : Int)) none)) = _
          rw [cutA_drop _ _ (by rw [m1']; exact zl), List.map_drop]
        refine ev_seq (en1 := E p left ks (some (.int i)) (some (.int mo)) c) (ev_set (ev_n (ev_ac rfl (ev_ac (ev_2 (ev_n rfl rfl ln) rfl rfl) rfl)) rfl hmo) rfl)
          (ev_seq (en1 := E p1 left ks (some (.int i)) (some (.int mo)) (some (.int z))) (ev_set (ev_2 (t1 := .list [.int 1, .int mo, .int (1 + r)]) (t2 := .int (if way < 2 then way else 2)) (en1 := E p1 left ks (some (.int i)) (some (.int mo)) c) (ev_lst (ev_ac rfl (ev_ac rfl (ev_ac (ev_2 rfl ed rfl) rfl))) rfl (Nat.le_trans (by show 3 ≤ 1000; decide) sl1000)) rfl hz) rfl)
          (ev_seq (en1 := E p1 left (ks ++ [ofL (left.take z)]) (some (.int i)) (some (.int mo)) (some (.int z))) (ev_exp (ev_app (ts := ks.map .str) (us := ks.map .str) (t := .str (ofL (left.take z))) rfl (ev_m rfl (ev_ac (ev_sl rfl rfl (ev_os rfl) c1) rfl) rfl (join_s1 (by omega))) rfl (by rw [List.length_map, g2]; exact Nat.lt_of_lt_of_le (by omega) sl1000) (by rw [show ks.map PyData.str ++ [.str (ofL (left.take z))] = (ks ++ [ofL (left.take z)]).map PyData.str by rw [List.map_append]; rfl]; rfl)))
          (ev_set (ev_sl rfl (ev_os rfl) rfl c2) rfl)))
      · rw [allS_snoc, li_ofL, List.length_append, tl, dl]
        omega
      · rcases List.mem_append.mp hk with hk | hk
        · exact g7 k hk
        · rw [List.mem_singleton.mp hk, li_ofL, tl]
          exact z1)
    (en := E p3 cs [] none none none) ⟨p3, cs, [], none, none, none, rfl, hp3, rfl, nd, mem, by show 0 + cs.length = 12; omega, by omega, fun _ z => by cases z⟩
  rw [List.length_map, List.length_range] at g2
  refine ⟨ks, p', ?_, ⟨by omega, by omega, g7, (List.nodup_append.mp g3).1, by omega, fun c hc => g4 c (List.mem_append_left _ hc)⟩, g1⟩
  have l0 : ∀ {en : En}, eLst aNil en = some (.list [], en) := fun {en} => ev_lst rfl rfl (Nat.zero_le _)
  refine fnF_rt (b := B_law_tongue) (en := E p' left ks a b c)
    (ev_seq (en1 := [some p1, some (.int N), none, none, none, none, none, none]) (ev_set (ev_2 rfl e1' (show _ = some (PyData.int N) by rw [hN]; rfl)) rfl)
    (ev_seq (en1 := [some p2, some (.int N), some (.int way), none, none, none, none, none]) (ev_set e2' rfl)
    (ev_seq (en1 := [some p3, some (.int N), some (.int way), some (.list (cs.map s1)), none, none, none, none]) (ev_set (ev_call (as := [.inr 0, .inl (.int 12)]) (en1 := [some p2, some (.int N), some (.int way), none, none, none, none, none]) rfl rfl e3' rfl) rfl)
    (ev_seq (en1 := E p3 cs [] none none none) (ev_set l0 rfl)
    (ev_seq (ev_for (Mch.ev_rng1 (n := N) (en1 := E p3 cs [] none none none) rfl (by omega)) ef) (ev_rt (ev_n (ts := [.list (ks.map .str)]) rfl rfl rfl)))))))
end W02
set_option Elab.async false
set_option linter.all false
set_option maxRecDepth 100000
set_option maxHeartbeats 4000000
namespace W02
open PySem L2 Pen3
theorem inText_one {z : Str} {c : Nat} : inText z (mk1 c) = decide (c ∈ li z) := StrLaws.found_one z c
def rowN (r : List Nat) : D := .list (r.map fun a : Nat => .int a)
theorem len_str {z : Str} (h : (li z).length ≤ 1000) : lenD [.str z] = some (.int (li z).length) := by
  show grd (z.length ≤ sizeLine) _ = _
  unfold grd
  rw [if_pos (show z.length ≤ sizeLine from Nat.le_trans h sl1000)]
  rfl
theorem allS_cons (k : Str) (ks : List Str) : allS (k :: ks) = li k ++ allS ks := rfl
theorem mem_allS {c : Nat} {k : Str} {ks : List Str} (hk : k ∈ ks) (hc : c ∈ li k) : c ∈ allS ks := List.mem_flatten.mpr ⟨li k, List.mem_map_of_mem hk, hc⟩
section
variable {ks : List Str}
abbrev sgs (ks : List Str) : Str := ofL (allS ks)
theorem signs_ok (T : TOk ks) : Fsigns_of [tD ks] = some (.str (sgs ks), [none]) :=
  fnF_rt (b := Bsigns_of) (en := [some (tD ks)]) (ev_rt (ev_m rfl (ev_ac rfl rfl) rfl (join_str (by have := T.l12; omega) (by have := T.n4; omega))))
theorem kind_ok {c : Nat} (hn : (allS ks).Nodup) {j : Nat} {k : Str} (hj : ks[j]? = some k) (hc : c ∈ li k) : Fkind_of [tD ks, s1 c] = some (.int j, [none, none]) := by
  have key : ∀ (suf : List Str) (n j : Nat) (k : Str) (x y : Option D), (allS suf).Nodup → suf[j]? = some k → c ∈ li k → ∃ x' y', forF (gT (gsC (gN 2) (gsC (gN 3) gs0))) (sIf (tV (e2 inSf (eVar 1) (eVar 3))) (sRet (eVar 2)) sNil) (((suf.map PyData.str).zipIdx n).map fun p => .tuple [.int (p.2 : Nat), p.1]) [some (tD ks), some (s1 c), x, y] = some (.rt (.int ((n + j : Nat) : Int)) [some (tD ks), some (s1 c), x', y']) := by
    intro suf
    induction suf with
    | nil => intro n j k x y _ h; simp at h
    | cons a suf ih =>
      intro n j k x y hn hj hc
      have ins : inSf (s1 c) (.str a) = some (.bool (decide (c ∈ li a))) := by show some (PyData.bool (inText a (mk1 c))) = _; rw [inText_one]
      have st : ∀ fl, (sIf (tV (e2 inSf (eVar 1) (eVar 3))) (sRet (eVar 2)) sNil) [some (tD ks), some (s1 c), some (.int (n : Nat)), some (.str a)] = some fl → forF (gT (gsC (gN 2) (gsC (gN 3) gs0))) (sIf (tV (e2 inSf (eVar 1) (eVar 3))) (sRet (eVar 2)) sNil) ((((a :: suf).map PyData.str).zipIdx n).map fun p => .tuple [.int (p.2 : Nat), p.1]) [some (tD ks), some (s1 c), x, y] = (match fl with
          | .nx en2 => forF (gT (gsC (gN 2) (gsC (gN 3) gs0))) (sIf (tV (e2 inSf (eVar 1) (eVar 3))) (sRet (eVar 2)) sNil) (((suf.map PyData.str).zipIdx (n + 1)).map fun p => .tuple [.int (p.2 : Nat), p.1]) en2
          | .ct en2 => forF (gT (gsC (gN 2) (gsC (gN 3) gs0))) (sIf (tV (e2 inSf (eVar 1) (eVar 3))) (sRet (eVar 2)) sNil) (((suf.map PyData.str).zipIdx (n + 1)).map fun p => .tuple [.int (p.2 : Nat), p.1]) en2
          | .rt r en2 => some (.rt r en2)) := fun fl h => by
        show ((sIf (tV (e2 inSf (eVar 1) (eVar 3))) (sRet (eVar 2)) sNil) [some (tD ks), some (s1 c), some (.int (n : Nat)), some (.str a)]).bind _ = _
        rw [h]
        rfl
      rw [allS_cons] at hn
      obtain ⟨n1, n2, n3⟩ := List.nodup_append.mp hn
      cases j with
      | zero =>
        have : a = k := by simpa using hj
        subst this
        refine ⟨some (.int (n : Nat)), some (.str a), ?_⟩
        rw [st (.rt (.int (n : Nat)) [some (tD ks), some (s1 c), some (.int (n : Nat)), some (.str a)]) (ev_ifT (b := true) (ev_tv (ev_2 (t1 := s1 c) (t2 := .str a) rfl rfl (by rw [ins, decide_eq_true hc]))) rfl rfl)]
        rfl
      | succ j =>
        have hk : suf[j]? = some k := by simpa using hj
        have nc : c ∉ li a := fun z => n3 c z c (mem_allS (List.mem_of_getElem? hk) hc) rfl
        obtain ⟨x', y', e⟩ := ih (n + 1) j k (some (.int (n : Nat))) (some (.str a)) n2 hk hc
        refine ⟨x', y', ?_⟩
        rw [st (.nx [some (tD ks), some (s1 c), some (.int (n : Nat)), some (.str a)]) (ev_ifF (b := false) (ev_tv (ev_2 (t1 := s1 c) (t2 := .str a) rfl rfl (by rw [ins, decide_eq_false nc]))) rfl rfl)]
        show forF _ _ _ _ = _
        rw [e, show n + 1 + j = n + (j + 1) by omega]
  obtain ⟨x, y, e⟩ := key ks 0 j k none none hn hj hc
  rw [Nat.zero_add] at e
  exact fnF_rt (b := Bkind_of) (en := [some (tD ks), some (s1 c), x, y]) (ev_ret (ev_for (ts := enumD (ks.map .str)) (en1 := [some (tD ks), some (s1 c), none, none]) rfl e))
theorem row_ok (T : TOk ks) {w : Str} (hw : ∀ c ∈ li w, c ∈ allS ks) (hl : (li w).length ≤ 1000) : Frow_of [tD ks, .str w] = some (rowN ((li w).map fun c => (allS ks).idxOf c), [none, none]) := by
  let F : D → D := fun t => match t with
    | .str z => .int (((allS ks).idxOf ((li z).headD 0) : Nat) : Int)
    | _ => .none
  obtain ⟨o', e⟩ := lcF_map (f := eM indexD (eVar 1) (aCons (eVar 0) aNil)) (F := F) (rest := [some (.str (sgs ks))]) ((li w).map s1) [] none
    (fun t ht => by
      obtain ⟨c, hc, rfl⟩ := List.mem_map.mp ht
      obtain ⟨rest, hr⟩ := index_one (z := sgs ks) (c := c) T.nd (hw c hc)
      refine ev_m (z := sgs ks) rfl (ev_ac rfl rfl) rfl ?_
      show (match Builtin.Str.occurrences (sgs ks) (mk1 c) 0 (sgs ks).length 1 with
        | i :: _ => some (PyData.int (i : Nat))
        | [] => none) = _
      rw [hr]
      rfl)
    (by rw [List.length_map]; exact Nat.le_trans (by show 0 + _ ≤ 1000; omega) sl1000)
  have em : ((li w).map s1).map F = ((li w).map fun c => (allS ks).idxOf c).map fun a : Nat => .int a := by
    rw [List.map_map, List.map_map]
    rfl
  rw [List.nil_append, em] at e
  exact fnF_rt (b := Brow_of) (en := [some (tD ks), some (.str w), some (.str (sgs ks))]) (ev_seq (en1 := [some (tD ks), some (.str w), some (.str (sgs ks))]) (ev_set (ev_call rfl rfl (signs_ok T) rfl) rfl) (ev_rt (ev_lc (ts := (li w).map s1) (en1 := [some (tD ks), some (.str w), some (.str (sgs ks))]) (ex := [o', some (.str (sgs ks))]) rfl e rfl)))
def spl (ks : List Str) (ns : List Nat) : Str := ofL (ns.map fun n => (allS ks).getD n 0)
theorem ixT_ok (T : TOk ks) {n : Nat} (hn : n < (allS ks).length) : ixT (.str (sgs ks)) (.int n) = some (s1 ((allS ks).getD n 0)) := by
  show (if (sgs ks).length ≤ sizeLine then (atI (allS ks) (n : Int)).map fun c => PyData.str (mk1 c) else none) = _
  rw [if_pos (show (sgs ks).length ≤ sizeLine from Nat.le_trans (show (allS ks).length ≤ 1000 by have := T.l12; omega) sl1000), List.getD_eq_getElem?_getD, List.getElem?_eq_getElem hn, atI_nat (List.getElem?_eq_getElem hn)]
  rfl
theorem word_ok (T : TOk ks) {ns : List Nat} (hn : ∀ n ∈ ns, n < (allS ks).length) (hl : ns.length ≤ 1000) : Fword_of [tD ks, rowN ns] = some (.str (spl ks ns), [none, none]) := by
  let F : D → D := fun t => match t with
    | .int z => s1 ((allS ks).getD z.toNat 0)
    | _ => .none
  obtain ⟨o', e⟩ := lcF_map (f := e2 ixT (eVar 1) (eVar 0)) (F := F) (rest := [some (.str (sgs ks))]) (ns.map fun a : Nat => .int a) [] none
    (fun t ht => by
      obtain ⟨n, hm, rfl⟩ := List.mem_map.mp ht
      exact ev_2 (t1 := .str (sgs ks)) (t2 := .int n) rfl rfl (ixT_ok T (hn n hm)))
    (by rw [List.length_map]; exact Nat.le_trans (by show 0 + _ ≤ 1000; omega) sl1000)
  have em : (ns.map fun a : Nat => PyData.int a).map F = (ns.map fun n => (allS ks).getD n 0).map s1 := by
    rw [List.map_map, List.map_map]
    rfl
  rw [List.nil_append, em] at e
  exact fnF_rt (b := Bword_of) (en := [some (tD ks), some (rowN ns), some (.str (sgs ks))]) (ev_seq (en1 := [some (tD ks), some (rowN ns), some (.str (sgs ks))]) (ev_set (ev_call rfl rfl (signs_ok T) rfl) rfl) (ev_rt (ev_m rfl (ev_ac (ev_lc (ts := ns.map fun a : Nat => .int a) (en1 := [some (tD ks), some (rowN ns), some (.str (sgs ks))]) (ex := [o', some (.str (sgs ks))]) rfl e rfl) rfl) rfl (join_s1 (by rw [List.length_map]; exact hl)))))
theorem ofL_add (a b : List Nat) : ofL a ++ ofL b = ofL (a ++ b) := li_inj (by rw [li_app, li_ofL, li_ofL, li_ofL])
theorem add_ofL {a b : List Nat} (h : a.length + b.length ≤ 1000) : addS (.str (ofL a)) (.str (ofL b)) = some (.str (ofL (a ++ b))) := by
  rw [← ofL_add]
  exact add_str h
theorem spelt_ok (T : TOk ks) {ns : List Nat} (hn : ∀ n ∈ ns, n < (allS ks).length) (hl : ns.length ≤ 999) : F_law_spelt [tD ks, rowN ns] = some (.str (spl ks ns), [none, none]) := by
  have key : ∀ (q : List Nat) (acc : List Nat) (x : Option D), (∀ n ∈ q, n < (allS ks).length) → acc.length + q.length ≤ 999 → ∃ y, forF (gN 4) (sSet 3 (e2 addS (eVar 3) (e2 ixT (eVar 2) (eVar 4)))) (q.map fun a : Nat => .int a) [some (tD ks), some (rowN ns), some (.str (sgs ks)), some (.str (ofL acc)), x] = some (.nx [some (tD ks), some (rowN ns), some (.str (sgs ks)), some (.str (ofL (acc ++ q.map fun n => (allS ks).getD n 0))), y]) := by
    intro q
    induction q with
    | nil => exact fun acc x _ _ => ⟨x, by simp only [List.map_nil, List.append_nil]; rfl⟩
    | cons a q ih =>
      intro acc x hq hl
      rw [List.length_cons] at hl
      obtain ⟨y, e⟩ := ih (acc ++ [(allS ks).getD a 0]) (some (.int a)) (fun n h => hq n (List.mem_cons_of_mem _ h)) (by rw [List.length_append]; show acc.length + 1 + q.length ≤ 999; omega)
      refine ⟨y, ?_⟩
      have st : sSet 3 (e2 addS (eVar 3) (e2 ixT (eVar 2) (eVar 4))) [some (tD ks), some (rowN ns), some (.str (sgs ks)), some (.str (ofL acc)), some (.int a)] = some (.nx [some (tD ks), some (rowN ns), some (.str (sgs ks)), some (.str (ofL (acc ++ [(allS ks).getD a 0]))), some (.int a)]) :=
        ev_set (ev_2 (t1 := .str (ofL acc)) (t2 := .str (ofL [(allS ks).getD a 0])) rfl (ev_2 (t1 := .str (sgs ks)) (t2 := .int a) rfl rfl (ixT_ok T (hq a List.mem_cons_self))) (add_ofL (by show acc.length + 1 ≤ 1000; omega))) rfl
      show (sSet 3 (e2 addS (eVar 3) (e2 ixT (eVar 2) (eVar 4))) [some (tD ks), some (rowN ns), some (.str (sgs ks)), some (.str (ofL acc)), some (.int a)]).bind _ = _
      rw [st]
      show forF _ _ _ _ = _
      rw [e, List.append_assoc]
      rfl
  obtain ⟨y, e⟩ := key ns [] none hn (by show 0 + _ ≤ _; omega)
  exact fnF_rt (b := B_law_spelt) (en := [some (tD ks), some (rowN ns), some (.str (sgs ks)), some (.str (spl ks ns)), y]) (ev_seq (en1 := [some (tD ks), some (rowN ns), some (.str (sgs ks)), none, none]) (ev_set (ev_m rfl (ev_ac rfl rfl) rfl (join_str (by have := T.l12; omega) (by have := T.n4; omega))) rfl) (ev_seq (en1 := [some (tD ks), some (rowN ns), some (.str (sgs ks)), some (.str (ofL [])), none]) rfl (ev_seq (ev_for (ts := ns.map fun a : Nat => .int a) (en1 := [some (tD ks), some (rowN ns), some (.str (sgs ks)), some (.str (ofL [])), none]) rfl e) rfl)))
end
end W02
set_option Elab.async false
set_option linter.all false
set_option maxRecDepth 100000
set_option maxHeartbeats 4000000
namespace W02
open PySem L2 Pen3
theorem ints_map : ∀ xs : List Int, intsOf (xs.map .int) = some xs
  | [] => rfl
  | x :: xs => by
    show (intsOf (xs.map .int)).map (x :: ·) = _
    rw [ints_map xs]
    rfl
theorem lens_sum : ∀ ks : List Str, (ks.map fun k => ((li k).length : Int)).sum = ((allS ks).length : Int)
  | [] => rfl
  | k :: ks => by
    rw [List.map_cons, List.sum_cons, lens_sum ks, allS_cons, List.length_append]
    omega
theorem kind_le : ∀ {ks : List Str} {k : Str}, k ∈ ks → (li k).length ≤ (allS ks).length
  | a :: ks, k, h => by
    rw [allS_cons, List.length_append]
    rcases List.mem_cons.mp h with rfl | h
    · omega
    · have := kind_le h
      omega
section
variable {ks : List Str}
theorem allS_pos (T : TOk ks) : 1 ≤ (allS ks).length := by
  have h := T.n1
  have h2 := T.fu _ (List.getElem_mem (show 0 < ks.length by omega))
  have h3 := kind_le (List.getElem_mem (show 0 < ks.length by omega))
  omega
theorem lrow_ok (T : TOk ks) {p : D} (hp : IsPen p) {mo : Nat} (hm : mo ≤ 200) : ∃ (ns : List Nat) (p' : D), F_law_row [p, tD ks, .int mo] = some (rowN ns, [some p', none, none]) ∧ (∀ n ∈ ns, n < (allS ks).length) ∧ ns.length ≤ mo ∧ IsPen p' := by
  have l12 := T.l12
  have n4 := T.n4
  have pos := allS_pos T
  let F : D → D := fun t => match t with
    | .str z => .int ((li z).length : Int)
    | _ => .none
  obtain ⟨o', e⟩ := lcF_map (f := eN lenD (aCons (eVar 0) aNil)) (F := F) (rest := []) (ks.map .str) [] none
    (fun t ht => by
      obtain ⟨k, hk, rfl⟩ := List.mem_map.mp ht
      exact ev_n rfl rfl (len_str (by have := kind_le hk; omega)))
    (by rw [List.length_map]; exact Nat.le_trans (by show 0 + _ ≤ 1000; omega) sl1000)
  have em : (ks.map PyData.str).map F = (ks.map fun k => ((li k).length : Int)).map .int := by
    rw [List.map_map, List.map_map]
    rfl
  rw [List.nil_append, em] at e
  have sm : sumD [.list ((ks.map fun k => ((li k).length : Int)).map .int)] = some (.int (allS ks).length) := by
    show (intsOf _).map _ = _
    rw [ints_map]
    show some (PyData.int _) = _
    rw [lens_sum]
  let E (p : D) (a b : Option D) : En := [some p, some (tD ks), some (.int mo), a, b]
  let W : Option D := some (.int (allS ks).length)
  obtain ⟨r1, p1, e1', a0, a1, hp1⟩ := ev_draw (p := p) (m := (mo : Int) + 1) (i := 0) (en := E p W none) (fa := aSlot 0 (aCons (e2 addS (eVar 2) (eC (.int 1))) aNil)) rfl hp rfl (by omega) (by omega)
  obtain ⟨r2, p2, e2', b0, b1, hp2⟩ := ev_draw (p := p1) (m := 9) (i := 0) (en := E p1 W none) (fa := aSlot 0 (aCons (eC (.int 9)) aNil)) rfl hp1 rfl (by decide) (by decide)
  obtain ⟨r3, p3, e3', c0, c1, hp3⟩ := ev_draw (p := p2) (m := 3) (i := 0) (en := E p2 W none) (fa := aSlot 0 (aCons (eC (.int 3)) aNil)) rfl hp2 rfl (by decide) (by decide)
  obtain ⟨z, hz, z0⟩ : ∃ z : Nat, ixA (.list [.int mo, .int r1, .int r2]) (.int r3) = some (.int z) ∧ z ≤ 1000 := by
    by_cases w0 : r3 = 0
    · subst w0
      exact ⟨mo, rfl, by omega⟩
    · by_cases w1 : r3 = 1
      · subst w1
        refine ⟨r1.toNat, ?_, by omega⟩
        rw [Int.toNat_of_nonneg (by omega)]
        rfl
      · have w2 : r3 = 2 := by omega
        subst w2
        refine ⟨r2.toNat, ?_, by omega⟩
        rw [Int.toNat_of_nonneg (by omega)]
        rfl
  obtain ⟨q, hq, q1⟩ : ∃ q : Nat, min2D [.int z, .int mo] = some (.int q) ∧ q ≤ mo := by
    by_cases h : (mo : Int) < (z : Int)
    · refine ⟨mo, ?_, Nat.le_refl _⟩
      show some (PyData.int (if (mo : Int) < (z : Int) then (mo : Int) else z)) = _
      rw [if_pos h]
    · refine ⟨z, ?_, by omega⟩
      show some (PyData.int (if (mo : Int) < (z : Int) then (mo : Int) else z)) = _
      rw [if_neg h]
  have hl : ((List.range q).map fun k => PyData.int (0 + (k : Nat))).length = q := by rw [List.length_map, List.length_range]
  obtain ⟨us, ex, f1, ⟨o, p4, rfl, hp4⟩, a⟩ := lcF_all (N := q) (g := gN 0) (c := cY) (f := eCall W02.F_law_draw (aSlot 1 (aCons (eVar 2) aNil)))
    (fun n en => ∃ o p, en = [o, some p, W] ∧ IsPen p) (fun _ q => ∃ o : Nat, q = .int o ∧ o < (allS ks).length)
    (fun n t en hn ⟨o, p, he, hp⟩ => by
      subst he
      obtain ⟨r, p', e, r0, r1, hp'⟩ := ev_draw (p := p) (m := (allS ks).length) (i := 1) (en := [some t, some p, W]) (fa := aSlot 1 (aCons (eVar 2) aNil)) rfl hp rfl (by omega) (by omega)
      exact ⟨[some t, some p, W], [some t, some p, W], .int r, [some t, some p', W], rfl, rfl, e, ⟨some t, p', rfl, hp'⟩, r.toNat, by rw [Int.toNat_of_nonneg r0], by omega⟩)
    ((List.range q).map fun k => .int (0 + (k : Nat))) [] 0 (blkEn [none, some 0, some 3] (E p3 W (some (.int z)))) ⟨none, p3, rfl, hp3⟩ (by rw [hl]; omega) (by rw [hl]; show 0 + q ≤ _; exact Nat.le_trans (by omega) sl1000)
  obtain ⟨os, rfl, o1, o2⟩ := All2.ex (h := fun a : Nat => PyData.int a) a
  rw [hl] at o1
  refine ⟨os, p4, ?_, o2, by omega, hp4⟩
  exact fnF_rt (b := B_law_row) (en := E p4 W (some (.int z)))
    (ev_seq (en1 := E p W none) (ev_set (ev_n (ev_ac (ev_lc (ts := ks.map .str) (en1 := E p none none) (ex := [o']) rfl e rfl) rfl) rfl sm) rfl)
    (ev_seq (en1 := E p3 W (some (.int z))) (ev_set (ev_2 (t1 := .list [.int mo, .int r1, .int r2]) (t2 := .int r3) (en1 := E p2 W none) (ev_lst (ev_ac (en1 := E p W none) rfl (ev_ac (en1 := E p1 W none) e1' (ev_ac (en1 := E p2 W none) e2' rfl))) rfl (Nat.le_trans (by show 3 ≤ 1000; decide) sl1000)) e3' hz) rfl)
    (ev_rt (ev_lc (en1 := E p3 W (some (.int z))) (ex := [o, some p4, W]) (Mch.ev_rng1 (n := q) (ev_ac (ev_n (ts := [.int z, .int mo]) rfl rfl hq) rfl) (by omega)) f1 rfl))))
theorem whole_ok (i : Int) : F_law_whole [.int i] = some (.bool true, [none]) := rfl
theorem rep_ok {t : D} (h1 : noDict t = true) (h2 : t.showable = true) (h3 : t.depth ≤ 60) (h4 : t.leavesShort 13 = true) (h5 : t.weight ≤ 2 ^ 20) : reprD [t] = some (.str t.shown) := by
  have h6 := PyData.shown_fits (B := 13) (by decide) (by decide) h4 h5
  cases t with
  | dict _ => simp [noDict] at h1
  | none => exact (by show grd _ _ = _; unfold grd; rw [if_pos ⟨h1, h2, h3, h6⟩])
  | bool b => exact (by show grd _ _ = _; unfold grd; rw [if_pos ⟨h1, h2, h3, h6⟩])
  | int i => exact (by show grd _ _ = _; unfold grd; rw [if_pos ⟨h1, h2, h3, h6⟩])
  | str z => exact (by show grd _ _ = _; unfold grd; rw [if_pos ⟨h1, h2, h3, h6⟩])
  | list ts => exact (by show grd _ _ = _; unfold grd; rw [if_pos ⟨h1, h2, h3, h6⟩])
  | tuple ts => exact (by show grd _ _ = _; unfold grd; rw [if_pos ⟨h1, h2, h3, h6⟩])
theorem rep_str {z : Str} (hc : ∀ c ∈ li z, c < 1000) (hl : (li z).length ≤ 1000) : reprD [.str z] = some (.str (PyData.str z).shown) := by
  refine rep_ok rfl rfl (Nat.zero_le _) ?_ ?_
  · show (li z).all _ = true
    exact List.all_eq_true.mpr fun c h => decide_eq_true (Nat.lt_of_lt_of_le (hc c h) (by decide))
  · show z.cps.size ≤ 2 ^ 20
    exact Nat.le_trans (by rw [← Array.length_toList]; exact hl) (by decide)
theorem eq_str (z : Str) : eqD (.str z) (.str z) = some (.bool true) := eq_same rfl (Nat.zero_le _)
theorem ne_same {t : D} (hn : noDict t = true) (hd : dpth t ≤ 60) : neD t t = some (.bool false) := by
  show grd _ (PyData.bool (!peq t t)) = _
  rw [peq_refl _ hn]
  exact if_pos ⟨hn, hn, hd⟩
theorem signs_right_ok (T : TOk ks) : F_law_signs_right [tD ks] = some (.bool true, [none]) := by
  have l12 := T.l12
  let E (tx : List Nat) (a b c d : Option D) : En := [some (tD ks), some (.str (ofL tx)), a, b, c, d]
  let inb : MS := sSeq (sSet 1 (e2 addS (eVar 1) (eVar 4)))
    (sSeq (sSet 5 (eCall Fkind_of (aCons (eVar 0) (aCons (eVar 4) aNil))))
    (sIf (bOr (bNot (tV (eCall F_law_whole (aCons (eVar 5) aNil)))) (tV (e2 neD (eVar 5) (eVar 2)))) (sRet (eC (.bool false))) sNil))
  obtain ⟨en', ef, a, b, c, d, rfl⟩ := forF_all (g := gT (gsC (gN 2) (gsC (gN 3) gs0))) (b := sFor (iAny (eVar 3)) (gN 4) inb) (ts := enumD (ks.map .str)) (fun i en => ∃ a b c d, en = E (allS (ks.take i)) a b c d)
    (fun i t en ht ⟨a, b, c, d, he⟩ => by
      subst he
      obtain ⟨t', h1, rfl⟩ := enumD_get ht
      rw [List.getElem?_map] at h1
      obtain ⟨k, hk, rfl⟩ := Option.map_eq_some_iff.mp h1
      have hkm := List.mem_of_getElem? hk
      have kl := kind_le hkm
      have hi : i < ks.length := (List.getElem?_eq_some_iff.mp hk).1
      have tk : allS (ks.take i) ++ li k = allS (ks.take (i + 1)) := by
        rw [List.take_succ, hk, ← allS_snoc]
        rfl
      have tl : (allS (ks.take (i + 1))).length ≤ (allS ks).length := by
        have h2 : allS ks = allS (ks.take (i + 1)) ++ allS (ks.drop (i + 1)) := by
          show (ks.map li).flatten = ((ks.take (i + 1)).map li).flatten ++ ((ks.drop (i + 1)).map li).flatten
          rw [← List.flatten_append, ← List.map_append, List.take_append_drop]
        rw [h2, List.length_append]
        omega
      rw [← tk, List.length_append] at tl
      obtain ⟨en2, ei, c', d', hx'⟩ := forF_all (g := gN 4) (b := inb) (ts := (li k).map s1) (fun j en => ∃ c d, en = E (allS (ks.take i) ++ (li k).take j) (some (.int (i : Nat))) (some (.str k)) c d)
        (fun j t en ht ⟨c, d, he⟩ => by
          subst he
          rw [List.getElem?_map] at ht
          obtain ⟨x, hx, rfl⟩ := Option.map_eq_some_iff.mp ht
          have xj : (allS (ks.take i) ++ (li k).take j) ++ [x] = allS (ks.take i) ++ (li k).take (j + 1) := by
            rw [List.take_succ, hx, List.append_assoc]
            rfl
          have jl : ((li k).take j).length ≤ (li k).length := by rw [List.length_take]; omega
          refine ⟨E (allS (ks.take i) ++ (li k).take j) (some (.int (i : Nat))) (some (.str k)) (some (s1 x)) d, E (allS (ks.take i) ++ (li k).take (j + 1)) (some (.int (i : Nat))) (some (.str k)) (some (s1 x)) (some (.int (i : Nat))), rfl, .inl ?_, _, _, rfl⟩
          refine ev_seq (en1 := E (allS (ks.take i) ++ (li k).take (j + 1)) (some (.int (i : Nat))) (some (.str k)) (some (s1 x)) d) (ev_set (ev_2 (t1 := .str (ofL (allS (ks.take i) ++ (li k).take j))) (t2 := .str (ofL [x])) rfl rfl (add_ofL (by rw [List.length_append]; show _ + _ + 1 ≤ 1000; omega))) (by rw [xj]; rfl))
            (ev_seq (en1 := E (allS (ks.take i) ++ (li k).take (j + 1)) (some (.int (i : Nat))) (some (.str k)) (some (s1 x)) (some (.int (i : Nat)))) (ev_set (ev_call rfl rfl (kind_ok T.nd hk (List.mem_of_getElem? hx)) rfl) rfl)
            (ev_ifF (b := false) (ev_orF (b := false) (en1 := E (allS (ks.take i) ++ (li k).take (j + 1)) (some (.int (i : Nat))) (some (.str k)) (some (s1 x)) (some (.int (i : Nat)))) (ev_not (b := true) (ev_tv (ev_call rfl rfl (whole_ok _) rfl))) rfl (ev_tv (ev_2 rfl rfl (ne_same rfl (Nat.zero_le _))))) rfl rfl)))
        (en := E (allS (ks.take i)) (some (.int (i : Nat))) (some (.str k)) c d) ⟨c, d, by rw [List.take_zero, List.append_nil]⟩
      subst hx'
      rw [List.length_map, List.take_length, tk] at ei
      exact ⟨E (allS (ks.take i)) (some (.int (i : Nat))) (some (.str k)) c d, E (allS (ks.take (i + 1))) (some (.int (i : Nat))) (some (.str k)) c' d', rfl, .inl (ev_for (ts := (li k).map s1) rfl ei), _, _, _, _, rfl⟩)
    (en := E [] none none none none) ⟨none, none, none, none, rfl⟩
  have el : (enumD (ks.map .str)).length = ks.length := by unfold enumD; rw [List.length_map, List.length_zipIdx, List.length_map]
  rw [el, List.take_length] at ef
  have rp := rep_str (z := sgs ks) (fun c hc => by have := ev_code c (T.mem c hc); omega) (by show (allS ks).length ≤ 1000; omega)
  exact fnF_rt (b := B_law_signs_right) (en := E (allS ks) a b c d) (ev_seq (en1 := E [] none none none none) rfl (ev_seq (ev_for (ts := enumD (ks.map .str)) (en1 := E [] none none none none) rfl ef) (ev_rt (ev_2 (ev_n (ts := [.str (sgs ks)]) (ev_ac (ev_call rfl rfl (signs_ok T) rfl) rfl) rfl rp) (ev_n (ts := [.str (sgs ks)]) rfl rfl rp) (eq_str _)))))
end
end W02
set_option Elab.async false
set_option linter.all false
set_option maxRecDepth 100000
set_option maxHeartbeats 400000
namespace W02
open PySem L2 Pen3
theorem noDicts_map {α : Type} (f : α → D) (h : ∀ a, noDict (f a) = true) : ∀ xs : List α, noDicts (xs.map f) = true
  | [] => rfl
  | a :: r => by simp only [List.map_cons, noDicts, h a, noDicts_map f h r, Bool.and_self]
theorem dpths_map {α : Type} (f : α → D) {n : Nat} (h : ∀ a, dpth (f a) ≤ n) : ∀ xs : List α, dpths (xs.map f) ≤ n
  | [] => Nat.zero_le _
  | a :: r => by
    simp only [List.map_cons, dpths]
    exact Nat.max_le.mpr ⟨h a, dpths_map f h r⟩
theorem row_nd (ns : List Nat) : noDict (rowN ns) = true ∧ dpth (rowN ns) ≤ 60 := by
  have h1 : noDicts (ns.map fun a : Nat => PyData.int a) = true := noDicts_map _ (fun _ => rfl) ns
  have h2 : dpths (ns.map fun a : Nat => PyData.int a) ≤ 0 := dpths_map (fun a : Nat => PyData.int a) (fun _ => Nat.le_refl _) ns
  refine ⟨by simp only [rowN, noDict, h1], ?_⟩
  simp only [rowN, dpth]
  omega
theorem flat_parts {α : Type} (f : α → D) (h1 : ∀ a, (f a).showable = true) (h2 : ∀ a, (f a).leavesShort 13 = true) (h3 : ∀ a, (f a).depth = 0) (h4 : ∀ a, (f a).weight ≤ 20) : ∀ xs : List α, PyData.showableAll (xs.map f) = true ∧ PyData.leavesShortAll 13 (xs.map f) = true ∧ PyData.depthAll (xs.map f) = 0 ∧ PyData.weightAll (xs.map f) ≤ 21 * xs.length
  | [] => ⟨rfl, rfl, rfl, Nat.le_refl _⟩
  | a :: r => by
    obtain ⟨a1, a2, a3, a4⟩ := flat_parts f h1 h2 h3 h4 r
    simp only [List.map_cons, PyData.showableAll, PyData.leavesShortAll, PyData.depthAll, PyData.weightAll, h1 a, h2 a, h3 a, a1, a2, a3, List.length_cons, Bool.and_self, Nat.max_self, true_and]
    have := h4 a
    omega
theorem rep_row {ns : List Nat} (hn : ∀ n ∈ ns, n < 12) (hl : ns.length ≤ 1000) : reprD [rowN ns] = some (.str (rowN ns).shown) := by
  have e : rowN ns = .list (ns.map fun a : Nat => .int ((a % 12 : Nat) : Int)) := by
    unfold rowN
    congr 1
    refine List.map_congr_left fun a ha => ?_
    rw [Nat.mod_eq_of_lt (hn a ha)]
  obtain ⟨a1, a2, a3, a4⟩ := flat_parts (fun a : Nat => PyData.int ((a % 12 : Nat) : Int))
    (fun a => by
      have h : ∀ b : Nat, b < 12 → (PyData.int (b : Int)).showable = true := by decide +kernel
      exact h _ (Nat.mod_lt _ (by decide)))
    (fun a => by
      have h : ∀ b : Nat, b < 12 → (PyData.int (b : Int)).leavesShort 13 = true := by decide +kernel
      exact h _ (Nat.mod_lt _ (by decide)))
    (fun a => rfl)
    (fun a => by
      have h : ∀ b : Nat, b < 12 → (PyData.int (b : Int)).weight ≤ 20 := by decide +kernel
      exact h _ (Nat.mod_lt _ (by decide))) ns
  rw [e]
  refine rep_ok ?_ ?_ ?_ ?_ ?_
  · simp only [noDict]
    exact noDicts_map _ (fun _ => rfl) ns
  · simp only [PyData.showable]; exact a1
  · simp only [PyData.depth, a3]; omega
  · simp only [PyData.leavesShort]; exact a2
  · simp only [PyData.weight]
    exact Nat.le_trans a4 (Nat.le_trans (show 21 * ns.length ≤ 21000 by omega) (by decide))
section
variable {ks js : List Str}
theorem spl_sub {ns : List Nat} (h : ∀ n ∈ ns, n < (allS ks).length) : ∀ c ∈ li (spl ks ns), c ∈ allS ks := fun c hc => by
  have hc' : c ∈ ns.map fun n => (allS ks).getD n 0 := hc
  obtain ⟨n, hn, rfl⟩ := List.mem_map.mp hc'
  have hlt := h n hn
  rw [List.getD_eq_getElem?_getD, List.getElem?_eq_getElem hlt]
  exact List.getElem_mem hlt
theorem spl_idx (T : TOk ks) {ns : List Nat} (h : ∀ n ∈ ns, n < (allS ks).length) : (li (spl ks ns)).map (fun c => (allS ks).idxOf c) = ns := by
  show ((ns.map fun n => (allS ks).getD n 0).map fun c => (allS ks).idxOf c) = ns
  rw [List.map_map]
  refine (List.map_congr_left fun n hn => ?_).trans (List.map_id ns)
  show (allS ks).idxOf ((allS ks).getD n 0) = n
  refine idx_nodup T.nd ?_
  rw [List.getD_eq_getElem?_getD, List.getElem?_eq_getElem (h n hn)]
  rfl
theorem spl_len {ns : List Nat} : (li (spl ks ns)).length = ns.length := List.length_map _
theorem idx_first {j0 : Str} {js : List Str} (nd : (allS (j0 :: js)).Nodup) : ((li j0).map fun c => (allS (j0 :: js)).idxOf c) = List.range (li j0).length := by
  refine List.ext_getElem? fun i => ?_
  rw [List.getElem?_map]
  by_cases hi : i < (li j0).length
  · rw [List.getElem?_eq_getElem hi, List.getElem?_range hi]
    have e : (allS (j0 :: js))[i]? = some (li j0)[i] := by
      show (li j0 ++ allS js)[i]? = _
      rw [List.getElem?_append_left hi, List.getElem?_eq_getElem hi]
    show some ((allS (j0 :: js)).idxOf (li j0)[i]) = _
    rw [idx_nodup nd e]
  · rw [List.getElem?_eq_none (by omega), List.getElem?_eq_none (by rw [List.length_range]; omega)]
    rfl
theorem codes (T : TOk ks) : ∀ c ∈ allS ks, c < 1000 := fun c hc => by have := ev_code c (T.mem c hc); omega
theorem rows_right_ok (T : TOk ks) (U : TOk js) {ns : List Nat} (hn : ∀ n ∈ ns, n < (allS ks).length) (hl : ns.length ≤ 60) : F_law_rows_right [tD ks, rowN ns, tD js] = some (.bool true, [none, none, none]) := by
  have l12 := T.l12
  have k12 := U.l12
  let w := spl ks ns
  let E (h a b : Option D) : En := [some (tD ks), some (rowN ns), some (tD js), some (.str w), h, a, b]
  have hw : (li w).length ≤ 1000 := by rw [spl_len]; omega
  have rw1 := rep_str (z := w) (fun c hc => codes T c (spl_sub hn c hc)) hw
  have rw2 := rep_row (ns := ns) (fun n h => by have := hn n h; omega) (by omega)
  obtain ⟨j0, jt, rfl⟩ : ∃ j0 jt, js = j0 :: jt := by
    cases js with
    | nil => have h := U.n1; simp at h
    | cons a b => exact ⟨a, b, rfl⟩
  have j0l : (li j0).length ≤ 12 := by have := kind_le (ks := j0 :: jt) List.mem_cons_self; omega
  have rj := row_ok U (w := j0) (fun c hc => mem_allS List.mem_cons_self hc) (by omega)
  rw [idx_first U.nd] at rj
  have rt := row_ok T (w := w) (spl_sub hn) hw
  rw [spl_idx T hn] at rt
  have n1 : ∀ z : Str, neD (.str z) (.str z) = some (.bool false) := fun z => ne_same rfl (Nat.zero_le _)
  have rows0 : ∀ m : Nat, ((List.range m).map fun k => PyData.int (0 + (k : Nat))) = (List.range m).map fun a : Nat => PyData.int a := fun m => List.map_congr_left fun k _ => by rw [Int.zero_add]
  have ix0 : ixA (tD (j0 :: jt)) (.int 0) = some (.str j0) := by
    show atI ((j0 :: jt).map PyData.str) ((0 : Nat) : Int) = _
    exact atI_nat rfl
  obtain ⟨en', ef, a, b, rfl⟩ := forF_all (g := gN 5) (b := sSeq (sSet 6 (eCall Frow_of (aCons (eVar 0) (aCons (eVar 3) aNil))))
  (sSeq (sIf (bOr (bNot (tV (e1 (isiD "list") (eVar 6)))) (tV (e2 neD (eN reprD (aCons (eVar 6) aNil)) (eN reprD (aCons (eVar 1) aNil))))) (sRet (eC (.bool false))) sNil)
  (sSeq (sExp (eRev 6))
  (sSeq (sExp (eApp 6 (eC (.int 0))))
  (sIf (tV (e2 neD (eCall Frow_of (aCons (eVar 2) (aCons (e2 ixA (eVar 2) (eC (.int 0))) aNil))) (eLC true (iRng1f (aCons (eN lenD (aCons (e2 ixA (eVar 2) (eC (.int 0))) aNil)) aNil)) (gN 0) cY (eVar 0) [none]))) (sRet (eC (.bool false))) sNil))))) (ts := (List.range 2).map fun k => .int (0 + (k : Nat))) (fun _ en => ∃ a b, en = E (some (.list (ns.map (fun a : Nat => PyData.int a) ++ [.int 0]))) a b)
    (fun i t en ht ⟨a, b, he⟩ => by
      subst he
      let H : Option D := some (.list (ns.map (fun a : Nat => PyData.int a) ++ [.int 0]))
      obtain ⟨o', e⟩ := lcF_map (f := eVar 0) (F := id) (rest := []) ((List.range (li j0).length).map fun k => .int (0 + (k : Nat))) [] none (fun t _ => rfl) (by rw [List.length_map, List.length_range]; exact Nat.le_trans (by show 0 + _ ≤ 1000; omega) sl1000)
      rw [List.nil_append, List.map_id] at e
      have lc0 : ∀ x y, eLC true (iRng1f (aCons (eN lenD (aCons (e2 ixA (eVar 2) (eC (.int 0))) aNil)) aNil)) (gN 0) cY (eVar 0) [none] (E H x y) = some (.list ((List.range (li j0).length).map fun k => .int (0 + (k : Nat))), E H x y) := fun x y =>
        ev_lc (en1 := E H x y) (ex := [o']) (Mch.ev_rng1 (n := (li j0).length) (en1 := E H x y) (ev_ac (t := .int (li j0).length) (en1 := E H x y) (ev_n (ts := [.str j0]) (ev_ac (ev_2 (t1 := tD (j0 :: jt)) (t2 := .int 0) rfl rfl ix0) rfl) rfl (len_str (by omega))) rfl) (by omega)) e rfl
      rw [rows0] at lc0
      let R : List D := (ns.map fun a : Nat => PyData.int a).reverse
      refine ⟨E H (some t) b, E H (some t) (some (.list (R ++ [.int 0]))), rfl, .inl ?_, _, _, rfl⟩
      refine ev_seq (en1 := E H (some t) (some (rowN ns))) (ev_set (ev_call rfl rfl rt rfl) rfl)
        (ev_seq (en1 := E H (some t) (some (rowN ns))) (ev_ifF (b := false) (ev_orF (b := false) (en1 := E H (some t) (some (rowN ns))) rfl rfl (ev_tv (ev_2 (ev_n (ts := [rowN ns]) rfl rfl rw2) (ev_n (ts := [rowN ns]) rfl rfl rw2) (n1 _)))) rfl rfl)
        (ev_seq (en1 := E H (some t) (some (.list R))) rfl
        (ev_seq (en1 := E H (some t) (some (.list (R ++ [.int 0])))) (ev_exp (ev_app (ts := R) (us := R) rfl rfl rfl (by rw [List.length_reverse, List.length_map]; exact Nat.lt_of_lt_of_le (by omega) sl1000) rfl))
        (ev_ifF (b := false) (ev_tv (ev_2 (t1 := rowN (List.range (li j0).length)) (t2 := rowN (List.range (li j0).length)) (en1 := E H (some t) (some (.list (R ++ [.int 0])))) (ev_call (as := [.inl (tD (j0 :: jt)), .inl (.str j0)]) (en1 := E H (some t) (some (.list (R ++ [.int 0])))) (ev_ac rfl (ev_ac (ev_2 (t1 := tD (j0 :: jt)) (t2 := .int 0) rfl rfl ix0) rfl)) rfl rj rfl) (lc0 _ _) (ne_same (row_nd _).1 (row_nd _).2))) rfl rfl)))))
    (en := E (some (.list (ns.map (fun a : Nat => PyData.int a) ++ [.int 0]))) none none) ⟨none, none, rfl⟩
  have rg : iRng1f (aCons (eC (.int 2)) aNil) (E (some (.list (ns.map (fun a : Nat => PyData.int a) ++ [.int 0]))) none none) = some ((List.range 2).map fun k => .int (0 + (k : Nat)), E (some (.list (ns.map (fun a : Nat => PyData.int a) ++ [.int 0]))) none none) := Mch.ev_rng1 (n := 2) rfl (by decide)
  refine fnF_rt (b := B_law_rows_right) (en := E (some (.list (ns.map (fun a : Nat => PyData.int a) ++ [.int 0]))) a b)
    (ev_seq (en1 := E none none none) (ev_set (ev_call (as := [.inl (tD ks), .inl (rowN ns)]) (en1 := [some (tD ks), some (rowN ns), some (tD (j0 :: jt)), none, none, none, none]) rfl rfl (spelt_ok T hn (by omega)) rfl) rfl)
    (ev_seq (en1 := E (some (rowN ns)) none none) (ev_set (ev_n (ts := [rowN ns]) rfl rfl rfl) rfl)
    (ev_seq (en1 := E (some (rowN ns)) none none) (ev_ifF (b := false) (ev_orF (b := false) (en1 := E (some (rowN ns)) none none) (ev_tv (ev_2 (ev_n (ts := [.str w]) (ev_ac (ev_call rfl rfl (word_ok T hn (by omega)) rfl) rfl) rfl rw1) (ev_n (ts := [.str w]) rfl rfl rw1) (n1 _))) rfl (ev_tv (ev_2 (t1 := rowN ns) (t2 := rowN ns) rfl rfl (ne_same (row_nd _).1 (row_nd _).2)))) rfl rfl)
    (ev_seq (en1 := E (some (.list (ns.map (fun a : Nat => PyData.int a) ++ [.int 0]))) none none) (ev_exp (ev_app (ts := ns.map fun a : Nat => PyData.int a) (us := ns.map fun a : Nat => PyData.int a) rfl rfl rfl (by rw [List.length_map]; exact Nat.lt_of_lt_of_le (by omega) sl1000) rfl))
    ?_))))
  exact ev_seq (ev_for rg ef) rfl
end
end W02
set_option Elab.async false
set_option linter.all false
set_option maxRecDepth 100000
set_option maxHeartbeats 800000
namespace W02
open PySem L2 Pen3
def wB (A : List Nat) (z : Str) : Bool := decide ((li z).length ≤ 60) && (li z).all fun c => decide (c ∈ A)
theorem bools_map : ∀ bs : List Bool, boolsOf (bs.map .bool) = some bs
  | [] => rfl
  | b :: bs => by
    show (boolsOf (bs.map .bool)).map (b :: ·) = _
    rw [bools_map bs]
    rfl
section
variable {ks : List Str}
theorem isword_str (T : TOk ks) {z : Str} (hl : (li z).length ≤ 1000) : Fis_word [tD ks, .str z] = some (.bool (wB (allS ks) z), [none, none]) := by
  have c1 : bOr (bNot (tV (e1 (isiD "str") (eVar 1)))) (tV (e2 gtI (eN lenD (aCons (eVar 1) aNil)) (eC (.int 60)))) [some (tD ks), some (.str z), none] = some (decide ((60 : Int) < (li z).length), [some (tD ks), some (.str z), none]) :=
    ev_orF (b := false) (en1 := [some (tD ks), some (.str z), none]) rfl rfl (ev_tv (ev_2 (ev_n (ts := [.str z]) rfl rfl (len_str hl)) rfl rfl))
  by_cases h60 : (60 : Int) < (li z).length
  · have w : wB (allS ks) z = false := by unfold wB; rw [decide_eq_false (by omega), Bool.false_and]
    rw [w]
    exact fnF_rt (b := Bis_word) (en := [some (tD ks), some (.str z), none]) (ev_ret (ev_ifT c1 (decide_eq_true h60) rfl))
  · have w : wB (allS ks) z = (li z).all fun c => decide (c ∈ allS ks) := by unfold wB; rw [decide_eq_true (by omega), Bool.true_and]
    rw [w]
    let F : D → D := fun t => match t with
      | .str x => .bool (decide ((li x).headD 0 ∈ allS ks))
      | _ => .none
    obtain ⟨o', e⟩ := lcF_map (f := e2 inSf (eVar 0) (eVar 1)) (F := F) (rest := [some (.str (sgs ks))]) ((li z).map s1) [] none
      (fun t ht => by
        obtain ⟨c, hc, rfl⟩ := List.mem_map.mp ht
        refine ev_2 (t1 := s1 c) (t2 := .str (sgs ks)) rfl rfl ?_
        show some (PyData.bool (inText (sgs ks) (mk1 c))) = _
        rw [inText_one]
        rfl)
      (by rw [List.length_map]; exact Nat.le_trans (by show 0 + _ ≤ 1000; omega) sl1000)
    have em : ((li z).map s1).map F = ((li z).map fun c => decide (c ∈ allS ks)).map .bool := by
      rw [List.map_map, List.map_map]
      rfl
    rw [List.nil_append, em] at e
    have al : allD [.list (((li z).map fun c => decide (c ∈ allS ks)).map .bool)] = some (.bool ((li z).all fun c => decide (c ∈ allS ks))) := by
      show (boolsOf _).map _ = _
      rw [bools_map]
      show some (PyData.bool (((li z).map fun c => decide (c ∈ allS ks)).all id)) = _
      rw [List.all_map]
      rfl
    exact fnF_rt (b := Bis_word) (en := [some (tD ks), some (.str z), some (.str (sgs ks))]) (ev_seq (en1 := [some (tD ks), some (.str z), none]) (ev_ifF c1 (decide_eq_false h60) rfl) (ev_seq (en1 := [some (tD ks), some (.str z), some (.str (sgs ks))]) (ev_set (ev_call rfl rfl (signs_ok T) rfl) rfl) (ev_rt (ev_n (ev_ac (ev_lc (ts := (li z).map s1) (en1 := [some (tD ks), some (.str z), some (.str (sgs ks))]) (ex := [o', some (.str (sgs ks))]) rfl e rfl) rfl) rfl al))))
theorem isword_non {t : D} (h : ∀ z, t ≠ .str z) : Fis_word [tD ks, t] = some (.bool false, [none, none]) := by
  cases t with
  | str z => exact absurd rfl (h z)
  | none => rfl
  | bool b => rfl
  | int i => rfl
  | list ts => rfl
  | tuple ts => rfl
  | dict ts => rfl
theorem lisword_non {t : D} (h : ∀ z, t ≠ .str z) : F_law_is_word [tD ks, t] = some (.bool false, [none, none]) := by
  cases t with
  | str z => exact absurd rfl (h z)
  | none => rfl
  | bool b => rfl
  | int i => rfl
  | list ts => rfl
  | tuple ts => rfl
  | dict ts => rfl
def kv (c : Nat) : D × D := (s1 c, .bool true)
theorem kEq_s1 (a b : Nat) : kEq (s1 a) (s1 b) = decide (a = b) := by
  show (mk1 a == mk1 b) = _
  by_cases h : a = b
  · subst h
    rw [decide_eq_true rfl]
    exact beq_self_eq_true _
  · rw [decide_eq_false h]
    exact beq_eq_false_iff_ne.mpr fun z => h (mk1_inj z)
theorem any_kv (c : Nat) : ∀ A : List Nat, (A.map kv).any (fun q => kEq q.1 (s1 c)) = decide (c ∈ A)
  | [] => rfl
  | a :: A => by
    rw [List.map_cons, List.any_cons, any_kv c A]
    show (kEq (s1 a) (s1 c) || decide (c ∈ A)) = _
    rw [kEq_s1, Bool.eq_iff_iff, Bool.or_eq_true, decide_eq_true_iff, decide_eq_true_iff, decide_eq_true_iff, List.mem_cons]
    exact ⟨fun h => h.imp Eq.symm id, fun h => h.imp Eq.symm id⟩
theorem look_kv (c : Nat) : ∀ A : List Nat, (dlook (A.map kv) (s1 c)).isSome = decide (c ∈ A)
  | [] => rfl
  | a :: A => by
    show (Option.map _ (List.find? _ (kv a :: A.map kv))).isSome = _
    rw [List.find?_cons]
    have h1 : kEq (kv a).1 (s1 c) = decide (a = c) := kEq_s1 a c
    have ih := look_kv c A
    by_cases h : a = c
    · rw [h1, decide_eq_true h]
      show true = _
      exact (decide_eq_true (List.mem_cons.mpr (.inl h.symm))).symm
    · rw [h1, decide_eq_false h]
      show (dlook (A.map kv) (s1 c)).isSome = _
      rw [ih, Bool.eq_iff_iff, decide_eq_true_iff, decide_eq_true_iff, List.mem_cons]
      exact ⟨.inr, fun z => z.elim (fun z => absurd z.symm h) id⟩
theorem put_kv {c : Nat} {A : List Nat} (h : c ∉ A) : dput (A.map kv) (s1 c) (.bool true) = (A ++ [c]).map kv := by
  unfold dput
  rw [any_kv, decide_eq_false h]
  show A.map kv ++ [(s1 c, .bool true)] = _
  rw [List.map_append]
  rfl
theorem lisword_str (T : TOk ks) {z : Str} (hl : (li z).length ≤ 1000) : F_law_is_word [tD ks, .str z] = some (.bool (wB (allS ks) z), [none, none]) := by
  have l12 := T.l12
  let E (a b c : Option D) : En := [some (tD ks), some (.str z), a, b, c]
  have c1 : bOr (bNot (tV (e1 (isiD "str") (eVar 1)))) (tV (e2 gtI (eN lenD (aCons (eVar 1) aNil)) (eC (.int 60)))) (E none none none) = some (decide ((60 : Int) < (li z).length), E none none none) :=
    ev_orF (b := false) (en1 := E none none none) rfl rfl (ev_tv (ev_2 (ev_n (ts := [.str z]) rfl rfl (len_str hl)) rfl rfl))
  by_cases h60 : (60 : Int) < (li z).length
  · have w : wB (allS ks) z = false := by unfold wB; rw [decide_eq_false (by omega), Bool.false_and]
    rw [w]
    exact fnF_rt (b := B_law_is_word) (en := E none none none) (ev_ret (ev_ifT c1 (decide_eq_true h60) rfl))
  · have w : wB (allS ks) z = (li z).all fun c => decide (c ∈ allS ks) := by unfold wB; rw [decide_eq_true (by omega), Bool.true_and]
    rw [w]
    have ink : ∀ (q A : List Nat) (y x : Option D), (A ++ q).Nodup → A.length + q.length ≤ 100 → ∃ x', forF (gN 4) (sDput 2 (eVar 4) (eC (.bool true))) (q.map s1) (E (some (.dict (A.map kv))) y x) = some (.nx (E (some (.dict ((A ++ q).map kv))) y x')) := by
      intro q
      induction q with
      | nil => exact fun A y x _ _ => ⟨x, by rw [List.append_nil]; rfl⟩
      | cons a q ih =>
        intro A y x nd hl
        rw [List.length_cons] at hl
        have na : a ∉ A := fun h => (List.nodup_append.mp nd).2.2 a h a List.mem_cons_self rfl
        have ea : (A ++ [a]) ++ q = A ++ a :: q := by rw [List.append_assoc]; rfl
        obtain ⟨x', e⟩ := ih (A ++ [a]) y (some (s1 a)) (by rw [ea]; exact nd) (by rw [List.length_append]; show A.length + 1 + q.length ≤ 100; omega)
        refine ⟨x', ?_⟩
        have st : sDput 2 (eVar 4) (eC (.bool true)) (E (some (.dict (A.map kv))) y (some (s1 a))) = some (.nx (E (some (.dict ((A ++ [a]).map kv))) y (some (s1 a)))) := by
          show (if (A.map kv).length < sizeLine then some (Fl.nx ((E (some (.dict (A.map kv))) y (some (s1 a))).set 2 (some (.dict (dput (A.map kv) (s1 a) (.bool true)))))) else none) = _
          rw [if_pos (by rw [List.length_map]; exact Nat.lt_of_lt_of_le (by omega) sl1000), put_kv na]
          rfl
        show (sDput 2 (eVar 4) (eC (.bool true)) (E (some (.dict (A.map kv))) y (some (s1 a)))).bind _ = _
        rw [st]
        show forF _ _ _ _ = _
        rw [e, ea]
    have outk : ∀ (q : List Str) (A : List Nat) (y x : Option D), (A ++ allS q).Nodup → A.length + (allS q).length ≤ 100 → ∃ y' x', forF (gN 3) (sFor (iAny (eVar 3)) (gN 4) (sDput 2 (eVar 4) (eC (.bool true)))) (q.map .str) (E (some (.dict (A.map kv))) y x) = some (.nx (E (some (.dict ((A ++ allS q).map kv))) y' x')) := by
      intro q
      induction q with
      | nil => exact fun A y x _ _ => ⟨y, x, by rw [show allS [] = [] from rfl, List.append_nil]; rfl⟩
      | cons k q ih =>
        intro A y x nd hl
        rw [allS_cons] at nd hl
        rw [← List.append_assoc] at nd
        rw [List.length_append] at hl
        obtain ⟨x1, e1'⟩ := ink (li k) A (some (.str k)) x (List.nodup_append.mp nd).1 (by omega)
        obtain ⟨y', x', e⟩ := ih (A ++ li k) (some (.str k)) x1 nd (by rw [List.length_append]; omega)
        refine ⟨y', x', ?_⟩
        have st : (sFor (iAny (eVar 3)) (gN 4) (sDput 2 (eVar 4) (eC (.bool true)))) (E (some (.dict (A.map kv))) (some (.str k)) x) = some (.nx (E (some (.dict ((A ++ li k).map kv))) (some (.str k)) x1)) := ev_for (ts := (li k).map s1) rfl e1'
        show ((sFor (iAny (eVar 3)) (gN 4) (sDput 2 (eVar 4) (eC (.bool true)))) (E (some (.dict (A.map kv))) (some (.str k)) x)).bind _ = _
        rw [st]
        show forF _ _ _ _ = _
        rw [e, allS_cons, List.append_assoc]
    obtain ⟨y, x, e⟩ := outk ks [] none none T.nd (by show 0 + _ ≤ 100; omega)
    have lastk : ∀ (q : List Nat) (x : Option D), ∃ fl, forF (gN 4) (sIf (tV (e2 dNotIn (eVar 4) (eVar 2))) (sRet (eC (.bool false))) sNil) (q.map s1) (E (some (.dict ((allS ks).map kv))) y x) = some fl ∧ ((q.all (fun c => decide (c ∈ allS ks)) = true ∧ ∃ x', fl = .nx (E (some (.dict ((allS ks).map kv))) y x')) ∨ (q.all (fun c => decide (c ∈ allS ks)) = false ∧ ∃ x', fl = .rt (.bool false) (E (some (.dict ((allS ks).map kv))) y x'))) := by
      intro q
      induction q with
      | nil => exact fun x => ⟨_, rfl, .inl ⟨rfl, x, rfl⟩⟩
      | cons a q ih =>
        intro x
        have ni : dNotIn (s1 a) (.dict ((allS ks).map kv)) = some (.bool (!decide (a ∈ allS ks))) := by
          show some (PyData.bool (!(dlook ((allS ks).map kv) (s1 a)).isSome)) = _
          rw [look_kv]
        have c2 : tV (e2 dNotIn (eVar 4) (eVar 2)) (E (some (.dict ((allS ks).map kv))) y (some (s1 a))) = some (!decide (a ∈ allS ks), E (some (.dict ((allS ks).map kv))) y (some (s1 a))) := ev_tv (ev_2 (t1 := s1 a) (t2 := .dict ((allS ks).map kv)) rfl rfl ni)
        by_cases ha : a ∈ allS ks
        · obtain ⟨fl, q1, q2⟩ := ih (some (s1 a))
          refine ⟨fl, ?_, ?_⟩
          · show ((sIf (tV (e2 dNotIn (eVar 4) (eVar 2))) (sRet (eC (.bool false))) sNil) (E (some (.dict ((allS ks).map kv))) y (some (s1 a)))).bind _ = _
            rw [ev_ifF c2 (by rw [decide_eq_true ha]; rfl) rfl]
            exact q1
          · rw [List.all_cons, decide_eq_true ha, Bool.true_and]
            exact q2
        · refine ⟨.rt (.bool false) (E (some (.dict ((allS ks).map kv))) y (some (s1 a))), ?_, .inr ⟨by rw [List.all_cons, decide_eq_false ha, Bool.false_and], _, rfl⟩⟩
          show ((sIf (tV (e2 dNotIn (eVar 4) (eVar 2))) (sRet (eC (.bool false))) sNil) (E (some (.dict ((allS ks).map kv))) y (some (s1 a)))).bind _ = _
          rw [ev_ifT c2 (by rw [decide_eq_false ha]; rfl) rfl]
          rfl
    obtain ⟨fl, f1, f2⟩ := lastk (li z) x
    have pre : ∀ {m2 : MS} {fl : Fl}, m2 (E (some (.dict ((allS ks).map kv))) y x) = some fl → (sSeq (sIf (bOr (bNot (tV (e1 (isiD "str") (eVar 1)))) (tV (e2 gtI (eN lenD (aCons (eVar 1) aNil)) (eC (.int 60))))) (sRet (eC (.bool false))) sNil)
  (sSeq (sSet 2 eDnew)
  (sSeq (sFor (iAny (eVar 0)) (gN 3) (sFor (iAny (eVar 3)) (gN 4) (sDput 2 (eVar 4) (eC (.bool true))))) m2))) (E none none none) = some fl := fun h =>
      ev_seq (en1 := E none none none) (ev_ifF c1 (decide_eq_false h60) rfl) (ev_seq (en1 := E (some (.dict [])) none none) rfl (ev_seq (ev_for (ts := ks.map .str) (en1 := E (some (.dict [])) none none) rfl e) h))
    rcases f2 with ⟨w1, x', rfl⟩ | ⟨w1, x', rfl⟩
    · rw [w1]
      exact fnF_rt (b := B_law_is_word) (en := E (some (.dict ((allS ks).map kv))) y x') (pre (ev_seq (ev_for (ts := (li z).map s1) (en1 := E (some (.dict ((allS ks).map kv))) y x) rfl f1) rfl))
    · rw [w1]
      exact fnF_rt (b := B_law_is_word) (en := E (some (.dict ((allS ks).map kv))) y x') (pre (ev_ret (ev_for (ts := (li z).map s1) (en1 := E (some (.dict ((allS ks).map kv))) y x) rfl f1)))
end
end W02
set_option Elab.async false
set_option linter.all false
set_option maxRecDepth 100000
set_option maxHeartbeats 800000
namespace W02
open PySem L2 Pen3
def Good (t : D) : Prop := (∃ z, t = .str z ∧ (li z).length ≤ 1000 ∧ ∀ c ∈ li z, c < 1000) ∨ ((∀ z, t ≠ .str z) ∧ ∃ z, reprD [t] = some (.str z))
theorem flat_mem : ∀ xs : List D, (∀ t ∈ xs, t.showable = true ∧ t.leavesShort 13 = true ∧ t.depth = 0 ∧ t.weight ≤ 1000 ∧ noDict t = true) → PyData.showableAll xs = true ∧ PyData.leavesShortAll 13 xs = true ∧ PyData.depthAll xs = 0 ∧ PyData.weightAll xs ≤ 1001 * xs.length ∧ noDicts xs = true
  | [], _ => ⟨rfl, rfl, rfl, Nat.le_refl _, rfl⟩
  | a :: r, h => by
    obtain ⟨a1, a2, a3, a4, a5⟩ := flat_mem r fun t ht => h t (List.mem_cons_of_mem _ ht)
    obtain ⟨b1, b2, b3, b4, b5⟩ := h a List.mem_cons_self
    simp only [PyData.showableAll, PyData.leavesShortAll, PyData.depthAll, PyData.weightAll, noDicts, a1, a2, a3, a5, b1, b2, b3, b5, List.length_cons, Bool.and_self, Nat.max_self, true_and, and_true]
    omega
theorem str_flat {z : Str} (h : (li z).length ≤ 1000) (hc : ∀ c ∈ li z, c < 1000) : (PyData.str z).showable = true ∧ (PyData.str z).leavesShort 13 = true ∧ (PyData.str z).depth = 0 ∧ (PyData.str z).weight ≤ 1000 ∧ noDict (.str z) = true := by
  refine ⟨rfl, ?_, rfl, ?_, rfl⟩
  · show (li z).all _ = true
    exact List.all_eq_true.mpr fun c h => decide_eq_true (Nat.lt_of_lt_of_le (hc c h) (by decide))
  · show z.cps.size ≤ 1000
    rw [← Array.length_toList]
    exact h
theorem rep_list {xs : List D} (h : ∀ t ∈ xs, t.showable = true ∧ t.leavesShort 13 = true ∧ t.depth = 0 ∧ t.weight ≤ 1000 ∧ noDict t = true) (hl : xs.length ≤ 1000) : Good (.list xs) ∧ Good (.tuple xs) := by
  obtain ⟨a1, a2, a3, a4, a5⟩ := flat_mem xs h
  have w : PyData.weightAll xs ≤ 2 ^ 20 := Nat.le_trans a4 (Nat.le_trans (show 1001 * xs.length ≤ 1001000 by omega) (by decide))
  constructor
  · refine .inr ⟨fun z h => (nomatch h), _, rep_ok ?_ ?_ ?_ ?_ ?_⟩
    · simp only [noDict]; exact a5
    · simp only [PyData.showable]; exact a1
    · simp only [PyData.depth, a3]; omega
    · simp only [PyData.leavesShort]; exact a2
    · simp only [PyData.weight]; exact w
  · refine .inr ⟨fun z h => (nomatch h), _, rep_ok ?_ ?_ ?_ ?_ ?_⟩
    · simp only [noDict]; exact a5
    · simp only [PyData.showable]; exact a1
    · simp only [PyData.depth, a3]; omega
    · simp only [PyData.leavesShort]; exact a2
    · simp only [PyData.weight]; exact w
theorem sub_len : ∀ {cs A : List Nat}, cs.Nodup → (∀ c ∈ cs, c ∈ A) → cs.length ≤ A.length
  | [], _, _, _ => Nat.zero_le _
  | c :: cs, A, nd, h => by
    have hc := h c List.mem_cons_self
    obtain ⟨n1, n2⟩ := List.nodup_cons.mp nd
    have ih := sub_len (A := A.erase c) n2 fun x hx => (List.mem_erase_of_ne (fun z : x = c => n1 (by rw [← z]; exact hx))).mpr (h x (List.mem_cons_of_mem _ hx))
    rw [List.length_erase_of_mem hc] at ih
    have := List.length_pos_of_mem hc
    rw [List.length_cons]
    omega
theorem foldl_mem {x : Nat} : ∀ (l : List (Array Nat)) (acc : Array Nat), x ∈ (l.foldl (· ++ ·) acc).toList → x ∈ acc.toList ∨ ∃ a ∈ l, x ∈ a.toList
  | [], acc, h => .inl h
  | a :: l, acc, h => by
    rcases foldl_mem l (acc ++ a) h with h | ⟨b, hb, h⟩
    · rw [Array.toList_append] at h
      rcases List.mem_append.mp h with h | h
      · exact .inl h
      · exact .inr ⟨a, List.mem_cons_self, h⟩
    · exact .inr ⟨b, List.mem_cons_of_mem _ hb, h⟩
theorem mul_mem {x : Nat} {z : Str} {n : Int} (h : x ∈ li (Txt.mul z n)) : x ∈ li z := by
  unfold Txt.mul at h
  split at h
  · simp [li, Str.empty] at h
  · split at h
    · exact h
    · rcases foldl_mem _ _ h with h | ⟨a, ha, h⟩
      · simp at h
      · rw [(List.mem_replicate.mp ha).2] at h
        exact h
def St (n : Nat) (z : Str) : Prop := (li z).length ≤ n ∧ ∀ c ∈ li z, c < 1000
theorem St.good {n : Nat} {z : Str} (h : St n z) (hn : n ≤ 1000) : Good (.str z) := .inl ⟨z, rfl, Nat.le_trans h.1 hn, h.2⟩
theorem St.add {n m : Nat} {a b : Str} (h : St n a) (g : St m b) : St (n + m) (a ++ b) := by
  refine ⟨by rw [li_app, List.length_append]; exact Nat.add_le_add h.1 g.1, fun c hc => ?_⟩
  rw [li_app] at hc
  rcases List.mem_append.mp hc with hc | hc
  · exact h.2 c hc
  · exact g.2 c hc
theorem St.plus {n m : Nat} {a b : Str} (h : St n a) (g : St m b) (hl : n + m ≤ 1000) : addS (.str a) (.str b) = some (.str (a ++ b)) := add_str (Nat.le_trans (Nat.add_le_add h.1 g.1) hl)
theorem St.cut {n : Nat} {a : Str} (h : St n a) (hn : n ≤ 1000) (lo hi : Option Int) : cutS (.str a) lo hi = some (.str (ofL (cutL (li a) lo hi))) ∧ St n (ofL (cutL (li a) lo hi)) := by
  refine ⟨?_, Nat.le_trans (cutL_len _ _ _) h.1, fun c hc => h.2 c (cutL_mem hc)⟩
  show grd (a.length ≤ sizeLine) _ = _
  unfold grd
  rw [if_pos (show a.length ≤ sizeLine from Nat.le_trans (Nat.le_trans h.1 hn) sl1000)]
  rfl
theorem St.mul {c : Nat} (hc : c < 1000) {n : Nat} (hn : n ≤ 100) : mulS (s1 c) (.int n) = some (.str (Txt.mul (mk1 c) n)) ∧ St n (Txt.mul (mk1 c) n) := by
  refine ⟨?_, ?_, fun x hx => ?_⟩
  · show grd _ _ = _
    unfold grd
    rw [if_pos ⟨show (mk1 c).length ≤ 4000 from (by show 1 ≤ 4000; decide), Int.le_trans (by decide) (Int.natCast_nonneg n), by omega⟩]
  · have := mul_len (z := mk1 c) (n := (n : Int)) (L := 1) (N := n) (Nat.le_refl _) (Int.le_refl _)
    rw [Nat.one_mul] at this
    exact this
  · have := mul_mem hx
    have e : x = c := by simpa [li, mk1] using this
    rw [e]
    exact hc
theorem St.of {n : Nat} {l : List Nat} (h : l.length ≤ n) (hc : ∀ c ∈ l, c < 1000) : St n (ofL l) := ⟨h, hc⟩
section
variable {ks js : List Str}
theorem spare_ok (T : TOk ks) {p : D} (hp : IsPen p) {w a b c d e : Option D} : ∃ (x : Nat) (p' : D), e2 ixA (eLC true (iAny (eCall F_law_unlike (aSlot 0 (aCons (eC (.int 13)) aNil)))) (gN 0) (tV (e2 notInSf (eVar 0) (eM joinD (eC (.str "")) (aCons (eVar 1) aNil)))) (eVar 0) [none, some 1]) (eC (.int 0)) [some p, some (tD ks), a, w, b, c, d, e] = some (s1 x, [some p', some (tD ks), a, w, b, c, d, e]) ∧ x < 1000 ∧ IsPen p' := by
  have l12 := T.l12
  have n4 := T.n4
  obtain ⟨cs, p', e', nd, mem, len, hp'⟩ := unlike_ok (n := 13) hp (by decide)
  let P : D → Bool := fun t => match t with
    | .str x => !decide ((li x).headD 0 ∈ allS ks)
    | _ => false
  have tst : ∀ t ∈ cs.map s1, (tV (e2 notInSf (eVar 0) (eM joinD (eC (.str "")) (aCons (eVar 1) aNil)))) [some t, some (tD ks)] = some (P t, [some t, some (tD ks)]) := fun t ht => by
    obtain ⟨x, _, rfl⟩ := List.mem_map.mp ht
    refine ev_tv (ev_2 (t1 := s1 x) (t2 := .str (sgs ks)) rfl (ev_m rfl (ev_ac rfl rfl) rfl (join_str (by omega) (by omega))) ?_)
    show some (PyData.bool (!inText (sgs ks) (mk1 x))) = _
    rw [inText_one]
    rfl
  obtain ⟨o', el⟩ := lcF_filter (c := tV (e2 notInSf (eVar 0) (eM joinD (eC (.str "")) (aCons (eVar 1) aNil)))) (f := eVar 0) (p := P) (F := id) (rest := [some (tD ks)]) (cs.map s1) [] none tst (fun t _ _ => rfl) (by rw [List.length_map, len]; exact Nat.le_trans (by show 0 + 13 ≤ 1000; decide) sl1000)
  rw [List.nil_append, List.map_id] at el
  obtain ⟨x0, h1, h2⟩ : ∃ x ∈ cs, x ∉ allS ks := by
    by_cases h : ∀ x ∈ cs, x ∈ allS ks
    · have := sub_len nd h
      omega
    · simpa using h
  have hm : s1 x0 ∈ (cs.map s1).filter P := List.mem_filter.mpr ⟨List.mem_map_of_mem h1, by show (!decide (x0 ∈ allS ks)) = true; rw [decide_eq_false h2]; rfl⟩
  obtain ⟨t0, rest, hL⟩ : ∃ t0 rest, (cs.map s1).filter P = t0 :: rest := by
    cases h : (cs.map s1).filter P with
    | nil => rw [h] at hm; cases hm
    | cons a b => exact ⟨a, b, rfl⟩
  have ht0 : t0 ∈ cs.map s1 := (List.mem_filter.mp (by rw [hL]; exact List.mem_cons_self)).1
  obtain ⟨x, hx, rfl⟩ := List.mem_map.mp ht0
  refine ⟨x, p', ?_, by have := ev_code x (mem x hx); omega, hp'⟩
  rw [hL] at el
  have it : iAny (eCall F_law_unlike (aSlot 0 (aCons (eC (.int 13)) aNil))) [some p, some (tD ks), a, w, b, c, d, e] = some (cs.map s1, [some p', some (tD ks), a, w, b, c, d, e]) := by
    have : eCall F_law_unlike (aSlot 0 (aCons (eC (.int 13)) aNil)) [some p, some (tD ks), a, w, b, c, d, e] = some (.list (cs.map s1), [some p', some (tD ks), a, w, b, c, d, e]) := ev_call (as := [.inr 0, .inl (.int 13)]) (en1 := [some p, some (tD ks), a, w, b, c, d, e]) rfl rfl e' rfl
    unfold iAny
    rw [this]
    rfl
  exact ev_2 (t1 := .list (s1 x :: rest)) (t2 := .int 0) (en1 := [some p', some (tD ks), a, w, b, c, d, e]) (ev_lc (en1 := [some p', some (tD ks), a, w, b, c, d, e]) it el rfl) rfl (by show atI (s1 x :: rest) ((0 : Nat) : Int) = _; exact atI_nat rfl)
end
end W02
set_option Elab.async false
set_option linter.all false
set_option maxRecDepth 100000
set_option maxHeartbeats 800000
namespace W02
open PySem L2 Pen3
theorem addL_ok {a b : List D} (h : a.length + b.length ≤ 30) : addL (.list a) (.list b) = some (.list (a ++ b)) := by
  show (if a.length + b.length ≤ sizeLine then some (PyData.list (a ++ b)) else none) = _
  rw [if_pos (Nat.le_trans (Nat.le_trans h (by decide)) sl1000)]
section
variable {ks js : List Str}
theorem last_ix (T : TOk ks) : ∃ k ∈ ks, ixA (tD ks) (.int (-1)) = some (.str k) := by
  have h : ks ≠ [] := fun z => by have := T.n1; rw [z] at this; simp at this
  refine ⟨ks.getLast h, List.getLast_mem h, ?_⟩
  show atI (ks.map PyData.str) (-1) = _
  have e : ks.map PyData.str = (ks.dropLast).map PyData.str ++ [.str (ks.getLast h)] := by
    rw [show [PyData.str (ks.getLast h)] = [ks.getLast h].map PyData.str from rfl, ← List.map_append, List.dropLast_concat_getLast]
  rw [e]
  exact atI_last _ _
theorem first_ix (T : TOk ks) : ∃ k c, k ∈ ks ∧ c ∈ li k ∧ ixA (tD ks) (.int 0) = some (.str k) ∧ ixT (.str k) (.int 0) = some (s1 c) := by
  have n1 := T.n1
  obtain ⟨k, hk⟩ : ∃ k, ks[0]? = some k := ⟨ks[0]'(by omega), List.getElem?_eq_getElem (by omega)⟩
  have hm := List.mem_of_getElem? hk
  have f1 := T.fu k hm
  have kl := kind_le hm
  have l12 := T.l12
  obtain ⟨c, hc⟩ : ∃ c, (li k)[0]? = some c := ⟨(li k)[0]'(by omega), List.getElem?_eq_getElem (by omega)⟩
  refine ⟨k, c, hm, List.mem_of_getElem? hc, ?_, ?_⟩
  · show atI (ks.map PyData.str) ((0 : Nat) : Int) = _
    exact atI_nat (by rw [List.getElem?_map, hk]; rfl)
  · show (if k.length ≤ sizeLine then (atI (li k) ((0 : Nat) : Int)).map fun c => PyData.str (mk1 c) else none) = _
    rw [if_pos (show k.length ≤ sizeLine from Nat.le_trans (show (li k).length ≤ 1000 by omega) sl1000), atI_nat hc]
    rfl
theorem st_one {x : Nat} (hx : x < 1000) : St 1 (mk1 x) := by
  refine ⟨Nat.le_refl _, fun c hc => ?_⟩
  have e : c = x := by simpa [li, mk1] using hc
  rw [e]
  exact hx
theorem kind_st (T : TOk ks) {k : Str} (hk : k ∈ ks) : St 12 k := ⟨by have := kind_le hk; have := T.l12; omega, fun c hc => codes T c (mem_allS hk hc)⟩
theorem things_ok (T : TOk ks) (U : TOk js) {p : D} (hp : IsPen p) {w : Str} (hw : St 60 w) : ∃ (ts : List D) (p' : D), F_law_things [p, tD ks, tD js, .str w] = some (.list ts, [some p', none, none, none]) ∧ (∀ t ∈ ts, Good t) ∧ IsPen p' := by
  obtain ⟨x, p1, e1', hx, hp1⟩ := spare_ok T hp (a := some (tD js)) (w := some (.str w)) (b := none) (c := none) (d := none) (e := none)
  obtain ⟨k0, c0, hk0, hc0, i1, i2⟩ := first_ix T
  obtain ⟨kl, hkl, i3⟩ := last_ix T
  obtain ⟨j0, _, hj0, _, i4, _⟩ := first_ix U
  have c0l : c0 < 1000 := codes T c0 (mem_allS hk0 hc0)
  have lw := len_str (z := w) (Nat.le_trans hw.1 (by decide))
  obtain ⟨r, p2, e2', r0, r1, hp2⟩ := ev_draw (p := p1) (m := ((li w).length : Int) + 1) (i := 0) (en := [some p1, some (tD ks), some (tD js), some (.str w), some (s1 x), some (s1 c0), none, none]) (fa := aSlot 0 (aCons (e2 addS (eN lenD (aCons (eVar 3) aNil)) (eC (.int 1))) aNil)) rfl hp1 (ev_slot rfl (ev_ac (ev_2 (ev_n (ts := [.str w]) rfl rfl lw) rfl rfl) rfl)) (by omega) (by have := hw.1; omega)
  let E (d f : Option D) : En := [some p2, some (tD ks), some (tD js), some (.str w), some (s1 x), some (s1 c0), d, f]
  have sx : St 1 (mk1 x) := st_one hx
  have sc : St 1 (mk1 c0) := st_one c0l
  have sb : St 1 (" " : Str) := ⟨by decide +kernel, by decide +kernel⟩
  have sn : St 1 ("\n" : Str) := ⟨by decide +kernel, by decide +kernel⟩
  have se : St 1 ("" : Str) := ⟨by decide +kernel, by decide +kernel⟩
  obtain ⟨m60, s60⟩ := St.mul (c := c0) c0l (n := 60) (by decide)
  obtain ⟨m61, s61⟩ := St.mul (c := c0) c0l (n := 61) (by decide)
  have a1 := hw.plus s61 (by decide)
  have sa1 := hw.add s61
  obtain ⟨q1, sq1⟩ := sa1.cut (by decide) none (some 60)
  obtain ⟨q2, sq2⟩ := sa1.cut (by decide) none (some 61)
  obtain ⟨q3, sq3⟩ := hw.cut (by decide) none (some r)
  obtain ⟨q4, sq4⟩ := hw.cut (by decide) (some r) none
  obtain ⟨q5, sq5⟩ := hw.cut (by decide) (some 1) none
  obtain ⟨q6, sq6⟩ := hw.cut (by decide) none (some (-1))
  have a2 := sq3.plus sx (by decide)
  have sa2 := sq3.add sx
  have a3 := sa2.plus sq4 (by decide)
  have sa3 := sa2.add sq4
  have a4 := sx.plus sq5 (by decide)
  have sa4 := sx.add sq5
  have a5 := sq6.plus sx (by decide)
  have sa5 := sq6.add sx
  have a6 := hw.plus sb (by decide)
  have sa6 := hw.add sb
  have a7 := hw.plus sn (by decide)
  have sa7 := hw.add sn
  have ls := listD_str (z := w) (Nat.le_trans hw.1 (by decide))
  let X1 : Str := ofL (cutL (li (w ++ Txt.mul (mk1 c0) (61 : Nat))) none (some 60))
  let X2 : Str := ofL (cutL (li (w ++ Txt.mul (mk1 c0) (61 : Nat))) none (some 61))
  let L1 : List D := [.str w, .str "", .str (Txt.mul (mk1 c0) (60 : Nat)), .str (Txt.mul (mk1 c0) (61 : Nat)), .str X1, .str X2, .str kl]
  let L2' : List D := [.str (ofL (cutL (li w) none (some r)) ++ mk1 x ++ ofL (cutL (li w) (some r) none)), .str (mk1 x ++ ofL (cutL (li w) (some 1) none)), .str (ofL (cutL (li w) none (some (-1))) ++ mk1 x), .str (w ++ " "), .str "\n", .str " "]
  let L3 : List D := [.str j0, .str (w ++ "\n"), .list ((li w).map s1), .tuple [.str w], .list [.str w], .none, .int 0, .bool true, .dict [], .tuple [], .list [], tD ks, .list [.int 0], s1 c0]
  have sl30 : ∀ {n : Nat}, n ≤ 30 → n ≤ sizeLine := fun h => Nat.le_trans (Nat.le_trans h (by decide)) sl1000
  have b1 : ∀ d, eLst (aCons (eVar 3) (aCons (eC (.str "")) (aCons (e2 mulS (eVar 5) (eC (.int 60))) (aCons (e2 mulS (eVar 5) (eC (.int 61))) (aCons (eSl cutS (e2 addS (eVar 3) (e2 mulS (eVar 5) (eC (.int 61)))) oNone (oSome (eC (.int 60)))) (aCons (eSl cutS (e2 addS (eVar 3) (e2 mulS (eVar 5) (eC (.int 61)))) oNone (oSome (eC (.int 61)))) (aCons (e2 ixA (eVar 1) (e1 negI (eC (.int 1)))) aNil))))))) (E (some (.int r)) d) = some (.list L1, E (some (.int r)) d) := fun d => by
    have mm60 : e2 mulS (eVar 5) (eC (.int 60)) (E (some (.int r)) d) = some (.str (Txt.mul (mk1 c0) (60 : Nat)), E (some (.int r)) d) := ev_2 (t1 := s1 c0) (t2 := .int (60 : Nat)) rfl rfl m60
    have mm61 : e2 mulS (eVar 5) (eC (.int 61)) (E (some (.int r)) d) = some (.str (Txt.mul (mk1 c0) (61 : Nat)), E (some (.int r)) d) := ev_2 (t1 := s1 c0) (t2 := .int (61 : Nat)) rfl rfl m61
    have ad : e2 addS (eVar 3) (e2 mulS (eVar 5) (eC (.int 61))) (E (some (.int r)) d) = some (.str (w ++ Txt.mul (mk1 c0) (61 : Nat)), E (some (.int r)) d) := ev_2 (t1 := .str w) rfl mm61 a1
    exact ev_lst (ts := L1) (ev_ac rfl (ev_ac rfl (ev_ac mm60 (ev_ac mm61 (ev_ac (ev_sl ad rfl (ev_os rfl) q1) (ev_ac (ev_sl ad rfl (ev_os rfl) q2) (ev_ac (ev_2 (t1 := tD ks) (t2 := .int (-1)) rfl rfl i3) rfl))))))) rfl (sl30 (by show 7 ≤ 30; decide))
  have b2 : ∀ d, eLst (aCons (e2 addS (e2 addS (eSl cutS (eVar 3) oNone (oSome (eVar 6))) (eVar 4)) (eSl cutS (eVar 3) (oSome (eVar 6)) oNone)) (aCons (e2 addS (eVar 4) (eSl cutS (eVar 3) (oSome (eC (.int 1))) oNone)) (aCons (e2 addS (eSl cutS (eVar 3) oNone (oSome (e1 negI (eC (.int 1))))) (eVar 4)) (aCons (e2 addS (eVar 3) (eC (.str " "))) (aCons (eC (.str "\n")) (aCons (eC (.str " ")) aNil)))))) (E (some (.int r)) d) = some (.list L2', E (some (.int r)) d) := fun d =>
    ev_lst (ts := L2') (ev_ac (ev_2 (ev_2 (t2 := s1 x) (ev_sl (t := .str w) rfl rfl (ev_os rfl) q3) rfl a2) (ev_sl (t := .str w) rfl (ev_os rfl) rfl q4) a3) (ev_ac (ev_2 (t1 := s1 x) rfl (ev_sl (t := .str w) rfl (ev_os rfl) rfl q5) a4) (ev_ac (ev_2 (t2 := s1 x) (ev_sl (t := .str w) rfl rfl (ev_os rfl) q6) rfl a5) (ev_ac (ev_2 (t1 := .str w) rfl rfl a6) rfl)))) rfl (sl30 (by show 6 ≤ 30; decide))
  have b3 : ∀ d, eLst (aCons (e2 ixA (eVar 2) (eC (.int 0))) (aCons (e2 addS (eVar 3) (eC (.str "\n"))) (aCons (eN listD (aCons (eVar 3) aNil)) (aCons (eTup (aCons (eVar 3) aNil)) (aCons (eLst (aCons (eVar 3) aNil)) (aCons (eC .none) (aCons (eC (.int 0)) (aCons (eC (.bool true)) (aCons eDnew (aCons (eTup aNil) (aCons (eLst aNil) (aCons (eVar 1) (aCons (eLst (aCons (eC (.int 0)) aNil)) (aCons (eVar 5) aNil)))))))))))))) (E (some (.int r)) d) = some (.list L3, E (some (.int r)) d) := fun d => by
    have t1 : ∀ {f : ME} {t : D}, f (E (some (.int r)) d) = some (t, E (some (.int r)) d) → eLst (aCons f aNil) (E (some (.int r)) d) = some (.list [t], E (some (.int r)) d) := fun h => ev_lst (ev_ac h rfl) rfl (sl30 (by show 1 ≤ 30; decide))
    have t2 : eTup (aCons (eVar 3) aNil) (E (some (.int r)) d) = some (.tuple [.str w], E (some (.int r)) d) := ev_tup rfl rfl (sl30 (by show 1 ≤ 30; decide))
    have t3 : eTup aNil (E (some (.int r)) d) = some (.tuple [], E (some (.int r)) d) := ev_tup rfl rfl (Nat.zero_le _)
    have t4 : eLst aNil (E (some (.int r)) d) = some (.list [], E (some (.int r)) d) := ev_lst rfl rfl (Nat.zero_le _)
    exact ev_lst (ts := L3) (ev_ac (ev_2 (t1 := tD js) (t2 := .int 0) rfl rfl i4) (ev_ac (ev_2 (t1 := .str w) rfl rfl a7) (ev_ac (ev_n (ts := [.str w]) rfl rfl ls) (ev_ac t2 (ev_ac (t1 rfl) (ev_ac rfl (ev_ac rfl (ev_ac rfl (ev_ac rfl (ev_ac t3 (ev_ac t4 (ev_ac rfl (ev_ac (t1 rfl) rfl))))))))))))) rfl (sl30 (by show 14 ≤ 30; decide))
  refine ⟨L1 ++ L2' ++ L3, p2, ?_, ?_, hp2⟩
  · refine fnF_rt (b := B_law_things) (en := E (some (.int r)) (some (.list (L1 ++ L2' ++ L3))))
      (ev_seq (en1 := [some p1, some (tD ks), some (tD js), some (.str w), some (s1 x), none, none, none]) (ev_set e1' rfl)
      (ev_seq (en1 := [some p1, some (tD ks), some (tD js), some (.str w), some (s1 x), some (s1 c0), none, none]) (ev_set (ev_2 (t1 := .str k0) (t2 := .int 0) (ev_2 (t1 := tD ks) (t2 := .int 0) rfl rfl i1) rfl i2) rfl)
      (ev_seq (en1 := E (some (.int r)) none) (ev_set e2' rfl)
      (ev_seq (en1 := E (some (.int r)) (some (.list L1))) (ev_set (b1 _) rfl)
      (ev_seq (en1 := E (some (.int r)) (some (.list (L1 ++ L2')))) (ev_set (ev_2 (t1 := .list L1) (t2 := .list L2') rfl (b2 _) (addL_ok (by show 7 + 6 ≤ 30; decide))) rfl)
      (ev_seq (en1 := E (some (.int r)) (some (.list (L1 ++ L2' ++ L3)))) (ev_set (ev_2 (t1 := .list (L1 ++ L2')) (t2 := .list L3) rfl (b3 _) (addL_ok (by show 13 + 14 ≤ 30; decide))) rfl) rfl))))))
  · have gk : ∀ {k : Str}, k ∈ ks → Good (.str k) := fun h => (kind_st T h).good (by decide)
    have gj : Good (.str j0) := (kind_st U hj0).good (by decide)
    have gl : Good (.list ((li w).map s1)) := (rep_list (fun t ht => by
      obtain ⟨c, hc, rfl⟩ := List.mem_map.mp ht
      exact str_flat (z := mk1 c) (by show 1 ≤ 1000; decide) fun y hy => by
        have e : y = c := by simpa [li, mk1] using hy
        rw [e]
        exact hw.2 c hc) (by rw [List.length_map]; exact Nat.le_trans hw.1 (by decide))).1
    have gw := rep_list (xs := [.str w]) (fun t ht => by
      rw [List.mem_singleton.mp ht]
      exact str_flat (Nat.le_trans hw.1 (by decide)) hw.2) (by show 1 ≤ 1000; decide)
    have gt : Good (tD ks) := (rep_list (xs := ks.map .str) (fun t ht => by
      obtain ⟨k, hk, rfl⟩ := List.mem_map.mp ht
      exact str_flat (Nat.le_trans (kind_st T hk).1 (by decide)) (kind_st T hk).2) (by rw [List.length_map]; have := T.n4; omega)).2
    have g0 := rep_list (xs := []) (fun t ht => by cases ht) (by decide)
    have gi := rep_list (xs := [.int 0]) (fun t ht => by
      rw [List.mem_singleton.mp ht]
      exact ⟨by decide +kernel, by decide +kernel, rfl, by decide +kernel, rfl⟩) (by show 1 ≤ 1000; decide)
    have ns : ∀ {t : D} {z : Str}, reprD [t] = some (.str z) → (∀ y, t ≠ .str y) → Good t := fun h g => .inr ⟨g, _, h⟩
    have gn : Good .none := ns (rep_ok rfl rfl (by decide) rfl (by decide)) fun y h => nomatch h
    have gz : Good (.int 0) := ns (rep_ok rfl (by decide +kernel) (by decide) (by decide +kernel) (by decide +kernel)) fun y h => nomatch h
    have gb : Good (.bool true) := ns (rep_ok rfl rfl (by decide) rfl (by decide)) fun y h => nomatch h
    have gd : Good (.dict []) := ns (z := "{}") rfl fun y h => nomatch h
    have f1 : ∀ t ∈ L1, Good t := List.forall_mem_cons.mpr ⟨hw.good (by decide), List.forall_mem_cons.mpr ⟨se.good (by decide), List.forall_mem_cons.mpr ⟨s60.good (by decide), List.forall_mem_cons.mpr ⟨s61.good (by decide), List.forall_mem_cons.mpr ⟨sq1.good (by decide), List.forall_mem_cons.mpr ⟨sq2.good (by decide), List.forall_mem_cons.mpr ⟨gk hkl, fun _ z => by cases z⟩⟩⟩⟩⟩⟩⟩
    have f2 : ∀ t ∈ L2', Good t := List.forall_mem_cons.mpr ⟨sa3.good (by decide), List.forall_mem_cons.mpr ⟨sa4.good (by decide), List.forall_mem_cons.mpr ⟨sa5.good (by decide), List.forall_mem_cons.mpr ⟨sa6.good (by decide), List.forall_mem_cons.mpr ⟨sn.good (by decide), List.forall_mem_cons.mpr ⟨sb.good (by decide), fun _ z => by cases z⟩⟩⟩⟩⟩⟩
    have f3 : ∀ t ∈ L3, Good t := List.forall_mem_cons.mpr ⟨gj, List.forall_mem_cons.mpr ⟨sa7.good (by decide), List.forall_mem_cons.mpr ⟨gl, List.forall_mem_cons.mpr ⟨gw.2, List.forall_mem_cons.mpr ⟨gw.1, List.forall_mem_cons.mpr ⟨gn, List.forall_mem_cons.mpr ⟨gz, List.forall_mem_cons.mpr ⟨gb, List.forall_mem_cons.mpr ⟨gd, List.forall_mem_cons.mpr ⟨g0.2, List.forall_mem_cons.mpr ⟨g0.1, List.forall_mem_cons.mpr ⟨gt, List.forall_mem_cons.mpr ⟨gi.1, List.forall_mem_cons.mpr ⟨sc.good (by decide), fun _ z => by cases z⟩⟩⟩⟩⟩⟩⟩⟩⟩⟩⟩⟩⟩⟩
    intro t ht
    rcases List.mem_append.mp ht with ht | ht
    · rcases List.mem_append.mp ht with ht | ht
      · exact f1 t ht
      · exact f2 t ht
    · exact f3 t ht
end
end W02
set_option Elab.async false
set_option linter.all false
set_option maxRecDepth 100000
set_option maxHeartbeats 800000
namespace W02
open PySem L2 Pen3
theorem Good.rep {t : D} (g : Good t) : ∃ z, reprD [t] = some (.str z) := by
  rcases g with ⟨z, rfl, h1, h2⟩ | ⟨_, h⟩
  · exact ⟨_, rep_str h2 h1⟩
  · exact h
theorem Good.same {ks : List Str} (T : TOk ks) {t : D} (g : Good t) : ∃ b, Fis_word [tD ks, t] = some (.bool b, [none, none]) ∧ F_law_is_word [tD ks, t] = some (.bool b, [none, none]) := by
  rcases g with ⟨z, rfl, h1, h2⟩ | ⟨h, _⟩
  · exact ⟨_, isword_str T h1, lisword_str T h1⟩
  · exact ⟨false, isword_non h, lisword_non h⟩
theorem ne_bool (b : Bool) : neD (.bool b) (.bool b) = some (.bool false) := ne_same rfl (Nat.zero_le _)
def inB : MS := (sSeq (sSet 10 (eCall Fis_word (aCons (eVar 9) (aCons (eVar 7) aNil))))
  (sIf (bOr (bNot (tV (e1 (isiD "bool") (eVar 10)))) (bOr (tV (e2 neD (eVar 10) (eCall F_law_is_word (aCons (eVar 9) (aCons (eVar 7) aNil))))) (tV (e2 neD (eN reprD (aCons (eVar 7) aNil)) (eVar 8))))) (sRet (eC (.bool false))) sNil))
def thB : MS := (sSeq (sSet 8 (eN reprD (aCons (eVar 7) aNil)))
  (sFor (iAny (eTup (aCons (eVar 3) (aCons (eVar 4) aNil)))) (gN 9) inB))
def outB : MS := (sSeq (sSet 2 (eCall W02.F_law_pen (aCons (eVar 0) (aCons (e2 mulI (eC (.int 2)) (eVar 1)) aNil))))
  (sSeq (sSet 3 (eCall F_law_tongue (aSlot 2 aNil)))
  (sSeq (sSet 4 (eCall F_law_tongue (aCons (eCall W02.F_law_pen (aCons (eVar 0) (aCons (e2 addS (e2 mulI (eC (.int 2)) (eVar 1)) (eC (.int 1))) aNil))) aNil)))
  (sSeq (sIf (bOr (bNot (tV (eCall F_law_signs_right (aCons (eVar 3) aNil)))) (bNot (tV (eCall F_law_signs_right (aCons (eVar 4) aNil))))) (sRet (eC (.bool false))) sNil)
  (sSeq (sSet 5 (eCall F_law_row (aSlot 2 (aCons (eVar 3) (aCons (eC (.int 60)) aNil)))))
  (sSeq (sIf (bNot (tV (eCall F_law_rows_right (aCons (eVar 3) (aCons (eVar 5) (aCons (eVar 4) aNil)))))) (sRet (eC (.bool false))) sNil)
  (sSeq (sSet 6 (eCall F_law_row (aSlot 2 (aCons (eVar 3) (aCons (eC (.int 200)) aNil)))))
  (sSeq (sIf (tV (e2 neD (eN reprD (aCons (eCall Fword_of (aCons (eVar 3) (aCons (eVar 6) aNil))) aNil)) (eN reprD (aCons (eCall F_law_spelt (aCons (eVar 3) (aCons (eVar 6) aNil))) aNil)))) (sRet (eC (.bool false))) sNil)
  (sFor (iAny (eCall F_law_things (aSlot 2 (aCons (eVar 3) (aCons (eVar 4) (aCons (eCall F_law_spelt (aCons (eVar 3) (aCons (eVar 5) aNil))) aNil)))))) (gN 7) thB)))))))))
section
variable {ks js : List Str}
def G (L : D) (i p : D) (ks js : List Str) (r f a b c d : Option D) : En := [some L, some i, some p, some (tD ks), some (tD js), r, f, a, b, c, d]
theorem step_ok (V : TOk ks) {L i p t : D} (g : Good t) {z : Str} (hz : reprD [t] = some (.str z)) {k1 k2 : List Str} {r f d : Option D} : ∃ d', inB (G L i p k1 k2 r f (some t) (some (.str z)) (some (tD ks)) d) = some (.nx (G L i p k1 k2 r f (some t) (some (.str z)) (some (tD ks)) d')) := by
  obtain ⟨b, h1, h2⟩ := g.same V
  refine ⟨some (.bool b), ?_⟩
  exact ev_seq (en1 := G L i p k1 k2 r f (some t) (some (.str z)) (some (tD ks)) (some (.bool b))) (ev_set (ev_call (as := [.inl (tD ks), .inl t]) (en1 := G L i p k1 k2 r f (some t) (some (.str z)) (some (tD ks)) d) rfl rfl h1 rfl) rfl)
    (ev_ifF (b := false) (ev_orF (b := false) (en1 := G L i p k1 k2 r f (some t) (some (.str z)) (some (tD ks)) (some (.bool b))) rfl rfl (ev_orF (b := false) (en1 := G L i p k1 k2 r f (some t) (some (.str z)) (some (tD ks)) (some (.bool b))) (ev_tv (ev_2 (t1 := .bool b) (t2 := .bool b) rfl (ev_call (as := [.inl (tD ks), .inl t]) (en1 := G L i p k1 k2 r f (some t) (some (.str z)) (some (tD ks)) (some (.bool b))) rfl rfl h2 rfl) (ne_bool b))) rfl (ev_tv (ev_2 (t2 := .str z) (ev_n (ts := [t]) rfl rfl hz) rfl (ne_same rfl (Nat.zero_le _)))))) rfl rfl)
theorem th_ok (T : TOk ks) (U : TOk js) {L i p t : D} (g : Good t) {r f b c d : Option D} : ∃ b' c' d', thB (G L i p ks js r f (some t) b c d) = some (.nx (G L i p ks js r f (some t) b' c' d')) := by
  obtain ⟨z, hz⟩ := g.rep
  obtain ⟨d1, e1'⟩ := step_ok T (L := L) (i := i) (p := p) g hz (k1 := ks) (k2 := js) (r := r) (f := f) (d := d)
  obtain ⟨d2, e2'⟩ := step_ok U (L := L) (i := i) (p := p) g hz (k1 := ks) (k2 := js) (r := r) (f := f) (d := d1)
  refine ⟨some (.str z), some (tD js), d2, ?_⟩
  have it : iAny (eTup (aCons (eVar 3) (aCons (eVar 4) aNil))) (G L i p ks js r f (some t) (some (.str z)) c d) = some ([tD ks, tD js], G L i p ks js r f (some t) (some (.str z)) c d) := by
    have : eTup (aCons (eVar 3) (aCons (eVar 4) aNil)) (G L i p ks js r f (some t) (some (.str z)) c d) = some (.tuple [tD ks, tD js], G L i p ks js r f (some t) (some (.str z)) c d) := ev_tup rfl rfl (Nat.le_trans (by show 2 ≤ 1000; decide) sl1000)
    unfold iAny
    rw [this]
    rfl
  have lp : forF (gN 9) inB [tD ks, tD js] (G L i p ks js r f (some t) (some (.str z)) c d) = some (.nx (G L i p ks js r f (some t) (some (.str z)) (some (tD js)) d2)) := by
    show (inB (G L i p ks js r f (some t) (some (.str z)) (some (tD ks)) d)).bind _ = _
    rw [e1']
    show (inB (G L i p ks js r f (some t) (some (.str z)) (some (tD js)) d1)).bind _ = _
    rw [e2']
    rfl
  exact ev_seq (en1 := G L i p ks js r f (some t) (some (.str z)) c d) (ev_set (ev_n (ts := [t]) rfl rfl hz) rfl) (ev_for it lp)
end
theorem out_ok (ns : List Int) {i : Nat} {p k j r f a b c d : Option D} : ∃ p' k' j' r' f' a' b' c' d', outB [some (.list (ns.map .int)), some (.int i), p, k, j, r, f, a, b, c, d] = some (.nx [some (.list (ns.map .int)), some (.int i), p', k', j', r', f', a', b', c', d']) := by
  let L : D := .list (ns.map .int)
  let I : D := .int i
  let E (p k j r f : Option D) : En := [some L, some I, p, k, j, r, f, a, b, c, d]
  have cm : CMul 2 (i : Int) := .inl (by decide)
  have m2 : mulI (.int 2) (.int i) = some (.int (2 * (i : Int))) := by
    show (if CMul 2 (i : Int) then some (PyData.int (2 * (i : Int))) else none) = _
    rw [if_pos cm]
  obtain ⟨p1, e1', hp1⟩ := pen_ok (ns := ns) (k := 2 * (i : Int)) (by omega)
  obtain ⟨q1, e2', hq1⟩ := pen_ok (ns := ns) (k := 2 * (i : Int) + 1) (by omega)
  obtain ⟨ks, p2, e3, T, hp2⟩ := tongue_ok hp1
  obtain ⟨js, q2, e4, U, hq2⟩ := tongue_ok hq1
  obtain ⟨rs, p3, e5, hr1, hr2, hp3⟩ := lrow_ok T hp2 (mo := 60) (by decide)
  obtain ⟨fs, p4, e6, hf1, hf2, hp4⟩ := lrow_ok T hp3 (mo := 200) (by decide)
  have hw : St 60 (spl ks rs) := ⟨by rw [spl_len]; exact hr2, fun c hc => codes T c (spl_sub hr1 c hc)⟩
  obtain ⟨ts, p5, e7, gts, hp5⟩ := things_ok T U hp4 hw
  have rf := rep_str (z := spl ks fs) (fun c hc => codes T c (spl_sub hf1 c hc)) (by rw [spl_len]; omega)
  have w1 := word_ok T hf1 (by omega)
  have w2 := spelt_ok T hf1 (by omega)
  have w3 := spelt_ok T hr1 (by omega)
  obtain ⟨en2, eg, a9, b9, c9, d9, rfl⟩ := forF_all (g := gN 7) (b := thB) (ts := ts) (fun _ en => ∃ a b c d, en = G L I p5 ks js (some (rowN rs)) (some (rowN fs)) a b c d)
    (fun m t en ht ⟨a, b, c, d, he⟩ => by
      subst he
      obtain ⟨b', c', d', e⟩ := th_ok T U (L := L) (i := I) (p := p5) (gts t (List.mem_of_getElem? ht)) (r := some (rowN rs)) (f := some (rowN fs)) (b := b) (c := c) (d := d)
      exact ⟨_, _, rfl, .inl e, _, _, _, _, rfl⟩)
    (en := G L I p5 ks js (some (rowN rs)) (some (rowN fs)) a b c d) ⟨a, b, c, d, rfl⟩
  refine ⟨some p5, some (tD ks), some (tD js), some (rowN rs), some (rowN fs), a9, b9, c9, d9, ?_⟩
  have t2 : ∀ en : En, eVar 1 en = some (I, en) → e2 mulI (eC (.int 2)) (eVar 1) en = some (.int (2 * (i : Int)), en) := fun en h => ev_2 (t1 := .int 2) (t2 := .int i) rfl h m2
  have it2 : iAny (eCall F_law_things (aSlot 2 (aCons (eVar 3) (aCons (eVar 4) (aCons (eCall F_law_spelt (aCons (eVar 3) (aCons (eVar 5) aNil))) aNil))))) (E (some p4) (some (tD ks)) (some (tD js)) (some (rowN rs)) (some (rowN fs))) = some (ts, E (some p5) (some (tD ks)) (some (tD js)) (some (rowN rs)) (some (rowN fs))) := by
    have : eCall F_law_things (aSlot 2 (aCons (eVar 3) (aCons (eVar 4) (aCons (eCall F_law_spelt (aCons (eVar 3) (aCons (eVar 5) aNil))) aNil)))) (E (some p4) (some (tD ks)) (some (tD js)) (some (rowN rs)) (some (rowN fs))) = some (.list ts, E (some p5) (some (tD ks)) (some (tD js)) (some (rowN rs)) (some (rowN fs))) :=
      ev_call (as := [.inr 2, .inl (tD ks), .inl (tD js), .inl (.str (spl ks rs))]) (en1 := E (some p4) (some (tD ks)) (some (tD js)) (some (rowN rs)) (some (rowN fs))) (ev_slot rfl (ev_ac rfl (ev_ac rfl (ev_ac (ev_call (as := [.inl (tD ks), .inl (rowN rs)]) (en1 := E (some p4) (some (tD ks)) (some (tD js)) (some (rowN rs)) (some (rowN fs))) rfl rfl w3 rfl) rfl)))) rfl e7 rfl
    unfold iAny
    rw [this]
    rfl
  refine ev_seq (en1 := E (some p1) k j r f) (ev_set (ev_call (as := [.inl L, .inl (.int (2 * (i : Int)))]) (en1 := E p k j r f) (ev_ac rfl (ev_ac (t2 _ rfl) rfl)) rfl e1' rfl) rfl)
    (ev_seq (en1 := E (some p2) (some (tD ks)) j r f) (ev_set (ev_call (as := [.inr 2]) (en1 := E (some p1) k j r f) rfl rfl e3 rfl) rfl)
    (ev_seq (en1 := E (some p2) (some (tD ks)) (some (tD js)) r f) (ev_set (ev_call (as := [.inl q1]) (en1 := E (some p2) (some (tD ks)) j r f) (ev_ac (ev_call (as := [.inl L, .inl (.int (2 * (i : Int) + 1))]) (en1 := E (some p2) (some (tD ks)) j r f) (ev_ac rfl (ev_ac (ev_2 (t1 := .int (2 * (i : Int))) (t2 := .int 1) (t2 _ rfl) rfl rfl) rfl)) rfl e2' rfl) rfl) rfl e4 rfl) rfl)
    (ev_seq (en1 := E (some p2) (some (tD ks)) (some (tD js)) r f) (ev_ifF (b := false) (ev_orF (b := false) (en1 := E (some p2) (some (tD ks)) (some (tD js)) r f) (ev_not (b := true) (ev_tv (ev_call (as := [.inl (tD ks)]) (en1 := E (some p2) (some (tD ks)) (some (tD js)) r f) rfl rfl (signs_right_ok T) rfl))) rfl (ev_not (b := true) (ev_tv (ev_call (as := [.inl (tD js)]) (en1 := E (some p2) (some (tD ks)) (some (tD js)) r f) rfl rfl (signs_right_ok U) rfl)))) rfl rfl)
    (ev_seq (en1 := E (some p3) (some (tD ks)) (some (tD js)) (some (rowN rs)) f) (ev_set (ev_call (as := [.inr 2, .inl (tD ks), .inl (.int 60)]) (en1 := E (some p2) (some (tD ks)) (some (tD js)) r f) rfl rfl e5 rfl) rfl)
    (ev_seq (en1 := E (some p3) (some (tD ks)) (some (tD js)) (some (rowN rs)) f) (ev_ifF (b := false) (ev_not (b := true) (ev_tv (ev_call (as := [.inl (tD ks), .inl (rowN rs), .inl (tD js)]) (en1 := E (some p3) (some (tD ks)) (some (tD js)) (some (rowN rs)) f) rfl rfl (rows_right_ok T U hr1 hr2) rfl))) rfl rfl)
    (ev_seq (en1 := E (some p4) (some (tD ks)) (some (tD js)) (some (rowN rs)) (some (rowN fs))) (ev_set (ev_call (as := [.inr 2, .inl (tD ks), .inl (.int 200)]) (en1 := E (some p3) (some (tD ks)) (some (tD js)) (some (rowN rs)) f) rfl rfl e6 rfl) rfl)
    (ev_seq (en1 := E (some p4) (some (tD ks)) (some (tD js)) (some (rowN rs)) (some (rowN fs))) (ev_ifF (b := false) (ev_tv (ev_2 (ev_n (ts := [.str (spl ks fs)]) (ev_ac (ev_call (as := [.inl (tD ks), .inl (rowN fs)]) (en1 := E (some p4) (some (tD ks)) (some (tD js)) (some (rowN rs)) (some (rowN fs))) rfl rfl w1 rfl) rfl) rfl rf) (ev_n (ts := [.str (spl ks fs)]) (ev_ac (ev_call (as := [.inl (tD ks), .inl (rowN fs)]) (en1 := E (some p4) (some (tD ks)) (some (tD js)) (some (rowN rs)) (some (rowN fs))) rfl rfl w2 rfl) rfl) rfl rf) (ne_same rfl (Nat.zero_le _)))) rfl rfl) ?_)))))))
  exact ev_for it2 eg
theorem law_true : lawT Flaw := by
  intro ns hns
  let E (t p k j r f a b c d : Option D) : En := [some (.list (ns.map .int)), t, p, k, j, r, f, a, b, c, d]
  obtain ⟨en', ef, t, p, k, j, r, f, a, b, c, d, rfl⟩ := forF_all (g := gN 1) (b := outB) (ts := (List.range 3).map fun k => .int (0 + (k : Nat))) (fun _ en => ∃ t p k j r f a b c d, en = E t p k j r f a b c d)
    (fun i t en ht ⟨t0, p0, k0, j0, r0, f0, a0, b0, c0, d0, he⟩ => by
      subst he
      obtain ⟨hi, rfl⟩ := item0 ht
      obtain ⟨p', k', j', r', f', a', b', c', d', e⟩ := out_ok ns (i := i) (p := p0) (k := k0) (j := j0) (r := r0) (f := f0) (a := a0) (b := b0) (c := c0) (d := d0)
      exact ⟨_, _, rfl, .inl e, _, _, _, _, _, _, _, _, _, _, rfl⟩)
    (en := E none none none none none none none none none none) ⟨none, none, none, none, none, none, none, none, none, none, rfl⟩
  refine ⟨_, fnF_rt (b := Blaw) (en := E t p k j r f a b c d) ?_⟩
  exact ev_seq (ev_for (Mch.ev_rng1 (n := 3) (en1 := E none none none none none none none none none none) rfl (by decide)) ef) rfl
end W02
set_option Elab.async false
set_option linter.all false
set_option maxRecDepth 100000
set_option maxHeartbeats 4000000
namespace W02
open PySem L2
theorem all_mk {l : PySem.W.OpenLaw} {w : World} {K : PySem.W.Frag} {h : Heap} {mg : Str → Option Value} {fa f0 f1 f2 f3 f4 f5 f6 f7 f8 f9 f10 f11 f12 f13 f14 f15 f16 f17 : Addr} (X : K.In h) (G : h.Ns mainGlobals mg) (hfa : mg "law" = some (.ref fa))
    {od0 an0 od1 an1 od2 an2 od3 an3 od4 an4 od5 an5 od6 an6 od7 an7 od8 an8 od9 an9 od10 an10 od11 an11 od12 an12 od13 an13 od14 an14 od15 an15 od16 an16 od17 an17 : Option Addr} {sl0 sl1 sl2 sl3 sl4 sl5 sl6 sl7 sl8 sl9 sl10 sl11 sl12 sl13 sl14 sl15 sl16 sl17 : Array (Option Value)} {oc0 kV0 dc0 pm0 cd0 ct0 oc1 kV1 dc1 pm1 cd1 ct1 oc2 kV2 dc2 pm2 cd2 ct2 oc3 kV3 dc3 pm3 cd3 ct3 oc4 kV4 dc4 pm4 cd4 ct4 oc5 kV5 dc5 pm5 cd5 ct5 oc6 kV6 dc6 pm6 cd6 ct6 oc7 kV7 dc7 pm7 cd7 ct7 oc8 kV8 dc8 pm8 cd8 ct8 oc9 kV9 dc9 pm9 cd9 ct9 oc10 kV10 dc10 pm10 cd10 ct10 oc11 kV11 dc11 pm11 cd11 ct11 oc12 kV12 dc12 pm12 cd12 ct12 oc13 kV13 dc13 pm13 cd13 ct13 oc14 kV14 dc14 pm14 cd14 ct14 oc15 kV15 dc15 pm15 cd15 ct15 oc16 kV16 dc16 pm16 cd16 ct16 oc17 kV17 dc17 pm17 cd17 ct17 : Value} {tk0 : Tok}
    (a0 : PySem.W.nsIn K mainGlobals "signs_of" = some (some (.ref f0))) (l0 : K.lookup f0 = some ⟨oc0, od0, .func (PySem.W.fnOf "signs_of" "signs_of" (defArgs Ssigns_of) (defBody Ssigns_of) (defScope Ssigns_of) .none kV0 dc0 pm0 an0 cd0 ct0), sl0⟩) (c0 : PySem.W.codeIn K cd0 "signs_of" = true) (k0 : PySem.W.keepIn K (.ref f0) = true)
    (a1 : PySem.W.nsIn K mainGlobals "is_word" = some (some (.ref f1))) (l1 : K.lookup f1 = some ⟨oc1, od1, .func (PySem.W.fnOf "is_word" "is_word" (defArgs Sis_word) (defBody Sis_word) (defScope Sis_word) .none kV1 dc1 pm1 an1 cd1 ct1), sl1⟩) (c1 : PySem.W.codeIn K cd1 "is_word" = true) (k1 : PySem.W.keepIn K (.ref f1) = true)
    (a2 : PySem.W.nsIn K mainGlobals "kind_of" = some (some (.ref f2))) (l2 : K.lookup f2 = some ⟨oc2, od2, .func (PySem.W.fnOf "kind_of" "kind_of" (defArgs Skind_of) (defBody Skind_of) (defScope Skind_of) .none kV2 dc2 pm2 an2 cd2 ct2), sl2⟩) (c2 : PySem.W.codeIn K cd2 "kind_of" = true) (k2 : PySem.W.keepIn K (.ref f2) = true)
    (a3 : PySem.W.nsIn K mainGlobals "row_of" = some (some (.ref f3))) (l3 : K.lookup f3 = some ⟨oc3, od3, .func (PySem.W.fnOf "row_of" "row_of" (defArgs Srow_of) (defBody Srow_of) (defScope Srow_of) .none kV3 dc3 pm3 an3 cd3 ct3), sl3⟩) (c3 : PySem.W.codeIn K cd3 "row_of" = true) (k3 : PySem.W.keepIn K (.ref f3) = true)
    (a4 : PySem.W.nsIn K mainGlobals "word_of" = some (some (.ref f4))) (l4 : K.lookup f4 = some ⟨oc4, od4, .func (PySem.W.fnOf "word_of" "word_of" (defArgs Sword_of) (defBody Sword_of) (defScope Sword_of) .none kV4 dc4 pm4 an4 cd4 ct4), sl4⟩) (c4 : PySem.W.codeIn K cd4 "word_of" = true) (k4 : PySem.W.keepIn K (.ref f4) = true)
    (a5 : PySem.W.nsIn K mainGlobals "_law_pen" = some (some (.ref f5))) (l5 : K.lookup f5 = some ⟨oc5, od5, .func (PySem.W.fnOf "_law_pen" "_law_pen" (defArgs S_law_pen) (defBody S_law_pen) (defScope S_law_pen) .none kV5 dc5 pm5 an5 cd5 ct5), sl5⟩) (c5 : PySem.W.codeIn K cd5 "_law_pen" = true) (k5 : PySem.W.keepIn K (.ref f5) = true)
    (a6 : PySem.W.nsIn K mainGlobals "_law_draw" = some (some (.ref f6))) (l6 : K.lookup f6 = some ⟨oc6, od6, .func (PySem.W.fnOf "_law_draw" "_law_draw" (defArgs S_law_draw) (defBody S_law_draw) (defScope S_law_draw) .none kV6 dc6 pm6 an6 cd6 ct6), sl6⟩) (c6 : PySem.W.codeIn K cd6 "_law_draw" = true) (k6 : PySem.W.keepIn K (.ref f6) = true)
    (a7 : PySem.W.nsIn K mainGlobals "_law_every" = some (some (.ref f7))) (l7 : K.lookup f7 = some ⟨oc7, od7, .func (PySem.W.fnOf "_law_every" "_law_every" (defArgs S_law_every) (defBody S_law_every) (defScope S_law_every) .none kV7 dc7 pm7 an7 cd7 ct7), sl7⟩) (c7 : PySem.W.codeIn K cd7 "_law_every" = true) (k7 : PySem.W.keepIn K (.ref f7) = true)
    (a8 : PySem.W.nsIn K mainGlobals "_law_unlike" = some (some (.ref f8))) (l8 : K.lookup f8 = some ⟨oc8, od8, .func (PySem.W.fnOf "_law_unlike" "_law_unlike" (defArgs S_law_unlike) (defBody S_law_unlike) (defScope S_law_unlike) .none kV8 dc8 pm8 an8 cd8 ct8), sl8⟩) (c8 : PySem.W.codeIn K cd8 "_law_unlike" = true) (k8 : PySem.W.keepIn K (.ref f8) = true)
    (a9 : PySem.W.nsIn K mainGlobals "_law_tongue" = some (some (.ref f9))) (l9 : K.lookup f9 = some ⟨oc9, od9, .func (PySem.W.fnOf "_law_tongue" "_law_tongue" (defArgs S_law_tongue) (defBody S_law_tongue) (defScope S_law_tongue) .none kV9 dc9 pm9 an9 cd9 ct9), sl9⟩) (c9 : PySem.W.codeIn K cd9 "_law_tongue" = true) (k9 : PySem.W.keepIn K (.ref f9) = true)
    (a10 : PySem.W.nsIn K mainGlobals "_law_row" = some (some (.ref f10))) (l10 : K.lookup f10 = some ⟨oc10, od10, .func (PySem.W.fnOf "_law_row" "_law_row" (defArgs S_law_row) (defBody S_law_row) (defScope S_law_row) .none kV10 dc10 pm10 an10 cd10 ct10), sl10⟩) (c10 : PySem.W.codeIn K cd10 "_law_row" = true) (k10 : PySem.W.keepIn K (.ref f10) = true)
    (a11 : PySem.W.nsIn K mainGlobals "_law_spelt" = some (some (.ref f11))) (l11 : K.lookup f11 = some ⟨oc11, od11, .func (PySem.W.fnOf "_law_spelt" "_law_spelt" (defArgs S_law_spelt) (defBody S_law_spelt) (defScope S_law_spelt) .none kV11 dc11 pm11 an11 cd11 ct11), sl11⟩) (c11 : PySem.W.codeIn K cd11 "_law_spelt" = true) (k11 : PySem.W.keepIn K (.ref f11) = true)
    (a12 : PySem.W.nsIn K mainGlobals "_law_whole" = some (some (.ref f12))) (l12 : K.lookup f12 = some ⟨oc12, od12, .func (PySem.W.fnOf "_law_whole" "_law_whole" (defArgs S_law_whole) (defBody S_law_whole) (defScope S_law_whole) .none kV12 dc12 pm12 an12 cd12 ct12), sl12⟩) (c12 : PySem.W.codeIn K cd12 "_law_whole" = true) (k12 : PySem.W.keepIn K (.ref f12) = true)
    (a13 : PySem.W.nsIn K mainGlobals "_law_signs_right" = some (some (.ref f13))) (l13 : K.lookup f13 = some ⟨oc13, od13, .func (PySem.W.fnOf "_law_signs_right" "_law_signs_right" (defArgs S_law_signs_right) (defBody S_law_signs_right) (defScope S_law_signs_right) .none kV13 dc13 pm13 an13 cd13 ct13), sl13⟩) (c13 : PySem.W.codeIn K cd13 "_law_signs_right" = true) (k13 : PySem.W.keepIn K (.ref f13) = true)
    (a14 : PySem.W.nsIn K mainGlobals "_law_rows_right" = some (some (.ref f14))) (l14 : K.lookup f14 = some ⟨oc14, od14, .func (PySem.W.fnOf "_law_rows_right" "_law_rows_right" (defArgs S_law_rows_right) (defBody S_law_rows_right) (defScope S_law_rows_right) .none kV14 dc14 pm14 an14 cd14 ct14), sl14⟩) (c14 : PySem.W.codeIn K cd14 "_law_rows_right" = true) (k14 : PySem.W.keepIn K (.ref f14) = true)
    (a15 : PySem.W.nsIn K mainGlobals "_law_is_word" = some (some (.ref f15))) (l15 : K.lookup f15 = some ⟨oc15, od15, .func (PySem.W.fnOf "_law_is_word" "_law_is_word" (defArgs S_law_is_word) (defBody S_law_is_word) (defScope S_law_is_word) .none kV15 dc15 pm15 an15 cd15 ct15), sl15⟩) (c15 : PySem.W.codeIn K cd15 "_law_is_word" = true) (k15 : PySem.W.keepIn K (.ref f15) = true)
    (a16 : PySem.W.nsIn K mainGlobals "_law_things" = some (some (.ref f16))) (l16 : K.lookup f16 = some ⟨oc16, od16, .func (PySem.W.fnOf "_law_things" "_law_things" (defArgs S_law_things) (defBody S_law_things) (defScope S_law_things) .none kV16 dc16 pm16 an16 cd16 ct16), sl16⟩) (c16 : PySem.W.codeIn K cd16 "_law_things" = true) (k16 : PySem.W.keepIn K (.ref f16) = true)
    (a17 : PySem.W.nsIn K mainGlobals "law" = some (some (.ref f17))) (l17 : K.lookup f17 = some ⟨oc17, od17, .func (PySem.W.fnOf "law" "law" (defArgs Slaw) (defBody Slaw) (defScope Slaw) .none kV17 dc17 pm17 an17 cd17 ct17), sl17⟩) (c17 : PySem.W.codeIn K cd17 "law" = true) (k17 : PySem.W.keepIn K (.ref f17) = true)
    (y0 : PySem.W.nsIn K mainGlobals "MOST_SIGNS_OF_A_WORD" = some (some (.int 60 tk0)))
    (z0 : PySem.W.nsIn K mainGlobals "abs" = some none)
    (z1 : PySem.W.nsIn K mainGlobals "all" = some none)
    (z2 : PySem.W.nsIn K mainGlobals "bool" = some none)
    (z3 : PySem.W.nsIn K mainGlobals "enumerate" = some none)
    (z4 : PySem.W.nsIn K mainGlobals "int" = some none)
    (z5 : PySem.W.nsIn K mainGlobals "isinstance" = some none)
    (z6 : PySem.W.nsIn K mainGlobals "len" = some none)
    (z7 : PySem.W.nsIn K mainGlobals "list" = some none)
    (z8 : PySem.W.nsIn K mainGlobals "min" = some none)
    (z9 : PySem.W.nsIn K mainGlobals "range" = some none)
    (z10 : PySem.W.nsIn K mainGlobals "repr" = some none)
    (z11 : PySem.W.nsIn K mainGlobals "str" = some none)
    (z12 : PySem.W.nsIn K mainGlobals "sum" = some none)
    (z13 : PySem.W.nsIn K mainGlobals "tuple" = some none) :
    ∃ fd : FuncData, (∀ (s : Shared) (v : Value), BindsTo s fd ⟨[v], []⟩ [("_law_script", v)]) ∧ ∀ base : Heap, K.In base → base.Ns mainGlobals mg → FnOk l.prog w K mg base CX0 4 fa fd ["_law_script"] (spLawF K) := by
  have e := hfa.symm.trans (PySem.W.mg_of X G a17)
  cases e
  have F0 := fun_mk (st := Ssigns_of) l0 c0 k0
  have m0 := PySem.W.mg_of X G a0
  have b0 := F0.binds (ps := ["tongue"]) fun _ _ _ _ _ _ us hl => match us, hl with | [_], _ => rfl
  have F1 := fun_mk (st := Sis_word) l1 c1 k1
  have m1 := PySem.W.mg_of X G a1
  have b1 := F1.binds (ps := ["tongue", "thing"]) fun _ _ _ _ _ _ us hl => match us, hl with | [_, _], _ => rfl
  have F2 := fun_mk (st := Skind_of) l2 c2 k2
  have m2 := PySem.W.mg_of X G a2
  have b2 := F2.binds (ps := ["tongue", "sign"]) fun _ _ _ _ _ _ us hl => match us, hl with | [_, _], _ => rfl
  have F3 := fun_mk (st := Srow_of) l3 c3 k3
  have m3 := PySem.W.mg_of X G a3
  have b3 := F3.binds (ps := ["tongue", "word"]) fun _ _ _ _ _ _ us hl => match us, hl with | [_, _], _ => rfl
  have F4 := fun_mk (st := Sword_of) l4 c4 k4
  have m4 := PySem.W.mg_of X G a4
  have b4 := F4.binds (ps := ["tongue", "row"]) fun _ _ _ _ _ _ us hl => match us, hl with | [_, _], _ => rfl
  have F5 := fun_mk (st := S_law_pen) l5 c5 k5
  have m5 := PySem.W.mg_of X G a5
  have b5 := F5.binds (ps := ["_law_script", "_law_k"]) fun _ _ _ _ _ _ us hl => match us, hl with | [_, _], _ => rfl
  have F6 := fun_mk (st := S_law_draw) l6 c6 k6
  have m6 := PySem.W.mg_of X G a6
  have b6 := F6.binds (ps := ["_law_pen_here", "_law_many"]) fun _ _ _ _ _ _ us hl => match us, hl with | [_, _], _ => rfl
  have F7 := fun_mk (st := S_law_every) l7 c7 k7
  have m7 := PySem.W.mg_of X G a7
  have b7 := F7.binds (ps := []) fun _ _ _ _ _ _ us hl => match us, hl with | [], _ => rfl
  have F8 := fun_mk (st := S_law_unlike) l8 c8 k8
  have m8 := PySem.W.mg_of X G a8
  have b8 := F8.binds (ps := ["_law_pen_here", "_law_many"]) fun _ _ _ _ _ _ us hl => match us, hl with | [_, _], _ => rfl
  have F9 := fun_mk (st := S_law_tongue) l9 c9 k9
  have m9 := PySem.W.mg_of X G a9
  have b9 := F9.binds (ps := ["_law_pen_here"]) fun _ _ _ _ _ _ us hl => match us, hl with | [_], _ => rfl
  have F10 := fun_mk (st := S_law_row) l10 c10 k10
  have m10 := PySem.W.mg_of X G a10
  have b10 := F10.binds (ps := ["_law_pen_here", "_law_tongue_here", "_law_most"]) fun _ _ _ _ _ _ us hl => match us, hl with | [_, _, _], _ => rfl
  have F11 := fun_mk (st := S_law_spelt) l11 c11 k11
  have m11 := PySem.W.mg_of X G a11
  have b11 := F11.binds (ps := ["_law_tongue_here", "_law_row_here"]) fun _ _ _ _ _ _ us hl => match us, hl with | [_, _], _ => rfl
  have F12 := fun_mk (st := S_law_whole) l12 c12 k12
  have m12 := PySem.W.mg_of X G a12
  have b12 := F12.binds (ps := ["_law_found"]) fun _ _ _ _ _ _ us hl => match us, hl with | [_], _ => rfl
  have F13 := fun_mk (st := S_law_signs_right) l13 c13 k13
  have m13 := PySem.W.mg_of X G a13
  have b13 := F13.binds (ps := ["_law_tongue_here"]) fun _ _ _ _ _ _ us hl => match us, hl with | [_], _ => rfl
  have F14 := fun_mk (st := S_law_rows_right) l14 c14 k14
  have m14 := PySem.W.mg_of X G a14
  have b14 := F14.binds (ps := ["_law_tongue_here", "_law_row_here", "_law_other"]) fun _ _ _ _ _ _ us hl => match us, hl with | [_, _, _], _ => rfl
  have F15 := fun_mk (st := S_law_is_word) l15 c15 k15
  have m15 := PySem.W.mg_of X G a15
  have b15 := F15.binds (ps := ["_law_tongue_here", "_law_thing"]) fun _ _ _ _ _ _ us hl => match us, hl with | [_, _], _ => rfl
  have F16 := fun_mk (st := S_law_things) l16 c16 k16
  have m16 := PySem.W.mg_of X G a16
  have b16 := F16.binds (ps := ["_law_pen_here", "_law_tongue_here", "_law_other", "_law_word"]) fun _ _ _ _ _ _ us hl => match us, hl with | [_, _, _, _], _ => rfl
  have F17 := fun_mk (st := Slaw) l17 c17 k17
  have m17 := PySem.W.mg_of X G a17
  have v0 := PySem.W.mg_of X G y0
  have T : Bl mg := ⟨PySem.W.mg_none_of X G z0, PySem.W.mg_none_of X G z1, PySem.W.mg_none_of X G z2, PySem.W.mg_none_of X G z3, PySem.W.mg_none_of X G z4, PySem.W.mg_none_of X G z5, PySem.W.mg_none_of X G z6, PySem.W.mg_none_of X G z7, PySem.W.mg_none_of X G z8, PySem.W.mg_none_of X G z9, PySem.W.mg_none_of X G z10, PySem.W.mg_none_of X G z11, PySem.W.mg_none_of X G z12, PySem.W.mg_none_of X G z13⟩
  refine ⟨PySem.W.fnOf "law" "law" (defArgs Slaw) (defBody Slaw) (defScope Slaw) .none kV17 dc17 pm17 an17 cd17 ct17, fun s v => .of_eq rfl, fun base _ _ => ?_⟩
  have g0 : Kn l.prog w K mg base 1 "signs_of" ["tongue"] (spF K [0] 3 Fsigns_of) := ⟨_, _, oksigns_of (k := 0) T   F0, m0, k0, b0⟩
  have g1 : Kn l.prog w K mg base 2 "is_word" ["tongue", "thing"] (spF K [0, 0] 3 Fis_word) := ⟨_, _, okis_word (k := 1) T v0 (g0.mono (by decide)) F1, m1, k1, b1⟩
  have g2 : Kn l.prog w K mg base 1 "kind_of" ["tongue", "sign"] (spF K [0, 0] 0 Fkind_of) := ⟨_, _, okkind_of (k := 0) T   F2, m2, k2, b2⟩
  have g3 : Kn l.prog w K mg base 2 "row_of" ["tongue", "word"] (spF K [0, 0] 3 Frow_of) := ⟨_, _, okrow_of (k := 1) T  (g0.mono (by decide)) F3, m3, k3, b3⟩
  have g4 : Kn l.prog w K mg base 2 "word_of" ["tongue", "row"] (spF K [0, 0] 3 Fword_of) := ⟨_, _, okword_of (k := 1) T  (g0.mono (by decide)) F4, m4, k4, b4⟩
  have g5 : Kn l.prog w K mg base 1 "_law_pen" ["_law_script", "_law_k"] (spF K [0, 0] 3 F_law_pen) := ⟨_, _, ok_law_pen (k := 0) T   F5, m5, k5, b5⟩
  have g6 : Kn l.prog w K mg base 1 "_law_draw" ["_law_pen_here", "_law_many"] (spF K [1, 0] 0 F_law_draw) := ⟨_, _, ok_law_draw (k := 0) T   F6, m6, k6, b6⟩
  have g7 : Kn l.prog w K mg base 1 "_law_every" [] (spF K [] 3 F_law_every) := ⟨_, _, ok_law_every (k := 0) T   F7, m7, k7, b7⟩
  have g8 : Kn l.prog w K mg base 2 "_law_unlike" ["_law_pen_here", "_law_many"] (spF K [1, 0] 1 F_law_unlike) := ⟨_, _, ok_law_unlike (k := 1) T  (g7.mono (by decide)) (g6.mono (by decide)) F8, m8, k8, b8⟩
  have g9 : Kn l.prog w K mg base 3 "_law_tongue" ["_law_pen_here"] (spF K [1] 0 F_law_tongue) := ⟨_, _, ok_law_tongue (k := 2) T  (g6.mono (by decide)) (g8.mono (by decide)) F9, m9, k9, b9⟩
  have g10 : Kn l.prog w K mg base 2 "_law_row" ["_law_pen_here", "_law_tongue_here", "_law_most"] (spF K [1, 0, 0] 1 F_law_row) := ⟨_, _, ok_law_row (k := 1) T  (g6.mono (by decide)) F10, m10, k10, b10⟩
  have g11 : Kn l.prog w K mg base 1 "_law_spelt" ["_law_tongue_here", "_law_row_here"] (spF K [0, 0] 0 F_law_spelt) := ⟨_, _, ok_law_spelt (k := 0) T   F11, m11, k11, b11⟩
  have g12 : Kn l.prog w K mg base 1 "_law_whole" ["_law_found"] (spF K [0] 3 F_law_whole) := ⟨_, _, ok_law_whole (k := 0) T   F12, m12, k12, b12⟩
  have g13 : Kn l.prog w K mg base 2 "_law_signs_right" ["_law_tongue_here"] (spF K [0] 3 F_law_signs_right) := ⟨_, _, ok_law_signs_right (k := 1) T  (g2.mono (by decide)) (g0.mono (by decide)) (g12.mono (by decide)) F13, m13, k13, b13⟩
  have g14 : Kn l.prog w K mg base 3 "_law_rows_right" ["_law_tongue_here", "_law_row_here", "_law_other"] (spF K [0, 0, 0] 3 F_law_rows_right) := ⟨_, _, ok_law_rows_right (k := 2) T  (g11.mono (by decide)) (g3.mono (by decide)) (g4.mono (by decide)) F14, m14, k14, b14⟩
  have g15 : Kn l.prog w K mg base 1 "_law_is_word" ["_law_tongue_here", "_law_thing"] (spF K [0, 0] 3 F_law_is_word) := ⟨_, _, ok_law_is_word (k := 0) T   F15, m15, k15, b15⟩
  have g16 : Kn l.prog w K mg base 3 "_law_things" ["_law_pen_here", "_law_tongue_here", "_law_other", "_law_word"] (spF K [1, 0, 0, 0] 0 F_law_things) := ⟨_, _, ok_law_things (k := 2) T  (g6.mono (by decide)) (g8.mono (by decide)) F16, m16, k16, b16⟩
  exact (oklaw (k := 3) T  (g5.mono (by decide)) (g9.mono (by decide)) (g10.mono (by decide)) (g16.mono (by decide)) (g14.mono (by decide)) (g11.mono (by decide)) (g13.mono (by decide)) (g4.mono (by decide)) (g1.mono (by decide)) (g15.mono (by decide)) F17).imp fun vs H Q E h => law_sp law_true h
theorem walk {l : PySem.W.OpenLaw} {q : Program} {loose : List Str} {XP : (Str → Option Value) → Heap → Prop} {YP : World → Heap → Prop} {d : DefRec} {K : Params → PySem.W.Frag} (hn : l.most = some 63) (hdf : d.params.defaults = [])
    (hY : ∀ (w : World) (h : Heap), YP w h → (K w.params).In h)
    (F : ∀ (w : World) (mg : Str → Option Value) (fa : Addr) (h : Heap), (K w.params).In h → h.Ns mainGlobals mg → mg d.name = some (.ref fa) →
      ∃ fd : FuncData, (∀ (s : Shared) (u : Value), BindsTo s fd ⟨[u], []⟩ [("_law_script", u)]) ∧ ∀ base : Heap, (K w.params).In base → base.Ns mainGlobals mg → FnOk l.prog w (K w.params) mg base CX0 4 fa fd ["_law_script"] (spLawF (K w.params))) :
    PySem.W.WalkO q loose XP YP l.row.toRowW d [] (fun f vs => PySem.call f vs) :=
  L2.walk_of (n := 63) (k := 4) (x := "_law_script") (CX := fun _ => CX0) (sp := fun w => spLawF (K w.params)) hn (by decide) hdf ⟨rfl, by decide, by decide, rfl⟩ hY F (fun _ _ a ns hl hO hS => ⟨a, ns, rfl, hS, hO, hl, fun _ => rfl⟩) fun _ _ _ _ _ z => z
end W02
open PySem PySem.W PyProof.Rows
set_option maxRecDepth 100000 in
set_option maxHeartbeats 0 in
theorem PySem.Challenge.cw_wordrules_k02_signs_kinds_rows_holds : PySem.Challenge.rw_wordrules_k02_signs_kinds_rows.Holds := by
  w_on; o_law; k_head; (case hw => w_witness2)
  k_fill
  refine W02.walk (l := PySem.Challenge.rw_wordrules_k02_signs_kinds_rows) rfl rfl (fun w h Y => PySem.W.kIn_of Y) ?F
  case F =>
    intro w mg fa h KX G hmg
    refine' W02.all_mk KX G hmg ?a0 ?l0 ?c0 ?k0 ?a1 ?l1 ?c1 ?k1 ?a2 ?l2 ?c2 ?k2 ?a3 ?l3 ?c3 ?k3 ?a4 ?l4 ?c4 ?k4 ?a5 ?l5 ?c5 ?k5 ?a6 ?l6 ?c6 ?k6 ?a7 ?l7 ?c7 ?k7 ?a8 ?l8 ?c8 ?k8 ?a9 ?l9 ?c9 ?k9 ?a10 ?l10 ?c10 ?k10 ?a11 ?l11 ?c11 ?k11 ?a12 ?l12 ?c12 ?k12 ?a13 ?l13 ?c13 ?k13 ?a14 ?l14 ?c14 ?k14 ?a15 ?l15 ?c15 ?k15 ?a16 ?l16 ?c16 ?k16 ?a17 ?l17 ?c17 ?k17 ?y0 ?z0 ?z1 ?z2 ?z3 ?z4 ?z5 ?z6 ?z7 ?z8 ?z9 ?z10 ?z11 ?z12 ?z13
    (case a0 => k_is); (case l0 => k_is); (case c0 => k_is); (case k0 => k_is)
    (case a1 => k_is); (case l1 => k_is); (case c1 => k_is); (case k1 => k_is)
    (case a2 => k_is); (case l2 => k_is); (case c2 => k_is); (case k2 => k_is)
    (case a3 => k_is); (case l3 => k_is); (case c3 => k_is); (case k3 => k_is)
    (case a4 => k_is); (case l4 => k_is); (case c4 => k_is); (case k4 => k_is)
    (case a5 => k_is); (case l5 => k_is); (case c5 => k_is); (case k5 => k_is)
    (case a6 => k_is); (case l6 => k_is); (case c6 => k_is); (case k6 => k_is)
    (case a7 => k_is); (case l7 => k_is); (case c7 => k_is); (case k7 => k_is)
    (case a8 => k_is); (case l8 => k_is); (case c8 => k_is); (case k8 => k_is)
    (case a9 => k_is); (case l9 => k_is); (case c9 => k_is); (case k9 => k_is)
    (case a10 => k_is); (case l10 => k_is); (case c10 => k_is); (case k10 => k_is)
    (case a11 => k_is); (case l11 => k_is); (case c11 => k_is); (case k11 => k_is)
    (case a12 => k_is); (case l12 => k_is); (case c12 => k_is); (case k12 => k_is)
    (case a13 => k_is); (case l13 => k_is); (case c13 => k_is); (case k13 => k_is)
    (case a14 => k_is); (case l14 => k_is); (case c14 => k_is); (case k14 => k_is)
    (case a15 => k_is); (case l15 => k_is); (case c15 => k_is); (case k15 => k_is)
    (case a16 => k_is); (case l16 => k_is); (case c16 => k_is); (case k16 => k_is)
    (case a17 => k_is); (case l17 => k_is); (case c17 => k_is); (case k17 => k_is)
    (case y0 => k_is)
    (case z0 => k_is)
    (case z1 => k_is)
    (case z2 => k_is)
    (case z3 => k_is)
    (case z4 => k_is)
    (case z5 => k_is)
    (case z6 => k_is)
    (case z7 => k_is)
    (case z8 => k_is)
    (case z9 => k_is)
    (case z10 => k_is)
    (case z11 => k_is)
    (case z12 => k_is)
    (case z13 => k_is)
