import PyProof.Rows.All
import Wide.All
import OpenK.AllK
import Wide.FinOn
import Lean
import PyProof.EqAt
import PyProof.EqKinds
import PyProof.TupleCall
import PySem.Challenge.RW_fewspeak_k22_so_many_thrown
set_option Elab.async false
set_option linter.all false
set_option maxRecDepth 100000
/-! THE HAND LAYER, for ints, bools, texts, own classes, LISTS and tuples (index, slices, in, append, pop ..), calls, loops. Paste it whole ahead of your own text; what your proof does not reach may be deleted. -/
namespace L2
open PySem PySem.Spec PyProof.Rows

/-- a key: an int or a str -/
noncomputable abbrev Key := Sum Int Str
noncomputable def keyIs : Key → Value → Bool
  | .inl k, v => Value.isInt k v
  | .inr x, v => Value.isStrOf x v
noncomputable def keyH (w : World) : Key → Int
  | .inl k => hashInt k
  | .inr x => hashStr w x
theorem keyIs_shape : ∀ {k : Key} {v : Value}, keyIs k v = true → (∃ i t, k = Sum.inl i ∧ v = Value.int i t) ∨ (∃ x t, k = Sum.inr x ∧ v = Value.str x t)
  | .inl i, v, h => by
    obtain ⟨t, e⟩ := Value.isInt_shape (k := i) (v := v) h
    exact .inl ⟨i, t, rfl, e⟩
  | .inr x, v, h => by
    obtain ⟨t, e⟩ := Value.isStrOf_shape (x := x) (v := v) h
    exact .inr ⟨x, t, rfl, e⟩
theorem keyIs_int (i : Int) (t : Tok) : keyIs (.inl i) (.int i t) = true := by simp [keyIs, Value.isInt]
theorem keyIs_str (x : Str) (t : Tok) : keyIs (.inr x) (.str x t) = true := by simp [keyIs, Value.isStrOf]
theorem key_ll (a b : Int) : decide ((Sum.inl a : Key) = Sum.inl b) = (a == b) := by
  by_cases e : a = b
  · subst e; simp
  · have h : ¬ (Sum.inl a : Key) = Sum.inl b := fun q => e (Sum.inl.inj q)
    rw [decide_eq_false h]
    exact (beq_eq_false_iff_ne.mpr e).symm
theorem key_rr (a b : Str) : decide ((Sum.inr a : Key) = Sum.inr b) = decide (a = b) := by
  by_cases e : a = b
  · subst e; simp
  · have h : ¬ (Sum.inr a : Key) = Sum.inr b := fun q => e (Sum.inr.inj q)
    rw [decide_eq_false h, decide_eq_false e]
theorem key_lr (a : Int) (b : Str) : decide ((Sum.inl a : Key) = Sum.inr b) = false := decide_eq_false (fun q => nomatch q)
theorem key_rl (a : Str) (b : Int) : decide ((Sum.inr a : Key) = Sum.inl b) = false := decide_eq_false (fun q => nomatch q)

noncomputable def mixKind (prog : Program) (w : World) : PySem.KeyKind prog w Key where
  is := keyIs
  hash := keyH w
  inj := fun v a b ha hb => by
    rcases keyIs_shape ha with ⟨i, t, rfl, rfl⟩ | ⟨x, t, rfl, rfl⟩
    · rcases keyIs_shape hb with ⟨j, u, rfl, e⟩ | ⟨y, u, rfl, e⟩
      · injection e with e1 _; rw [e1]
      · exact nomatch e
    · rcases keyIs_shape hb with ⟨j, u, rfl, e⟩ | ⟨y, u, rfl, e⟩
      · exact nomatch e
      · injection e with e1 _; rw [e1]
  byValue := fun k v h => by
    rcases keyIs_shape h with ⟨i, t, rfl, rfl⟩ | ⟨x, t, rfl, rfl⟩ <;> rfl
  pyHash := fun hv h => by
    rcases keyIs_shape hv with ⟨i, t, rfl, rfl⟩ | ⟨x, t, rfl, rfl⟩
    · exact wpAny_pyHash_int h
    · exact wpAny_pyHash_str h
  eqBool := fun hu hv h => by
    rcases keyIs_shape hu with ⟨i, t, rfl, rfl⟩ | ⟨x, t, rfl, rfl⟩
    · rcases keyIs_shape hv with ⟨j, u, rfl, rfl⟩ | ⟨y, u, rfl, rfl⟩
      · rw [key_ll] at h; exact wpAny_eqBool_int h
      · rw [key_lr] at h; exact SeqAt.EqAt.int_str i t y u _ _ _ _ h
    · rcases keyIs_shape hv with ⟨j, u, rfl, rfl⟩ | ⟨y, u, rfl, rfl⟩
      · rw [key_rl] at h; exact SeqAt.EqAt.str_int x t j u _ _ _ _ h
      · rw [key_rr] at h; exact wpAny_eqBool_str h
  «strs» := fun k x t v h => by
    rcases keyIs_shape h with ⟨i, u, rfl, e⟩ | ⟨y, u, rfl, e⟩
    · exact nomatch e
    · injection e with e1 _
      subst e1
      cases v <;> rfl

theorem mixKind_int (prog : Program) (w : World) (i : Int) (t : Tok) : (mixKind prog w).is (.inl i) (.int i t) = true := keyIs_int i t
theorem mixKind_str (prog : Program) (w : World) (x : Str) (t : Tok) : (mixKind prog w).is (.inr x) (.str x t) = true := keyIs_str x t
end L2

namespace L2
open PySem PySem.Spec PyProof.Rows

/-- a value, without the heap -/
inductive V where
  | non | bl (b : Bool) | int (i : Int) | str (x : Str) | byt (b : Array UInt8) | flt (b : UInt64) | ref (a : Addr) | ty (n : String)
  deriving DecidableEq

noncomputable def RelV : V → Value → Prop
  | .non, u => u = Value.none
  | .bl b, u => u = Value.bool b
  | .int i, u => ∃ t, u = Value.int i t
  | .str x, u => ∃ t, u = Value.str x t
  | .byt b, u => ∃ t, u = Value.bytes b t
  | .flt b, u => ∃ t, u = Value.float b t
  | .ref a, u => u = Value.ref a
  | .ty n, u => u = Value.type n

noncomputable abbrev Vals : List V → List Value → Prop := Paired RelV
theorem Vals.length {xs : List V} {us : List Value} (r : Vals xs us) : xs.length = us.length := Paired.length r
theorem Vals.get : ∀ {xs : List V} {us : List Value} {i : Nat} {x : V}, Vals xs us → xs[i]? = some x → ∃ u, us[i]? = some u ∧ RelV x u
  | _, _, _, _, .nil, e => by simp at e
  | _, _, 0, _, .cons r _, e => by simp at e; subst e; exact ⟨_, rfl, r⟩
  | _, _, i + 1, x, .cons _ t, e => by
    obtain ⟨u, h1, h2⟩ := Vals.get (i := i) (x := x) t (by simpa using e)
    exact ⟨u, by simpa using h1, h2⟩
theorem Vals.set {x : V} {u : Value} (r : RelV x u) : ∀ {xs : List V} {us : List Value} (i : Nat), Vals xs us → Vals (xs.set i x) (us.set i u)
  | _, _, _, .nil => .nil
  | _, _, 0, .cons _ t => .cons r t
  | _, _, i + 1, .cons q t => .cons q (Vals.set r i t)
theorem Vals.append : ∀ {xs ys : List V} {us ws : List Value}, Vals xs us → Vals ys ws → Vals (xs ++ ys) (us ++ ws)
  | _, _, _, _, .nil, s => s
  | _, _, _, _, .cons r t, s => .cons r (Vals.append t s)
theorem Vals.take : ∀ {xs : List V} {us : List Value} (n : Nat), Vals xs us → Vals (xs.take n) (us.take n)
  | _, _, 0, _ => .nil
  | _, _, _ + 1, .nil => .nil
  | _, _, n + 1, .cons r t => .cons r (Vals.take n t)
theorem Vals.drop : ∀ {xs : List V} {us : List Value} (n : Nat), Vals xs us → Vals (xs.drop n) (us.drop n)
  | _, _, 0, r => r
  | _, _, _ + 1, .nil => .nil
  | _, _, n + 1, .cons _ t => Vals.drop n t
theorem Vals.none_of : ∀ {xs : List V} {us : List Value} {i : Nat}, Vals xs us → xs[i]? = none → us[i]? = none := fun {xs us i} r e => by
  have h1 := r.length
  have h2 : xs.length ≤ i := List.getElem?_eq_none_iff.mp e
  exact List.getElem?_eq_none_iff.mpr (by omega)

noncomputable def RelO : Option V → Option Value → Prop
  | some v, some u => RelV v u
  | none, none => True
  | _, _ => False
noncomputable def KV {κ : Type} : List (κ × V) → List (κ × Value) → Prop := Paired fun (p : κ × V) (q : κ × Value) => p.1 = q.1 ∧ RelV p.2 q.2

/-- a key of a dict (00_mix): an int or a text -/
noncomputable def kV : Key → V
  | .inl i => .int i
  | .inr x => .str x

/-- what stands at a tracked address -/
inductive HO where
  /-- a list -/
  | lst (xs : List V)
  /-- a tuple (never changes) -/
  | tup (xs : List V)
  /-- a dict whose keys are ints and texts; one whose keys are tuples of ints and texts (the empty one is both) -/
  | dK (kvs : List (Key × V)) | dT (kvs : List (List Key × V))
  /-- a set of ints: its members, its size -/
  | set (S : Int → Bool) (n : Nat)
  /-- an instance of the class at C, its dict at dx, its attributes -/
  | ins (C dx : Addr) (fs : List (Str × V))
  /-- the dict of the instance at x -/
  | own (x : Addr)
  /-- the dict of an exception -/
  | xd (fs : List (Str × V))
  /-- a bound method, f of x -/
  | met (f x : Addr)
  /-- a range object lo, lo + 1, .. below hi -/
  | rng (lo hi : Int)
  /-- a thing that is known to the object (the script; a dict while a loop walks it): read, never written while it is so -/
  | frz (o : Obj) (u : HO)
  /-- a code object's table -/
  | tbl (ps : Array Value)
  /-- any other thing, by what is true of its one object (a def of one's own: SetO a S n := HO.ext fun h => ..) -/
  | ext (φ : Heap → Prop)

noncomputable abbrev Hp := Addr → Option HO
noncomputable def upd (H : Hp) (a : Addr) (o : HO) : Hp := fun b => if b = a then some o else H b
theorem upd_same {H : Hp} {a : Addr} {o : HO} : upd H a o a = some o := by unfold upd; rw [if_pos rfl]
theorem upd_ne {H : Hp} {a b : Addr} {o : HO} (h : b ≠ a) : upd H a o b = H b := by unfold upd; rw [if_neg h]
theorem upd_upd {H : Hp} {a : Addr} {o u : HO} : upd (upd H a o) a u = upd H a u := by
  funext b; unfold upd; split <;> rfl
/-- two objects of different content stand apart -/
theorem ne_of {H : Hp} {a b : Addr} {o u : HO} (h : H a = some o) (h' : H b = some u) (d : o ≠ u) : a ≠ b := by
  intro e; subst e; rw [h] at h'; exact d (Option.some.inj h')
theorem ne_of_none {H : Hp} {a b : Addr} {o : HO} (h : H a = some o) (h' : H b = none) : a ≠ b := by
  intro e; subst e; rw [h] at h'; cases h'

section
variable (P : Program) (w : World)
noncomputable def ObjOk (H : Hp) (h : Heap) (a : Addr) : HO → Prop
  | .lst xs => xs.length ≤ sizeLine ∧ ∃ (its : List Value) (n : Nat), Vals xs its ∧ h.get? a = some { cls := .type "list", data := .seq its.toArray n }
  | .tup xs => xs.length ≤ sizeLine ∧ ∃ its : List Value, Vals xs its ∧ IsTup h a its.toArray
  | .dK kvs => kvs.length ≤ sizeLine ∧ (a == sysModules) = false ∧ ∃ vs, KV kvs vs ∧ h.DictOf (mixKind P w) a vs
  | .dT kvs => kvs.length ≤ sizeLine ∧ (a == sysModules) = false ∧ ∃ xs : List (List Key × Addr × Value),
      Paired (fun (p : List Key × V) (q : List Key × Addr × Value) => p.1 = q.1 ∧ H q.2.1 = some (.tup (p.1.map kV)) ∧ RelV p.2 q.2.2) kvs xs ∧
      ∃ o es ep, h.get? a = some o ∧ o.ExactDict ∧ o.data = .dict es ep ∧ es.toList = xs.map (entryOfKey (tupleKind (mixKind P w))) ∧ (xs.map (·.1)).Nodup
  | .set S n => h.SetOf (intKind P w) a S n
  | .ins C dx fs => H dx = some (.own a) ∧ fs.length ≤ 1000 ∧ dx ≠ a ∧ h.get? a = some (PySem.W.instObj C dx) ∧
      ∃ mA, h.Ns1 dx mA ∧ (∀ f, RelO (fs.lookup f) (mA f)) ∧ PySem.Within mA (fs.map (·.1))
  | .own _ => ∃ o, h.get? a = some o
  | .xd fs => ∃ mA, h.Ns1 a mA ∧ ∀ f, RelO (fs.lookup f) (mA f)
  | .rng lo hi => ∃ t u v, h.get? a = some { cls := .type "range", data := .fields #[.int lo t, .int hi u, .int 1 v] }
  | .frz o u => h.get? a = some o ∧ ObjOk H h a u
  | .tbl ps => h.get? a = some { cls := .none, data := .fields ps }
  | .met f x => h.get? a = some (PySem.W.methodObj (.ref f) (.ref x))
  | .ext φ => φ h ∧ (∃ o, h.get? a = some o) ∧ ∀ h1 h2 : Heap, φ h1 → (∀ o, h1.get? a = some o → h2.get? a = some o) → φ h2
/-- the abstract heap is held -/
noncomputable def HOk (H : Hp) (h : Heap) : Prop := ∀ a o, H a = some o → ObjOk P w H h a o
end

section
variable {P : Program} {w : World} {H H' : Hp} {h h' : Heap} {a : Addr} {o : HO}
theorem ObjOk.lt (x : ObjOk P w H h a o) : a < h.objs.size := by
  cases o with
  | lst xs => obtain ⟨_, _, _, _, e⟩ := x; exact Heap.lt_size e
  | tup xs => obtain ⟨_, _, _, p⟩ := x; exact p.lt
  | dK kvs => obtain ⟨_, _, _, _, o, _, _, e, _⟩ := x; exact Heap.lt_size e
  | dT kvs => obtain ⟨_, _, _, _, o, _, _, e, _⟩ := x; exact Heap.lt_size e
  | set S n => obtain ⟨o, _, _, _, e, _⟩ := x; exact Heap.lt_size e
  | ins C dx fs => obtain ⟨_, _, _, e, _⟩ := x; exact Heap.lt_size e
  | own y => obtain ⟨_, e⟩ := x; exact Heap.lt_size e
  | xd fs => obtain ⟨_, ⟨_, _, _, e, _⟩, _⟩ := x; exact Heap.lt_size e
  | rng lo hi => obtain ⟨_, _, _, e⟩ := x; exact Heap.lt_size e
  | frz ob u => obtain ⟨e, _⟩ := x; exact Heap.lt_size e
  | tbl ps => exact Heap.lt_size (show h.get? a = some _ from x)
  | met f y => exact Heap.lt_size (show h.get? a = some _ from x)
  | ext φ => obtain ⟨_, ⟨_, e⟩, _⟩ := x; exact Heap.lt_size e
theorem Paired.mapP {α β : Type} {F G : α → β → Prop} : ∀ {l₁ : List α} {l₂ : List β}, Paired F l₁ l₂ → (∀ a b, F a b → G a b) → Paired G l₁ l₂
  | _, _, .nil, _ => .nil
  | _, _, .cons r t, f => .cons (f _ _ r) (Paired.mapP t f)
/-- what an object's description leans on: its own object, its own dict, the tuples -/
theorem ObjOk.stay (x : ObjOk P w H h a o) (k : ∀ b u, (b = a ∨ H b = some (.own a)) → h.get? b = some u → h'.get? b = some u)
    (ho : ∀ b, H b = some (.own a) → H' b = some (.own a)) (ht : ∀ b xs, H b = some (.tup xs) → H' b = some (.tup xs)) : ObjOk P w H' h' a o := by
  induction o with
  | lst xs => obtain ⟨z, its, n, r, e⟩ := x; exact ⟨z, its, n, r, k _ _ (.inl rfl) e⟩
  | tup xs => obtain ⟨z, its, r, ob, e, c⟩ := x; exact ⟨z, its, r, ob, k _ _ (.inl rfl) e, c⟩
  | dK kvs => obtain ⟨z, y, vs, r, ob, es, ep, e, c⟩ := x; exact ⟨z, y, vs, r, ob, es, ep, k _ _ (.inl rfl) e, c⟩
  | dT kvs =>
    obtain ⟨z, y, xs, r, ob, es, ep, e, c⟩ := x
    exact ⟨z, y, xs, Paired.mapP r fun p q z => ⟨z.1, ht _ _ z.2.1, z.2.2⟩, ob, es, ep, k _ _ (.inl rfl) e, c⟩
  | set S n => obtain ⟨ob, es, ep, t, e, c⟩ := x; exact ⟨ob, es, ep, t, k _ _ (.inl rfl) e, c⟩
  | ins C dx fs =>
    obtain ⟨d, z, ne, e, mA, ⟨od, es, ep, e2, c⟩, r⟩ := x
    exact ⟨ho _ d, z, ne, k _ _ (.inl rfl) e, mA, ⟨od, es, ep, k _ _ (.inr d) e2, c⟩, r⟩
  | own y => obtain ⟨ob, e⟩ := x; exact ⟨ob, k _ _ (.inl rfl) e⟩
  | xd fs => obtain ⟨mA, ⟨od, es, ep, e, c⟩, r⟩ := x; exact ⟨mA, ⟨od, es, ep, k _ _ (.inl rfl) e, c⟩, r⟩
  | rng lo hi => obtain ⟨t, u, v, e⟩ := x; exact ⟨t, u, v, k _ _ (.inl rfl) e⟩
  | frz ob u ih => obtain ⟨e, q⟩ := x; exact ⟨k _ _ (.inl rfl) e, ih q⟩
  | tbl ps =>
    have e : h.get? a = some { cls := .none, data := .fields ps } := x
    show h'.get? a = some { cls := .none, data := .fields ps }
    exact k a _ (.inl rfl) e
  | met f y =>
    have e : h.get? a = some (PySem.W.methodObj (.ref f) (.ref y)) := x
    show h'.get? a = some (PySem.W.methodObj (.ref f) (.ref y))
    exact k a _ (.inl rfl) e
  | ext φ => obtain ⟨p, ⟨o, e⟩, st⟩ := x; exact ⟨st _ _ p fun o q => k _ _ (.inl rfl) q, ⟨o, k _ _ (.inl rfl) e⟩, st⟩
theorem HOk.lt (x : HOk P w H h) (e : H a = some o) : a < h.objs.size := (x a o e).lt
theorem HOk.fresh (x : HOk P w H h) (e : h.objs.size ≤ a) : H a = none := by
  cases q : H a with
  | none => rfl
  | some u => exact absurd (Nat.lt_of_lt_of_le (x.lt q) e) (Nat.lt_irrefl _)
/-- every object of the heap is kept -/
theorem HOk.kept (x : HOk P w H h) (k : ∀ b u, h.get? b = some u → h'.get? b = some u) : HOk P w H h' := fun a o e =>
  (x a o e).stay (fun b u _ q => k b u q) (fun _ q => q) fun _ _ q => q
/-- a new object is laid and tracked -/
theorem HOk.laid (x : HOk P w H h) (k : ∀ b u, h.get? b = some u → h'.get? b = some u) (hp : h.objs.size ≤ a) (new : ObjOk P w (upd H a o) h' a o) : HOk P w (upd H a o) h' := fun b u e => by
  have hn := x.fresh hp
  by_cases hb : b = a
  · subst hb; rw [upd_same] at e; cases e; exact new
  · rw [upd_ne hb] at e
    exact (x b u e).stay (fun c v _ q => k c v q) (fun c q => by rw [upd_ne (ne_of_none q hn)]; exact q) fun c xs q => by rw [upd_ne (ne_of_none q hn)]; exact q
end

/-- what may be read as u: it is u, or a known u -/
noncomputable def Rd (H : Hp) (a : Addr) (u : HO) : Prop := H a = some u ∨ ∃ o, H a = some (.frz o u)
theorem Rd.of {H : Hp} {a : Addr} {u : HO} (h : H a = some u) : Rd H a u := .inl h
theorem Rd.ok {P : Program} {w : World} {H : Hp} {h : Heap} {a : Addr} {u : HO} (r : Rd H a u) (x : HOk P w H h) : ObjOk P w H h a u := by
  rcases r with r | ⟨o, r⟩
  · exact x a u r
  · obtain ⟨_, q⟩ := x a _ r
    exact q
/-- what may be written -/
noncomputable def Mut : Option HO → Prop
  | some (.lst _) => True
  | some (.dK _) => True
  | some (.dT _) => True
  | some (.set _ _) => True
  | some (.ins _ _ _) => True
  | some (.ext _) => True
  | _ => False
section
variable {P : Program} {w : World} {H : Hp} {h h' : Heap} {x e : Addr} {o' : HO}
/-- the object at e is changed: x itself, or the dict of the instance x -/
theorem HOk.write (ok : HOk P w H h) (mu : Mut (H x)) (he : e = x ∨ H e = some (.own x)) (k : ∀ b u, b ≠ e → h.get? b = some u → h'.get? b = some u) (heo : ∃ u, h'.get? e = some u)
    (new : ObjOk P w (upd H x o') h' x o') : HOk P w (upd H x o') h' := fun b u q => by
  have nown : ∀ c y, H c = some (.own y) → c ≠ x := fun c y r z => by subst z; rw [r] at mu; exact mu
  have ntup : ∀ c xs, H c = some (.tup xs) → c ≠ x := fun c xs r z => by subst z; rw [r] at mu; exact mu
  by_cases hb : b = x
  · subst hb; rw [upd_same] at q; cases q; exact new
  · rw [upd_ne hb] at q
    by_cases hbe : b = e
    · have q' : H b = some (.own x) := by
        rcases he with z | z
        · exact absurd (hbe.trans z) hb
        · rw [hbe]; exact z
      rw [q] at q'; cases q'
      obtain ⟨v, hv⟩ := heo
      exact ⟨v, by rw [hbe]; exact hv⟩
    · refine (ok b u q).stay (fun c v hc r => k c v ?_ r) (fun c r => by rw [upd_ne (nown c b r)]; exact r) fun c xs r => by rw [upd_ne (ntup c xs r)]; exact r
      rcases hc with rfl | hc
      · exact hbe
      · rintro rfl
        rcases he with z | z
        · exact nown c b hc z
        · rw [hc] at z; cases z; exact hb rfl
end

/-! ### kept unless tracked; of the frames at fs (the callers') the slots may change (an exception that passes writes there); of the records at ex (iterators) nothing is said -/
structure Un (fs ex : List Addr) (H H' : Hp) (h h' : Heap) : Prop where
  keep : ∀ b o, h.get? b = some o → H b = none → b ∉ fs → b ∉ ex → h'.get? b = some o
  slot : ∀ b o, h.get? b = some o → H b = none → b ∈ fs → b ∉ ex → ∃ sl, h'.get? b = some { o with slots := sl }
  free : ∀ b o, h.get? b = some o → H b = none → b ∉ ex → H' b = none
  there : ∀ b o, h.get? b = some o → b ∉ ex → ∃ o', h'.get? b = some o'
  tups : ∀ b xs, H b = some (.tup xs) → H' b = some (.tup xs)
  frzs : ∀ b o u, H b = some (.frz o u) → H' b = some (.frz o u)
  tbls : ∀ b ps, H b = some (.tbl ps) → ∃ more, H' b = some (.tbl (ps ++ more))
section
variable {fs fs' ex ex' : List Addr} {H H1 H2 : Hp} {h h1 h2 h' : Heap} {a x e : Addr} {o : HO}
theorem Un.any (u : Un fs ex H H1 h h1) {b : Addr} {ob : Obj} (q : h.get? b = some ob) (n : H b = none) (hx : b ∉ ex) : ∃ sl, h1.get? b = some { ob with slots := sl } := by
  by_cases hb : b ∈ fs
  · exact u.slot b ob q n hb hx
  · exact ⟨ob.slots, u.keep b ob q n hb hx⟩
theorem Un.trans (a : Un fs ex H H1 h h1) (b : Un fs ex H1 H2 h1 h2) : Un fs ex H H2 h h2 where
  keep := fun c ob q n hc hx => b.keep c ob (a.keep c ob q n hc hx) (a.free c ob q n hx) hc hx
  slot := fun c ob q n hc hx => by
    obtain ⟨sl, e1⟩ := a.slot c ob q n hc hx
    obtain ⟨sl', e2⟩ := b.slot c _ e1 (a.free c ob q n hx) hc hx
    exact ⟨sl', e2⟩
  free := fun c ob q n hx => by
    obtain ⟨o', e1⟩ := a.there c ob q hx
    exact b.free c o' e1 (a.free c ob q n hx) hx
  there := fun c ob q hx => by
    obtain ⟨o', e1⟩ := a.there c ob q hx
    exact b.there c o' e1 hx
  tups := fun c xs q => b.tups c xs (a.tups c xs q)
  frzs := fun c ob xs q => b.frzs c ob xs (a.frzs c ob xs q)
  tbls := fun c ps q => by
    obtain ⟨m1, e1⟩ := a.tbls c ps q
    obtain ⟨m2, e2⟩ := b.tbls c _ e1
    exact ⟨m1 ++ m2, by rw [e2, Array.append_assoc]⟩
theorem Un.kept (k : ∀ b u, h.get? b = some u → h'.get? b = some u) : Un fs ex H H h h' :=
  ⟨fun b ob q _ _ _ => k b ob q, fun b ob q _ _ _ => ⟨ob.slots, k b ob q⟩, fun _ _ _ n _ => n, fun b ob q _ => ⟨ob, k b ob q⟩, fun _ _ q => q, fun _ _ _ q => q, fun _ ps q => ⟨#[], by rw [q]; simp⟩⟩
theorem Un.refl : Un fs ex H H h h := Un.kept fun _ _ q => q
theorem Un.laid (k : ∀ b u, h.get? b = some u → h'.get? b = some u) (hp : h.objs.size ≤ a) (hn : H a = none) : Un fs ex H (upd H a o) h h' where
  keep := fun b u q _ _ _ => k b u q
  slot := fun b u q _ _ _ => ⟨u.slots, k b u q⟩
  free := fun b u q n _ => by rw [upd_ne (Nat.ne_of_lt (Nat.lt_of_lt_of_le (Heap.lt_size q) hp))]; exact n
  there := fun b u q _ => ⟨u, k b u q⟩
  tups := fun b xs q => by rw [upd_ne (ne_of_none q hn)]; exact q
  frzs := fun b u xs q => by rw [upd_ne (ne_of_none q hn)]; exact q
  tbls := fun b ps q => ⟨#[], by rw [upd_ne (ne_of_none q hn), q]; simp⟩
theorem Un.write (mu : Mut (H x)) (he : e = x ∨ H e = some (.own x)) (k : ∀ b u, b ≠ e → h.get? b = some u → h'.get? b = some u) (heo : ∃ u, h'.get? e = some u) : Un fs ex H (upd H x o) h h' := by
  have hx : ∀ b, H b = none → b ≠ x := fun b n z => by subst z; rw [n] at mu; exact mu
  have hb : ∀ b, H b = none → b ≠ e := fun b n z => by
    subst z
    rcases he with r | r
    · exact hx b n r
    · rw [n] at r; cases r
  have hm : ∀ b u, H b = some u → ¬ Mut (some u) → b ≠ x := fun b u q nm z => by subst z; rw [q] at mu; exact nm mu
  refine ⟨fun b u q n _ _ => k b u (hb b n) q, fun b u q n _ _ => ⟨u.slots, k b u (hb b n) q⟩, fun b u q n _ => by rw [upd_ne (hx b n)]; exact n, fun b u q _ => ?_,
    fun b xs q => by rw [upd_ne (hm b _ q fun z => z)]; exact q, fun b u xs q => by rw [upd_ne (hm b _ q fun z => z)]; exact q, fun b ps q => ⟨#[], by rw [upd_ne (hm b _ q fun z => z), q]; simp⟩⟩
  by_cases hbe : b = e
  · subst hbe; exact heo
  · exact ⟨u, k b u hbe q⟩
theorem Un.mono (u : Un fs ex H H1 h h1) (hs : ∀ b ∈ fs, b ∈ fs') (hx : ∀ b ∈ ex, b ∈ ex') : Un fs' ex' H H1 h h1 :=
  ⟨fun b ob q n hb he => u.keep b ob q n (fun z => hb (hs b z)) fun z => he (hx b z), fun _ _ q n _ he => u.any q n fun z => he (hx _ z), fun b ob q n he => u.free b ob q n fun z => he (hx b z), fun b ob q he => u.there b ob q fun z => he (hx b z), u.tups, u.frzs, u.tbls⟩
end

/-! ### the heap without what is tracked -/
noncomputable def trk (h : Heap) (H : Hp) : List Addr := (List.range h.objs.size).filter fun a => (H a).isSome
noncomputable def hidT (h : Heap) (H : Hp) : Heap := PySem.W.hideAll h (trk h H)
theorem hidT_size (h : Heap) (H : Hp) : (hidT h H).objs.size = h.objs.size := PySem.W.hideAll_size _ _
theorem hidT_get {h : Heap} {H : Hp} {b : Addr} {o : Obj} (e : h.get? b = some o) (n : H b = none) : (hidT h H).get? b = some o :=
  PySem.W.hideAll_get _ e fun hm => by
    have q : (H b).isSome = true := (List.mem_filter.mp hm).2
    rw [n] at q; simp at q
theorem of_hidT {h : Heap} {H : Hp} {b : Addr} {o : Obj} (e : (hidT h H).get? b = some o) : h.get? b = some o ∧ H b = none := by
  have e' : h.get? b = some o := PySem.W.of_hideAll (trk h H) e
  refine ⟨e', ?_⟩
  cases q : H b with
  | none => rfl
  | some x =>
    have hm : b ∈ trk h H := List.mem_filter.mpr ⟨List.mem_range.mpr (Heap.lt_size e'), by simp [q]⟩
    have z : (hidT h H).get? b = none := PySem.W.hideAll_none (trk h H) hm
    rw [z] at e; cases e

/-! ### OpenK's ledger, filled with every new object but one -/
noncomputable def allNews (g h : Heap) (L : Addr) : List (Addr × Obj) := (List.range h.objs.size).filterMap fun a => if a = L ∨ (g.get? a).isSome = true then none else (h.get? a).map fun o => (a, o)
noncomputable def rest (g h : Heap) (L d : Addr) : List (Addr × Obj) := (allNews g h L).filter fun p => decide (p.1 ≠ d)
end L2

namespace L2
open PySem PySem.Spec PyProof.Rows

/-- the module's facts, over the base: the heap at the law's entry without what is tracked there -/
structure Mod (K : PySem.W.Frag) (mg : Str → Option Value) (base : Heap) : Prop where
  kin : K.In base
  glob : base.Ns mainGlobals mg
  blt : ∃ mb, base.Ns builtinsNs mb ∧ ∀ x : Str, x ≠ "__name__" → mb x = bootBuiltins x
  nolimit : base.NoLimit

/-- the context: a def's body (or a comprehension's block) running. base: fixed through the whole law; s₀, H₀: the entry; outer: the frames whose slots others may change (a def's callers); stack: all frames that run;
   ex: iterators that were made ahead of the entry and are walked here (a comprehension's); fn: the names whose cells were made at the entry (a def: all; a comprehension's block: its own); calm: not within an except suite; pn: pins that every state bears; xe: what is wanted of an exception that leaves the code -/
structure Cx where
  prog : Program
  w : World
  K : PySem.W.Frag
  mg : Str → Option Value
  base : Heap
  A : Around
  N : List Str
  s₀ : Shared
  H₀ : Hp
  env : Env
  outer : List Env
  stack : List Env
  ex : List Addr
  fn : Str → Bool
  calm : Bool
  pn : List (Addr × Obj)
  xe : Value → Shared → Prop
/-- the callers' frames -/
noncomputable def frs (l : List Env) : List Addr := l.filterMap (·.frame)
noncomputable abbrev Cx.fs (X : Cx) : List Addr := frs X.outer

noncomputable def Vis (sc : Scope) (x : Str) : Prop := sc.names.lookup x = some .local ∨ sc.names.lookup x = some .cell ∨ sc.names.lookup x = some .free
noncomputable def Loc (sc : Scope) (x : Str) : Prop := sc.names.lookup x = some .local ∨ sc.names.lookup x = some .cell
noncomputable def Look (env : Env) (h : Heap) (m : Str → Option Value) (x : Str) (u : Value) : Prop :=
  (env.kindOf x = some .local ∧ m x = some u) ∨ ((env.kindOf x = some .cell ∨ env.kindOf x = some .free) ∧ ∃ c, env.cells.lookup x = some c ∧ h.IsCell c (some u))

structure Cx.Ok (X : Cx) : Prop where
  mod : Mod X.K X.mg X.base
  kind : X.env.scope.kind = .function
  glob : X.env.globals = mainGlobals
  blt : X.env.builtins = builtinsNs
  above : X.s₀.heap.objs.size ≤ X.env.locals
  inj : ∀ x y c, X.env.cells.lookup x = some c → X.env.cells.lookup y = some c → x = y
  has : ∀ x, (X.env.kindOf x = some .cell ∨ X.env.kindOf x = some .free) → ∃ c, X.env.cells.lookup x = some c
  cab : ∀ x c, X.fn x = true → X.env.cells.lookup x = some c → X.s₀.heap.objs.size ≤ c
  hd : X.calm = true → X.A.handled = none
  frames : X.A.frames = some X.stack
  stk : X.stack = X.outer ∨ (X.stack = X.env :: X.outer ∧ X.env.frame = some X.env.locals)
  exf : ∀ b ∈ X.ex, b ≠ X.env.locals ∧ ∀ x c, X.env.cells.lookup x = some c → c ≠ b
  bs : ∀ b o, X.base.get? b = some o → X.s₀.heap.get? b = some o ∧ X.H₀ b = none
  bsz : X.base.objs.size ≤ X.s₀.heap.objs.size
  noex : ∀ b o, X.base.get? b = some o → b ∉ X.ex
  exfs : ∀ b ∈ X.ex, b ∉ X.fs
  funs : X.s₀.heap.FunFrames X.base X.outer
  frf : ∀ b ∈ X.fs, X.H₀ b = none

structure Inv (X : Cx) (pins : List (Addr × Obj)) (σ : List (Option V)) (H : Hp) (s : Shared) : Prop where
  ok : X.Ok
  os : s.os = X.s₀.os
  bare : AllBare s.gens
  base : Un X.fs X.ex X.H₀ H X.s₀.heap s.heap
  loc : ∃ m, s.heap.Ns X.env.locals m ∧ ∀ (i : Nat) (x : Str) (v : V), X.N[i]? = some x → σ[i]? = some (some v) → Vis X.env.scope x → ∃ u, RelV v u ∧ Look X.env s.heap m x u
  cell : ∀ x c, X.env.cells.lookup x = some c → ∃ v, s.heap.IsCell c v
  free : H X.env.locals = none
  freeC : ∀ x c, X.env.cells.lookup x = some c → H c = none
  pin : ∀ p ∈ X.pn ++ pins, s.heap.get? p.1 = some p.2 ∧ H p.1 = none ∧ p.1 ≠ X.env.locals ∧ p.1 ∉ X.fs ∧ ∀ v, p.2.data ≠ .cell v
  hok : HOk X.prog X.w H s.heap
  len : σ.length = X.N.length

section
variable {X : Cx} {pins : List (Addr × Obj)} {σ : List (Option V)} {H H' : Hp} {s : Shared} {h' : Heap}

theorem Cx.Ok.nofr (ok : X.Ok) {b : Addr} {o : Obj} (e : X.base.get? b = some o) : b ∉ X.fs := fun hb => by
  have := (ok.funs.mem hb).1
  rw [e] at this; cases this
theorem Inv.bs (I : Inv X pins σ H s) : ∀ b o, X.base.get? b = some o → s.heap.get? b = some o ∧ H b = none := fun b o e =>
  ⟨I.base.keep b o (I.ok.bs b o e).1 (I.ok.bs b o e).2 (I.ok.nofr e) (I.ok.noex b o e), I.base.free b o (I.ok.bs b o e).1 (I.ok.bs b o e).2 (I.ok.noex b o e)⟩
theorem Inv.bk (I : Inv X pins σ H s) : ∀ b o, X.base.get? b = some o → s.heap.get? b = some o := fun b o e => (I.bs b o e).1
theorem Inv.mod (I : Inv X pins σ H s) : Mod X.K X.mg X.base := I.ok.mod
theorem Inv.kIn (I : Inv X pins σ H s) : X.K.In s.heap := I.ok.mod.kin.keeps I.bk
theorem Inv.nolimit (I : Inv X pins σ H s) : s.heap.NoLimit := I.ok.mod.nolimit.keeps I.bk
/-- the frame over the base: for OpenK's rules (K.In X.base is I.mod.kin) -/
theorem Inv.fr (I : Inv X pins σ H s) : ∃ m, Fr X.base X.env.locals s.heap m :=
  let ⟨m, hn, _⟩ := I.loc
  ⟨m, hn, I.bk, Nat.le_trans I.ok.bsz I.ok.above⟩
theorem Inv.lt (I : Inv X pins σ H s) : X.env.locals < s.heap.objs.size := let ⟨_, hn, _⟩ := I.loc; hn.lt
theorem Inv.sz (I : Inv X pins σ H s) : X.s₀.heap.objs.size ≤ s.heap.objs.size := Nat.le_trans I.ok.above (Nat.le_of_lt I.lt)
theorem Inv.nofs (I : Inv X pins σ H s) {a : Addr} (h : s.heap.objs.size ≤ a) : a ∉ X.fs := fun hb => by
  obtain ⟨_, o, ho, _⟩ := I.ok.funs.mem hb
  exact absurd (Nat.lt_of_lt_of_le (Heap.lt_size ho) (Nat.le_trans I.sz h)) (Nat.lt_irrefl _)
theorem Inv.cne (I : Inv X pins σ H s) : ∀ x c, X.env.cells.lookup x = some c → c ≠ X.env.locals := fun x c e z => by
  obtain ⟨v, o, ho, hd⟩ := I.cell x c e
  obtain ⟨m, ⟨o', es, ep, ho', hd', _⟩, _⟩ := I.loc
  rw [z, ho'] at ho; cases ho; rw [hd'] at hd; cases hd
theorem Inv.funs (I : Inv X pins σ H s) : s.heap.FunFrames X.base X.outer := by
  have all : ∀ (l : List Env), (∀ b ∈ frs l, b ∈ X.fs) → X.s₀.heap.FunFrames X.base l → s.heap.FunFrames X.base l := by
    intro l
    induction l with
    | nil => intro _ _; trivial
    | cons env r ih =>
      intro hs hl
      obtain ⟨hk, ⟨L, o, hf, hn, ho, hd⟩, hr⟩ := hl
      have hL : L ∈ X.fs := hs L (by unfold frs; rw [List.filterMap_cons, hf]; exact List.mem_cons_self)
      obtain ⟨sl, e⟩ := I.base.slot L o ho (I.ok.frf L hL) hL fun z => I.ok.exfs L z hL
      exact ⟨hk, ⟨L, _, hf, hn, e, hd⟩, ih (fun b hb => hs b (by unfold frs; rw [List.filterMap_cons, hf]; exact List.mem_cons_of_mem _ hb)) hr⟩
  exact all X.outer (fun _ hb => hb) I.ok.funs

/-- the frames that run, for a call -/
theorem Inv.stack (I : Inv X pins σ H s) : s.heap.FunFrames X.base X.stack := by
  rcases I.ok.stk with e | ⟨e, hf⟩
  · rw [e]; exact I.funs
  · rw [e]
    obtain ⟨m, hn, _⟩ := I.loc
    refine .cons (by rw [I.ok.kind]; decide) hf hn ?_ I.funs
    exact Heap.get?_none_of_le (Nat.le_trans I.ok.bsz I.ok.above)
theorem Inv.stkSub (I : Inv X pins σ H s) : ∀ b ∈ frs X.stack, b ∈ X.env.locals :: X.fs := fun b hb => by
  rcases I.ok.stk with e | ⟨e, hf⟩
  · rw [e] at hb; exact List.mem_cons_of_mem _ hb
  · rw [e] at hb
    unfold frs at hb
    rw [List.filterMap_cons, hf] at hb
    exact hb
theorem Inv.stkFree (I : Inv X pins σ H s) : ∀ b ∈ frs X.stack, H b = none := fun b hb => by
  rcases List.mem_cons.mp (I.stkSub b hb) with e | hb
  · rw [e]; exact I.free
  · obtain ⟨_, o, ho, _⟩ := I.ok.funs.mem hb
    exact I.base.free b o ho (I.ok.frf b hb) fun z => I.ok.exfs b z hb

/-- THE STEP: the untracked objects but the frame and the records at ch are kept (the callers' frames up to slots), the frame's map is kept, the new abstract heap is held -/
theorem Inv.step {g' : Array GenState} {t' : Nat} {d' : Drawn} {ch : List Addr} (I : Inv X pins σ H s)
    (hch : ∀ b ∈ ch, (b ∈ X.ex ∨ X.s₀.heap.objs.size ≤ b) ∧ b ≠ X.env.locals ∧ (∀ x c, X.env.cells.lookup x = some c → c ≠ b) ∧ ∀ p ∈ X.pn ++ pins, p.1 ≠ b)
    (keep : ∀ b o, b ≠ X.env.locals → b ∉ X.fs → b ∉ ch → s.heap.get? b = some o → H b = none → h'.get? b = some o)
    (slot : ∀ b o, b ≠ X.env.locals → b ∈ X.fs → b ∉ ch → s.heap.get? b = some o → H b = none → ∃ sl, h'.get? b = some { o with slots := sl }) (free : ∀ b o, b ∉ ch → s.heap.get? b = some o → H b = none → H' b = none)
    (there : ∀ b o, b ∉ ch → s.heap.get? b = some o → ∃ o', h'.get? b = some o')
    (tups : ∀ b xs, H b = some (.tup xs) → H' b = some (.tup xs)) (frzs : ∀ b o u, H b = some (.frz o u) → H' b = some (.frz o u)) (tbls : ∀ b ps, H b = some (.tbl ps) → ∃ more, H' b = some (.tbl (ps ++ more)))
    (ns : ∀ m, s.heap.Ns X.env.locals m → h'.Ns X.env.locals m) (hok : HOk X.prog X.w H' h') (hg : AllBare g') :
    Inv X pins σ H' { s with heap := h', gens := g', drawn := d', toks := t' } := by
  have neL : ∀ b o, X.s₀.heap.get? b = some o → b ≠ X.env.locals := fun b o e => Nat.ne_of_lt (Nat.lt_of_lt_of_le (Heap.lt_size e) I.ok.above)
  have neC : ∀ b o, X.s₀.heap.get? b = some o → b ∉ X.ex → b ∉ ch := fun b o e hx hb => by
    rcases (hch b hb).1 with z | z
    · exact hx z
    · exact absurd (Nat.lt_of_lt_of_le (Heap.lt_size e) z) (Nat.lt_irrefl _)
  have cellK : ∀ x c, X.env.cells.lookup x = some c → ∀ v, s.heap.IsCell c v → h'.IsCell c v := fun x c e v ⟨o, ho, hd⟩ => by
    have nch : c ∉ ch := fun z => (hch c z).2.2.1 x c e rfl
    by_cases hc : c ∈ X.fs
    · obtain ⟨sl, q⟩ := slot c o (I.cne x c e) hc nch ho (I.freeC x c e)
      exact ⟨_, q, hd⟩
    · exact ⟨o, keep c o (I.cne x c e) hc nch ho (I.freeC x c e), hd⟩
  refine ⟨I.ok, I.os, hg, ⟨fun b o e n hb hx => ?_, fun b o e n hb hx => ?_, fun b o e n hx => ?_, fun b o e hx => ?_, fun b xs e => tups b xs (I.base.tups b xs e), fun b o xs e => frzs b o xs (I.base.frzs b o xs e), fun b ps e => ?_⟩, ?_, fun x c e => ?_, ?_, fun x c e => ?_, fun p hp => ?_, hok, I.len⟩
  · exact keep b o (neL b o e) hb (neC b o e hx) (I.base.keep b o e n hb hx) (I.base.free b o e n hx)
  · obtain ⟨sl, e1⟩ := I.base.slot b o e n hb hx
    obtain ⟨sl', e2⟩ := slot b _ (neL b o e) hb (neC b o e hx) e1 (I.base.free b o e n hx)
    exact ⟨sl', e2⟩
  · obtain ⟨o', e1⟩ := I.base.there b o e hx
    exact free b o' (neC b o e hx) e1 (I.base.free b o e n hx)
  · obtain ⟨o', e1⟩ := I.base.there b o e hx
    exact there b o' (neC b o e hx) e1
  · obtain ⟨m1, e1⟩ := I.base.tbls b ps e
    obtain ⟨m2, e2⟩ := tbls b _ e1
    exact ⟨m1 ++ m2, by rw [e2, Array.append_assoc]⟩
  · obtain ⟨m, hn, hl⟩ := I.loc
    refine ⟨m, ns m hn, fun i x v e1 e2 e3 => ?_⟩
    obtain ⟨u, r, l⟩ := hl i x v e1 e2 e3
    refine ⟨u, r, ?_⟩
    rcases l with l | ⟨k, c, e, z⟩
    · exact .inl l
    · exact .inr ⟨k, c, e, cellK x c e _ z⟩
  · obtain ⟨v, z⟩ := I.cell x c e
    exact ⟨v, cellK x c e v z⟩
  · obtain ⟨m, ⟨o, _, _, ho, _⟩, _⟩ := I.loc
    exact free _ o (fun z => (hch _ z).2.1 rfl) ho I.free
  · obtain ⟨v, o, ho, hd⟩ := I.cell x c e
    exact free c o (fun z => (hch c z).2.2.1 x c e rfl) ho (I.freeC x c e)
  · obtain ⟨e, n, ne, nf, d⟩ := I.pin p hp
    have nch : p.1 ∉ ch := fun z => (hch p.1 z).2.2.2 p hp rfl
    exact ⟨keep p.1 p.2 ne nf nch e n, free p.1 p.2 nch e n, ne, nf, d⟩
/-- .. where the frame's own object is kept too -/
theorem Inv.un {t' : Nat} (I : Inv X pins σ H s) (u : Un X.fs [] H H' s.heap h') (hok : HOk X.prog X.w H' h') : Inv X pins σ H' { s with heap := h', toks := t' } := by
  obtain ⟨m, ⟨o, es, ep, ho, r⟩, _⟩ := id I.loc
  obtain ⟨sl, hL⟩ := u.any ho I.free (by simp)
  exact I.step (g' := s.gens) (d' := s.drawn) (ch := []) (fun _ z => nomatch z) (fun b o _ hb _ e n => u.keep b o e n hb (by simp)) (fun b o _ hb _ e n => u.slot b o e n hb (by simp)) (fun b o _ e n => u.free b o e n (by simp)) (fun b o _ e => u.there b o e (by simp)) u.tups u.frzs u.tbls (fun m' hm => by
    obtain ⟨o', es', ep', ho', r'⟩ := hm
    rw [ho] at ho'; cases ho'
    exact ⟨_, es', ep', hL, r'⟩) hok I.bare
/-- behind a call (or a comprehension's block): the slots of this frame may have changed too, the records at ch may have turned -/
theorem Inv.call {g' : Array GenState} {t' : Nat} {d' : Drawn} {ch : List Addr} (I : Inv X pins σ H s) (u : Un (frs X.stack) ch H H' s.heap h') (hok : HOk X.prog X.w H' h') (hg : AllBare g')
    (hch : ∀ b ∈ ch, (b ∈ X.ex ∨ X.s₀.heap.objs.size ≤ b) ∧ b ≠ X.env.locals ∧ (∀ x c, X.env.cells.lookup x = some c → c ≠ b) ∧ ∀ p ∈ X.pn ++ pins, p.1 ≠ b) :
    Inv X pins σ H' { s with heap := h', gens := g', drawn := d', toks := t' } := by
  obtain ⟨m, ⟨o, es, ep, ho, r⟩, _⟩ := id I.loc
  obtain ⟨sl, hL⟩ := u.any ho I.free fun z => (hch _ z).2.1 rfl
  exact I.step (ch := ch) hch (fun b o hL hb hc e n => u.keep b o e n (fun z => (List.mem_cons.mp (I.stkSub b z)).elim hL hb) hc) (fun b o _ _ hc e n => u.any e n hc) (fun b o hc e n => u.free b o e n hc) (fun b o hc e => u.there b o e hc) u.tups u.frzs u.tbls (fun m' hm => by
    obtain ⟨o', es', ep', ho', r'⟩ := hm
    rw [ho] at ho'; cases ho'
    exact ⟨_, es', ep', hL, r'⟩) hok hg
/-- an untracked record of ours (an iterator) has turned -/
theorem Inv.turned {t' : Nat} {it : Addr} (I : Inv X pins σ H s) (k : ∀ b o, b ≠ it → s.heap.get? b = some o → h'.get? b = some o) (hn : H it = none) (hL : it ≠ X.env.locals)
    (h1 : it ∈ X.ex ∨ X.s₀.heap.objs.size ≤ it) (h2 : ∀ x c, X.env.cells.lookup x = some c → c ≠ it) (h3 : ∀ p ∈ X.pn ++ pins, p.1 ≠ it) : Inv X pins σ H { s with heap := h', toks := t' } := by
  have nit : ∀ b u, H b = some u → b ≠ it := fun b u e z => by rw [z, hn] at e; cases e
  refine I.step (g' := s.gens) (d' := s.drawn) (ch := [it]) (fun b hb => ?_) (fun b o _ _ hc e _ => k b o (fun z => hc (by simp [z])) e) (fun b o _ _ hc e _ => ⟨o.slots, k b o (fun z => hc (by simp [z])) e⟩) (fun _ _ _ _ n => n)
    (fun b o hc e => ⟨o, k b o (fun z => hc (by simp [z])) e⟩) (fun _ _ e => e) (fun _ _ _ e => e) (fun b ps e => ⟨#[], by rw [e]; simp⟩) (fun m hm => ?_) (fun b u e => ?_) I.bare
  · have e : b = it := by simpa using hb
    subst e
    exact ⟨h1, hL, h2, h3⟩
  · obtain ⟨o, es, ep, ho, r⟩ := hm
    exact ⟨o, es, ep, k _ o (Ne.symm hL) ho, r⟩
  · refine (I.hok b u e).stay (fun c v hc q => k c v ?_ q) (fun _ q => q) fun _ _ q => q
    rcases hc with z | z
    · rw [z]; exact nit b u e
    · exact nit c _ z
theorem Inv.tok (I : Inv X pins σ H s) (t : Nat) : Inv X pins σ H { s with toks := t } := I.un (h' := s.heap) (t' := t) Un.refl I.hok
/-- all objects kept -/
theorem Inv.kept {t' : Nat} (I : Inv X pins σ H s) (k : ∀ b u, s.heap.get? b = some u → h'.get? b = some u) : Inv X pins σ H { s with heap := h', toks := t' } := I.un (Un.kept k) (I.hok.kept k)
/-- a new object laid and tracked -/
theorem Inv.laid {a : Addr} {o : HO} {t' : Nat} (I : Inv X pins σ H s) (k : ∀ b u, s.heap.get? b = some u → h'.get? b = some u) (hp : s.heap.objs.size ≤ a) (new : ObjOk X.prog X.w (upd H a o) h' a o) :
    Inv X pins σ (upd H a o) { s with heap := h', toks := t' } := I.un (Un.laid k hp (I.hok.fresh hp)) (I.hok.laid k hp new)
/-- an object written -/
theorem Inv.write {x e : Addr} {o : HO} {t' : Nat} (I : Inv X pins σ H s) (mu : Mut (H x)) (he : e = x ∨ H e = some (.own x)) (k : ∀ b u, b ≠ e → s.heap.get? b = some u → h'.get? b = some u) (heo : ∃ u, h'.get? e = some u)
    (new : ObjOk X.prog X.w (upd H x o) h' x o) : Inv X pins σ (upd H x o) { s with heap := h', toks := t' } := I.un (Un.write mu he k heo) (I.hok.write mu he k heo new)
/-- forgetting slots, pins -/
theorem Inv.weak {σ' : List (Option V)} (I : Inv X pins σ H s) (hl : σ'.length = σ.length) (w : ∀ (i : Nat) v, σ'[i]? = some (some v) → σ[i]? = some (some v)) : Inv X pins σ' H s :=
  ⟨I.ok, I.os, I.bare, I.base, let ⟨m, hn, hl'⟩ := I.loc; ⟨m, hn, fun i x v e1 e2 e3 => hl' i x v e1 (w i v e2) e3⟩, I.cell, I.free, I.freeC, I.pin, I.hok, hl.trans I.len⟩
theorem Inv.pins_of {pins' : List (Addr × Obj)} (I : Inv X pins σ H s) (h : ∀ p ∈ pins', s.heap.get? p.1 = some p.2 ∧ H p.1 = none ∧ p.1 ≠ X.env.locals ∧ p.1 ∉ X.fs ∧ ∀ v, p.2.data ≠ .cell v) : Inv X pins' σ H s :=
  ⟨I.ok, I.os, I.bare, I.base, I.loc, I.cell, I.free, I.freeC, fun p hp => (List.mem_append.mp hp).elim (fun z => I.pin p (List.mem_append_left _ z)) (h p), I.hok, I.len⟩

theorem nodup_ix {N : List Str} (hN : N.Nodup) {i j : Nat} {x : Str} (a : N[i]? = some x) (b : N[j]? = some x) : i = j := by
  obtain ⟨h1, e1⟩ := List.getElem?_eq_some_iff.mp a
  obtain ⟨h2, e2⟩ := List.getElem?_eq_some_iff.mp b
  exact (List.getElem_inj hN).mp (e1.trans e2.symm)

/-- a name is stored; what changed -/
theorem store_ok2 {M : Model} {A : Around} {E : Value → Shared → Prop} {i : Nat} {x : Str} {v : V} {u : Value} {Q : Unit → Shared → Prop} (I : Inv X pins σ H s) (hN : X.N.Nodup) (hi : X.N[i]? = some x) (hx : Loc X.env.scope x) (r : RelV v u)
    (h : ∀ s', Inv X pins (σ.set i (some v)) H s' → (∃ a, Heap.SameBut a s.heap s'.heap ∧ (a = X.env.locals ∨ X.env.cells.lookup x = some a)) → Q () s') (hf : X.fn x = true ∨ X.env.scope.names.lookup x = some .local := by first | exact .inl rfl | exact .inr rfl | assumption) : wpAny M A (storeName X.env x u) Q E s := by
  obtain ⟨m, hn, hl⟩ := id I.loc
  have hcls : (X.env.scope.kind == .class || (X.env.scope.kind == .module && X.env.locals != X.env.globals)) = false := by rw [I.ok.kind]; rfl
  have hiσ : i < σ.length := by rw [I.len]; exact (List.getElem?_eq_some_iff.mp hi).1
  have cne := I.cne
  have tracked : ∀ {a : Addr} {h' : Heap}, (∃ o, s.heap.get? a = some o ∧ H a = none) → Heap.SameBut a s.heap h' → HOk X.prog X.w H h' := fun {a h'} ha hs b ob e => by
    obtain ⟨_, _, hfree⟩ := ha
    refine (I.hok b ob e).stay (fun c w' hc q => (hs.2 c ?_).trans q) (fun _ q => q) fun _ _ q => q
    rintro rfl
    rcases hc with rfl | hc
    · rw [hfree] at e; cases e
    · rw [hfree] at hc; cases hc
  rcases hx with hk | hk
  · refine wpAny_storeName_local hk hn (fun h' hn' hs => ?_) hcls
    obtain ⟨oL, _, _, hoL, _⟩ := id hn
    refine h _ ⟨I.ok, I.os, I.bare, ⟨fun b o e n hb hx => ?_, fun b o e n hb hx => ?_, I.base.free, fun b o e hx => ?_, I.base.tups, I.base.frzs, I.base.tbls⟩, ⟨_, hn', fun j y v' e1 e2 e3 => ?_⟩, fun y c e => ?_, I.free, I.freeC, fun p hp => ?_, tracked ⟨oL, hoL, I.free⟩ hs, by simpa using I.len⟩ ⟨_, hs, .inl rfl⟩
    · exact (hs.2 b (Nat.ne_of_lt (Nat.lt_of_lt_of_le (Heap.lt_size e) I.ok.above))).trans (I.base.keep b o e n hb hx)
    · obtain ⟨sl, e1⟩ := I.base.slot b o e n hb hx
      exact ⟨sl, (hs.2 b (Nat.ne_of_lt (Nat.lt_of_lt_of_le (Heap.lt_size e) I.ok.above))).trans e1⟩
    · obtain ⟨o', e1⟩ := I.base.there b o e hx
      exact ⟨o', (hs.2 b (Nat.ne_of_lt (Nat.lt_of_lt_of_le (Heap.lt_size e) I.ok.above))).trans e1⟩
    · by_cases hj : j = i
      · subst hj
        rw [hi] at e1; cases e1
        rw [List.getElem?_set_self hiσ] at e2
        cases e2
        exact ⟨u, r, .inl ⟨hk, by simp⟩⟩
      · rw [List.getElem?_set_ne (Ne.symm hj)] at e2
        obtain ⟨u', r', q⟩ := hl j y v' e1 e2 e3
        refine ⟨u', r', ?_⟩
        rcases q with ⟨k, e⟩ | ⟨k, c, e, z⟩
        · refine .inl ⟨k, ?_⟩
          have : y ≠ x := fun e => hj (nodup_ix hN e1 (e ▸ hi))
          simp [this, e]
        · exact .inr ⟨k, c, e, z.sameBut hs (cne y c e)⟩
    · obtain ⟨w', z⟩ := I.cell y c e
      exact ⟨w', z.sameBut hs (cne y c e)⟩
    · obtain ⟨e, n, ne, nf, d⟩ := I.pin p hp
      exact ⟨(hs.2 p.1 ne).trans e, n, ne, nf, d⟩
  · have hfn : X.fn x = true := by
      rcases hf with z | z
      · exact z
      · rw [z] at hk; cases hk
    obtain ⟨c, hc⟩ := I.ok.has x (.inl hk)
    obtain ⟨w', z⟩ := I.cell x c hc
    refine wpAny_storeName_cell I.ok.kind hk hc z (fun h' hc' hs => ?_)
    obtain ⟨oc, hoc, hocd⟩ := id z
    refine h { s with heap := h' } ⟨I.ok, I.os, I.bare, ⟨fun b o e n hb hx => ?_, fun b o e n hb hx => ?_, I.base.free, fun b o e hx => ?_, I.base.tups, I.base.frzs, I.base.tbls⟩, ⟨m, hn.sameBut hs (Ne.symm (cne x c hc)), fun j y v' e1 e2 e3 => ?_⟩, fun y c' e => ?_, I.free, I.freeC, fun p hp => ?_, tracked ⟨oc, hoc, I.freeC x c hc⟩ hs, by simpa using I.len⟩ ⟨c, hs, .inr hc⟩
    · exact (hs.2 b (Nat.ne_of_lt (Nat.lt_of_lt_of_le (Heap.lt_size e) (I.ok.cab x c hfn hc)))).trans (I.base.keep b o e n hb hx)
    · obtain ⟨sl, e1⟩ := I.base.slot b o e n hb hx
      exact ⟨sl, (hs.2 b (Nat.ne_of_lt (Nat.lt_of_lt_of_le (Heap.lt_size e) (I.ok.cab x c hfn hc)))).trans e1⟩
    · obtain ⟨o', e1⟩ := I.base.there b o e hx
      exact ⟨o', (hs.2 b (Nat.ne_of_lt (Nat.lt_of_lt_of_le (Heap.lt_size e) (I.ok.cab x c hfn hc)))).trans e1⟩
    · by_cases hj : j = i
      · subst hj
        rw [hi] at e1; cases e1
        rw [List.getElem?_set_self hiσ] at e2
        cases e2
        exact ⟨u, r, .inr ⟨.inl hk, c, hc, hc'⟩⟩
      · rw [List.getElem?_set_ne (Ne.symm hj)] at e2
        obtain ⟨u', r', q⟩ := hl j y v' e1 e2 e3
        refine ⟨u', r', ?_⟩
        rcases q with q | ⟨k, c', e, z'⟩
        · exact .inl q
        · refine .inr ⟨k, c', e, z'.sameBut hs ?_⟩
          rintro rfl
          exact hj (nodup_ix hN e1 (I.ok.inj _ _ _ e hc ▸ hi))
    · by_cases hcc : c' = c
      · subst hcc; exact ⟨_, hc'⟩
      · obtain ⟨w2, z2⟩ := I.cell y c' e
        exact ⟨w2, z2.sameBut hs hcc⟩
    · obtain ⟨e, n, ne, nf, d⟩ := I.pin p hp
      refine ⟨(hs.2 p.1 ?_).trans e, n, ne, nf, d⟩
      intro q
      rw [q, hoc] at e
      have q' : oc = p.2 := Option.some.inj e
      exact d w' (by rw [← q']; exact hocd)
theorem store_ok {M : Model} {A : Around} {E : Value → Shared → Prop} {i : Nat} {x : Str} {v : V} {u : Value} {Q : Unit → Shared → Prop} (I : Inv X pins σ H s) (hN : X.N.Nodup) (hi : X.N[i]? = some x) (hx : Loc X.env.scope x) (r : RelV v u)
    (h : ∀ s', Inv X pins (σ.set i (some v)) H s' → Q () s') (hf : X.fn x = true ∨ X.env.scope.names.lookup x = some .local := by first | exact .inl rfl | exact .inr rfl | assumption) : wpAny M A (storeName X.env x u) Q E s :=
  store_ok2 I hN hi hx r (fun s' I' _ => h s' I') hf
/-- behind a call or a block, the state as it is -/
theorem Inv.call' {s' : Shared} {ch : List Addr} (I : Inv X pins σ H s) (ho : s'.os = s.os) (u : Un (frs X.stack) ch H H' s.heap s'.heap) (hok : HOk X.prog X.w H' s'.heap) (hg : AllBare s'.gens)
    (hch : ∀ b ∈ ch, (b ∈ X.ex ∨ X.s₀.heap.objs.size ≤ b) ∧ b ≠ X.env.locals ∧ (∀ x c, X.env.cells.lookup x = some c → c ≠ b) ∧ ∀ p ∈ X.pn ++ pins, p.1 ≠ b) : Inv X pins σ H' s' := by
  obtain ⟨h', g', d', t', o'⟩ := s'
  have e : o' = s.os := ho
  subst e
  exact I.call (g' := g') (t' := t') (d' := d') u hok hg hch
end

/-! ### the judgements -/
/-- an exception: its class, its own dict's address (where it has one), the abstract heap behind it -/
noncomputable abbrev XK := Value → Option Addr → Hp → Prop
noncomputable abbrev St := List (Option V)
noncomputable abbrev VK := V → Hp → Prop
/-- an expression's reading; a test's; an argument list's -/
noncomputable abbrev TE := St → Hp → VK → Prop
noncomputable abbrev TT := St → Hp → (Bool → Hp → Prop) → Prop
noncomputable abbrev TA := St → Hp → (List V → Hp → Prop) → Prop
/-- what is wanted behind a statement -/
structure Ends where
  nx : St → Hp → Prop
  rt : VK
  bk : St → Hp → Prop := fun _ _ => False
  ct : St → Hp → Prop := fun _ _ => False
noncomputable abbrev TS := Ends → St → Hp → Prop

noncomputable def EP (X : Cx) (pins : List (Addr × Obj)) (σ : St) (Q : VK) (u : Value) (s' : Shared) : Prop := ∃ v H', Inv X pins σ H' s' ∧ RelV v u ∧ Q v H'
noncomputable def TP (X : Cx) (pins : List (Addr × Obj)) (σ : St) (Q : Bool → Hp → Prop) (b : Bool) (s' : Shared) : Prop := ∃ H', Inv X pins σ H' s' ∧ Q b H'
noncomputable def AP (X : Cx) (pins : List (Addr × Obj)) (σ : St) (Q : List V → Hp → Prop) (us : List Value) (s' : Shared) : Prop := ∃ vs H', Inv X pins σ H' s' ∧ Vals vs us ∧ Q vs H'
noncomputable def SP (X : Cx) (pins : List (Addr × Obj)) (D : Ends) (f : Flow) (s' : Shared) : Prop :=
  match f with
  | .next => ∃ σ' H', Inv X pins σ' H' s' ∧ D.nx σ' H'
  | .brk => ∃ σ' H', Inv X pins σ' H' s' ∧ D.bk σ' H'
  | .cont => ∃ σ' H', Inv X pins σ' H' s' ∧ D.ct σ' H'
  | .ret u => ∃ v σ' H', Inv X pins σ' H' s' ∧ RelV v u ∧ D.rt v H'

noncomputable def PE (X : Cx) (e : Expr) (t : TE) : Prop :=
  ∀ (pins : List (Addr × Obj)) (s : Shared) (σ : St) (H : Hp) (Q : VK), Inv X pins σ H s → t σ H Q → wpAny (model X.prog X.w) X.A (eval e X.env) (EP X pins σ Q) X.xe s
noncomputable def PT (X : Cx) (e : Expr) (t : TT) : Prop :=
  ∀ (pins : List (Addr × Obj)) (s : Shared) (σ : St) (H : Hp) (Q : Bool → Hp → Prop), Inv X pins σ H s → t σ H Q → wpAny (model X.prog X.w) X.A (isTrue e X.env (eval e X.env)) (TP X pins σ Q) X.xe s
/-- a test whatever its 'whole' is (and, or) -/
noncomputable def PW (X : Cx) (e : Expr) (t : TT) : Prop :=
  ∀ (whole : Sem Value) (pins : List (Addr × Obj)) (s : Shared) (σ : St) (H : Hp) (Q : Bool → Hp → Prop), Inv X pins σ H s → t σ H Q → wpAny (model X.prog X.w) X.A (isTrue e X.env whole) (TP X pins σ Q) X.xe s
theorem PW.pt {X : Cx} {e : Expr} {t : TT} (h : PW X e t) : PT X e t := h _
/-- an argument list (no star), from the left -/
noncomputable def PA (X : Cx) (es : List Expr) (t : TA) : Prop :=
  ∀ (pos : Pos) (pins : List (Addr × Obj)) (s : Shared) (σ : St) (H : Hp) (Q : List V → Hp → Prop), Inv X pins σ H s → t σ H Q → wpAny (model X.prog X.w) X.A (spliced (backTo pos (starEach es X.env))) (AP X pins σ Q) X.xe s
noncomputable def PS (X : Cx) (st : Stmt) (t : TS) : Prop :=
  ∀ (pins : List (Addr × Obj)) (s : Shared) (σ : St) (H : Hp) (D : Ends), Inv X pins σ H s → t D σ H → wpAny (model X.prog X.w) X.A (exec st X.env) (SP X pins D) X.xe s
noncomputable def PSs (X : Cx) (st : List Stmt) (t : TS) : Prop :=
  ∀ (pins : List (Addr × Obj)) (s : Shared) (σ : St) (H : Hp) (D : Ends), Inv X pins σ H s → t D σ H → wpAny (model X.prog X.w) X.A (execs st X.env) (SP X pins D) X.xe s
/-- weaken the end -/
theorem thn {α : Type} {t : Sem α} {Q Q' : α → Shared → Prop} {M : Model} {A : Around} {E : Value → Shared → Prop} {s : Shared} (h : wpAny M A t Q E s) (hQ : ∀ a s, Q a s → Q' a s) : wpAny M A t Q' E s := wpAny_mono h hQ fun _ _ x => x
end L2

namespace L2
open PySem PySem.Spec PyProof.Rows
section
variable {X : Cx}

/-! ### names and constants -/
noncomputable def tVar (i : Nat) : TE := fun σ H Q => ∃ v, σ[i]? = some (some v) ∧ Q v H
noncomputable def tC (v : V) : TE := fun _ H Q => Q v H
theorem pe_var {i : Nat} {x : Str} {pos : Pos} (hN : X.N[i]? = some x) (hv : Vis X.env.scope x) (hd : (x == ("__debug__" : Str)) = false := by decide) (hcd : (x == ("__classdict__" : Str)) = false := by decide) : PE X (.Name x pos) (tVar i) := by
  intro pins s σ H Q I h
  obtain ⟨v, e, h⟩ := h
  obtain ⟨m, hn, hl⟩ := I.loc
  obtain ⟨u, r, l⟩ := hl i x v hN e hv
  have fin : EP X pins σ Q u s := ⟨v, H, I, r, h⟩
  rcases l with ⟨hk, hm⟩ | ⟨hk, c, hc, hcell⟩
  · exact wpAny_Name (wpAny_loadName_local I.ok.kind hk hn hm fin) hd
  · rcases hk with hk | hk
    · exact wpAny_Name (wpAny_loadName_cell I.ok.kind hk hc hcell fin) hd
    · exact wpAny_Name (wpAny_loadName_free I.ok.kind hk hc hcell fin hcd) hd
theorem pe_int {i j pos} : PE X (.Constant (.int i) j pos) (tC (.int i)) := fun _ _ _ H _ I h => wpAny_Constant_int ⟨.int i, H, I.tok _, ⟨_, rfl⟩, h⟩
theorem pe_bl {b j pos} : PE X (.Constant (.bool b) j pos) (tC (.bl b)) := fun _ _ _ H _ I h => Constant_bool ⟨.bl b, H, I, rfl, h⟩
theorem pe_non {j pos} : PE X (.Constant .none j pos) (tC .non) := fun _ _ _ H _ I h => Constant_none ⟨.non, H, I, rfl, h⟩
theorem pe_str {x j pos} : PE X (.Constant (.str x) j pos) (tC (.str x)) := fun _ _ _ H _ I h => Calls.Constant_str ⟨.str x, H, I.tok _, ⟨_, rfl⟩, h⟩

/-- a global name of the def -/
noncomputable def Gl (X : Cx) (x : Str) : Prop := X.env.kindOf x = some .globalImplicit
theorem ld_glob {E : Value → Shared → Prop} {pins : List (Addr × Obj)} {s : Shared} {σ : St} {H : Hp} {x : Str} {u : Value} {pos : Pos} {Q : Value → Shared → Prop} (I : Inv X pins σ H s) (hg : Gl X x) (hm : X.mg x = some u) (h : Q u s)
    (hd : (x == ("__debug__" : Str)) = false := by decide) : wpAny (model X.prog X.w) X.A (eval (.Name x pos) X.env) Q E s :=
  Calls.Name_function_global I.ok.kind hg (Calls.loadGlobal_global (by rw [I.ok.glob]; exact I.mod.glob.keeps I.bk) hm h) hd
theorem ld_blt {E : Value → Shared → Prop} {pins : List (Addr × Obj)} {s : Shared} {σ : St} {H : Hp} {x : Str} {u : Value} {pos : Pos} {Q : Value → Shared → Prop} (I : Inv X pins σ H s) (hg : Gl X x) (hm : X.mg x = none) (hv : bootBuiltins x = some u) (h : Q u s)
    (hn : x ≠ "__name__" := by decide) (hd : (x == ("__debug__" : Str)) = false := by decide) : wpAny (model X.prog X.w) X.A (eval (.Name x pos) X.env) Q E s := by
  obtain ⟨mb, h1, h2⟩ := I.mod.blt
  exact Calls.Name_function_global I.ok.kind hg (Calls.loadGlobal_builtin (by rw [I.ok.glob]; exact I.mod.glob.keeps I.bk) hm (by rw [I.ok.blt]; exact h1.keeps I.bk) ((h2 x hn).trans hv) h) hd
/-- a module's constant, a class, a function, as a value -/
theorem pe_glob {x : Str} {v : V} {u : Value} {pos : Pos} (hg : Gl X x) (hm : X.mg x = some u) (r : RelV v u) (hd : (x == ("__debug__" : Str)) = false := by decide) : PE X (.Name x pos) (tC v) :=
  fun _ _ _ H _ I h => ld_glob I hg hm ⟨v, H, I, r, h⟩ hd
theorem pe_bltn {x : Str} {v : V} {u : Value} {pos : Pos} (hg : Gl X x) (hm : X.mg x = none) (hv : bootBuiltins x = some u) (r : RelV v u) (hn : x ≠ "__name__" := by decide) (hd : (x == ("__debug__" : Str)) = false := by decide) : PE X (.Name x pos) (tC v) :=
  fun _ _ _ H _ I h => ld_blt I hg hm hv ⟨v, H, I, r, h⟩ hn hd

/-! ### arithmetic -/
variable {a b : Expr} {ta tb : TE} {pos : Pos}
/-! ### comparisons -/
/-! ### and, or, not -/
variable {tA tB' : TT} {rest : List Expr}
noncomputable def tOr (t u : TT) : TT := fun σ H Q => t σ H fun c H1 => if c = true then Q true H1 else u σ H1 Q
noncomputable def tNot (t : TT) : TT := fun σ H Q => t σ H fun c H1 => Q (!c) H1
theorem pw_or1 (ha : PT X a tA) : PW X (.BoolOp .Or [a] pos) tA := by
  intro wh pins s σ H Q I h
  refine isTrue_or (thn (ha pins s σ H Q I h) fun c s1 e => ?_)
  cases c with
  | false => exact isTrue_or_nil e
  | true => exact e
theorem pw_or (ha : PT X a tA) (hb : PW X (.BoolOp .Or (b :: rest) pos) tB') : PW X (.BoolOp .Or (a :: b :: rest) pos) (tOr tA tB') := by
  intro wh pins s σ H Q I h
  refine isTrue_or (thn (ha pins s σ H _ I h) fun c s1 ⟨H1, I1, q1⟩ => ?_)
  cases c with
  | true => exact ⟨H1, I1, q1⟩
  | false => exact hb wh pins s1 σ H1 Q I1 q1
theorem pt_not (ha : PT X a tA) : PT X (.UnaryOp .Not a pos) (tNot tA) := by
  intro pins s σ H Q I h
  exact isTrue_not (ha pins s σ H (fun c H1 => Q (!c) H1) I h)
theorem pe_one {op} {t : TE} (h : PE X a t) : PE X (.BoolOp op [a] pos) t := fun pins s σ H Q I hw => BoolOp_one (h pins s σ H Q I hw)
end
end L2

namespace L2
open PySem PySem.Spec PyProof.Rows

/-! ### a list, a tuple that is read: tracked, frozen, or an object of the module -/
noncomputable def SqL (K : PySem.W.Frag) (H : Hp) (a : Addr) (xs : List V) : Prop :=
  Rd H a (.lst xs) ∨
    ∃ (o : Obj) (its : Array Value) (n : Nat), K.lookup a = some o ∧ o.cls = .type "list" ∧ o.dict = none ∧ o.data = .seq its n ∧ its.size ≤ sizeLine ∧ Vals xs its.toList
noncomputable def SqT (K : PySem.W.Frag) (H : Hp) (a : Addr) (xs : List V) : Prop :=
  Rd H a (.tup xs) ∨
    ∃ (o : Obj) (its : Array Value) (n : Nat), K.lookup a = some o ∧ o.cls = .type "tuple" ∧ o.data = .seq its n ∧ its.size ≤ sizeLine ∧ Vals xs its.toList
noncomputable def absV : Value → Option V
  | .none => some .non
  | .bool b => some (.bl b)
  | .int i _ => some (.int i)
  | .str x _ => some (.str x)
  | .bytes b _ => some (.byt b)
  | .float b _ => some (.flt b)
  | .ref a => some (.ref a)
  | .type n => some (.ty n)
  | _ => none
theorem RelV.abs {x : V} {u : Value} (r : RelV x u) : absV u = some x := by
  cases x with
  | non => cases r; rfl
  | bl _ => cases r; rfl
  | int _ => obtain ⟨t, rfl⟩ := r; rfl
  | str _ => obtain ⟨t, rfl⟩ := r; rfl
  | byt _ => obtain ⟨t, rfl⟩ := r; rfl
  | flt _ => obtain ⟨t, rfl⟩ := r; rfl
  | ref _ => cases r; rfl
  | ty _ => cases r; rfl
theorem RelV.inj {x y : V} {u : Value} (r : RelV x u) (q : RelV y u) : x = y := Option.some.inj (r.abs.symm.trans q.abs)
theorem Vals.inj : ∀ {xs ys : List V} {us : List Value}, Vals xs us → Vals ys us → xs = ys
  | _, _, _, .nil, .nil => rfl
  | _, _, _, .cons r t, .cons r' t' => by rw [r.inj r', Vals.inj t t']
section
variable {X : Cx} {pins : List (Addr × Obj)} {σ : St} {H : Hp} {s : Shared} {a : Addr} {xs ys : List V}
theorem SqL.of {K : PySem.W.Frag} (h : H a = some (.lst xs)) : SqL K H a xs := .inl (.inl h)
theorem SqT.of {K : PySem.W.Frag} (h : H a = some (.tup xs)) : SqT K H a xs := .inl (.inl h)
theorem Inv.list (I : Inv X pins σ H s) (h : SqL X.K H a xs) : ∃ its : List Value, Vals xs its ∧ PlainL s.heap a its.toArray ∧ xs.length ≤ sizeLine := by
  rcases h with h | ⟨o, its, n, hk, hc, hd, hs, hz, r⟩
  · obtain ⟨z, its, n, r, e⟩ := h.ok I.hok
    exact ⟨its, r, ⟨_, n, e, rfl, rfl, rfl⟩, z⟩
  · refine ⟨its.toList, r, ⟨o, n, I.kIn a o hk, hc, hd, by simpa using hs⟩, ?_⟩
    have e := r.length
    simp only [Array.length_toList] at e
    omega
theorem Inv.tuple (I : Inv X pins σ H s) (h : SqT X.K H a xs) : ∃ its : List Value, Vals xs its ∧ IsTup s.heap a its.toArray ∧ xs.length ≤ sizeLine := by
  rcases h with h | ⟨o, its, n, hk, hc, hs, hz, r⟩
  · obtain ⟨z, its, r, p⟩ := h.ok I.hok
    exact ⟨its, r, p, z⟩
  · refine ⟨its.toList, r, ⟨o, I.kIn a o hk, hc, n, by simpa using hs⟩, ?_⟩
    have e := r.length
    simp only [Array.length_toList] at e
    omega
theorem Inv.list_inj (I : Inv X pins σ H s) (h : SqL X.K H a xs) (h' : SqL X.K H a ys) : xs = ys := by
  obtain ⟨its, r, ⟨o, n, e, _, _, d⟩, _⟩ := I.list h
  obtain ⟨its', r', ⟨o', n', e', _, _, d'⟩, _⟩ := I.list h'
  rw [e] at e'; cases e'
  rw [d] at d'
  injection d' with d1 _
  have : its = its' := by simpa using congrArg Array.toList d1
  subst this
  exact r.inj r'
theorem Inv.tuple_inj (I : Inv X pins σ H s) (h : SqT X.K H a xs) (h' : SqT X.K H a ys) : xs = ys := by
  obtain ⟨its, r, ⟨o, e, _, n, d⟩, _⟩ := I.tuple h
  obtain ⟨its', r', ⟨o', e', _, n', d'⟩, _⟩ := I.tuple h'
  rw [e] at e'; cases e'
  rw [d] at d'
  injection d' with d1 _
  have : its = its' := by simpa using congrArg Array.toList d1
  subst this
  exact r.inj r'
end

/-! ### another wish about exceptions -/
noncomputable abbrev Cx.wish (X : Cx) (E : Value → Shared → Prop) : Cx := { X with xe := E }
/-- no exception leaves -/
noncomputable abbrev Cx.nox (X : Cx) : Cx := X.wish fun _ _ => False
theorem Cx.Ok.wish {X : Cx} (ok : X.Ok) (E : Value → Shared → Prop) : (X.wish E).Ok :=
  ⟨ok.mod, ok.kind, ok.glob, ok.blt, ok.above, ok.inj, ok.has, ok.cab, ok.hd, ok.frames, ok.stk, ok.exf, ok.bs, ok.bsz, ok.noex, ok.exfs, ok.funs, ok.frf⟩
theorem Cx.Ok.unwish {X : Cx} {E : Value → Shared → Prop} (ok : (X.wish E).Ok) : X.Ok :=
  ⟨ok.mod, ok.kind, ok.glob, ok.blt, ok.above, ok.inj, ok.has, ok.cab, ok.hd, ok.frames, ok.stk, ok.exf, ok.bs, ok.bsz, ok.noex, ok.exfs, ok.funs, ok.frf⟩
section
variable {X : Cx} {pins : List (Addr × Obj)} {σ : St} {H : Hp} {s : Shared} {E : Value → Shared → Prop}
theorem Inv.wish (I : Inv X pins σ H s) (E : Value → Shared → Prop) : Inv (X.wish E) pins σ H s := ⟨I.ok.wish E, I.os, I.bare, I.base, I.loc, I.cell, I.free, I.freeC, I.pin, I.hok, I.len⟩
theorem Inv.unwish (I : Inv (X.wish E) pins σ H s) : Inv X pins σ H s := ⟨I.ok.unwish, I.os, I.bare, I.base, I.loc, I.cell, I.free, I.freeC, I.pin, I.hok, I.len⟩
theorem SP.unwish {D : Ends} {f : Flow} {s' : Shared} (h : SP (X.wish E) pins D f s') : SP X pins D f s' := by
  cases f with
  | next => obtain ⟨σ', H', I, q⟩ := h; exact ⟨σ', H', I.unwish, q⟩
  | brk => obtain ⟨σ', H', I, q⟩ := h; exact ⟨σ', H', I.unwish, q⟩
  | cont => obtain ⟨σ', H', I, q⟩ := h; exact ⟨σ', H', I.unwish, q⟩
  | ret u => obtain ⟨v, σ', H', I, r, q⟩ := h; exact ⟨v, σ', H', I.unwish, r, q⟩
theorem PE.nox {e : Expr} {t : TE} (h : PE X.nox e t) : PE X e t := fun pins s σ H Q I hw =>
  wpAny_mono (h pins s σ H Q (I.wish _) hw) (fun _ _ ⟨v, H', I', r, q⟩ => ⟨v, H', I'.unwish, r, q⟩) fun _ _ z => False.elim z
theorem PT.nox {e : Expr} {t : TT} (h : PT X.nox e t) : PT X e t := fun pins s σ H Q I hw =>
  wpAny_mono (h pins s σ H Q (I.wish _) hw) (fun _ _ ⟨H', I', q⟩ => ⟨H', I'.unwish, q⟩) fun _ _ z => False.elim z
theorem PSs.nox {st : List Stmt} {t : TS} (h : PSs X.nox st t) : PSs X st t := fun pins s σ H D I hw =>
  wpAny_mono (h pins s σ H D (I.wish _) hw) (fun _ _ q => q.unwish) fun _ _ z => False.elim z
end

/-! ### blocks and small statements -/
section
variable {X : Cx} {st : Stmt} {rest : List Stmt} {t u : TS} {e : Expr} {te : TE} {pos : Pos}
noncomputable def tNext : TS := fun D σ H => D.nx σ H
noncomputable def tSeq (t u : TS) : TS := fun D σ H => t { D with nx := u D } σ H
theorem pss_nil : PSs X [] tNext := fun _ _ σ H _ I h => wpAny_execs_nil ⟨σ, H, I, h⟩
theorem pss_cons (h1 : PS X st t) (h2 : PSs X rest u) : PSs X (st :: rest) (tSeq t u) := by
  intro pins s σ H D I h
  refine wpAny_execs_cons (thn (h1 pins s σ H { D with nx := u D } I h) fun f s1 q => ?_)
  cases f with
  | next =>
    obtain ⟨σ', H', I', q⟩ := q
    exact h2 pins s1 σ' H' D I' q
  | ret v => exact q
  | brk => exact q
  | cont => exact q
theorem pss_one (h1 : PS X st t) : PSs X [st] t := by
  intro pins s σ H D I h
  refine wpAny_execs_cons (thn (h1 pins s σ H D I h) fun f s1 q => ?_)
  cases f with
  | next => exact wpAny_execs_nil q
  | ret v => exact q
  | brk => exact q
  | cont => exact q
noncomputable def tBreak : TS := fun D σ H => D.bk σ H
theorem ps_break : PS X (.Break pos) tBreak := fun _ _ σ H _ I h => wpAny_Break ⟨σ, H, I, h⟩
/-- in a def's body nothing is shown -/
theorem Inv.quiet {pins : List (Addr × Obj)} {σ : St} {H : Hp} {s : Shared} (I : Inv X pins σ H s) : interactive X.env = false := by simp [interactive, I.ok.kind]
/-- an expression whose value is dropped -/
noncomputable def tDrop (te : TE) : TS := fun D σ H => te σ H fun _ H1 => D.nx σ H1
theorem ps_expr (he : PE X e te) (hs : swapsWith e none pos.line X.env = pure false := by rfl) : PS X (.Expr e pos) (tDrop te) := by
  intro pins s σ H D I h
  exact wpAny_Expr_any (thn (he pins s σ H _ I h) fun v s1 ⟨x, H1, I1, r1, q1⟩ => ⟨σ, H1, I1, q1⟩) I.quiet hs
noncomputable def tRet (te : TE) : TS := fun D σ H => te σ H D.rt
theorem ps_ret (he : PE X e te) : PS X (.Return (some e) pos) (tRet te) := by
  intro pins s σ H D I h
  exact wpAny_Return_some (thn (he pins s σ H _ I h) fun v s1 ⟨x, H1, I1, r1, q1⟩ => ⟨x, σ, H1, I1, r1, q1⟩)
noncomputable def tIfS (c : TT) (t u : TS) : TS := fun D σ H => c σ H fun b H1 => if b = true then t D σ H1 else u D σ H1
theorem ps_if {c : Expr} {a b : List Stmt} {tc : TT} (hc : PT X c tc) (ha : PSs X a t) (hb : PSs X b u) : PS X (.If c a b pos) (tIfS tc t u) := by
  intro pins s σ H D I h
  refine wpAny_If (thn (hc pins s σ H _ I h) fun d s1 ⟨H1, I1, q1⟩ => ?_)
  cases d with
  | true => exact ha pins s1 σ H1 D I1 q1
  | false => exact hb pins s1 σ H1 D I1 q1
/-- code that the proof never comes to -/
noncomputable def tNever : TS := fun _ _ _ => False
theorem ps_never : PS X st tNever := fun _ _ _ _ _ _ h => h.elim
end

/-! ### targets -/
noncomputable abbrev TG := V → St → Hp → (St → Hp → Prop) → Prop
noncomputable abbrev TGs := List V → St → Hp → (St → Hp → Prop) → Prop
noncomputable def PG (X : Cx) (target : Expr) (t : TG) : Prop :=
  ∀ (pins : List (Addr × Obj)) (s : Shared) (σ : St) (H : Hp) (v : V) (u : Value) (Q : St → Hp → Prop), Inv X pins σ H s → RelV v u → t v σ H Q →
    wpAny (model X.prog X.w) X.A (assign target X.env u) (fun _ s' => ∃ σ' H', Inv X pins σ' H' s' ∧ Q σ' H') X.xe s
/-- several targets, one after another -/
noncomputable def PGs (X : Cx) (ts : List Expr) (t : TGs) : Prop :=
  ∀ (pins : List (Addr × Obj)) (s : Shared) (σ : St) (H : Hp) (vs : List V) (us : List Value) (Q : St → Hp → Prop), Inv X pins σ H s → Vals vs us → t vs σ H Q →
    wpAny (model X.prog X.w) X.A (assignInOrder ((assignEach ts X.env).map (·.2)) us) (fun _ s' => ∃ σ' H', Inv X pins σ' H' s' ∧ Q σ' H') X.xe s
/-- o[i] = v, by values -/
noncomputable abbrev TSet := V → V → V → Hp → (Hp → Prop) → Prop
noncomputable def PSet (X : Cx) (t : TSet) : Prop :=
  ∀ (pins : List (Addr × Obj)) (s : Shared) (σ : St) (H : Hp) (o i v : V) (ov iv u : Value) (Q : Hp → Prop), Inv X pins σ H s → RelV o ov → RelV i iv → RelV v u → t o i v H Q →
    wpAny (model X.prog X.w) X.A (setItem ov iv u) (fun _ s' => ∃ H', Inv X pins σ H' s' ∧ Q H') X.xe s
/-- a op= b, by values -/
noncomputable abbrev TIp := V → V → Hp → VK → Prop
noncomputable def PIp (X : Cx) (op : Operator) (t : TIp) : Prop :=
  ∀ (pins : List (Addr × Obj)) (s : Shared) (σ : St) (H : Hp) (x y : V) (v u : Value) (Q : VK), Inv X pins σ H s → RelV x v → RelV y u → t x y H Q →
    wpAny (model X.prog X.w) X.A (inplaceOp op v u) (EP X pins σ Q) X.xe s
section
variable {X : Cx} {pos : Pos}
noncomputable def gName (i : Nat) : TG := fun v σ H Q => Q (σ.set i (some v)) H
theorem pg_name {i : Nat} {x : Str} (hN : X.N.Nodup) (hi : X.N[i]? = some x) (hx : Loc X.env.scope x) (hf : X.fn x = true ∨ X.env.scope.names.lookup x = some .local := by first | exact .inl rfl | exact .inr rfl | assumption) : PG X (.Name x pos) (gName i) := by
  intro pins s σ H v u Q I r h
  exact wpAny_assign_Name (store_ok I hN hi hx r (fun s' I' => ⟨_, H, I', h⟩) hf)
noncomputable def gNil : TGs := fun vs σ H Q => vs = [] ∧ Q σ H
inductive gCons (t : TG) (u : TGs) (vs : List V) (σ : St) (H : Hp) (Q : St → Hp → Prop) : Prop
  | mk (v : V) (r : List V) (h0 : vs = v :: r) (h1 : t v σ H fun σ' H' => u r σ' H' Q) : gCons t u vs σ H Q
theorem pgs_nil : PGs X [] gNil := by
  intro pins s σ H vs us Q I r h
  obtain ⟨e, h⟩ := h
  subst e
  cases r
  exact assignInOrder_nil ⟨σ, H, I, h⟩
theorem pgs_cons {e : Expr} {es : List Expr} {t : TG} {u : TGs} (h1 : PG X e t) (h2 : PGs X es u)
    (hs : (assignEach (e :: es) X.env).map (·.2) = assign e X.env :: (assignEach es X.env).map (·.2) := by rfl) : PGs X (e :: es) (gCons t u) := by
  intro pins s σ H vs us Q I r h
  obtain ⟨v, vr, e1, h⟩ := h
  subst e1
  cases r with
  | cons r rr =>
    rw [hs]
    refine assignInOrder_cons (thn (h1 pins s σ H _ _ _ I r h) fun _ s1 ⟨σ1, H1, I1, q1⟩ => ?_)
    exact h2 pins s1 σ1 H1 _ _ Q I1 rr q1
/-- (a, b, ..) = a tuple of that length -/
inductive gTup (K : PySem.W.Frag) (n : Nat) (t : TGs) (v : V) (σ : St) (H : Hp) (Q : St → Hp → Prop) : Prop
  | mk (a : Addr) (xs : List V) (h0 : v = .ref a) (h1 : SqT K H a xs) (h2 : xs.length = n) (h3 : t xs σ H Q) : gTup K n t v σ H Q
theorem pg_tup {es : List Expr} {k : Nat} {t : TGs} {n : Nat} (hc : X.calm = true) (h : PGs X es t)
    (hn : (assignEach es X.env).length = n := by rfl) (hst : (assignEach es X.env).findIdx? (·.1) = none := by rfl) : PG X (.Tuple es k pos) (gTup X.K n t) := by
  intro pins s σ H v u Q I r hw
  obtain ⟨a, xs, e1, hq, hl, hw⟩ := hw
  subst e1
  cases r
  obtain ⟨its, rv, ht, hz⟩ := I.tuple hq
  refine assign_Tuple_tuple (I.ok.hd hc) ht (by simp [hn, ← hl, rv.length]) hst fun h' hx => ?_
  have I1 : Inv X pins σ H { s with heap := h' } := I.kept (t' := s.toks) fun b o e => hx b o (Nat.ne_of_lt (Heap.lt_size e)) e
  exact h pins _ σ H xs _ Q I1 (by simpa using rv) hw
/-- o[i] = .. -/
noncomputable def gSub (to ti : TE) (t : TSet) : TG := fun v σ H Q => to σ H fun o H1 => ti σ H1 fun i H2 => t o i v H2 fun H3 => Q σ H3
theorem pg_sub {o i : Expr} {to ti : TE} {t : TSet} (ho : PE X o to) (hi : PE X i ti) (hs : PSet X t)
    (ha : ∀ v, assign (.Subscript o i pos) X.env v = (do
      let ov ← holding [v] (eval o X.env)
      let iv ← holding [v, ov] (eval i X.env)
      standAt pos
      holding [v, ov, iv] (setItem ov iv v)
      release [v, ov, iv] []) := by intro _; rfl) : PG X (.Subscript o i pos) (gSub to ti t) := by
  intro pins s σ H v u Q I r h
  rw [ha]
  refine wpAny_bind (wpAny_holding (thn (ho pins s σ H _ I h) fun ov s1 ⟨x, H1, I1, r1, q1⟩ => ?_))
  refine wpAny_bind (wpAny_holding (thn (hi pins s1 σ H1 _ I1 q1) fun iv s2 ⟨y, H2, I2, r2, q2⟩ => ?_))
  refine wpAny_bind (wpAny_standAt (wpAny_bind (wpAny_holding (thn (hs pins s2 σ H2 x y v ov iv u _ I2 r1 r2 r q2) fun _ s3 ⟨H3, I3, q3⟩ => ?_))))
  exact wpAny_release ⟨σ, H3, I3, q3⟩
/-- target = value -/
noncomputable def tAsg (te : TE) (g : TG) : TS := fun D σ H => te σ H fun x H1 => g x σ H1 D.nx
theorem ps_asg {tg e : Expr} {te : TE} {g : TG} (he : PE X e te) (hg : PG X tg g) (hs : swapsWithSole [tg] e pos.line X.env = pure false := by rfl) (hw : swappedStores [tg] e X.env = pure none := by rfl)
    (h1 : (assignEach [tg] X.env).map (·.2) = [assign tg X.env] := by rfl) : PS X (.Assign [tg] e pos) (tAsg te g) := by
  intro pins s σ H D I h
  refine wpAny_Assign_stores (thn (he pins s σ H _ I h) fun v s1 ⟨x, H1, I1, r1, q1⟩ => ?_) hs hw
  rw [h1]
  exact thn (hg pins s1 σ H1 x v _ I1 r1 q1) fun _ s2 q => q
/-- name = value -/
theorem ps_set {i : Nat} {x : Str} {e : Expr} {te : TE} {pos' : Pos} (hN : X.N.Nodup) (hi : X.N[i]? = some x) (hx : Loc X.env.scope x) (he : PE X e te) (hs : swapsWith e (some (.Name x pos')) pos.line X.env = pure false := by rfl) (hf : X.fn x = true ∨ X.env.scope.names.lookup x = some .local := by first | exact .inl rfl | exact .inr rfl | assumption) :
    PS X (.Assign [.Name x pos'] e pos) (tAsg te (gName i)) := by
  intro pins s σ H D I h
  refine wpAny_Assign_Name (thn (he pins s σ H _ I h) fun v s1 ⟨y, H1, I1, r1, q1⟩ => ?_) hs
  exact store_ok I1 hN hi hx r1 (fun s2 I2 => ⟨_, H1, I2, q1⟩) hf
/-- a, b = x, y with plain local names: stored from the right; the pair itself is not tracked (the opening rows as in PyProof/Rows/TupAssign.lean:23) -/
noncomputable def tPar (i j : Nat) (ta : TA) : TS := fun D σ H => ta σ H fun vs H1 => ∃ v w, vs = [v, w] ∧ D.nx ((σ.set i (some v)).set j (some w)) H1
theorem ps_par {i j : Nat} {x y : Str} {a b : Expr} {ta : TA} {px py pt : Pos} {kt k2 pt2} (hc : X.calm = true) (hN : X.N.Nodup) (hi : X.N[i]? = some x) (hj : X.N[j]? = some y) (hij : i ≠ j)
    (hx : X.env.scope.names.lookup x = some .local) (hy : X.env.scope.names.lookup y = some .local) (ha : PA X [a, b] ta)
    (hw : swappedStores [.Tuple [.Name x px, .Name y py] kt pt] (.Tuple [a, b] k2 pt2) X.env = pure (some [x, y]))
    (hs : swapsWithSole [.Tuple [.Name x px, .Name y py] kt pt] (.Tuple [a, b] k2 pt2) pos.line X.env = pure false := by rfl) :
    PS X (.Assign [.Tuple [.Name x px, .Name y py] kt pt] (.Tuple [a, b] k2 pt2) pos) (tPar i j ta) := by
  intro pins s σ H D I h
  rw [exec_Assign_arm]
  refine wpAny_bind (wpAny_standAt ?_)
  rw [hs]
  refine wpAny_bind (wpAny_pure ?_)
  rw [if_neg (by decide)]
  refine wpAny_bind (Tuple_ (thn (ha _ pins s σ H _ I h) fun us s1 ⟨vs, H1, I1, r1, q1⟩ => ?_))
  obtain ⟨v, w, e1, q1⟩ := q1
  subst e1
  obtain ⟨u1, u2, rfl, rv, rw'⟩ : ∃ u1 u2, us = [u1, u2] ∧ RelV v u1 ∧ RelV w u2 := by
    cases r1 with
    | cons p q =>
      cases q with
      | cons p' q' =>
        cases q'
        exact ⟨_, _, rfl, p, p'⟩
  refine wpAny_newObj_type ?_ (by show 2 ≤ sizeLine; decide)
  have I2 : Inv X pins σ H1 { s1 with heap := s1.heap.push { cls := .type "tuple", data := .seq [u1, u2].toArray } } := I1.kept (t' := s1.toks) fun b o e => Heap.get?_push_of_some _ e
  rw [hw]
  refine wpAny_bind (wpAny_pure ?_)
  show wpAny (model X.prog X.w) X.A (do rule "assign.swapped-stores"; let items ← unpackItems (.ref s1.heap.objs.size) 2 none; assignInOrder [fun v => bindName X.env y v, fun v => bindName X.env x v] items.reverse; pure Flow.next) _ _ _
  refine wpAny_bind (wpAny_rule (wpAny_bind (unpackItems_tuple (items := #[u1, u2]) (I.ok.hd hc) (IsTup.new s1.heap _) fun h' hx' => ?_)))
  have I3 := I2.kept (h' := h') (t' := s1.toks) fun b o e => hx' b o (Nat.ne_of_lt (Heap.lt_size e)) e
  show wpAny _ _ (assignInOrder [fun v => bindName X.env y v, fun v => bindName X.env x v] [u2, u1] >>= fun _ => pure Flow.next) _ _ _
  refine wpAny_bind (assignInOrder_cons (wpAny_bindName (store_ok I3 hN hj (.inl hy) rw' (fun s2 I4 => ?_) (.inr hy))))
  refine assignInOrder_cons (wpAny_bindName (store_ok I4 hN hi (.inl hx) rv (fun s3 I5 => assignInOrder_nil (wpAny_pure ?_)) (.inr hx)))
  rw [List.set_comm _ _ (Ne.symm hij)] at I5
  exact ⟨_, H1, I5, q1⟩
/-- name op= e -/
noncomputable def tAug (i : Nat) (te : TE) (ti : TIp) : TS := fun D σ H => ∃ x, σ[i]? = some (some x) ∧ te σ H fun y H1 => ti x y H1 fun z H2 => D.nx (σ.set i (some z)) H2
theorem ps_aug {i : Nat} {x : Str} {e : Expr} {te : TE} {op : Operator} {ti : TIp} {pos' : Pos} (hN : X.N.Nodup) (hi : X.N[i]? = some x) (hx : Loc X.env.scope x) (he : PE X e te) (ho : PIp X op ti) (hf : X.fn x = true ∨ X.env.scope.names.lookup x = some .local := by first | exact .inl rfl | exact .inr rfl | assumption) :
    PS X (.AugAssign (.Name x pos') op e pos) (tAug i te ti) := by
  intro pins s σ H D I h
  obtain ⟨v, e1, h⟩ := h
  obtain ⟨m, hn, hl⟩ := I.loc
  have vis : Vis X.env.scope x := by rcases hx with k | k; exact .inl k; exact .inr (.inl k)
  obtain ⟨u, r, l⟩ := hl i x v hi e1 vis
  refine wpAny_AugAssign_Name ?_
  have go : wpAny (model X.prog X.w) X.A (eval e X.env) (fun w s₂ => wpAny (model X.prog X.w) X.A (inplaceOp op u w) (fun r s₃ => wpAny (model X.prog X.w) X.A (storeName X.env x r) (fun _ => SP X pins D .next) X.xe s₃) X.xe s₂) X.xe s := by
    refine thn (he pins s σ H _ I h) fun w s1 ⟨y, H1, I1, r1, q1⟩ => ?_
    refine thn (ho pins s1 σ H1 v y u w _ I1 r r1 q1) fun z s2 ⟨zv, H2, I2, r2, q2⟩ => ?_
    exact store_ok I2 hN hi hx r2 (fun s3 I3 => ⟨_, H2, I3, q2⟩) hf
  rcases l with ⟨hk, hm⟩ | ⟨hk, c, hc, hcell⟩
  · exact wpAny_loadName_local I.ok.kind hk hn hm go
  · rcases hk with hk | hk
    · exact wpAny_loadName_cell I.ok.kind hk hc hcell go
    · rcases hx with k | k
      · have : X.env.scope.names.lookup x = some .free := hk
        rw [k] at this; cases this
      · have : X.env.scope.names.lookup x = some .free := hk
        rw [k] at this; cases this
/-- ints -/
noncomputable def ipI (f : Int → Int → Int) : TIp := fun x y H Q => ∃ i j, x = .int i ∧ y = .int j ∧ Q (.int (f i j)) H
theorem ip_add : PIp X .Add (ipI fun i j => i + j) := by
  intro pins s σ H x y v u Q I r1 r2 h
  obtain ⟨i, j, e1, e2, q⟩ := h
  subst e1; subst e2
  obtain ⟨t, rfl⟩ := r1
  obtain ⟨t', rfl⟩ := r2
  exact iadd_int ⟨.int _, H, I.tok _, ⟨_, rfl⟩, q⟩
end

/-! ### while -/
section
variable {X : Cx} {pos : Pos}
/-- the invariant W with its measure -/
noncomputable def tWhile (c : TT) (tb : TS) : TS := fun D σ H => ∃ W : Nat → St → Hp → Prop, (∃ m, W m σ H) ∧ ∀ m σ H, W m σ H →
  c σ H fun b H1 => if b = true then ∃ N : St → Hp → Prop, (∀ σ' H', N σ' H' → ∃ m', m' < m ∧ W m' σ' H') ∧ tb { D with nx := N, ct := N, bk := D.nx } σ H1 else D.nx σ H1
theorem ps_while {c : Expr} {body : List Stmt} {tc : TT} {tb : TS} (hp : PassesOwn (model X.prog X.w) X.A X.env X.xe) (hc : PT X c tc) (hb : PSs X body tb) : PS X (.While c body [] pos) (tWhile tc tb) := by
  intro pins s σ H D I h
  obtain ⟨W, ⟨m0, w0⟩, turn⟩ := h
  refine wpAny_While (codeAny_whileLoop (fun n s' => ∃ σ' H', Inv X pins σ' H' s' ∧ W n σ' H') ?_ m0 ⟨σ, H, I, w0⟩)
  rintro n s1 ⟨σ1, H1, I1, w1⟩
  refine wpAny_passesOwn hp (thn (hc pins s1 σ1 H1 _ I1 (turn n σ1 H1 w1)) fun b s2 ⟨H2, I2, q2⟩ => ?_)
  cases b with
  | true =>
    obtain ⟨N, hN, q2⟩ := q2
    rw [if_pos rfl]
    refine wpAny_passesOwn hp (thn (hb pins s2 σ1 H2 _ I2 q2) fun f s3 q3 => ?_)
    cases f with
    | next =>
      obtain ⟨σ3, H3, I3, n3⟩ := q3
      obtain ⟨m', hm, w3⟩ := hN σ3 H3 n3
      exact ⟨m', hm, σ3, H3, I3, w3⟩
    | cont =>
      obtain ⟨σ3, H3, I3, n3⟩ := q3
      obtain ⟨m', hm, w3⟩ := hN σ3 H3 n3
      exact ⟨m', hm, σ3, H3, I3, w3⟩
    | brk => exact q3
    | ret v => exact q3
  | false =>
    rw [if_neg Bool.false_ne_true]
    exact wpAny_execs_nil ⟨σ1, H2, I2, q2⟩
end

/-! ### what a loop or a comprehension walks -/
/-- at turn i: it yields x (the heap may grow), or it stops -/
structure It where
  go : Nat → Hp → Prop
  yld : Nat → Hp → V → Hp → Prop
  stop : Nat → Hp → Prop
/-- the iterator's own objects may turn: they are not the frame's, not pinned, younger than the entry (or a comprehension's own) -/
noncomputable def FpOk (X : Cx) (pins : List (Addr × Obj)) (H : Hp) (b : Addr) : Prop :=
  H b = none ∧ b ≠ X.env.locals ∧ b ∉ X.fs ∧ (b ∈ X.ex ∨ X.s₀.heap.objs.size ≤ b) ∧ (∀ x c, X.env.cells.lookup x = some c → c ≠ b) ∧ ∀ p ∈ X.pn ++ pins, p.1 ≠ b
theorem Inv.fpOk {X : Cx} {pins : List (Addr × Obj)} {σ : St} {H H' : Hp} {s : Shared} {b : Addr} (I : Inv X pins σ H s) (hb : s.heap.objs.size ≤ b) (hn : H' b = none) : FpOk X pins H' b := by
  refine ⟨hn, Nat.ne_of_gt (Nat.lt_of_lt_of_le I.lt hb), I.nofs hb, .inr (Nat.le_trans I.sz hb), fun x c e z => ?_, fun p hp z => ?_⟩
  · obtain ⟨v, q⟩ := I.cell x c e
    exact absurd (Nat.lt_of_lt_of_le q.lt (by rw [z]; exact hb)) (Nat.lt_irrefl _)
  · exact absurd (Nat.lt_of_lt_of_le (Heap.lt_size (I.pin p hp).1) (by rw [z]; exact hb)) (Nat.lt_irrefl _)
structure Turn (P : Program) (w : World) (K : PySem.W.Frag) (tg : Expr) (J : It) (fp : List Addr) (it : Addr) (tn : Nat → Heap → Prop) : Prop where
  mem : it ∈ fp
  obj : ∀ i h, tn i h → ∀ b ∈ fp, ∃ o, h.get? b = some o ∧ ∀ v, o.data ≠ .cell v
  keep : ∀ i h h', tn i h → (∀ b ∈ fp, ∀ o, h.get? b = some o → h'.get? b = some o) → tn i h'
  item : ∀ (X : Cx), X.prog = P → X.w = w → X.K = K → X.calm = true → ∀ (i : Nat) (pins : List (Addr × Obj)) (s : Shared) (σ : St) (H : Hp) (E : Value → Shared → Prop), Inv X pins σ H s → (∀ b ∈ fp, FpOk X pins H b) → tn i s.heap → J.go i H →
    wpAny (model P w) X.A (pyNext (.ref it)) (fun r s1 => ∃ u, r = some u ∧
      wpAny (model P w) X.A (letOwnedTupleGo tg (.ref it) u) (fun _ s2 => ∃ x H', Inv X pins σ H' s2 ∧ RelV x u ∧ J.yld i H x H' ∧ tn (i + 1) s2.heap ∧ ∀ b ∈ fp, H' b = none) E s1) E s
  done : ∀ (X : Cx), X.prog = P → X.w = w → X.K = K → X.calm = true → ∀ (i : Nat) (pins : List (Addr × Obj)) (s : Shared) (σ : St) (H : Hp) (E : Value → Shared → Prop), Inv X pins σ H s → (∀ b ∈ fp, FpOk X pins H b) → tn i s.heap → J.stop i H →
    wpAny (model P w) X.A (pyNext (.ref it)) (fun r s1 => r = none ∧ Inv X pins σ H s1) E s
  self : ∀ (A : Around) (i : Nat) (s : Shared) (Q : Value → Shared → Prop) (E : Value → Shared → Prop), tn i s.heap → Q (.ref it) s → wpAny (model P w) A (pyIter (.ref it)) Q E s
noncomputable abbrev TI := St → Hp → (It → Hp → Prop) → Prop
/-- an iterator has come -/
noncomputable def PIE (X : Cx) (pins : List (Addr × Obj)) (σ : St) (tg : Expr) (R : It → Hp → Prop) (itv : Value) (s2 : Shared) : Prop :=
  ∃ (it : Addr) (fp : List Addr) (tn : Nat → Heap → Prop) (J : It) (H' : Hp), itv = .ref it ∧ Inv X pins σ H' s2 ∧ Turn X.prog X.w X.K tg J fp it tn ∧ tn 0 s2.heap ∧ (∀ b ∈ fp, FpOk X pins H' b) ∧ R J H'
noncomputable def PI (X : Cx) (tg iter : Expr) (wi : TI) : Prop :=
  ∀ (pins : List (Addr × Obj)) (s : Shared) (σ : St) (H : Hp) (R : It → Hp → Prop), Inv X pins σ H s → wi σ H R →
    wpAny (model X.prog X.w) X.A (eval iter X.env) (fun v s1 => wpAny (model X.prog X.w) X.A (pyIter v) (PIE X pins σ tg R) X.xe s1) X.xe s

/-- the step ahead of the store is nothing for an iterator that keeps no tuple -/
theorem go_of {M : Model} {A : Around} {E : Value → Shared → Prop} {s : Shared} {tg : Expr} {it : Addr} {u : Value} {o : Obj} {n : String} {vs : Array Value} {Q : Unit → Shared → Prop} (ho : s.heap.get? it = some o) (hc : o.cls = .type n) (hd : o.data = .fields vs)
    (hn : ["enumerate", "zip", "dict_itemiterator", "dict_reverseitemiterator", "odict_iterator", "itertools.zip_longest", "itertools.pairwise"].contains n = false) (hQ : Q () s) : wpAny M A (letOwnedTupleGo tg (.ref it) u) Q E s := by
  unfold letOwnedTupleGo
  cases tg <;> first
    | exact wpAny_pure hQ
    | (cases u <;> first
        | exact wpAny_pure hQ
        | (refine wpAny_bind (wpAny_load ho ?_)
           rw [hc, hd]
           show wpAny M A (if (["enumerate", "zip", "dict_itemiterator", "dict_reverseitemiterator", "odict_iterator", "itertools.zip_longest", "itertools.pairwise"].contains n && vs[0]? == some (rawInt _)) = true then _ else _) Q E s
           rw [if_neg (by intro h; rw [hn, Bool.false_and] at h; cases h)]
           exact wpAny_pure hQ))

/-- the list at a, as it stands at each turn (a loop may append to it) -/
noncomputable def Itl (K : PySem.W.Frag) (a : Addr) : It :=
  ⟨fun i H => ∃ xs x, SqL K H a xs ∧ xs[i]? = some x, fun i H x H' => H' = H ∧ ∀ xs, SqL K H a xs → xs[i]? = some x, fun i H => ∃ xs, SqL K H a xs ∧ xs.length ≤ i⟩
noncomputable def Itt (K : PySem.W.Frag) (a : Addr) : It :=
  ⟨fun i H => ∃ xs x, SqT K H a xs ∧ xs[i]? = some x, fun i H x H' => H' = H ∧ ∀ xs, SqT K H a xs → xs[i]? = some x, fun i H => ∃ xs, SqT K H a xs ∧ xs.length ≤ i⟩
/-- lo, lo + 1, .. (n of them) -/
noncomputable def Itr (lo : Int) (n : Nat) : It := ⟨fun i _ => i < n, fun i H x H' => H' = H ∧ x = .int (lo + i), fun i _ => n ≤ i⟩
theorem turn_list {P : Program} {w : World} {K : PySem.W.Frag} {tg : Expr} (a it : Addr) : Turn P w K tg (Itl K a) [it] it (fun i h => h.IsListIter it a i) where
  mem := by simp
  obj := fun i h st b hb => by
    have e : b = it := by simpa using hb
    subst e
    obtain ⟨o, e, c, d⟩ := st
    exact ⟨o, e, fun v z => by rw [d] at z; cases z⟩
  keep := fun i h h' st k => st.at fun o e => k it (by simp) o e
  item := by
    intro X hP hw hK hc i pins s σ H E I hf st hg
    subst hP hw hK
    obtain ⟨xs, x, hq, hx⟩ := hg
    obtain ⟨its, rv, p, hz⟩ := I.list hq
    obtain ⟨u, hu, ru⟩ := rv.get hx
    obtain ⟨f0, f1, f2, f3, f4, f5⟩ := hf it (by simp)
    refine wpAny_pyNext_list_item st p.isList (x := u) (by simpa using hu) fun h' st' sb => ?_
    have I1 : Inv X pins σ H { s with heap := h' } := I.turned (t' := s.toks) (fun b o hb e => (sb.2 b hb).trans e) f0 f1 f3 f4 f5
    obtain ⟨o, e, c, d⟩ := id st'
    exact ⟨u, rfl, go_of (s := { s with heap := h' }) e c d (by decide) ⟨x, H, I1, ru, ⟨rfl, fun ys hy => by rw [I.list_inj hy hq]; exact hx⟩, st', fun b hb => (hf b hb).1⟩⟩
  done := by
    intro X hP hw hK hc i pins s σ H E I hf st hg
    subst hP hw hK
    obtain ⟨xs, hq, hx⟩ := hg
    obtain ⟨its, rv, p, hz⟩ := I.list hq
    obtain ⟨f0, f1, f2, f3, f4, f5⟩ := hf it (by simp)
    have hl := rv.length
    exact wpAny_pyNext_list_end (I.ok.hd hc) st p.isList (by simp; omega) fun h' eb => ⟨rfl, I.turned (t' := s.toks) (fun b o hb e => eb b o hb e) f0 f1 f3 f4 f5⟩
  self := fun _ _ _ _ _ st h => wpAny_pyIter_listiter st h
theorem turn_tuple {P : Program} {w : World} {K : PySem.W.Frag} {tg : Expr} (a it : Addr) : Turn P w K tg (Itt K a) [it] it (fun i h => h.IsTupleIter it a i) where
  mem := by simp
  obj := fun i h st b hb => by
    have e : b = it := by simpa using hb
    subst e
    obtain ⟨o, e, c, d⟩ := st
    exact ⟨o, e, fun v z => by rw [d] at z; cases z⟩
  keep := fun i h h' st k => st.at fun o e => k it (by simp) o e
  item := by
    intro X hP hw hK hc i pins s σ H E I hf st hg
    subst hP hw hK
    obtain ⟨xs, x, hq, hx⟩ := hg
    obtain ⟨its, rv, p, hz⟩ := I.tuple hq
    obtain ⟨u, hu, ru⟩ := rv.get hx
    obtain ⟨f0, f1, f2, f3, f4, f5⟩ := hf it (by simp)
    refine wpAny_pyNext_tuple_item st (show s.heap.IsTuple a its.toArray from p) (x := u) (by simpa using hu) fun h' st' sb => ?_
    have I1 : Inv X pins σ H { s with heap := h' } := I.turned (t' := s.toks) (fun b o hb e => (sb.2 b hb).trans e) f0 f1 f3 f4 f5
    obtain ⟨o, e, c, d⟩ := id st'
    exact ⟨u, rfl, go_of (s := { s with heap := h' }) e c d (by decide) ⟨x, H, I1, ru, ⟨rfl, fun ys hy => by rw [I.tuple_inj hy hq]; exact hx⟩, st', fun b hb => (hf b hb).1⟩⟩
  done := by
    intro X hP hw hK hc i pins s σ H E I hf st hg
    subst hP hw hK
    obtain ⟨xs, hq, hx⟩ := hg
    obtain ⟨its, rv, p, hz⟩ := I.tuple hq
    obtain ⟨f0, f1, f2, f3, f4, f5⟩ := hf it (by simp)
    have hl := rv.length
    exact wpAny_pyNext_tuple_end (I.ok.hd hc) st (show s.heap.IsTuple a its.toArray from p) (by simp; omega) fun h' eb => ⟨rfl, I.turned (t' := s.toks) (fun b o hb e => eb b o hb e) f0 f1 f3 f4 f5⟩
  self := fun _ _ _ _ _ st h => wpAny_pyIter_tupleiter st h
theorem turn_range {P : Program} {w : World} {K : PySem.W.Frag} {tg : Expr} (it : Addr) (lo : Int) (n : Nat) : Turn P w K tg (Itr lo n) [it] it (fun i h => IsRangeIter h it (lo + (i : Nat) * 1) ((n : Int) - (i : Nat)) 1) where
  mem := by simp
  obj := fun i h st b hb => by
    have e : b = it := by simpa using hb
    subst e
    exact ⟨_, st, fun v z => by
      have z' : Data.fields _ = Data.cell v := z
      cases z'⟩
  keep := fun i h h' st k => k it (by simp) _ st
  item := by
    intro X hP hw hK hc i pins s σ H E I hf st hg
    subst hP hw hK
    obtain ⟨f0, f1, f2, f3, f4, f5⟩ := hf it (by simp)
    have W := Walks.range (prog := X.prog) (w := X.w) (I.ok.hd hc) it lo 1 n
    refine W.item i s _ _ hg st fun v h' tk hv st' kk => ?_
    obtain ⟨t, rfl⟩ := hv
    have I1 : Inv X pins σ H { s with heap := h', toks := tk } := I.turned (fun b o hb e => kk b o (by simpa using hb) e) f0 f1 f3 f4 f5
    refine ⟨_, rfl, go_of (s := { s with heap := h', toks := tk }) (n := "range_iterator") st' rfl rfl (by decide) ⟨.int (lo + i), H, I1, ⟨t, ?_⟩, ⟨rfl, rfl⟩, st', fun b hb => (hf b hb).1⟩⟩
    rw [Int.mul_one]
  done := by
    intro X hP hw hK hc i pins s σ H E I hf st hg
    subst hP hw hK
    obtain ⟨f0, f1, f2, f3, f4, f5⟩ := hf it (by simp)
    exact wpAny_pyNext_range_end (I.ok.hd hc) st (by have : n ≤ i := hg; omega) fun h' eb => ⟨rfl, I.turned (t' := s.toks) (fun b o hb e => eb b o hb e) f0 f1 f3 f4 f5⟩
  self := fun _ _ _ _ _ st h => wpAny_pyIter_rangeiter st h
end L2

namespace L2
open PySem PySem.Spec PyProof.Rows
section
variable {X : Cx} {tg : Expr}
/-- a range object just made, walked -/
theorem range_it {pins : List (Addr × Obj)} {σ : St} {H : Hp} {s : Shared} {R : It → Hp → Prop} {E : Value → Shared → Prop} {lo hi : Int} {t u v : Tok} {tk : Nat} (I : Inv X pins σ H s) (h1 : -(2 ^ 62) ≤ lo) (h2 : lo < 2 ^ 62) (h3 : -(2 ^ 62) ≤ hi) (h4 : hi < 2 ^ 62)
    (q : R (Itr lo (hi - lo).toNat) H) : wpAny (model X.prog X.w) X.A (pyIter (.ref s.heap.objs.size)) (PIE X pins σ tg R) E { s with heap := s.heap.push { cls := .type "range", data := .fields #[.int lo t, .int hi u, .int 1 v] }, toks := tk } := by
  refine wpAny_pyIter_range (IsRange.new ..) (small_one h1 h2 h3 h4) ?_
  have I1 : Inv X pins σ H { s with heap := s.heap.push { cls := .type "range", data := .fields #[.int lo t, .int hi u, .int 1 v] }, toks := tk } := I.kept fun b o e => Heap.get?_push_of_some _ e
  refine ⟨(s.heap.push { cls := .type "range", data := .fields #[.int lo t, .int hi u, .int 1 v] }).objs.size, [(s.heap.push { cls := .type "range", data := .fields #[.int lo t, .int hi u, .int 1 v] }).objs.size], _, _, H, rfl,
    I1.kept (t' := tk) fun b o e => Heap.get?_push_of_some _ e, turn_range _ lo (hi - lo).toNat, ?_, fun b hb => ?_, q⟩
  · have e1 : lo + ((0 : Nat) : Int) * 1 = lo := by simp
    have e2 : (((hi - lo).toNat : Nat) : Int) - ((0 : Nat) : Int) = Builtin.Range.rangeSize lo hi 1 := by rw [rangeSize_one]; split <;> omega
    show IsRangeIter _ _ (lo + ((0 : Nat) : Int) * 1) ((((hi - lo).toNat : Nat) : Int) - ((0 : Nat) : Int)) 1
    rw [e1, e2]
    exact Heap.get?_push_size _ rfl
  · have e : b = (s.heap.push { cls := .type "range", data := .fields #[.int lo t, .int hi u, .int 1 v] }).objs.size := by simpa using hb
    subst e
    exact I1.fpOk (Nat.le_refl _) (I1.hok.fresh (Nat.le_refl _))
noncomputable def iRng1 (ta : TA) : TI := fun σ H R => ta σ H fun vs H1 => ∃ j : Int, vs = [.int j] ∧ -(2 ^ 62) ≤ j ∧ j < 2 ^ 62 ∧ R (Itr 0 j.toNat) H1
theorem pi_range1 {a : Expr} {ta : TA} {p pos : Pos} (hg : Gl X "range") (hm : X.mg "range" = none) (ha : PA X [a] ta) (hs : starEach [a] X.env = [(false, eval a X.env)] := by rfl) : PI X tg (.Call (.Name "range" p) [a] [] pos) (iRng1 ta) := by
  intro pins s σ H R I h
  refine Call_ (ld_blt I hg hm boot_range (PyProof.Rows.callWith_type1 (thn (ha pos pins s σ H _ I h) fun us s1 ⟨vs, H1, I1, r1, q1⟩ => ?_) hs rfl))
  obtain ⟨j, e, q1, q2, q⟩ := q1
  subst e
  cases r1 with
  | cons r rr =>
    cases rr
    obtain ⟨t, rfl⟩ := r
    exact call_range_1 (range_it I1 (by omega) (by omega) q1 q2 (by simpa using q))
/-! ### for -/
/-- W: the invariant by the turn and a measure; N: what the body is to reach -/
noncomputable def tFor (wi : TI) (g : TG) (tb : TS) : TS := fun D σ H => wi σ H fun J H1 => ∃ W : Nat → Nat → St → Hp → Prop, (∃ m, W 0 m σ H1) ∧ ∀ i m σ H, W i m σ H →
  (J.stop i H ∧ D.nx σ H) ∨ (J.go i H ∧ ∃ N : St → Hp → Prop, (∀ σ' H', N σ' H' → ∃ m', m' < m ∧ W (i + 1) m' σ' H') ∧ ∀ x H', J.yld i H x H' → g x σ H' fun σ2 H2 => tb { D with nx := N, ct := N, bk := D.nx } σ2 H2)
/-- the records at fp as they stand -/
noncomputable def pinsAt (fp : List Addr) (h : Heap) : List (Addr × Obj) := fp.filterMap fun b => (h.get? b).map fun o => (b, o)
theorem mem_pinsAt {fp : List Addr} {h : Heap} {b : Addr} {o : Obj} (hb : b ∈ fp) (e : h.get? b = some o) : (b, o) ∈ pinsAt fp h := List.mem_filterMap.mpr ⟨b, hb, by rw [e]; rfl⟩
theorem of_pinsAt {fp : List Addr} {h : Heap} {p : Addr × Obj} (hp : p ∈ pinsAt fp h) : p.1 ∈ fp ∧ h.get? p.1 = some p.2 := by
  obtain ⟨b, hb, e⟩ := List.mem_filterMap.mp hp
  cases q : h.get? b with
  | none => rw [q] at e; cases e
  | some o =>
    rw [q] at e
    have e' : (b, o) = p := Option.some.inj e
    subst e'
    exact ⟨hb, q⟩
theorem Inv.pinned {pins : List (Addr × Obj)} {σ : St} {H : Hp} {s : Shared} {fp : List Addr} (I : Inv X pins σ H s) (hf : ∀ b ∈ fp, FpOk X pins H b) (ho : ∀ b ∈ fp, ∃ o, s.heap.get? b = some o ∧ ∀ v, o.data ≠ .cell v) : Inv X (pins ++ pinsAt fp s.heap) σ H s :=
  I.pins_of fun p hp => (List.mem_append.mp hp).elim (fun z => I.pin p (List.mem_append_right _ z)) fun z => by
    obtain ⟨hb, e⟩ := of_pinsAt z
    obtain ⟨f0, f1, f2, _⟩ := hf p.1 hb
    obtain ⟨o, e', d⟩ := ho p.1 hb
    rw [e] at e'; cases e'
    exact ⟨e, f0, f1, f2, d⟩
theorem Inv.unpinned {pins pl : List (Addr × Obj)} {σ : St} {H : Hp} {s : Shared} (I : Inv X (pins ++ pl) σ H s) : Inv X pins σ H s := I.pins_of fun p hp => I.pin p (List.mem_append_right _ (List.mem_append_left _ hp))
theorem ps_for {iter : Expr} {body : List Stmt} {wi : TI} {g : TG} {tb : TS} {pos : Pos} (hp : PassesOwn (model X.prog X.w) X.A X.env X.xe) (hc : X.calm = true) (hi : PI X tg iter wi) (hg : PG X tg g) (hb : PSs X body tb)
    (hs : ∀ x, foldedSetIterable iter X.env x = pure x := by intro _; rfl) : PS X (.For tg iter body [] pos) (tFor wi g tb) := by
  intro pins s σ H D I h
  refine wpAny_For (thn (hi pins s σ H _ I h) fun v s1 h1 => thn h1 fun itv s2 h2 => ?_) hs
  obtain ⟨it, fp, tn, J, H2, e, I2, T, st2, f2, W, ⟨m0, w0⟩, turn⟩ := h2
  subst e
  -- what stays true of the iterator's objects through the loop
  have stat : ∀ {H' : Hp}, (∀ b ∈ fp, H' b = none) → ∀ b ∈ fp, FpOk X pins H' b := fun hn b hb => ⟨hn b hb, (f2 b hb).2⟩
  refine codeAny_forLoop_any (fun n s' => ∃ i σ' H', Inv X pins σ' H' s' ∧ tn i s'.heap ∧ (∀ b ∈ fp, H' b = none) ∧ W i n σ' H') ?_ m0 ⟨0, σ, H2, I2, st2, fun b hb => (f2 b hb).1, w0⟩
  rintro n s3 ⟨i, σ3, H3, I3, st3, fr3, w3⟩
  rcases turn i n σ3 H3 w3 with ⟨stop, qn⟩ | ⟨go, N, hN, step⟩
  · refine wpAny_passesOwn hp (thn (T.done X rfl rfl rfl hc i pins s3 σ3 H3 X.xe I3 (stat fr3) st3 stop) fun r s4 ⟨hr, I4⟩ => ?_)
    subst hr
    exact wpAny_execs_nil ⟨σ3, H3, I4, qn⟩
  · refine wpAny_passesOwn hp (thn (T.item X rfl rfl rfl hc i pins s3 σ3 H3 X.xe I3 (stat fr3) st3 go) fun r s4 ⟨u, hr, h4⟩ => ?_)
    subst hr
    refine wpAny_passesOwn hp (thn h4 fun _ s5 ⟨x, H5, I5, r5, y5, st5, fr5⟩ => ?_)
    have I5' := I5.pinned (stat fr5) (T.obj _ _ st5)
    refine wpAny_passesOwn hp (thn (hg _ s5 σ3 H5 x u _ I5' r5 (step x H5 y5)) fun _ s6 ⟨σ6, H6, I6, q6⟩ => ?_)
    refine wpAny_passesOwn hp (thn (hb _ s6 σ6 H6 _ I6 q6) fun f s7 q7 => ?_)
    have again : ∀ {σ7 : St} {H7 : Hp}, Inv X (pins ++ pinsAt fp s5.heap) σ7 H7 s7 → N σ7 H7 → ∃ m, m < n ∧ ∃ i σ' H', Inv X pins σ' H' s7 ∧ tn i s7.heap ∧ (∀ b ∈ fp, H' b = none) ∧ W i m σ' H' := fun {σ7 H7} I7 n7 => by
      obtain ⟨m', hm, w7⟩ := hN σ7 H7 n7
      refine ⟨m', hm, i + 1, σ7, H7, I7.unpinned, T.keep _ _ _ st5 fun b hb o e => (I7.pin (b, o) (List.mem_append_right _ (List.mem_append_right _ (mem_pinsAt hb e)))).1, fun b hb => ?_, w7⟩
      obtain ⟨o, e, d⟩ := T.obj _ _ st5 b hb
      exact (I7.pin (b, o) (List.mem_append_right _ (List.mem_append_right _ (mem_pinsAt hb e)))).2.1
    cases f with
    | next => obtain ⟨σ7, H7, I7, n7⟩ := q7; exact again I7 n7
    | cont => obtain ⟨σ7, H7, I7, n7⟩ := q7; exact again I7 n7
    | brk => obtain ⟨σ7, H7, I7, q7⟩ := q7; exact ⟨σ7, H7, I7.unpinned, q7⟩
    | ret v => obtain ⟨x7, σ7, H7, I7, r7, q7⟩ := q7; exact ⟨x7, σ7, H7, I7.unpinned, r7, q7⟩
end

/-! ### the forms one uses -/
/-- over a list that the body leaves as it is -/
theorem for_list {K : PySem.W.Frag} {a : Addr} {xs : List V} {g : TG} {tb : TS} {D : Ends} {σ : St} {H : Hp} (Pv : Nat → St → Hp → Prop) (h0 : Pv 0 σ H) (hl : ∀ i σ H, i ≤ xs.length → Pv i σ H → SqL K H a xs)
    (hs : ∀ i x σ H, xs[i]? = some x → Pv i σ H → g x σ H fun σ2 H2 => tb { D with nx := Pv (i + 1), ct := Pv (i + 1), bk := D.nx } σ2 H2) (hd : ∀ σ H, Pv xs.length σ H → D.nx σ H) :
    ∃ W : Nat → Nat → St → Hp → Prop, (∃ m, W 0 m σ H) ∧ ∀ i m σ H, W i m σ H →
      ((Itl K a).stop i H ∧ D.nx σ H) ∨ ((Itl K a).go i H ∧ ∃ N : St → Hp → Prop, (∀ σ' H', N σ' H' → ∃ m', m' < m ∧ W (i + 1) m' σ' H') ∧ ∀ x H', (Itl K a).yld i H x H' → g x σ H' fun σ2 H2 => tb { D with nx := N, ct := N, bk := D.nx } σ2 H2) := by
  refine ⟨fun i m σ H => m = xs.length - i ∧ i ≤ xs.length ∧ Pv i σ H, ⟨xs.length, by simp, Nat.zero_le _, h0⟩, ?_⟩
  rintro i m σ H ⟨rfl, hi, p⟩
  have q := hl i σ H hi p
  by_cases hlt : i < xs.length
  · refine .inr ⟨⟨xs, xs[i], q, by simp [hlt]⟩, Pv (i + 1), fun σ' H' p' => ⟨xs.length - (i + 1), by omega, rfl, hlt, p'⟩, fun x H' y => ?_⟩
    obtain ⟨e, y⟩ := y
    subst e
    exact hs i x σ _ (y xs q) p
  · have e : i = xs.length := by omega
    subst e
    exact .inl ⟨⟨xs, q, Nat.le_refl _⟩, hd σ H p⟩
theorem for_range {lo : Int} {n : Nat} {g : TG} {tb : TS} {D : Ends} {σ : St} {H : Hp} (Pv : Nat → St → Hp → Prop) (h0 : Pv 0 σ H)
    (hs : ∀ i σ H, i < n → Pv i σ H → g (.int (lo + i)) σ H fun σ2 H2 => tb { D with nx := Pv (i + 1), ct := Pv (i + 1), bk := D.nx } σ2 H2) (hd : ∀ σ H, Pv n σ H → D.nx σ H) :
    ∃ W : Nat → Nat → St → Hp → Prop, (∃ m, W 0 m σ H) ∧ ∀ i m σ H, W i m σ H →
      ((Itr lo n).stop i H ∧ D.nx σ H) ∨ ((Itr lo n).go i H ∧ ∃ N : St → Hp → Prop, (∀ σ' H', N σ' H' → ∃ m', m' < m ∧ W (i + 1) m' σ' H') ∧ ∀ x H', (Itr lo n).yld i H x H' → g x σ H' fun σ2 H2 => tb { D with nx := N, ct := N, bk := D.nx } σ2 H2) := by
  refine ⟨fun i m σ H => m = n - i ∧ i ≤ n ∧ Pv i σ H, ⟨n, by simp, Nat.zero_le _, h0⟩, ?_⟩
  rintro i m σ H ⟨rfl, hi, p⟩
  by_cases hlt : i < n
  · refine .inr ⟨hlt, Pv (i + 1), fun σ' H' p' => ⟨n - (i + 1), by omega, rfl, hlt, p'⟩, fun x H' y => ?_⟩
    obtain ⟨e, y⟩ := y
    subst e y
    exact hs i σ _ hlt p
  · have e : i = n := by omega
    subst e
    exact .inl ⟨Nat.le_refl _, hd σ H p⟩
end L2

namespace L2
open PySem PySem.Spec PyProof.Rows

noncomputable abbrev R2 := V → V → Hp → VK → Prop
/-- a two-place operation on values: f is binaryOp op, inplaceOp op or compareOp op -/
noncomputable def OpR (X : Cx) (f : Value → Value → Sem Value) (r : R2) : Prop :=
  ∀ (pins : List (Addr × Obj)) (s : Shared) (σ : St) (H : Hp) (x y : V) (v u : Value) (Q : VK), Inv X pins σ H s → RelV x v → RelV y u → r x y H Q →
    wpAny (model X.prog X.w) X.A (f v u) (EP X pins σ Q) X.xe s
/-- a one-place operation -/
noncomputable def UnR (X : Cx) (f : Value → Sem Value) (r : V → Hp → VK → Prop) : Prop :=
  ∀ (pins : List (Addr × Obj)) (s : Shared) (σ : St) (H : Hp) (x : V) (v : Value) (Q : VK), Inv X pins σ H s → RelV x v → r x H Q →
    wpAny (model X.prog X.w) X.A (f v) (EP X pins σ Q) X.xe s
/-- a call of a value that is known (a builtin, a type) with values -/
noncomputable def CallR (X : Cx) (f : Value) (r : List V → Hp → VK → Prop) : Prop :=
  ∀ (pins : List (Addr × Obj)) (s : Shared) (σ : St) (H : Hp) (xs : List V) (us : List Value) (Q : VK), Inv X pins σ H s → Vals xs us → r xs H Q →
    wpAny (model X.prog X.w) X.A (call f us) (EP X pins σ Q) X.xe s
/-- a value's truth -/
noncomputable def TruR (X : Cx) (r : V → Hp → (Bool → Hp → Prop) → Prop) : Prop :=
  ∀ (pins : List (Addr × Obj)) (s : Shared) (σ : St) (H : Hp) (x : V) (v : Value) (Q : Bool → Hp → Prop), Inv X pins σ H s → RelV x v → r x H Q →
    wpAny (model X.prog X.w) X.A (truthy v) (TP X pins σ Q) X.xe s

noncomputable def tOp (r : R2) (ta tb : TE) : TE := fun σ H Q => ta σ H fun x H1 => tb σ H1 fun y H2 => r x y H2 Q
noncomputable def tUn (r : V → Hp → VK → Prop) (ta : TE) : TE := fun σ H Q => ta σ H fun x H1 => r x H1 Q
/-- ints in, under C, and a value out -/
noncomputable def rI (C : Int → Int → Prop) (g : Int → Int → V) : R2 := fun x y H Q => ∃ i j, x = .int i ∧ y = .int j ∧ C i j ∧ Q (g i j) H
noncomputable def rI0 (g : Int → Int → V) : R2 := fun x y H Q => ∃ i j, x = .int i ∧ y = .int j ∧ Q (g i j) H
noncomputable def rU (g : Int → V) : V → Hp → VK → Prop := fun x H Q => ∃ i, x = .int i ∧ Q (g i) H

section
variable {X : Cx} {a b c : Expr} {ta tb tc : TE} {pos : Pos}

theorem binT (ha : PE X a ta) (hb : PE X b tb) {pins : List (Addr × Obj)} {s : Shared} {σ : St} {H : Hp} {R : V → V → Hp → Prop} (I : Inv X pins σ H s)
    (h : ta σ H fun x H1 => tb σ H1 fun y H2 => R x y H2) {Q : Value → Shared → Prop} {f : Value → Value → Sem Value}
    (hf : ∀ v u s2 x y H2, Inv X pins σ H2 s2 → RelV x v → RelV y u → R x y H2 → wpAny (model X.prog X.w) X.A (f v u) Q X.xe s2) :
    wpAny (model X.prog X.w) X.A (eval a X.env) (fun v s₁ => wpAny (model X.prog X.w) X.A (eval b X.env) (fun u s₂ => wpAny (model X.prog X.w) X.A (f v u) Q X.xe s₂) X.xe s₁) X.xe s := by
  refine thn (ha pins s σ H _ I h) fun v s1 ⟨x, H1, I1, r1, q1⟩ => ?_
  refine thn (hb pins s1 σ H1 _ I1 q1) fun u s2 ⟨y, H2, I2, r2, q2⟩ => ?_
  exact hf v u s2 x y H2 I2 r1 r2 q2

theorem pe_op {op : Operator} {r : R2} (ho : OpR X (binaryOp op) r) (ha : PE X a ta) (hb : PE X b tb) : PE X (.BinOp a op b pos) (tOp r ta tb) := by
  intro pins s σ H Q I h
  exact wpAny_BinOp (binT ha hb I h fun v u s2 x y H2 I2 rx ry q => ho pins s2 σ H2 x y v u Q I2 rx ry q)
theorem pe_un {op : UnaryOp} {r : V → Hp → VK → Prop} (ho : UnR X (unaryOp op) r) (ha : PE X a ta) : PE X (.UnaryOp op a pos) (tUn r ta) := by
  intro pins s σ H Q I h
  exact UnaryOp_ (thn (ha pins s σ H _ I h) fun v s1 ⟨x, H1, I1, r1, q1⟩ => ho pins s1 σ H1 x v Q I1 r1 q1)
/-! ### ints -/
theorem opI {f : Value → Value → Sem Value} {C : Int → Int → Prop} {g : Int → Int → Int}
    (rule : ∀ (i j : Int) (t u : Tok) (s : Shared) (Q : Value → Shared → Prop) (E : Value → Shared → Prop), C i j → Q (.int (g i j) s.toks) { s with toks := s.toks + 1 } → wpAny (model X.prog X.w) X.A (f (.int i t) (.int j u)) Q E s) :
    OpR X f (rI C fun i j => .int (g i j)) := by
  intro pins s σ H x y v u Q I rx ry h
  obtain ⟨i, j, rfl, rfl, hc, q⟩ := h
  obtain ⟨t, rfl⟩ := rx
  obtain ⟨t', rfl⟩ := ry
  exact rule i j t t' s _ _ hc ⟨.int (g i j), H, I.tok _, ⟨_, rfl⟩, q⟩
theorem opI0 {f : Value → Value → Sem Value} {g : Int → Int → Int}
    (rule : ∀ (i j : Int) (t u : Tok) (s : Shared) (Q : Value → Shared → Prop) (E : Value → Shared → Prop), Q (.int (g i j) s.toks) { s with toks := s.toks + 1 } → wpAny (model X.prog X.w) X.A (f (.int i t) (.int j u)) Q E s) :
    OpR X f (rI0 fun i j => .int (g i j)) := by
  intro pins s σ H x y v u Q I rx ry h
  obtain ⟨i, j, rfl, rfl, q⟩ := h
  obtain ⟨t, rfl⟩ := rx
  obtain ⟨t', rfl⟩ := ry
  exact rule i j t t' s _ _ ⟨.int (g i j), H, I.tok _, ⟨_, rfl⟩, q⟩
theorem opB0 {f : Value → Value → Sem Value} {g : Int → Int → Bool}
    (rule : ∀ (i j : Int) (t u : Tok) (s : Shared) (Q : Value → Shared → Prop) (E : Value → Shared → Prop), Q (.bool (g i j)) s → wpAny (model X.prog X.w) X.A (f (.int i t) (.int j u)) Q E s) :
    OpR X f (rI0 fun i j => .bl (g i j)) := by
  intro pins s σ H x y v u Q I rx ry h
  obtain ⟨i, j, rfl, rfl, q⟩ := h
  obtain ⟨t, rfl⟩ := rx
  obtain ⟨t', rfl⟩ := ry
  exact rule i j t t' s _ _ ⟨.bl (g i j), H, I, rfl, q⟩

noncomputable def CDiv (i j : Int) : Prop := 0 < j ∧ j < 1073741824
noncomputable def CMul (i j : Int) : Prop := (-(2 ^ 64) < i ∧ i < 2 ^ 64) ∨ (-(2 ^ 64) < j ∧ j < 2 ^ 64)
theorem CMul.ok {i j : Int} (h : CMul i j) : IntMulOk i j := by
  rcases h with ⟨h1, h2⟩ | ⟨h1, h2⟩
  · exact .of_left (intBits_le_64 h1 h2)
  · exact .of_right (intBits_le_64 h1 h2)
theorem op_add : OpR X (binaryOp .Add) (rI0 fun i j => .int (i + j)) := opI0 fun _ _ _ _ _ _ _ q => add_int q
theorem op_sub : OpR X (binaryOp .Sub) (rI0 fun i j => .int (i - j)) := opI0 fun _ _ _ _ _ _ _ q => sub_int q
/-- % by a positive divisor of any size -/
theorem op_mod : OpR X (binaryOp .Mod) (rI (fun _ j => 0 < j) fun i j => .int (i % j)) := opI fun i j _ _ _ _ _ hc q => by
  have h1 : (0 : Int) < j := hc
  exact mod_int' (by omega) (by rw [Int.fmod_eq_emod_of_nonneg i (by omega)]; exact q)
theorem unI {f : Value → Sem Value} {g : Int → Int}
    (rule : ∀ (i : Int) (t : Tok) (s : Shared) (Q : Value → Shared → Prop) (E : Value → Shared → Prop), Q (.int (g i) s.toks) { s with toks := s.toks + 1 } → wpAny (model X.prog X.w) X.A (f (.int i t)) Q E s) :
    UnR X f (rU fun i => .int (g i)) := by
  intro pins s σ H x v Q I rx h
  obtain ⟨i, rfl, q⟩ := h
  obtain ⟨t, rfl⟩ := rx
  exact rule i t s _ _ ⟨.int (g i), H, I.tok _, ⟨_, rfl⟩, q⟩
theorem un_neg : UnR X (unaryOp .USub) (rU fun i => .int (-i)) := unI fun _ _ _ _ _ q => neg_int q
/-! ### bools among ints: n += (a < b) -/
end

/-! ### comparisons -/
/-- the scalars that == tells apart as data does -/
noncomputable def scal : V → V → Bool
  | .non, .non => true | .non, .int _ => true | .int _, .non => true | .non, .bl _ => true | .bl _, .non => true | .non, .str _ => true | .str _, .non => true
  | .int _, .int _ => true | .bl _, .bl _ => true | .str _, .str _ => true | .byt _, .byt _ => true
  | .int _, .str _ => true | .str _, .int _ => true | .bl _, .str _ => true | .str _, .bl _ => true
  | _, _ => false
noncomputable def rEq : R2 := fun x y H Q => scal x y = true ∧ Q (.bl (decide (x = y))) H
noncomputable def rNe : R2 := fun x y H Q => scal x y = true ∧ Q (.bl (!decide (x = y))) H

theorem dec_int {i j : Int} : decide (V.int i = V.int j) = (i == j) := by
  rw [Bool.eq_iff_iff]
  simp
theorem dec_bl {i j : Bool} : decide (V.bl i = V.bl j) = (i == j) := by
  rw [Bool.eq_iff_iff]
  simp
theorem dec_str {i j : Str} : decide (V.str i = V.str j) = (i == j) := by
  rw [Bool.eq_iff_iff]
  simp
theorem dec_byt {i j : Array UInt8} : decide (V.byt i = V.byt j) = (i.toList == j.toList) := by
  rw [Bool.eq_iff_iff]
  cases i
  cases j
  simp

section
variable {X : Cx} {a b c : Expr} {ta tb tc : TE} {pos : Pos}
theorem fin_bl {pins : List (Addr × Obj)} {σ : St} {H : Hp} {s : Shared} {Q : VK} {k k' : Bool} (I : Inv X pins σ H s) (q : Q (.bl k) H) (e : k = k') : EP X pins σ Q (.bool k') s := by
  subst e
  exact ⟨.bl k, H, I, rfl, q⟩
theorem op_eq : OpR X (compareOp .Eq) rEq := by
  intro pins s σ H x y v u Q I rx ry h
  obtain ⟨hs, q⟩ := h
  cases x with
  | non =>
    cases rx
    cases y with
    | non => cases ry; exact PySem.EqNone.eq_none_none (fin_bl I q (by simp))
    | bl j => cases ry; exact PySem.EqNone.eq_none_bool (fin_bl I q (by simp))
    | int j => obtain ⟨t', rfl⟩ := ry; exact PySem.EqNone.eq_none_int (fin_bl I q (by simp))
    | str j => obtain ⟨t', rfl⟩ := ry; exact PySem.EqNone.eq_none_str (fin_bl I q (by simp))
    | _ => exact absurd (show false = true from hs) Bool.false_ne_true
  | bl i =>
    cases rx
    cases y with
    | non => cases ry; exact PySem.EqNone.eq_bool_none (fin_bl I q (by simp))
    | bl j => cases ry; exact eq_bool (fin_bl I q dec_bl)
    | str j => obtain ⟨t', rfl⟩ := ry; exact PySem.EqMixed.eq_bool_str (fin_bl I q (by simp))
    | _ => exact absurd (show false = true from hs) Bool.false_ne_true
  | int i =>
    obtain ⟨t, rfl⟩ := rx
    cases y with
    | non => cases ry; exact PySem.EqNone.eq_int_none (fin_bl I q (by simp))
    | int j => obtain ⟨t', rfl⟩ := ry; exact eq_int (fin_bl I q dec_int)
    | str j => obtain ⟨t', rfl⟩ := ry; exact PySem.EqMixed.eq_int_str (fin_bl I q (by simp))
    | _ => exact absurd (show false = true from hs) Bool.false_ne_true
  | str i =>
    obtain ⟨t, rfl⟩ := rx
    cases y with
    | non => cases ry; exact PySem.EqNone.eq_str_none (fin_bl I q (by simp))
    | bl j => cases ry; exact PySem.EqMixed.eq_str_bool (fin_bl I q (by simp))
    | int j => obtain ⟨t', rfl⟩ := ry; exact PySem.EqMixed.eq_str_int (fin_bl I q (by simp))
    | str j => obtain ⟨t', rfl⟩ := ry; exact eq_str (fin_bl I q dec_str)
    | _ => exact absurd (show false = true from hs) Bool.false_ne_true
  | byt i =>
    obtain ⟨t, rfl⟩ := rx
    cases y with
    | byt j => obtain ⟨t', rfl⟩ := ry; exact PySem.W.eq_bytes (fin_bl I q dec_byt)
    | _ => exact absurd (show false = true from hs) Bool.false_ne_true
  | _ => cases y <;> exact absurd (show false = true from hs) Bool.false_ne_true
theorem op_ne : OpR X (compareOp .NotEq) rNe := by
  intro pins s σ H x y v u Q I rx ry h
  obtain ⟨hs, q⟩ := h
  cases x with
  | non =>
    cases rx
    cases y with
    | non => cases ry; exact PySem.EqNone.ne_none_none (fin_bl I q (by simp))
    | bl j => cases ry; exact PySem.EqNone.ne_none_bool (fin_bl I q (by simp))
    | int j => obtain ⟨t', rfl⟩ := ry; exact PySem.EqNone.ne_none_int (fin_bl I q (by simp))
    | str j => obtain ⟨t', rfl⟩ := ry; exact PySem.EqNone.ne_none_str (fin_bl I q (by simp))
    | _ => exact absurd (show false = true from hs) Bool.false_ne_true
  | bl i =>
    cases rx
    cases y with
    | non => cases ry; exact PySem.EqNone.ne_bool_none (fin_bl I q (by simp))
    | bl j => cases ry; exact ne_bool (fin_bl I q (congrArg not dec_bl))
    | str j => obtain ⟨t', rfl⟩ := ry; exact PySem.EqMixed.ne_bool_str (fin_bl I q (by simp))
    | _ => exact absurd (show false = true from hs) Bool.false_ne_true
  | int i =>
    obtain ⟨t, rfl⟩ := rx
    cases y with
    | non => cases ry; exact PySem.EqNone.ne_int_none (fin_bl I q (by simp))
    | int j => obtain ⟨t', rfl⟩ := ry; exact ne_int (fin_bl I q (congrArg not dec_int))
    | str j => obtain ⟨t', rfl⟩ := ry; exact PySem.EqMixed.ne_int_str (fin_bl I q (by simp))
    | _ => exact absurd (show false = true from hs) Bool.false_ne_true
  | str i =>
    obtain ⟨t, rfl⟩ := rx
    cases y with
    | non => cases ry; exact PySem.EqNone.ne_str_none (fin_bl I q (by simp))
    | bl j => cases ry; exact PySem.EqMixed.ne_str_bool (fin_bl I q (by simp))
    | int j => obtain ⟨t', rfl⟩ := ry; exact PySem.EqMixed.ne_str_int (fin_bl I q (by simp))
    | str j => obtain ⟨t', rfl⟩ := ry; exact ne_str (fin_bl I q (congrArg not dec_str))
    | _ => exact absurd (show false = true from hs) Bool.false_ne_true
  | byt i =>
    obtain ⟨t, rfl⟩ := rx
    cases y with
    | byt j => obtain ⟨t', rfl⟩ := ry; exact PySem.W.ne_bytes (fin_bl I q (congrArg not dec_byt))
    | _ => exact absurd (show false = true from hs) Bool.false_ne_true
  | _ => cases y <;> exact absurd (show false = true from hs) Bool.false_ne_true

theorem op_lt : OpR X (compareOp .Lt) (rI0 fun i j => .bl (decide (i < j))) := opB0 fun _ _ _ _ _ _ _ q => lt_int q
theorem op_le : OpR X (compareOp .LtE) (rI0 fun i j => .bl (decide (i ≤ j))) := opB0 fun _ _ _ _ _ _ _ q => le_int q
theorem op_gt : OpR X (compareOp .Gt) (rI0 fun i j => .bl (decide (j < i))) := opB0 fun _ _ _ _ _ _ _ q => gt_int q
theorem op_ge : OpR X (compareOp .GtE) (rI0 fun i j => .bl (decide (j ≤ i))) := opB0 fun _ _ _ _ _ _ _ q => ge_int q
theorem op_lt_str : OpR X (compareOp .Lt) (fun x y H Q => ∃ i j, x = .str i ∧ y = .str j ∧ Q (.bl (decide (i.cps.toList < j.cps.toList))) H) := by
  intro pins s σ H x y v u Q I rx ry h
  obtain ⟨i, j, rfl, rfl, q⟩ := h
  obtain ⟨t, rfl⟩ := rx
  obtain ⟨t', rfl⟩ := ry
  exact lt_str (fin_bl I q rfl)
theorem op_notN : OpR X (compareOp .IsNot) (fun x y H Q => y = .non ∧ Q (.bl (!decide (x = .non))) H) := by
  intro pins s σ H x y v u Q I rx ry h
  obtain ⟨rfl, q⟩ := h
  cases ry
  refine isnot_none_gen (fin_bl I q ?_)
  cases x <;> first
    | (cases rx; rfl)
    | (obtain ⟨t, rfl⟩ := rx; rfl)

/-- is, is not of two objects that are tracked lists or instances -/
noncomputable def isObj : HO → Bool
  | .lst _ => true
  | .ins _ _ _ => true
  | _ => false
/-- two rules for one operation: by cases -/
theorem OpR.or {f : Value → Value → Sem Value} {r r' : R2} (h : OpR X f r) (h' : OpR X f r') : OpR X f (fun x y H Q => r x y H Q ∨ r' x y H Q) := by
  intro pins s σ H x y v u Q I rx ry q
  rcases q with q | q
  · exact h pins s σ H x y v u Q I rx ry q
  · exact h' pins s σ H x y v u Q I rx ry q

theorem nomark (b : Expr) {op : CmpOp} (h : op ≠ .In := by decide) (h2 : op ≠ .NotIn := by decide) : behindInMarks op b = false := by
  have e1 : (op == CmpOp.In) = false := by cases op <;> first | rfl | exact absurd rfl h
  have e2 : (op == CmpOp.NotIn) = false := by cases op <;> first | rfl | exact absurd rfl h2
  cases b <;> simp [behindInMarks, e1, e2]
/-- a comparison as a value; hm: nomark b, or (for in, not in) by with_unfolding_all rfl -/
theorem pe_cmpR {op : CmpOp} {r : R2} (ho : OpR X (compareOp op) r) (ha : PE X a ta) (hb : PE X b tb) (hm : behindInMarks op b = false) : PE X (.Compare a [op] [b] pos) (tOp r ta tb) := by
  intro pins s σ H Q I h
  exact wpAny_Compare1 (binT ha hb I h fun v u s2 x y H2 I2 rx ry q => ho pins s2 σ H2 x y v u Q I2 rx ry q) hm
/-! ### truth -/
/-- a value's truth by the abstract heap -/
noncomputable def TruV (K : PySem.W.Frag) (x : V) (H : Hp) (k : Bool) : Prop :=
  match x with
  | .non => k = false
  | .bl b => k = b
  | .int i => k = (i != 0)
  | .str y => y.length ≤ sizeLine ∧ k = ((y.length : Int) != 0)
  | .byt y => y.size ≤ sizeLine ∧ k = ((y.size : Int) != 0)
  | .ref p => (∃ xs, SqL K H p xs ∧ k = !xs.isEmpty) ∨ (∃ xs, SqT K H p xs ∧ k = !xs.isEmpty) ∨ ∃ kvs, H p = some (.dK kvs) ∧ k = !kvs.isEmpty
  | _ => False
theorem isEmpty_kv {κ : Type} {kvs : List (κ × V)} {vs : List (κ × Value)} (r : KV kvs vs) : (!vs.isEmpty) = !kvs.isEmpty := by
  cases r <;> rfl
theorem isEmpty_of {xs : List V} {its : List Value} (r : Vals xs its) : (!its.toArray.isEmpty) = !xs.isEmpty := by
  cases r <;> simp
theorem line63 : (sizeLine : Nat) < 2 ^ 63 := by rw [sizeLine_eq]; decide
theorem tru_ok : TruR X (fun x H Q => ∃ k, TruV X.K x H k ∧ Q k H) := by
  intro pins s σ H x v Q I rx h
  obtain ⟨k, e, q⟩ := h
  have hl := line63
  have hs : sizeLine = 16777216 := sizeLine_eq
  cases x with
  | non =>
    cases rx
    have e' : k = false := e
    subst e'
    exact truthy_none ⟨H, I, q⟩
  | bl b =>
    cases rx
    have e' : k = b := e
    subst e'
    exact wpAny_truthy_bool ⟨H, I, q⟩
  | int i =>
    obtain ⟨t, rfl⟩ := rx
    have e' : k = (i != 0) := e
    subst e'
    exact PySem.P.truthy_int ⟨H, I, q⟩
  | str y =>
    obtain ⟨t, rfl⟩ := rx
    obtain ⟨hy, e'⟩ : y.length ≤ sizeLine ∧ k = ((y.length : Int) != 0) := e
    subst e'
    exact PySem.P.truthy_str (by omega) ⟨H, I.tok _, q⟩
  | byt y =>
    obtain ⟨t, rfl⟩ := rx
    obtain ⟨hy, e'⟩ : y.size ≤ sizeLine ∧ k = ((y.size : Int) != 0) := e
    subst e'
    exact PySem.W.truthy_bytes (by omega) ⟨H, I.tok _, q⟩
  | ref p =>
    cases rx
    have e' : (∃ xs, SqL X.K H p xs ∧ k = !xs.isEmpty) ∨ (∃ xs, SqT X.K H p xs ∧ k = !xs.isEmpty) ∨ ∃ kvs, H p = some (.dK kvs) ∧ k = !kvs.isEmpty := e
    rcases e' with ⟨xs, hx, e'⟩ | ⟨xs, hx, e'⟩ | ⟨kvs, hx, e'⟩
    · subst e'
      obtain ⟨its, r, pl, hz⟩ := I.list hx
      have hlen := r.length
      exact wpAny_truthy_list pl.isList (by simp only [List.size_toArray]; omega) ⟨H, I.tok _, by rw [isEmpty_of r]; exact q⟩
    · subst e'
      obtain ⟨its, r, pl, hz⟩ := I.tuple hx
      have hlen := r.length
      exact truthy_tuple pl (by simp only [List.size_toArray]; omega) ⟨H, I.tok _, by rw [isEmpty_of r]; exact q⟩
    · subst e'
      obtain ⟨hz, hS, vs, r, m⟩ : kvs.length ≤ sizeLine ∧ (p == sysModules) = false ∧ ∃ vs, KV kvs vs ∧ s.heap.DictOf (mixKind X.prog X.w) p vs := I.hok p _ hx
      have hlen : kvs.length = vs.length := Paired.length r
      exact wpAny_truthy_dict hS m (by omega) ⟨H, I.tok _, by rw [isEmpty_kv r]; exact q⟩
  | _ => exact (show False from e).elim
/-- any expression whose test is its value's truth (a name, a call, a subscript, a field ..: he by fun _ => rfl) -/
theorem pt_truth (ha : PE X a ta) (he : ∀ whole, isTrue a X.env whole = (do let v ← whole; standAt a.pos; holding [v] (truthy v))) :
    PT X a (fun σ H Q => ta σ H fun x H' => ∃ k, TruV X.K x H' k ∧ Q k H') := by
  intro pins s σ H Q I h
  exact isTrue_plain (thn (ha pins s σ H _ I h) fun v s1 ⟨x, H1, I1, r1, q1⟩ => tru_ok pins s1 σ H1 x v Q I1 r1 q1) (he _)

/-! ### strs and bytes -/
theorem op_add_str : OpR X (binaryOp .Add) (fun x y H Q => ∃ i j, x = .str i ∧ y = .str j ∧ i.length + j.length ≤ sizeLine ∧ Q (.str (i ++ j)) H) := by
  intro pins s σ H x y v u Q I rx ry h
  obtain ⟨i, j, rfl, rfl, hz, q⟩ := h
  obtain ⟨t, rfl⟩ := rx
  obtain ⟨t', rfl⟩ := ry
  exact add_str (fun t' tk => ⟨.str (i ++ j), H, I.tok _, ⟨_, rfl⟩, q⟩) hz
/-! ### scalar builtins, by CallR -/
theorem vals1 {x : V} {us : List Value} (r : Vals [x] us) : ∃ u, us = [u] ∧ RelV x u := by
  cases r with
  | cons r1 r2 => cases r2; exact ⟨_, rfl, r1⟩
theorem vals2 {x y : V} {us : List Value} (r : Vals [x, y] us) : ∃ u w', us = [u, w'] ∧ RelV x u ∧ RelV y w' := by
  cases r with
  | cons r1 r2 =>
    cases r2 with
    | cons r3 r4 => cases r4; exact ⟨_, _, rfl, r1, r3⟩
theorem call_abs : CallR X (.builtin "abs") (fun xs H Q => ∃ i, xs = [.int i] ∧ Q (.int (if i < 0 then -i else i)) H) := by
  intro pins s σ H xs us Q I r h
  obtain ⟨i, rfl, q⟩ := h
  obtain ⟨u, rfl, t, rfl⟩ := vals1 r
  exact call_abs_int fun u tk => ⟨.int (if i < 0 then -i else i), H, I.tok _, ⟨_, rfl⟩, q⟩
inductive rTwo (f : Int → Int → Int) (xs : List V) (H : Hp) (Q : VK) : Prop
  | mk (i j : Int) (h0 : xs = [.int i, .int j]) (h1 : Q (.int (f i j)) H) : rTwo f xs H Q
theorem call_max2 (hc : X.calm = true) : CallR X (.builtin "max") (rTwo fun i j => if j > i then j else i) := by
  intro pins s σ H xs us Q I r h
  obtain ⟨i, j, rfl, q⟩ := h
  obtain ⟨u, w', rfl, ⟨t, rfl⟩, ⟨t', rfl⟩⟩ := vals2 r
  refine max_two_ints (I.ok.hd hc) fun h' tk k => ⟨_, H, I.kept k, ?_, q⟩
  by_cases hj : j > i
  · rw [if_pos hj, if_pos hj]; exact ⟨_, rfl⟩
  · rw [if_neg hj, if_neg hj]; exact ⟨_, rfl⟩
theorem call_min2 (hc : X.calm = true) : CallR X (.builtin "min") (rTwo fun i j => if j < i then j else i) := by
  intro pins s σ H xs us Q I r h
  obtain ⟨i, j, rfl, q⟩ := h
  obtain ⟨u, w', rfl, ⟨t, rfl⟩, ⟨t', rfl⟩⟩ := vals2 r
  refine min_two_ints (I.ok.hd hc) fun h' tk k => ⟨_, H, I.kept k, ?_, q⟩
  by_cases hj : j < i
  · rw [if_pos hj, if_pos hj]; exact ⟨_, rfl⟩
  · rw [if_neg hj, if_neg hj]; exact ⟨_, rfl⟩
theorem call_str_int : CallR X (.type "str") (fun xs H Q => ∃ i, xs = [.int i] ∧ i.natAbs.log2 < 1920 ∧ Q (.str (toString i)) H) := by
  intro pins s σ H xs us Q I r h
  obtain ⟨i, rfl, hz, q⟩ := h
  obtain ⟨u, rfl, t, rfl⟩ := vals1 r
  exact PySem.P.str_of_int hz ⟨.str _, H, I.tok _, ⟨_, rfl⟩, q⟩
end
end L2

namespace L2
open PySem PySem.Spec PyProof.Rows

/-! ### an instance, its attributes a map -/
structure ObjM (h : Heap) (x dx C : Addr) (mA : Str → Option Value) : Prop where
  obj : h.get? x = some (PySem.W.instObj C dx)
  ns : h.Ns1 dx mA
  ne : dx ≠ x

theorem lookIn_ns {h : Heap} {dx : Addr} {mA : Str → Option Value} (n : h.Ns1 dx mA) : ∃ od, h.get? dx = some od ∧ ∀ name, PySem.W.lookIn name od = some (mA name) := by
  obtain ⟨o, es, ep, ho, hd, hk, _, hm⟩ := n
  refine ⟨o, ho, fun name => ?_⟩
  have e := hm name
  unfold nsFind findBy at e
  rw [← Array.find?_toList] at e
  unfold PySem.W.lookIn
  rw [hd]
  dsimp only
  split
  · rename_i y q
    rw [q] at e
    exact congrArg some e
  · rename_i q
    rw [q] at e
    have a : es.toList.any (·.refKey) = false := by
      rw [List.any_eq_false]
      intro y hy
      obtain ⟨z, t, hkey⟩ := hk y (Array.mem_toList_iff.mp hy)
      simp [DictEntry.refKey, hkey]
    have a' : ¬ es.toList.any (·.refKey) = true := by rw [a]; exact Bool.false_ne_true
    rw [if_neg a']
    exact congrArg some e

theorem ObjM.look {h : Heap} {x dx C : Addr} {mA : Str → Option Value} (I : ObjM h x dx C mA) : ∃ od, PySem.W.InstAt h x (PySem.W.instObj C dx) C (some od) ∧ ∀ name, PySem.W.lookIn name od = some (mA name) :=
  let ⟨od, ho, hl⟩ := lookIn_ns I.ns
  ⟨od, ⟨I.obj, rfl, rfl, ho⟩, hl⟩

section
variable {prog : Program} {w : World} {A : Around} {E : Value → Shared → Prop} {s : Shared} {K : PySem.W.Frag} {x dx C f : Addr} {mA : Str → Option Value} {name : Str} {v : Value}

theorem get_map {expr : Bool} {Q : Value → Shared → Prop} (X : K.In s.heap) (I : ObjM s.heap x dx C mA) (hg : PySem.W.plainGet K C name = true) (hh : PySem.W.hasDictIn K C = true)
    (ha : PySem.W.findIn K (.ref C) name = some none) (hv : mA name = some v) (hv' : PySem.W.handedIn v = true) (h : Q v { s with toks := s.toks + 1 }) :
    wpAny (model prog w) A (getAttr (.ref x) name expr) Q E s := by
  obtain ⟨od, J, hl⟩ := I.look
  exact PySem.W.get_value X J (PySem.W.plainGet_of hg).1 (PySem.W.findObj_own hh ha rfl (by rw [hl, hv])) hv' h

theorem get_meth {pl : Sem Bool} {Q : Value × List Value → Shared → Prop} (X : K.In s.heap) (I : ObjM s.heap x dx C mA) (hg : PySem.W.plainGet K C name = true)
    (hf : PySem.W.findIn K (.ref C) name = some (some (.ref f))) (ht : PySem.W.isFn K (.ref f) = true) (hv : mA name = none) (h : Q (.ref f, [.ref x]) s) :
    wpAny (model prog w) A (getMethod (.ref x) name pl) Q E s := by
  obtain ⟨od, J, hl⟩ := I.look
  exact PySem.W.method_fn X J (PySem.W.plainGet_of hg).1 (PySem.W.plainGet_of hg).2 hf (beq_iff_eq.mp ht) (by show (PySem.W.lookIn name od).map (·.isSome) = some false; rw [hl, hv]; rfl) h

theorem set_map {ns : List Str} {Q : Unit → Shared → Prop} (X : K.In s.heap) (I : ObjM s.heap x dx C mA)
    (hs : PySem.W.findIn K (.ref C) "__setattr__" = some (some (.builtin "object.__setattr__"))) (hp : PySem.W.plainOver K C = true) (ht : PySem.W.takerIn K C name = some none) (hh : PySem.W.hasDictIn K C = true)
    (hw : PySem.Within mA ns) (hsz : ns.length ≤ sizeLine)
    (h : ∀ h', ObjM h' x dx C (fun y => if y = name then some v else mA y) → Heap.SameBut dx s.heap h' → Q () { s with heap := h', toks := s.toks + 2 }) :
    wpAny (model prog w) A (setAttr (.ref x) name v) Q E s := by
  obtain ⟨od, J, hl⟩ := I.look
  refine PySem.W.set_plain X J hs (PySem.W.osa_open (s := { s with toks := s.toks + 1 }) (r := none) X J hp ht fun b => ?_)
  obtain ⟨cd, hc, hd'⟩ := PySem.W.any_some hh
  have hx : s.heap.get? x = some ⟨.ref C, some dx, .plain, #[]⟩ := I.obj
  refine wpAny_bind (wpAny_pure (wpAny_bind (wpAny_bind (wpAny_loadPart hx (wpAny_bind (PySem.W.Looks.here (s := { s with toks := s.toks + 1 }) (PySem.W.looks_clsIn X hc) ?_))))))
  rw [hd']
  refine wpAny_pure (a := some dx) (wpAny_bind (wpAny_pure (wpAny_bind ?_)))
  refine wpAny_nsSet1 (s := { s with toks := s.toks + 1 }) I.ns fun h' hn2 hs2 => ?_
  obtain ⟨oD, esD, epD, hoD, hdD, hcD⟩ := hn2.count (PySem.Within.cons name v hw)
  refine wpAny_bind (wpAny_lookBehind hoD (by rw [hdD]; exact pastItsLine_dict (Nat.le_trans hcD (by rw [List.length_cons]; omega))) ?_)
  exact wpAny_pure (h _ ⟨(hs2.2 _ (Ne.symm I.ne)).trans I.obj, hn2, I.ne⟩ hs2)

/-- C(..): the dict at the heap's end, the instance behind it; then its __init__ -/
theorem make_map {R : Result → Shared → Prop} {vs : List Value} {kw : List (Str × Value)} (X : K.In s.heap) (hm : PySem.W.makesIn K C = true)
    (hi : PySem.W.findIn K (.ref C) "__init__" = some (some (.ref f))) (hf : PySem.W.typeIn K (.ref f) = some (.type "function"))
    (h : codeAny (model prog w) (A.under (.builtin "type.__call__" ⟨.ref C :: vs, kw⟩)) (.call (.ref f) ⟨.ref (s.heap.objs.size + 1) :: vs, kw⟩) (PySem.W.InitBack (s.heap.objs.size + 1) R)
      { s with heap := (s.heap.push PySem.W.emptyDict).push (PySem.W.instObj C s.heap.objs.size) }) :
    codeAny (model prog w) A (.call (.ref C) ⟨vs, kw⟩) R s := by
  obtain ⟨hh, g, d, t, os⟩ := s
  exact PySem.W.make_core (PySem.W.makes_of X hm) (PySem.W.looks_findIn X hi) (fun self => PySem.W.bind_fn X self hf) (.inl rfl) h
end

/-! ### the attributes as a list of pairs -/
noncomputable def putF (f : Str) (v : V) : List (Str × V) → List (Str × V)
  | [] => [(f, v)]
  | (g, x) :: r => if g = f then (g, v) :: r else (g, x) :: putF f v r
theorem lookup_putF (f g : Str) (v : V) : ∀ fs : List (Str × V), (putF f v fs).lookup g = if g = f then some v else fs.lookup g
  | [] => by
    show List.lookup g [(f, v)] = _
    by_cases h : g = f
    · have hb : (g == f) = true := beq_iff_eq.mpr h
      simp only [List.lookup, hb, if_pos h]
    · have hb : (g == f) = false := beq_eq_false_iff_ne.mpr h
      simp only [List.lookup, hb, if_neg h]
  | (k, x) :: r => by
    have ih := lookup_putF f g v r
    rw [show putF f v ((k, x) :: r) = (if k = f then (k, v) :: r else (k, x) :: putF f v r) from rfl]
    by_cases hk : k = f
    · rw [if_pos hk]
      by_cases h : g = k
      · have hb : (g == k) = true := beq_iff_eq.mpr h
        simp only [List.lookup, hb, if_pos (h.trans hk)]
      · have hb : (g == k) = false := beq_eq_false_iff_ne.mpr h
        simp only [List.lookup, hb, if_neg (fun e : g = f => h (e.trans hk.symm))]
    · rw [if_neg hk]
      by_cases h : g = k
      · have hb : (g == k) = true := beq_iff_eq.mpr h
        simp only [List.lookup, hb, if_neg (fun e : g = f => hk (h.symm.trans e))]
      · have hb : (g == k) = false := beq_eq_false_iff_ne.mpr h
        simp only [List.lookup, hb]
        exact ih
theorem keys_putF (f : Str) (v : V) : ∀ fs : List (Str × V), f ∈ (putF f v fs).map (·.1) ∧ ∀ g, g ∈ fs.map (·.1) → g ∈ (putF f v fs).map (·.1)
  | [] => ⟨by simp [putF], fun g h => by simp at h⟩
  | (k, x) :: r => by
    obtain ⟨i1, i2⟩ := keys_putF f v r
    rw [show putF f v ((k, x) :: r) = (if k = f then (k, v) :: r else (k, x) :: putF f v r) from rfl]
    by_cases hk : k = f
    · rw [if_pos hk]
      subst hk
      exact ⟨by simp, fun g h => by simpa using h⟩
    · rw [if_neg hk]
      refine ⟨?_, fun g h => ?_⟩
      · rw [List.map_cons]
        exact List.mem_cons_of_mem _ i1
      · rw [List.map_cons] at h ⊢
        rcases List.mem_cons.mp h with e | e
        · exact List.mem_cons.mpr (.inl e)
        · exact List.mem_cons_of_mem _ (i2 g e)
theorem length_putF (f : Str) (v : V) : ∀ fs : List (Str × V), (putF f v fs).length ≤ fs.length + 1
  | [] => by simp [putF]
  | (k, x) :: r => by
    have ih := length_putF f v r
    rw [show putF f v ((k, x) :: r) = (if k = f then (k, v) :: r else (k, x) :: putF f v r) from rfl]
    by_cases hk : k = f
    · rw [if_pos hk, List.length_cons, List.length_cons]; omega
    · rw [if_neg hk, List.length_cons, List.length_cons]; omega

theorem RelO.some_of {v : V} {o : Option Value} (r : RelO (some v) o) : ∃ u, o = some u ∧ RelV v u := by
  cases o with
  | none => exact (show False from r).elim
  | some u => exact ⟨u, rfl, r⟩
theorem RelO.none_of {o : Option Value} (r : RelO none o) : o = none := by
  cases o with
  | none => rfl
  | some u => exact (show False from r).elim
theorem handed_of {v : V} {u : Value} (r : RelV v u) : PySem.W.handedIn u = true := by
  cases v with
  | non => cases (show u = Value.none from r); rfl
  | bl b => cases (show u = Value.bool b from r); rfl
  | int i => obtain ⟨t, e⟩ := (show ∃ t, u = Value.int i t from r); cases e; rfl
  | str x => obtain ⟨t, e⟩ := (show ∃ t, u = Value.str x t from r); cases e; rfl
  | byt b => obtain ⟨t, e⟩ := (show ∃ t, u = Value.bytes b t from r); cases e; rfl
  | flt b => obtain ⟨t, e⟩ := (show ∃ t, u = Value.float b t from r); cases e; rfl
  | ref a => cases (show u = Value.ref a from r); rfl
  | ty n => cases (show u = Value.type n from r); rfl

section
variable {P : Program} {w : World} {H H' : Hp} {h h' : Heap} {a C dx : Addr} {fs fs' : List (Str × V)}
theorem ins_get (hok : HOk P w H h) (e : H a = some (.ins C dx fs)) : ∃ mA, ObjM h a dx C mA ∧ (∀ f, RelO (fs.lookup f) (mA f)) ∧ PySem.Within mA (fs.map (·.1)) ∧ fs.length ≤ 1000 ∧ H dx = some (.own a) := by
  obtain ⟨d, z, ne, ob, mA, n, r, q⟩ := (show ObjOk P w H h a (.ins C dx fs) from hok a _ e)
  exact ⟨mA, ⟨ob, n, ne⟩, r, q, z, d⟩
end

/-! ### what of the text a class must have -/
structure Cls (K : PySem.W.Frag) (C : Addr) : Prop where
  pg : PySem.W.plainGet K C Str.empty = true
  hd : PySem.W.hasDictIn K C = true
  po : PySem.W.plainOver K C = true
  sa : PySem.W.findIn K (.ref C) "__setattr__" = some (some (.builtin "object.__setattr__"))
theorem Cls.get {K : PySem.W.Frag} {C : Addr} (c : Cls K C) (f : Str) : PySem.W.plainGet K C f = true := c.pg
/-- no class of it has the name -/
noncomputable def NoAttr (K : PySem.W.Frag) (C : Addr) (f : Str) : Prop := PySem.W.findIn K (.ref C) f = some none
theorem NoAttr.taker {K : PySem.W.Frag} {C : Addr} {f : Str} (n : NoAttr K C f) : PySem.W.takerIn K C f = some none := by
  unfold PySem.W.takerIn
  rw [show PySem.W.findIn K (.ref C) f = some none from n]
  rfl
/-- a constant of the class -/
structure Con (K : PySem.W.Frag) (C : Addr) (f : Str) (v : V) (u : Value) : Prop where
  at_ : PySem.W.findIn K (.ref C) f = some (some u)
  rel : RelV v u
  get : PySem.W.specialIn K u "__get__" = some none
  cp : PySem.W.copiedNames.contains f = false
/-- a method: a plain def of the class or of one above it -/
structure Meth (K : PySem.W.Frag) (C : Addr) (m : Str) (f : Addr) : Prop where
  at_ : PySem.W.findIn K (.ref C) m = some (some (.ref f))
  fn : PySem.W.isFn K (.ref f) = true
  kp : PySem.W.keepIn K (.ref f) = true

section
variable {X : Cx} {pins : List (Addr × Obj)} {σ : St} {H : Hp} {s : Shared} {a C dx : Addr} {fs : List (Str × V)} {f : Str} {v : V} {A : Around} {E : Value → Shared → Prop}

theorem getattr_ok {b : Bool} {Q : Value → Shared → Prop} (I : Inv X pins σ H s) (e : H a = some (.ins C dx fs)) (c : Cls X.K C) (n : NoAttr X.K C f) (l : fs.lookup f = some v)
    (h : ∀ u s', Inv X pins σ H s' → RelV v u → Q u s') : wpAny (model X.prog X.w) A (getAttr (.ref a) f b) Q E s := by
  obtain ⟨mA, O, r, _, _, _⟩ := ins_get I.hok e
  obtain ⟨u, hu, ru⟩ := RelO.some_of (v := v) (o := mA f) (by rw [← l]; exact r f)
  exact get_map I.kIn O (c.get f) c.hd n hu (handed_of ru) (h u _ (I.tok _) ru)

theorem getmeth_ok {m : Str} {g : Addr} {pl : Sem Bool} {Q : Value × List Value → Shared → Prop} (I : Inv X pins σ H s) (e : H a = some (.ins C dx fs)) (c : Cls X.K C) (k : Meth X.K C m g) (l : fs.lookup m = none)
    (h : Q (.ref g, [.ref a]) s) : wpAny (model X.prog X.w) A (getMethod (.ref a) m pl) Q E s := by
  obtain ⟨mA, O, r, _, _, _⟩ := ins_get I.hok e
  have hn : mA m = none := RelO.none_of (by rw [← l]; exact r m)
  exact get_meth I.kIn O (c.get m) k.at_ k.fn hn h

theorem setattr_ok {y : V} {u : Value} {Q : Unit → Shared → Prop} (I : Inv X pins σ H s) (e : H a = some (.ins C dx fs)) (c : Cls X.K C) (n : NoAttr X.K C f) (hl : fs.length < 1000) (ry : RelV y u)
    (h : ∀ s', Inv X pins σ (upd H a (.ins C dx (putF f y fs))) s' → Q () s') : wpAny (model X.prog X.w) A (setAttr (.ref a) f u) Q E s := by
  obtain ⟨mA, O, r, wi, _, ho⟩ := ins_get I.hok e
  have hz : (fs.map (·.1)).length ≤ sizeLine := by rw [List.length_map, sizeLine_eq]; omega
  refine set_map I.kIn O c.sa c.po n.taker c.hd wi hz fun h' O' sb => h _ ?_
  have hd : ∃ o, h'.get? dx = some o := let ⟨o, _, _, e', _⟩ := O'.ns; ⟨o, e'⟩
  refine I.write (x := a) (e := dx) (by rw [e]; exact True.intro) (.inr ho) (fun b q hb z => (sb.2 b hb).trans z) hd ?_
  refine ⟨by rw [upd_ne O.ne]; exact ho, ?_, O.ne, O'.obj, _, O'.ns, fun g => ?_, fun g hg => ?_⟩
  · have := length_putF f y fs; omega
  · show RelO ((putF f y fs).lookup g) (if g = f then some u else mA g)
    rw [lookup_putF]
    by_cases q : g = f
    · rw [if_pos q, if_pos q]; exact ry
    · rw [if_neg q, if_neg q]; exact r g
  · by_cases q : g = f
    · rw [q]; exact (keys_putF f y fs).1
    · refine (keys_putF f y fs).2 g (wi g fun z => hg ?_)
      show (if g = f then some u else mA g) = none
      rw [if_neg q]; exact z

/-- a new instance, tracked, without attributes -/
theorem Inv.made (I : Inv X pins σ H s) : Inv X pins σ (upd (upd H s.heap.objs.size (.own (s.heap.objs.size + 1))) (s.heap.objs.size + 1) (.ins C s.heap.objs.size []))
    { s with heap := (s.heap.push PySem.W.emptyDict).push (PySem.W.instObj C s.heap.objs.size) } := by
  have e1 : (s.heap.push PySem.W.emptyDict).get? s.heap.objs.size = some PySem.W.emptyDict := Heap.get?_push_size s.heap rfl
  have e2 : ((s.heap.push PySem.W.emptyDict).push (PySem.W.instObj C s.heap.objs.size)).get? (s.heap.objs.size + 1) = some (PySem.W.instObj C s.heap.objs.size) := by
    have := Heap.get?_push_size (s.heap.push PySem.W.emptyDict) (o := PySem.W.instObj C s.heap.objs.size) rfl
    rwa [Heap.size_push] at this
  have e3 : (s.heap.push PySem.W.emptyDict).Ns s.heap.objs.size (fun _ => none) := ⟨PySem.W.emptyDict, #[], _, e1, rfl, (fun e he => absurd he (by simp)), fun _ => rfl⟩
  have I1 := I.laid (a := s.heap.objs.size) (o := .own (s.heap.objs.size + 1)) (h' := s.heap.push PySem.W.emptyDict) (t' := s.toks) (fun b u q => Heap.get?_push_of_some _ q) (Nat.le_refl _) ⟨_, e1⟩
  refine I1.laid (a := s.heap.objs.size + 1) (o := .ins C s.heap.objs.size []) (t' := s.toks) (fun b u q => Heap.get?_push_of_some _ q) (Nat.le_of_eq (Heap.size_push _ _)) ?_
  have ne : s.heap.objs.size ≠ s.heap.objs.size + 1 := Nat.ne_of_lt (Nat.lt_succ_self _)
  refine ⟨by rw [upd_ne ne, upd_same], Nat.zero_le _, ne, e2, fun _ => none, (Heap.Ns1.of_empty e3).at fun o q => Heap.get?_push_of_some _ q, fun _ => True.intro, fun y hy => absurd rfl hy⟩

/-- e.f where nothing but the object is asked: through attributeBase (super) and the last hold -/
theorem attr_of {prog : Program} {w : World} {env : Env} {e : Expr} {f : Str} {pos : Pos} {s : Shared} {Q : Value → Shared → Prop} (hb : attributeBase e f env (eval e env) = eval e env)
    (h : wpAny (model prog w) A (eval e env) (fun o s₁ => wpAny (model prog w) A (getAttr o f true) Q E s₁) E s) : wpAny (model prog w) A (eval (.Attribute e f pos) env) Q E s :=
  Attribute_any_ h (by rw [arm_eval_Attribute, hb])
end

/-! ### readings and rules -/
/-- e.f, an attribute of the instance -/
noncomputable def tFld (K : PySem.W.Frag) (ta : TE) (f : Str) : TE := fun σ H Q => ta σ H fun x H1 => ∃ a C dx fs v, x = .ref a ∧ H1 a = some (.ins C dx fs) ∧ Cls K C ∧ NoAttr K C f ∧ fs.lookup f = some v ∧ Q v H1
/-- e.f = value -/
noncomputable def sFld (K : PySem.W.Frag) (ta tv : TE) (f : Str) : TS := fun D σ H => tv σ H fun y H1 => ta σ H1 fun x H2 => ∃ a C dx fs, x = .ref a ∧ H2 a = some (.ins C dx fs) ∧ Cls K C ∧ NoAttr K C f ∧ fs.length < 1000 ∧
  D.nx σ (upd H2 a (.ins C dx (putF f y fs)))
section
variable {X : Cx} {o e value : Expr} {f : Str} {pos pos' tpos : Pos} {ta tv : TE}
theorem pe_fld (he : PE X e ta) (hb : attributeBase e f X.env (eval e X.env) = eval e X.env) : PE X (.Attribute e f pos) (tFld X.K ta f) := by
  intro pins s σ H Q I h
  refine attr_of hb (thn (he pins s σ H _ I h) fun u s1 ⟨x, H1, I1, rx, a, C, dx, fs, v, ex, ea, c, n, l, q⟩ => ?_)
  subst ex
  obtain rfl : u = Value.ref a := rx
  exact getattr_ok I1 ea c n l fun u' s2 I2 ru => ⟨v, H1, I2, ru, q⟩
theorem ps_fld (ha : PE X o ta) (hv : PE X value tv) (hs : swapsWith value (some (.Attribute o f pos')) pos.line X.env = pure false) : PS X (.Assign [.Attribute o f pos'] value pos) (sFld X.K ta tv f) := by
  intro pins s σ H D I h
  refine plainObj_wpAny_Assign_Attribute (thn (hv pins s σ H _ I h) fun u s1 ⟨y, H1, I1, ry, q⟩ => thn (ha pins s1 σ H1 _ I1 q) fun ov s2 ⟨x, H2, I2, rx, a, C, dx, fs, ex, ea, c, n, l, q2⟩ => ?_) hs
  subst ex
  obtain rfl : ov = Value.ref a := rx
  exact setattr_ok I2 ea c n l ry fun s3 I3 => ⟨σ, _, I3, q2⟩
end

/-! ### isinstance -/
section
variable {X : Cx} {pins : List (Addr × Obj)} {σ : St} {H : Hp} {s : Shared} {A : Around} {E : Value → Shared → Prop} {Q : Value → Shared → Prop} {c : Value} {b : Bool}
/-- the type of a value, as the fragment's deciders take it; for an instance its class -/
inductive TyOf (K : PySem.W.Frag) (H : Hp) : V → Value → Prop where
  | non : TyOf K H .non (.type "NoneType")
  | bl (x : Bool) : TyOf K H (.bl x) (.type "bool")
  | int (i : Int) : TyOf K H (.int i) (.type "int")
  | str (x : Str) : TyOf K H (.str x) (.type "str")
  | flt (x : UInt64) : TyOf K H (.flt x) (.type "float")
  | lst {a : Addr} {xs : List V} (e : H a = some (.lst xs)) : TyOf K H (.ref a) (.type "list")
  | frz {a : Addr} {o : Obj} {xs : List V} (e : H a = some (.frz o (.lst xs))) : TyOf K H (.ref a) (.type "list")
  | tup {a : Addr} {xs : List V} (e : H a = some (.tup xs)) : TyOf K H (.ref a) (.type "tuple")
  | dK {a : Addr} {kvs : List (Key × V)} (e : H a = some (.dK kvs)) : TyOf K H (.ref a) (.type "dict")
  | dT {a : Addr} {kvs : List (List Key × V)} (e : H a = some (.dT kvs)) : TyOf K H (.ref a) (.type "dict")
  | ins {a C dx : Addr} {fs : List (Str × V)} (e : H a = some (.ins C dx fs)) (cl : Cls K C) (ha : PySem.W.findIn K (.ref C) "__class__" = some (some (.builtin "object.__class__")))
      (hn : PySem.W.specialIn K (.builtin "object.__class__") "__get__" = some (some (.builtin "getset_descriptor.__get__"))) (htk : PySem.W.takesIn K (.builtin "object.__class__") = some true)
      (hm : PySem.W.mroIn K C (.type "object") = some true) : TyOf K H (.ref a) (.ref C)
end
end L2

namespace L2
open PySem PySem.Spec PyProof.Rows

/-! ### room -/
structure Room (k : Nat) (A : Around) : Prop where
  hd : A.handled = none
  dp : A.depth + 3 * k + 5 < recursionLimit
  un : A.units + 16 * k + 200 < cLine
theorem Room.mono {j k : Nat} {A : Around} (r : Room k A) (h : j ≤ k) : Room j A := ⟨r.hd, by have := r.dp; omega, by have := r.un; omega⟩
theorem Room.deeper {k : Nat} {A : Around} (r : Room (k + 1) A) (env : Env) : Room k (A.deeper env) :=
  ⟨r.hd, by have := r.dp; show A.depth + 1 + 3 * k + 5 < _; omega, by have := r.un; show A.units + 3 + 16 * k + 200 < _; omega⟩
theorem Room.in1 {k : Nat} {A : Around} (r : Room (k + 1) A) : Room k A.in1 :=
  ⟨r.hd, by have := r.dp; show A.depth + 3 * k + 5 < _; omega, by have := r.un; show A.units + 1 + 16 * k + 200 < _; omega⟩
theorem make_depth {A : Around} {C : Addr} {us : List Value} {kw : List (Str × Value)} : (A.under (.builtin "type.__call__" ⟨.ref C :: us, kw⟩)).depth = A.depth + 1 := by
  first | rfl | simp [Around.under, Code.weight, Code.isCreation, Code.isGuard, Code.isCaller, Code.frames, Code.isFrame, guardIds]
theorem make_units {A : Around} {C : Addr} {us : List Value} {kw : List (Str × Value)} : (A.under (.builtin "type.__call__" ⟨.ref C :: us, kw⟩)).units = A.units + 1 := by
  first | rfl | simp [Around.under, Code.cUnits, Code.frames, Code.isFrame]
theorem Room.make {k : Nat} {A : Around} (r : Room (k + 1) A) (C : Addr) (us : List Value) (kw : List (Str × Value)) : Room k (A.under (.builtin "type.__call__" ⟨.ref C :: us, kw⟩)) :=
  ⟨r.hd, by have := r.dp; rw [make_depth]; omega, by have := r.un; rw [make_units]; omega⟩
theorem Room.depth {k : Nat} {A : Around} (r : Room k A) : A.depth < recursionLimit := by have := r.dp; omega
theorem Room.units {k : Nat} {A : Around} (r : Room k A) : A.units + 64 < cLine := by have := r.un; omega
/-! ### argument lists and displays -/
noncomputable def tNil : TA := fun _ H Q => Q [] H
noncomputable def tCons (ta : TE) (tr : TA) : TA := fun σ H Q => ta σ H fun x H1 => tr σ H1 fun xs H2 => Q (x :: xs) H2
section
variable {X : Cx} {e : Expr} {es : List Expr} {te : TE} {t : TA} {pos : Pos}
theorem pa_nil : PA X [] tNil := fun _ _ _ _ H Q I h => Calls.spliced_nil ⟨[], H, I, .nil, h⟩
theorem pa_cons (ha : PE X e te) (hr : PA X es t) (hs : starEach (e :: es) X.env = (false, eval e X.env) :: starEach es X.env := by rfl) : PA X (e :: es) (tCons te t) := by
  intro pos pins s σ H Q I h
  rw [hs]
  show wpAny _ _ (spliced ((false, eval e X.env) :: backTo pos (starEach es X.env))) _ _ s
  refine Calls.spliced_cons (thn (ha pins s σ H _ I h) fun u s1 ⟨x, H1, I1, r1, q1⟩ => ?_)
  exact thn (hr pos pins s1 σ H1 _ I1 q1) fun us s2 ⟨xs, H2, I2, r2, q2⟩ => ⟨x :: xs, H2, I2, .cons r1 r2, q2⟩

/-- a tuple, a list of written items -/
noncomputable def tTup (t : TA) : TE := fun σ H Q => t σ H fun xs H1 => xs.length ≤ sizeLine ∧ ∀ p, H1 p = none → Q (.ref p) (upd H1 p (.tup xs))
noncomputable def tLst (t : TA) : TE := fun σ H Q => t σ H fun xs H1 => xs.length ≤ sizeLine ∧ ∀ p, H1 p = none → Q (.ref p) (upd H1 p (.lst xs))
theorem pe_tup {x1} (h : PA X es t) : PE X (.Tuple es x1 pos) (tTup t) := by
  intro pins s σ H Q I hq
  refine wpAny_Tuple_spliced (thn (h pos pins s σ H _ I hq) fun us s1 ⟨xs, H1, I1, r, z, q⟩ => ⟨by rw [← r.length]; exact z, ?_⟩)
  have hf : H1 s1.heap.objs.size = none := I1.hok.fresh (Nat.le_refl _)
  refine ⟨.ref s1.heap.objs.size, upd H1 s1.heap.objs.size (.tup xs), I1.laid (t' := s1.toks) (fun b u e => Heap.get?_push_of_some _ e) (Nat.le_refl _) ?_, rfl, q _ hf⟩
  exact ⟨z, us, r, ⟨_, Heap.get?_push_size _ rfl, rfl, _, rfl⟩⟩
theorem pe_lst (h : PA X es t) : PE X (.List es pos) (tLst t) := by
  intro pins s σ H Q I hq
  refine wpAny_List_spliced (thn (h pos pins s σ H _ I hq) fun us s1 ⟨xs, H1, I1, r, z, q⟩ => ⟨by rw [← r.length]; exact z, ?_⟩)
  have hf : H1 s1.heap.objs.size = none := I1.hok.fresh (Nat.le_refl _)
  refine ⟨.ref s1.heap.objs.size, upd H1 s1.heap.objs.size (.lst xs), I1.laid (t' := s1.toks) (fun b u e => Heap.get?_push_of_some _ e) (Nat.le_refl _) ?_, rfl, q _ hf⟩
  exact ⟨z, us, 0, r, Heap.get?_push_size _ rfl⟩
end

/-! ### what a def promises -/
/-- a def's promise: the bound arguments in the parameters' order, the heap, the wanted end, the wanted exception -/
noncomputable abbrev Sp := List V → Hp → VK → XK → Prop
/-- how an exception lies behind a call (file 08 gives it): the callers' frames, abstract heap and state ahead of the call, the wish, the exception, the state -/
noncomputable abbrev CXT := List Env → Hp → Shared → XK → Value → Shared → Prop

/-- the state at a call -/
structure Env0 (P : Program) (w : World) (K : PySem.W.Frag) (mg : Str → Option Value) (base : Heap) (A : Around) (outer : List Env) (s : Shared) (H : Hp) : Prop where
  frames : A.frames = some outer
  mod : Mod K mg base
  bs : ∀ b o, base.get? b = some o → s.heap.get? b = some o ∧ H b = none
  bsz : base.objs.size ≤ s.heap.objs.size
  funs : s.heap.FunFrames base outer
  frf : ∀ b ∈ frs outer, H b = none
  hok : HOk P w H s.heap
  bare : AllBare s.gens
/-- a call's end -/
noncomputable def CE (outer : List Env) (P : Program) (w : World) (H : Hp) (s : Shared) (Q : VK) (u : Value) (s' : Shared) : Prop :=
  ∃ v H', s'.os = s.os ∧ AllBare s'.gens ∧ Un (frs outer) [] H H' s.heap s'.heap ∧ HOk P w H' s'.heap ∧ RelV v u ∧ Q v H'
noncomputable def CR (CX : CXT) (outer : List Env) (P : Program) (w : World) (H : Hp) (s : Shared) (Q : VK) (E : XK) (r : Result) (s' : Shared) : Prop :=
  match r with
  | .ok (.ret u) => CE outer P w H s Q u s'
  | .ok _ => False
  | .error e => CX outer H s E e s'
structure FnOk (P : Program) (w : World) (K : PySem.W.Frag) (mg : Str → Option Value) (base : Heap) (CX : CXT) (k : Nat) (f : Addr) (fd : FuncData) (ps : List Str) (sp : Sp) : Prop where
  len : ∀ vs H Q E, sp vs H Q E → vs.length = ps.length
  run : ∀ (A : Around) (outer : List Env) (s : Shared) (H : Hp) (args : Args) (us : List Value) (vs : List V) (Q : VK) (E : XK), Room k A → Env0 P w K mg base A outer s H → BindsTo s fd args (ps.zip us) → Vals vs us → sp vs H Q E →
    codeAny (model P w) A (.call (.ref f) args) (CR CX outer P w H s Q E) s
theorem FnOk.mono {P : Program} {w : World} {K : PySem.W.Frag} {mg : Str → Option Value} {base : Heap} {CX : CXT} {j k : Nat} {f : Addr} {fd : FuncData} {ps : List Str} {sp : Sp} (F : FnOk P w K mg base CX j f fd ps sp) (h : j ≤ k) :
    FnOk P w K mg base CX k f fd ps sp := ⟨F.len, fun A outer s H args us vs Q E hr => F.run A outer s H args us vs Q E (hr.mono h)⟩
/-- a weaker promise -/
theorem FnOk.imp {P : Program} {w : World} {K : PySem.W.Frag} {mg : Str → Option Value} {base : Heap} {CX : CXT} {k : Nat} {f : Addr} {fd : FuncData} {ps : List Str} {sp sp' : Sp} (F : FnOk P w K mg base CX k f fd ps sp)
    (h : ∀ vs H Q E, sp' vs H Q E → sp vs H Q E) : FnOk P w K mg base CX k f fd ps sp' :=
  ⟨fun vs H Q E q => F.len vs H Q E (h _ _ _ _ q), fun A outer s H args us vs Q E hr he hb hv hs => F.run A outer s H args us vs Q E hr he hb hv (h _ _ _ _ hs)⟩

theorem Env0.make {P : Program} {w : World} {K : PySem.W.Frag} {mg : Str → Option Value} {base : Heap} {A : Around} {outer : List Env} {s : Shared} {H : Hp} (e : Env0 P w K mg base A outer s H) (C : Addr) (us : List Value) (kw : List (Str × Value)) :
    Env0 P w K mg base (A.under (.builtin "type.__call__" ⟨.ref C :: us, kw⟩)) outer s H := ⟨by first | exact e.frames | (simpa [Around.under, Code.envs, Code.isFrame, pushEnvs] using e.frames), e.mod, e.bs, e.bsz, e.funs, e.frf, e.hok, e.bare⟩
theorem Env0.in1 {P : Program} {w : World} {K : PySem.W.Frag} {mg : Str → Option Value} {base : Heap} {A : Around} {outer : List Env} {s : Shared} {H : Hp} (e : Env0 P w K mg base A outer s H) :
    Env0 P w K mg base A.in1 outer s H := ⟨e.frames, e.mod, e.bs, e.bsz, e.funs, e.frf, e.hok, e.bare⟩

section
variable {X : Cx} {pins : List (Addr × Obj)} {σ : St} {H : Hp} {s s' : Shared}
/-- from a body: what a callee wants -/
theorem Inv.env0 (I : Inv X pins σ H s) : Env0 X.prog X.w X.K X.mg X.base X.A X.stack s H :=
  ⟨I.ok.frames, I.ok.mod, I.bs, Nat.le_trans I.ok.bsz I.sz, I.stack, I.stkFree, I.hok, I.bare⟩
/-- behind a call -/
theorem Inv.after {Q : VK} {u : Value} (I : Inv X pins σ H s) (h : CE X.stack X.prog X.w H s Q u s') : EP X pins σ Q u s' := by
  obtain ⟨v, H', os, bare, un, hok, r, q⟩ := h
  obtain ⟨hh, g, d, t, os'⟩ := s'
  obtain rfl : os' = s.os := os
  exact ⟨v, H', I.call (h' := hh) (g' := g) (d' := d) (t' := t) (ch := []) un hok bare (fun b z => absurd z (by simp)), r, q⟩
end

/-! ### calls -/
/-- f(..): the written arguments, then the defaults dvs; E: what is wanted of an exception -/
noncomputable def tCall (sp : Sp) (dvs : List V) (E : XK) (t : TA) : TE := fun σ H Q => t σ H fun vs H1 => sp (vs ++ dvs) H1 Q E
/-- o.m(..) of an instance of the class at C -/
noncomputable def tMeth (C : Addr) (m : Str) (sp : Sp) (dvs : List V) (E : XK) (ta : TE) (t : TA) : TE := fun σ H Q => ta σ H fun x H1 => ∃ a dx fs, x = .ref a ∧ H1 a = some (.ins C dx fs) ∧ fs.lookup m = none ∧
  t σ H1 fun vs H2 => sp (x :: (vs ++ dvs)) H2 Q E
/-- C(..): a new instance and its dict, then __init__ -/
noncomputable def tMake (C : Addr) (sp : Sp) (dvs : List V) (E : XK) (t : TA) : TE := fun σ H Q => t σ H fun vs H1 => ∀ x dx, H1 x = none → H1 dx = none → dx ≠ x →
  sp (.ref x :: (vs ++ dvs)) (upd (upd H1 dx (.own x)) x (.ins C dx [])) (fun v H2 => v = .non ∧ Q (.ref x) H2) E

/-- how the parameters are bound: us the positional arguments, kw the keywords' values by name, ds the defaults that fill up -/
noncomputable def Binds (K : PySem.W.Frag) (fd : FuncData) (ps : List Str) (ds : List Value) : Prop :=
  ∀ (s : Shared) (us : List Value), K.In s.heap → (us ++ ds).length = ps.length → BindsTo s fd ⟨us, []⟩ (ps.zip (us ++ ds))
/-- every parameter is given -/
theorem Binds.all {K : PySem.W.Frag} {fd : FuncData} {ps : List Str} (h : ∀ us : List Value, us.length = ps.length → bindArgs fd ⟨us, []⟩ = pure (ps.zip us)) : Binds K fd ps [] := fun s us _ hl => by
  rw [List.append_nil] at hl ⊢
  exact .of_eq (h us hl)

/-- an exception of a callee reaches what this body wants of exceptions -/
noncomputable def Passes (CX : CXT) (X : Cx) (E : XK) : Prop := ∀ (pins : List (Addr × Obj)) (σ : St) (H : Hp) (s : Shared) (e : Value) (s' : Shared), Inv X pins σ H s → CX X.stack H s E e s' → X.xe e s'

section
variable {X : Cx} {CX : CXT} {k : Nat} {f C : Addr} {fd : FuncData} {ps : List Str} {sp : Sp} {dvs : List V} {ds : List Value} {E : XK} {x m : Str} {p pos apos : Pos} {e o : Expr} {es : List Expr} {ta : TE} {t : TA}

/-- the callee runs -/
theorem run_fn {pins : List (Addr × Obj)} {σ : St} {H : Hp} {s : Shared} {Q : VK} {us : List Value} {vs : List V} (F : FnOk X.prog X.w X.K X.mg X.base CX k f fd ps sp) (hr : Room k X.A) (hb : Binds X.K fd ps ds) (hd : Vals dvs ds) (hx : Passes CX X E)
    (I : Inv X pins σ H s) (r : Vals vs us) (h : sp (vs ++ dvs) H Q E) : wpAny (model X.prog X.w) X.A (call (.ref f) us) (EP X pins σ Q) X.xe s := by
  have r2 : Vals (vs ++ dvs) (us ++ ds) := r.append hd
  have hl : (us ++ ds).length = ps.length := by rw [← r2.length]; exact F.len _ _ _ _ h
  refine wpAny_call (codeAny_mono (F.run X.A X.stack s H ⟨us, []⟩ (us ++ ds) (vs ++ dvs) Q E hr I.env0 (hb s us I.kIn hl) r2 h) fun r s' hq => ?_)
  cases r with
  | error e => exact hx pins σ H s e s' I hq
  | ok fl =>
    cases fl with
    | ret u => exact I.after hq
    | next => exact False.elim hq
    | brk => exact False.elim hq
    | cont => exact False.elim hq

theorem pe_call (F : FnOk X.prog X.w X.K X.mg X.base CX k f fd ps sp) (hr : Room k X.A) (hg : Gl X x) (hm : X.mg x = some (.ref f)) (hk : PySem.W.keepIn X.K (.ref f) = true) (hb : Binds X.K fd ps ds) (hd : Vals dvs ds) (hx : Passes CX X E)
    (ha : PA X (e :: es) t) (hdb : (x == ("__debug__" : Str)) = false := by decide) (he : starEach (e :: es) X.env = (false, eval e X.env) :: starEach es X.env := by rfl) (hpl : (backTo pos (starEach es X.env)).any (·.1) = false := by rfl) :
    PE X (.Call (.Name x p) (e :: es) [] pos) (tCall sp dvs E t) := by
  intro pins s σ H Q I h
  refine wpAny_Call_Name_kw (ld_glob I hg hm ?_ hdb)
  refine PySem.W.callWith_K (h₀ := X.base) I.ok.mod.kin hk (thn (ha pos pins s σ H _ I h) fun us s1 ⟨vs, H1, I1, r, q⟩ => ⟨I1.kIn, ?_⟩) he hpl
  exact run_fn F hr hb hd hx I1 r q
/-- o.m(e, ..) -/
theorem pe_meth {pl : Sem Bool} (he : PE X o ta) (c : Cls X.K C) (hm : Meth X.K C m f) (F : FnOk X.prog X.w X.K X.mg X.base CX k f fd ps sp) (hr : Room k X.A) (hb : Binds X.K fd ps ds) (hd : Vals dvs ds) (hx : Passes CX X E) (ha : PA X (e :: es) t)
    (hst : starEach (e :: es) X.env = (false, eval e X.env) :: starEach es X.env := by rfl) (hpl : (backTo pos (starEach es X.env)).any (·.1) = false := by rfl)
    (ht : eval (.Call (.Attribute o m apos) (e :: es) [] pos) X.env = (do
      let ov ← eval o X.env
      standAt apos.atName
      let (f, first) ← holding [ov] (getMethod ov m pl)
      callWith pos f first (backTo pos (starEach (e :: es) X.env)) (backToKw pos (keywordEach [] X.env))) := by rfl) :
    PE X (.Call (.Attribute o m apos) (e :: es) [] pos) (tMeth C m sp dvs E ta t) := by
  intro pins s σ H Q I h
  refine PySem.W.methodCall_KW (pl := pl) (thn (he pins s σ H _ I h) fun u s1 ⟨x, H1, I1, rx, a, dx, fs, ex, ea, l, q⟩ => ?_) ht
  subst ex
  obtain rfl : u = Value.ref a := rx
  refine getmeth_ok I1 ea c hm l ?_
  refine PySem.W.callWith_K (first := [.ref a]) (h₀ := X.base) I.ok.mod.kin hm.kp (thn (ha pos pins s1 σ H1 _ I1 q) fun us s2 ⟨vs, H2, I2, r, q2⟩ => ⟨I2.kIn, ?_⟩) hst hpl
  exact run_fn (us := .ref a :: us) (vs := .ref a :: vs) F hr hb hd hx I2 (.cons rfl r) q2
/-- o.m() -/
theorem pe_meth0 {pl : Sem Bool} (he : PE X o ta) (c : Cls X.K C) (hm : Meth X.K C m f) (F : FnOk X.prog X.w X.K X.mg X.base CX k f fd ps sp) (hr : Room k X.A) (hb : Binds X.K fd ps ds) (hd : Vals dvs ds) (hx : Passes CX X E)
    (ht : eval (.Call (.Attribute o m apos) [] [] pos) X.env = (do
      let ov ← eval o X.env
      standAt apos.atName
      let (f, first) ← holding [ov] (getMethod ov m pl)
      callWith pos f first (backTo pos (starEach [] X.env)) (backToKw pos (keywordEach [] X.env))) := by rfl) :
    PE X (.Call (.Attribute o m apos) [] [] pos) (tMeth C m sp dvs E ta tNil) := by
  intro pins s σ H Q I h
  refine PySem.W.methodCall_KW (pl := pl) (thn (he pins s σ H _ I h) fun u s1 ⟨x, H1, I1, rx, a, dx, fs, ex, ea, l, q⟩ => ?_) ht
  subst ex
  obtain rfl : u = Value.ref a := rx
  refine getmeth_ok I1 ea c hm l ?_
  exact PySem.W.callWith_K0 (first := [.ref a]) I1.kIn hm.kp (run_fn (us := [.ref a]) (vs := [.ref a]) F hr hb hd hx I1 (.cons rfl .nil) q)

/-- what a class must have to be made -/
structure Mk (K : PySem.W.Frag) (C f : Addr) : Prop where
  makes : PySem.W.makesIn K C = true
  init : PySem.W.findIn K (.ref C) "__init__" = some (some (.ref f))
  fn : PySem.W.isFn K (.ref f) = true
  kp : PySem.W.keepIn K (.ref C) = true

theorem run_make {pins : List (Addr × Obj)} {σ : St} {H : Hp} {s : Shared} {Q : VK} {us : List Value} {vs : List V} (M : Mk X.K C f) (F : FnOk X.prog X.w X.K X.mg X.base CX k f fd ps sp) (hr : Room (k + 1) X.A) (hb : Binds X.K fd ps ds) (hd : Vals dvs ds)
    (hx : Passes CX X E) (I : Inv X pins σ H s) (r : Vals vs us)
    (h : ∀ x dx, H x = none → H dx = none → dx ≠ x → sp (.ref x :: (vs ++ dvs)) (upd (upd H dx (.own x)) x (.ins C dx [])) (fun v H2 => v = .non ∧ Q (.ref x) H2) E) :
    wpAny (model X.prog X.w) X.A (call (.ref C) us) (EP X pins σ Q) X.xe s := by
  have hq := h (s.heap.objs.size + 1) s.heap.objs.size (I.hok.fresh (Nat.le_succ _)) (I.hok.fresh (Nat.le_refl _)) (Nat.ne_of_lt (Nat.lt_succ_self _))
  have I2 := Inv.made (C := C) I
  have r2 : Vals (V.ref (s.heap.objs.size + 1) :: (vs ++ dvs)) (Value.ref (s.heap.objs.size + 1) :: (us ++ ds)) := .cons rfl (r.append hd)
  have hl : (Value.ref (s.heap.objs.size + 1) :: us ++ ds).length = ps.length := by
    have e := r2.length
    rw [F.len _ _ _ _ hq] at e
    exact e.symm
  refine wpAny_call (make_map (f := f) I.kIn M.makes M.init (beq_iff_eq.mp M.fn) (codeAny_mono (F.run _ X.stack _ _ ⟨Value.ref (s.heap.objs.size + 1) :: us, []⟩ (Value.ref (s.heap.objs.size + 1) :: (us ++ ds)) _ _ E (hr.make C us [])
    (I2.env0.make C us []) (hb _ (Value.ref (s.heap.objs.size + 1) :: us) I2.kIn hl) r2 hq) fun r s' hq' => ?_))
  cases r with
  | error e => exact hx pins σ _ _ e s' I2 hq'
  | ok fl =>
    cases fl with
    | ret u =>
      obtain ⟨v, H', I3, rv, ev, q3⟩ := I2.after hq'
      subst ev
      exact ⟨rv, ⟨V.ref (s.heap.objs.size + 1), H', I3, rfl, q3⟩⟩
    | next => exact False.elim hq'
    | brk => exact False.elim hq'
    | cont => exact False.elim hq'
theorem pe_make (M : Mk X.K C f) (F : FnOk X.prog X.w X.K X.mg X.base CX k f fd ps sp) (hr : Room (k + 1) X.A) (hg : Gl X x) (hm : X.mg x = some (.ref C)) (hb : Binds X.K fd ps ds) (hd : Vals dvs ds) (hx : Passes CX X E)
    (ha : PA X (e :: es) t) (hdb : (x == ("__debug__" : Str)) = false := by decide) (he : starEach (e :: es) X.env = (false, eval e X.env) :: starEach es X.env := by rfl) (hpl : (backTo pos (starEach es X.env)).any (·.1) = false := by rfl) :
    PE X (.Call (.Name x p) (e :: es) [] pos) (tMake C sp dvs E t) := by
  intro pins s σ H Q I h
  refine wpAny_Call_Name_kw (ld_glob I hg hm ?_ hdb)
  refine PySem.W.callWith_K (h₀ := X.base) I.ok.mod.kin M.kp (thn (ha pos pins s σ H _ I h) fun us s1 ⟨vs, H1, I1, r, q⟩ => ⟨I1.kIn, ?_⟩) he hpl
  exact run_make M F hr hb hd hx I1 r q
end

/-! ### keywords -/
section
variable {X : Cx} {CX : CXT} {k : Nat} {f C : Addr} {fd : FuncData} {ps ks : List Str} {sp : Sp} {E : XK} {x m : Str} {p pos apos kpos : Pos} {e o : Expr} {es : List Expr} {kws : List Keyword} {te ta : TE} {t tk : TA} {nm : Option Str}
/-- how a call with keywords binds: g puts the positional values us and the keywords' values ws (names ks) in the parameters' order, defaults among them -/
structure KBinds (K : PySem.W.Frag) (fd : FuncData) (ps ks : List Str) (g : List Value → List Value → List Value) (gV : List V → List V → List V) : Prop where
  to : ∀ (s : Shared) (us ws : List Value), K.In s.heap → (g us ws).length = ps.length → BindsTo s fd ⟨us, ks.zip ws⟩ (ps.zip (g us ws))
  rel : ∀ {vs : List V} {us : List Value} {zs : List V} {ws : List Value}, Vals vs us → Vals zs ws → Vals (gV vs zs) (g us ws)
variable {g : List Value → List Value → List Value} {gV : List V → List V → List V}
end

/-! ### a def's body keeps its promise -/
/-- names: the parameters first -/
structure FnScope (N P : List Str) (sc : Scope) : Prop where
  kind : sc.kind = .function
  co : sc.isCoroutine = false
  gen : sc.isGenerator = false
  nd : N.Nodup
  pre : N.take P.length = P
  par : ∀ x ∈ P, sc.names.lookup x = some .local ∨ sc.names.lookup x = some .cell
  nofree : ∀ y ∈ sc.names, y.2 ≠ .free

theorem bindL_out {kindOf : Str → Option NameKind} {x : Str} : ∀ {binds : List (Str × Value)} {m : Str → Option Value}, (∀ v, (x, v) ∉ binds) → bindL kindOf binds m x = m x
  | [], _, _ => rfl
  | (n, v) :: r, m, h => by
    unfold bindL
    rw [bindL_out fun w hw => h w (List.mem_cons_of_mem _ hw)]
    split
    · have : x ≠ n := by rintro rfl; exact h v List.mem_cons_self
      simp [this]
    · rfl
theorem bindC_out {kindOf : Str → Option NameKind} {x : Str} : ∀ {binds : List (Str × Value)} {m : Str → Option Value}, (∀ v, (x, v) ∉ binds) → bindC kindOf binds m x = m x
  | [], _, _ => rfl
  | (n, v) :: r, m, h => by
    unfold bindC
    rw [bindC_out fun w hw => h w (List.mem_cons_of_mem _ hw)]
    split
    · rfl
    · have : x ≠ n := by rintro rfl; exact h v List.mem_cons_self
      simp [this]
theorem bindL_get {kindOf : Str → Option NameKind} {x : Str} {v : Value} : ∀ {P : List Str} {vs : List Value} {i : Nat} {m : Str → Option Value}, P.Nodup → P[i]? = some x → vs[i]? = some v → kindOf x = some .local →
    bindL kindOf (P.zip vs) m x = some v
  | [], _, _, _, _, h, _, _ => by simp at h
  | _ :: _, [], _, _, _, _, h, _ => by simp at h
  | p :: P, w :: vs, 0, m, nd, h1, h2, hk => by
    simp at h1 h2; subst h1; subst h2
    show bindL kindOf ((p, w) :: P.zip vs) m p = _
    unfold bindL
    rw [bindL_out fun v hv => (List.nodup_cons.mp nd).1 (List.of_mem_zip hv).1, if_pos hk]
    simp
  | p :: P, w :: vs, i + 1, m, nd, h1, h2, hk => by
    show bindL kindOf ((p, w) :: P.zip vs) m x = _
    unfold bindL
    exact bindL_get (i := i) (List.nodup_cons.mp nd).2 (by simpa using h1) (by simpa using h2) hk
theorem bindC_get {kindOf : Str → Option NameKind} {x : Str} {v : Value} : ∀ {P : List Str} {vs : List Value} {i : Nat} {m : Str → Option Value}, P.Nodup → P[i]? = some x → vs[i]? = some v → kindOf x ≠ some .local →
    bindC kindOf (P.zip vs) m x = some v
  | [], _, _, _, _, h, _, _ => by simp at h
  | _ :: _, [], _, _, _, _, h, _ => by simp at h
  | p :: P, w :: vs, 0, m, nd, h1, h2, hk => by
    simp at h1 h2; subst h1; subst h2
    show bindC kindOf ((p, w) :: P.zip vs) m p = _
    unfold bindC
    rw [bindC_out fun v hv => (List.nodup_cons.mp nd).1 (List.of_mem_zip hv).1, if_neg hk]
    simp
  | p :: P, w :: vs, i + 1, m, nd, h1, h2, hk => by
    show bindC kindOf ((p, w) :: P.zip vs) m x = _
    unfold bindC
    exact bindC_get (i := i) (List.nodup_cons.mp nd).2 (by simpa using h1) (by simpa using h2) hk

/-- the names' values at the entry -/
noncomputable def start (N : List Str) (vs : List V) : St := vs.map some ++ List.replicate (N.length - vs.length) none

/-- the context of a def's body, at its entry; an exception leaves the frame, then lies as CX says -/
noncomputable def cxOf (CX : CXT) (P : Program) (w : World) (K : PySem.W.Frag) (mg : Str → Option Value) (base : Heap) (N : List Str) (qual : Str) (scope : Scope) (f : Addr) (cd : Value) (A : Around) (outer : List Env) (s : Shared) (H : Hp) (E : XK) : Cx where
  prog := P
  w := w
  K := K
  mg := mg
  base := base
  A := A.deeper (envOfC qual scope s.heap.objs.size f cd)
  N := N
  s₀ := s
  H₀ := H
  env := envOfC qual scope s.heap.objs.size f cd
  outer := outer
  stack := envOfC qual scope s.heap.objs.size f cd :: outer
  ex := []
  calm := true
  fn := fun _ => true
  pn := []
  xe := fun e s' => wpAny (model P w) (A.deeper (envOfC qual scope s.heap.objs.size f cd)) (leaving (envOfC qual scope s.heap.objs.size f cd) e) (fun _ s'' => CX outer H s E e s'') (fun e' s'' => CX outer H s E e' s'') s'

theorem cell_has {sc : Scope} {n : Nat} {x : Str} (h : sc.names.lookup x = some .cell) : ∃ c, (cellsFrom n sc.names []).lookup x = some c := by
  have q := PySem.W.cellsFrom_some sc.names n [] (.inl h)
  exact Option.isSome_iff_exists.mp q

theorem inv_start {CX : CXT} {P : Program} {w : World} {K : PySem.W.Frag} {mg : Str → Option Value} {base : Heap} {N ps : List Str} {qual : Str} {scope : Scope} {f : Addr} {cd : Value} {A : Around} {outer : List Env} {s s1 : Shared} {H : Hp} {E : XK} {us : List Value} {vs : List V}
    (S : FnScope N ps scope) (hd : A.handled = none) (e0 : Env0 P w K mg base A outer s H) (hl : vs.length = ps.length) (r : Vals vs us)
    (x : InCallC s s.heap.objs.size (bindL (envOfC qual scope s.heap.objs.size f cd).kindOf (ps.zip us) fun _ => none) (cellsFrom (s.heap.objs.size + 1) scope.names []) (bindC (envOfC qual scope s.heap.objs.size f cd).kindOf (ps.zip us) fun _ => none) s1) :
    Inv (cxOf CX P w K mg base N qual scope f cd A outer s H E) [] (start N vs) H s1 := by
  have hpl : ps.length ≤ N.length := by have := congrArg List.length S.pre; rw [List.length_take] at this; omega
  obtain ⟨h1, tk, rfl, hk⟩ := x.done
  have noA : ∀ b : Addr, b ∉ (cxOf CX P w K mg base N qual scope f cd A outer s H E).ex := fun b z => absurd (show b ∈ ([] : List Addr) from z) (by simp)
  refine ⟨⟨e0.mod, S.kind, rfl, rfl, Nat.le_refl _, fun y z c h1 h2 => ?_, fun y hy => ?_, fun y c _ h => ?_, fun _ => hd, Around.frames_deeper e0.frames, .inr ⟨rfl, rfl⟩, fun b z => absurd z (noA b), e0.bs, e0.bsz, fun b _ _ => noA b, fun b z => absurd z (noA b), e0.funs, e0.frf⟩,
    rfl, e0.bare, Un.kept hk, ⟨_, x.toInCall.ns, fun i y v h1 h2 h3 => ?_⟩, fun y c h => ⟨_, x.cell y c h⟩, e0.hok.fresh (Nat.le_refl _), fun y c h => ?_, fun p hp => absurd (show p ∈ ([] : List (Addr × Obj)) from hp) (by simp), e0.hok.kept hk, ?_⟩
  · exact name_of_addr x.apart (PySem.mem_of_lookup h1) (PySem.mem_of_lookup h2)
  · have hy : scope.names.lookup y = some .cell ∨ scope.names.lookup y = some .free := hy
    rcases hy with hy | hy
    · exact cell_has hy
    · exact absurd rfl (S.nofree _ (PySem.mem_of_lookup hy))
  · exact Nat.le_of_lt (x.above y c (PySem.mem_of_lookup h))
  · have hi : i < vs.length := by
      unfold start at h2
      by_cases hi : i < vs.length
      · exact hi
      · rw [List.getElem?_append_right (by simpa using hi)] at h2
        rw [List.getElem?_replicate] at h2
        split at h2 <;> cases h2
    have ha : vs[i]? = some v := by
      unfold start at h2
      rw [List.getElem?_append_left (by simpa using hi), List.getElem?_map] at h2
      cases e : vs[i]? with
      | none => rw [e] at h2; cases h2
      | some a => rw [e] at h2; cases h2; rfl
    obtain ⟨u, hu, rv⟩ := r.get ha
    have hp : ps[i]? = some y := by
      rw [← S.pre, List.getElem?_take_of_lt (by omega)]; exact h1
    have ndP : ps.Nodup := by rw [← S.pre]; exact S.nd.sublist (List.take_sublist _ _)
    refine ⟨u, rv, ?_⟩
    rcases S.par y (List.mem_of_getElem? hp) with k | k
    · exact .inl ⟨k, bindL_get ndP hp hu k⟩
    · obtain ⟨c, e⟩ := cell_has (n := s.heap.objs.size + 1) k
      refine .inr ⟨.inl k, c, e, ?_⟩
      have q := x.cell y c e
      rw [bindC_get ndP hp hu (by show scope.names.lookup y ≠ _; rw [k]; decide)] at q
      exact q
  · exact e0.hok.fresh (Nat.le_of_lt (x.above y c (PySem.mem_of_lookup h)))
  · unfold start
    show _ = N.length
    rw [List.length_append, List.length_map, List.length_replicate]
    omega

/-- THE RULE: a def (or a method) of the text, by its body. The body's reading t is chosen for each entry; it is run at the parameters' values -/
theorem fn_of {CX : CXT} {P : Program} {w : World} {K : PySem.W.Frag} {mg : Str → Option Value} {base : Heap} {k : Nat} {f : Addr} {name qual : Str} {params : Arguments} {body : List Stmt} {scope : Scope} {dV kV doc pm cdv ct oc : Value} {an od : Option Addr}
    {osl : Array (Option Value)} {N ps : List Str} {sp : Sp} (lk : K.lookup f = some ⟨oc, od, .func (PySem.W.fnOf name qual params body scope dV kV doc pm an cdv ct), osl⟩) (hcd : PySem.W.codeIn K cdv qual = true) (S : FnScope N ps scope)
    (len : ∀ vs H Q E, sp vs H Q E → vs.length = ps.length)
    (hbody : ∀ (A : Around) (outer : List Env) (s : Shared) (H : Hp) (vs : List V) (Q : VK) (E : XK), Room k (A.deeper (envOfC qual scope s.heap.objs.size f cdv)) → sp vs H Q E →
      ∃ t, PSs (cxOf CX P w K mg base N qual scope f cdv A outer s H E) body t ∧ t { nx := fun _ H' => Q .non H', rt := Q } (start N vs) H) :
    FnOk P w K mg base CX (k + 1) f (PySem.W.fnOf name qual params body scope dV kV doc pm an cdv ct) ps sp := by
  refine ⟨len, fun A outer s H args us vs Q E hr e0 hb r hsp => ?_⟩
  have hl := len _ _ _ _ hsp
  have KX : K.In s.heap := e0.mod.kin.keeps fun b o e => (e0.bs b o e).1
  have lim : s.heap.NoLimit := e0.mod.nolimit.keeps fun b o e => (e0.bs b o e).1
  have hkind : ∀ y ∈ ps.zip us, scope.names.lookup y.1 = some .local ∨ (scope.names.lookup y.1 = some .cell ∧ ((cellsFrom (s.heap.objs.size + 1) scope.names []).lookup y.1).isSome = true) := fun ⟨n, v⟩ hy => by
    rcases S.par n (List.of_mem_zip hy).1 with q | q
    · exact .inl q
    · exact .inr ⟨q, PySem.W.cellsFrom_some _ _ _ (.inl q)⟩
  refine codeAny_call_function hr.depth (KX _ _ lk) rfl S.co S.gen rfl (PySem.W.codeRec_of KX hcd) (hb _ _ _ _ ?_)
  refine wpAny_newFunctionEnv_cells S.kind hkind fun env he s1 x => ?_
  subst he
  refine ⟨lim.keeps x.toInCall.keep, codeAny_func ?_⟩
  obtain ⟨t, ht, hq⟩ := hbody A outer s H vs Q E (hr.deeper _) hsp
  have I : Inv (cxOf CX P w K mg base N qual scope f cdv A outer s H E) [] (start N vs) H s1 := inv_start S hr.hd e0 hl r x
  refine wpAny_mono (ht [] s1 (start N vs) H _ I hq) (fun fl s' hs => ?_) fun e s' hs => hs
  have fin : ∀ {σ' : St} {H' : Hp} {v : V} {u : Value}, Inv (cxOf CX P w K mg base N qual scope f cdv A outer s H E) [] σ' H' s' → RelV v u → Q v H' → CE outer P w H s Q u s' :=
    fun {σ' H' v u} J rv q => ⟨v, H', J.os, J.bare, J.base, J.hok, rv, q⟩
  cases fl with
  | ret u =>
    obtain ⟨v, σ', H', J, rv, q⟩ := hs
    exact fin J rv q
  | next =>
    obtain ⟨σ', H', J, q⟩ := hs
    exact fin (v := V.non) (u := Value.none) J rfl q
  | brk =>
    obtain ⟨_, _, _, q⟩ := hs
    exact False.elim q
  | cont =>
    obtain ⟨_, _, _, q⟩ := hs
    exact False.elim q
end L2

namespace L2
open PySem PySem.Spec PyProof.Rows
section
variable {X : Cx} {x : Str} {p pos : Pos} {e : Expr} {es : List Expr} {t : TA} {id T : String} {r : List V → Hp → VK → Prop}

noncomputable def tCB (r : List V → Hp → VK → Prop) (t : TA) : TE := fun σ H Q => t σ H fun vs H1 => r vs H1 Q
/-- f(e, ..), f a built-in function -/
theorem pe_callB (hc : CallR X (.builtin id) r) (hg : Gl X x) (hm : X.mg x = none) (hv : bootBuiltins x = some (.builtin id)) (ha : PA X (e :: es) t) (hn : x ≠ "__name__" := by decide) (hdb : (x == ("__debug__" : Str)) = false := by decide)
    (he : starEach (e :: es) X.env = (false, eval e X.env) :: starEach es X.env := by rfl) (hpl : (backTo pos (starEach es X.env)).any (·.1) = false := by rfl) : PE X (.Call (.Name x p) (e :: es) [] pos) (tCB r t) := by
  intro pins s σ H Q I h
  refine wpAny_Call_Name_kw (ld_blt I hg hm hv ?_ hn hdb)
  exact PyProof.Rows.callWith_builtin1 (thn (ha pos pins s σ H _ I h) fun us s1 ⟨vs, H1, I1, r1, q1⟩ => hc pins s1 σ H1 vs us Q I1 r1 q1) he hpl
/-- T(e, ..), T a built-in type -/
theorem pe_callTy (hc : CallR X (.type T) r) (hg : Gl X x) (hm : X.mg x = none) (hv : bootBuiltins x = some (.type T)) (ha : PA X (e :: es) t) (hn : x ≠ "__name__" := by decide) (hdb : (x == ("__debug__" : Str)) = false := by decide)
    (he : starEach (e :: es) X.env = (false, eval e X.env) :: starEach es X.env := by rfl) (hpl : (backTo pos (starEach es X.env)).any (·.1) = false := by rfl) : PE X (.Call (.Name x p) (e :: es) [] pos) (tCB r t) := by
  intro pins s σ H Q I h
  refine wpAny_Call_Name_kw (ld_blt I hg hm hv ?_ hn hdb)
  exact PyProof.Rows.callWith_type1 (thn (ha pos pins s σ H _ I h) fun us s1 ⟨vs, H1, I1, r1, q1⟩ => hc pins s1 σ H1 vs us Q I1 r1 q1) he hpl
end
end L2

namespace HT
open PySem PyProof.Rows

section
open PySem.SeqAt
open PySem.AutoSeq1 (wpAny_loadPart')
open PySem.MeetsSeq PySem.MeetsSeq2 PySem.MeetsSeq3

end

section
variable {prog : Program} {w : World} {A : Around} {E : Value → Shared → Prop} {s : Shared}

/-! ### t[a:b], not the whole -/
/-- a slice's bound as a place among n (d where it is left out) -/
noncomputable def sIx (n d : Nat) : Option Int → Nat
  | none => d
  | some v => if v < 0 then (v + (n : Int)).toNat else min v.toNat n
theorem sIx_none (n d : Nat) : sIx n d none = d := rfl
theorem sIx_nat (n d k : Nat) : sIx n d (some (k : Int)) = min k n := by
  show (if (k : Int) < 0 then ((k : Int) + (n : Int)).toNat else min (k : Int).toNat n) = min k n
  rw [if_neg (by omega), Int.toNat_natCast]
theorem sIx_le (n d : Nat) (hd : d ≤ n) (o : Option Int) : sIx n d o ≤ n := by
  cases o with
  | none => exact hd
  | some v =>
    show (if v < 0 then (v + (n : Int)).toNat else min v.toNat n) ≤ n
    by_cases hv : v < 0
    · rw [if_pos hv]; omega
    · rw [if_neg hv]; exact Nat.min_le_right _ _
theorem clip_eq (v : Int) (n d : Nat) : (if v < 0 then max (v + (n : Int)) 0 else min v (n : Int)) = ((sIx n d (some v) : Nat) : Int) := by
  show (if v < 0 then max (v + (n : Int)) 0 else min v (n : Int)) = (((if v < 0 then (v + (n : Int)).toNat else min v.toNat n) : Nat) : Int)
  by_cases hv : v < 0
  · simp only [if_pos hv]; omega
  · simp only [if_neg hv]; omega
theorem adjust_gen (lo hi : Option Int) (n : Nat) : Builtin.Slice.sliceAdjust lo hi 1 (n : Int) = (((sIx n 0 lo : Nat) : Int), ((sIx n n hi : Nat) : Int)) := by
  have h1 : ¬ ((1 : Int) < 0) := by omega
  unfold Builtin.Slice.sliceAdjust
  simp only [h1, if_false]
  refine Prod.ext ?_ ?_
  · cases lo with
    | none => rfl
    | some v => exact clip_eq v n 0
  · cases hi with
    | none => rfl
    | some v => exact clip_eq v n n
theorem places_gen (i j : Nat) : Builtin.Slice.slicePlaces (i : Int) (j : Int) 1 = j - i := by
  unfold Builtin.Slice.slicePlaces
  have h1 : (1 : Int) > 0 := by omega
  simp only [h1, if_true, Int.ediv_one]
  split <;> omega
theorem slicePart_ {v : Value} {o : Option Int} {Q : Option Int → Shared → Prop} (p : IsPart v o) (h : Q o s) : wpAny (model prog w) A (Builtin.Slice.slicePartIndex v) Q E s := by
  cases p with
  | none => exact slicePart_none h
  | int i t => exact slicePart_int h
theorem sliceApplied_gen {sl : Addr} {vl vu : Value} {lo hi : Option Int} {n : Nat} {Q : Int × Int × Nat → Shared → Prop} (hs : s.heap.IsSliceOf sl vl vu .none) (pl : IsPart vl lo) (pu : IsPart vu hi)
    (h : Q (((sIx n 0 lo : Nat) : Int), 1, sIx n n hi - sIx n 0 lo) s) : wpAny (model prog w) A (Builtin.Slice.sliceApplied (.ref sl) (pure (n : Int))) Q E s := by
  obtain ⟨os, hos, hcs, hds⟩ := id hs
  unfold Builtin.Slice.sliceApplied Builtin.Slice.sliceFields
  refine wpAny_bind (wpAny_bind (wpAny_field hos hds (x := vl) rfl (wpAny_bind (wpAny_field hos hds (x := vu) rfl (wpAny_bind (wpAny_field hos hds (x := .none) rfl (wpAny_pure ?_)))))))
  refine wpAny_bind (slicePart_none ?_)
  show wpAny _ _ (if ((1 : Int) == 0) = true then _ else _) _ _ s
  rw [if_neg (by decide)]
  refine wpAny_bind (slicePart_ pl (wpAny_bind (slicePart_ pu (wpAny_bind (wpAny_pure ?_)))))
  show wpAny _ _ (match Builtin.Slice.sliceAdjust lo hi 1 (n : Int) with | (lo, hi) => pure (lo, (1 : Int), Builtin.Slice.slicePlaces lo hi 1)) _ _ s
  rw [adjust_gen lo hi n]
  show wpAny _ _ (pure (((sIx n 0 lo : Nat) : Int), (1 : Int), Builtin.Slice.slicePlaces ((sIx n 0 lo : Nat) : Int) ((sIx n n hi : Nat) : Int) 1)) _ _ s
  rw [places_gen]
  exact wpAny_pure h
theorem pick_gen (xs : Array Value) (i k : Nat) : ((List.range k).filterMap fun (m : Nat) => xs[((i : Int) + (m : Int) * 1).toNat]?).toArray = ((xs.toList.drop i).take k).toArray := by
  have e : (fun (m : Nat) => xs[((i : Int) + (m : Int) * 1).toNat]?) = fun m => xs[i + m]? := by
    funext m
    have : ((i : Int) + (m : Int) * 1).toNat = i + m := by omega
    rw [this]
  rw [e]
  have := pick_run xs i k
  rw [List.filterMap_map] at this
  have e2 : ((fun x => xs[x]?) ∘ fun x => i + x) = fun m => xs[i + m]? := rfl
  rw [e2] at this
  rw [this]

theorem getItem_tuple_cut {t sl : Addr} {items : Array Value} {vl vu : Value} {lo hi : Option Int} {Q : Value → Shared → Prop} (ht : IsTup s.heap t items) (hs : s.heap.IsSliceOf sl vl vu .none) (pl : IsPart vl lo) (pu : IsPart vu hi)
    (hw : ¬ (sIx items.size 0 lo = 0 ∧ sIx items.size items.size hi = items.size))
    (h : Q (.ref s.heap.objs.size) { s with heap := s.heap.push { cls := .type "tuple", data := .seq ((items.toList.drop (sIx items.size 0 lo)).take (sIx items.size items.size hi - sIx items.size 0 lo)).toArray } })
    (hsz : items.size ≤ sizeLine) : wpAny (model prog w) A (getItem (.ref t) (.ref sl)) Q E s := by
  have htake : sizeOk (.seq ((items.toList.drop (sIx items.size 0 lo)).take (sIx items.size items.size hi - sIx items.size 0 lo)).toArray) := by
    show ((items.toList.drop (sIx items.size 0 lo)).take (sIx items.size items.size hi - sIx items.size 0 lo)).toArray.size ≤ sizeLine
    rw [List.size_toArray, List.length_take, List.length_drop, Array.length_toList]
    omega
  have hj : sIx items.size items.size hi ≤ items.size := sIx_le _ _ (Nat.le_refl _) hi
  obtain ⟨os, hos, hcs, hds⟩ := id hs
  have hTs : s.TypeIs (.ref sl) "slice" := ⟨os, hos, hcs⟩
  unfold getItem
  try with_reducible refine wpAny_holding ?_
  first | refine wpAny_bind (wpAny_pure ?_) | skip
  refine wpAny_bind (wpAny_sequenceKey ht.typeIs (by decide) ?_)
  refine wpAny_bind (wpAny_callSpecial?_slot (name := Str.ofString "__getitem__") ht.typeIs PyProof.Rows.slot_tuple_getitem
    (wpAny_call_entry PyProof.Rows.slot_tuple_getitem ht.typeIs entry_tuple_getitem ?_ (args_tuple_getitem _ _)))
  show wpAny _ _ (Builtin.Tuple.tupleItemsOf (.ref t) >>= _) _ _ s
  refine wpAny_bind (tupleItemsOf_ ht ?_)
  refine wpAny_bind (wpAny_typeOf hTs ?_)
  rw [if_pos (by decide)]
  refine wpAny_bind (sliceApplied_gen hs pl pu ?_)
  have hno : ¬ ((((sIx items.size 0 lo : Nat) : Int) == 0 && (1 : Int) == 1 && (sIx items.size items.size hi - sIx items.size 0 lo) == items.size) = true) := by
    intro q
    rw [Bool.and_eq_true, Bool.and_eq_true] at q
    have q1 : ((sIx items.size 0 lo : Nat) : Int) = 0 := eq_of_beq q.1.1
    have q2 : sIx items.size items.size hi - sIx items.size 0 lo = items.size := eq_of_beq q.2
    exact hw ⟨by omega, by omega⟩
  show wpAny _ _ (if (((sIx items.size 0 lo : Nat) : Int) == 0 && (1 : Int) == 1 && (sIx items.size items.size hi - sIx items.size 0 lo) == items.size) = true then _ else _) _ _ s
  rw [if_neg hno, pick_gen]
  first
    | exact wpAny_bind (m := Builtin.Tuple.tupleExact _) (wpAny_newObj_type (wpAny_pure ⟨_, rfl, wpAny_pure h⟩) htake)
    | exact wpAny_bind (m := Builtin.Tuple.tupleExact _) (wpAny_newObj_type (wpAny_bind (wpAny_pure (wpAny_pure ⟨_, rfl, wpAny_pure h⟩))) htake)
    | exact wpAny_bind (wpAny_bind (m := Builtin.Tuple.tupleExact _) (wpAny_newObj_type (wpAny_pure (wpAny_pure ⟨_, rfl, wpAny_pure h⟩)) htake))
    | exact wpAny_bind (wpAny_bind (m := Builtin.Tuple.tupleExact _) (wpAny_newObj_type (wpAny_pure ⟨_, rfl, wpAny_pure h⟩) htake))
end
end HT

namespace L2
open PySem PySem.Spec PyProof.Rows

/-! ### the parts of a slice -/
noncomputable abbrev TO := St → Hp → (Option Int → Hp → Prop) → Prop
/-- a slice's part (left out, or an int) -/
noncomputable def PO (X : Cx) (e : Option Expr) (t : TO) : Prop :=
  ∀ (pins : List (Addr × Obj)) (s : Shared) (σ : St) (H : Hp) (Q : Option Int → Hp → Prop), Inv X pins σ H s → t σ H Q →
    wpAny (model X.prog X.w) X.A (evalPart e X.env) (fun u s' => ∃ o H', Inv X pins σ H' s' ∧ IsPart u o ∧ Q o H') X.xe s
noncomputable def tNoPart : TO := fun _ H Q => Q none H
noncomputable def tPart (t : TE) : TO := fun σ H Q => t σ H fun x H1 => ∃ i, x = .int i ∧ Q (some i) H1

section
variable {X : Cx} {e : Expr} {te : TE} {lo hi : Option Expr} {tl th : TO} {pos p2 : Pos}

theorem po_none : PO X none tNoPart := by
  intro pins s σ H Q I h
  rw [evalPart_none]
  exact wpAny_pure ⟨none, H, I, .none, h⟩
theorem po_some (h : PE X e te) : PO X (some e) (tPart te) := by
  intro pins s σ H Q I hw
  rw [evalPart_some]
  refine thn (h pins s σ H _ I hw) fun u s1 ⟨x, H1, I1, r1, q1⟩ => ?_
  obtain ⟨i, rfl, q⟩ := q1
  obtain ⟨t, rfl⟩ := r1
  exact ⟨some i, H1, I1, .int i t, q⟩

/-- what a slice of a value is, by values: the slice object stands at sl -/
noncomputable def SlR (X : Cx) (r : V → Option Int → Option Int → Hp → VK → Prop) : Prop :=
  ∀ (pins : List (Addr × Obj)) (s : Shared) (σ : St) (H : Hp) (x : V) (v vl vu : Value) (lo hi : Option Int) (sl : Addr) (Q : VK), Inv X pins σ H s → RelV x v → s.heap.IsSliceOf sl vl vu .none → IsPart vl lo → IsPart vu hi → r x lo hi H Q →
    ∃ T id, typeLookup (.type T) "__getitem__" = pure (some (.builtin id)) ∧ s.TypeIs v T ∧ wpAny (model X.prog X.w) X.A (getItem v (.ref sl)) (EP X pins σ Q) X.xe s
theorem SlR.or {r r' : V → Option Int → Option Int → Hp → VK → Prop} (h : SlR X r) (h' : SlR X r') : SlR X (fun x lo hi H Q => r x lo hi H Q ∨ r' x lo hi H Q) := by
  intro pins s σ H x v vl vu lo hi sl Q I rx hs pl pu q
  rcases q with q | q
  · exact h pins s σ H x v vl vu lo hi sl Q I rx hs pl pu q
  · exact h' pins s σ H x v vl vu lo hi sl Q I rx hs pl pu q
noncomputable def tSl (r : V → Option Int → Option Int → Hp → VK → Prop) (te : TE) (tl th : TO) : TE := fun σ H Q => te σ H fun x H1 => tl σ H1 fun l H2 => th σ H2 fun u H3 => r x l u H3 Q
/-- a[lo:hi], any a -/
theorem pe_slice {r : V → Option Int → Option Int → Hp → VK → Prop} (hr : SlR X r) (he : PE X e te) (hl : PO X lo tl) (hu : PO X hi th) : PE X (.Subscript e (.Slice lo hi none p2) pos) (tSl r te tl th) := by
  intro pins s σ H Q I h
  refine Subscript_ (thn (he pins s σ H _ I h) fun v s1 ⟨x, H1, I1, r1, q1⟩ => ?_)
  refine wpAny_Slice (thn (hl pins s1 σ H1 _ I1 q1) fun vl s2 ⟨l, H2, I2, pl, q2⟩ => thn (hu pins s2 σ H2 _ I2 q2) fun vu s3 ⟨u, H3, I3, pu, q3⟩ => ?_)
  rw [evalPart_none]
  refine wpAny_pure ?_
  have I4 : Inv X pins σ H3 { s3 with heap := s3.heap.push { cls := .type "slice", data := .fields #[vl, vu, .none] } } := I3.kept (t' := s3.toks) fun b ob q => Heap.get?_push_of_some _ q
  obtain ⟨T, id, hT, ht, hg⟩ := hr pins { s3 with heap := s3.heap.push { cls := .type "slice", data := .fields #[vl, vu, .none] } } σ H3 x v vl vu l u s3.heap.objs.size Q I4 r1 (Heap.IsSliceOf.new ..) pl pu q3
  show wpAny (model X.prog X.w) X.A (subscriptTail e (.Slice lo hi none p2) v (.ref s3.heap.objs.size)) (EP X pins σ Q) X.xe { s3 with heap := s3.heap.push { cls := .type "slice", data := .fields #[vl, vu, .none] } }
  exact tail_any (ops := [.ref s3.heap.objs.size, v]) ht hT hg (by with_unfolding_all rfl)

/-- the items of xs[lo:hi] -/
noncomputable def cutV (xs : List V) (lo hi : Option Int) : List V := (xs.drop (HT.sIx xs.length 0 lo)).take (HT.sIx xs.length xs.length hi - HT.sIx xs.length 0 lo)
theorem cutV_length (xs : List V) (lo hi : Option Int) : (cutV xs lo hi).length ≤ xs.length := by
  unfold cutV
  rw [List.length_take, List.length_drop]
  omega
/-- t[lo:hi], not the whole of it (the whole would be t itself) -/
noncomputable def rSlT (K : PySem.W.Frag) : V → Option Int → Option Int → Hp → VK → Prop := fun x lo hi H Q => ∃ a xs, x = .ref a ∧ SqT K H a xs ∧
  ¬ (HT.sIx xs.length 0 lo = 0 ∧ HT.sIx xs.length xs.length hi = xs.length) ∧ ∀ p, H p = none → Q (.ref p) (upd H p (.tup (cutV xs lo hi)))
theorem sl_tup : SlR X (rSlT X.K) := by
  intro pins s σ H x v vl vu lo hi sl Q I rx hs pl pu h
  obtain ⟨a, xs, rfl, hx, hw, q⟩ := h
  cases rx
  obtain ⟨its, r, ht, hz⟩ := I.tuple hx
  have hlen : its.toArray.size = xs.length := by rw [List.size_toArray]; exact r.length.symm
  refine ⟨"tuple", _, PyProof.Rows.slot_tuple_getitem.lookup, ht.typeIs, ?_⟩
  refine HT.getItem_tuple_cut ht hs pl pu (by rw [hlen]; exact hw) ?_ (by rw [hlen]; exact hz)
  rw [hlen]
  refine ⟨.ref s.heap.objs.size, _, I.laid (t' := s.toks) (o := .tup (cutV xs lo hi)) (fun b ob q => Heap.get?_push_of_some _ q) (Nat.le_refl _) ?_, rfl, q _ (I.hok.fresh (Nat.le_refl _))⟩
  exact ⟨Nat.le_trans (cutV_length xs lo hi) hz, _, (r.drop (HT.sIx xs.length 0 lo)).take (HT.sIx xs.length xs.length hi - HT.sIx xs.length 0 lo), IsTup.new _ _⟩

/-! ### t < u, t + u -/
end
end L2

namespace L2
open PySem PySem.Spec PyProof.Rows

/-! ### places -/
/-- the place that an index of any sign means -/
noncomputable def ixN (n : Nat) (i : Int) : Option Nat := if 0 ≤ i then (if i < n then some i.toNat else none) else if -(n : Int) ≤ i then some (i + n).toNat else none
noncomputable def atI {α : Type} (xs : List α) (i : Int) : Option α := (ixN xs.length i).bind fun j => xs[j]?
theorem ixN_seq {n : Nat} {i : Int} {j : Nat} (h : ixN n i = some j) : seqIndex? i n = some j ∧ j < n ∧ -(n : Int) ≤ i ∧ i < n := by
  unfold ixN at h
  by_cases h0 : 0 ≤ i
  · rw [if_pos h0] at h
    by_cases h1 : i < n
    · rw [if_pos h1] at h
      have e : i.toNat = j := Option.some.inj h
      exact ⟨by rw [seqIndex_of h0 h1, e], by omega, by omega, h1⟩
    · rw [if_neg h1] at h; cases h
  · rw [if_neg h0] at h
    by_cases h1 : -(n : Int) ≤ i
    · rw [if_pos h1] at h
      have e : (i + n).toNat = j := Option.some.inj h
      exact ⟨by rw [seqIndex_neg (by omega) h1, e], by omega, h1, by omega⟩
    · rw [if_neg h1] at h; cases h
theorem atI_get {α : Type} {xs : List α} {i : Int} {v : α} (h : atI xs i = some v) : ∃ j, seqIndex? i xs.length = some j ∧ xs[j]? = some v ∧ j < xs.length ∧ -(xs.length : Int) ≤ i ∧ i < xs.length := by
  unfold atI at h
  cases e : ixN xs.length i with
  | none => rw [e] at h; cases h
  | some j =>
    rw [e] at h
    obtain ⟨h1, h2, h3, h4⟩ := ixN_seq e
    exact ⟨j, h1, h, h2, h3, h4⟩
theorem atI_nat {α : Type} {xs : List α} {j : Nat} {v : α} (h : xs[j]? = some v) : atI xs (j : Int) = some v := by
  have hj : j < xs.length := (List.getElem?_eq_some_iff.mp h).1
  have e : ixN xs.length (j : Int) = some j := by
    unfold ixN
    rw [if_pos (by omega), if_pos (by omega)]; simp
  unfold atI; rw [e]; exact h
/-! ### what may be subscripted -/
/-- what stands as an index of a plain subscript -/
noncomputable def PlainIx (b : Expr) : Prop := ∀ o i, subscripted b false o i = operate [o, i] (getItem o i)
/-- a subscript by values -/
noncomputable def IxR (X : Cx) (r : R2) : Prop :=
  ∀ (value slice : Expr) (pins : List (Addr × Obj)) (s : Shared) (σ : St) (H : Hp) (x y : V) (v u : Value) (Q : VK), Inv X pins σ H s → RelV x v → RelV y u → r x y H Q →
    subscripted slice false v u = operate [v, u] (getItem v u) → wpAny (model X.prog X.w) X.A (subscriptTail value slice v u) (EP X pins σ Q) X.xe s
/-- a call of a builtin's method by values: the receiver, the arguments -/
noncomputable def MtR (X : Cx) (id : String) (r : V → List V → Hp → VK → Prop) : Prop :=
  ∀ (pins : List (Addr × Obj)) (s : Shared) (σ : St) (H : Hp) (x : V) (xs : List V) (v : Value) (us : List Value) (Q : VK), Inv X pins σ H s → RelV x v → Vals xs us → r x xs H Q →
    wpAny (model X.prog X.w) X.A (call (.builtin id) (v :: us)) (EP X pins σ Q) X.xe s
section
variable {X : Cx} {a b : Expr} {ta tb : TE} {pos : Pos}
theorem IxR.or {r r' : R2} (h : IxR X r) (h' : IxR X r') : IxR X (fun x y H Q => r x y H Q ∨ r' x y H Q) := by
  intro value slice pins s σ H x y v u Q I rx ry q hs
  rcases q with q | q
  · exact h value slice pins s σ H x y v u Q I rx ry q hs
  · exact h' value slice pins s σ H x y v u Q I rx ry q hs
theorem MtR.or {id : String} {r r' : V → List V → Hp → VK → Prop} (h : MtR X id r) (h' : MtR X id r') : MtR X id (fun x xs H Q => r x xs H Q ∨ r' x xs H Q) := by
  intro pins s σ H x xs v us Q I rx rs q
  rcases q with q | q
  · exact h pins s σ H x xs v us Q I rx rs q
  · exact h' pins s σ H x xs v us Q I rx rs q
/-- a[b] -/
theorem pe_ix {r : R2} (hr : IxR X r) (ha : PE X a ta) (hb : PE X b tb) (hs : PlainIx b) : PE X (.Subscript a b pos) (tOp r ta tb) := by
  intro pins s σ H Q I h
  exact Subscript_ (binT ha hb I h fun v u s2 x y H2 I2 rx ry q => hr a b pins s2 σ H2 x y v u Q I2 rx ry q (hs _ _))

inductive rIxL (K : PySem.W.Frag) (x y : V) (H : Hp) (Q : VK) : Prop
  | mk (p : Addr) (xs : List V) (i : Int) (v : V) (h0 : x = .ref p) (h1 : y = .int i) (h2 : SqL K H p xs) (h3 : atI xs i = some v) (h4 : Q v H) : rIxL K x y H Q
inductive rIxT (K : PySem.W.Frag) (x y : V) (H : Hp) (Q : VK) : Prop
  | mk (p : Addr) (xs : List V) (i : Int) (v : V) (h0 : x = .ref p) (h1 : y = .int i) (h2 : SqT K H p xs) (h3 : atI xs i = some v) (h4 : Q v H) : rIxT K x y H Q
noncomputable def rIxS : R2 := fun x y H Q => ∃ z i c, x = .str z ∧ y = .int i ∧ z.length ≤ sizeLine ∧ atI z.cps.toList i = some c ∧ Q (.str ⟨#[c]⟩) H
theorem ix_list : IxR X (rIxL X.K) := by
  intro value slice pins s σ H x y v u Q I rx ry h hs
  obtain ⟨p, xs, i, z, rfl, rfl, hq, he, q⟩ := h
  cases rx
  obtain ⟨t, rfl⟩ := ry
  obtain ⟨its, r, pl, hz⟩ := I.list hq
  obtain ⟨j, h1, h2, h3, h4, h5⟩ := atI_get he
  obtain ⟨w, ew, rw'⟩ := r.get h2
  have hl := r.length
  have hn := line63
  have fin : EP X pins σ Q w s := ⟨z, H, I, rw', q⟩
  by_cases h0 : 0 ≤ i
  · have hj : i.toNat = j := by
      rw [seqIndex_of h0 h5] at h1
      exact Option.some.inj h1
    exact item_listR pl.isList h0 (by omega) (by rw [hj]; simpa using ew) fin hs
  · have hj : (i + (its.toArray.size : Int)).toNat = j := by
      rw [seqIndex_neg (by omega) h4] at h1
      rw [List.size_toArray, ← hl]
      exact Option.some.inj h1
    exact subscriptTail_builtinR (x := w) pl.isList.typeIs slot_list_getitem.lookup
      (wpAny_getItem_list_neg (Q := fun r s' => r = w ∧ EP X pins σ Q r s') pl.isList (by omega) (by rw [List.size_toArray] <;> omega) (by omega) (by rw [hj]; simpa using ew) ⟨rfl, fin⟩) hs
theorem ix_tup : IxR X (rIxT X.K) := by
  intro value slice pins s σ H x y v u Q I rx ry h hs
  obtain ⟨p, xs, i, z, rfl, rfl, hq, he, q⟩ := h
  cases rx
  obtain ⟨t, rfl⟩ := ry
  obtain ⟨its, r, pl, hz⟩ := I.tuple hq
  obtain ⟨j, h1, h2, h3, h4, h5⟩ := atI_get he
  obtain ⟨w, ew, rw'⟩ := r.get h2
  have hl := r.length
  have hn := line63
  have fin : EP X pins σ Q w s := ⟨z, H, I, rw', q⟩
  exact subscriptTail_builtinR (x := w) pl.typeIs slot_tuple_getitem.lookup
    (getItem_tuple (j := j) (Q := fun r s' => r = w ∧ EP X pins σ Q r s') pl (by omega) (by omega) (by rw [List.size_toArray, ← hl]; exact h1) (by simpa using ew) ⟨rfl, fin⟩) hs
theorem ix_str : IxR X rIxS := by
  intro value slice pins s σ H x y v u Q I rx ry h hs
  obtain ⟨z, i, c, rfl, rfl, hz, he, q⟩ := h
  obtain ⟨t, rfl⟩ := rx
  obtain ⟨t', rfl⟩ := ry
  obtain ⟨j, h1, h2, h3, h4, h5⟩ := atI_get he
  have hl : z.cps.toList.length = z.length := by simp [Str.length]
  rw [hl] at h1 h4 h5
  have hn := line63
  exact tail_any (typeIs_str s z t) slot_str_getitem.lookup (getItem_str (c := c) (by
    have e1 : decide (i < -(2 ^ 63 : Int)) = false := decide_eq_false (by omega)
    have e2 : decide (i ≥ 2 ^ 63) = false := decide_eq_false (by omega)
    rw [e1, e2, Bool.or_false]) (by rw [h1]; simpa using h2) ⟨.str ⟨#[c]⟩, H, I.tok _, ⟨_, rfl⟩, q⟩) hs
/-- list, tuple or str -/
noncomputable def rIx (K : PySem.W.Frag) : R2 := fun x y H Q => rIxL K x y H Q ∨ rIxT K x y H Q ∨ rIxS x y H Q
theorem ix_seq : IxR X (rIx X.K) := ix_list.or (ix_tup.or ix_str)

/-! ### xs[i] = v, any sign -/
/-- the list's object behind a store -/
theorem mapSeq_set (its : List Value) (n j : Nat) (u : Value) : Obj.mapSeq (·.setIfInBounds j u) { cls := .type "list", data := .seq its.toArray n } = { cls := .type "list", data := .seq (its.set j u).toArray n } := by
  simp [Obj.mapSeq]
theorem Inv.lst {pins : List (Addr × Obj)} {σ : St} {H : Hp} {s : Shared} {p : Addr} {xs : List V} (I : Inv X pins σ H s) (h : H p = some (.lst xs)) :
    ∃ (its : List Value) (n : Nat), Vals xs its ∧ s.heap.get? p = some { cls := .type "list", data := .seq its.toArray n } ∧ xs.length ≤ sizeLine := by
  obtain ⟨z, its, n, r, e⟩ := I.hok p _ h
  exact ⟨its, n, r, e, z⟩
/-- the list at p is written by an update of its object -/
theorem Inv.lstUpd {pins : List (Addr × Obj)} {σ : St} {H : Hp} {s : Shared} {p : Addr} {xs ys : List V} {its its' : List Value} {n n' : Nat} {f : Obj → Obj} (I : Inv X pins σ H s) (h : H p = some (.lst xs))
    (ho : s.heap.get? p = some { cls := .type "list", data := .seq its.toArray n }) (hf : f { cls := .type "list", data := .seq its.toArray n } = { cls := .type "list", data := .seq its'.toArray n' }) (r : Vals ys its') (hz : ys.length ≤ sizeLine) (t : Nat) :
    Inv X pins σ (upd H p (.lst ys)) { s with heap := s.heap.update p f, toks := t } := by
  have e : (s.heap.update p f).get? p = some { cls := .type "list", data := .seq its'.toArray n' } := by
    rw [Heap.get?_update_self f ho (by rw [hf] <;> rfl), hf]
  refine I.write (x := p) (e := p) (by rw [h]; trivial) (.inl rfl) (fun b u hb q => (Heap.get?_update_other _ _ (Ne.symm hb)).trans q) ⟨_, e⟩ ?_
  exact ⟨hz, its', n', r, e⟩
noncomputable def rSetL : V → V → V → Hp → (Hp → Prop) → Prop := fun o i v H Q => ∃ p xs k j, o = .ref p ∧ i = .int k ∧ H p = some (.lst xs) ∧ ixN xs.length k = some j ∧ Q (upd H p (.lst (xs.set j v)))
theorem set_list : PSet X rSetL := by
  intro pins s σ H o i v ov iv u Q I ro ri rv h
  obtain ⟨p, xs, k, j, rfl, rfl, hp, hj, q⟩ := h
  cases ro
  obtain ⟨t, rfl⟩ := ri
  obtain ⟨its, n, r, ho, hz⟩ := I.lst hp
  obtain ⟨h1, h2, h3, h4⟩ := ixN_seq hj
  have hl := r.length
  have hn := line63
  have I' : Inv X pins σ (upd H p (.lst (xs.set j v))) { s with heap := s.heap.update p (Obj.mapSeq (·.setIfInBounds j u)) } :=
    I.lstUpd hp ho (mapSeq_set its n j u) (r.set rv j) (by rw [List.length_set]; exact hz) s.toks
  by_cases h0 : 0 ≤ k
  · have hk : k.toNat = j := by
      rw [seqIndex_of h0 h4] at h1
      exact Option.some.inj h1
    exact PySem.W.ki_setAt ho h0 (by omega) (by rw [List.size_toArray, ← hl]; exact h4) (by rw [hk]; exact ⟨_, I', q⟩)
  · have hk : (k + (its.toArray.size : Int)).toNat = j := by
      rw [seqIndex_neg (by omega) h3] at h1
      rw [List.size_toArray, ← hl]
      exact Option.some.inj h1
    exact PySem.W.ki_setBack ho (by omega) (by rw [List.size_toArray, ← hl]; exact h3) (by omega) (by rw [hk]; exact ⟨_, I', q⟩)

/-! ### slices -/
theorem slice_bounds (lo hi : Option Int) (n : Nat) : (sliceBounds lo hi none n).1 = ((HT.sIx n 0 lo : Nat) : Int) ∧ (sliceBounds lo hi none n).2.1 = ((HT.sIx n n hi : Nat) : Int) ∧ (sliceBounds lo hi none n).2.2 = 1 := by
  refine ⟨?_, ?_, rfl⟩
  · cases lo with
    | none => simp [sliceBounds, HT.sIx]
    | some i =>
      simp only [sliceBounds, HT.sIx, Option.getD_none, show (1 : Int) > 0 by decide, if_true]
      by_cases h : i < 0
      · simp only [h, if_true] <;> omega
      · simp only [h, if_false] <;> omega
  · cases hi with
    | none => simp [sliceBounds, HT.sIx]
    | some i =>
      simp only [sliceBounds, HT.sIx, Option.getD_none, show (1 : Int) > 0 by decide, if_true]
      by_cases h : i < 0
      · simp only [h, if_true] <;> omega
      · simp only [h, if_false] <;> omega
theorem slicePick_cut (its : List Value) (lo hi : Option Int) : slicePick its.toArray lo hi none = ((its.drop (HT.sIx its.length 0 lo)).take (HT.sIx its.length its.length hi - HT.sIx its.length 0 lo)).toArray := by
  obtain ⟨h1, h2, h3⟩ := slice_bounds lo hi its.toArray.size
  unfold slicePick
  rw [h1, h2, h3]
  simp only [sliceRange_one, pick_run, List.size_toArray] <;> rfl
/-- xs[lo:hi] of a list: a new list -/
noncomputable def rSlL (K : PySem.W.Frag) : V → Option Int → Option Int → Hp → VK → Prop := fun x lo hi H Q => ∃ a xs, x = .ref a ∧ SqL K H a xs ∧ ∀ p, H p = none → Q (.ref p) (upd H p (.lst (cutV xs lo hi)))
theorem sl_list : SlR X (rSlL X.K) := by
  intro pins s σ H x v vl vu lo hi sl Q I rx hs pl pu h
  obtain ⟨a, xs, rfl, hx, q⟩ := h
  cases rx
  obtain ⟨its, r, ht, hz⟩ := I.list hx
  have hlen := r.length
  refine ⟨"list", _, slot_list_getitem.lookup, ht.isList.typeIs, ?_⟩
  refine wpAny_getItem_list_slice ht.isList hs pl pu .none (by simp) ?_ (by rw [List.size_toArray] <;> omega)
  rw [slicePick_cut, ← hlen]
  refine ⟨.ref s.heap.objs.size, _, I.laid (t' := s.toks) (o := .lst (cutV xs lo hi)) (fun b ob q => Heap.get?_push_of_some _ q) (Nat.le_refl _) ?_, rfl, q _ (I.hok.fresh (Nat.le_refl _))⟩
  exact ⟨Nat.le_trans (cutV_length xs lo hi) hz, _, 0, (r.drop (HT.sIx xs.length 0 lo)).take (HT.sIx xs.length xs.length hi - HT.sIx xs.length 0 lo), Heap.get?_push_size _ rfl⟩

/-! ### in, not in: flat items -/
noncomputable def flatV : V → Bool
  | .non => true
  | .bl _ => true
  | .int _ => true
  | .str _ => true
  | _ => false
/-- == of flat values -/
noncomputable def eqV : V → V → Bool
  | .non, .non => true
  | .bl a, .bl b => a == b
  | .bl a, .int b => (if a then 1 else 0) == b
  | .int a, .bl b => a == (if b then 1 else 0)
  | .int a, .int b => a == b
  | .str a, .str b => a == b
  | _, _ => false
noncomputable def inV (x : V) (xs : List V) : Bool := xs.any fun y => eqV y x
/-- x in a list or tuple of flat items -/
inductive rIn (K : PySem.W.Frag) (neg : Bool) (x y : V) (H : Hp) (Q : VK) : Prop
  | mk (p : Addr) (xs : List V) (h0 : y = .ref p) (h1 : SqL K H p xs ∨ SqT K H p xs) (h2 : flatV x = true) (h3 : xs.all flatV = true) (h4 : Q (.bl (if neg then !inV x xs else inV x xs)) H) : rIn K neg x y H Q
/-! ### len, list(x), tuple(x) of any list or tuple that is read -/
theorem call_len_seq : CallR X (.builtin "len") (fun xs H Q => ∃ p ys, xs = [.ref p] ∧ (SqL X.K H p ys ∨ SqT X.K H p ys) ∧ Q (.int ys.length) H) := by
  intro pins s σ H xs us Q I r h
  obtain ⟨p, ys, rfl, hq, q⟩ := h
  obtain ⟨u, rfl, rx⟩ := vals1 r
  cases rx
  have hn := line63
  rcases hq with hq | hq
  · obtain ⟨its, r', pl, hz⟩ := I.list hq
    have hlen := r'.length
    exact Calls.call_len_list pl.isList (by simp only [List.size_toArray] <;> omega) ⟨.int ys.length, H, I.tok _, ⟨s.toks + 1, by rw [List.size_toArray, hlen]⟩, q⟩
  · obtain ⟨its, r', pl, hz⟩ := I.tuple hq
    have hlen := r'.length
    exact len_tuple pl (by simp only [List.size_toArray] <;> omega) ⟨.int ys.length, H, I.tok _, ⟨s.toks + 1, by rw [List.size_toArray, hlen]⟩, q⟩
theorem call_len_str : CallR X (.builtin "len") (fun xs H Q => ∃ z, xs = [.str z] ∧ z.length ≤ sizeLine ∧ Q (.int z.length) H) := by
  intro pins s σ H xs us Q I r h
  obtain ⟨z, rfl, hz, q⟩ := h
  obtain ⟨u, rfl, t, rfl⟩ := vals1 r
  have hn := line63
  exact len_str (by omega) ⟨.int z.length, H, I.tok _, ⟨_, rfl⟩, q⟩
theorem CallR.or {f : Value} {r r' : List V → Hp → VK → Prop} (h : CallR X f r) (h' : CallR X f r') : CallR X f (fun xs H Q => r xs H Q ∨ r' xs H Q) := by
  intro pins s σ H xs us Q I rs q
  rcases q with q | q
  · exact h pins s σ H xs us Q I rs q
  · exact h' pins s σ H xs us Q I rs q
inductive rListOf (K : PySem.W.Frag) (xs : List V) (H : Hp) (Q : VK) : Prop
  | mk (p : Addr) (ys : List V) (h0 : xs = [.ref p]) (h1 : SqL K H p ys ∨ SqT K H p ys) (h2 : ∀ l, H l = none → Q (.ref l) (upd H l (.lst ys))) : rListOf K xs H Q
theorem call_list_of : CallR X (.type "list") (rListOf X.K) := by
  intro pins s σ H xs us Q I r h
  obtain ⟨p, ys, rfl, hq, q⟩ := h
  obtain ⟨u, rfl, rx⟩ := vals1 r
  cases rx
  have fin : ∀ (its : List Value), Vals ys its → ys.length ≤ sizeLine → ∀ (h' : Heap) (c' : Nat), (∀ b o', s.heap.get? b = some o' → h'.get? b = some o') →
      h'.get? s.heap.objs.size = some { cls := .type "list", dict := none, data := .seq its.toArray c', slots := #[] } → EP X pins σ Q (.ref s.heap.objs.size) { s with heap := h' } := fun its r' hz h' c' kp e =>
    ⟨.ref s.heap.objs.size, _, I.laid (t' := s.toks) kp (Nat.le_refl _) (show ObjOk X.prog X.w _ h' _ (.lst ys) from ⟨hz, its, c', r', e⟩), rfl, q _ (I.hok.fresh (Nat.le_refl _))⟩
  rcases hq with hq | hq
  · obtain ⟨its, r', pl, hz⟩ := I.list hq
    have hlen := r'.length
    obtain ⟨o, ho, hc, n, hd⟩ := pl.isList
    exact call_list_seq p (.inl rfl) ho hc hd (fun h' c' kp e => fin its r' hz h' c' kp e) (by simp only [List.size_toArray] <;> omega)
  · obtain ⟨its, r', pl, hz⟩ := I.tuple hq
    have hlen := r'.length
    obtain ⟨o, ho, hc, n, hd⟩ := pl
    exact call_list_seq p (.inr rfl) ho hc hd (fun h' c' kp e => fin its r' hz h' c' kp e) (by simp only [List.size_toArray] <;> omega)
theorem call_tuple_of : CallR X (.type "tuple") (fun xs H Q => ∃ p ys, xs = [.ref p] ∧ ((SqL X.K H p ys ∧ ∀ l, H l = none → Q (.ref l) (upd H l (.tup ys))) ∨ (SqT X.K H p ys ∧ Q (.ref p) H))) := by
  intro pins s σ H xs us Q I r h
  obtain ⟨p, ys, rfl, h⟩ := h
  obtain ⟨u, rfl, rx⟩ := vals1 r
  cases rx
  rcases h with ⟨hq, q⟩ | ⟨hq, q⟩
  · obtain ⟨its, r', pl, hz⟩ := I.list hq
    have hlen := r'.length
    refine call_tuple_list pl.isList (fun h' kp => ?_) (by simp only [List.size_toArray] <;> omega)
    have I1 : Inv X pins σ H { s with heap := h' } := I.kept (t' := s.toks) kp
    have I2 : Inv X pins σ (upd H h'.objs.size (.tup ys)) { s with heap := h'.push { cls := .type "tuple", data := .seq its.toArray } } :=
      I1.laid (t' := s.toks) (fun b o e => Heap.get?_push_of_some _ e) (Nat.le_refl _) (show ObjOk X.prog X.w _ _ _ (.tup ys) from ⟨hz, its, r', IsTup.new _ _⟩)
    exact ⟨.ref h'.objs.size, _, I2, rfl, q _ (I1.hok.fresh (Nat.le_refl _))⟩
  · obtain ⟨its, r', pl, hz⟩ := I.tuple hq
    exact call_tuple_same pl ⟨.ref p, H, I, rfl, q⟩

/-! ### the call of a builtin's method: o.m(..) -/
/-- the value is of that builtin type -/
noncomputable def tyV (K : PySem.W.Frag) (T : String) (x : V) (H : Hp) : Prop := match x with
  | .str _ => T = "str"
  | .int _ => T = "int"
  | .ref p => (T = "list" ∧ ∃ xs, SqL K H p xs) ∨ (T = "tuple" ∧ ∃ o, K.lookup p = some o ∧ o.cls = .type "tuple" ∧ o.dict = none) ∨
      (T = "dict" ∧ ((∃ kvs, H p = some (.dK kvs)) ∨ ∃ kvs, H p = some (.dT kvs))) ∨ (T = "set" ∧ ∃ S n, H p = some (.set S n))
  | _ => False
theorem tyV_is {pins : List (Addr × Obj)} {σ : St} {H : Hp} {s : Shared} {T : String} {x : V} {v : Value} (I : Inv X pins σ H s) (r : RelV x v) (ty : tyV X.K T x H) :
    s.TypeIs v T ∧ ∀ a, v = .ref a → ∃ ob, s.heap.get? a = some ob ∧ ob.dict = none := by
  cases x with
  | str z =>
    obtain ⟨t, rfl⟩ := r
    cases (show T = "str" from ty)
    exact ⟨typeIs_str s z t, fun _ e => nomatch e⟩
  | int i =>
    obtain ⟨t, rfl⟩ := r
    cases (show T = "int" from ty)
    exact ⟨typeIs_int s i t, fun _ e => nomatch e⟩
  | ref p =>
    cases r
    rcases ty with ⟨rfl, xs, hq⟩ | ⟨rfl, o, hk, hc, hd⟩ | ⟨rfl, hk⟩ | ⟨rfl, S, n, hk⟩
    · obtain ⟨its, _, pl, _⟩ := I.list hq
      refine ⟨pl.isList.typeIs, fun a e => ?_⟩
      cases e
      obtain ⟨o, n, e, c, hd, _⟩ := pl
      exact ⟨o, e, hd⟩
    · refine ⟨⟨o, I.kIn p o hk, hc⟩, fun a e => ?_⟩
      cases e
      exact ⟨o, I.kIn _ o hk, hd⟩
    · have z : ∃ o, s.heap.get? p = some o ∧ o.ExactDict := by
        rcases hk with ⟨kvs, hk⟩ | ⟨kvs, hk⟩
        · obtain ⟨_, _, _, _, o, _, _, e, ex, _⟩ := I.hok p _ hk
          exact ⟨o, e, ex⟩
        · obtain ⟨_, _, _, _, o, _, _, e, ex, _⟩ := I.hok p _ hk
          exact ⟨o, e, ex⟩
      obtain ⟨o, e, ex⟩ := z
      refine ⟨⟨o, e, ex.1⟩, fun a e2 => ?_⟩
      cases e2
      exact ⟨o, e, ex.2.1⟩
    · obtain ⟨o, _, _, _, e, ex, _⟩ := I.hok p _ hk
      refine ⟨⟨o, e, ex.1⟩, fun a e2 => ?_⟩
      cases e2
      exact ⟨o, e, ex.2.1⟩
  | _ => exact False.elim ty
noncomputable def tBM0 (K : PySem.W.Frag) (T : String) (r : V → List V → Hp → VK → Prop) (to : TE) : TE := fun σ H Q => to σ H fun x H1 => tyV K T x H1 ∧ r x [] H1 Q
noncomputable def tBM (K : PySem.W.Frag) (T : String) (r : V → List V → Hp → VK → Prop) (to : TE) (t : TA) : TE := fun σ H Q => to σ H fun x H1 => tyV K T x H1 ∧ t σ H1 fun xs H2 => r x xs H2 Q
variable {o e : Expr} {es : List Expr} {to : TE} {t : TA} {name : Str} {apos cpos : Pos} {T id : String} {r : V → List V → Hp → VK → Prop}
theorem pe_bm0 (pa : PlainAttrs T) (slot : Slot T name id) (hty : typeOf (.builtin id) = pure (.type "method_descriptor")) (hm : MtR X id r) (ho : PE X o to)
    (hbase : attributeBase o name X.env (eval o X.env) = eval o X.env := by rfl) (hline : (apos.endLine == cpos.line) = true := by rfl) : PE X (.Call (.Attribute o name apos) [] [] cpos) (tBM0 X.K T r to) := by
  intro pins s σ H Q I h
  refine wpAny_Call_method0_late hbase hline (thn (ho pins s σ H _ I h) fun v s1 ⟨x, H1, I1, r1, ty, q1⟩ => ?_)
  obtain ⟨h1, h2⟩ := tyV_is I1 r1 ty
  exact ⟨T, id, pa, slot, hty, h1, h2, Calls.callWith_builtin rfl (PySem.evalArgs_none (hm pins s1 σ H1 x [] v [] Q I1 r1 .nil q1))⟩
theorem pe_bm (pa : PlainAttrs T) (slot : Slot T name id) (hty : typeOf (.builtin id) = pure (.type "method_descriptor")) (hm : MtR X id r) (ho : PE X o to) (ha : PA X (e :: es) t)
    (hbase : attributeBase o name X.env (eval o X.env) = eval o X.env := by rfl)
    (hfew : ((backTo cpos (starEach (e :: es) X.env)).all (fun x => !x.1) && (backToKw cpos (keywordEach [] X.env)).all (fun x => x.1.isSome)
      && decide ((e :: es).length + ([] : List Keyword).length + (if ([] : List Keyword).isEmpty then 0 else 1) < 30)) = true := by rfl)
    (hline : (apos.endLine == cpos.line) = true := by rfl) (hs : starEach (e :: es) X.env = (false, eval e X.env) :: starEach es X.env := by rfl) (hplain : (backTo cpos (starEach es X.env)).any (·.1) = false := by rfl) :
    PE X (.Call (.Attribute o name apos) (e :: es) [] cpos) (tBM X.K T r to t) := by
  intro pins s σ H Q I h
  refine wpAny_Call_method_late hbase hfew hline rfl (thn (ho pins s σ H _ I h) fun v s1 ⟨x, H1, I1, r1, ty, q1⟩ => ?_)
  obtain ⟨h1, h2⟩ := tyV_is I1 r1 ty
  refine ⟨T, id, pa, slot, hty, h1, h2, ?_⟩
  have hA := ha cpos pins s1 σ H1 _ I1 q1
  rw [hs] at hA ⊢
  refine Calls.callWith_builtin (by show (false || (backTo cpos (starEach es X.env)).any (·.1)) = false; rw [hplain] <;> rfl) (Calls.evalArgs_plain ?_)
  exact thn hA fun us s2 ⟨vs, H2, I2, r2, q2⟩ => hm pins s2 σ H2 x vs v us Q I2 r1 r2 q2
/- xs.append(e), list.index on a module's tuple .. are MtR facts of 06m -/
end
end L2

namespace L2
open PySem PySem.Spec PyProof.Rows

noncomputable def MtM (X : Cx) (id : String) (r : V → List V → Hp → VK → Prop) : Prop :=
  ∀ (pins : List (Addr × Obj)) (s : Shared) (σ : St) (H : Hp) (x : V) (xs : List V) (v : Value) (us : List Value) (Q : VK), Inv X pins σ H s → RelV x v → Vals xs us → r x xs H Q →
    wpAny (model X.prog X.w) X.A (call (.builtin id) (v :: us)) (EP X pins σ Q) X.xe s

/-! ### lists of values -/
theorem Vals.one : ∀ {x : V} {us : List Value}, Vals [x] us → ∃ u, us = [u] ∧ RelV x u
  | _, _, .cons r .nil => ⟨_, rfl, r⟩
theorem Vals.two : ∀ {x y : V} {us : List Value}, Vals [x, y] us → ∃ u v, us = [u, v] ∧ RelV x u ∧ RelV y v
  | _, _, _, .cons r (.cons q .nil) => ⟨_, _, rfl, r, q⟩
theorem Vals.zero : ∀ {us : List Value}, Vals [] us → us = []
  | _, .nil => rfl
theorem Vals.dropLast {xs : List V} {us : List Value} (h : Vals xs us) : Vals xs.dropLast us.dropLast := by
  induction h with
  | nil => exact .nil
  | cons r t ih =>
    cases t with
    | nil => exact .nil
    | cons q t' => exact .cons r ih
theorem Vals.eraseIdx : ∀ {xs : List V} {us : List Value} (i : Nat), Vals xs us → Vals (xs.eraseIdx i) (us.eraseIdx i)
  | _, _, _, .nil => .nil
  | _, _, 0, .cons _ t => t
  | _, _, i + 1, .cons r t => .cons r (Vals.eraseIdx i t)
theorem Vals.reverse {xs : List V} {us : List Value} (h : Vals xs us) : Vals xs.reverse us.reverse := by
  induction h with
  | nil => exact .nil
  | cons r t ih => rw [List.reverse_cons, List.reverse_cons]; exact Vals.append ih (.cons r .nil)
theorem erase_last {α : Type} (l : List α) : l.eraseIdx (l.length - 1) = l.dropLast := by
  induction l with
  | nil => rfl
  | cons a r ih =>
    cases r with
    | nil => rfl
    | cons b r =>
      have e : (a :: b :: r).length - 1 = ((b :: r).length - 1) + 1 := by
        have h1 : (a :: b :: r).length = r.length + 2 := rfl
        have h2 : (b :: r).length = r.length + 1 := rfl
        omega
      rw [e, List.eraseIdx_cons_succ, ih]
      all_goals rfl
theorem len_erase {α : Type} : ∀ (l : List α) (i : Nat), (l.eraseIdx i).length ≤ l.length
  | [], _ => Nat.le_refl _
  | _ :: _, 0 => Nat.le_succ _
  | _ :: r, i + 1 => Nat.succ_le_succ (len_erase r i)
section
variable {X : Cx} {pins : List (Addr × Obj)} {σ : St} {H : Hp} {s : Shared} {l b : Addr} {xs ys zs : List V}

/-! ### the two steps: a tracked list is rewritten, a new list is laid -/
theorem Inv.lset {its its' : List Value} {n : Nat} {f : Array Value → Array Value} {t' : Nat} (I : Inv X pins σ H s) (hH : H l = some (.lst xs))
    (e : s.heap.get? l = some { cls := .type "list", data := .seq its.toArray n }) (hf : f its.toArray = its'.toArray) (hv : Vals ys its') (hz : ys.length ≤ sizeLine) :
    Inv X pins σ (upd H l (.lst ys)) { s with heap := s.heap.update l (Obj.mapSeq f), toks := t' } := by
  have q := PySem.IsL.update e f
  rw [hf] at q
  refine I.write (x := l) (e := l) (by rw [hH]; exact trivial) (.inl rfl) (fun b' u hb hu => (Heap.get?_update_other s.heap (Obj.mapSeq f) (Ne.symm hb)).trans hu) ⟨_, q⟩ ?_
  exact ⟨hz, its', _, hv, q⟩
theorem Inv.lnew {its : List Value} {t' : Nat} (I : Inv X pins σ H s) (hv : Vals ys its) (hz : ys.length ≤ sizeLine) :
    Inv X pins σ (upd H s.heap.objs.size (.lst ys)) { s with heap := s.heap.push { cls := .type "list", data := .seq its.toArray }, toks := t' } :=
  I.laid (fun _ _ q => Heap.get?_push_of_some _ q) (Nat.le_refl _) ⟨hz, its, 0, hv, Heap.get?_push_size _ rfl⟩
theorem Inv.fresh (I : Inv X pins σ H s) : H s.heap.objs.size = none := I.hok.fresh (Nat.le_refl _)
theorem Inv.lstM (I : Inv X pins σ H s) (hH : H l = some (.lst xs)) : xs.length ≤ sizeLine ∧ ∃ (its : List Value) (n : Nat), Vals xs its ∧ xs.length = its.length ∧ s.heap.get? l = some { cls := .type "list", data := .seq its.toArray n } := by
  obtain ⟨z, its, n, r, e⟩ := I.hok l _ hH
  exact ⟨z, its, n, r, r.length, e⟩

end

section
variable {X : Cx}

/-! ### methods -/
inductive rAppend (x : V) (vs : List V) (H : Hp) (Q : VK) : Prop
  | mk (l : Addr) (xs : List V) (y : V) (h0 : x = .ref l) (h1 : vs = [y]) (h2 : H l = some (.lst xs)) (h3 : xs.length < sizeLine) (h4 : Q .non (upd H l (.lst (xs ++ [y])))) : rAppend x vs H Q
theorem mt_append : MtM X "list.append" rAppend := by
  intro pins s σ H x vs v us Q I rx rv h
  obtain ⟨l, xs, y, rfl, rfl, hH, hz, q⟩ := h
  cases rx
  obtain ⟨u, rfl, ru⟩ := rv.one
  obtain ⟨z, its, n, r, hl, e⟩ := I.lstM hH
  refine call_meets F.slot_list_append ⟨_, e, rfl⟩ F.entry_list_append (F.args_list_append_2 _ _) (PySem.list_append l its.toArray n u (by rw [List.size_toArray]; omega)) ⟨e, ?_⟩
  refine ⟨.non, _, I.lset (its' := its ++ [u]) hH e (by simp) (r.append (.cons ru .nil)) ?_, rfl, q⟩
  rw [List.length_append, List.length_singleton]
  omega

noncomputable def rPop : V → List V → Hp → VK → Prop := fun x vs H Q => ∃ l xs y, x = .ref l ∧ vs = [] ∧ H l = some (.lst xs) ∧ xs[xs.length - 1]? = some y ∧ Q y (upd H l (.lst xs.dropLast))
theorem mt_pop : MtM X "list.pop" rPop := by
  intro pins s σ H x vs v us Q I rx rv h
  obtain ⟨l, xs, y, rfl, rfl, hH, hy, q⟩ := h
  cases rx
  have hus := rv.zero
  subst hus
  obtain ⟨z, its, n, r, hl, e⟩ := I.lstM hH
  obtain ⟨u, hu, ru⟩ := r.get hy
  have hy' : its.toArray[its.toArray.size - 1]? = some u := by
    show its.toArray[its.length - 1]? = some u
    rw [← Array.getElem?_toList, ← hl]
    exact hu
  refine call_meets F.slot_list_pop ⟨_, e, rfl⟩ F.entry_list_pop (F.args_list_pop_1 _) (MeetsSeq.list_pop_last l its.toArray n u hy' (by rw [List.size_toArray]; omega)) ⟨e, ?_⟩
  refine ⟨y, _, I.lset (its' := its.dropLast) hH e ?_ r.dropLast ?_, ru, q⟩
  · show its.toArray.eraseIdxIfInBounds (its.toArray.size - 1) = its.dropLast.toArray
    rw [List.size_toArray, List.eraseIdxIfInBounds_toArray, erase_last]
  · rw [List.length_dropLast]
    omega

noncomputable def rPopAt : V → List V → Hp → VK → Prop := fun x vs H Q => ∃ l xs i k y, x = .ref l ∧ vs = [.int i] ∧ H l = some (.lst xs) ∧ -(2 ^ 63) ≤ i ∧ i < 2 ^ 63 ∧ seqIndex? i xs.length = some k ∧ xs[k]? = some y ∧ Q y (upd H l (.lst (xs.eraseIdx k)))
theorem mt_popAt : MtM X "list.pop" rPopAt := by
  intro pins s σ H x vs v us Q I rx rv h
  obtain ⟨l, xs, i, k, y, rfl, rfl, hH, h1, h2, hk, hy, q⟩ := h
  cases rx
  obtain ⟨u, rfl, ru⟩ := rv.one
  obtain ⟨t, rfl⟩ := ru
  obtain ⟨z, its, n, r, hl, e⟩ := I.lstM hH
  obtain ⟨w, hw, rw'⟩ := r.get hy
  refine call_meets F.slot_list_pop ⟨_, e, rfl⟩ F.entry_list_pop (F.args_list_pop_2 _ _)
    (MeetsSeq.list_pop_at l its.toArray n i t k w (fitsIndex_both h1 h2) (by rw [List.size_toArray, ← hl]; exact hk) (by rw [← Array.getElem?_toList]; exact hw) (by rw [List.size_toArray]; omega)) ⟨e, ?_⟩
  refine ⟨y, _, I.lset (its' := its.eraseIdx k) hH e ?_ (r.eraseIdx k) ?_, rw', q⟩
  · show its.toArray.eraseIdxIfInBounds k = (its.eraseIdx k).toArray
    rw [List.eraseIdxIfInBounds_toArray]
  · have := len_erase xs k
    omega

noncomputable def rClear : V → List V → Hp → VK → Prop := fun x vs H Q => ∃ l xs, x = .ref l ∧ vs = [] ∧ H l = some (.lst xs) ∧ Q .non (upd H l (.lst []))
theorem mt_clear : MtM X "list.clear" rClear := by
  intro pins s σ H x vs v us Q I rx rv h
  obtain ⟨l, xs, rfl, rfl, hH, q⟩ := h
  cases rx
  have hus := rv.zero
  subst hus
  obtain ⟨z, its, n, r, hl, e⟩ := I.lstM hH
  refine call_meets F.slot_list_clear ⟨_, e, rfl⟩ F.entry_list_clear (F.args_list_clear_1 _) (AutoSeq1.list_clear_list_0 l its.toArray n (by rw [List.size_toArray]; omega)) ⟨e, ?_⟩
  exact ⟨.non, _, I.lset (its' := []) (ys := []) hH e rfl .nil (Nat.zero_le _), rfl, q⟩

/-! ### list + list, list += list, list * int -/
inductive rCat (x y : V) (H : Hp) (Q : VK) : Prop
  | mk (l b : Addr) (xs zs : List V) (h0 : x = .ref l) (h1 : y = .ref b) (h2 : H l = some (.lst xs)) (h3 : H b = some (.lst zs)) (h4 : xs.length + zs.length ≤ sizeLine) (h5 : ∀ p, H p = none → Q (.ref p) (upd H p (.lst (xs ++ zs)))) : rCat x y H Q
theorem op_cat : OpR X (binaryOp .Add) rCat := by
  intro pins s σ H x y v u Q I rx ry h
  obtain ⟨l, b, xs, zs, rfl, rfl, hH, hB, hz, q⟩ := h
  cases rx
  cases ry
  obtain ⟨z, its, n, r, hl, e⟩ := I.lstM hH
  obtain ⟨z2, its2, n2, r2, hl2, e2⟩ := I.lstM hB
  refine PySem.P.add_list e e2 ?_ (by rw [List.size_toArray, List.size_toArray]; omega)
  have ea : its.toArray ++ its2.toArray = (its ++ its2).toArray := by simp
  rw [ea]
  exact ⟨.ref _, _, I.lnew (t' := s.toks) (r.append r2) (by rw [List.length_append]; omega), rfl, q _ I.fresh⟩
/-! ### del xs[i] -/
end

/-! ### xs[a:b] = ys -/
section
variable {prog : Program} {w : World} {A : Around} {E : Value → Shared → Prop} {s : Shared}
set_option maxRecDepth 100000 in
end

section
variable {X : Cx}
end
end L2

namespace Att
open PySem PySem.W PySem.Calls PyProof.Rows

/-! ### the script -/
theorem ints_of_wellAll {P : Params} {h : Heap} : ∀ (ns : List Int) (vs : List Value), WellAll P h vs (ns.map WData.int) → IntsAre vs ns := by
  intro ns
  induction ns with
  | nil =>
    intro vs w
    rw [List.map_nil] at w
    cases w
    exact .nil
  | cons n ns ih =>
    intro vs w
    rw [List.map_cons] at w
    cases w with
    | cons a b =>
      cases a
      exact .cons _ _ (ih _ b)

theorem script_of {l : OpenLaw} {n : Nat} (hn : l.most = some n) {P : Params} {h : Heap} {args : List WData} {vals : List Value}
    (hpre : l.row.toRowW.claim.pre args = true) (hwl : WellAll P h vals args) :
    ∃ a vs ns, vals = [Value.ref a] ∧ args = [WData.list (ns.map WData.int)] ∧ h.get? a = some { cls := .type "list", data := .seq vs.toArray } ∧ IntsAre vs ns ∧ ns.length ≤ n := by
  have hsh : WShape.hasAll [] args [.list .int] = true := (pre_splitW hpre).1
  have hc : l.pre.holds [] { args := args } = true := (pre_splitW hpre).2
  obtain ⟨d, r, rfl, h1, h2⟩ := hasAllW_cons hsh
  obtain rfl := hasAllW_nil h2
  obtain ⟨xs, rfl, h3⟩ := hasW_list h1
  obtain ⟨ns, rfl⟩ := items_int h3
  have hlen : ns.length ≤ n := by
    unfold OpenLaw.pre at hc
    have h4 : (WTm.not (.lt (.lit (.int (n : Int))) (.len (.arg 0)))).holds [] { args := [.list (ns.map .int)] } = true := by
      have h4 := (holds_andW hc).1
      rw [hn] at h4
      exact h4
    have h5 := condW_of h4 (w_not (w_lt w_lit (w_len_list (w_arg rfl))))
    rw [List.length_map] at h5
    refine Nat.le_of_not_lt fun q => ?_
    have q' : (n : Int) < ((ns.length : Nat) : Int) := by omega
    first
      | (rw [decide_eq_true q'] at h5; exact absurd h5 (by decide))
      | (simp at h5; omega)
  cases hwl with
  | cons w1 w2 =>
    cases w2
    cases w1 with
    | list ho hall => exact ⟨_, _, ns, rfl, rfl, ho, ints_of_wellAll ns _ hall, hlen⟩

theorem post_true (l : OpenLaw) (args : List WData) : l.row.toRowW.claim.post args (.bool true) args = true :=
  postW_of (r := l.row.toRowW) (X := (true == true))
    (show WShape.has [] (.bool true) .bool = true by first | rfl | decide | simp [WShape.has, WShape.arms, WShape.armsAll])
    (show (WTm.eq .res (.lit (.bool true))).value [] { args := args, res := some (.bool true), after := args } = some (.bool (true == true)) from w_eq_bool (w_res rfl) w_lit) rfl

/-! ### the attachment: holds_open's last premise (the goal 'hc' behind k_head) from a wpAny of the law's body -/
/-- the same from a codeAny of the CALL (for a layer whose function contracts speak of calls) -/
theorem attach_call {l : OpenLaw} {n : Nat} {q : Program} {loose : List Str} {XP : (Str → Option Value) → Heap → Prop} {YP : World → Heap → Prop} {d : DefRec}
    (hn : l.most = some n) (hdf : d.params.defaults = [])
    (call : ∀ (w : World) (s₀ s₁ : Shared) (mg mb : Str → Option Value) (fa : Addr) (o : Obj) (pm cd doc : Value) (a : Addr) (vs : List Value) (ns : List Int),
      Ground q loose [] XP w s₀ mg mb s₁.heap → YP w s₁.heap →
      s₁.heap.get? fa = some o → o.data = .func (docDef d.name d.params d.body d.scope pm cd doc) → s₁.heap.CodeRec cd d.name → mg d.name = some (.ref fa) →
      s₁.heap.get? a = some { cls := .type "list", data := .seq vs.toArray } → IntsAre vs ns → ns.length ≤ n → s₁.gens = #[] →
      codeAny (model l.prog w) callerA (.call (.ref fa) ⟨[.ref a], []⟩) (fun r s' => r = .ok (.ret (.bool true)) ∧ OldK s₁.heap s'.heap ∧ s'.os = s₁.os ∧ AllBare s'.gens) s₁) :
    WalkO q loose XP YP l.row.toRowW d [] (fun f vs => PySem.call f vs) := by
  intro w s₀ s₁ mg mb G Y fa o pm cd doc dV kV ho hd hcd hD hmg hg args vals as hpre hlay hrd hwl hlo
  obtain rfl : dV = .none := Dflts.none hD hdf
  obtain rfl : kV = .none := Dflts.noKw hD
  obtain ⟨a, vs, ns, rfl, rfl, hobj, hints, hlen⟩ := script_of hn hpre hwl
  refine enter_call (codeAny_mono (call w s₀ s₁ mg mb fa o pm cd doc a vs ns G Y ho (fd_plain hd) hcd hmg hobj hints hlen hg) fun r s' hq => ?_)
  obtain ⟨rfl, h2, h3, h4⟩ := hq
  exact ⟨.inl ⟨.bool true, .bool true, [], rfl, fun _ => rfl, .bool true, post_true l _, fun _ => ⟨List.Pairwise.nil, fun _ hm => (nomatch hm)⟩⟩, h2, h3, h4⟩

/-! ### rules over ANY heap (no ledger) from facts about the written part K: the library's own take a ledger (News) for what they write -/
section
variable {prog : Program} {w : World} {A : Around} {E : Value → Shared → Prop} {s : Shared} {K : Frag}

/-! the whole heap as the ledger: makes every rule that writes through a ledger a rule over any heap -/
noncomputable def ledger (h : Heap) (L d : Addr) : List (Addr × Obj) := (List.range h.objs.size).filterMap fun a => if a = L ∨ a = d then none else (h.get? a).map fun o => (a, o)
end
end Att

namespace L2
open PySem PySem.Spec PyProof.Rows

theorem vals_ints : ∀ {vs : List Value} {ns : List Int}, IntsAre vs ns → Vals (ns.map V.int) vs
  | _, _, .nil => .nil
  | _, _, .cons n t h => .cons ⟨t, rfl⟩ (vals_ints h)

/-- nothing is tracked but the script, known to the object (or it is an object of the module) -/
noncomputable def Only (H : Hp) : Prop := ∀ b, H b = none ∨ ∃ o xs, H b = some (.frz o (.lst xs))

/-- THE HEAD: the law's promise, at the heap behind the top. F, the promise of the law's def, may use that base is part of the heap (so K.In base, base.Ns mainGlobals mg stand in Mod) -/
theorem law_call {P : Program} {w : World} {K : PySem.W.Frag} {mg mb : Str → Option Value} {CX : CXT} {k : Nat} {fa a : Addr} {fd : FuncData} {x : Str} {sp : Sp} {s₁ : Shared} {vs : List Value} {ns : List Int}
    (KX : K.In s₁.heap) (hns : s₁.heap.Ns mainGlobals mg) (hb : s₁.heap.Ns builtinsNs mb) (hbb : ∀ x : Str, x ≠ "__name__" → mb x = bootBuiltins x) (hlim : s₁.heap.NoLimit) (hg : s₁.gens = #[])
    (ha : s₁.heap.get? a = some { cls := .type "list", data := .seq vs.toArray }) (hi : IntsAre vs ns) (hl : ns.length ≤ sizeLine) (hr : Room k callerA)
    (F : ∀ base : Heap, K.In base → base.Ns mainGlobals mg → FnOk P w K mg base CX k fa fd [x] sp) (hbind : ∀ (s : Shared) (u : Value), BindsTo s fd ⟨[u], []⟩ [(x, u)])
    (hsp : ∀ H : Hp, Only H → SqL K H a (ns.map V.int) → sp [.ref a] H (fun v _ => v = .bl true) fun _ _ _ => False)
    (hCX : ∀ H e s', CX [] H s₁ (fun _ _ _ => False) e s' → False) :
    codeAny (model P w) callerA (.call (.ref fa) ⟨[.ref a], []⟩) (fun r s' => r = .ok (.ret (.bool true)) ∧ OldK s₁.heap s'.heap ∧ s'.os = s₁.os ∧ AllBare s'.gens) s₁ := by
  have rv := vals_ints hi
  have lenV := hi.length
  -- from an abstract heap in which nothing but the script may be tracked
  have core : ∀ H : Hp, Only H → SqL K H a (ns.map V.int) → HOk P w H s₁.heap → (∀ b, H b ≠ none → b = a) → (H a ≠ none → K.lookup a = none) →
      codeAny (model P w) callerA (.call (.ref fa) ⟨[.ref a], []⟩) (fun r s' => r = .ok (.ret (.bool true)) ∧ OldK s₁.heap s'.heap ∧ s'.os = s₁.os ∧ AllBare s'.gens) s₁ := by
    intro H hO hS hok hA hK
    have base_of : ∀ {b : Addr} {o : Obj}, s₁.heap.get? b = some o → H b = none → (hidT s₁.heap H).get? b = some o := fun e n => hidT_get e n
    have noA : ∀ {b : Addr} {o : Obj} {es : Array DictEntry} {ep : Nat}, s₁.heap.get? b = some o → o.data = .dict es ep → H b = none := fun {b o es ep} e d => by
      cases q : H b with
      | none => rfl
      | some u =>
        have e' : b = a := hA b (by rw [q]; simp)
        subst e'
        rw [ha] at e; cases e
        have d' : Data.seq vs.toArray _ = Data.dict es ep := d
        cases d'
    have nsK : ∀ {b : Addr} {m : Str → Option Value}, s₁.heap.Ns b m → (hidT s₁.heap H).Ns b m := fun {b m} ⟨o, es, ep, e, d, r⟩ => ⟨o, es, ep, base_of e (noA e d), d, r⟩
    have hKb : K.In (hidT s₁.heap H) := fun b o e => base_of (KX b o e) (by
      cases q : H b with
      | none => rfl
      | some u =>
        have e' : b = a := hA b (by rw [q]; simp)
        subst e'
        rw [hK (by rw [q]; simp)] at e; cases e)
    have hM : Mod K mg (hidT s₁.heap H) := ⟨hKb, nsK hns, ⟨mb, nsK hb, hbb⟩, let ⟨mc, h1, h2⟩ := hlim; ⟨mc, nsK h1, h2⟩⟩
    have e0 : Env0 P w K mg (hidT s₁.heap H) callerA [] s₁ H := ⟨rfl, hM, fun b o e => of_hidT e, Nat.le_of_eq (hidT_size _ _), trivial, fun b hb => absurd (show b ∈ ([] : List Addr) from hb) (by simp), hok, .of_eq hg⟩
    refine codeAny_mono ((F _ hKb (nsK hns)).run callerA [] s₁ H ⟨[.ref a], []⟩ [.ref a] [.ref a] _ _ hr e0 (hbind s₁ (.ref a)) (.cons rfl .nil) (hsp H hO hS)) fun r s' h => ?_
    cases r with
    | error e => exact (hCX H e s' h).elim
    | ok fl =>
      cases fl with
      | next => exact False.elim h
      | brk => exact False.elim h
      | cont => exact False.elim h
      | ret u =>
        obtain ⟨v, H', os, bare, un, hok', r', q⟩ := h
        have q' : v = .bl true := q
        subst q'
        obtain rfl : u = Value.bool true := r'
        refine ⟨rfl, OldK.of_keep fun b o e => ?_, os, bare⟩
        cases q : H b with
        | none => exact un.keep b o e q (by intro z; exact absurd (show b ∈ ([] : List Addr) from z) (by simp)) (by simp)
        | some u =>
          rcases hO b with z | ⟨ob, xs, z⟩
          · rw [q] at z; cases z
          · have z2 := un.frzs b ob _ z
            obtain ⟨e1, _⟩ := hok b _ z
            obtain ⟨e2, _⟩ := hok' b _ z2
            rw [e] at e1; cases e1
            exact e2
  cases hk : K.lookup a with
  | some o =>
    -- the script is one of the module's own objects
    have e := KX a o hk
    rw [ha] at e
    cases e
    refine core (fun _ => none) (fun _ => .inl rfl) (.inr ⟨_, vs.toArray, _, hk, rfl, rfl, rfl, by rw [List.size_toArray, lenV]; exact hl, by simpa using rv⟩) (fun b u z => by have z' : (none : Option HO) = some u := z; cases z') (fun b z => absurd rfl z) fun z => absurd rfl z
  | none =>
    refine core (fun b => if b = a then some (.frz { cls := .type "list", data := .seq vs.toArray } (.lst (ns.map V.int))) else none) (fun b => ?_) (.inl (.inr ⟨{ cls := .type "list", data := .seq vs.toArray }, if_pos rfl⟩)) (fun b u z => ?_) (fun b z => ?_) fun _ => hk
    · by_cases hb : b = a
      · exact .inr ⟨_, _, if_pos hb⟩
      · exact .inl (if_neg hb)
    · by_cases hb : b = a
      · have z' := (if_pos hb).symm.trans z
        cases z'
        subst hb
        exact ⟨ha, by rw [List.length_map]; exact hl, vs, _, rv, ha⟩
      · have z' := (if_neg hb).symm.trans z
        cases z'
    · by_cases hb : b = a
      · exact hb
      · exact absurd (if_neg hb) z
end L2

namespace L2
open PySem PySem.Spec PyProof.Rows

noncomputable abbrev KOf {K : PySem.W.Frag} {h : Heap} (_ : K.In h) : PySem.W.Frag := K

end L2



/-! SHORT WORDS over the layer: a def of the text, its body, what a loop and a test want. -/
namespace L2
open PySem PySem.Spec PyProof.Rows

/-! ### the text by places -/
/-- the j-th statement of a class's body -/
noncomputable def inClass (s : Stmt) (j : Nat) : Stmt := match s with
  | .ClassDef _ _ _ body _ _ _ _ _ _ _ => body.getD j (.Pass ⟨0, 0, 0, 0⟩)
  | _ => .Pass ⟨0, 0, 0, 0⟩
noncomputable def defArgs (s : Stmt) : Arguments := match s with
  | .FunctionDef _ a _ _ _ _ _ _ _ _ => a
  | _ => { posonlyargs := [], args := [], vararg := none, kwonlyargs := [], kw_defaults := [], kwarg := none, defaults := [] }
noncomputable def defBody (s : Stmt) : List Stmt := match s with
  | .FunctionDef _ _ b _ _ _ _ _ _ _ => b
  | _ => []
noncomputable def defScope (s : Stmt) : Scope := match s with
  | .FunctionDef _ _ _ _ _ _ sc _ _ _ => sc
  | _ => { kind := .function, names := [], isGenerator := false, isCoroutine := false }

/-! ### no exception leaves a def -/
noncomputable abbrev CX0 : CXT := fun _ _ _ _ _ _ => False
noncomputable abbrev E0 : XK := fun _ _ _ => False
theorem pass0 {X : Cx} : Passes CX0 X E0 := fun _ _ _ _ _ _ _ h => h.elim

/-! ### a def (or method) of the text as it stands behind the top -/
structure Fun (K : PySem.W.Frag) (x qual : Str) (st : Stmt) (f : Addr) (fd : FuncData) : Prop where
  ex : ∃ (oc : Value) (od : Option Addr) (kV doc pm : Value) (an : Option Addr) (cdv ct : Value) (osl : Array (Option Value)),
    fd = PySem.W.fnOf x qual (defArgs st) (defBody st) (defScope st) .none kV doc pm an cdv ct ∧ K.lookup f = some ⟨oc, od, .func fd, osl⟩ ∧ PySem.W.codeIn K cdv qual = true
  kp : PySem.W.keepIn K (.ref f) = true
section
variable {P : Program} {w : World} {K : PySem.W.Frag} {mg : Str → Option Value} {base : Heap}
/-- THE RULE for a def: its body as a term of rules, and the reading of that term -/
theorem Fun.ok {x qual : Str} {st : Stmt} {f : Addr} {fd : FuncData} {N ps : List Str} {k : Nat} {sp : Sp} (F : Fun K x qual st f fd) (S : FnScope N ps (defScope st)) (len : ∀ vs H Q E, sp vs H Q E → vs.length = ps.length)
    (hbody : ∀ (cdv : Value) (A : Around) (outer : List Env) (s : Shared) (H : Hp) (vs : List V) (Q : VK) (E : XK), Room k (A.deeper (envOfC qual (defScope st) s.heap.objs.size f cdv)) → sp vs H Q E →
      ∃ t, PSs (cxOf CX0 P w K mg base N qual (defScope st) f cdv A outer s H E).nox (defBody st) t ∧ t { nx := fun _ H' => Q .non H', rt := Q } (start N vs) H) : FnOk P w K mg base CX0 (k + 1) f fd ps sp := by
  obtain ⟨oc, od, kV, doc, pm, an, cdv, ct, osl, rfl, lk, hcd⟩ := F.ex
  refine fn_of lk hcd S len fun A outer s H vs Q E hr hsp => ?_
  obtain ⟨t, h, q⟩ := hbody cdv A outer s H vs Q E hr hsp
  exact ⟨t, h.nox, q⟩
/-- how its arguments bind (no defaults): h is «fun _ _ _ _ _ _ us hl => match us, hl with | [_, _], _ => rfl», one _ a parameter -/
theorem Fun.binds {x qual : Str} {st : Stmt} {f : Addr} {fd : FuncData} {ps : List Str} (F : Fun K x qual st f fd)
    (h : ∀ (kV doc pm : Value) (an : Option Addr) (cdv ct : Value) (us : List Value), us.length = ps.length → bindArgs (PySem.W.fnOf x qual (defArgs st) (defBody st) (defScope st) .none kV doc pm an cdv ct) ⟨us, []⟩ = pure (ps.zip us)) : Binds K fd ps [] := by
  obtain ⟨oc, od, kV, doc, pm, an, cdv, ct, osl, rfl, lk, hcd⟩ := F.ex
  exact .all (h kV doc pm an cdv ct)
theorem fun_mk {x qual : Str} {st : Stmt} {f : Addr} {oc : Value} {od an : Option Addr} {osl : Array (Option Value)} {kV doc pm cdv ct : Value} (l : K.lookup f = some ⟨oc, od, .func (PySem.W.fnOf x qual (defArgs st) (defBody st) (defScope st) .none kV doc pm an cdv ct), osl⟩)
    (c : PySem.W.codeIn K cdv qual = true) (k : PySem.W.keepIn K (.ref f) = true) : Fun K x qual st f (PySem.W.fnOf x qual (defArgs st) (defBody st) (defScope st) .none kV doc pm an cdv ct) := ⟨⟨oc, od, kV, doc, pm, an, cdv, ct, osl, rfl, l, c⟩, k⟩
end
/-! ### expressions in short: the name that stands in the i-th slot -/
section
variable {X : Cx}
end

/-! ### tests -/
theorem iteF {A B : Prop} (h : B) : if false = true then A else B := by
  rw [if_neg Bool.false_ne_true]
  exact h
theorem ite2 {c A B : Prop} [Decidable c] (h1 : c → A) (h2 : ¬ c → B) : if c then A else B := by
  by_cases h : c
  · rw [if_pos h]
    exact h1 h
  · rw [if_neg h]
    exact h2 h
theorem iteNS {c A B : Prop} [Decidable c] (hc : c) (h : B) : if (!decide c) = true then A else B := by
  rw [decide_eq_true hc]
  exact iteF h

/-! ### heaps -/
/-- all that was tracked is as it was -/
noncomputable def Same (H H' : Hp) : Prop := ∀ b o, H b = some o → H' b = some o
theorem Same.refl (H : Hp) : Same H H := fun _ _ h => h
theorem Same.trans {H H1 H2 : Hp} (a : Same H H1) (b : Same H1 H2) : Same H H2 := fun c o h => b c o (a c o h)
theorem Same.free {H H' : Hp} (e : Same H H') {l : Addr} (h : H' l = Option.none) : H l = Option.none := by
  cases q : H l with
  | none => rfl
  | some o =>
    rw [e l o q] at h
    cases h
theorem Same.seq {K : PySem.W.Frag} {H H' : Hp} {a : Addr} {xs : List V} (e : Same H H') (h : SqL K H a xs) : SqL K H' a xs := by
  rcases h with (h | ⟨o, h⟩) | h
  · exact .inl (.inl (e _ _ h))
  · exact .inl (.inr ⟨o, e _ _ h⟩)
  · exact .inr h

end L2

set_option Elab.async false
set_option linter.all false
set_option maxRecDepth 100000
set_option maxHeartbeats 4000000
namespace L2
open PySem PySem.Spec PyProof.Rows

/-! ### the signs of a text, walked -/
noncomputable def Its (x : Str) : It := ⟨fun i _ => i < x.cps.size, fun i H y H' => H' = H ∧ ∃ c, x.cps[i]? = some c ∧ y = .str ⟨#[c]⟩, fun i _ => x.cps.size ≤ i⟩
theorem turn_str {P : Program} {w : World} {K : PySem.W.Frag} {tg : Expr} (x : Str) (it : Addr) {ty : String} {t : Tok} (hty : ty = "str_ascii_iterator" ∨ ty = "str_iterator") :
    Turn P w K tg (Its x) [it] it (fun i h => h.IsStrIter it ty x t i) where
  mem := by simp
  obj := fun i h st b hb => by
    have e : b = it := by simpa using hb
    subst e
    obtain ⟨o, e, c, d⟩ := st
    exact ⟨o, e, fun v z => by rw [d] at z; cases z⟩
  keep := fun i h h' st k => by
    obtain ⟨o, e, r⟩ := st
    exact ⟨o, k it (by simp) o e, r⟩
  item := by
    intro X hP hw hK hc i pins s σ H E I hf st hg
    subst hP hw hK
    have hi : i < x.cps.size := hg
    obtain ⟨f0, f1, f2, f3, f4, f5⟩ := hf it (by simp)
    rcases hty with rfl | rfl
    · refine wpAny_pyNext_ascii_item st (c := x.cps[i]) (by simp [hi]) fun h' st' sb => ?_
      have I1 : Inv X pins σ H { s with heap := h', toks := s.toks + 1 } := I.turned (fun b o hb e => (sb.2 b hb).trans e) f0 f1 f3 f4 f5
      obtain ⟨o, e, c, d⟩ := id st'
      exact ⟨_, rfl, go_of (s := { s with heap := h', toks := s.toks + 1 }) e c d (by decide) ⟨.str ⟨#[x.cps[i]]⟩, H, I1, ⟨_, rfl⟩, ⟨rfl, x.cps[i], by simp [hi], rfl⟩, st', fun b hb => (hf b hb).1⟩⟩
    · refine wpAny_pyNext_wide_item st (c := x.cps[i]) (by simp [hi]) fun h' st' sb => ?_
      have I1 : Inv X pins σ H { s with heap := h', toks := s.toks + 1 } := I.turned (fun b o hb e => (sb.2 b hb).trans e) f0 f1 f3 f4 f5
      obtain ⟨o, e, c, d⟩ := id st'
      exact ⟨_, rfl, go_of (s := { s with heap := h', toks := s.toks + 1 }) e c d (by decide) ⟨.str ⟨#[x.cps[i]]⟩, H, I1, ⟨_, rfl⟩, ⟨rfl, x.cps[i], by simp [hi], rfl⟩, st', fun b hb => (hf b hb).1⟩⟩
  done := by
    intro X hP hw hK hc i pins s σ H E I hf st hg
    subst hP hw hK
    have hi : x.cps.size ≤ i := hg
    obtain ⟨f0, f1, f2, f3, f4, f5⟩ := hf it (by simp)
    rcases hty with rfl | rfl
    · exact wpAny_pyNext_ascii_end (I.ok.hd hc) st (by simp [hi]) fun h' eb => ⟨rfl, I.turned (t' := s.toks) (fun b o hb e => eb b o hb e) f0 f1 f3 f4 f5⟩
    · exact wpAny_pyNext_wide_end (I.ok.hd hc) st (by simp [hi]) fun h' eb => ⟨rfl, I.turned (t' := s.toks) (fun b o hb e => eb b o hb e) f0 f1 f3 f4 f5⟩
  self := fun _ _ _ _ _ st h => by
    rcases hty with rfl | rfl
    · exact wpAny_pyIter_striter_ascii st h
    · exact wpAny_pyIter_striter_wide st h
noncomputable def iStr (tl : TE) : TI := fun σ H R => tl σ H fun x H1 => ∃ z, x = .str z ∧ R (Its z) H1
theorem pi_str {X : Cx} {tg l : Expr} {tl : TE} (hl : PE X l tl) : PI X tg l (iStr tl) := by
  intro pins s σ H R I h
  refine thn (hl pins s σ H _ I h) fun v s1 ⟨x, H1, I1, r1, q1⟩ => ?_
  obtain ⟨z, e, q⟩ := q1
  subst e
  obtain ⟨t, rfl⟩ := r1
  refine wpAny_pyIter_strU ?_
  refine ⟨s1.heap.objs.size, [s1.heap.objs.size], _, _, H1, rfl, I1.kept (t' := s1.toks) fun b o e => Heap.get?_push_of_some _ e, turn_str (ty := strIterType z) (t := t) z _ ?_, ⟨_, Heap.get?_push_size _ rfl, rfl, rfl⟩, fun b hb => ?_, q⟩
  · unfold strIterType
    split
    · exact .inl rfl
    · exact .inr rfl
  · have e : b = s1.heap.objs.size := by simpa using hb
    subst e
    exact I1.fpOk (Nat.le_refl _) (I1.hok.fresh (Nat.le_refl _))
end L2

set_option Elab.async false
set_option linter.all false
set_option maxRecDepth 100000
set_option maxHeartbeats 4000000
namespace L2
open PySem PySem.Spec PyProof.Rows

/-! ### a comprehension -/
noncomputable def Wk : St → St → Prop
  | [], [] => True
  | Option.none :: r, _ :: q => Wk r q
  | some a :: r, b :: q => b = some a ∧ Wk r q
  | _, _ => False
theorem Wk.len : ∀ {a b : St}, Wk a b → a.length = b.length
  | [], [], _ => rfl
  | Option.none :: r, _ :: q, h => congrArg (· + 1) (Wk.len (a := r) (b := q) h)
  | some _ :: r, _ :: q, h => congrArg (· + 1) (Wk.len (a := r) (b := q) h.2)
  | [], _ :: _, h => h.elim
  | Option.none :: _, [], h => h.elim
  | some _ :: _, [], h => h.elim
theorem Wk.get : ∀ {a b : St}, Wk a b → ∀ (i : Nat) v, a[i]? = some (some v) → b[i]? = some (some v)
  | [], [], _, i, v, e => by simp at e
  | Option.none :: r, y :: q, h, 0, v, e => by simp at e
  | Option.none :: r, y :: q, h, i + 1, v, e => by simpa using Wk.get (a := r) (b := q) h i v (by simpa using e)
  | some x :: r, y :: q, h, 0, v, e => by
    have e' : x = v := by simpa using e
    rw [h.1, e'] <;> simp
  | some x :: r, y :: q, h, i + 1, v, e => by simpa using Wk.get (a := r) (b := q) h.2 i v (by simpa using e)
  | [], _ :: _, h, _, _, _ => h.elim
  | Option.none :: _, [], h, _, _, _ => h.elim
  | some _ :: _, [], h, _, _, _ => h.elim
noncomputable def clOf (cells : List (Str × Addr)) : List (Str × NameKind) → List (Str × Addr) → List (Str × Addr)
  | [], acc => acc
  | (n, k) :: r, acc => if k == .free then clOf cells r ((n, (cells.lookup n).getD 0) :: acc) else clOf cells r acc
theorem closureFor_clOf {sc : Scope} {env : Env} (h : ∀ y ∈ sc.names, y.2 = .free → ∃ c, env.cells.lookup y.1 = some c) : closureFor sc env = pure (clOf env.cells sc.names []) := by
  unfold closureFor
  have key : ∀ (l : List (Str × NameKind)) (acc : List (Str × Addr)), (∀ y ∈ l, y.2 = .free → ∃ c, env.cells.lookup y.1 = some c) →
      (forIn l acc fun x r => match x with | (name, kind) => if (kind == .free) = true then do let a ← cellOf env name; pure (ForInStep.yield ((name, a) :: r)) else pure (ForInStep.yield r) : Sem (List (Str × Addr))) = pure (clOf env.cells l acc) := by
    intro l
    induction l with
    | nil => intro acc _; rfl
    | cons y r ih =>
      intro acc hy
      obtain ⟨n, k⟩ := y
      have hr : ∀ y ∈ r, y.2 = .free → ∃ c, env.cells.lookup y.1 = some c := fun y hm => hy y (List.mem_cons_of_mem _ hm)
      rw [List.forIn_cons]
      by_cases hk : k = .free
      · subst hk
        obtain ⟨c, hc⟩ := hy (n, .free) List.mem_cons_self rfl
        have e1 : cellOf env n = pure c := by unfold cellOf; rw [hc]
        have e2 : clOf env.cells ((n, .free) :: r) acc = clOf env.cells r ((n, c) :: acc) := by
          show (if (NameKind.free == NameKind.free) = true then clOf env.cells r ((n, (env.cells.lookup n).getD 0) :: acc) else clOf env.cells r acc) = _
          rw [if_pos (by decide), hc]; rfl
        rw [e2, ← ih ((n, c) :: acc) hr]
        show (do let x ← (if (NameKind.free == NameKind.free) = true then do let a ← cellOf env n; pure (ForInStep.yield ((n, a) :: acc)) else pure (ForInStep.yield acc) : Sem _); _) = _
        rw [if_pos (by decide), e1]
        rfl
      · have hb : (k == NameKind.free) = false := by simpa using hk
        have e2 : clOf env.cells ((n, k) :: r) acc = clOf env.cells r acc := by
          show (if (k == NameKind.free) = true then clOf env.cells r ((n, (env.cells.lookup n).getD 0) :: acc) else clOf env.cells r acc) = _
          rw [hb]; rfl
        rw [e2, ← ih acc hr]
        show (do let x ← (if (k == NameKind.free) = true then do let a ← cellOf env n; pure (ForInStep.yield ((n, a) :: acc)) else pure (ForInStep.yield acc) : Sem _); _) = _
        rw [hb]
        rfl
  have := key sc.names [] h
  first | exact this | (rw [this]; rfl) | simpa using this
theorem clOf_lookup {cells : List (Str × Addr)} : ∀ {l : List (Str × NameKind)} {acc : List (Str × Addr)} {n : Str} {c : Addr}, (∀ y ∈ l, y.2 = .free → ∃ c, cells.lookup y.1 = some c) → (∀ n c, acc.lookup n = some c → cells.lookup n = some c) →
    (clOf cells l acc).lookup n = some c → cells.lookup n = some c
  | [], acc, n, c, _, ha, e => ha n c e
  | (m, k) :: r, acc, n, c, hl, ha, e => by
    have hr : ∀ y ∈ r, y.2 = .free → ∃ c, cells.lookup y.1 = some c := fun y hm => hl y (List.mem_cons_of_mem _ hm)
    have e' : (if (k == NameKind.free) = true then clOf cells r ((m, (cells.lookup m).getD 0) :: acc) else clOf cells r acc).lookup n = some c := e
    by_cases hk : (k == NameKind.free) = true
    · rw [if_pos hk] at e'
      refine clOf_lookup hr (fun n c z => ?_) e'
      obtain ⟨d, hd⟩ := hl (m, k) List.mem_cons_self (by simpa using hk)
      rw [List.lookup_cons] at z
      by_cases hn : (n == m) = true
      · rw [hn] at z
        have : n = m := by simpa using hn
        subst this
        have hd' : cells.lookup n = some d := hd
        rw [hd'] at z ⊢
        simpa using z
      · have hn' : (n == m) = false := by simpa using hn
        rw [hn'] at z
        exact ha n c z
    · rw [if_neg hk] at e'
      exact clOf_lookup hr ha e'
theorem clOf_some {cells : List (Str × Addr)} : ∀ {l : List (Str × NameKind)} {acc : List (Str × Addr)} {n : Str}, ((n, NameKind.free) ∈ l ∨ ∃ c, acc.lookup n = some c) → ∃ c, (clOf cells l acc).lookup n = some c
  | [], acc, n, h => by
    rcases h with h | h
    · cases h
    · exact h
  | (m, k) :: r, acc, n, h => by
    show ∃ c, (if (k == NameKind.free) = true then clOf cells r ((m, (cells.lookup m).getD 0) :: acc) else clOf cells r acc).lookup n = some c
    have hcons : ∀ a, n = m ∨ (∃ c, acc.lookup n = some c) → ∃ c, ((m, a) :: acc).lookup n = some c := fun a z => by
      rw [List.lookup_cons]
      by_cases hn : (n == m) = true
      · rw [hn]; exact ⟨_, rfl⟩
      · have hn' : (n == m) = false := by simpa using hn
        rw [hn']
        rcases z with z | z
        · exact absurd (by simpa using z) hn
        · exact z
    by_cases hk : (k == NameKind.free) = true
    · rw [if_pos hk]
      refine clOf_some ?_
      rcases h with h | h
      · rcases List.mem_cons.mp h with e | h
        · exact .inr (hcons _ (.inl (congrArg Prod.fst e)))
        · exact .inl h
      · exact .inr (hcons _ (.inr h))
    · rw [if_neg hk]
      refine clOf_some ?_
      rcases h with h | h
      · rcases List.mem_cons.mp h with e | h
        · have : k = .free := (congrArg Prod.snd e).symm
          rw [this] at hk
          exact absurd (by decide) hk
        · exact .inl h
      · exact .inr h
noncomputable def rlb (env : Env) (p : Str × NameKind) : Str × NameKind := if (p.2 == NameKind.free && env.scope.kind == ScopeKind.function && env.kindOf p.1 == some NameKind.cell) = true then (p.1, NameKind.cell) else p
theorem relabel_names (sc : Scope) (env : Env) : (relabel sc env).names = sc.names.map (rlb env) := rfl
theorem rlb_fst (env : Env) (p : Str × NameKind) : (rlb env p).1 = p.1 := by
  unfold rlb
  split <;> rfl
theorem rlb_free {env : Env} {p : Str × NameKind} (h : p.2 ≠ .cell) (h2 : (rlb env p).2 = .cell ∨ (rlb env p).2 = .free) : p.2 = .free := by
  unfold rlb at h2
  split at h2
  · rename_i q
    rw [Bool.and_eq_true, Bool.and_eq_true] at q
    simpa using q.1.1
  · rcases h2 with h2 | h2
    · exact absurd h2 h
    · exact h2
theorem relabel_free' {env : Env} : ∀ {names : List (Str × NameKind)} {x : Str} {k : NameKind}, (∀ y ∈ names, y.2 ≠ .cell) → (k = .cell ∨ k = .free) → (names.map (rlb env)).lookup x = some k → (x, NameKind.free) ∈ names
  | [], x, k, _, _, e => by simp at e
  | p :: r, x, k, hc, hk, e => by
    have hr : ∀ y ∈ r, y.2 ≠ .cell := fun y hm => hc y (List.mem_cons_of_mem _ hm)
    have e0 : rlb env p = (p.1, (rlb env p).2) := by rw [← rlb_fst env p]
    rw [List.map_cons, e0, List.lookup_cons] at e
    by_cases hx : x = p.1
    · have hb : (x == p.1) = true := by simpa using hx
      rw [hb] at e
      have e2 : (rlb env p).2 = k := Option.some.inj e
      have hj := rlb_free (env := env) (hc p List.mem_cons_self) (by rw [e2]; exact hk)
      have : (x, NameKind.free) = p := by rw [hx, ← hj]
      rw [this]
      exact List.mem_cons_self
    · have hb : (x == p.1) = false := by simpa using hx
      rw [hb] at e
      exact List.mem_cons_of_mem _ (relabel_free' hr hk e)
theorem relabel_free {env : Env} {sc : Scope} {x : Str} {k : NameKind} (hc : ∀ y ∈ sc.names, y.2 ≠ .cell) (hk : k = .cell ∨ k = .free) (e : (relabel sc env).names.lookup x = some k) : (x, NameKind.free) ∈ sc.names :=
  relabel_free' (env := env) hc hk (by rw [← relabel_names]; exact e)

/-- the values that a block sees at its start: of the names it takes from around it -/
noncomputable def blkS (ix : List (Option Nat)) (σ : St) : St := ix.map fun o => o.bind fun i => (σ[i]?).join
noncomputable def FreeOk (XN : List Str) (env : Env) (sc : Scope) : List Str → List (Option Nat) → Prop
  | [], [] => True
  | _ :: N, Option.none :: ix => FreeOk XN env sc N ix
  | y :: N, some i :: ix => XN[i]? = some y ∧ env.kindOf y = some .cell ∧ (relabel sc env).names.lookup y = some .cell ∧ FreeOk XN env sc N ix
  | _, _ => False
theorem FreeOk.len {XN : List Str} {env : Env} {sc : Scope} : ∀ {N : List Str} {ix : List (Option Nat)}, FreeOk XN env sc N ix → ix.length = N.length
  | [], [], _ => rfl
  | _ :: N, Option.none :: ix, h => congrArg (· + 1) (FreeOk.len (N := N) (ix := ix) h)
  | _ :: N, some _ :: ix, h => congrArg (· + 1) (FreeOk.len (N := N) (ix := ix) h.2.2.2)
  | [], _ :: _, h => h.elim
  | _ :: _, [], h => h.elim
theorem FreeOk.get {XN : List Str} {env : Env} {sc : Scope} : ∀ {N : List Str} {ix : List (Option Nat)}, FreeOk XN env sc N ix → ∀ (j : Nat) (y : Str) (i : Nat), N[j]? = some y → ix[j]? = some (some i) →
    XN[i]? = some y ∧ env.kindOf y = some .cell ∧ (relabel sc env).names.lookup y = some .cell
  | [], [], _, j, y, i, e, _ => by simp at e
  | _ :: N, Option.none :: ix, h, 0, y, i, e, e2 => by simp at e2
  | _ :: N, Option.none :: ix, h, j + 1, y, i, e, e2 => FreeOk.get (N := N) (ix := ix) h j y i (by simpa using e) (by simpa using e2)
  | z :: N, some k :: ix, h, 0, y, i, e, e2 => by
    have e' : z = y := by simpa using e
    have e2' : k = i := by simpa using e2
    subst e'; subst e2'
    exact ⟨h.1, h.2.1, h.2.2.1⟩
  | _ :: N, some _ :: ix, h, j + 1, y, i, e, e2 => FreeOk.get (N := N) (ix := ix) h.2.2.2 j y i (by simpa using e) (by simpa using e2)
  | [], _ :: _, h, _, _, _, _, _ => h.elim
  | _ :: _, [], h, _, _, _, _, _ => h.elim

/-- the context of a comprehension's block -/
noncomputable def cxB (X : Cx) (sc : Scope) (C : Addr) (N : List Str) (s₀ : Shared) (H₀ : Hp) (fp : List Addr) : Cx :=
  { X with N := N, s₀ := s₀, H₀ := H₀, env := compEnvC sc (clOf X.env.cells sc.names []) C X.env, outer := X.stack, ex := fp, fn := fun _ => false, pn := [], xe := fun _ _ => False }
structure CompOk (X : Cx) (sc : Scope) (N : List Str) (ix : List (Option Nat)) : Prop where
  kind : sc.kind = .function
  nocell : (sc.names.all fun y => y.2 != .cell) = true
  names : (sc.names.all fun y => y.2 != .local || sc.names.lookup y.1 == some .local) = true
  free : (sc.names.all fun y => y.2 != .free || X.env.scope.names.lookup y.1 == some .cell) = true
  fr : FreeOk X.N X.env sc N ix
section
variable {X : Cx} {sc : Scope} {N : List Str} {ix : List (Option Nat)} {pins : List (Addr × Obj)} {σ : St} {H : Hp} {s : Shared}
theorem CompOk.cells (c : CompOk X sc N ix) (ok : X.Ok) : ∀ y ∈ sc.names, y.2 = .free → ∃ c, X.env.cells.lookup y.1 = some c := fun y hy e => by
  have h := List.all_eq_true.mp c.free y hy
  rw [e] at h
  have h' : X.env.scope.names.lookup y.1 = some .cell := by simpa using h
  exact ok.has y.1 (.inl h')
theorem CompOk.nc (c : CompOk X sc N ix) : ∀ y ∈ sc.names, y.2 ≠ .cell := fun y hy => by simpa using List.all_eq_true.mp c.nocell y hy
theorem CompOk.nm (c : CompOk X sc N ix) : ∀ y ∈ sc.names, y.2 = .local → sc.names.lookup y.1 = some .local := fun y hy e => by
  have h := List.all_eq_true.mp c.names y hy
  rw [e] at h
  simpa using h
/-- the block begins: s₂ the state at its entry (the iterator is made), s₄ behind the frame's making -/
theorem inv_block {C : Addr} {fp : List Addr} {h₁ : Heap} {t' : Nat} (c : CompOk X sc N ix) (I : Inv X pins σ H s) (hf : ∀ b ∈ fp, FpOk X pins H b) (hfp : ∀ b ∈ fp, b < s.heap.objs.size) (hC : s.heap.objs.size ≤ C)
    (hn : h₁.Ns C (fun _ => none)) (old : ∀ b o, s.heap.get? b = some o → h₁.get? b = some o) : Inv (cxB X sc C N s H fp) [] (blkS ix σ) H { s with heap := h₁, toks := t' } := by
  have hcells := c.cells I.ok
  have sub : ∀ n c, (clOf X.env.cells sc.names []).lookup n = some c → X.env.cells.lookup n = some c := fun n c e => clOf_lookup hcells (fun n c z => by simp at z) e
  refine ⟨⟨I.ok.mod, c.kind, I.ok.glob, I.ok.blt, hC, fun x y d h1 h2 => I.ok.inj x y d (sub x d h1) (sub y d h2), fun x hx => ?_, fun x d z => absurd z (by simp [cxB]), I.ok.hd, I.ok.frames, .inl rfl, fun b hb => ⟨?_, fun x d e => ?_⟩, I.bs, Nat.le_trans I.ok.bsz I.sz, fun b o e hb => ?_, fun b hb hs => ?_, I.stack, I.stkFree⟩,
    rfl, I.bare, Un.kept old, ⟨_, hn, fun j y v e1 e2 e3 => ?_⟩, fun x d e => ?_, I.hok.fresh hC, fun x d e => I.freeC x d (sub x d e), fun p hp => absurd (show p ∈ ([] : List (Addr × Obj)) from hp) (by simp), I.hok.kept old, ?_⟩
  · refine clOf_some (.inl ?_)
    rcases hx with hx | hx
    · exact relabel_free c.nc (.inl rfl) (show (relabel sc X.env).names.lookup x = some .cell from hx)
    · exact relabel_free c.nc (.inr rfl) (show (relabel sc X.env).names.lookup x = some .free from hx)
  · exact Nat.ne_of_lt (Nat.lt_of_lt_of_le (hfp b hb) hC)
  · exact (hf b hb).2.2.2.2.1 x d (sub x d e)
  · rcases (hf b hb).2.2.2.1 with z | z
    · exact I.ok.noex b o e z
    · exact absurd (Nat.lt_of_lt_of_le (Heap.lt_size e) (Nat.le_trans I.ok.bsz z)) (Nat.lt_irrefl _)
  · rcases List.mem_cons.mp (I.stkSub b hs) with z | z
    · exact (hf b hb).2.1 z
    · exact (hf b hb).2.2.1 z
  · have hj : ∃ i, ix[j]? = some (some i) ∧ σ[i]? = some (some v) := by
      unfold blkS at e2
      rw [List.getElem?_map] at e2
      cases q : ix[j]? with
      | none => rw [q] at e2; cases e2
      | some o =>
        rw [q] at e2
        cases o with
        | none => cases e2
        | some i =>
          refine ⟨i, rfl, ?_⟩
          have e2' : (σ[i]?).join = some v := Option.some.inj e2
          cases q2 : σ[i]? with
          | none => rw [q2] at e2'; cases e2'
          | some w => rw [q2] at e2'; exact congrArg some e2'
    obtain ⟨i, hi, hv⟩ := hj
    obtain ⟨k1, k2, k3⟩ := c.fr.get j y i e1 hi
    obtain ⟨m, hm, hl⟩ := I.loc
    obtain ⟨u, r, l⟩ := hl i y v k1 hv (.inr (.inl k2))
    refine ⟨u, r, ?_⟩
    rcases l with ⟨z, _⟩ | ⟨_, d, hd, hcell⟩
    · rw [k2] at z; cases z
    · obtain ⟨d', hd'⟩ : ∃ d', (clOf X.env.cells sc.names []).lookup y = some d' := clOf_some (.inl (relabel_free c.nc (.inl rfl) k3))
      have := sub y d' hd'
      rw [hd] at this
      cases this
      exact .inr ⟨.inl k3, d, hd', hcell.keeps old⟩
  · obtain ⟨v, z⟩ := I.cell x d (sub x d e)
    exact ⟨v, z.keeps old⟩
  · show (blkS ix σ).length = N.length
    unfold blkS
    rw [List.length_map, c.fr.len]
/-- the block ends -/
theorem inv_unblock {C : Addr} {fp : List Addr} {pins' : List (Addr × Obj)} {σ' : St} {H' : Hp} {s' : Shared} (I : Inv X pins σ H s) (hf : ∀ b ∈ fp, FpOk X pins H b) (J : Inv (cxB X sc C N s H fp) pins' σ' H' s') : Inv X pins σ H' s' := by
  refine I.call' (ch := fp) J.os J.base J.hok J.bare fun b hb => ?_
  obtain ⟨f0, f1, f2, f3, f4, f5⟩ := hf b hb
  exact ⟨f3, f1, f4, f5⟩
end
noncomputable def PTs (X : Cx) (ifs : List Expr) (t : TT) : Prop :=
  ∀ (pins : List (Addr × Obj)) (s : Shared) (σ : St) (H : Hp) (Q : Bool → Hp → Prop), Inv X pins σ H s → t σ H Q →
    wpAny (model X.prog X.w) X.A (forIn ifs true fun c r => if r = true then do let ok ← isTrue c X.env (eval c X.env); pure (ForInStep.yield ok) else pure (ForInStep.yield r)) (TP X pins σ Q) X.xe s
noncomputable def tAll : TT := fun _ H Q => Q true H
theorem pts_nil {X : Cx} : PTs X [] tAll := fun _ _ _ H _ I h => wpAny_tests_nil ⟨H, I, h⟩
/-- what a comprehension asks: W by the turn, a measure, the items so far -/
noncomputable def CompW (J : It) (D : Addr) (σb : St) (g : TG) (tt : TT) (te : TE) (Q : Hp → List V → Prop) (W : Nat → Nat → List V → Hp → Prop) : Prop :=
  ∀ i m ys H, W i m ys H → H D = some (.lst ys) ∧ ((J.stop i H ∧ Q H ys) ∨ (J.go i H ∧ ∀ x H3, J.yld i H x H3 → g x σb H3 fun σ4 H4 => Wk σb σ4 ∧ tt σ4 H4 fun b H5 =>
    if b = true then te σ4 H5 fun y H6 => H6 D = some (.lst ys) ∧ ys.length < sizeLine ∧ ∃ m', m' < m ∧ W (i + 1) m' (ys ++ [y]) (upd H6 D (.lst (ys ++ [y]))) else ∃ m', m' < m ∧ W (i + 1) m' ys H5))
noncomputable def tComp (ix : List (Option Nat)) (wi : TI) (g : TG) (tt : TT) (te : TE) : TE := fun σ H Q => wi σ H fun J H1 => ∀ D, H1 D = none → ∃ W, (∃ m, W 0 m [] (upd H1 D (.lst []))) ∧ CompW J D (blkS ix σ) g tt te (fun H _ => Q (.ref D) H) W

section
variable {X : Cx} {sc : Scope} {N : List Str} {ix : List (Option Nat)} {elt tg iter : Expr} {ifs : List Expr} {pos : Pos} {wi : TI} {g : TG} {tt : TT} {te : TE}
/-- the block's rules, in every context that it may run in -/
structure Blk (X : Cx) (sc : Scope) (N : List Str) (tg elt : Expr) (ifs : List Expr) (g : TG) (tt : TT) (te : TE) : Prop where
  tg : ∀ C s H fp, PG (cxB X sc C N s H fp) tg g
  tests : ∀ C s H fp, PTs (cxB X sc C N s H fp) ifs tt
  elt : ∀ C s H fp, PE (cxB X sc C N s H fp) elt te
theorem comp_loop {J : It} {fp : List Addr} {it D : Addr} {tn : Nat → Heap → Prop} {σb : St} {Q : Hp → List V → Prop} {R : Result → Shared → Prop} {W : Nat → Nat → List V → Hp → Prop}
    (hc : X.calm = true) (hxe : X.xe = fun _ _ => False) (T : Turn X.prog X.w X.K tg J fp it tn) (hg : PG X tg g) (ht : PTs X ifs tt) (he : PE X elt te) (turn : CompW J D σb g tt te Q W)
    (stat : ∀ {H' : Hp}, (∀ b ∈ fp, H' b = none) → ∀ b ∈ fp, FpOk X [] H' b)
    (fin : ∀ {σ' : St} {H' : Hp} {s' : Shared} {ys : List V}, Inv X [] σ' H' s' → Q H' ys → R (.ok .next) s')
    {m0 i0 : Nat} {ys0 : List V} {H0 : Hp} {s0 : Shared} (I0 : Inv X [] σb H0 s0) (st0 : tn i0 s0.heap) (fr0 : ∀ b ∈ fp, H0 b = none) (w0 : W i0 m0 ys0 H0) :
    codeAny (model X.prog X.w) X.A (.compLoop (.ListComp elt [⟨tg, iter, ifs, 0⟩] sc pos) 0 (.ref it) (.ref D) X.env) R s0 := by
  have noE : ∀ {E' : Value → Shared → Prop} (e : Value) (s' : Shared), X.xe e s' → E' e s' := fun {E'} e s' z => by rw [hxe] at z; exact z.elim
  refine codeAny_loop rfl (fun n s' => ∃ i ys H', Inv X [] σb H' s' ∧ tn i s'.heap ∧ (∀ b ∈ fp, H' b = none) ∧ W i n ys H') ?_ m0 ⟨i0, ys0, H0, I0, st0, fr0, w0⟩
  rintro n s3 ⟨i, ys, H3, I3, st3, fr3, w3⟩
  show wpAny _ X.A ((compTurn (.ListComp elt [⟨tg, iter, ifs, 0⟩] sc pos) 0 (.ref it) (.ref D) X.env).onRaise (fun x => do noteFrame x X.env; theTreesLotGoes x)) _ _ s3
  refine wpAny_noted ?_
  rw [compTurn_list]
  refine wpAny_bind (wpAny_standAt (wpAny_bind ?_))
  obtain ⟨hDl, next⟩ := turn i n ys H3 w3
  rcases next with ⟨stop, q⟩ | ⟨go, step⟩
  · refine thn (T.done X rfl rfl rfl hc i [] s3 σb H3 _ I3 (stat fr3) st3 stop) fun r s4 ⟨hr, I4⟩ => ?_
    subst hr
    exact wpAny_pure (fin I4 q)
  · refine thn (T.item X rfl rfl rfl hc i [] s3 σb H3 _ I3 (stat fr3) st3 go) fun r s4 ⟨u, hr, h4⟩ => ?_
    subst hr
    refine wpAny_bind (thn h4 fun _ s5 ⟨x, H5, I5, r5, y5, st5, fr5⟩ => ?_)
    have I5' := I5.pinned (stat fr5) (T.obj _ _ st5)
    have back : ∀ {σ' : St} {H' : Hp} {s' : Shared}, Inv X ([] ++ pinsAt fp s5.heap) σ' H' s' → Wk σb σ' → Inv X [] σb H' s' ∧ tn (i + 1) s'.heap ∧ ∀ b ∈ fp, H' b = none := fun {σ' H' s'} I7 wk => by
      refine ⟨(I7.unpinned).weak wk.len wk.get, T.keep _ _ _ st5 fun b hb o e => (I7.pin (b, o) (List.mem_append_right _ (List.mem_append_right _ (mem_pinsAt hb e)))).1, fun b hb => ?_⟩
      obtain ⟨o, e, d⟩ := T.obj _ _ st5 b hb
      exact (I7.pin (b, o) (List.mem_append_right _ (List.mem_append_right _ (mem_pinsAt hb e)))).2.1
    refine wpAny_bind (wpAny_mono (hg _ s5 σb H5 x u _ I5' r5 (step x H5 y5)) (fun _ s6 ⟨σ6, H6, I6, wk, q6⟩ => ?_) noE)
    refine wpAny_bind (wpAny_mono (ht _ s6 σ6 H6 _ I6 q6) (fun ok s7 ⟨H7, I7, q7⟩ => ?_) noE)
    cases ok with
    | false =>
      obtain ⟨m', hm, w7⟩ := q7
      obtain ⟨b1, b2, b3⟩ := back I7 wk
      exact wpAny_pure ⟨rfl, m', hm, i + 1, ys, H7, b1, b2, b3, w7⟩
    | true =>
      refine wpAny_bind (wpAny_bind (wpAny_mono (he _ s7 σ6 H7 _ I7 q7) (fun v s8 ⟨y, H8, I8, r8, hD8, hl8, m', hm, w8⟩ => ?_) noE))
      refine wpAny_bind (wpAny_mono (mt_append _ s8 σ6 H8 (.ref D) [y] (.ref D) [v] (fun _ H9 => H9 = upd H8 D (.lst (ys ++ [y]))) I8 rfl (.cons r8 .nil) ⟨D, ys, y, rfl, rfl, hD8, hl8, rfl⟩) (fun _ s9 ⟨z, H9, I9, _, e9⟩ => ?_) noE)
      subst e9
      obtain ⟨b1, b2, b3⟩ := back I9 wk
      exact wpAny_pure (wpAny_pure ⟨rfl, m', hm, i + 1, ys ++ [y], _, b1, b2, b3, w8⟩)
theorem comp_core {pins : List (Addr × Obj)} {σ : St} {H : Hp} {s : Shared} {E : Value → Shared → Prop} {RR : Value → Addr → Result → Shared → Prop} {it : Addr} {fp : List Addr} {tn : Nat → Heap → Prop} {J : It} {Q : Addr → Hp → List V → Prop}
    (hc : X.calm = true) (c : CompOk X sc N ix) (B : Blk X sc N tg elt ifs g tt te) (I : Inv X pins σ H s) (T : Turn X.prog X.w X.K tg J fp it tn) (st : tn 0 s.heap) (hf : ∀ b ∈ fp, FpOk X pins H b)
    (h : ∀ D, H D = none → ∃ W, (∃ m, W 0 m [] (upd H D (.lst []))) ∧ CompW J D (blkS ix σ) g tt te (Q D) W)
    (hR : ∀ D C H' s' ys, Inv X pins σ H' s' → FpOk X pins H' C → (∃ m, s'.heap.Ns C m) → Q D H' ys → RR (.ref D) C (.ok .next) s') :
    wpAny (model X.prog X.w) X.A (newList []) (fun acc s₃ => wpAny (model X.prog X.w) X.A (newFunctionEnv sc X.env.globals (clOf X.env.cells sc.names []) [] X.env.qual none .none (some X.env)) (fun cenv s₄ =>
      codeAny (model X.prog X.w) X.A (.compStart (.ListComp elt [⟨tg, iter, ifs, 0⟩] sc pos) 0 (.ref it) acc { cenv with scope := relabel sc X.env }) (RR acc cenv.locals) s₄) E s₃) E s := by
  have hlt : ∀ b ∈ fp, b < s.heap.objs.size := fun b hb => let ⟨o, e, _⟩ := T.obj _ _ st b hb; Heap.lt_size e
  refine wpAny_newObj_type ?_ (by show 0 ≤ sizeLine; exact Nat.zero_le _)
  have hD : H s.heap.objs.size = none := I.hok.fresh (Nat.le_refl _)
  obtain ⟨W, ⟨m0, w0⟩, turn⟩ := h s.heap.objs.size hD
  have I1 : Inv X pins σ (upd H s.heap.objs.size (.lst [])) { s with heap := s.heap.push { cls := .type "list", data := .seq ([] : List Value).toArray } } := I.lnew (t' := s.toks) (its := []) .nil (Nat.zero_le _)
  have k1 : ∀ b o, s.heap.get? b = some o → (s.heap.push { cls := .type "list", data := .seq ([] : List Value).toArray }).get? b = some o := fun b o e => Heap.get?_push_of_some _ e
  have hne : ∀ b ∈ fp, b ≠ s.heap.objs.size := fun b hb => Nat.ne_of_lt (hlt b hb)
  have hf1 : ∀ b ∈ fp, FpOk X pins (upd H s.heap.objs.size (.lst [])) b := fun b hb => ⟨by rw [upd_ne (hne b hb)]; exact (hf b hb).1, (hf b hb).2⟩
  have st1 : tn 0 (s.heap.push { cls := .type "list", data := .seq ([] : List Value).toArray }) := T.keep _ _ _ st fun b _ o e => k1 b o e
  generalize hs1 : ({ s with heap := s.heap.push { cls := .type "list", data := .seq ([] : List Value).toArray } } : Shared) = s1 at I1
  have hs1h : s1.heap = s.heap.push { cls := .type "list", data := .seq ([] : List Value).toArray } := by rw [← hs1]
  generalize hDe : s.heap.objs.size = D at *
  show wpAny _ _ _ _ _ s1
  refine wpAny_newFunctionEnv c.nc (by intro y hy; simp at hy) (fun h₁ hns₁ hsb₁ => ?_) c.kind
  have old : ∀ b o, s1.heap.get? b = some o → h₁.get? b = some o := fun b o e => (hsb₁.2 b (Nat.ne_of_lt (Heap.lt_size e))).trans (Heap.get?_push_of_some _ e)
  have hlt1 : ∀ b ∈ fp, b < s1.heap.objs.size := fun b hb => by
    obtain ⟨o, e, _⟩ := T.obj _ _ st1 b hb
    rw [hs1h]
    exact Heap.lt_size e
  have J0 := inv_block (h₁ := h₁) (t' := s1.toks + ([] : List (Str × Value)).length) c I1 hf1 hlt1 (Nat.le_refl _) (by simpa using hns₁) old
  have stB : tn 0 h₁ := T.keep _ _ _ (by rw [hs1h]; exact st1 : tn 0 s1.heap) fun b _ o e => old b o e
  have fpB : ∀ {H' : Hp}, (∀ b ∈ fp, H' b = none) → ∀ b ∈ fp, FpOk (cxB X sc s1.heap.objs.size N s1 (upd H D (.lst [])) fp) [] H' b := fun {H'} hn b hb => by
    obtain ⟨f0, f1, f2, f3, f4, f5⟩ := hf1 b hb
    refine ⟨hn b hb, Nat.ne_of_lt (hlt1 b hb), ?_, .inl hb, fun x d e => f4 x d (clOf_lookup (c.cells I.ok) (fun n c z => by simp at z) e), fun p hp => absurd (show p ∈ ([] : List (Addr × Obj)) from hp) (by simp)⟩
    intro z
    rcases List.mem_cons.mp (I1.stkSub b z) with q | q
    · exact f1 q
    · exact f2 q
  have fin : ∀ {σ' : St} {H' : Hp} {s' : Shared} {ys : List V}, Inv (cxB X sc s1.heap.objs.size N s1 (upd H D (.lst [])) fp) [] σ' H' s' → Q D H' ys → RR (.ref D) s1.heap.objs.size (.ok .next) s' := fun {σ' H' s' ys} J q =>
    hR D _ H' s' ys (inv_unblock I1 hf1 J) (I1.fpOk (Nat.le_refl _) J.free) (let ⟨m, hn, _⟩ := J.loc; ⟨m, hn⟩) q
  have loop : codeAny (model X.prog X.w) X.A (.compLoop (.ListComp elt [⟨tg, iter, ifs, 0⟩] sc pos) 0 (.ref it) (.ref D) (cxB X sc s1.heap.objs.size N s1 (upd H D (.lst [])) fp).env) (RR (.ref D) s1.heap.objs.size) { s1 with heap := h₁, toks := s1.toks + ([] : List (Str × Value)).length } :=
    comp_loop (X := cxB X sc s1.heap.objs.size N s1 (upd H D (.lst [])) fp) hc rfl T (B.tg _ _ _ _) (B.tests _ _ _ _) (B.elt _ _ _ _) turn fpB fin J0 stB (fun b hb => (hf1 b hb).1) w0
  exact codeAny_compStart_list loop (T.self _ 0 _ _ _ stB loop)
theorem pe_comp (hc : X.calm = true) (c : CompOk X sc N ix) (hi : PI X tg iter wi) (B : Blk X sc N tg elt ifs g tt te) (hs : ∀ x, foldedSetIterable iter X.env x = pure x := by intro _; rfl) : PE X (.ListComp elt [⟨tg, iter, ifs, 0⟩] sc pos) (tComp ix wi g tt te) := by
  intro pins s σ H Q I h
  rw [eval_ListComp]
  refine wpAny_comprehension_free (use := none) rfl hs (closureFor_clOf (c.cells I.ok)) c.kind c.nm (thn (hi pins s σ H _ I h) fun xv s₁ h₁ => thn h₁ fun itv s₂ h₂ => ?_)
  obtain ⟨it, fp, tn, J, H2, e, I2, T, st2, f2, q2⟩ := h₂
  subst e
  refine comp_core (RR := fun acc C => compPost (model X.prog X.w) X.A X.xe none (EP X pins σ Q) acc C) (Q := fun D H _ => Q (.ref D) H) hc c B I2 T st2 f2 q2 ?_
  intro D C H' s' ys I' fC ns q
  refine ⟨_, ns.choose_spec, fun h' sb => ⟨.ref D, H', ?_, rfl, q⟩⟩
  obtain ⟨f0, f1, f2, f3, f4, f5⟩ := fC
  exact I'.turned (t' := s'.toks) (fun b o hb e => (sb.2 b hb).trans e) f0 f1 f3 f4 f5
/-- name = [..]: the store comes ahead of the block's end -/
theorem ps_setC {i : Nat} {y : Str} {py spos : Pos} (hc : X.calm = true) (hN : X.N.Nodup) (hy : X.N[i]? = some y) (hl : X.env.scope.names.lookup y = some .local)
    (hsw : swapsWith (.ListComp elt [⟨tg, iter, ifs, 0⟩] sc pos) (some (.Name y py)) spos.line X.env = pure true)
    (c : CompOk X sc N ix) (hi : PI X tg iter wi) (B : Blk X sc N tg elt ifs g tt te) (hs : ∀ x, foldedSetIterable iter X.env x = pure x := by intro _; rfl) :
    PS X (.Assign [.Name y py] (.ListComp elt [⟨tg, iter, ifs, 0⟩] sc pos) spos) (tAsg (tComp ix wi g tt te) (gName i)) := by
  intro pins s σ H D0 I h
  rw [exec_Assign_Name_used _ _ _ _ hsw]
  refine wpAny_bind (wpAny_standAt (wpAny_bind ?_))
  show wpAny _ X.A (do let _ ← comprehension (.ListComp elt [⟨tg, iter, ifs, 0⟩] sc pos) sc X.env _ (newList []) false (eval iter X.env) (some (assign (.Name y py) X.env))) _ _ s
  refine wpAny_bind (wpAny_mono (wpAny_comprehension_free (use := some (assign (.Name y py) X.env)) (Q := fun _ s' => SP X pins D0 .next s') rfl hs (closureFor_clOf (c.cells I.ok)) c.kind c.nm
    (thn (hi pins s σ H _ I h) fun xv s₁ h₁ => thn h₁ fun itv s₂ h₂ => ?_)) (fun _ s' hq => wpAny_pure (wpAny_pure hq)) fun _ _ e => e)
  obtain ⟨it, fp, tn, J, H2, e, I2, T, st2, f2, q2⟩ := h₂
  subst e
  refine comp_core (RR := fun acc C => compPost (model X.prog X.w) X.A X.xe (some (assign (.Name y py) X.env)) (fun _ s' => SP X pins D0 .next s') acc C) (Q := fun D H _ => D0.nx (σ.set i (some (.ref D))) H) hc c B I2 T st2 f2 q2 ?_
  intro D C H' s' ys I' fC ns q
  show wpAny _ X.A (assign (.Name y py) X.env (.ref D)) _ _ _
  obtain ⟨f0, f1, f2, f3, f4, f5⟩ := fC
  refine wpAny_assign_Name (store_ok2 I' hN hy (.inl hl) (v := .ref D) rfl (fun s2 J2 ⟨a, sb, ha⟩ => ?_) (.inr hl))
  obtain ⟨m, hn⟩ := ns
  have neC : C ≠ a := by
    rcases ha with z | z
    · rw [z]; exact f1
    · exact fun e => f4 y a z e.symm
  refine ⟨m, hn.sameBut sb neC, fun h3 sb3 => ⟨_, H', ?_, q⟩⟩
  exact J2.turned (t' := s2.toks) (fun b o hb e => (sb3.2 b hb).trans e) f0 f1 f3 f4 f5
end
end L2


set_option Elab.async false
set_option linter.all false
set_option maxRecDepth 100000
namespace L2
open PySem PySem.Spec PyProof.Rows

/-! ### lists of pairs as tables -/
section
variable {κ : Type} [DecidableEq κ]
noncomputable def valV (kvs : List (κ × V)) (k : κ) : Option V := (kvs.find? fun kv => decide (kv.1 = k)).map (·.2)
/-- in its place, or at the end -/
noncomputable def putK (kvs : List (κ × V)) (k : κ) (v : V) : List (κ × V) :=
  if (kvs.any fun kv => decide (kv.1 = k)) = true then kvs.map (fun kv => if kv.1 = k then (kv.1, v) else kv) else kvs ++ [(k, v)]
noncomputable def dropK (kvs : List (κ × V)) (k : κ) : List (κ × V) := kvs.filter fun kv => decide (kv.1 ≠ k)

theorem valV_pos {p : κ × V} {r : List (κ × V)} {k : κ} (e : p.1 = k) : valV (p :: r) k = some p.2 := by simp [valV, List.find?_cons, e]
theorem valV_neg {p : κ × V} {r : List (κ × V)} {k : κ} (e : ¬ p.1 = k) : valV (p :: r) k = valV r k := by simp [valV, List.find?_cons, e]
theorem valV_any (k : κ) : ∀ kvs : List (κ × V), (kvs.any fun kv => decide (kv.1 = k)) = (valV kvs k).isSome
  | [] => rfl
  | p :: r => by
    rw [List.any_cons]
    by_cases e : p.1 = k
    · simp only [valV_pos e, decide_eq_true e, Bool.true_or, Option.isSome_some]
    · rw [valV_neg e, decide_eq_false e, Bool.false_or]; exact valV_any k r
theorem putK_new {kvs : List (κ × V)} {k : κ} (v : V) (h : valV kvs k = none) : putK kvs k v = kvs ++ [(k, v)] := by
  unfold putK
  rw [valV_any, h]
  exact if_neg (by decide)

theorem RelO.isSome_eq {o : Option V} {u : Option Value} (r : RelO o u) : o.isSome = u.isSome := by
  cases o with
  | none => cases u with
    | none => rfl
    | some _ => exact (show False from r).elim
  | some _ => cases u with
    | none => exact (show False from r).elim
    | some _ => rfl
theorem RelO.getD {o : Option V} {u : Option Value} {d : V} {d' : Value} (r : RelO o u) (rd : RelV d d') : RelV (o.getD d) (u.getD d') := by
  cases o with
  | none => cases u with
    | none => exact rd
    | some _ => exact (show False from r).elim
  | some _ => cases u with
    | none => exact (show False from r).elim
    | some _ => exact r

/-- raw tables of the same keys -/
theorem KV.val {kvs : List (κ × V)} {vs : List (κ × Value)} (r : KV kvs vs) (k : κ) : RelO (valV kvs k) (valueAt vs k) := by
  unfold KV at r
  induction r with
  | nil => exact True.intro
  | @cons p q ps qs h t ih =>
    obtain ⟨h1, h2⟩ := h
    by_cases e : p.1 = k
    · have e' : q.1 = k := h1.symm.trans e
      have b : valueAt (q :: qs) k = some q.2 := by simp [valueAt, List.find?_cons, e']
      rw [valV_pos e, b]; exact h2
    · have e' : ¬ q.1 = k := fun z => e (h1.trans z)
      have b : valueAt (q :: qs) k = valueAt qs k := by simp [valueAt, List.find?_cons, e']
      rw [valV_neg e, b]; exact ih
theorem KV.any {kvs : List (κ × V)} {vs : List (κ × Value)} (r : KV kvs vs) (k : κ) : (kvs.any fun kv => decide (kv.1 = k)) = vs.any fun kv => decide (kv.1 = k) := by
  unfold KV at r
  induction r with
  | nil => rfl
  | cons h t ih => rw [List.any_cons, List.any_cons, ih, h.1]
theorem KV.repl {kvs : List (κ × V)} {vs : List (κ × Value)} (r : KV kvs vs) (k : κ) {y : V} {u : Value} (ry : RelV y u) :
    KV (kvs.map fun kv => if kv.1 = k then (kv.1, y) else kv) (vs.map fun kv => if kv.1 = k then (kv.1, u) else kv) := by
  unfold KV at r ⊢
  induction r with
  | nil => exact .nil
  | @cons p q ps qs h t ih =>
    rw [List.map_cons, List.map_cons]
    refine .cons ?_ ih
    obtain ⟨h1, h2⟩ := h
    by_cases e : p.1 = k
    · rw [if_pos e, if_pos (h1.symm.trans e)]; exact ⟨h1, ry⟩
    · rw [if_neg e, if_neg (fun z => e (h1.trans z))]; exact ⟨h1, h2⟩
theorem KV.put {kvs : List (κ × V)} {vs : List (κ × Value)} (r : KV kvs vs) (k : κ) {y : V} {u : Value} (ry : RelV y u) : KV (putK kvs k y) (stored vs k u) := by
  unfold putK stored
  rw [r.any k]
  by_cases e : (vs.any fun kv => decide (kv.1 = k)) = true
  · rw [if_pos e, if_pos e]; exact r.repl k ry
  · rw [if_neg e, if_neg e]; exact Paired.snoc r ⟨rfl, ry⟩
theorem KV.drop {kvs : List (κ × V)} {vs : List (κ × Value)} (r : KV kvs vs) (k : κ) : KV (dropK kvs k) (without vs k) := by
  unfold KV at r ⊢
  unfold dropK without
  induction r with
  | nil => exact .nil
  | @cons p q ps qs h t ih =>
    obtain ⟨h1, h2⟩ := h
    rw [List.filter_cons, List.filter_cons]
    by_cases e : p.1 = k
    · have a : ¬ decide (p.1 ≠ k) = true := by simp [e]
      have b : ¬ decide (q.1 ≠ k) = true := by simp [h1.symm.trans e]
      rw [if_neg a, if_neg b]; exact ih
    · have e' : ¬ q.1 = k := fun z => e (h1.trans z)
      have a : decide (p.1 ≠ k) = true := by simp [e]
      have b : decide (q.1 ≠ k) = true := by simp [e']
      rw [if_pos a, if_pos b]; exact .cons ⟨h1, h2⟩ ih
theorem KV.keys {kvs : List (κ × V)} {vs : List (κ × Value)} (r : KV kvs vs) : kvs.map (·.1) = vs.map (·.1) := by
  unfold KV at r
  induction r with
  | nil => rfl
  | cons h t ih => rw [List.map_cons, List.map_cons, ih, h.1]
theorem KV.length {kvs : List (κ × V)} {vs : List (κ × Value)} (r : KV kvs vs) : kvs.length = vs.length := Paired.length r
end


/-! ### a tracked dict, its keys ints and texts or tuples of these -/
theorem kV_is {P : Program} {w : World} {k : Key} {u : Value} (r : RelV (kV k) u) : (mixKind P w).is k u = true := by
  cases k with
  | inl i => obtain ⟨t, e⟩ := (show ∃ t, u = Value.int i t from r); subst e; exact mixKind_int P w i t
  | inr x => obtain ⟨t, e⟩ := (show ∃ t, u = Value.str x t from r); subst e; exact mixKind_str P w x t
/-- raw entries of a dict with tuple keys -/
noncomputable abbrev KT (H : Hp) : List (List Key × V) → List (List Key × Addr × Value) → Prop := Paired fun p q => p.1 = q.1 ∧ H q.2.1 = some (.tup (p.1.map kV)) ∧ RelV p.2 q.2.2
theorem KT.val {H : Hp} {kvs : List (List Key × V)} {xs : List (List Key × Addr × Value)} (r : KT H kvs xs) (k : List Key) : RelO (valV kvs k) ((atKey xs k).map (·.2)) := by
  induction r with
  | nil => exact True.intro
  | @cons p q ps qs h t ih =>
    obtain ⟨h1, _, h2⟩ := h
    by_cases e : p.1 = k
    · have e' : q.1 = k := h1.symm.trans e
      have b : atKey (q :: qs) k = some q.2 := by simp [atKey, List.find?_cons, e']
      rw [valV_pos e, b]; exact h2
    · have e' : ¬ q.1 = k := fun z => e (h1.trans z)
      have b : atKey (q :: qs) k = atKey qs k := by simp [atKey, List.find?_cons, e']
      rw [valV_neg e, b]; exact ih
theorem KT.repl {H : Hp} {kvs : List (List Key × V)} {xs : List (List Key × Addr × Value)} (r : KT H kvs xs) (k : List Key) {y : V} {u : Value} (ry : RelV y u) :
    KT H (kvs.map fun kv => if kv.1 = k then (kv.1, y) else kv) (xs.map (putAt k u)) := by
  induction r with
  | nil => exact .nil
  | @cons p q ps qs h t ih =>
    rw [List.map_cons, List.map_cons]
    refine .cons ?_ ih
    obtain ⟨h1, h2, h3⟩ := h
    unfold putAt
    by_cases e : p.1 = k
    · rw [if_pos e, if_pos (h1.symm.trans e)]; exact ⟨h1, h2, ry⟩
    · rw [if_neg e, if_neg (fun z => e (h1.trans z))]; exact ⟨h1, h2, h3⟩
theorem KT.put {H : Hp} {kvs : List (List Key × V)} {xs : List (List Key × Addr × Value)} (r : KT H kvs xs) (k : List Key) {b : Addr} {y : V} {u : Value} (hb : H b = some (.tup (k.map kV))) (ry : RelV y u) :
    KT H (putK kvs k y) (storedH xs k b u) := by
  have e : (kvs.any fun kv => decide (kv.1 = k)) = (atKey xs k).isSome := by
    rw [valV_any, (r.val k).isSome_eq, Option.isSome_map]
  unfold putK storedH
  rw [e]
  by_cases q : (atKey xs k).isSome = true
  · rw [if_pos q, if_pos q]; exact r.repl k ry
  · rw [if_neg q, if_neg q]; exact Paired.snoc r ⟨rfl, hb, ry⟩
theorem KT.keeps {H H' : Hp} {kvs : List (List Key × V)} {xs : List (List Key × Addr × Value)} (r : KT H kvs xs) (ht : ∀ b ys, H b = some (.tup ys) → H' b = some (.tup ys)) : KT H' kvs xs :=
  Paired.mapP r fun _ _ z => ⟨z.1, ht _ _ z.2.1, z.2.2⟩

section
variable {P : Program} {w : World} {H : Hp} {h : Heap} {a : Addr}
theorem rd_of {u : HO} (ok : HOk P w H h) (e : Rd H a u) : ObjOk P w H h a u := e.ok ok
theorem dk_rd {kvs : List (Key × V)} (ok : HOk P w H h) (e : Rd H a (.dK kvs)) : kvs.length ≤ sizeLine ∧ (a == sysModules) = false ∧ ∃ vs, KV kvs vs ∧ h.DictOf (mixKind P w) a vs :=
  show ObjOk P w H h a (.dK kvs) from rd_of ok e
theorem dk_of {kvs : List (Key × V)} (ok : HOk P w H h) (e : H a = some (.dK kvs)) : kvs.length ≤ sizeLine ∧ (a == sysModules) = false ∧ ∃ vs, KV kvs vs ∧ h.DictOf (mixKind P w) a vs := dk_rd ok (.inl e)
end

/-- what the dict at a holds at the key y -/
noncomputable def DGet (H : Hp) (a : Addr) (y : V) (r : Option V) : Prop :=
  (∃ kvs k, Rd H a (.dK kvs) ∧ y = kV k ∧ r = valV kvs k) ∨ ∃ kvs k b, Rd H a (.dT kvs) ∧ y = .ref b ∧ H b = some (.tup (k.map kV)) ∧ r = valV kvs k
/-- the heap behind a[y] = v -/
noncomputable def DPut (H : Hp) (a : Addr) (y v : V) (H' : Hp) : Prop :=
  (∃ kvs k, H a = some (.dK kvs) ∧ y = kV k ∧ kvs.length < sizeLine ∧ H' = upd H a (.dK (putK kvs k v))) ∨
  ∃ kvs k b, H a = some (.dT kvs) ∧ y = .ref b ∧ H b = some (.tup (k.map kV)) ∧ kvs.length < sizeLine ∧ H' = upd H a (.dT (putK kvs k v))
theorem DGet.k {H : Hp} {a : Addr} {kvs : List (Key × V)} {k : Key} (e : H a = some (.dK kvs)) : DGet H a (kV k) (valV kvs k) := .inl ⟨kvs, k, .inl e, rfl, rfl⟩
theorem DGet.t {H : Hp} {a b : Addr} {kvs : List (List Key × V)} {k : List Key} (e : H a = some (.dT kvs)) (eb : H b = some (.tup (k.map kV))) : DGet H a (.ref b) (valV kvs k) := .inr ⟨kvs, k, b, .inl e, rfl, eb, rfl⟩
theorem DPut.k {H : Hp} {a : Addr} {kvs : List (Key × V)} {k : Key} {v : V} (e : H a = some (.dK kvs)) (hl : kvs.length < sizeLine) : DPut H a (kV k) v (upd H a (.dK (putK kvs k v))) := .inl ⟨kvs, k, e, rfl, hl, rfl⟩
theorem DPut.t {H : Hp} {a b : Addr} {kvs : List (List Key × V)} {k : List Key} {v : V} (e : H a = some (.dT kvs)) (eb : H b = some (.tup (k.map kV))) (hl : kvs.length < sizeLine) :
    DPut H a (.ref b) v (upd H a (.dT (putK kvs k v))) := .inr ⟨kvs, k, b, e, rfl, eb, hl, rfl⟩


section
variable {X : Cx} {pins : List (Addr × Obj)} {σ : St} {H : Hp} {s : Shared} {a : Addr} {y v : V} {u r : Value} {o : Option V} {A : Around} {E : Value → Shared → Prop}

/-- a dict's object is replaced -/
theorem d_write {h' : Heap} {t' : Nat} {ob : HO} (I : Inv X pins σ H s) (mu : Mut (H a)) (hs : Heap.SameBut a s.heap h') (he : ∃ q, h'.get? a = some q) (new : ObjOk X.prog X.w (upd H a ob) h' a ob) :
    Inv X pins σ (upd H a ob) { s with heap := h', toks := t' } :=
  I.write (x := a) (e := a) mu (.inl rfl) (fun b q hb z => (hs.2 b hb).trans z) he new
theorem dk_new {P : Program} {w : World} {H' : Hp} {h' : Heap} {kvs : List (Key × V)} {vs : List (Key × Value)} (z : kvs.length ≤ sizeLine) (hd : (a == sysModules) = false) (rel : KV kvs vs) (dd : h'.DictOf (mixKind P w) a vs) :
    ObjOk P w H' h' a (.dK kvs) := ⟨z, hd, vs, rel, dd⟩
end

section
variable {X : Cx} {pins : List (Addr × Obj)} {σ : St} {H : Hp} {s : Shared} {a : Addr} {kvs : List (Key × V)} {k : Key} {u : Value} {A : Around} {E : Value → Shared → Prop}
end


/-! ### readings and rules -/
/-- d[y] -/
inductive rDGet (x y : V) (H : Hp) (Q : VK) : Prop
  | mk (a : Addr) (v : V) (h0 : x = .ref a) (h1 : DGet H a y (some v)) (h2 : Q v H) : rDGet x y H Q
section
variable {X : Cx} {o i e value : Expr} {pos pos' tpos : Pos} {td ty tv : TE}
end


/-! ### displays -/
section
variable {X : Cx} {pos : Pos}
end

/-! ### methods -/
/-- a method call o.m(e) of a built-in, with one argument: what must be seen of the text -/
structure M1 (X : Cx) (o : Expr) (m : Str) (apos : Pos) (e : Expr) (cpos : Pos) : Prop where
  base : attributeBase o m X.env (eval o X.env) = eval o X.env
  few : ((backTo cpos (starEach [e] X.env)).all (fun x => !x.1) && (backToKw cpos (keywordEach [] X.env)).all (fun x => x.1.isSome)
    && decide (([e] : List Expr).length + ([] : List Keyword).length + (if ([] : List Keyword).isEmpty then 0 else 1) < 30)) = true
  line : (apos.endLine == cpos.line) = true
  trees : backTo cpos (starEach [e] X.env) = [(false, eval e X.env)]
structure M2 (X : Cx) (o : Expr) (m : Str) (apos : Pos) (e f : Expr) (cpos : Pos) : Prop where
  base : attributeBase o m X.env (eval o X.env) = eval o X.env
  few : ((backTo cpos (starEach [e, f] X.env)).all (fun x => !x.1) && (backToKw cpos (keywordEach [] X.env)).all (fun x => x.1.isSome)
    && decide (([e, f] : List Expr).length + ([] : List Keyword).length + (if ([] : List Keyword).isEmpty then 0 else 1) < 30)) = true
  line : (apos.endLine == cpos.line) = true
  trees : backTo cpos (starEach [e, f] X.env) = [(false, eval e X.env), (false, eval f X.env)]

section
variable {X : Cx} {pins : List (Addr × Obj)} {σ : St} {H : Hp} {s : Shared} {a : Addr} {y d : V} {u r : Value} {o : Option V} {A : Around} {E : Value → Shared → Prop}
end

section
variable {X : Cx} {o e f : Expr} {apos cpos : Pos} {td ty tx : TE}
end

/-! ### dict(d): a copy -/
section
variable {X : Cx} {pins : List (Addr × Obj)} {σ : St} {H : Hp} {s : Shared} {a : Addr} {kvs : List (Key × V)} {A : Around} {E : Value → Shared → Prop}
end


section
variable {X : Cx} {pins : List (Addr × Obj)} {σ : St} {H : Hp} {s : Shared} {a : Addr} {y : V} {u : Value} {A : Around} {E : Value → Shared → Prop}
end
end L2

set_option Elab.async false
set_option linter.all false
set_option maxRecDepth 100000
set_option maxHeartbeats 4000000
namespace L2
open PySem PySem.Spec PyProof.Rows

theorem OpR.imp {X : Cx} {f : Value → Value → Sem Value} {r r' : R2} (h : OpR X f r) (i : ∀ x y H Q, r' x y H Q → r x y H Q) : OpR X f r' :=
  fun pins s σ H x y v u Q I rx ry q => h pins s σ H x y v u Q I rx ry (i x y H Q q)
theorem CallR.imp {X : Cx} {f : Value} {r r' : List V → Hp → VK → Prop} (h : CallR X f r) (i : ∀ xs H Q, r' xs H Q → r xs H Q) : CallR X f r' :=
  fun pins s σ H xs us Q I rs q => h pins s σ H xs us Q I rs (i xs H Q q)
/-- by what stands in the slot -/
noncomputable def tV (i : Nat) : TE := fun σ H Q => match σ[i]? with
  | some (some v) => Q v H
  | _ => False
theorem vr {X : Cx} (i : Nat) {x : Str} {pos : Pos} (hN : X.N[i]? = some x := by rfl) (hv : Vis X.env.scope x := by first | exact Or.inl rfl | exact Or.inr (Or.inl rfl) | exact Or.inr (Or.inr rfl)) (hd : (x == ("__debug__" : Str)) = false := by decide)
    (hcd : (x == ("__classdict__" : Str)) = false := by decide) : PE X (.Name x pos) (tV i) := fun pins s σ H Q I h => by
  refine pe_var hN hv hd hcd pins s σ H Q I ?_
  unfold tV at h
  split at h
  · rename_i v e
    exact ⟨v, e, h⟩
  · exact h.elim

/-! ### operations, read by the values' shapes -/
noncomputable def rI2 (g : Int → Int → V) : R2 := fun x y H Q => match x, y with
  | .int i, .int j => Q (g i j) H
  | _, _ => False
noncomputable def rIC (C : Int → Int → Prop) (g : Int → Int → V) : R2 := fun x y H Q => match x, y with
  | .int i, .int j => C i j ∧ Q (g i j) H
  | _, _ => False
theorem OpR.i2 {X : Cx} {f : Value → Value → Sem Value} {g : Int → Int → V} (h : OpR X f (rI0 g)) : OpR X f (rI2 g) := h.imp fun x y H Q q => by
  cases x <;> cases y <;> first | exact ⟨_, _, rfl, rfl, q⟩ | exact (show False from q).elim
theorem OpR.ic {X : Cx} {f : Value → Value → Sem Value} {C : Int → Int → Prop} {g : Int → Int → V} (h : OpR X f (rI C g)) : OpR X f (rIC C g) := h.imp fun x y H Q q => by
  cases x <;> cases y <;> first | exact ⟨_, _, rfl, rfl, q.1, q.2⟩ | exact (show False from q).elim
section
variable {X : Cx}
noncomputable def rAddM : R2 := fun x y H Q => match x, y with
  | .int i, .int j => Q (.int (i + j)) H
  | .str i, .str j => i.length + j.length ≤ sizeLine ∧ Q (.str (i ++ j)) H
  | _, _ => False
theorem o_add : OpR X (binaryOp .Add) rAddM := (op_add.or op_add_str).imp fun x y H Q q => by
  cases x <;> cases y <;> first | exact .inl ⟨_, _, rfl, rfl, q⟩ | exact .inr ⟨_, _, rfl, rfl, q.1, q.2⟩ | exact (show False from q).elim
theorem o_sub : OpR X (binaryOp .Sub) (rI2 fun i j => .int (i - j)) := op_sub.i2
noncomputable def CPos (i j : Int) : Prop := 0 < j
noncomputable def CNn (i j : Int) : Prop := 0 ≤ j
theorem cp {i j : Int} (h : 0 < j := by decide) : CPos i j := h
theorem cn {i j : Int} (h : 0 ≤ j := by decide) : CNn i j := h
theorem cd {i j : Int} (h : 0 < j := by decide) (h2 : j < 1073741824 := by decide) : CDiv i j := ⟨h, h2⟩
theorem cl {i j : Int} (h : -(2 ^ 64) < i := by decide) (h2 : i < 2 ^ 64 := by decide) : CMul i j := .inl ⟨h, h2⟩
theorem cr {i j : Int} (h : -(2 ^ 64) < j := by decide) (h2 : j < 2 ^ 64 := by decide) : CMul i j := .inr ⟨h, h2⟩
theorem o_mod : OpR X (binaryOp .Mod) (rIC CPos fun i j => .int (i % j)) := op_mod.ic
theorem op_le_str : OpR X (compareOp .LtE) (fun x y H Q => ∃ i j, x = .str i ∧ y = .str j ∧ Q (.bl (!decide (j.cps.toList < i.cps.toList))) H) := by
  intro pins s σ H x y v u Q I rx ry h
  obtain ⟨i, j, rfl, rfl, q⟩ := h
  obtain ⟨t, rfl⟩ := rx
  obtain ⟨t', rfl⟩ := ry
  exact PySem.P.le_str (fin_bl I q rfl)
noncomputable def rCmpM (f : Int → Int → Bool) (g : Str → Str → Bool) : R2 := fun x y H Q => match x, y with
  | .int i, .int j => Q (.bl (f i j)) H
  | .str i, .str j => Q (.bl (g i j)) H
  | _, _ => False
theorem o_lt : OpR X (compareOp .Lt) (rCmpM (fun i j => decide (i < j)) fun i j => decide (i.cps.toList < j.cps.toList)) := (op_lt.or op_lt_str).imp fun x y H Q q => by
  cases x <;> cases y <;> first | exact .inl ⟨_, _, rfl, rfl, q⟩ | exact .inr ⟨_, _, rfl, rfl, q⟩ | exact (show False from q).elim
theorem o_le : OpR X (compareOp .LtE) (rCmpM (fun i j => decide (i ≤ j)) fun i j => !decide (j.cps.toList < i.cps.toList)) := (op_le.or op_le_str).imp fun x y H Q q => by
  cases x <;> cases y <;> first | exact .inl ⟨_, _, rfl, rfl, q⟩ | exact .inr ⟨_, _, rfl, rfl, q⟩ | exact (show False from q).elim
theorem o_gt : OpR X (compareOp .Gt) (rI2 fun i j => .bl (decide (j < i))) := op_gt.i2
theorem o_ge : OpR X (compareOp .GtE) (rI2 fun i j => .bl (decide (j ≤ i))) := op_ge.i2
/-- == of two values without objects; the deep one is o_eqD -/
noncomputable def rEqM (neg : Bool) : R2 := fun x y H Q => match x, y with
  | .int i, .int j => Q (.bl (if neg then !decide (i = j) else decide (i = j))) H
  | .str i, .str j => Q (.bl (if neg then !decide (i = j) else decide (i = j))) H
  | .bl i, .bl j => Q (.bl (if neg then !decide (i = j) else decide (i = j))) H
  | .non, .non => Q (.bl (!neg)) H
  | .non, .int _ => Q (.bl neg) H
  | .non, .str _ => Q (.bl neg) H
  | .non, .bl _ => Q (.bl neg) H
  | .int _, .non => Q (.bl neg) H
  | .str _, .non => Q (.bl neg) H
  | .bl _, .non => Q (.bl neg) H
  | .int _, .str _ => Q (.bl neg) H
  | .str _, .int _ => Q (.bl neg) H
  | _, _ => False
theorem o_eq : OpR X (compareOp .Eq) (rEqM false) := op_eq.imp fun x y H Q q => by
  cases x <;> cases y <;> first | exact (show False from q).elim | (refine ⟨rfl, ?_⟩; revert q; simp [rEqM])
theorem o_ne : OpR X (compareOp .NotEq) (rEqM true) := op_ne.imp fun x y H Q q => by
  cases x <;> cases y <;> first | exact (show False from q).elim | (refine ⟨rfl, ?_⟩; revert q; simp [rEqM])
noncomputable def rU1 (g : Int → V) : V → Hp → VK → Prop := fun x H Q => match x with
  | .int i => Q (g i) H
  | _ => False
theorem u_neg : UnR X (unaryOp .USub) (rU1 fun i => .int (-i)) := fun pins s σ H x v Q I r q => un_neg pins s σ H x v Q I r (by
  cases x <;> first | exact ⟨_, rfl, q⟩ | exact (show False from q).elim)
theorem o_isnot : OpR X (compareOp .IsNot) (fun x y H Q => match y with | .non => Q (.bl (!decide (x = .non))) H | _ => False) := op_notN.imp fun x y H Q q => by
  cases y <;> first | exact ⟨rfl, q⟩ | exact (show False from q).elim
/-! ### truths -/
noncomputable def mB (Q : Bool → Hp → Prop) : VK := fun x H => match x with
  | .bl c => Q c H
  | _ => False
variable {a b c : Expr} {ta tb tc : TE} {pos : Pos} {rest : List Expr}
noncomputable def mAnd (ta tb : TE) : TE := fun σ H Q => ta σ H (mB fun c H1 => if c = true then tb σ H1 Q else Q (.bl false) H1)
noncomputable def mNot (ta : TE) : TE := fun σ H Q => ta σ H (mB fun c H1 => Q (.bl (!c)) H1)
theorem mB_iff {Q : Bool → Hp → Prop} {x : V} {H : Hp} (h : mB Q x H) : ∃ c, x = .bl c ∧ Q c H := by
  cases x <;> first | exact ⟨_, rfl, h⟩ | exact (show False from h).elim
theorem m_and (ha : PE X a ta) (hb : PE X (.BoolOp .And (b :: rest) pos) tb) : PE X (.BoolOp .And (a :: b :: rest) pos) (mAnd ta tb) := by
  intro pins s σ H Q I h
  refine BoolOp_and (thn (ha pins s σ H _ I h) fun v s1 ⟨x, H1, I1, r1, q1⟩ => ?_)
  obtain ⟨c, rfl, q1⟩ := mB_iff q1
  cases r1
  refine wpAny_truthy_bool ?_
  cases c with
  | true => exact hb pins s1 σ H1 Q I1 q1
  | false => exact ⟨.bl false, H1, I1, rfl, q1⟩
theorem m_not (ha : PE X a ta) : PE X (.UnaryOp .Not a pos) (mNot ta) := by
  intro pins s σ H Q I h
  refine UnaryOp_ (thn (ha pins s σ H _ I h) fun v s1 ⟨x, H1, I1, r1, q1⟩ => ?_)
  obtain ⟨c, rfl, q1⟩ := mB_iff q1
  cases r1
  exact not_of (wpAny_truthy_bool ⟨.bl (!c), H1, I1, rfl, q1⟩)
/-- a test that is a bool's expression -/
noncomputable def mT (t : TE) : TT := fun σ H Q => t σ H (mB Q)
theorem t_val (h : PE X a ta) (he : ∀ whole, isTrue a X.env whole = (do let v ← whole; standAt a.pos; holding [v] (truthy v)) := by intro _; rfl) : PT X a (mT ta) := by
  intro pins s σ H Q I hw
  refine isTrue_plain (thn (h pins s σ H _ I hw) fun v s1 ⟨x, H1, I1, r1, q1⟩ => ?_) (he _)
  obtain ⟨d, rfl, q⟩ := mB_iff q1
  cases r1
  exact wpAny_truthy_bool ⟨H1, I1, q⟩
theorem t_cmp {op : CmpOp} {r : R2} (ho : OpR X (compareOp op) r) (ha : PE X a ta) (hb : PE X b tb) (hm : behindInMarks op b = false) : PT X (.Compare a [op] [b] pos) (mT (tOp r ta tb)) := by
  intro pins s σ H Q I h
  refine wpAny_isTrue_Compare1 (thn (ha pins s σ H _ I h) fun v s1 ⟨x, H1, I1, r1, q1⟩ => thn (hb pins s1 σ H1 _ I1 q1) fun u s2 ⟨y, H2, I2, r2, q2⟩ =>
    thn (ho pins s2 σ H2 x y v u _ I2 r1 r2 q2) fun c s3 ⟨z, H3, I3, r3, q3⟩ => ?_) hm
  obtain ⟨k, rfl, q3⟩ := mB_iff q3
  cases r3
  exact wpAny_truthy_bool ⟨H3, I3, q3⟩
noncomputable def mChain (r r' : R2) (ta tb tc : TE) : TE := fun σ H Q => ta σ H fun x H1 => tb σ H1 fun y H2 => r x y H2 (mB fun k H3 => if k = true then tc σ H3 fun w' H4 => r' y w' H4 Q else Q (.bl false) H3)
theorem m_chain {op op' : CmpOp} {r r' : R2} (ho : OpR X (compareOp op) r) (ho' : OpR X (compareOp op') r') (ha : PE X a ta) (hb : PE X b tb) (hc : PE X c tc)
    (hm : lastMarks [op, op'] [b, c] = false := by with_unfolding_all rfl) : PE X (.Compare a [op, op'] [b, c] pos) (mChain r r' ta tb tc) := by
  intro pins s σ H Q I h
  refine Compare_chain (thn (ha pins s σ H _ I h) fun v s1 ⟨x, H1, I1, r1, q1⟩ => chain_link (thn (hb pins s1 σ H1 _ I1 q1) fun u s2 ⟨y, H2, I2, r2, q2⟩ =>
    thn (ho pins s2 σ H2 x y v u _ I2 r1 r2 q2) fun d s3 ⟨z, H3, I3, r3, q3⟩ => ?_)) hm
  obtain ⟨k, rfl, q3⟩ := mB_iff q3
  cases r3
  refine wpAny_truthy_bool ?_
  cases k with
  | false => exact ite_ff ⟨.bl false, H3, I3, rfl, q3⟩
  | true => exact ite_tt (chain_last (thn (hc pins s3 σ H3 _ I3 q3) fun w' s4 ⟨z', H4, I4, r4, q4⟩ => ho' pins s4 σ H4 y z' u w' Q I4 r2 r4 q4))
/-! ### isinstance -/
open PySem.W in
theorem kit_of {pins : List (Addr × Obj)} {σ : St} {H : Hp} {s : Shared} {x : V} {u t : Value} (I : Inv X pins σ H s) (rx : RelV x u) (ty : TyOf X.K H x t) :
    ∃ Hh : Heap → Prop, KitX X.K u t Hh ∧ Hh s.heap ∧ u ≠ .builtin "__main__.__loader__#opaque" := by
  cases ty with
  | non => cases (show u = Value.none from rx); exact ⟨_, PySem.W.kitx_none, True.intro, fun z => nomatch z⟩
  | bl y => cases (show u = Value.bool y from rx); exact ⟨_, PySem.W.kitx_bool, True.intro, fun z => nomatch z⟩
  | int i => obtain ⟨t, q⟩ := (show ∃ t, u = Value.int i t from rx); cases q; exact ⟨_, PySem.W.kitx_int, True.intro, fun z => nomatch z⟩
  | str y => obtain ⟨t, q⟩ := (show ∃ t, u = Value.str y t from rx); cases q; exact ⟨_, PySem.W.kitx_str, True.intro, fun z => nomatch z⟩
  | flt y => obtain ⟨t, q⟩ := (show ∃ t, u = Value.float y t from rx); cases q; exact ⟨_, PySem.W.kitx_float, True.intro, fun z => nomatch z⟩
  | @lst a xs ea =>
    cases (show u = Value.ref a from rx)
    obtain ⟨_, _, n, _, h1⟩ := (show ObjOk X.prog X.w H s.heap a (.lst xs) from I.hok a _ ea)
    exact ⟨_, PySem.W.kitx_list, ⟨_, h1, rfl⟩, fun z => nomatch z⟩
  | @frz a ob xs ea =>
    cases (show u = Value.ref a from rx)
    obtain ⟨_, _, _, n, _, h1⟩ := (show ObjOk X.prog X.w H s.heap a (.frz ob (.lst xs)) from I.hok a _ ea)
    exact ⟨_, PySem.W.kitx_list, ⟨_, h1, rfl⟩, fun z => nomatch z⟩
  | @tup a xs ea =>
    cases (show u = Value.ref a from rx)
    obtain ⟨_, _, _, p⟩ := (show ObjOk X.prog X.w H s.heap a (.tup xs) from I.hok a _ ea)
    obtain ⟨o, h1, h2, _⟩ := p
    exact ⟨_, PySem.W.kitx_tuple, ⟨o, h1, h2⟩, fun z => nomatch z⟩
  | @dK a kvs ea =>
    cases (show u = Value.ref a from rx)
    obtain ⟨_, _, vs, _, p⟩ := (show ObjOk X.prog X.w H s.heap a (.dK kvs) from I.hok a _ ea)
    obtain ⟨o, es, ep, h1, h2, _⟩ := p
    exact ⟨_, PySem.W.kitx_dict, ⟨o, h1, h2.1⟩, fun z => nomatch z⟩
  | @dT a kvs ea =>
    cases (show u = Value.ref a from rx)
    obtain ⟨_, _, xs, _, o, es, ep, h1, h2, _⟩ := (show ObjOk X.prog X.w H s.heap a (.dT kvs) from I.hok a _ ea)
    exact ⟨_, PySem.W.kitx_dict, ⟨o, h1, h2.1⟩, fun z => nomatch z⟩
  | @ins a C dx fs ea cl ha hn htk hm =>
    cases (show u = Value.ref a from rx)
    obtain ⟨mA, O, _⟩ := ins_get I.hok ea
    obtain ⟨od, J, _⟩ := O.look
    exact ⟨_, PySem.W.kitx_own (cl.get _) cl.hd ha hn htk hm, J, fun z => nomatch z⟩
noncomputable def cVal : V → Value
  | .ty n => .type n
  | .ref a => .ref a
  | _ => .none
noncomputable def isCls : V → Bool
  | .ty _ => true
  | .ref _ => true
  | _ => false
theorem cVal_of {c : V} {u : Value} (h : isCls c = true) (r : RelV c u) : u = cVal c := by
  cases c <;> first | exact r | exact absurd (show false = true from h) Bool.false_ne_true
/-- isinstance(x, C): the type of x, then kitOne's answer -/
inductive rIsi (K : PySem.W.Frag) (xs : List V) (H : Hp) (Q : VK) : Prop
  | mk (x c : V) (t : _) (b : Bool) (h0 : xs = [x, c]) (h1 : isCls c = true) (h2 : TyOf K H x t) (h3 : PySem.W.kitOne K t (cVal c) = some b) (h4 : Q (.bl b) H) : rIsi K xs H Q
theorem call_isi : CallR X (.builtin "isinstance") (rIsi X.K) := by
  intro pins s σ H xs us Q I r h
  obtain ⟨x, c, t, b, rfl, hc, ty, e, q⟩ := h
  obtain ⟨u, w', rfl, rx, rc⟩ := vals2 r
  cases cVal_of hc rc
  obtain ⟨Hh, Z, p, hx⟩ := kit_of I rx ty
  exact PySem.W.kia_one Z I.kIn p e hx fun tk => ⟨.bl b, H, I.tok tk, rfl, q⟩

/-! ### all -/
/-! ### x in range(a, b) -/
end
end L2

set_option Elab.async false
set_option linter.all false
set_option maxRecDepth 100000
set_option maxHeartbeats 4000000
namespace L2
open PySem PySem.Spec PyProof.Rows

theorem and_if {Q : V → Prop} {p r : Prop} [Decidable p] [Decidable r] (q : Q (.bl (decide (p ∧ r)))) : if decide p = true then Q (.bl (decide r)) else Q (.bl false) := by
  by_cases h : p
  · rw [if_pos (decide_eq_true h)]
    have e : decide (p ∧ r) = decide r := by by_cases z : r <;> simp [h, z]
    rw [← e]; exact q
  · rw [if_neg (fun z => h (of_decide_eq_true z))]
    have e : decide (p ∧ r) = false := decide_eq_false fun z => h z.1
    rw [← e]; exact q
theorem ifP {c : Prop} [Decidable c] {A B : Prop} (hc : c) (h : A) : if decide c = true then A else B := by rw [if_pos (decide_eq_true hc)]; exact h
theorem ifN {c : Prop} [Decidable c] {A B : Prop} (hc : ¬ c) (h : B) : if decide c = true then A else B := by rw [if_neg (fun z => hc (of_decide_eq_true z))]; exact h
theorem ifC {c : Prop} [Decidable c] {A B : Prop} (h1 : c → A) (h2 : ¬ c → B) : if decide c = true then A else B := by
  by_cases h : c
  · exact ifP h (h1 h)
  · exact ifN h (h2 h)
theorem ifB {b : Bool} {A B : Prop} (h1 : b = true → A) (h2 : b = false → B) : if b = true then A else B := by
  cases b with
  | true => rw [if_pos rfl]; exact h1 rfl
  | false => rw [if_neg Bool.false_ne_true]; exact h2 rfl
theorem bt_len : bootBuiltins "len" = some (.builtin "len") := by decide +kernel
theorem bt_isinstance : bootBuiltins "isinstance" = some (.builtin "isinstance") := by decide +kernel
theorem bt_min : bootBuiltins "min" = some (.builtin "min") := by decide +kernel
theorem bt_max : bootBuiltins "max" = some (.builtin "max") := by decide +kernel
theorem bt_enumerate : bootBuiltins "enumerate" = some (.type "enumerate") := by decide +kernel
theorem bt_zip : bootBuiltins "zip" = some (.type "zip") := by decide +kernel
theorem bt_range : bootBuiltins "range" = some (.type "range") := by decide +kernel
theorem bt_str : bootBuiltins "str" = some (.type "str") := by decide +kernel
theorem bt_int : bootBuiltins "int" = some (.type "int") := by decide +kernel
theorem bt_bool : bootBuiltins "bool" = some (.type "bool") := by decide +kernel
theorem bt_list : bootBuiltins "list" = some (.type "list") := by decide +kernel
theorem bt_tuple : bootBuiltins "tuple" = some (.type "tuple") := by decide +kernel
theorem pe_gl {X : Cx} {x : Str} {v : V} {pos : Pos} (hg : Gl X x) (h : ∃ u, X.mg x = some u ∧ RelV v u) (hd : (x == ("__debug__" : Str)) = false := by decide) : PE X (.Name x pos) (tC v) :=
  let ⟨_, e, r⟩ := h
  pe_glob hg e r hd

/-- what a loop walks, by the value -/
noncomputable def iAny (K : PySem.W.Frag) (tl : TE) : TI := fun σ H R => tl σ H fun x H1 => match x with
  | .str z => R (Its z) H1
  | .ref a => ((∃ xs, SqL K H1 a xs) ∧ R (Itl K a) H1) ∨ ((∃ xs, SqT K H1 a xs) ∧ R (Itt K a) H1)
  | _ => False
theorem pi_any {X : Cx} {tg l : Expr} {tl : TE} (hl : PE X l tl) : PI X tg l (iAny X.K tl) := by
  intro pins s σ H R I h
  have hl1 : PE X l tl := hl
  refine thn (hl pins s σ H _ I h) fun v s1 ⟨x, H1, I1, r1, q1⟩ => ?_
  cases x with
  | str z =>
    have := pi_str (X := X) (tg := tg) (l := l) (tl := tC (.str z)) 
    obtain ⟨t, rfl⟩ := r1
    refine wpAny_pyIter_strU ?_
    refine ⟨s1.heap.objs.size, [s1.heap.objs.size], _, _, H1, rfl, I1.kept (t' := s1.toks) fun b o e => Heap.get?_push_of_some _ e, turn_str (ty := strIterType z) (t := t) z _ ?_, ⟨_, Heap.get?_push_size _ rfl, rfl, rfl⟩, fun b hb => ?_, q1⟩
    · unfold strIterType
      split
      · exact .inl rfl
      · exact .inr rfl
    · have e : b = s1.heap.objs.size := by simpa using hb
      subst e
      exact I1.fpOk (Nat.le_refl _) (I1.hok.fresh (Nat.le_refl _))
  | ref a =>
    cases r1
    rcases q1 with ⟨⟨xs, hq⟩, q⟩ | ⟨⟨xs, hq⟩, q⟩
    · obtain ⟨its, rv, p, hz⟩ := I1.list hq
      refine wpAny_pyIter_list p.isList ?_
      refine ⟨s1.heap.objs.size, [s1.heap.objs.size], _, _, H1, rfl, I1.kept (t' := s1.toks) fun b o e => Heap.get?_push_of_some _ e, turn_list a _, ⟨_, Heap.get?_push_size _ rfl, rfl, rfl⟩, fun b hb => ?_, q⟩
      have e : b = s1.heap.objs.size := by simpa using hb
      subst e
      exact I1.fpOk (Nat.le_refl _) (I1.hok.fresh (Nat.le_refl _))
    · obtain ⟨its, rv, p, hz⟩ := I1.tuple hq
      refine wpAny_pyIter_tuple (show s1.heap.IsTuple a its.toArray from p) ?_
      refine ⟨s1.heap.objs.size, [s1.heap.objs.size], _, _, H1, rfl, I1.kept (t' := s1.toks) fun b o e => Heap.get?_push_of_some _ e, turn_tuple a _, ⟨_, Heap.get?_push_size _ rfl, rfl, rfl⟩, fun b hb => ?_, q⟩
      have e : b = s1.heap.objs.size := by simpa using hb
      subst e
      exact I1.fpOk (Nat.le_refl _) (I1.hok.fresh (Nat.le_refl _))
  | _ => exact (show False from q1).elim

inductive rLenSq (K : PySem.W.Frag) (p : Addr) (H : Hp) (Q : VK) : Prop
  | mk (ys : List V) (h0 : SqL K H p ys ∨ SqT K H p ys) (h1 : Q (.int ys.length) H) : rLenSq K p H Q
theorem call_lenM {X : Cx} : CallR X (.builtin "len") (fun xs H Q => match xs with
    | [.str z] => z.length ≤ sizeLine ∧ Q (.int z.length) H
    | [.ref p] => rLenSq X.K p H Q
    | _ => False) := (call_len_str.or call_len_seq).imp fun xs H Q q => by
  match xs, q with
  | [.str z], q => exact .inl ⟨z, rfl, q.1, q.2⟩
  | [.ref p], q => obtain ⟨ys, h, q⟩ := q; exact .inr ⟨p, ys, rfl, h, q⟩

/-! ### a comprehension, by what it walks -/
section
variable {D : Addr} {σb : St} {g : TG} {tt : TT} {te : TE} {Q : Hp → List V → Prop} {H : Hp} {K : PySem.W.Frag}
/-- what one turn asks -/
noncomputable def CompT (D : Addr) (σb : St) (g : TG) (tt : TT) (te : TE) (x : V) (ys : List V) (H : Hp) (P : List V → Hp → Prop) : Prop :=
  g x σb H fun σ4 H4 => Wk σb σ4 ∧ tt σ4 H4 fun b H5 => if b = true then te σ4 H5 fun y H6 => H6 D = some (.lst ys) ∧ ys.length < sizeLine ∧ P (ys ++ [y]) (upd H6 D (.lst (ys ++ [y]))) else P ys H5
theorem comp_list {a : Addr} {xs : List V} (Pv : Nat → List V → Hp → Prop) (h0 : Pv 0 [] H) (hq : ∀ i ys H, Pv i ys H → SqL K H a xs) (hl : ∀ i ys H, Pv i ys H → H D = some (.lst ys))
    (hs : ∀ (i : Nat) x ys H P, xs[i]? = some x → Pv i ys H → (∀ a b, Pv (i + 1) a b → P a b) → CompT D σb g tt te x ys H P) (hd : ∀ ys H, Pv xs.length ys H → Q H ys) : ∃ W, (∃ m, W 0 m [] H) ∧ CompW (Itl K a) D σb g tt te Q W := by
  refine ⟨fun i m ys H => m = xs.length - i ∧ i ≤ xs.length ∧ Pv i ys H, ⟨_, rfl, Nat.zero_le _, h0⟩, ?_⟩
  rintro i m ys H ⟨rfl, hi, p⟩
  refine ⟨hl i ys H p, ?_⟩
  have q := hq i ys H p
  by_cases hlt : i < xs.length
  · refine .inr ⟨⟨xs, xs[i], q, by simp [hlt]⟩, fun x H3 y => ?_⟩
    obtain ⟨rfl, y⟩ := y
    exact hs i x ys _ (fun a b => ∃ m', m' < xs.length - i ∧ m' = xs.length - (i + 1) ∧ i + 1 ≤ xs.length ∧ Pv (i + 1) a b) (y xs q) p (fun a b q => ⟨xs.length - (i + 1), by omega, rfl, hlt, q⟩)
  · have e : i = xs.length := by omega
    subst e
    exact .inl ⟨⟨xs, q, Nat.le_refl _⟩, hd ys H p⟩
theorem comp_rng {lo : Int} {n : Nat} (Pv : Nat → List V → Hp → Prop) (h0 : Pv 0 [] H) (hl : ∀ i ys H, Pv i ys H → H D = some (.lst ys))
    (hs : ∀ (i : Nat) ys H P, i < n → Pv i ys H → (∀ a b, Pv (i + 1) a b → P a b) → CompT D σb g tt te (.int (lo + i)) ys H P) (hd : ∀ ys H, Pv n ys H → Q H ys) : ∃ W, (∃ m, W 0 m [] H) ∧ CompW (Itr lo n) D σb g tt te Q W := by
  refine ⟨fun i m ys H => m = n - i ∧ i ≤ n ∧ Pv i ys H, ⟨_, rfl, Nat.zero_le _, h0⟩, ?_⟩
  rintro i m ys H ⟨rfl, hi, p⟩
  refine ⟨hl i ys H p, ?_⟩
  by_cases hlt : i < n
  · refine .inr ⟨hlt, fun x H3 y => ?_⟩
    obtain ⟨rfl, rfl⟩ := y
    exact hs i ys _ (fun a b => ∃ m', m' < n - i ∧ m' = n - (i + 1) ∧ i + 1 ≤ n ∧ Pv (i + 1) a b) hlt p (fun a b q => ⟨n - (i + 1), by omega, rfl, hlt, q⟩)
  · have e : i = n := by omega
    subst e
    exact .inl ⟨Nat.le_refl _, hd ys H p⟩
end

/-! ### heaps that have grown -/
theorem Same.new {H : Hp} {p : Addr} {o : HO} (h : H p = none) : Same H (upd H p o) := fun b u e => by rw [upd_ne (ne_of_none e h)]; exact e
theorem Same.sqT {K : PySem.W.Frag} {H H' : Hp} {a : Addr} {xs : List V} (e : Same H H') (h : SqT K H a xs) : SqT K H' a xs := by
  rcases h with (h | ⟨o, h⟩) | h
  · exact .inl (.inl (e _ _ h))
  · exact .inl (.inr ⟨o, e _ _ h⟩)
  · exact .inr h
/-! ### deep data -/
mutual
noncomputable def DV (K : PySem.W.Frag) (H : Hp) : PyData → V → Prop
  | .none, x => x = .non
  | .bool b, x => x = .bl b
  | .int i, x => x = .int i
  | .str z, x => x = .str z
  | .list ds, x => ∃ a xs, x = .ref a ∧ SqL K H a xs ∧ DVs K H ds xs
  | .tuple ds, x => ∃ a xs, x = .ref a ∧ SqT K H a xs ∧ DVs K H ds xs
  | .dict _, _ => False
noncomputable def DVs (K : PySem.W.Frag) (H : Hp) : List PyData → List V → Prop
  | [], xs => xs = []
  | d :: ds, xs => ∃ y ys, xs = y :: ys ∧ DV K H d y ∧ DVs K H ds ys
end
mutual
theorem DV.same {K : PySem.W.Frag} {H H' : Hp} (e : Same H H') : ∀ {d : PyData} {x : V}, DV K H d x → DV K H' d x
  | .none, x, h => by simpa [DV] using h
  | .bool b, x, h => by simpa [DV] using h
  | .int i, x, h => by simpa [DV] using h
  | .str z, x, h => by simpa [DV] using h
  | .list ds, x, h => by
    rw [DV] at h ⊢
    obtain ⟨a, xs, h1, h2, h3⟩ := h
    exact ⟨a, xs, h1, e.seq h2, DVs.same e h3⟩
  | .tuple ds, x, h => by
    rw [DV] at h ⊢
    obtain ⟨a, xs, h1, h2, h3⟩ := h
    exact ⟨a, xs, h1, e.sqT h2, DVs.same e h3⟩
  | .dict _, x, h => by rw [DV] at h; exact h.elim
theorem DVs.same {K : PySem.W.Frag} {H H' : Hp} (e : Same H H') : ∀ {ds : List PyData} {xs : List V}, DVs K H ds xs → DVs K H' ds xs
  | [], xs, h => by simpa [DVs] using h
  | d :: ds, xs, h => by
    rw [DVs] at h ⊢
    obtain ⟨y, ys, h1, h2, h3⟩ := h
    exact ⟨y, ys, h1, DV.same e h2, DVs.same e h3⟩
end
section
variable {X : Cx} {pins : List (Addr × Obj)} {σ : St} {H : Hp} {s : Shared}
mutual
theorem DV.reads (I : Inv X pins σ H s) : ∀ {d : PyData} {x : V} {u : Value}, DV X.K H d x → RelV x u → ∃ as, Reads s.heap u d as
  | .none, x, u, h, r => by
    rw [DV] at h; subst h; cases r; exact ⟨_, .none⟩
  | .bool b, x, u, h, r => by
    rw [DV] at h; subst h; cases r; exact ⟨_, .bool b⟩
  | .int i, x, u, h, r => by
    rw [DV] at h; subst h; obtain ⟨t, rfl⟩ := r; exact ⟨_, .int i t⟩
  | .str z, x, u, h, r => by
    rw [DV] at h; subst h; obtain ⟨t, rfl⟩ := r; exact ⟨_, .str z t⟩
  | .list ds, x, u, h, r => by
    rw [DV] at h
    obtain ⟨a, xs, rfl, h2, h3⟩ := h
    cases r
    obtain ⟨its, rv, ⟨o, n, e, c, _, d⟩, _⟩ := I.list h2
    obtain ⟨as, q⟩ := DVs.reads I h3 rv
    exact ⟨_, .list e c d (by simpa using q)⟩
  | .tuple ds, x, u, h, r => by
    rw [DV] at h
    obtain ⟨a, xs, rfl, h2, h3⟩ := h
    cases r
    obtain ⟨its, rv, ⟨o, e, c, n, d⟩, _⟩ := I.tuple h2
    obtain ⟨as, q⟩ := DVs.reads I h3 rv
    exact ⟨_, .tuple e c d (by simpa using q)⟩
  | .dict _, x, u, h, r => by rw [DV] at h; exact h.elim
theorem DVs.reads (I : Inv X pins σ H s) : ∀ {ds : List PyData} {xs : List V} {us : List Value}, DVs X.K H ds xs → Vals xs us → ∃ as, ReadsAll s.heap us ds as
  | [], xs, us, h, r => by
    rw [DVs] at h; subst h; cases r; exact ⟨_, .nil⟩
  | d :: ds, xs, us, h, r => by
    rw [DVs] at h
    obtain ⟨y, ys, rfl, h2, h3⟩ := h
    cases r with
    | cons r rs =>
      obtain ⟨as, q⟩ := DV.reads I h2 r
      obtain ⟨bs, p⟩ := DVs.reads I h3 rs
      exact ⟨_, .cons q p⟩
end
end
/-- == of data, whatever its depth -/
inductive rEqD (K : PySem.W.Frag) (neg : Bool) (x y : V) (H : Hp) (Q : VK) : Prop
  | mk (d e : PyData) (h0 : DV K H d x) (h1 : DV K H e y) (h2 : SeqAt.shaped d = true) (h3 : SeqAt.shaped e = true) (h4 : Q (.bl (if neg then !PyData.eqv d e else PyData.eqv d e)) H) : rEqD K neg x y H Q
theorem o_eqD {X : Cx} (hu : X.A.units + 64 < cLine) : OpR X (compareOp .Eq) (rEqD X.K false) := by
  intro pins s σ H x y v u Q I rx ry h
  obtain ⟨d, e, h1, h2, s1, s2, q⟩ := h
  obtain ⟨as, ra⟩ := h1.reads I rx
  obtain ⟨bs, rb⟩ := h2.reads I ry
  exact eq_dataH ra rb s1 s2 hu ⟨.bl _, H, I, rfl, q⟩
theorem o_neD {X : Cx} (hu : X.A.units + 64 < cLine) : OpR X (compareOp .NotEq) (rEqD X.K true) := by
  intro pins s σ H x y v u Q I rx ry h
  obtain ⟨d, e, h1, h2, s1, s2, q⟩ := h
  obtain ⟨as, ra⟩ := h1.reads I rx
  obtain ⟨bs, rb⟩ := h2.reads I ry
  exact ne_dataH ra rb s1 s2 hu ⟨.bl _, H, I, rfl, q⟩
end L2

set_option Elab.async false
set_option linter.all false
set_option maxRecDepth 100000
set_option maxHeartbeats 4000000
namespace L2
open PySem PySem.Spec PyProof.Rows

/-! ### texts: slices, methods, numbers -/
noncomputable def cutS (z : Str) (lo hi : Option Int) : Str := ⟨((z.cps.toList.drop (HT.sIx z.cps.size 0 lo)).take (HT.sIx z.cps.size z.cps.size hi - HT.sIx z.cps.size 0 lo)).toArray⟩
theorem clipS (n d : Nat) (v : Option Int) : (match v with | none => (d : Int) | some i => max 0 (min (if i < 0 then i + (n : Int) else i) (n : Int))) = ((HT.sIx n d v : Nat) : Int) := by
  cases v with
  | none => rfl
  | some i =>
    show max 0 (min (if i < 0 then i + (n : Int) else i) (n : Int)) = (((if i < 0 then (i + (n : Int)).toNat else min i.toNat n) : Nat) : Int)
    split <;> omega
theorem strIdx (lo hi : Option Int) (n : Nat) : Builtin.Str.strSliceIndices lo hi 1 n = (List.range (HT.sIx n n hi - HT.sIx n 0 lo)).map (HT.sIx n 0 lo + ·) := by
  have e : Builtin.Str.strSliceIndices lo hi 1 n = sliceRange ((HT.sIx n 0 lo : Nat) : Int) ((HT.sIx n n hi : Nat) : Int) 1 := by
    rw [← clipS n 0 lo, ← clipS n n hi]
    unfold Builtin.Str.strSliceIndices
    simp only [show (1 : Int) > 0 by decide, if_true]
    cases lo <;> cases hi <;> rfl
  rw [e, sliceRange_one]
theorem slice_cut (z : Str) (lo hi : Option Int) : Txt.slice z lo hi = cutS z lo hi := by
  have e : ((Builtin.Str.strSliceIndices lo hi 1 z.length).filterMap (z.cps[·]?)) = (z.cps.toList.drop (HT.sIx z.cps.size 0 lo)).take (HT.sIx z.cps.size z.cps.size hi - HT.sIx z.cps.size 0 lo) := by
    rw [strIdx]
    exact pick_run z.cps _ _
  unfold Txt.slice
  split
  · rename_i h
    have hl : (Builtin.Str.strSliceIndices lo hi 1 z.length).length = z.cps.size := by
      rw [Bool.and_eq_true] at h
      exact eq_of_beq h.2
    rw [strIdx, List.length_map, List.length_range] at hl
    have h1 := HT.sIx_le z.cps.size z.cps.size (Nat.le_refl _) hi
    have hl' : HT.sIx z.cps.size z.cps.size hi - HT.sIx z.cps.size 0 lo = z.cps.size := hl
    unfold cutS
    by_cases h0 : z.cps.size = 0
    · refine ext_toList ?_
      have hz : z.cps.toList = [] := List.length_eq_zero_iff.mp (by simpa using h0)
      show z.cps.toList = _
      rw [hz]
      simp
    · have h2 : HT.sIx z.cps.size 0 lo = 0 := by omega
      rw [hl', h2, List.drop_zero, List.take_of_length_le (by simp)]
  · rw [e]
    rfl
section
variable {X : Cx}
noncomputable def rSlS : V → Option Int → Option Int → Hp → VK → Prop := fun x lo hi H Q => ∃ z, x = .str z ∧ z.length ≤ sizeLine ∧ Q (.str (cutS z lo hi)) H
theorem sl_str : SlR X rSlS := by
  intro pins s σ H x v vl vu lo hi sl Q I rx hs pl pu h
  obtain ⟨z, rfl, hz, q⟩ := h
  obtain ⟨t, rfl⟩ := rx
  refine ⟨"str", _, F.slot_str_getitem.lookup, typeIs_str _ _ _, ?_⟩
  rw [← slice_cut] at q
  have fin : ∀ t' k, EP X pins σ Q (.str (Txt.slice z lo hi) t') { s with toks := k } := fun t' k => ⟨.str _, H, I.tok _, ⟨_, rfl⟩, q⟩
  cases pl with
  | none =>
    cases pu with
    | none => exact wpAny_getItem_str_slice (l := none) (u := none) (st := none) hs rfl (post_val_or_str ⟨Nat.le_trans (Txt.slice_le z _ _) hz, fin⟩)
    | int j uj => exact wpAny_getItem_str_slice (l := none) (u := some (j, uj)) (st := none) hs rfl (post_val_or_str ⟨Nat.le_trans (Txt.slice_le z _ _) hz, fin⟩)
  | int i ui =>
    cases pu with
    | none => exact wpAny_getItem_str_slice (l := some (i, ui)) (u := none) (st := none) hs rfl (post_val_or_str ⟨Nat.le_trans (Txt.slice_le z _ _) hz, fin⟩)
    | int j uj => exact wpAny_getItem_str_slice (l := some (i, ui)) (u := some (j, uj)) (st := none) hs rfl (post_val_or_str ⟨Nat.le_trans (Txt.slice_le z _ _) hz, fin⟩)
theorem SlR.imp {r r' : V → Option Int → Option Int → Hp → VK → Prop} (h : SlR X r) (i : ∀ x lo hi H Q, r' x lo hi H Q → r x lo hi H Q) : SlR X r' :=
  fun pins s σ H x v vl vu lo hi sl Q I rx hs pl pu q => h pins s σ H x v vl vu lo hi sl Q I rx hs pl pu (i x lo hi H Q q)
/-- any slice, by the value -/
theorem sl_any : SlR X (fun x lo hi H Q => match x with
    | .str z => z.length ≤ sizeLine ∧ Q (.str (cutS z lo hi)) H
    | .ref a => (∃ xs, SqL X.K H a xs ∧ ∀ p, H p = none → Q (.ref p) (upd H p (.lst (cutV xs lo hi)))) ∨
        ∃ xs, SqT X.K H a xs ∧ ¬ (HT.sIx xs.length 0 lo = 0 ∧ HT.sIx xs.length xs.length hi = xs.length) ∧ ∀ p, H p = none → Q (.ref p) (upd H p (.tup (cutV xs lo hi)))
    | _ => False) := (sl_list.or (sl_tup.or sl_str)).imp fun x lo hi H Q q => by
  cases x with
  | str z => exact .inr (.inr ⟨z, rfl, q.1, q.2⟩)
  | ref a =>
    rcases q with ⟨xs, h1, h2⟩ | ⟨xs, h1, h2, h3⟩
    · exact .inl ⟨a, xs, rfl, h1, h2⟩
    · exact .inr (.inl ⟨a, xs, rfl, h1, h2, h3⟩)
  | _ => exact (show False from q).elim

theorem MtR.imp {id : String} {r r' : V → List V → Hp → VK → Prop} (h : MtR X id r) (i : ∀ x xs H Q, r' x xs H Q → r x xs H Q) : MtR X id r' :=
  fun pins s σ H x xs v us Q I rx rs q => h pins s σ H x xs v us Q I rx rs (i x xs H Q q)
/-- t.startswith(u) -/
noncomputable def rStarts : V → List V → Hp → VK → Prop := fun x xs H Q => match x, xs with
  | .str z, [.str y] => Q (.bl (Txt.startswith z y)) H
  | _, _ => False
theorem mt_starts : MtR X "str.startswith" rStarts := by
  intro pins s σ H x xs v us Q I rx rs q
  match x, xs, q with
  | .str z, [.str y], q =>
    obtain ⟨t, rfl⟩ := rx
    obtain ⟨u, rfl, t', rfl⟩ := vals1 rs
    exact SC.startswith ⟨.bl _, H, I, rfl, q⟩
/-- str(i) -/
theorem call_strI : CallR X (.type "str") (fun xs H Q => match xs with
    | [.int i] => i.natAbs.log2 < 1920 ∧ Q (.str (toString i)) H
    | _ => False) := call_str_int.imp fun xs H Q q => by
  match xs, q with
  | [.int i], q => exact ⟨i, rfl, q.1, q.2⟩
variable {o e : Expr} {es : List Expr} {to : TE} {t : TA} {apos cpos : Pos}
theorem pe_m.startswith (ho : PE X o to) (ha : PA X (e :: es) t)
    (hbase : attributeBase o "startswith" X.env (eval o X.env) = eval o X.env := by rfl)
    (hfew : ((backTo cpos (starEach (e :: es) X.env)).all (fun x => !x.1) && (backToKw cpos (keywordEach [] X.env)).all (fun x => x.1.isSome)
      && decide ((e :: es).length + ([] : List Keyword).length + (if ([] : List Keyword).isEmpty then 0 else 1) < 30)) = true := by rfl)
    (hline : (apos.endLine == cpos.line) = true := by rfl) (hs : starEach (e :: es) X.env = (false, eval e X.env) :: starEach es X.env := by rfl) (hplain : (backTo cpos (starEach es X.env)).any (·.1) = false := by rfl) :
    PE X (.Call (.Attribute o "startswith" apos) (e :: es) [] cpos) (tBM X.K "str" rStarts to t) := pe_bm F.plainAttrs_str F.slot_str_startswith F.type_str_startswith mt_starts ho ha hbase hfew hline hs hplain
end
end L2

set_option Elab.async false
set_option linter.all false
set_option maxRecDepth 100000
set_option maxHeartbeats 4000000
namespace L2
open PySem PySem.Spec PyProof.Rows
/-! ### joins: what holds behind a part, said once -/
section
variable {X : Cx} {st : Stmt} {rest : List Stmt} {t u : TS} {e : Expr} {te : TE} {tt : TT}
noncomputable def tSeqM (t u : TS) : TS := fun D σ H => ∃ M : St → Hp → Prop, t { D with nx := M } σ H ∧ ∀ σ' H', M σ' H' → u D σ' H'
theorem pss_consM (h1 : PS X st t) (h2 : PSs X rest u) : PSs X (st :: rest) (tSeqM t u) := by
  intro pins s σ H D I h
  obtain ⟨M, h, hm⟩ := h
  refine wpAny_execs_cons (thn (h1 pins s σ H { D with nx := M } I h) fun f s1 q => ?_)
  cases f with
  | next =>
    obtain ⟨σ', H', I', q⟩ := q
    exact h2 pins s1 σ' H' D I' (hm _ _ q)
  | ret v => exact q
  | brk => exact q
  | cont => exact q
end
end L2

set_option Elab.async false
set_option linter.all false
set_option maxRecDepth 100000
set_option maxHeartbeats 4000000
namespace L2
open PySem PySem.Spec PyProof.Rows
/-! ### iterators of several records; enumerate, zip -/
section
variable {X : Cx} {pins : List (Addr × Obj)} {σ : St} {H : Hp} {s : Shared} {h' : Heap}
/-- records of ours have turned, a thing may have been laid -/
theorem Inv.turnedNew {t' : Nat} {ch : List Addr} {a : Addr} {o : HO} (I : Inv X pins σ H s) (k : ∀ b u, b ∉ ch → s.heap.get? b = some u → h'.get? b = some u) (hf : ∀ b ∈ ch, FpOk X pins H b)
    (ha : s.heap.objs.size ≤ a) (new : ObjOk X.prog X.w (upd H a o) h' a o) : Inv X pins σ (upd H a o) { s with heap := h', toks := t' } := by
  have hna : H a = none := I.hok.fresh ha
  have nch : ∀ b u, H b = some u → b ∉ ch := fun b u e z => by
    rw [(hf b z).1] at e
    cases e
  have nea : ∀ b u, H b = some u → b ≠ a := fun b u e z => by
    rw [z, hna] at e
    cases e
  have old : ∀ b u, s.heap.get? b = some u → b ≠ a := fun b u e => Nat.ne_of_lt (Nat.lt_of_lt_of_le (Heap.lt_size e) ha)
  refine I.step (g' := s.gens) (d' := s.drawn) (ch := ch) (fun b hb => ?_) (fun b u _ _ hc e _ => k b u hc e) (fun b u _ _ hc e _ => ⟨u.slots, k b u hc e⟩) (fun b u _ e n => ?_) (fun b u hc e => ⟨u, k b u hc e⟩)
    (fun b xs e => ?_) (fun b u v e => ?_) (fun b ps e => ⟨#[], ?_⟩) (fun m hm => ?_) (fun b u e => ?_) I.bare
  · obtain ⟨_, f1, _, f3, f4, f5⟩ := hf b hb
    exact ⟨f3, f1, f4, f5⟩
  · rw [upd_ne (old b u e)]; exact n
  · rw [upd_ne (nea b _ e)]; exact e
  · rw [upd_ne (nea b _ e)]; exact e
  · rw [upd_ne (nea b _ e), e]; simp
  · obtain ⟨ob, es, ep, ho, r⟩ := hm
    exact ⟨ob, es, ep, k _ ob (fun z => (hf _ z).2.1 rfl) ho, r⟩
  · by_cases hb : b = a
    · subst hb
      rw [upd_same] at e
      cases e
      exact new
    · rw [upd_ne hb] at e
      refine (I.hok b u e).stay (fun c v hc q => k c v ?_ q) (fun c q => ?_) fun c xs q => ?_
      · rcases hc with z | z
        · rw [z]; exact nch b u e
        · exact nch c _ z
      · rw [upd_ne (nea c _ q)]; exact q
      · rw [upd_ne (nea c _ q)]; exact q
theorem Inv.turnedN {t' : Nat} {ch : List Addr} (I : Inv X pins σ H s) (k : ∀ b u, b ∉ ch → s.heap.get? b = some u → h'.get? b = some u) (hf : ∀ b ∈ ch, FpOk X pins H b) : Inv X pins σ H { s with heap := h', toks := t' } := by
  have nch : ∀ b u, H b = some u → b ∉ ch := fun b u e z => by
    rw [(hf b z).1] at e
    cases e
  refine I.step (g' := s.gens) (d' := s.drawn) (ch := ch) (fun b hb => ?_) (fun b u _ _ hc e _ => k b u hc e) (fun b u _ _ hc e _ => ⟨u.slots, k b u hc e⟩) (fun b u _ e n => n) (fun b u hc e => ⟨u, k b u hc e⟩)
    (fun b xs e => e) (fun b u v e => e) (fun b ps e => ⟨#[], by rw [e]; simp⟩) (fun m hm => ?_) (fun b u e => ?_) I.bare
  · obtain ⟨_, f1, _, f3, f4, f5⟩ := hf b hb
    exact ⟨f3, f1, f4, f5⟩
  · obtain ⟨ob, es, ep, ho, r⟩ := hm
    exact ⟨ob, es, ep, k _ ob (fun z => (hf _ z).2.1 rfl) ho, r⟩
  · refine (I.hok b u e).stay (fun c v hc q => k c v ?_ q) (fun c q => q) fun c xs q => q
    rcases hc with z | z
    · rw [z]; exact nch b u e
    · exact nch c _ z
end
/-- (i, the item) of the tracked list at a -/
noncomputable def Ite (a : Addr) : It := ⟨fun i H => ∃ xs x, H a = some (.lst xs) ∧ xs[i]? = some x,
  fun i H x H' => ∃ p y, H p = none ∧ x = .ref p ∧ (∀ xs, H a = some (.lst xs) → xs[i]? = some y) ∧ H' = upd H p (.tup [.int (i : Nat), y]), fun i H => ∃ xs, H a = some (.lst xs) ∧ xs.length ≤ i⟩
theorem turn_enum {P : Program} {w : World} {K : PySem.W.Frag} {es : List Expr} {k : Nat} {pos : Pos} (a e it : Addr) (hne : e ≠ it) :
    Turn P w K (.Tuple es k pos) (Ite a) [e, it] e (fun i h => (∃ old, IsEnum h e it i old) ∧ h.IsListIter it a i) where
  mem := by simp
  obj := fun i h st b hb => by
    obtain ⟨⟨old, he⟩, o, h1, h2, h3⟩ := st
    rcases List.mem_cons.mp hb with rfl | hb
    · exact ⟨_, he, fun v z => by cases z⟩
    · rw [List.mem_singleton.mp hb]
      exact ⟨o, h1, fun v z => by rw [h3] at z; cases z⟩
  keep := fun i h h' st kp => by
    obtain ⟨⟨old, he⟩, o, h1, r⟩ := st
    exact ⟨⟨old, kp e (by simp) _ he⟩, o, kp it (by simp) o h1, r⟩
  item := by
    intro X hP hw hK hc i pins s σ H E I hf st hg
    subst hP hw hK
    obtain ⟨⟨old, he⟩, hit⟩ := st
    obtain ⟨xs, x, hl, hx⟩ := hg
    obtain ⟨z, its, n, r, hlen, eo⟩ := I.lstM hl
    obtain ⟨u, hu, ru⟩ := Vals.get r hx
    have hil : s.heap.IsList a its.toArray := ⟨_, eo, rfl, _, rfl⟩
    refine wpAny_pyNext_enum_item he hit hil (x := u) (by simpa using hu) hne fun h1 e1 e2 e3 e4 e5 => ?_
    refine ⟨_, rfl, wpAny_letOwnedTupleGo_enum e1 fun h2 e6 sb => ?_⟩
    have hps : s.heap.objs.size ≠ e := fun q => absurd (Heap.lt_size he) (by rw [← q]; exact Nat.lt_irrefl _)
    have hpi : s.heap.objs.size ≠ it := fun q => by
      obtain ⟨o, ho, _⟩ := hit
      exact absurd (Heap.lt_size ho) (by rw [← q]; exact Nat.lt_irrefl _)
    have hn : H s.heap.objs.size = none := I.hok.fresh (Nat.le_refl _)
    have e3' : h2.get? s.heap.objs.size = some { cls := .type "tuple", data := .seq #[.int i s.toks, u] } := (sb.2 _ hps).trans e3
    have J : Inv X pins σ (upd H s.heap.objs.size (.tup [.int (i : Nat), x])) { s with heap := h2, toks := s.toks + 1 } := by
      refine I.turnedNew (ch := [e, it]) (fun b o hb q => ?_) hf (Nat.le_refl _) ⟨by rw [sizeLine_eq]; show 2 ≤ 16777216; decide, [.int i s.toks, u], .cons ⟨_, rfl⟩ (.cons ru .nil), _, e3', rfl, 0, rfl⟩
      have b1 : b ≠ e := fun z => hb (by simp [z])
      have b2 : b ≠ it := fun z => hb (by simp [z])
      exact (sb.2 b b1).trans (e5 b o b1 b2 q)
    refine ⟨.ref s.heap.objs.size, _, J, rfl, ⟨s.heap.objs.size, x, hn, rfl, fun ys hy => ?_, rfl⟩, ⟨⟨u, ?_⟩, ?_⟩, fun b hb => ?_⟩
    · rw [hl] at hy
      cases hy
      exact hx
    · have e6' : IsEnum h2 e it ((i : Int) + 1) u := e6
      have e7 : ((i + 1 : Nat) : Int) = (i : Int) + 1 := by omega
      rw [e7]
      exact e6'
    · obtain ⟨o, ho, r⟩ := e2
      exact ⟨o, (sb.2 it (Ne.symm hne)).trans ho, r⟩
    · have hb' : b ≠ s.heap.objs.size := by
        rcases List.mem_cons.mp hb with rfl | hb
        · exact hps.symm
        · rw [List.mem_singleton.mp hb]; exact hpi.symm
      rw [upd_ne hb']
      exact (hf b hb).1
  done := by
    intro X hP hw hK hc i pins s σ H E I hf st hg
    subst hP hw hK
    obtain ⟨⟨old, he⟩, hit⟩ := st
    obtain ⟨xs, hl, hx⟩ := hg
    obtain ⟨z, its, n, r, hlen, eo⟩ := I.lstM hl
    have hil : s.heap.IsList a its.toArray := ⟨_, eo, rfl, _, rfl⟩
    refine wpAny_pyNext_enum_end (I.ok.hd hc) he hit hil (by simp; omega) fun h1 eb => ⟨rfl, I.turnedN (ch := [e, it]) (t' := s.toks) (fun b o hb q => eb b o (fun z => hb (by simp [z])) q) hf⟩
  self := fun _ _ _ _ _ st h => by
    obtain ⟨⟨old, he⟩, _⟩ := st
    exact wpAny_pyIter_enum he h
noncomputable def iEnum (ta : TA) : TI := fun σ H R => ta σ H fun vs H1 => ∃ a xs, vs = [.ref a] ∧ H1 a = some (.lst xs) ∧ R (Ite a) H1
theorem pi_enum {X : Cx} {es : List Expr} {k : Nat} {tpos : Pos} {e : Expr} {ta : TA} {p pos : Pos} (hg : Gl X "enumerate") (hm : X.mg "enumerate" = none) (ha : PA X [e] ta) (hs : starEach [e] X.env = [(false, eval e X.env)] := by rfl) :
    PI X (.Tuple es k tpos) (.Call (.Name "enumerate" p) [e] [] pos) (iEnum ta) := by
  intro pins s σ H R I h
  refine wpAny_Call_Name_kw (ld_blt I hg hm bt_enumerate ?_ (by decide) (by decide))
  refine PyProof.Rows.callWith_type1 (thn (ha pos pins s σ H _ I h) fun us s1 ⟨vs, H1, I1, r1, a, xs, e1, hl, q⟩ => ?_) hs rfl
  subst e1
  obtain ⟨u, rfl, ru⟩ := vals1 r1
  cases ru
  obtain ⟨z, its, n, r, hlen, eo⟩ := I1.lstM hl
  refine call_enumerate_1 (n := n) eo fun h2 e1 e2 e3 e4 => ?_
  have I2 : Inv X pins σ H1 { s1 with heap := h2 } := I1.kept (t' := s1.toks) e4
  have hne : s1.heap.objs.size + 1 ≠ s1.heap.objs.size := Nat.succ_ne_self _
  refine wpAny_pyIter_enum e1 ?_
  refine ⟨s1.heap.objs.size + 1, [s1.heap.objs.size + 1, s1.heap.objs.size], _, _, H1, rfl, I2, turn_enum a _ _ hne, ⟨⟨_, e1⟩, e2⟩, fun b hb => ?_, q⟩
  have hb' : s1.heap.objs.size ≤ b := by
    rcases List.mem_cons.mp hb with rfl | hb
    · omega
    · rw [List.mem_singleton.mp hb]
      exact Nat.le_refl _
  exact I1.fpOk hb' (I1.hok.fresh hb')
/-- over enumerate(xs), the list stays -/
theorem for_enum {a : Addr} {xs : List V} {g : TG} {tb : TS} {D : Ends} {σ : St} {H : Hp} (Pv : Nat → St → Hp → Prop) (h0 : Pv 0 σ H) (hl : ∀ i σ H, Pv i σ H → H a = some (.lst xs))
    (hs : ∀ (i : Nat) x σ H p, xs[i]? = some x → Pv i σ H → H p = none → g (.ref p) σ (upd H p (.tup [.int (i : Nat), x])) fun σ2 H2 => tb { D with nx := Pv (i + 1), ct := Pv (i + 1), bk := D.nx } σ2 H2) (hd : ∀ σ H, Pv xs.length σ H → D.nx σ H) :
    ∃ W : Nat → Nat → St → Hp → Prop, (∃ m, W 0 m σ H) ∧ ∀ i m σ H, W i m σ H →
      ((Ite a).stop i H ∧ D.nx σ H) ∨ ((Ite a).go i H ∧ ∃ N : St → Hp → Prop, (∀ σ' H', N σ' H' → ∃ m', m' < m ∧ W (i + 1) m' σ' H') ∧ ∀ x H', (Ite a).yld i H x H' → g x σ H' fun σ2 H2 => tb { D with nx := N, ct := N, bk := D.nx } σ2 H2) := by
  refine ⟨fun i m σ H => m = xs.length - i ∧ i ≤ xs.length ∧ Pv i σ H, ⟨_, rfl, Nat.zero_le _, h0⟩, ?_⟩
  rintro i m σ H ⟨rfl, hi, p⟩
  have q := hl i σ H p
  by_cases hlt : i < xs.length
  · refine .inr ⟨⟨xs, xs[i], q, by simp [hlt]⟩, Pv (i + 1), fun σ' H' p' => ⟨_, by omega, rfl, hlt, p'⟩, fun x H' y => ?_⟩
    obtain ⟨b, v, hb, rfl, hv, rfl⟩ := y
    exact hs i v σ H b (hv xs q) p hb
  · have e : i = xs.length := by omega
    subst e
    exact .inl ⟨⟨xs, q, Nat.le_refl _⟩, hd σ H p⟩
/-- pairs of the items of the tracked lists at a and b -/
noncomputable def Itz (a b : Addr) : It := ⟨fun i H => ∃ xs ys x y, H a = some (.lst xs) ∧ H b = some (.lst ys) ∧ xs[i]? = some x ∧ ys[i]? = some y,
  fun i H v H' => ∃ p x y, H p = none ∧ v = .ref p ∧ (∀ xs, H a = some (.lst xs) → xs[i]? = some x) ∧ (∀ ys, H b = some (.lst ys) → ys[i]? = some y) ∧ H' = upd H p (.tup [x, y]),
  fun i H => ∃ xs ys, H a = some (.lst xs) ∧ H b = some (.lst ys) ∧ (xs.length ≤ i ∨ ys.length ≤ i)⟩
theorem turn_zip {P : Program} {w : World} {K : PySem.W.Frag} {es : List Expr} {k : Nat} {pos : Pos} (a b z TI TO i1 i2 : Addr) (nd : [z, TI, TO, i1, i2].Nodup) :
    Turn P w K (.Tuple es k pos) (Itz a b) [z, TI, TO, i1, i2] z (fun i h => IsZip h z TI TO .none ∧ IsPair h TI (.ref i1) (.ref i2) ∧ (∃ u v, IsPair h TO u v) ∧ h.IsListIter i1 a i ∧ h.IsListIter i2 b i) := by
  have n1 : TI ≠ z := fun e => by simp [e] at nd
  have n2 : TO ≠ z := fun e => by simp [e] at nd
  have n3 : i1 ≠ z := fun e => by simp [e] at nd
  have n4 : i2 ≠ z := fun e => by simp [e] at nd
  have n5 : TI ≠ TO := fun e => by simp [e] at nd
  have n6 : TI ≠ i1 := fun e => by simp [e] at nd
  have n7 : TI ≠ i2 := fun e => by simp [e] at nd
  have n8 : TO ≠ i1 := fun e => by simp [e] at nd
  have n9 : TO ≠ i2 := fun e => by simp [e] at nd
  have n0 : i1 ≠ i2 := fun e => by simp [e] at nd
  have apart : ∀ {H : Hp} {xs ys : List V}, (∀ c ∈ [z, TI, TO, i1, i2], H c = none) → H a = some (.lst xs) → H b = some (.lst ys) → ZipApart z TI TO i1 i2 a b := fun {H xs ys} hf ha hb =>
    ⟨n1, n2, n3, n4, n5, n6, n7, n8, n9, n0, ne_of_none ha (hf z (by simp)), ne_of_none ha (hf TO (by simp)), ne_of_none ha (hf i1 (by simp)), ne_of_none ha (hf i2 (by simp)),
      ne_of_none hb (hf z (by simp)), ne_of_none hb (hf TO (by simp)), ne_of_none hb (hf i1 (by simp)), ne_of_none hb (hf i2 (by simp))⟩
  refine { mem := by simp, obj := ?_, keep := ?_, item := ?_, done := ?_, self := ?_ }
  · rintro i h ⟨h1, h2, ⟨u, v, h3⟩, ⟨o4, h4, _, d4⟩, ⟨o5, h5, _, d5⟩⟩ c hc
    simp only [List.mem_cons, List.not_mem_nil, or_false] at hc
    rcases hc with rfl | rfl | rfl | rfl | rfl
    · exact ⟨_, h1, fun v z => by cases z⟩
    · exact ⟨_, h2, fun v z => by cases z⟩
    · exact ⟨_, h3, fun v z => by cases z⟩
    · exact ⟨_, h4, fun v z => by rw [d4] at z; cases z⟩
    · exact ⟨_, h5, fun v z => by rw [d5] at z; cases z⟩
  · rintro i h h' ⟨h1, h2, ⟨u, v, h3⟩, ⟨o4, h4, r4⟩, ⟨o5, h5, r5⟩⟩ kp
    exact ⟨kp z (by simp) _ h1, kp TI (by simp) _ h2, ⟨u, v, kp TO (by simp) _ h3⟩, ⟨o4, kp i1 (by simp) _ h4, r4⟩, ⟨o5, kp i2 (by simp) _ h5, r5⟩⟩
  · intro X hP hw hK hc i pins s σ H E I hf st hg
    subst hP hw hK
    obtain ⟨h1, h2, ⟨u, v, h3⟩, h4, h5⟩ := st
    obtain ⟨xs, ys, x, y, ha, hb, hx, hy⟩ := hg
    obtain ⟨_, its, n, r, hlen, eo⟩ := I.lstM ha
    obtain ⟨_, its2, m, r2, hlen2, eo2⟩ := I.lstM hb
    obtain ⟨ux, hux, rux⟩ := Vals.get r hx
    obtain ⟨uy, huy, ruy⟩ := Vals.get r2 hy
    have hn : H s.heap.objs.size = none := I.hok.fresh (Nat.le_refl _)
    have new : ∀ c ∈ [z, TI, TO, i1, i2], c ≠ s.heap.objs.size := fun c hc q => by
      have : ∃ o, s.heap.get? c = some o := by
        simp only [List.mem_cons, List.not_mem_nil, or_false] at hc
        obtain ⟨o4, h4, _⟩ := h4
        obtain ⟨o5, h5, _⟩ := h5
        rcases hc with rfl | rfl | rfl | rfl | rfl
        · exact ⟨_, h1⟩
        · exact ⟨_, h2⟩
        · exact ⟨_, h3⟩
        · exact ⟨_, h4⟩
        · exact ⟨_, h5⟩
      obtain ⟨o, ho⟩ := this
      exact absurd (Heap.lt_size ho) (by rw [q]; exact Nat.lt_irrefl _)
    refine wpAny_pyNext_zip_item (apart (fun c hc => (hf c hc).1) ha hb) h1 h2 h3 h4 h5 (xs := its.toArray) (ys := its2.toArray) ⟨_, eo, rfl, _, rfl⟩ ⟨_, eo2, rfl, _, rfl⟩ (x := ux) (y := uy) (by simpa using hux) (by simpa using huy)
      fun h6 e1 e2 e3 e4 e5 e6 e7 => ?_
    refine ⟨_, rfl, wpAny_letOwnedTupleGo_zip e1 fun h7 e8 sb => ?_⟩
    have J : Inv X pins σ (upd H s.heap.objs.size (.tup [x, y])) { s with heap := h7 } := by
      refine I.turnedNew (t' := s.toks) (ch := [z, TI, TO, i1, i2]) (fun c o hc q => ?_) hf (Nat.le_refl _) ⟨by rw [sizeLine_eq]; show 2 ≤ 16777216; decide, [ux, uy], .cons rux (.cons ruy .nil), _, (sb.2 _ (new z (by simp)).symm).trans e5, rfl, 0, rfl⟩
      have c1 : c ≠ z := fun w => hc (by simp [w])
      exact (sb.2 c c1).trans (e7 c o c1 (fun w => hc (by simp [w])) (fun w => hc (by simp [w])) (fun w => hc (by simp [w])) q)
    refine ⟨.ref s.heap.objs.size, _, J, rfl, ⟨s.heap.objs.size, x, y, hn, rfl, fun xs' h => by rw [ha] at h; cases h; exact hx, fun ys' h => by rw [hb] at h; cases h; exact hy, rfl⟩, ⟨e8, ?_, ⟨ux, uy, ?_⟩, ?_, ?_⟩, fun c hc => ?_⟩
    · exact (sb.2 TI n1).trans (e7 TI _ n1 n5 n6 n7 h2)
    · exact (sb.2 TO n2).trans e2
    · obtain ⟨o, ho, q⟩ := e3
      exact ⟨o, (sb.2 i1 n3).trans ho, q⟩
    · obtain ⟨o, ho, q⟩ := e4
      exact ⟨o, (sb.2 i2 n4).trans ho, q⟩
    · rw [upd_ne (new c hc)]
      exact (hf c hc).1
  · intro X hP hw hK hc i pins s σ H E I hf st hg
    subst hP hw hK
    obtain ⟨h1, h2, ⟨u, v, h3⟩, h4, h5⟩ := st
    obtain ⟨xs, ys, ha, hb, hx⟩ := hg
    obtain ⟨_, its, n, r, hlen, eo⟩ := I.lstM ha
    obtain ⟨_, its2, m, r2, hlen2, eo2⟩ := I.lstM hb
    refine wpAny_pyNext_zip_end (I.ok.hd hc) (apart (fun c hc => (hf c hc).1) ha hb) h1 h2 h3 h4 h5 (xs := its.toArray) (ys := its2.toArray) ⟨_, eo, rfl, _, rfl⟩ ⟨_, eo2, rfl, _, rfl⟩ (by simp; omega) fun h6 e7 => ?_
    exact ⟨rfl, I.turnedN (t' := s.toks) (ch := [z, TI, TO, i1, i2]) (fun c o hc q => e7 c o (fun w => hc (by simp [w])) (fun w => hc (by simp [w])) (fun w => hc (by simp [w])) (fun w => hc (by simp [w])) q) hf⟩
  · exact fun _ _ _ _ _ st h => wpAny_pyIter_zip st.1 h
noncomputable def iZip (ta : TA) : TI := fun σ H R => ta σ H fun vs H1 => ∃ a b xs ys, vs = [.ref a, .ref b] ∧ H1 a = some (.lst xs) ∧ H1 b = some (.lst ys) ∧ R (Itz a b) H1
theorem pi_zip {X : Cx} {es : List Expr} {k : Nat} {tpos : Pos} {e f : Expr} {ta : TA} {p pos : Pos} (hg : Gl X "zip") (hm : X.mg "zip" = none) (ha : PA X [e, f] ta) (hs : starEach [e, f] X.env = (false, eval e X.env) :: starEach [f] X.env := by rfl)
    (hpl : (backTo pos (starEach [f] X.env)).any (·.1) = false := by rfl) : PI X (.Tuple es k tpos) (.Call (.Name "zip" p) [e, f] [] pos) (iZip ta) := by
  intro pins s σ H R I h
  refine wpAny_Call_Name_kw (ld_blt I hg hm bt_zip ?_ (by decide) (by decide))
  refine PyProof.Rows.callWith_type1 (thn (ha pos pins s σ H _ I h) fun us s1 ⟨vs, H1, I1, r1, a, b, xs, ys, e1, hl, hl2, q⟩ => ?_) hs hpl
  subst e1
  obtain ⟨u, v, rfl, ru, rv⟩ := vals2 r1
  cases ru
  cases rv
  obtain ⟨_, its, n, r, hlen, eo⟩ := I1.lstM hl
  obtain ⟨_, its2, m, r2, hlen2, eo2⟩ := I1.lstM hl2
  refine call_zip_2 (xs := its.toArray) (ys := its2.toArray) ⟨_, eo, rfl, _, rfl⟩ ⟨_, eo2, rfl, _, rfl⟩ fun h2 e1 e2 e3 e4 e5 e6 e7 => ?_
  have I2 : Inv X pins σ H1 { s1 with heap := h2 } := I1.kept (t' := s1.toks) e7
  refine wpAny_pyIter_zip e1 ?_
  refine ⟨s1.heap.objs.size + 4, [s1.heap.objs.size + 4, s1.heap.objs.size + 2, s1.heap.objs.size + 3, s1.heap.objs.size, s1.heap.objs.size + 1], _, _, H1, rfl, I2, turn_zip a b _ _ _ _ _ (by simp), ⟨e1, e2, ⟨_, _, e3⟩, e4, e5⟩, fun c hc => ?_, q⟩
  have hc' : s1.heap.objs.size ≤ c := by
    simp only [List.mem_cons, List.not_mem_nil, or_false] at hc
    rcases hc with z | z | z | z | z <;> rw [z] <;> first | exact Nat.le_refl _ | exact Nat.le_add_right _ _
  exact I1.fpOk hc' (I1.hok.fresh hc')
theorem for_zip {a b : Addr} {xs ys : List V} {g : TG} {tb : TS} {D : Ends} {σ : St} {H : Hp} (he : xs.length = ys.length) (Pv : Nat → St → Hp → Prop) (h0 : Pv 0 σ H) (hl : ∀ i σ H, Pv i σ H → H a = some (.lst xs) ∧ H b = some (.lst ys))
    (hs : ∀ (i : Nat) x y σ H p, xs[i]? = some x → ys[i]? = some y → Pv i σ H → H p = none → g (.ref p) σ (upd H p (.tup [x, y])) fun σ2 H2 => tb { D with nx := Pv (i + 1), ct := Pv (i + 1), bk := D.nx } σ2 H2) (hd : ∀ σ H, Pv xs.length σ H → D.nx σ H) :
    ∃ W : Nat → Nat → St → Hp → Prop, (∃ m, W 0 m σ H) ∧ ∀ i m σ H, W i m σ H →
      ((Itz a b).stop i H ∧ D.nx σ H) ∨ ((Itz a b).go i H ∧ ∃ N : St → Hp → Prop, (∀ σ' H', N σ' H' → ∃ m', m' < m ∧ W (i + 1) m' σ' H') ∧ ∀ x H', (Itz a b).yld i H x H' → g x σ H' fun σ2 H2 => tb { D with nx := N, ct := N, bk := D.nx } σ2 H2) := by
  refine ⟨fun i m σ H => m = xs.length - i ∧ i ≤ xs.length ∧ Pv i σ H, ⟨_, rfl, Nat.zero_le _, h0⟩, ?_⟩
  rintro i m σ H ⟨rfl, hi, p⟩
  obtain ⟨q1, q2⟩ := hl i σ H p
  by_cases hlt : i < xs.length
  · refine .inr ⟨⟨xs, ys, xs[i], ys[i]'(by omega), q1, q2, by simp [hlt], by simp [show i < ys.length by omega]⟩, Pv (i + 1), fun σ' H' p' => ⟨_, by omega, rfl, hlt, p'⟩, fun v H' y => ?_⟩
    obtain ⟨c, x, y, hc, rfl, hx, hy, rfl⟩ := y
    exact hs i x y σ H c (hx xs q1) (hy ys q2) p hc
  · have e : i = xs.length := by omega
    subst e
    exact .inl ⟨⟨xs, ys, q1, q2, .inl (Nat.le_refl _)⟩, hd σ H p⟩
end L2

set_option Elab.async false
set_option linter.all false
set_option maxRecDepth 100000
set_option maxHeartbeats 4000000
namespace NumM
open PySem PySem.NumText

noncomputable def codesI (n : Int) : List Nat := (toString n : String).toList.map Char.toNat

theorem codes_nat (m : Nat) : codesI (m : Int) = (Nat.toDigits 10 m).map Char.toNat := by
  unfold codesI
  show (Nat.repr m).toList.map Char.toNat = _
  rw [Nat.toList_repr]
theorem codes_neg (m : Nat) (h : 0 < m) : codesI (-(m : Int)) = 45 :: (Nat.toDigits 10 m).map Char.toNat := by
  obtain ⟨k, rfl⟩ : ∃ k, m = k + 1 := ⟨m - 1, by omega⟩
  have e : -((k + 1 : Nat) : Int) = Int.negSucc k := rfl
  rw [e]
  unfold codesI
  have e2 : (toString (Int.negSucc k) : String) = "-" ++ Nat.repr (k + 1) := rfl
  rw [e2, String.toList_append, Nat.toList_repr]
  rfl
theorem toNat_ofNat {c : Nat} (h : c < 128) : (Char.ofNat c).toNat = c := by
  have : c.isValidChar := Or.inl (by omega)
  simp [Char.ofNat, this, Char.toNat, Char.ofNatAux]
theorem back {cs : List Nat} (h : AllDigits cs) : (cs.map Char.ofNat).map Char.toNat = cs := by
  rw [List.map_map]
  induction cs with
  | nil => rfl
  | cons c cs ih =>
    rw [List.map_cons, ih h.tail]
    have := h.head
    show (Char.ofNat c).toNat :: cs = _
    rw [toNat_ofNat (by omega)]
end NumM
namespace L2
open PySem PySem.Spec PyProof.Rows
theorem small_log {i : Int} (h : i.natAbs < 2 ^ 64) : i.natAbs.log2 < 1920 := by
  by_cases h0 : i.natAbs = 0
  · rw [h0]; decide
  · have := (Nat.log2_lt h0).mpr h
    omega
theorem toStr_codes (n : Int) : ((toString n : String) : Str).cps.toList = NumM.codesI n := signs_ofString _
theorem dig_len : ∀ (k m : Nat), m < 10 ^ (k + 1) → (Nat.toDigits 10 m).length ≤ k + 1
  | 0, m, h => by
    rw [Nat.toDigits_of_lt_base (by simpa using h)]
    exact Nat.le_refl _
  | k + 1, m, h => by
    by_cases hm : m < 10
    · rw [Nat.toDigits_of_lt_base hm]
      simp
    · have hr : m % 10 < 10 := Nat.mod_lt m (by decide)
      have t : Nat.toDigits 10 (m / 10) ++ Nat.toDigits 10 (m % 10) = Nat.toDigits 10 (10 * (m / 10) + m % 10) := Nat.toDigits_append_toDigits (by decide) (by omega) hr
      rw [Nat.div_add_mod] at t
      rw [← t, List.length_append, Nat.toDigits_of_lt_base hr]
      have := dig_len k (m / 10) (by rw [Nat.pow_succ] at h; omega)
      simp only [List.length_cons, List.length_nil]
      omega
theorem codes_len {k : Nat} {n : Int} (h : n.natAbs < 10 ^ (k + 1)) : (NumM.codesI n).length ≤ k + 2 := by
  by_cases h0 : 0 ≤ n
  · obtain ⟨m, rfl⟩ := Int.eq_ofNat_of_zero_le h0
    rw [NumM.codes_nat, List.length_map]
    have := dig_len k m (by simpa using h)
    omega
  · obtain ⟨m, rfl⟩ : ∃ m : Nat, n = -(m : Int) := ⟨n.natAbs, by omega⟩
    rw [NumM.codes_neg m (by omega), List.length_cons, List.length_map]
    have := dig_len k m (by simpa using h)
    omega
noncomputable def within (lo hi : Int) : Option Int → Option Int
  | some n => if lo ≤ n ∧ n ≤ hi then some n else none
  | none => none
noncomputable def madeB (t S : Str) (m : Int) : Bool := decide (1 ≤ (t.cps.size : Int) ∧ (t.cps.size : Int) ≤ m) && t.cps.toList.all fun c => decide (c ∈ S.cps.toList)
end L2

set_option Elab.async false
set_option linter.all false
set_option maxRecDepth 100000
set_option maxHeartbeats 4000000
namespace SplM
open PySem
/-- the parts between the signs c -/
noncomputable def splitC (c : Nat) : List Nat → List (List Nat)
  | [] => [[]]
  | a :: l => if a = c then [] :: splitC c l else match splitC c l with
    | [] => [[a]]
    | p :: r => (a :: p) :: r
/-- the parts with c between -/
noncomputable def joinC (c : Nat) : List (List Nat) → List Nat
  | [] => []
  | [p] => p
  | p :: q :: r => p ++ c :: joinC c (q :: r)
theorem splitC_ne (c : Nat) : ∀ l, splitC c l ≠ []
  | [] => by simp [splitC]
  | a :: l => by
    unfold splitC
    split
    · exact List.cons_ne_nil _ _
    · split <;> exact List.cons_ne_nil _ _
theorem joinC_cons (c : Nat) (p : List Nat) {r : List (List Nat)} (h : r ≠ []) : joinC c (p :: r) = p ++ c :: joinC c r := by
  cases r with
  | nil => exact absurd rfl h
  | cons q r => rfl
theorem split_app (c : Nat) : ∀ (p l : List Nat), c ∉ p → splitC c (p ++ c :: l) = p :: splitC c l
  | [], l, _ => by simp [splitC]
  | a :: p, l, h => by
    have ha : a ≠ c := fun e => h (by rw [e]; exact List.mem_cons_self)
    have ih := split_app c p l fun z => h (List.mem_cons_of_mem _ z)
    rw [List.cons_append, splitC, if_neg ha, ih]
theorem split_free (c : Nat) : ∀ (p : List Nat), c ∉ p → splitC c p = [p]
  | [], _ => rfl
  | a :: p, h => by
    have ha : a ≠ c := fun e => h (by rw [e]; exact List.mem_cons_self)
    unfold splitC
    rw [if_neg ha, split_free c p fun z => h (List.mem_cons_of_mem _ z)]
theorem split_join (c : Nat) : ∀ (ps : List (List Nat)), ps ≠ [] → (∀ p ∈ ps, c ∉ p) → splitC c (joinC c ps) = ps
  | [], h, _ => absurd rfl h
  | [p], _, h => split_free c p (h p List.mem_cons_self)
  | p :: q :: r, _, h => by
    rw [joinC, split_app c p _ (h p List.mem_cons_self), split_join c (q :: r) (List.cons_ne_nil _ _) fun x hx => h x (List.mem_cons_of_mem _ hx)]
theorem join_split (c : Nat) : ∀ l, joinC c (splitC c l) = l
  | [] => rfl
  | a :: l => by
    have ih := join_split c l
    unfold splitC
    split
    · rename_i e
      rw [joinC_cons c [] (splitC_ne c l), ih, e]; rfl
    · cases hs : splitC c l with
      | nil => exact absurd hs (splitC_ne c l)
      | cons p r =>
        rw [hs] at ih
        show joinC c ((a :: p) :: r) = a :: l
        cases r with
        | nil => rw [← ih]; rfl
        | cons q r => rw [← ih]; rfl
theorem split_len (c : Nat) : ∀ l, (splitC c l).length ≤ l.length + 1
  | [] => Nat.le_refl _
  | a :: l => by
    have ih := split_len c l
    unfold splitC
    split
    · simp only [List.length_cons]; omega
    · cases hs : splitC c l with
      | nil => simp
      | cons q r => rw [hs] at ih; simp only [List.length_cons] at ih ⊢; omega
theorem codes_join (c : Nat) : ∀ ts : List Str, (Str.join ⟨#[c]⟩ ts).cps.toList = joinC c (ts.map fun t => t.cps.toList)
  | [] => rfl
  | [t] => rfl
  | t :: u :: r => by
    have ih := codes_join c (u :: r)
    show (t ++ (⟨#[c]⟩ : Str) ++ Str.join ⟨#[c]⟩ (u :: r)).cps.toList = _
    rw [Str.cps_append, Str.cps_append, Array.toList_append, Array.toList_append, ih]
    show t.cps.toList ++ [c] ++ _ = t.cps.toList ++ c :: _
    rw [List.append_assoc]; rfl
/-- t.split(c), by the codes -/
theorem codes_split (x : Str) (c : Nat) : (Txt.split x ⟨#[c]⟩).map (fun t => t.cps.toList) = splitC c x.cps.toList := by
  have h1 := StrLaws.join_split x ⟨#[c]⟩
  have h2 := StrLaws.split_free x c
  have hne : Txt.split x ⟨#[c]⟩ ≠ [] := by
    unfold Txt.split
    split
    · exact List.cons_ne_nil _ _
    · split
      · exact List.cons_ne_nil _ _
      · rw [StrLaws.partsBetween_eq]
        obtain ⟨p, r, e⟩ := StrLaws.partsFrom_ne x (⟨#[c]⟩ : Str).length 0 (Builtin.Str.occurrences x ⟨#[c]⟩ 0 x.length (x.length + 1))
        rw [e]; exact List.cons_ne_nil _ _
  have h3 := codes_join c (Txt.split x ⟨#[c]⟩)
  rw [h1] at h3
  rw [h3, split_join c _ (by simpa using hne) ?_]
  intro p hp
  obtain ⟨t, ht, rfl⟩ := List.mem_map.mp hp
  exact h2 t ht
end SplM
namespace L2
open PySem PySem.Spec PyProof.Rows
/-! ### join, split, fields of texts, truth, list methods -/
section
variable {X : Cx}
theorem vals_strs : ∀ {ts : List Str} {us : List Value}, Vals (ts.map V.str) us → StrsAre us ts
  | [], us, r => by
    rw [List.map_nil] at r
    cases r
    exact .nil
  | t :: ts, us, r => by
    rw [List.map_cons] at r
    cases r with
    | cons r1 r2 =>
      obtain ⟨k, rfl⟩ := r1
      exact .cons t k (vals_strs r2)
/-- sep.join(texts), of a list or a tuple -/
noncomputable def rJoin (K : PySem.W.Frag) : V → List V → Hp → VK → Prop := fun x xs H Q => ∃ (z : Str) (p : Addr) (ts : List Str), x = .str z ∧ xs = [.ref p] ∧ (SqL K H p (ts.map V.str) ∨ SqT K H p (ts.map V.str)) ∧
  (ts.map (·.length)).sum + ts.length * z.length ≤ 16777216 ∧ Q (.str (Txt.join z ts)) H
theorem mt_join : MtR X "str.join" (rJoin X.K) := by
  intro pins s σ H x xs v us Q I rx rs h
  obtain ⟨z, p, ts, rfl, rfl, hp, hz, q⟩ := h
  obtain ⟨t, rfl⟩ := rx
  obtain ⟨u, rfl, ru⟩ := vals1 rs
  cases ru
  rcases hp with hp | hp
  · obtain ⟨its, r, pl, _⟩ := I.list hp
    exact join_list pl.isList (by simpa using vals_strs r) hz fun t' k => ⟨.str _, H, I.tok _, ⟨_, rfl⟩, q⟩
  · obtain ⟨its, r, pl, _⟩ := I.tuple hp
    exact join_tuple pl (by simpa using vals_strs r) hz fun t' k => ⟨.str _, H, I.tok _, ⟨_, rfl⟩, q⟩
theorem vals_of_strs : ∀ (l : List (Str × Tok)), Vals ((l.map (·.1)).map V.str) (strValues l)
  | [] => .nil
  | p :: l => .cons ⟨p.2, rfl⟩ (vals_of_strs l)
open Builtin.Str in
theorem split_new {P : Program} {w : World} {A : Around} {E : Value → Shared → Prop} {s : Shared} {x y : Str} {t u : Tok} {Q : Value → Shared → Prop} (hy : (y.length == 0) = false) (hx : x.length ≤ sizeLine)
    (hp : (partsBetween x (occurrences x y 0 x.length (x.length + 1)) y.length).length ≤ sizeLine)
    (h : ∀ (l : List (Str × Tok)) (k : Nat), l.map (·.1) = Txt.split x y → Q (.ref s.heap.objs.size) { s with heap := s.heap.push { cls := .type "list", data := .seq (strValues l).toArray }, toks := k }) :
    wpAny (model P w) A (call (.builtin "str.split") [.str x t, .str y u]) Q E s := by
  by_cases h1 : (decide (x.length < y.length) || decide (strKind x < strKind y)) = true
  · refine call_meets F.slot_str_split (typeIs_str s x t) F.entry_str_split (F.args_str_split_2 _ _) (meets_str_split_cannot_occur x y t u h1) ?_
    exact h [(x, t)] s.toks (by unfold Txt.split; rw [if_pos h1]; rfl)
  · have h1' := eq_false_of_ne_true h1
    by_cases h2 : (occurrences x y 0 x.length (x.length + 1)).isEmpty = true
    · refine call_meets F.slot_str_split (typeIs_str s x t) F.entry_str_split (F.args_str_split_2 _ _) (meets_str_split_not_found x y t u h1' hy h2) ?_
      exact h [(x, t)] s.toks (by unfold Txt.split; rw [if_neg h1, if_pos h2]; rfl)
    · have h2' := eq_false_of_ne_true h2
      refine call_meets F.slot_str_split (typeIs_str s x t) F.entry_str_split (F.args_str_split_2 _ _) (meets_str_split_sep x y t u h1' hy h2' hx hp) ?_
      have := h (numbered s.toks (partsBetween x (occurrences x y 0 x.length (x.length + 1)) y.length)) (s.toks + (partsBetween x (occurrences x y 0 x.length (x.length + 1)) y.length).length)
        ((numbered_texts _ _).trans (by unfold Txt.split; rw [if_neg h1, if_neg h2]))
      rw [← strsFrom_eq] at this
      exact this
/-- text.split(sign): a new list -/
noncomputable def rSplit : V → List V → Hp → VK → Prop := fun x xs H Q => ∃ (z : Str) (c : Nat), x = .str z ∧ xs = [.str ⟨#[c]⟩] ∧ z.cps.size + 2 ≤ sizeLine ∧
  ∀ (l : Addr) (ts : List Str), H l = none → ts.map (fun t => t.cps.toList) = SplM.splitC c z.cps.toList → Q (.ref l) (upd H l (.lst (ts.map V.str)))
theorem mt_split : MtR X "str.split" rSplit := by
  intro pins s σ H x xs v us Q I rx rs h
  obtain ⟨z, c, rfl, rfl, hz, q⟩ := h
  obtain ⟨t, rfl⟩ := rx
  obtain ⟨u, rfl, t', rfl⟩ := vals1 rs
  have hs : (Txt.split z ⟨#[c]⟩).length ≤ sizeLine := by
    have h1 := congrArg List.length (SplM.codes_split z c)
    have h2 := SplM.split_len c z.cps.toList
    rw [List.length_map] at h1
    simp only [Array.length_toList] at h2
    omega
  have hpl : (Builtin.Str.partsBetween z (Builtin.Str.occurrences z ⟨#[c]⟩ 0 z.length (z.length + 1)) (⟨#[c]⟩ : Str).length).length ≤ sizeLine := by
    have h1 := PySem.StrLaws.occ_length_le z ⟨#[c]⟩ 0 z.length (z.length + 1)
    rw [PySem.StrLaws.partsBetween_eq]
    have h3 : ∀ (cuts : List Nat) (a : Nat), (PySem.StrLaws.partsFrom z (⟨#[c]⟩ : Str).length a cuts).length = cuts.length + 1 := by
      intro cuts
      induction cuts with
      | nil => intro a; rfl
      | cons d cuts ih => intro a; show (_ :: _).length = _; rw [List.length_cons, ih]; rfl
    rw [h3]
    have h4 := PySem.StrLaws.occ_length_le_len z ⟨#[c]⟩ 0 z.length (z.length + 1)
    have e : z.length = z.cps.size := rfl
    omega
  refine split_new rfl (show z.cps.size ≤ sizeLine by omega) hpl fun l k e => ?_
  refine ⟨.ref s.heap.objs.size, _, I.lnew (t' := k) (ys := (l.map (·.1)).map V.str) (vals_of_strs l) (by rw [List.length_map, e]; exact hs), rfl, q _ _ (I.hok.fresh (Nat.le_refl _)) ?_⟩
  rw [e]
  exact SplM.codes_split z c

/-! fields of an f-string -/
noncomputable abbrev TJ := Str → St → Hp → (Str → Hp → Prop) → Prop
noncomputable def PJ (X : Cx) (vs : List Expr) (t : TJ) : Prop := ∀ (pins : List (Addr × Obj)) (s : Shared) (σ : St) (H : Hp) (acc : Str) (Q : VK), Inv X pins σ H s → t acc σ H (fun out H' => Q (.str out) H') →
  wpAny (model X.prog X.w) X.A (joinParts acc (evalEach vs X.env)) (EP X pins σ Q) X.xe s
noncomputable def jNil : TJ := fun acc _ H R => acc.length ≤ sizeLine ∧ R acc H
noncomputable def jCons (te : TE) (tr : TJ) : TJ := fun acc σ H R => te σ H fun x H1 => match x with
  | .str y => (acc ++ y).length ≤ sizeLine ∧ tr (acc ++ y) σ H1 R
  | _ => False
theorem pj_nil : PJ X [] jNil := fun pins s σ H acc Q I h => joinParts_nil ⟨.str acc, H, I.tok _, ⟨_, rfl⟩, h.2⟩ h.1
theorem pj_cons {e : Expr} {es : List Expr} {te : TE} {tr : TJ} (he : PE X e te) (hr : PJ X es tr) : PJ X (e :: es) (jCons te tr) := by
  intro pins s σ H acc Q I h
  show wpAny _ _ (joinParts acc (eval e X.env :: evalEach es X.env)) _ _ s
  refine joinParts_cons (thn (he pins s σ H _ I h) fun v s1 ⟨x, H1, I1, r1, q1⟩ => ?_)
  cases x with
  | str y =>
    obtain ⟨t, rfl⟩ := r1
    exact ⟨q1.1, hr pins s1 σ H1 (acc ++ y) Q I1 q1.2⟩
  | _ => exact (show False from q1).elim
noncomputable def tFstr (t : TJ) : TE := fun σ H Q => t Str.empty σ H fun out H' => Q (.str out) H'
theorem pe_fstr {v1 v2 : Expr} {rest : List Expr} {pos : Pos} {t : TJ} (h : PJ X (v1 :: v2 :: rest) t) : PE X (.JoinedStr (v1 :: v2 :: rest) pos) (tFstr t) := fun pins s σ H Q I q => JoinedStr_many (h pins s σ H Str.empty Q I q)
noncomputable def tFmt (te : TE) : TE := fun σ H Q => te σ H fun x H1 => match x with
  | .str y => y.length ≤ sizeLine ∧ Q (.str y) H1
  | .int i => i.natAbs.log2 < 1920 ∧ Q (.str (toString i)) H1
  | _ => False
theorem pe_fmt {e : Expr} {te : TE} {pos : Pos} (he : PE X e te) : PE X (.FormattedValue e (-1) none pos) (tFmt te) := by
  intro pins s σ H Q I h
  refine FormattedValue_plain (thn (he pins s σ H _ I h) fun v s1 ⟨x, H1, I1, r1, q1⟩ => ?_)
  cases x with
  | str y =>
    obtain ⟨t, rfl⟩ := r1
    exact formatField_str (fun t' tk => ⟨.str y, H1, I1.tok _, ⟨_, rfl⟩, q1.2⟩) q1.1
  | int i =>
    obtain ⟨t, rfl⟩ := r1
    exact formatField_int_small q1.1 ⟨.str _, H1, I1.tok _, ⟨_, rfl⟩, q1.2⟩
  | _ => exact (show False from q1).elim
variable {o e : Expr} {es : List Expr} {to : TE} {t : TA} {apos cpos : Pos}
theorem pe_m.join (ho : PE X o to) (ha : PA X (e :: es) t) (hbase : attributeBase o "join" X.env (eval o X.env) = eval o X.env := by rfl)
    (hfew : ((backTo cpos (starEach (e :: es) X.env)).all (fun x => !x.1) && (backToKw cpos (keywordEach [] X.env)).all (fun x => x.1.isSome) && decide ((e :: es).length + ([] : List Keyword).length + (if ([] : List Keyword).isEmpty then 0 else 1) < 30)) = true := by rfl)
    (hline : (apos.endLine == cpos.line) = true := by rfl) (hs : starEach (e :: es) X.env = (false, eval e X.env) :: starEach es X.env := by rfl) (hplain : (backTo cpos (starEach es X.env)).any (·.1) = false := by rfl) :
    PE X (.Call (.Attribute o "join" apos) (e :: es) [] cpos) (tBM X.K "str" (rJoin X.K) to t) := pe_bm F.plainAttrs_str F.slot_str_join F.type_str_join mt_join ho ha hbase hfew hline hs hplain
theorem pe_m.split (ho : PE X o to) (ha : PA X (e :: es) t) (hbase : attributeBase o "split" X.env (eval o X.env) = eval o X.env := by rfl)
    (hfew : ((backTo cpos (starEach (e :: es) X.env)).all (fun x => !x.1) && (backToKw cpos (keywordEach [] X.env)).all (fun x => x.1.isSome) && decide ((e :: es).length + ([] : List Keyword).length + (if ([] : List Keyword).isEmpty then 0 else 1) < 30)) = true := by rfl)
    (hline : (apos.endLine == cpos.line) = true := by rfl) (hs : starEach (e :: es) X.env = (false, eval e X.env) :: starEach es X.env := by rfl) (hplain : (backTo cpos (starEach es X.env)).any (·.1) = false := by rfl) :
    PE X (.Call (.Attribute o "split" apos) (e :: es) [] cpos) (tBM X.K "str" rSplit to t) := pe_bm F.plainAttrs_str F.slot_str_split F.type_str_split mt_split ho ha hbase hfew hline hs hplain
theorem pe_m.append (ho : PE X o to) (ha : PA X (e :: es) t) (hbase : attributeBase o "append" X.env (eval o X.env) = eval o X.env := by rfl)
    (hfew : ((backTo cpos (starEach (e :: es) X.env)).all (fun x => !x.1) && (backToKw cpos (keywordEach [] X.env)).all (fun x => x.1.isSome) && decide ((e :: es).length + ([] : List Keyword).length + (if ([] : List Keyword).isEmpty then 0 else 1) < 30)) = true := by rfl)
    (hline : (apos.endLine == cpos.line) = true := by rfl) (hs : starEach (e :: es) X.env = (false, eval e X.env) :: starEach es X.env := by rfl) (hplain : (backTo cpos (starEach es X.env)).any (·.1) = false := by rfl) :
    PE X (.Call (.Attribute o "append" apos) (e :: es) [] cpos) (tBM X.K "list" rAppend to t) := pe_bm F.plainAttrs_list F.slot_list_append F.type_list_append mt_append ho ha hbase hfew hline hs hplain
theorem pe_m.popAt (ho : PE X o to) (ha : PA X (e :: es) t) (hbase : attributeBase o "pop" X.env (eval o X.env) = eval o X.env := by rfl)
    (hfew : ((backTo cpos (starEach (e :: es) X.env)).all (fun x => !x.1) && (backToKw cpos (keywordEach [] X.env)).all (fun x => x.1.isSome) && decide ((e :: es).length + ([] : List Keyword).length + (if ([] : List Keyword).isEmpty then 0 else 1) < 30)) = true := by rfl)
    (hline : (apos.endLine == cpos.line) = true := by rfl) (hs : starEach (e :: es) X.env = (false, eval e X.env) :: starEach es X.env := by rfl) (hplain : (backTo cpos (starEach es X.env)).any (·.1) = false := by rfl) :
    PE X (.Call (.Attribute o "pop" apos) (e :: es) [] cpos) (tBM X.K "list" rPopAt to t) := pe_bm F.plainAttrs_list F.slot_list_pop F.type_list_pop mt_popAt ho ha hbase hfew hline hs hplain
theorem pe_m.clear (ho : PE X o to) (hbase : attributeBase o "clear" X.env (eval o X.env) = eval o X.env := by rfl) (hline : (apos.endLine == cpos.line) = true := by rfl) :
    PE X (.Call (.Attribute o "clear" apos) [] [] cpos) (tBM0 X.K "list" rClear to) := pe_bm0 F.plainAttrs_list F.slot_list_clear F.type_list_clear mt_clear ho hbase hline
theorem pe_m.pop (ho : PE X o to) (hbase : attributeBase o "pop" X.env (eval o X.env) = eval o X.env := by rfl) (hline : (apos.endLine == cpos.line) = true := by rfl) :
    PE X (.Call (.Attribute o "pop" apos) [] [] cpos) (tBM0 X.K "list" rPop to) := pe_bm0 F.plainAttrs_list F.slot_list_pop F.type_list_pop mt_pop ho hbase hline
end
/-! ### tuples stay -/
noncomputable def TK (H H' : Hp) : Prop := ∀ b xs, H b = some (.tup xs) → H' b = some (.tup xs)
theorem TK.refl (H : Hp) : TK H H := fun _ _ h => h
theorem TK.trans {H H1 H2 : Hp} (a : TK H H1) (b : TK H1 H2) : TK H H2 := fun c o h => b c o (a c o h)
theorem Same.tk {H H' : Hp} (e : Same H H') : TK H H' := fun b xs h => e b _ h
theorem TK.lst {H : Hp} {l : Addr} {xs ys : List V} (h : H l = some (.lst xs)) : TK H (upd H l (.lst ys)) := fun b zs e => by
  rw [upd_ne (ne_of e h (by intro z; cases z))]; exact e
theorem Same.put {H H' : Hp} {D : Addr} {o : HO} (e : Same H H') (h : H D = none) : Same H (upd H' D o) := fun b u q => by
  rw [upd_ne (ne_of_none q h)]; exact e b u q
theorem atI_cons {α : Type} {xs : List α} {i : Int} {v : α} (k : Nat) (hk : (k : Int) = i) (h : xs[k]? = some v) : atI xs i = some v := by rw [← hk]; exact atI_nat h
theorem cutV_take (xs : List V) (k : Nat) (h : k ≤ xs.length) : cutV xs none (some (k : Int)) = xs.take k := by
  unfold cutV
  rw [HT.sIx_nat, HT.sIx_none, List.drop_zero, Nat.sub_zero, Nat.min_eq_left h]
theorem cutV_drop (xs : List V) (k : Nat) : cutV xs (some (k : Int)) none = xs.drop k := by
  unfold cutV
  rw [HT.sIx_nat, HT.sIx_none]
  by_cases h : k ≤ xs.length
  · rw [Nat.min_eq_left h, List.take_of_length_le (by simp)]
  · rw [Nat.min_eq_right (by omega), Nat.sub_self, List.take_zero, List.drop_of_length_le (by omega)]
noncomputable def nameB (t : Str) : Bool := madeB t "abcdefghijklmnopqrstuvwxyz" 8
end L2

set_option Elab.async false
set_option linter.all false
set_option maxRecDepth 100000
set_option maxHeartbeats 4000000
namespace L2
open PySem PySem.Spec PyProof.Rows
/-! ### units -/
structure U where
  name : Str
  value : Int
  size : Int
  path : List Str
noncomputable def uV (p : Addr) (u : U) : List V := [.str u.name, .int u.value, .int u.size, .ref p]
noncomputable def IsU (H : Hp) (u : U) (x : V) : Prop := ∃ a p, x = .ref a ∧ H a = some (.tup (uV p u)) ∧ H p = some (.tup (u.path.map V.str))
theorem IsU.tk {H H' : Hp} {u : U} {x : V} (k : TK H H') (h : IsU H u x) : IsU H' u x := let ⟨a, p, h1, h2, h3⟩ := h; ⟨a, p, h1, k a _ h2, k p _ h3⟩
noncomputable abbrev AllU (H : Hp) : List U → List V → Prop := Paired (IsU H)
theorem AllU.tk {H H' : Hp} (k : TK H H') : ∀ {us : List U} {xs : List V}, AllU H us xs → AllU H' us xs
  | _, _, .nil => .nil
  | _, _, .cons r t => .cons (r.tk k) (AllU.tk k t)
theorem AllU.len {H : Hp} {us : List U} {xs : List V} (h : AllU H us xs) : us.length = xs.length := Paired.length h
theorem AllU.get {H : Hp} : ∀ {us : List U} {xs : List V} {i : Nat} {x : V}, AllU H us xs → xs[i]? = some x → ∃ u, us[i]? = some u ∧ IsU H u x
  | _, _, _, _, .nil, h => by cases h
  | _, _, 0, _, .cons r _, h => ⟨_, rfl, by cases h; exact r⟩
  | _, _, i + 1, _, .cons _ t, h => AllU.get (i := i) t h
theorem AllU.take {H : Hp} : ∀ {us : List U} {xs : List V} (k : Nat), AllU H us xs → AllU H (us.take k) (xs.take k)
  | _, _, 0, _ => by rw [List.take_zero, List.take_zero]; exact .nil
  | _, _, _ + 1, .nil => .nil
  | _, _, k + 1, .cons r t => .cons r (AllU.take k t)
theorem AllU.snoc {H : Hp} {u : U} {x : V} (r : IsU H u x) : ∀ {us : List U} {xs : List V}, AllU H us xs → AllU H (us ++ [u]) (xs ++ [x])
  | _, _, .nil => .cons r .nil
  | _, _, .cons q t => .cons q (AllU.snoc r t)
structure GoodU (u : U) : Prop where
  nm : nameB u.name = true
  v0 : -1000000000 ≤ u.value
  v1 : u.value ≤ 1000000000
  s0 : 1 ≤ u.size
  s1 : u.size ≤ 1000000
  pl : u.path.length ≤ 3
  pn : ∀ n ∈ u.path, nameB n = true
structure GoodL (us : List U) : Prop where
  l1 : 1 ≤ us.length
  l2 : us.length ≤ 24
  each : ∀ u ∈ us, GoodU u
  nd : (us.map U.name).Nodup
  pth : ∀ u ∈ us, ∀ v ∈ us, u.path.length = v.path.length
/-! deep data of units -/
noncomputable def uD (u : U) : PyData := .tuple [.str u.name, .int u.value, .int u.size, .tuple (u.path.map PyData.str)]
theorem dvs_str {K : PySem.W.Frag} {H : Hp} : ∀ (l : List Str), DVs K H (l.map PyData.str) (l.map V.str)
  | [] => by simp [DVs]
  | c :: l => by
    rw [List.map_cons, List.map_cons, DVs]
    exact ⟨_, _, rfl, by simp [DV], dvs_str l⟩
theorem IsU.dv {K : PySem.W.Frag} {H : Hp} {u : U} {x : V} (h : IsU H u x) : DV K H (uD u) x := by
  obtain ⟨a, p, rfl, h2, h3⟩ := h
  rw [uD, DV]
  refine ⟨a, _, rfl, SqT.of h2, ?_⟩
  rw [uV, DVs]
  refine ⟨_, _, rfl, by simp [DV], ?_⟩
  rw [DVs]
  refine ⟨_, _, rfl, by simp [DV], ?_⟩
  rw [DVs]
  refine ⟨_, _, rfl, by simp [DV], ?_⟩
  rw [DVs]
  refine ⟨_, _, rfl, ?_, by simp [DVs]⟩
  rw [DV]
  exact ⟨p, _, rfl, SqT.of h3, dvs_str _⟩
theorem AllU.dvs {K : PySem.W.Frag} {H : Hp} : ∀ {us : List U} {xs : List V}, AllU H us xs → DVs K H (us.map uD) xs
  | _, _, .nil => by simp [DVs]
  | _, _, .cons r t => by
    rw [List.map_cons, DVs]
    exact ⟨_, _, rfl, r.dv, AllU.dvs t⟩
/-! the rules with the written part told apart (within a comprehension) -/
section
variable {X : Cx} {K : PySem.W.Frag}
theorem ix_seqK (h : X.K = K) : IxR X (rIx K) := h ▸ ix_seq
theorem pg_tupK (h : X.K = K) {es : List Expr} {k : Nat} {t : TGs} {n : Nat} {pos : Pos} (hc : X.calm = true) (hp : PGs X es t) (hn : (assignEach es X.env).length = n := by rfl) (hst : (assignEach es X.env).findIdx? (·.1) = none := by rfl) :
    PG X (.Tuple es k pos) (gTup K n t) := h ▸ pg_tup hc hp hn hst
end
end L2

set_option Elab.async false
set_option linter.all false
set_option maxRecDepth 100000
set_option maxHeartbeats 4000000
namespace L2
open PySem PySem.Spec PyProof.Rows

/-! ### an own exception's class, asked of an instance -/
structure XCls (K : PySem.W.Frag) (D : Addr) : Prop where
  ga : PySem.W.findIn K (.ref D) "__getattribute__" = some (some (.builtin "BaseException.__getattribute__"))
  gn : PySem.W.findIn K (.ref D) "__getattr__" = some none
  cl : PySem.W.findIn K (.ref D) "__class__" = some (some (.builtin "object.__class__"))
  mb : PySem.W.mroIn K D (.type "BaseException") = some true
  mo : PySem.W.mroIn K D (.type "object") = some true
  isc : (PySem.W.clsIn K D).isSome = true

section
variable {prog : Program} {w : World} {A : Around} {E : Value → Shared → Prop} {h : Heap} {g : Array GenState} {d : Drawn} {t : Nat} {os : OsState} {a D : Addr} {o : Obj} {K : PySem.W.Frag}
theorem xc_check {M : Model} {nameV : Value} {Q : Unit → Shared → Prop} (c : XCls K D) (X : K.In h) (hx : h.get? a = some o) (hc : o.cls = .ref D) (hq : Q () ⟨h, g, d, t, os⟩) :
    wpAny M A (checkBuiltinCall "BaseException.__getattribute__" ⟨[.ref a, nameV], []⟩) Q E ⟨h, g, d, t, os⟩ := by
  have hk : builtinKind "BaseException.__getattribute__" = some .slot := by decide +kernel
  have hsplit : splitId "BaseException.__getattribute__" = some ("BaseException", "__getattribute__") := by decide +kernel
  have ha := F.args_bexc_ga (.ref a) nameV
  simp only [checkBuiltinCall, hk, hsplit]
  refine wpAny_bind ?_
  unfold isInstance
  repeat (first | (with_reducible refine wpAny_loadPart_at hx ?_; rw [hc]) | with_reducible refine (PySem.W.looks_mroIn X c.mb).at ?_ | wp_step)
  exact hq
theorem xc_get {R : Result → Shared → Prop} (c : XCls K D) (X : K.In h) (hx : h.get? a = some o) (hc : o.cls = .ref D) (hq : R (.ok (.ret (.ref D))) ⟨h, g, d, t, os⟩) :
    codeAny (model prog w) A (.call (.builtin "getset_descriptor.__get__") ⟨[.builtin "object.__class__", .ref a, .ref D], []⟩) R ⟨h, g, d, t, os⟩ := by
  have hT5 : (⟨h, g, d, t, os⟩ : Shared).TypeIs (.builtin "object.__class__") "getset_descriptor" := F.typeOf_object_class
  have hO : PySem.W.Looks (model prog w) h (isSubtype (.ref D) (.type (".".intercalate ("object.__class__".cutAt '.').dropLast))) true := by
    rw [F.owner_object_class]; exact PySem.W.looks_mroIn X c.mo
  refine codeAny_call_builtin F.slot_gs_get.plain F.entry_gs_get (F.slot_gs_get.check _ _ _ _ _ _ _ _ hT5 (F.args_gs_get _ _ _) ?_)
  repeat (any_goals (first | assumption | (with_reducible refine wpAny_loadPart_at hx ?_; rw [hc]) | with_reducible refine hO.at ?_ | wp_step))
  refine ⟨Code.quiet_builtin _ (by decide +kernel), codeAny_builtin F.entry_object_class ?_⟩
  repeat (any_goals (first | assumption | (with_reducible refine wpAny_loadPart_at hx ?_; rw [hc]) | wp_step))
theorem xc_entry {tk : Tok} {Q : Fin → Shared → Prop} (c : XCls K D) (X : K.In h) (hx : h.get? a = some o) (hc : o.cls = .ref D) (hq : Q (.done (.ret (.ref D))) ⟨h, g, d, t, os⟩) :
    wpAny (model prog w) A (Builtin.«object.__getattribute__» ⟨[.ref a, .str "__class__" tk], []⟩) Q E ⟨h, g, d, t, os⟩ := by
  have hT5 : (⟨h, g, d, t, os⟩ : Shared).TypeIs (.builtin "object.__class__") "getset_descriptor" := F.typeOf_object_class
  have f5 := F.typeOf_object_class
  have f6 := F.slot_gs_get.lookup
  have f7 := F.slot_gs_set.lookup
  repeat (any_goals (first | assumption | (with_reducible refine wpAny_loadPart_at hx ?_; rw [hc]) | with_reducible refine (PySem.W.looks_findIn X c.cl).at ?_ | wp_step))
  refine xc_get c X hx hc ?_
  repeat (any_goals (first | assumption | wp_step))
theorem xc_by {tk : Tok} {fill expr : Bool} {Q : Value → Shared → Prop} (c : XCls K D) (X : K.In h) (hx : h.get? a = some o) (hc : o.cls = .ref D) (hq : Q (.ref D) ⟨h, g, d, t, os⟩) :
    wpAny (model prog w) A (getAttrBy (.ref a) (.str "__class__" tk) fill expr) Q E ⟨h, g, d, t, os⟩ := by
  have f3 := PySem.F.attrBase_ValueError.ga.bind (.ref a)
  have hx0 : (expr && onTheHeap (Value.builtin "BaseException.__getattribute__")) = false := by cases expr <;> rfl
  have hx2 : (Value.builtin "BaseException.__getattribute__" == Value.builtin "object.__getattribute__") = false := by decide +kernel
  have hx1 : (onTheHeap (Value.ref D) && Value.builtin "BaseException.__getattribute__" == Value.builtin "object.__getattribute__") = false := by rw [hx2]; rfl
  repeat (any_goals (first | assumption | (with_reducible refine wpAny_loadPart_at hx ?_; rw [hc]) | with_reducible refine (PySem.W.looks_findIn X c.ga).at ?_ | with_reducible refine (PySem.W.looks_findIn X c.gn).at ?_ | wp_step))
  refine codeAny_call_builtin PySem.F.attrBase_ValueError.ga.plain F.entry_bexc_ga (xc_check c X hx hc (xc_entry c X hx hc ?_))
  repeat (any_goals (first | assumption | wp_step))
theorem xc_attr {Q : Option Value → Shared → Prop} (c : XCls K D) (X : K.In h) (hx : h.get? a = some o) (hc : o.cls = .ref D) (hq : Q (some (.ref D)) ⟨h, g, d, t + 1, os⟩) :
    wpAny (model prog w) A (getAttr? (.ref a) "__class__") Q E ⟨h, g, d, t, os⟩ := by
  unfold getAttr? getAttrBy?
  repeat (any_goals (first | assumption | with_reducible apply xc_by c X hx hc | wp_step))
end
noncomputable def XAt (a D : Addr) (h : Heap) : Prop := ∃ o, h.get? a = some o ∧ o.cls = .ref D
theorem kitx_exc {K : PySem.W.Frag} {a D : Addr} (c : XCls K D) : PySem.W.KitX K (.ref a) (.ref D) (XAt a D) where
  ty := fun M h _ p => by
    obtain ⟨o, h1, h2⟩ := p
    exact h2 ▸ (PySem.W.Looks.ld h1).andThen .now
  it := fun _ _ X _ => by
    obtain ⟨cdD, hcD⟩ := Option.isSome_iff_exists.mp c.isc
    unfold PySem.W.clsIn at hcD
    split at hcD
    · rename_i c' d' cd' sl' ho
      intro A' Q' E' s' k q
      unfold isType loadHead
      exact wpAny_bind (wpAny_loadPart (k _ _ (X _ _ ho)) (wpAny_pure q))
    · cases hcD
  ne := fun h tp dd its n sl X htp => by
    obtain ⟨cdD, hcD⟩ := Option.isSome_iff_exists.mp c.isc
    refine Bool.eq_false_iff.mpr fun q => ?_
    have e : D = tp := Value.ref.inj (beq_iff_eq.mp q)
    subst e
    unfold PySem.W.clsIn at hcD
    split at hcD
    · rename_i c' d' cd' sl' ho
      have z := (X _ _ ho).symm.trans htp
      cases z
    · cases hcD
  ca := fun {_ _ _ _ _ s} X p k => by
    obtain ⟨h, g, d, t, os⟩ := s
    obtain ⟨o, h1, h2⟩ := p
    exact xc_attr c X h1 h2 k
end L2

set_option Elab.async false
set_option linter.all false
set_option maxRecDepth 100000
set_option maxHeartbeats 4000000
namespace L2
open PySem PySem.Spec PyProof.Rows

/-! ### an own exception leaves -/
theorem ObjOk.isObj {P : Program} {w : World} {H : Hp} {h : Heap} {a : Addr} {o : HO} (x : ObjOk P w H h a o) : ∃ u, h.get? a = some u := by
  cases o with
  | lst xs => obtain ⟨_, _, _, _, e⟩ := x; exact ⟨_, e⟩
  | tup xs => obtain ⟨_, _, _, _, e, _⟩ := x; exact ⟨_, e⟩
  | dK kvs => obtain ⟨_, _, _, _, o, _, _, e, _⟩ := x; exact ⟨_, e⟩
  | dT kvs => obtain ⟨_, _, _, _, o, _, _, e, _⟩ := x; exact ⟨_, e⟩
  | set S n => obtain ⟨o, _, _, _, e, _⟩ := x; exact ⟨_, e⟩
  | ins C dx fs => obtain ⟨_, _, _, e, _⟩ := x; exact ⟨_, e⟩
  | own y => exact x
  | xd fs => obtain ⟨_, ⟨_, _, _, e, _⟩, _⟩ := x; exact ⟨_, e⟩
  | rng lo hi => obtain ⟨_, _, _, e⟩ := x; exact ⟨_, e⟩
  | frz ob u => exact ⟨_, x.1⟩
  | tbl ps => exact ⟨_, x⟩
  | met f y => exact ⟨_, x⟩
  | ext φ => exact x.2.1

/-- the exception at x, of the class at D, flies: B holds all of before (but the callers' frames) and all that is tracked -/
structure XF (P : Program) (w : World) (outer : List Env) (H : Hp) (s : Shared) (x D : Addr) (a0 : Value) (B : Heap) (H' : Hp) (s' : Shared) : Prop where
  os : s'.os = s.os
  bare : AllBare s'.gens
  un : Un (frs outer) [] H H' s.heap s'.heap
  hok : HOk P w H' s'.heap
  fly : Heap.FlyingW B outer x (.ref D) a0 s'.heap
  cov : ∀ b o, s'.heap.get? b = some o → ((∃ o', s.heap.get? b = some o') ∨ (∃ u, H' b = some u)) → b ∉ frs outer → B.get? b = some o
section
variable {P : Program} {w : World} {outer : List Env} {H H' : Hp} {s s' : Shared} {x D : Addr} {a0 : Value} {B : Heap}
theorem fly_out {h : Heap} (f : Heap.FlyingW B outer x (.ref D) a0 h) : x ∉ frs outer := fun hm => by
  obtain ⟨_, _, f3, oe, vs, T, oT, ts, he, _, hd, _⟩ := f
  obtain ⟨_, o, ho, hn⟩ := f3.mem hm
  rw [he] at ho
  cases ho
  exact hn vs hd
theorem XF.new (F : XF P w outer H s x D a0 B H' s') : ∀ o, s.heap.get? x ≠ some o := fun o e => by
  obtain ⟨o', e'⟩ := F.un.there x o e (by simp)
  have := F.cov x o' e' (.inl ⟨o, e⟩) (fly_out F.fly)
  rw [F.fly.2.1] at this
  cases this
theorem XF.free (F : XF P w outer H s x D a0 B H' s') : H' x = none := by
  cases q : H' x with
  | none => rfl
  | some u =>
    obtain ⟨o, e⟩ := (F.hok x u q).isObj
    have := F.cov x o e (.inr ⟨u, q⟩) (fly_out F.fly)
    rw [F.fly.2.1] at this
    cases this
end
section
variable {X : Cx} {pins : List (Addr × Obj)} {σ : St} {H H' : Hp} {s s' : Shared} {x D : Addr} {a0 : Value} {B h2 : Heap}
end
section
variable {P : Program} {w : World} {K : PySem.W.Frag} {mg : Str → Option Value} {base : Heap} {N : List Str} {qual : Str} {scope : Scope} {f : Addr} {cdv : Value} {A : Around} {outer : List Env} {s0 : Shared} {H0 : Hp} {E : XK}
end
section
variable {P : Program} {w : World} {K : PySem.W.Frag} {mg : Str → Option Value} {base : Heap}
end
end L2

set_option Elab.async false
set_option linter.all false
set_option maxRecDepth 100000
set_option maxHeartbeats 4000000
namespace L2
open PySem PySem.Spec PyProof.Rows

/-! ### an own exception is caught -/
/-- what a class must have to be named behind except -/
structure XHd (K : PySem.W.Frag) (C : Addr) : Prop where
  isc : (PySem.W.clsIn K C).isSome = true
  ty : PySem.W.typeIn K (.ref C) = some (.type "type")
  mb : PySem.W.mroIn K C (.type "BaseException") = some true
/-- within the except suite that holds the exception at x -/
noncomputable def Cx.inX (X : Cx) (x : Addr) : Cx := { X with A := X.A.mark (some (.ref x)), calm := false, xe := fun _ _ => False }
section
variable {X : Cx} {pins : List (Addr × Obj)} {σ : St} {H H' H1 : Hp} {s s' s1 : Shared} {x D C : Addr} {a0 : Value} {B h2 : Heap}
theorem Inv.inX (I : Inv X pins σ H s) (x : Addr) : Inv (X.inX x) pins σ H s :=
  ⟨⟨I.ok.mod, I.ok.kind, I.ok.glob, I.ok.blt, I.ok.above, I.ok.inj, I.ok.has, I.ok.cab, fun z => absurd (show false = true from z) Bool.false_ne_true, I.ok.frames, I.ok.stk, I.ok.exf, I.ok.bs, I.ok.bsz, I.ok.noex, I.ok.exfs, I.ok.funs, I.ok.frf⟩,
    I.os, I.bare, I.base, I.loc, I.cell, I.free, I.freeC, I.pin, I.hok, I.len⟩
end
end L2

set_option Elab.async false
set_option linter.all false
set_option maxRecDepth 100000
set_option maxHeartbeats 4000000
namespace L2
open PySem PySem.Spec PyProof.Rows

section
variable {X : Cx} {pins : List (Addr × Obj)} {σ : St} {H H' H1 : Hp} {s s' s1 : Shared} {x D C : Addr} {a0 : Value} {B h2 : Heap} {cn en : Str} {ie : Nat} {b₀ : Stmt} {suite : List Stmt} {cp hp : Pos} {ts : TS} {DE : Ends}
end
section
variable {X : Cx} {k ie : Nat} {f C : Addr} {fd : FuncData} {ps : List Str} {sp : Sp} {dvs : List V} {ds : List Value} {fx cn en : Str} {p pos p2 cp hp tp : Pos} {e : Expr} {es : List Expr} {t : TA} {b₀ : Stmt} {suite : List Stmt} {ts : TS}
end

/-! ### isinstance of such a one -/
noncomputable def TyX (K : PySem.W.Frag) (H : Hp) (x : V) (t : Value) : Prop := TyOf K H x t ∨ ∃ a D φ, x = .ref a ∧ t = .ref D ∧ XCls K D ∧ H a = some (.ext φ) ∧ ∀ h, φ h → XAt a D h
section
variable {X : Cx}
open PySem.W in
theorem kit_ofX {pins : List (Addr × Obj)} {σ : St} {H : Hp} {s : Shared} {x : V} {u t : Value} (I : Inv X pins σ H s) (rx : RelV x u) (ty : TyX X.K H x t) :
    ∃ Hh : Heap → Prop, KitX X.K u t Hh ∧ Hh s.heap ∧ u ≠ .builtin "__main__.__loader__#opaque" := by
  rcases ty with ty | ⟨a, D, φ, rfl, rfl, c, e, hφ⟩
  · exact kit_of I rx ty
  · cases (show u = Value.ref a from rx)
    exact ⟨_, kitx_exc c, hφ _ (I.hok a _ e).1, fun z => nomatch z⟩
end
end L2

set_option Elab.async false
set_option linter.all false
set_option maxRecDepth 100000
set_option maxHeartbeats 4000000
namespace L2
open PySem PySem.Spec PyProof.Rows
section
variable {prog : Program} {w : World} {A : Around} {E : Value → Shared → Prop} {h : Heap} {g : Array GenState} {d : Drawn} {t : Nat} {os : OsState} {a D dx : Addr} {o : Obj} {vs : Array Value} {cd : ClassData} {K : PySem.W.Frag} {name : Str} {mA : Str → Option Value} {v : Value}
/-! setting -/
noncomputable abbrev bmV : List Value := [.type "ValueError", .type "Exception", .type "BaseException", .type "object"]
noncomputable def isRf : Value → Bool
  | .ref _ => true
  | _ => false
noncomputable def vTail (l : List Value) : Bool := l.dropWhile isRf == bmV
/-- what a class must have that its instances take the attribute name -/
structure XSet (K : PySem.W.Frag) (D : Addr) (name : Str) (cd : ClassData) : Prop where
  k : PySem.W.clsIn K D = some cd
  dct : cd.hasDict = true
  mro : vTail cd.mro = true
  mo : PySem.W.mroIn K D (.type "object") = some true
  sa : PySem.W.findIn K (.ref D) "__setattr__" = some (some (.builtin "object.__setattr__"))
  na : PySem.W.findIn K (.ref D) name = some none
end

/-! making one whose class has its own __init__ -/
section
variable {prog : Program} {w : World} {A : Around} {E : Value → Shared → Prop} {h : Heap} {g : Array GenState} {d : Drawn} {t : Nat} {os : OsState}
variable {nm q : Str} {C N fI : Addr} {bs bm bmB : List Value} {hdct : Bool} {sn : List Str} {sub : List Value} {ab : Bool} {col : Option Bool} {dd : Option Addr} {k0 k1 k2 k3 k5 : Option Value} {B newId initId : String} {mN : Str → Option Value} {rest : List Value} {oI : Obj}
end
end L2

set_option Elab.async false
set_option linter.all false
set_option maxRecDepth 100000
set_option maxHeartbeats 4000000
namespace L2
open PySem PySem.Spec PyProof.Rows

/-! ### exceptions as values: made, their attributes -/
noncomputable def XD0 (a D : Addr) : Heap → Prop := fun h => ∃ o vs, h.get? a = some o ∧ o.cls = .ref D ∧ o.data = .fields vs ∧ o.dict = none ∧ vs[1]? = some .none
noncomputable def XD1 (a D dx : Addr) : Heap → Prop := fun h => ∃ o vs, h.get? a = some o ∧ o.cls = .ref D ∧ o.data = .fields vs ∧ o.dict = some dx ∧ vs[1]? = some .none
noncomputable def XDct (dx : Addr) (fs : List (Str × V)) : Heap → Prop := fun h => ∃ mA, h.Ns1 dx mA ∧ ∀ f, RelO (fs.lookup f) (mA f)
theorem XD0.at {a D : Addr} {h : Heap} (x : XD0 a D h) : XAt a D h := let ⟨o, _, e, c, _⟩ := x; ⟨o, e, c⟩
theorem XD1.at {a D dx : Addr} {h : Heap} (x : XD1 a D dx h) : XAt a D h := let ⟨o, _, e, c, _⟩ := x; ⟨o, e, c⟩
section
variable {P : Program} {w : World} {H : Hp} {h : Heap} {a D dx : Addr} {fs : List (Str × V)}
theorem XD0.ok (x : XD0 a D h) : ObjOk P w H h a (.ext (XD0 a D)) := ⟨x, let ⟨o, _, e, _⟩ := x; ⟨o, e⟩, fun _ _ ⟨o, vs, e, r⟩ k => ⟨o, vs, k o e, r⟩⟩
theorem XD1.ok (x : XD1 a D dx h) : ObjOk P w H h a (.ext (XD1 a D dx)) := ⟨x, let ⟨o, _, e, _⟩ := x; ⟨o, e⟩, fun _ _ ⟨o, vs, e, r⟩ k => ⟨o, vs, k o e, r⟩⟩
theorem XDct.ok (x : XDct dx fs h) : ObjOk P w H h dx (.ext (XDct dx fs)) := ⟨x, let ⟨_, ⟨o, _, _, e, _⟩, _⟩ := x; ⟨o, e⟩, fun _ _ ⟨mA, n, r⟩ k => ⟨mA, n.at k, r⟩⟩
end
section
variable {X : Cx} {pins : List (Addr × Obj)} {σ : St} {H : Hp} {s : Shared} {h' : Heap} {x dx D : Addr} {φ : Heap → Prop} {ox od : HO}
/-- a new object, tracked -/
theorem Inv.tracked {t' : Nat} (I : Inv X pins σ H s) (k : ∀ b u, s.heap.get? b = some u → h'.get? b = some u) (hn : s.heap.get? x = none) (new : ObjOk X.prog X.w (upd H x ox) h' x ox) : Inv X pins σ (upd H x ox) { s with heap := h', toks := t' } := by
  have hx : H x = none := by
    cases q : H x with
    | none => rfl
    | some u =>
      obtain ⟨o, e⟩ := (I.hok x u q).isObj
      rw [hn] at e
      cases e
  have ne : ∀ b o, s.heap.get? b = some o → b ≠ x := fun b o e z => by rw [z, hn] at e; cases e
  have nh : ∀ b u, H b = some u → b ≠ x := fun b u e z => by rw [z, hx] at e; cases e
  refine I.un ⟨fun b o e _ _ _ => k b o e, fun b o e _ _ _ => ⟨o.slots, k b o e⟩, fun b o e n _ => ?_, fun b o e _ => ⟨o, k b o e⟩, fun b xs e => ?_, fun b o u e => ?_, fun b ps e => ⟨#[], ?_⟩⟩ fun b u e => ?_
  · rw [upd_ne (ne b o e)]; exact n
  · rw [upd_ne (nh b _ e)]; exact e
  · rw [upd_ne (nh b _ e)]; exact e
  · rw [upd_ne (nh b _ e), e]; simp
  · by_cases hb : b = x
    · subst hb
      rw [upd_same] at e
      cases e
      exact new
    · rw [upd_ne hb] at e
      exact (I.hok b u e).stay (fun c v _ q => k c v q) (fun c q => by rw [upd_ne (nh c _ q)]; exact q) fun c xs q => by rw [upd_ne (nh c _ q)]; exact q
end
section
variable {X : Cx} {o e value : Expr} {f : Str} {pos pos' tpos : Pos} {ta tv : TE}
end
end L2

set_option Elab.async false
set_option linter.all false
set_option maxRecDepth 100000
set_option maxHeartbeats 4000000
namespace L2
open PySem PySem.Spec PyProof.Rows

/-! ### own exception classes, read off the text -/
noncomputable def xIn (K : PySem.W.Frag) (C : Addr) (fI : Option Value) : Bool := match K.lookup C with
  | some ⟨.type "type", _, .cls cd, sl⟩ => (match cd.mro, sl.toList with
    | .ref C' :: bm, [_, _, _, _, some (.builtin n), _] => C' == C && n == "ValueError.__new__" && !cd.hasDel && PySem.W.tailIn K bmV bm && PySem.W.nsOkIn K cd.ns && PySem.W.nsIn K cd.ns "__init__" == some fI
    | _, _ => false)
  | _ => false
structure XObj (h : Heap) (C : Addr) (fI : Option Value) : Prop where
  obj : ∃ bm N nm q bs hdct sn sub ab col dd k0 k1 k2 k3 k5 mN, h.get? C = some (excClassObj nm q C N bs bm hdct sn sub ab col dd k0 k1 k2 k3 k5 "ValueError.__new__") ∧ h.Ns N mN ∧ mN "__init__" = fI ∧ OwnTail h bmV bm
noncomputable def xcIn (K : PySem.W.Frag) (D : Addr) : Bool := PySem.W.findIn K (.ref D) "__getattribute__" == some (some (.builtin "BaseException.__getattribute__")) && PySem.W.findIn K (.ref D) "__getattr__" == some none &&
  PySem.W.findIn K (.ref D) "__class__" == some (some (.builtin "object.__class__")) && PySem.W.mroIn K D (.type "BaseException") == some true && PySem.W.mroIn K D (.type "object") == some true && (PySem.W.clsIn K D).isSome && PySem.W.typeIn K (.ref D) == some (.type "type")
theorem xc_of {K : PySem.W.Frag} {D : Addr} (h : xcIn K D = true) : XCls K D := by
  unfold xcIn at h
  simp only [Bool.and_eq_true, beq_iff_eq] at h
  obtain ⟨⟨⟨⟨⟨⟨h1, h2⟩, h3⟩, h4⟩, h5⟩, h6⟩, h7⟩ := h
  exact ⟨h1, h2, h3, h4, h5, h6⟩
theorem xh_of {K : PySem.W.Frag} {D : Addr} (h : xcIn K D = true) : XHd K D := by
  unfold xcIn at h
  simp only [Bool.and_eq_true, beq_iff_eq] at h
  obtain ⟨⟨⟨⟨⟨⟨h1, h2⟩, h3⟩, h4⟩, h5⟩, h6⟩, h7⟩ := h
  exact ⟨h6, h7, h4⟩
noncomputable def xsIn (K : PySem.W.Frag) (D : Addr) (name : Str) : Bool := ((PySem.W.clsIn K D).any fun cd => cd.hasDict && vTail cd.mro) && PySem.W.mroIn K D (.type "object") == some true &&
  PySem.W.findIn K (.ref D) "__setattr__" == some (some (.builtin "object.__setattr__")) && PySem.W.findIn K (.ref D) name == some none
theorem xs_of {K : PySem.W.Frag} {D : Addr} {name : Str} (h : xsIn K D name = true) : ∃ cd, XSet K D name cd := by
  unfold xsIn at h
  simp only [Bool.and_eq_true, beq_iff_eq] at h
  obtain ⟨⟨⟨h1, h2⟩, h3⟩, h4⟩ := h
  obtain ⟨cd, e, e2⟩ := PySem.W.any_some h1
  rw [Bool.and_eq_true] at e2
  exact ⟨cd, e, e2.1, e2.2, h2, h3, h4⟩
section
variable {P : Program} {w : World} {K : PySem.W.Frag} {mg : Str → Option Value} {base : Heap} {N : List Str} {qual : Str} {scope : Scope} {f : Addr} {cdv : Value} {A : Around} {outer : List Env} {s0 : Shared} {H0 : Hp} {E : XK}
end

/-! ### C() and C(e, ..) -/
section
variable {X : Cx} {k : Nat} {f C : Addr} {fd : FuncData} {ps : List Str} {sp : Sp} {x : Str} {p pos : Pos} {e : Expr} {es : List Expr} {t : TA}
end
end L2

set_option Elab.async false
set_option linter.all false
set_option maxRecDepth 100000
set_option maxHeartbeats 4000000
namespace L2
open PySem PySem.Spec PyProof.Rows

/-! ### d.setdefault(k, v), in the order of coming -/
section
variable {prog : Program} {w : World} {KT : Type} [DecidableEq KT] {knd : KeyKind prog w KT} {A : Around} {E : Value → Shared → Prop} {s : Shared} {d : Addr} {kvs : List (KT × Value)} {k : KT} {key dflt : Value}
theorem sd_new {Q : Value → Shared → Prop} (hkey : knd.is k key = true) (hm : s.heap.DictOf knd d kvs) (hz : kvs.length ≤ sizeLine) (hno : valueAt kvs k = none)
    (h : ∀ h', h'.DictOf knd d (kvs ++ [(k, dflt)]) → Heap.SameBut d s.heap h' → Q dflt { s with heap := h', toks := s.toks + 1 }) : wpAny (model prog w) A (dictSetDefault d key dflt) Q E s := by
  obtain ⟨ob, en, ep, gob, xob, dob, kob, pob, nob⟩ := hm
  have ez : en.size ≤ sizeLine := by
    have l1 := pob.length
    have l2 : en.toList.length = en.size := by simp
    omega
  have hall : ∀ q ∈ kvs, q.1 ≠ k := fun q hq hqk => by
    unfold valueAt at hno
    rw [Option.map_eq_none_iff, List.find?_eq_none] at hno
    exact hno q hq (by simpa using hqk)
  have fnd : (en.findIdx? fun e => knd.is k e.key) = none := by
    have e1 : (en.findIdx? fun e => knd.is k e.key) = kvs.findIdx? fun q => decide (q.1 = k) := by
      rw [← pob.findIdx k]
      obtain ⟨l⟩ := en
      simp
    rw [e1, List.findIdx?_eq_none_iff]
    intro q hq
    simpa using hall q hq
  unfold dictSetDefault
  refine wpAny_holding (wpAny_bind (knd.pyHash hkey (wpAny_bind (wpAny_dictFind_of (s := { s with toks := s.toks + 1 }) hkey gob dob kob ?_))))
  rw [fnd]
  refine wpAny_bind (wpAny_rule (wpAny_bind (wpAny_updateDictKeys (hz := ez) (s := { s with toks := s.toks + 1 }) gob dob (wpAny_pure (h _ ⟨_, _, ep + 1, Heap.get?_update_self _ gob (Obj.isFreed_of_dict (Obj.data_mapDictKeys dob _)),
    xob.mapDictKeys _, Obj.data_mapDictKeys dob _, kob.push hkey _, ?_, ?_⟩ (Heap.SameBut.update ..))))))
  · have ap := pob.append hkey (knd.hash k) dflt
    obtain ⟨l⟩ := en
    simpa using ap
  · rw [List.map_append, List.nodup_append]
    refine ⟨nob, by simp, fun a ha b hb => ?_⟩
    obtain ⟨q, hq, rfl⟩ := List.mem_map.mp ha
    have hb' : b = k := by simpa using hb
    rw [hb']
    exact hall q hq
theorem sd_meets (hkey : knd.is k key = true) (hd : (d == sysModules) = false) (dflt : Value) : MeetsIn prog w (Builtin.«dict.setdefault» ⟨[.ref d, key, dflt], []⟩) (fun _ R s => ∃ kvs, s.heap.DictOf knd d kvs ∧ kvs.length ≤ sizeLine ∧
    (∀ v, valueAt kvs k = some v → R (.ok (.ret v)) { s with toks := s.toks + 1 }) ∧ (valueAt kvs k = none → ∀ h', h'.DictOf knd d (kvs ++ [(k, dflt)]) → Heap.SameBut d s.heap h' → R (.ok (.ret dflt)) { s with heap := h', toks := s.toks + 1 })) :=
  .of_wp fun A R s ⟨kvs, hm, hz, h1, h2⟩ => by
    have le : s.heap.DictLe d sizeLine := by
      obtain ⟨ob, en, ep, gob, xob, dob, kob, pob, nob⟩ := id hm
      intro o2 e2 p2 g2 d2
      rw [gob] at g2
      cases g2
      rw [dob] at d2
      cases d2
      have l1 := pob.length
      have l2 : en.toList.length = en.size := by simp
      omega
    unfold Builtin.«dict.setdefault»
    refine wpAny_bind ?_
    unfold Builtin.Dict.keyAndDefault
    refine wpAny_bind (wpAny_notOrdered_dict hm.typeIs (show wpAny _ _ (pure (d, key, some dflt)) _ _ s from wpAny_pure ?_))
    show wpAny _ _ (if (d == sysModules) = true then _ else (dictSetDefault d key dflt >>= _)) _ _ s
    rw [if_neg (by rw [hd]; exact Bool.false_ne_true)]
    cases hv : valueAt kvs k with
    | some v => exact wpAny_bind (wpAny_dictSetDefault_of (hz := le) hkey hm.mapOf (fun v' hv' => wpAny_pure ⟨v', rfl, h1 v' hv'⟩) fun hn => absurd hn (by rw [hv]; exact fun z => nomatch z))
    | none => exact wpAny_bind (sd_new hkey hm hz hv fun h' m' s' => wpAny_pure ⟨dflt, rfl, h2 hv h' m' s'⟩)
end
noncomputable def rSetD : V → List V → Hp → VK → Prop := fun x vs H Q => ∃ (a : Addr) (kvs : List (Key × V)) (k : Key) (v : V), x = .ref a ∧ vs = [kV k, v] ∧ H a = some (.dK kvs) ∧ kvs.length < sizeLine ∧
  (∀ y, valV kvs k = some y → Q y H) ∧ (valV kvs k = none → Q v (upd H a (.dK (kvs ++ [(k, v)]))))
section
variable {X : Cx}
theorem mt_setD : MtR X "dict.setdefault" rSetD := by
  intro pins s σ H x vs v us Q I rx rv h
  obtain ⟨a, kvs, k, y, rfl, rfl, e, l, h1, h2⟩ := h
  cases rx
  obtain ⟨u1, u2, rfl, r1, r2⟩ := vals2 rv
  obtain ⟨z, hd, vs, rel, dd⟩ := dk_of I.hok e
  have hz : vs.length ≤ sizeLine := by rw [← rel.length]; exact z
  refine call_meetsIn PySem.F.slot_dict_setdefault dd.typeIs PySem.F.entry_dict_setdefault (PySem.F.args_dict_setdefault_3 _ _ _) (sd_meets (knd := mixKind X.prog X.w) (kV_is r1) hd u2) ⟨vs, dd, hz, fun v' hv' => ?_, fun hn h' m' s' => ?_⟩
  · have := rel.val k
    rw [hv'] at this
    cases q : valV kvs k with
    | none => rw [q] at this; exact False.elim this
    | some y' =>
      rw [q] at this
      exact ⟨y', H, I.tok _, this, h1 y' q⟩
  · have := rel.val k
    rw [hn] at this
    have q : valV kvs k = none := by
      cases q : valV kvs k with
      | none => rfl
      | some y' => rw [q] at this; exact False.elim this
    have e2 : KV (kvs ++ [(k, y)]) (vs ++ [(k, u2)]) := by
      have p := rel.put k r2
      have s1 : stored vs k u2 = vs ++ [(k, u2)] := by
        unfold stored
        rw [if_neg]
        intro w
        have w' := (rel.any k).trans w
        rw [valV_any, q] at w'
        cases w'
      rw [putK_new y q, s1] at p
      exact p
    have hl : (kvs ++ [(k, y)]).length ≤ sizeLine := by rw [List.length_append]; exact l
    have he : ∃ ob, h'.get? a = some ob := let ⟨ob, _, _, hq, _⟩ := m'; ⟨ob, hq⟩
    exact ⟨y, _, d_write I (by rw [e]; exact True.intro) s' he (dk_new hl hd e2 m'), r2, h2 q⟩
end
end L2

set_option Elab.async false
set_option linter.all false
set_option maxRecDepth 100000
set_option maxHeartbeats 4000000
namespace L2
open PySem PySem.Spec PyProof.Rows

/-! ### list(d.items()) -/
noncomputable def IV (v d : Addr) : Heap → Prop := fun h => h.IsItemsView v d
noncomputable def rItems : V → List V → Hp → VK → Prop := fun x vs H Q => ∃ (d : Addr) (kvs : List (Key × V)), x = .ref d ∧ vs = [] ∧ H d = some (.dK kvs) ∧ ∀ v, H v = none → Q (.ref v) (upd H v (.ext (IV v d)))
section
variable {X : Cx} {o e : Expr} {es : List Expr} {to : TE} {t : TA} {apos cpos : Pos}
theorem mt_items : MtR X "dict.items" rItems := by
  intro pins s σ H x vs v us Q I rx rv h
  obtain ⟨d, kvs, rfl, rfl, e, q⟩ := h
  cases rx
  cases rv
  obtain ⟨z, hd, ws, rel, dd⟩ := dk_of I.hok e
  refine call_meetsIn PySem.F.slot_dict_items dd.typeIs PySem.F.entry_dict_items (PySem.F.args_dict_items_1 _) (meets_dict_items (mixKind X.prog X.w) d hd) ⟨⟨ws, dd⟩, ?_⟩
  refine ⟨.ref s.heap.objs.size, _, I.laid (t' := s.toks) (a := s.heap.objs.size) (o := .ext (IV s.heap.objs.size d)) (fun b u e => Heap.get?_push_of_some _ e) (Nat.le_refl _) ?_, rfl, q _ (I.hok.fresh (Nat.le_refl _))⟩
  have g : (s.heap.push { cls := .type "dict_items", data := .fields #[.ref d] }).get? s.heap.objs.size = some { cls := .type "dict_items", data := .fields #[.ref d] } := Heap.get?_push_size _ rfl
  exact ⟨⟨_, g, rfl, rfl⟩, ⟨_, g⟩, fun h1 h2 ⟨ob, e1, r⟩ k => ⟨ob, k ob e1, r⟩⟩
end
section
variable {X : Cx} {o e : Expr} {es : List Expr} {to : TE} {t : TA} {apos cpos : Pos}
theorem pe_m.setdefault (ho : PE X o to) (ha : PA X (e :: es) t) (hbase : attributeBase o "setdefault" X.env (eval o X.env) = eval o X.env := by rfl)
    (hfew : ((backTo cpos (starEach (e :: es) X.env)).all (fun x => !x.1) && (backToKw cpos (keywordEach [] X.env)).all (fun x => x.1.isSome) && decide ((e :: es).length + ([] : List Keyword).length + (if ([] : List Keyword).isEmpty then 0 else 1) < 30)) = true := by rfl)
    (hline : (apos.endLine == cpos.line) = true := by rfl) (hs : starEach (e :: es) X.env = (false, eval e X.env) :: starEach es X.env := by rfl) (hplain : (backTo cpos (starEach es X.env)).any (·.1) = false := by rfl) :
    PE X (.Call (.Attribute o "setdefault" apos) (e :: es) [] cpos) (tBM X.K "dict" rSetD to t) := pe_bm F.plainAttrs_dict F.slot_dict_setdefault F.type_dict_setdefault mt_setD ho ha hbase hfew hline hs hplain
theorem pe_m.items (ho : PE X o to) (hbase : attributeBase o "items" X.env (eval o X.env) = eval o X.env := by rfl) (hline : (apos.endLine == cpos.line) = true := by rfl) :
    PE X (.Call (.Attribute o "items" apos) [] [] cpos) (tBM0 X.K "dict" rItems to) := pe_bm0 F.plainAttrs_dict F.slot_dict_items F.type_dict_items mt_items ho hbase hline
end
end L2

set_option Elab.async false
set_option linter.all false
set_option maxRecDepth 100000
set_option maxHeartbeats 4000000
namespace L2
open PySem PySem.Spec PyProof.Rows
theorem vals_at : ∀ {xs : List V} {us : List Value}, xs.length = us.length → (∀ (i : Nat) x u, xs[i]? = some x → us[i]? = some u → RelV x u) → Vals xs us
  | [], [], _, _ => .nil
  | x :: xs, u :: us, h, r => .cons (r 0 x u rfl rfl) (vals_at (by simpa using h) fun i y w h1 h2 => r (i + 1) y w (by simpa using h1) (by simpa using h2))
  | [], _ :: _, h, _ => by cases h
  | _ :: _, [], h, _ => by cases h
section
variable {X : Cx}
theorem call_rng1 : CallR X (.type "range") (fun xs H Q => ∃ b, xs = [.int b] ∧ ∀ p, H p = none → Q (.ref p) (upd H p (.rng 0 b))) := by
  intro pins s σ H xs us Q I r h
  obtain ⟨b, rfl, q⟩ := h
  obtain ⟨u, rfl, ⟨t, rfl⟩⟩ := vals1 r
  refine call_range_1 ?_
  exact ⟨.ref s.heap.objs.size, _, I.laid (o := .rng 0 b) (fun b o e => Heap.get?_push_of_some _ e) (Nat.le_refl _) ⟨_, _, _, Heap.get?_push_size _ rfl⟩, rfl, q _ (I.hok.fresh (Nat.le_refl _))⟩
theorem call_lstRng (hc : X.calm = true) : CallR X (.type "list") (fun xs H Q => ∃ (p : Addr), xs = [.ref p] ∧ H p = some (.rng 0 24) ∧ ∀ l, H l = none → Q (.ref l) (upd H l (.lst ((List.range 24).map fun (i : Nat) => V.int (i : Int))))) := by
  intro pins s σ H xs us Q I r h
  obtain ⟨p, rfl, e, q⟩ := h
  obtain ⟨u, rfl, ru⟩ := vals1 r
  cases ru
  obtain ⟨t, t2, t3, ho⟩ := (show ObjOk X.prog X.w H s.heap p (.rng 0 24) from I.hok p _ e)
  refine call_list_range (n := 24) (I.ok.hd hc) ho (by decide) (by decide) (by decide) fun h' tk acc c hk hS hI => ?_
  refine ⟨.ref s.heap.objs.size, _, I.laid (t' := tk) (o := .lst ((List.range 24).map fun (i : Nat) => V.int (i : Int))) hk (Nat.le_refl _) ?_, rfl, q _ (I.hok.fresh (Nat.le_refl _))⟩
  obtain ⟨z1, z2⟩ := hI
  refine ⟨by rw [List.length_map, List.length_range, sizeLine_eq]; omega, acc.toList, c, vals_at (by rw [List.length_map, List.length_range]; simpa using z1.symm) fun i x u hx hu => ?_, hS⟩
  rw [List.getElem?_map] at hx
  have hi : i < 24 := by
    by_cases hi : i < 24
    · exact hi
    · rw [List.getElem?_eq_none (by rw [List.length_range]; omega)] at hx
      cases hx
  rw [List.getElem?_range hi] at hx
  cases hx
  obtain ⟨tt, hv⟩ := z2 i u (by simpa using hu)
  refine (show ∃ t', u = Value.int (i : Int) t' from ⟨tt, ?_⟩)
  rw [hv]
  congr 1
  omega
end
end L2

set_option Elab.async false
set_option linter.all false
set_option maxRecDepth 100000
set_option maxHeartbeats 4000000
namespace L2
open PySem PySem.Spec PyProof.Rows
section
variable {M : Model} {A : Around} {E : Value → Shared → Prop} {s : Shared} {env : Env} {K : PySem.W.Frag} {D : Addr}
end
end L2

set_option Elab.async false
set_option linter.all false
set_option maxRecDepth 100000
set_option maxHeartbeats 4000000
namespace L2
open PySem PySem.Spec PyProof.Rows

/-! ### an exception in flight, its dict kept in view -/
/-- the exception at e, its class, its dict, its newest trace at T, that trace's mark -/
noncomputable def Fx (h : Heap) (e : Addr) (cls : Value) (dct : Option Addr) (fl : Value) (T : Addr) : Prop :=
  ∃ ob fs oT ts, h.get? e = some ob ∧ ob.cls = cls ∧ ob.dict = dct ∧ ob.data = .fields fs ∧ fs[1]? = some (.ref T) ∧ T ≠ e ∧ h.get? T = some oT ∧ oT.data = .fields ts ∧ ts[3]? = some fl
section
variable {M : Model} {A : Around} {E : Value → Shared → Prop} {s : Shared} {base : Heap} {env : Env} {outer : List Env} {L e : Addr} {ob : Obj} {fs : Array Value} {head : Value} {more : Bool}
end
end L2

set_option Elab.async false
set_option linter.all false
set_option maxRecDepth 100000
set_option maxHeartbeats 4000000
namespace L2
open PySem PySem.Spec PyProof.Rows
section
variable {M : Model} {A : Around} {E : Value → Shared → Prop} {s : Shared} {base : Heap} {env : Env} {outer : List Env} {L e T : Addr} {ob : Obj} {fs : Array Value} {cls fl : Value} {dct : Option Addr}
/-- what a walk of the traces leaves: of all but the things at xs the objects, of the frames up to slots -/
noncomputable def KeptBut (xs fr : List Addr) (h h' : Heap) : Prop :=
  (∀ b o, b ∉ xs → b ∉ fr → h.get? b = some o → h'.get? b = some o) ∧ ∀ b o, b ∉ xs → h.get? b = some o → ∃ sl, h'.get? b = some { o with slots := sl }
theorem KeptBut.trans {xs ys fr : List Addr} {h h1 h2 : Heap} (a : KeptBut xs fr h h1) (b : KeptBut ys fr h1 h2) : KeptBut (xs ++ ys) fr h h2 :=
  ⟨fun c o n f g => b.1 c o (fun z => n (List.mem_append_right _ z)) f (a.1 c o (fun z => n (List.mem_append_left _ z)) f g), fun c o n g => by
    obtain ⟨s1, g1⟩ := a.2 c o (fun z => n (List.mem_append_left _ z)) g
    obtain ⟨s2, g2⟩ := b.2 c _ (fun z => n (List.mem_append_right _ z)) g1
    exact ⟨s2, g2⟩⟩
end
end L2

set_option Elab.async false
set_option linter.all false
set_option maxRecDepth 100000
set_option maxHeartbeats 4000000
namespace L2
open PySem PySem.Spec PyProof.Rows
/-! ### an own exception with attributes leaves -/
/-- the exception at x, of the class at D, with the dict dct, flies; it and its newest trace are new and untracked -/
structure XG (P : Program) (w : World) (outer : List Env) (H : Hp) (s : Shared) (x D : Addr) (dct : Option Addr) (T : Addr) (H' : Hp) (s' : Shared) : Prop where
  os : s'.os = s.os
  bare : AllBare s'.gens
  un : Un (frs outer) [] H H' s.heap s'.heap
  hok : HOk P w H' s'.heap
  fx : Fx s'.heap x (.ref D) dct .none T
  nx : s.heap.get? x = none
  nT : s.heap.get? T = none
  ux : H' x = none
  uT : H' T = none
section
variable {P : Program} {w : World} {K : PySem.W.Frag} {mg : Str → Option Value} {base : Heap} {N : List Str} {qual : Str} {scope : Scope} {f : Addr} {cdv : Value} {A : Around} {outer : List Env} {s0 : Shared} {H0 : Hp} {E : XK}
end
section
variable {P : Program} {w : World} {K : PySem.W.Frag} {mg : Str → Option Value} {base : Heap}
end
end L2

set_option Elab.async false
set_option linter.all false
set_option maxRecDepth 100000
set_option maxHeartbeats 4000000
namespace L2
open PySem PySem.Spec PyProof.Rows
/-! ### an own exception with attributes is raised -/
/-- the abstract heap without what stands at x -/
noncomputable def untr (H : Hp) (x : Addr) : Hp := fun b => if b = x then none else H b
theorem untr_ne {H : Hp} {x b : Addr} (h : b ≠ x) : untr H x b = H b := by unfold untr; rw [if_neg h]
theorem untr_same {H : Hp} {x : Addr} : untr H x x = none := by unfold untr; rw [if_pos rfl]
theorem Inv.untr {X : Cx} {pins : List (Addr × Obj)} {σ : St} {H : Hp} {s : Shared} {x : Addr} {φ : Heap → Prop} (I : Inv X pins σ H s) (hx : H x = some (.ext φ)) : Inv X pins σ (untr H x) s := by
  have nt : ∀ b u, H b = some u → (∀ ψ, u ≠ .ext ψ) → b ≠ x := fun b u e n z => by
    rw [z, hx] at e
    cases e
    exact n φ rfl
  have fr : ∀ b, H b = none → L2.untr H x b = none := fun b e => by
    by_cases z : b = x
    · rw [z]; exact untr_same
    · rw [untr_ne z]; exact e
  have hok : HOk X.prog X.w (L2.untr H x) s.heap := fun b u e => by
    by_cases z : b = x
    · rw [z, untr_same] at e
      cases e
    · rw [untr_ne z] at e
      refine (I.hok b u e).stay (fun _ _ _ q => q) (fun c q => ?_) fun c xs q => ?_
      · rw [untr_ne (nt c _ q fun _ z => nomatch z)]; exact q
      · rw [untr_ne (nt c _ q fun _ z => nomatch z)]; exact q
  exact I.un (t' := s.toks) (h' := s.heap) ⟨fun b o e _ _ _ => e, fun b o e _ _ _ => ⟨o.slots, e⟩, fun b o e n _ => fr b n, fun b o e _ => ⟨o, e⟩, fun b xs e => by rw [untr_ne (nt b _ e fun _ z => nomatch z)]; exact e,
    fun b o u e => by rw [untr_ne (nt b _ e fun _ z => nomatch z)]; exact e, fun b ps e => ⟨#[], by rw [untr_ne (nt b _ e fun _ z => nomatch z), e]; simp⟩⟩ hok
section
variable {P : Program} {w : World} {K : PySem.W.Frag} {mg : Str → Option Value} {base : Heap} {N : List Str} {qual : Str} {scope : Scope} {f : Addr} {cdv : Value} {A : Around} {outer : List Env} {s0 : Shared} {H0 : Hp} {E : XK}
end
end L2

set_option Elab.async false
set_option linter.all false
set_option maxRecDepth 100000
set_option maxHeartbeats 4000000
namespace L2
open PySem PySem.Spec PyProof.Rows
/-! ### an own exception with attributes is caught -/
noncomputable def XCt (a D : Addr) (dct : Option Addr) : Heap → Prop := fun h => ∃ o vs, h.get? a = some o ∧ o.cls = .ref D ∧ o.data = .fields vs ∧ o.dict = dct
theorem XCt.at {a D : Addr} {dct : Option Addr} {h : Heap} (x : XCt a D dct h) : XAt a D h := let ⟨o, _, e, c, _⟩ := x; ⟨o, e, c⟩
section
variable {X : Cx} {pins : List (Addr × Obj)} {σ : St} {H H' : Hp} {s s' : Shared} {x D C T T2 : Addr} {dct : Option Addr} {fl : Value} {h2 : Heap} {xs : List Addr}
end
section
variable {X : Cx} {pins : List (Addr × Obj)} {σ : St} {H H' : Hp} {s s' : Shared} {x D C T : Addr} {dct : Option Addr} {cn en : Str} {ie : Nat} {b₀ : Stmt} {suite : List Stmt} {cp hp : Pos} {ts : TS} {DE : Ends}
end
end L2

set_option Elab.async false
set_option linter.all false
set_option maxRecDepth 100000
set_option maxHeartbeats 4000000
namespace L2
open PySem PySem.Spec PyProof.Rows
section
variable {X : Cx} {k ie : Nat} {f C : Addr} {fd : FuncData} {ps : List Str} {sp : Sp} {dvs : List V} {ds : List Value} {fx cn en : Str} {p pos p2 cp hp tp : Pos} {e : Expr} {es : List Expr} {t : TA} {b₀ : Stmt} {suite : List Stmt} {ts : TS}
end
end L2

set_option linter.all false
namespace FrM
theorem gcd_step (x y : Int) : Int.gcd y (x % y) = Int.gcd x y := by
  have e : x = x % y + y * (x / y) := (Int.emod_add_mul_ediv x y).symm
  rw [Int.gcd_comm x y]
  conv => rhs; rw [e]
  rw [Int.gcd_add_mul_left_right]
noncomputable def Bt (n : Nat) (i : Int) : Prop := i.natAbs < 2 ^ n
theorem Bt.mono {m n : Nat} {i : Int} (h : Bt m i) (l : m ≤ n) : Bt n i := Nat.lt_of_lt_of_le h (Nat.pow_le_pow_right (by decide) l)
theorem Bt.le {n : Nat} {i j : Int} (h : Bt n i) (l : j.natAbs ≤ i.natAbs) : Bt n j := Nat.lt_of_le_of_lt l h
theorem Bt.mul {m n : Nat} {i j : Int} (h : Bt m i) (h' : Bt n j) : Bt (m + n) (i * j) := by
  unfold Bt at *
  rw [Int.natAbs_mul, Nat.pow_add]
  exact Nat.mul_lt_mul_of_le_of_lt (Nat.le_of_lt h) h' (Nat.lt_of_le_of_lt (Nat.zero_le _) h)
theorem Bt.sub {n : Nat} {i j : Int} (h : Bt n i) (h' : Bt n j) : Bt (n + 1) (i - j) := by
  unfold Bt at *
  rw [Nat.pow_succ]
  omega
theorem Bt.neg {n : Nat} {i : Int} (h : Bt n i) : Bt n (-i) := by
  unfold Bt at *
  omega
/-- what is told of a fraction -/
structure Low (T B t b : Int) : Prop where
  pos : 1 ≤ b
  cop : Int.gcd t b = 1
  eq : t * B = T * b
theorem low (t b : Int) (hb : 0 < b) : 0 < (Int.gcd t b : Int) ∧ (Int.gcd t b : Int) ≤ b ∧ Low t b (t / (Int.gcd t b : Int)) (b / (Int.gcd t b : Int)) ∧ (t / (Int.gcd t b : Int)).natAbs ≤ t.natAbs ∧ (b / (Int.gcd t b : Int)).natAbs ≤ b.natAbs := by
  have hg : 0 < Int.gcd t b := Int.gcd_pos_iff.mpr (.inr (by omega))
  have hgi : 0 < (Int.gcd t b : Int) := by omega
  have d1 := Int.gcd_dvd_left t b
  have d2 := Int.gcd_dvd_right t b
  have e1 := Int.ediv_mul_cancel d1
  have e2 := Int.ediv_mul_cancel d2
  have hle : (Int.gcd t b : Int) ≤ b := Int.le_of_dvd hb d2
  refine ⟨hgi, hle, ⟨?_, Int.gcd_ediv_gcd_ediv_gcd hg, ?_⟩, ?_, ?_⟩
  · have := Int.ediv_pos_of_pos_of_dvd hb (by omega) d2
    omega
  · rw [← Int.mul_ediv_assoc _ d2, Int.mul_comm, ← Int.mul_ediv_assoc _ d1, Int.mul_comm]
  · have := congrArg Int.natAbs e1
    rw [Int.natAbs_mul] at this
    rw [← this]
    exact Nat.le_mul_of_pos_right _ (by simpa using hg)
  · have := congrArg Int.natAbs e2
    rw [Int.natAbs_mul] at this
    rw [← this]
    exact Nat.le_mul_of_pos_right _ (by simpa using hg)
theorem Low.neg {T B t b : Int} (h : Low (-T) (-B) t b) : Low T B t b := ⟨h.pos, h.cop, by have := h.eq; rw [Int.mul_neg, Int.neg_mul] at this; omega⟩
end FrM

set_option linter.all false
set_option maxRecDepth 100000
namespace L2
open PySem PySem.Spec PyProof.Rows FrM
section
variable {X : Cx}
/-! ### products and quotients of great numbers -/
noncomputable def CMulB (i j : Int) : Prop := (Bt 8000 i ∧ Bt 8000 j) ∨ CMul i j
theorem CMulB.ok {i j : Int} (h : CMulB i j) : IntMulOk i j := by
  rcases h with ⟨h1, h2⟩ | h
  · exact IntMulOk.of_le (m := 8000) (n := 8000) (intBits_le_iff.mpr h1) (intBits_le_iff.mpr h2) (by decide)
  · exact h.ok
noncomputable def CDivB (i j : Int) : Prop := 0 < j ∧ Bt 8000 j
theorem CDivB.no {i j : Int} (h : CDivB i j) : Builtin.divisionGoesByPylong i j = false := by
  refine PyProof.noPylong_of_log2 ?_
  have h2 : j.natAbs < 2 ^ 8000 := h.2
  by_cases h0 : j.natAbs = 0
  · rw [h0]; decide +kernel
  · have : j.natAbs.log2 < 8000 := (Nat.log2_lt h0).mpr h2
    omega
theorem op_mulB : OpR X (binaryOp .Mult) (rI CMulB fun i j => .int (i * j)) := opI fun _ _ _ _ _ _ _ hc q => mul_int q hc.ok
theorem op_fdivB : OpR X (binaryOp .FloorDiv) (rI CDivB fun i j => .int (i / j)) := opI fun i j _ _ _ _ _ hc q => by
  have h1 : (0 : Int) < j := hc.1
  exact floordiv_int (by omega) (by rw [Int.fdiv_eq_ediv_of_nonneg i (by omega)]; exact q) (.inl hc.no)
theorem o_mulB : OpR X (binaryOp .Mult) (rIC CMulB fun i j => .int (i * j)) := op_mulB.ic
theorem o_fdivB : OpR X (binaryOp .FloorDiv) (rIC CDivB fun i j => .int (i / j)) := op_fdivB.ic
theorem clB {i j : Int} (h : -(2 ^ 64) < i := by decide) (h2 : i < 2 ^ 64 := by decide) : CMulB i j := .inr (cl h h2)
theorem crB {i j : Int} (h : -(2 ^ 64) < j := by decide) (h2 : j < 2 ^ 64 := by decide) : CMulB i j := .inr (cr h h2)
theorem cdB {i j : Int} {n : Nat} (h : 0 < j) (h' : Bt n j) (hn : n ≤ 8000 := by decide) : CDivB i j := ⟨h, h'.mono hn⟩
theorem bt_abs : bootBuiltins "abs" = some (.builtin "abs") := by decide +kernel
end
end L2

set_option Elab.async false
set_option linter.all false
set_option maxRecDepth 100000
set_option maxHeartbeats 4000000
namespace L2
open PySem PySem.Spec PyProof.Rows
/-! ### long rows of arguments (the layer's own rule is slow for them) -/
/-- a text's last return of one of twelve told things; the judgment is kept whole (unfolding it is slow) -/
@[irreducible] def PSq (X : Cx) (sts : List Stmt) (t : TS) : Prop := PSs X sts t
theorem pss_consI {X : Cx} {st : Stmt} {sts : List Stmt} {t u : TS} (h1 : PS X st t) (h2 : PSq X sts u) : PSs X (st :: sts) (tSeq t u) := by
  unfold PSq at h2
  exact pss_cons h1 h2
/-- two promises of one def -/
theorem FnOk.or {P : Program} {w : World} {K : PySem.W.Frag} {mg : Str → Option Value} {base : Heap} {CX : CXT} {k : Nat} {f : Addr} {fd : FuncData} {ps : List Str} {sp sp' : Sp} (F : FnOk P w K mg base CX k f fd ps sp) (F' : FnOk P w K mg base CX k f fd ps sp') :
    FnOk P w K mg base CX k f fd ps (fun vs H Q E => sp vs H Q E ∨ sp' vs H Q E) :=
  ⟨fun vs H Q E h => h.elim (F.len vs H Q E) (F'.len vs H Q E), fun A outer s H args us vs Q E hr he hb hv hs => hs.elim (F.run A outer s H args us vs Q E hr he hb hv) (F'.run A outer s H args us vs Q E hr he hb hv)⟩
section
variable {X : Cx} {k ie ir : Nat} {f C : Addr} {fd : FuncData} {ps : List Str} {sp : Sp} {dvs : List V} {ds : List Value} {fx cn en rn : Str} {p pos p2 p3 cp hp tp : Pos} {e : Expr} {es : List Expr} {t : TA} {b₀ : Stmt} {suite : List Stmt} {ts : TS}
end
end L2

set_option Elab.async false
set_option linter.all false
set_option maxRecDepth 100000
set_option maxHeartbeats 4000000
namespace HT
open PySem PySem.Spec PyProof.Rows
section
variable {prog : Program} {w : World} {A : Around} {E : Value → Shared → Prop} {s : Shared}
end
end HT
namespace L2
open PySem PySem.Spec PyProof.Rows
section
variable {X : Cx}
/-! ### () + t is t itself -/
/-! ### long rows, kept whole (unfolding the judgment is slow) -/
@[irreducible] def PAq (X : Cx) (es : List Expr) (t : TA) : Prop := PA X es t
theorem paq_nil : PAq X [] tNil := by unfold PAq; exact pa_nil
end
end L2

set_option Elab.async false
set_option linter.all false
set_option maxRecDepth 100000
set_option maxHeartbeats 4000000
namespace L2
open PySem PySem.Spec PyProof.Rows
/-! ### judgments kept whole, for rows of rows (unfolding them is slow) -/
section
variable {X : Cx}
@[irreducible] def PEq (X : Cx) (e : Expr) (t : TE) : Prop := PE X e t
@[irreducible] def PSt (X : Cx) (st : Stmt) (t : TS) : Prop := PS X st t
theorem peq_of {e : Expr} {t : TE} (h : PE X e t) : PEq X e t := by unfold PEq; exact h
end
end L2

set_option Elab.async false
set_option linter.all false
set_option maxRecDepth 100000
set_option maxHeartbeats 4000000
namespace L2
open PySem PySem.Spec PyProof.Rows
/-! ### lambdas: a function object, its cells, its code, the table of the code that it stands in -/
structure LamD where
  qual : Str
  params : Arguments
  body : Expr
  scope : Scope
noncomputable def LamX (f : Addr) (d : LamD) (clos : List (Str × Addr)) (c : Addr) : Heap → Prop := fun h => ∃ pm ctv, h.get? f = some (PySem.W.kla_obj "<lambda>" d.qual d.params d.body d.scope clos pm c ctv)
noncomputable def CellX (c : Addr) (v : V) : Heap → Prop := fun h => ∃ o u, h.get? c = some o ∧ o.data = .cell (some u) ∧ RelV v u
noncomputable def CodeX (c : Addr) (q : Str) : Heap → Prop := fun h => ∃ o vs t, h.get? c = some o ∧ o.data = .fields vs ∧ vs[1]? = some (.str q t)
section
variable {P : Program} {w : World} {H : Hp} {h : Heap}
theorem lamX_ok {f : Addr} {d : LamD} {clos : List (Str × Addr)} {c : Addr} {pm ctv : Value} (e : h.get? f = some (PySem.W.kla_obj "<lambda>" d.qual d.params d.body d.scope clos pm c ctv)) : ObjOk P w H h f (.ext (LamX f d clos c)) :=
  ⟨⟨pm, ctv, e⟩, ⟨_, e⟩, fun h1 h2 ⟨pm, ctv, e1⟩ k => ⟨pm, ctv, k _ e1⟩⟩
theorem cellX_ok {c : Addr} {v : V} (x : CellX c v h) : ObjOk P w H h c (.ext (CellX c v)) :=
  ⟨x, let ⟨o, _, e, _⟩ := x; ⟨o, e⟩, fun h1 h2 ⟨o, u, e1, r⟩ k => ⟨o, u, k _ e1, r⟩⟩
theorem codeX_ok {c : Addr} {q : Str} (x : CodeX c q h) : ObjOk P w H h c (.ext (CodeX c q)) :=
  ⟨x, let ⟨o, _, _, e, _⟩ := x; ⟨o, e⟩, fun h1 h2 ⟨o, vs, t, e1, r⟩ k => ⟨o, vs, t, k _ e1, r⟩⟩
end
/-- a heap with one object everywhere -/
theorem heap_at (a : Addr) (o : Obj) (ho : o.data ≠ .freed) : ∃ h : Heap, h.get? a = some o := by
  refine ⟨{ objs := Array.replicate (a + 1) o }, ?_⟩
  obtain ⟨c, d, dt, sl⟩ := o
  cases dt <;> first | exact absurd rfl ho | simp [Heap.get?]
theorem code_ne_cell {c : Addr} {q : Str} {v : V} : HO.ext (CodeX c q) ≠ HO.ext (CellX c v) := fun e => by
  injection e with e
  obtain ⟨h, hh⟩ := heap_at c { cls := .none, data := .fields #[.none, .str q 0] } (by intro z; cases z)
  have y : CellX c v h := by rw [← e]; exact ⟨_, _, _, hh, rfl, rfl⟩
  obtain ⟨o, u, e1, e2, _⟩ := y
  rw [hh] at e1
  cases e1
  cases e2
/-! ### kept, but that tables grow -/
noncomputable def notT : HO → Bool
  | .tbl _ => false
  | _ => true
noncomputable def SameT (H H' : Hp) : Prop := ∀ b o, H b = some o → (notT o = true → H' b = some o) ∧ ∃ o', H' b = some o'
theorem SameT.refl {H : Hp} : SameT H H := fun b o e => ⟨fun _ => e, o, e⟩
theorem SameT.trans {H H1 H2 : Hp} (a : SameT H H1) (b : SameT H1 H2) : SameT H H2 := fun c o e => by
  obtain ⟨f, o', e'⟩ := a c o e
  obtain ⟨g, o2, e2⟩ := b c o' e'
  exact ⟨fun n => (b c o (f n)).1 n, o2, e2⟩
theorem Same.t {H H' : Hp} (s : Same H H') : SameT H H' := fun b o e => ⟨fun _ => s b o e, o, s b o e⟩
theorem SameT.at {H H' : Hp} (s : SameT H H') {a : Addr} {o : HO} (e : H a = some o) (n : notT o = true := by rfl) : H' a = some o := (s a o e).1 n
theorem SameT.free {H H' : Hp} (s : SameT H H') {a : Addr} (e : H' a = none) : H a = none := by
  cases q : H a with
  | none => rfl
  | some o => obtain ⟨_, o', e'⟩ := s a o q; rw [e] at e'; cases e'
theorem SameT.put {H H' : Hp} (s : SameT H H') {a : Addr} {o : HO} (e : H a = none) : SameT H (upd H' a o) := fun b u q => by
  have n : b ≠ a := fun z => by rw [z, e] at q; cases q
  rw [upd_ne n]
  exact s b u q
/-- a table of codes, in which the lambdas ls of its code may stand -/
noncomputable def TabOk (H : Hp) (P : Addr) (ls : List (Pos × Str)) : Prop := ∃ ps, H P = some (.tbl ps) ∧ TriplesOk ps.toList ∧ ∀ l ∈ ls, codeAmong l.1 ps.toList = none ∨ ∃ c, codeAmong l.1 ps.toList = some (.ref c) ∧ H c = some (.ext (CodeX c l.2))
noncomputable abbrev Tabs := List (Addr × List (Pos × Str))
noncomputable def TabsOk (tabs : Tabs) (H : Hp) : Prop := ∀ q ∈ tabs, TabOk H q.1 q.2
theorem TabsOk.same {tabs : Tabs} {H H' : Hp} (t : TabsOk tabs H) (s : Same H H') : TabsOk tabs H' := fun q hq => by
  obtain ⟨ps, e1, e2, e3⟩ := t q hq
  exact ⟨ps, s _ _ e1, e2, fun l hl => (e3 l hl).imp id fun ⟨c, a, b⟩ => ⟨c, a, s _ _ b⟩⟩
theorem TabsOk.put {tabs : Tabs} {H : Hp} {r : Addr} {o : HO} (t : TabsOk tabs H) (h1 : ∀ ps, H r ≠ some (.tbl ps)) (h2 : ∀ φ, H r ≠ some (.ext φ)) : TabsOk tabs (upd H r o) := fun q hq => by
  obtain ⟨ps, e1, e2, e3⟩ := t q hq
  refine ⟨ps, ?_, e2, fun l hl => (e3 l hl).imp id fun ⟨c, a, b⟩ => ⟨c, a, ?_⟩⟩
  · rw [upd_ne fun z => h1 ps (by rw [← z]; exact e1)]; exact e1
  · rw [upd_ne fun z => h2 _ (by rw [← z]; exact b)]; exact b
theorem among_other {p p' : Pos} {c : Value} (l : List Value) (h : TriplesOk l) (hn : ¬ (p.line = p'.line ∧ p.col = p'.col)) : codeAmong p' (l ++ [rawInt p.line, rawInt p.col, c]) = codeAmong p' l := by
  fun_induction TriplesOk l with
  | case1 =>
    simp only [List.nil_append, codeAmong, rawInt]
    rw [if_neg]
    intro z
    rw [Bool.and_eq_true, beq_iff_eq, beq_iff_eq] at z
    exact hn ⟨by omega, by omega⟩
  | case2 a t b u x rest ih =>
    simp only [List.cons_append, codeAmong]
    rw [ih h]
  | case3 => exact h.elim
theorem triples_snoc {p : Pos} {c : Value} (l : List Value) (h : TriplesOk l) : TriplesOk (l ++ [rawInt p.line, rawInt p.col, c]) := by
  fun_induction TriplesOk l with
  | case1 => simp [TriplesOk, rawInt]
  | case2 a t b u x rest ih => exact ih h
  | case3 => exact h.elim
/-- the module of the built-ins, at its place -/
noncomputable def Bm (mg : Str → Option Value) (base : Heap) : Prop := ∃ bm ob, mg "__builtins__" = some (.ref bm) ∧ base.get? bm = some ob ∧ ob.cls = .type "module" ∧ ob.dict = some builtinsNs ∧ ob.data = .plain
noncomputable def tLam (tabs : Tabs) (d : LamD) (clos : List (Str × Addr)) : TE := fun σ H Q => TabsOk tabs H ∧ ∀ f c H1, SameT H H1 → TabsOk tabs H1 → H f = none → H1 f = some (.ext (LamX f d clos c)) → H1 c = some (.ext (CodeX c d.qual)) → Q (.ref f) H1
end L2

set_option Elab.async false
set_option linter.all false
set_option maxRecDepth 100000
set_option maxHeartbeats 4000000
namespace L2
open PySem PySem.Spec PyProof.Rows
theorem fst_inj {α β : Type} : ∀ {l : List (α × β)}, (l.map (·.1)).Nodup → ∀ x ∈ l, ∀ y ∈ l, x.1 = y.1 → x = y
  | [], _, x, hx, _, _, _ => by cases hx
  | a :: r, nd, x, hx, y, hy, e => by
    rw [List.map_cons, List.nodup_cons] at nd
    rcases List.mem_cons.mp hx with rfl | hx' <;> rcases List.mem_cons.mp hy with rfl | hy'
    · rfl
    · exact absurd (List.mem_map.mpr ⟨y, hy', e.symm⟩) nd.1
    · exact absurd (List.mem_map.mpr ⟨x, hx', e⟩) nd.1
    · exact fst_inj nd.2 x hx' y hy' e
theorem pos_inj : ∀ {l : List (Pos × Str)}, (l.Pairwise fun x y => ¬ (x.1.line = y.1.line ∧ x.1.col = y.1.col)) → ∀ x ∈ l, ∀ y ∈ l, (x.1.line = y.1.line ∧ x.1.col = y.1.col) → x = y
  | [], _, x, hx, _, _, _ => by cases hx
  | a :: r, nd, x, hx, y, hy, e => by
    rw [List.pairwise_cons] at nd
    rcases List.mem_cons.mp hx with rfl | hx' <;> rcases List.mem_cons.mp hy with rfl | hy'
    · rfl
    · exact absurd e (nd.1 y hy')
    · exact absurd ⟨e.1.symm, e.2.symm⟩ (nd.1 x hx')
    · exact pos_inj nd.2 x hx' y hy' e
section
variable {X : Cx} {tabs : Tabs} {P c : Addr} {ls : List (Pos × Str)} {d : LamD} {clos : List (Str × Addr)} {pos : Pos}
theorem pe_lam (hcd : X.env.code = .ref c) (hC : PySem.W.codeHdIn X.K c P = true) (hB : Bm X.mg X.base) (hq : X.env.qual ++ "<lambda>" = d.qual) (hcl : closureFor d.scope X.env = pure clos) (hdef : defaultsOf d.params X.env = ([], []))
    (hm : (P, ls) ∈ tabs) (hl : (pos, d.qual) ∈ ls) (hnd : (tabs.map (·.1)).Nodup) (hps : ls.Pairwise fun x y => ¬ (x.1.line = y.1.line ∧ x.1.col = y.1.col)) : PE X (.Lambda d.params d.body d.scope pos) (tLam tabs d clos) := by
  intro pins s σ H Q I h
  obtain ⟨hT, hQ⟩ := h
  refine PySem.W.kla_eval hdef ?_
  rw [hq]
  obtain ⟨ps, hP, htr, hls⟩ := hT _ hm
  have hgs : s.heap.Ns mainGlobals X.mg := I.mod.glob.keeps I.bk
  have C : PySem.W.CodeHd s.heap c P := PySem.W.codeHd_of_K I.kIn hC
  have hPo : s.heap.get? P = some (PySem.W.tabObj ps) := I.hok P _ hP
  have hgP : mainGlobals ≠ P := fun q => by
    obtain ⟨o, es, ep, e, hd, _⟩ := hgs
    rw [q, hPo] at e; cases e; cases hd
  obtain ⟨bm, ob, b1, b2, b3, b4, b5⟩ := hB
  have bo := I.bk _ _ b2
  have hbP : bm ≠ P := fun q => by
    rw [q, hPo] at bo; cases bo; cases b3
  have hbG : bm ≠ mainGlobals := fun q => by
    obtain ⟨o, es, ep, e, hd, _⟩ := hgs
    rw [q, e] at bo; cases bo; rw [hd] at b5; cases b5
  have hbB : bm ≠ builtinsNs := fun q => by
    obtain ⟨mb, ⟨o, es, ep, e, hd, _⟩, _⟩ := I.mod.blt
    rw [q, e] at b2; cases b2; rw [hd] at b5; cases b5
  have BA : s.heap.BuiltinsAt X.mg P := ⟨bm, ob, b1, hbB, hbG, hbP, bo, b3, b4, b5⟩
  rcases hls _ hl with hn | ⟨c', hc, hHc⟩
  · refine PySem.W.kla_makeFunction (mg := X.mg) hcl I.ok.glob hgs hcd C hPo htr hn hgP BA fun c' ctv h' tk hx hge hlt hrec htb => ?_
    have hc0 : H c' = none := I.hok.fresh hge
    have hf0 : H h'.objs.size = none := I.hok.fresh (Nat.le_trans hge (Nat.le_of_lt hlt))
    have ncf : c' ≠ h'.objs.size := Nat.ne_of_lt hlt
    have nPc : P ≠ c' := ne_of_none hP hc0
    have nPf : P ≠ h'.objs.size := ne_of_none hP hf0
    obtain ⟨f, hf⟩ : ∃ f, f = h'.objs.size := ⟨_, rfl⟩
    obtain ⟨ob', hob⟩ : ∃ o, o = PySem.W.kla_obj "<lambda>" d.qual d.params d.body d.scope clos ((X.mg "__name__").getD .none) c' ctv := ⟨_, rfl⟩
    have hfo : (h'.push ob').get? f = some ob' := by rw [hf, hob]; exact Heap.get?_push_size _ rfl
    have keep : ∀ b o, b ≠ P → s.heap.get? b = some o → (h'.push ob').get? b = some o := fun b o n e => Heap.get?_push_of_some _ (hx b o n e)
    have htb' : (h'.push ob').get? P = some (PySem.W.tabObj (ps ++ #[rawInt pos.line, rawInt pos.col, .ref c'])) := Heap.get?_push_of_some _ htb
    have hcx : CodeX c' d.qual (h'.push ob') := by
      obtain ⟨c2, oc, vs, t, e2, hoc, hdt, hv⟩ := hrec
      cases e2
      exact ⟨oc, vs, t, Heap.get?_push_of_some _ hoc, hdt, hv⟩
    rw [← hf] at hf0 ncf nPf ⊢
    rw [← hob]
    obtain ⟨H1, hH1⟩ : ∃ H1, H1 = upd (upd (upd H P (.tbl (ps ++ #[rawInt pos.line, rawInt pos.col, .ref c']))) c' (.ext (CodeX c' d.qual))) f (.ext (LamX f d clos c')) := ⟨_, rfl⟩
    have gf : H1 f = some (.ext (LamX f d clos c')) := by rw [hH1]; exact upd_same
    have gc : H1 c' = some (.ext (CodeX c' d.qual)) := by rw [hH1, upd_ne ncf]; exact upd_same
    have gP : H1 P = some (.tbl (ps ++ #[rawInt pos.line, rawInt pos.col, .ref c'])) := by rw [hH1, upd_ne nPf, upd_ne nPc]; exact upd_same
    have go : ∀ b, b ≠ P → b ≠ c' → b ≠ f → H1 b = H b := fun b h1 h2 h3 => by rw [hH1, upd_ne h3, upd_ne h2, upd_ne h1]
    have same : ∀ b o, b ≠ P → H b = some o → H1 b = some o := fun b o n e => by rw [go b n (ne_of_none e hc0) (ne_of_none e hf0)]; exact e
    have nt : ∀ b o, H b = some o → (∀ qs, o ≠ .tbl qs) → b ≠ P := fun b o e n z => by rw [z, hP] at e; cases e; exact n ps rfl
    have un : Un X.fs [] H H1 s.heap (h'.push ob') := by
      refine ⟨fun b o e n _ _ => keep b o (fun z => by rw [z, hP] at n; cases n) e, fun b o e n _ _ => ⟨o.slots, keep b o (fun z => by rw [z, hP] at n; cases n) e⟩, fun b o e n _ => ?_, fun b o e _ => ?_, fun b xs e => same b _ (nt b _ e fun _ z => nomatch z) e, fun b o u e => same b _ (nt b _ e fun _ z => nomatch z) e, fun b qs e => ?_⟩
      · have hb : b < s.heap.objs.size := Heap.lt_size e
        rw [go b (fun z => by rw [z, hP] at n; cases n) (Nat.ne_of_lt (Nat.lt_of_lt_of_le hb hge)) (by rw [hf]; exact Nat.ne_of_lt (Nat.lt_of_lt_of_le hb (Nat.le_trans hge (Nat.le_of_lt hlt))))]
        exact n
      · by_cases hb : b = P
        · rw [hb]; exact ⟨_, htb'⟩
        · exact ⟨o, keep b o hb e⟩
      · by_cases hb : b = P
        · rw [hb, hP] at e
          cases e
          rw [hb]
          exact ⟨_, gP⟩
        · exact ⟨#[], by rw [same b _ hb e]; simp⟩
    have hok : HOk X.prog X.w H1 (h'.push ob') := fun a o e => by
      by_cases h1 : a = f
      · subst h1; rw [gf] at e; cases e; exact lamX_ok (by rw [hfo, hob])
      by_cases h2 : a = c'
      · subst h2; rw [gc] at e; cases e; exact codeX_ok hcx
      by_cases h3 : a = P
      · subst h3; rw [gP] at e; cases e; exact htb'
      rw [go a h3 h2 h1] at e
      refine (I.hok a o e).stay (fun b u hb q => keep b u ?_ q) (fun b q => same b _ (nt b _ q fun _ z => nomatch z) q) fun b xs q => same b _ (nt b _ q fun _ z => nomatch z) q
      rcases hb with rfl | hb
      · exact h3
      · exact nt b _ hb fun _ z => nomatch z
    refine ⟨.ref f, H1, I.un (h' := h'.push ob') (t' := tk) un hok, rfl, hQ f c' H1 (fun b o e => ?_) (fun q hq' => ?_) hf0 gf gc⟩
    · by_cases hb : b = P
      · subst hb
        rw [hP] at e
        cases e
        exact ⟨fun z => (Bool.false_ne_true z).elim, _, gP⟩
      · exact ⟨fun _ => same b o hb e, o, same b o hb e⟩
    · by_cases hqP : q.1 = P
      · have hqe : q = (P, ls) := fst_inj hnd q hq' (P, ls) hm hqP
        subst hqe
        refine ⟨_, gP, by rw [Array.toList_append]; exact triples_snoc _ htr, fun l' hl' => ?_⟩
        rw [Array.toList_append]
        by_cases hp : pos.line = l'.1.line ∧ pos.col = l'.1.col
        · have := pos_inj hps (pos, d.qual) hl l' hl' hp
          subst this
          exact .inr ⟨c', codeAmong_snoc _ htr hn, gc⟩
        · have eo := among_other (c := .ref c') ps.toList htr hp
          rcases hls l' hl' with z | ⟨c2, z1, z2⟩
          · exact .inl (eo.trans z)
          · exact .inr ⟨c2, eo.trans z1, same c2 _ (nt c2 _ z2 fun _ z => nomatch z) z2⟩
      · obtain ⟨qs, e1, e2, e3⟩ := hT q hq'
        exact ⟨qs, same _ _ hqP e1, e2, fun l' hl' => (e3 l' hl').imp id fun ⟨c2, z1, z2⟩ => ⟨c2, z1, same c2 _ (nt c2 _ z2 fun _ z => nomatch z) z2⟩⟩
  · refine PySem.W.kla_makeFunctionHit (mg := X.mg) hcl I.ok.glob hgs hcd C hPo htr hc BA fun ctv h' tk hk hsz => ?_
    have hf0 : H h'.objs.size = none := I.hok.fresh hsz
    have sm : Same H (upd H h'.objs.size (.ext (LamX h'.objs.size d clos c'))) := Same.new hf0
    refine ⟨.ref h'.objs.size, _, I.laid (a := h'.objs.size) (o := .ext (LamX h'.objs.size d clos c')) (t' := tk) (fun b u e => Heap.get?_push_of_some _ (hk b u e)) hsz (lamX_ok (Heap.get?_push_size _ rfl)), rfl, hQ _ c' _ sm.t (hT.same sm) hf0 upd_same (sm _ _ hHc)⟩
end
end L2

set_option Elab.async false
set_option linter.all false
set_option maxRecDepth 100000
set_option maxHeartbeats 4000000
namespace L2
open PySem PySem.Spec PyProof.Rows
/-! ### a lambda called -/
noncomputable def untrs (H : Hp) (cs : List Addr) : Hp := fun b => if b ∈ cs then none else H b
theorem untrs_in {H : Hp} {cs : List Addr} {b : Addr} (h : b ∈ cs) : untrs H cs b = none := by unfold untrs; rw [if_pos h]
theorem untrs_out {H : Hp} {cs : List Addr} {b : Addr} (h : b ∉ cs) : untrs H cs b = H b := by unfold untrs; rw [if_neg h]
theorem untrs_none {H : Hp} {cs : List Addr} {b : Addr} (h : H b = none) : untrs H cs b = none := by unfold untrs; split <;> first | rfl | exact h
noncomputable abbrev CellsAt (H : Hp) : List (Str × Addr) → List V → Prop := Paired fun (p : Str × Addr) (v : V) => H p.2 = some (.ext (CellX p.2 v))
theorem CellsAt.mem {H : Hp} : ∀ {clos : List (Str × Addr)} {vals : List V}, CellsAt H clos vals → ∀ p ∈ clos, ∃ v, H p.2 = some (.ext (CellX p.2 v))
  | _, _, .nil, p, h => by cases h
  | _, _, .cons r t, p, h => by
    rcases List.mem_cons.mp h with rfl | h
    · exact ⟨_, r⟩
    · exact CellsAt.mem t p h
theorem CellsAt.get {H : Hp} : ∀ {clos : List (Str × Addr)} {vals : List V} {i : Nat} {v : V}, CellsAt H clos vals → vals[i]? = some v → ∃ p, clos[i]? = some p ∧ H p.2 = some (.ext (CellX p.2 v))
  | _, _, _, _, .nil, h => by cases h
  | _, _, 0, _, .cons r t, h => by cases h; exact ⟨_, rfl, r⟩
  | _, _, i + 1, _, .cons r t, h => CellsAt.get (i := i) t h
theorem CellsAt.at {H : Hp} {clos : List (Str × Addr)} {vals : List V} (ca : CellsAt H clos vals) {b : Addr} (hb : b ∈ clos.map (·.2)) : ∃ v, H b = some (.ext (CellX b v)) := by
  obtain ⟨p, hp, rfl⟩ := List.mem_map.mp hb
  exact ca.mem p hp
theorem untrs_of {H : Hp} {clos : List (Str × Addr)} {vals : List V} {b : Addr} {o : HO} (ca : CellsAt H clos vals) (h : H b = some o) (n : ∀ v, o ≠ .ext (CellX b v)) : untrs H (clos.map (·.2)) b = some o := by
  rw [untrs_out fun z => ?_]
  · exact h
  · obtain ⟨v, e⟩ := ca.at z
    rw [h] at e
    exact n v (Option.some.inj e)
theorem lookup_of_mem {α : Type} : ∀ {l : List (Str × α)} {x : Str} {u : α}, (l.map (·.1)).Nodup → (x, u) ∈ l → l.lookup x = some u
  | [], _, _, _, h => by cases h
  | (y, w) :: r, x, u, nd, h => by
    rw [List.map_cons, List.nodup_cons] at nd
    rcases List.mem_cons.mp h with e | h
    · cases e; simp [List.lookup]
    · have : x ≠ y := fun z => nd.1 (List.mem_map.mpr ⟨(x, u), h, z⟩)
      rw [List.lookup_cons, beq_eq_false_iff_ne.mpr this]
      exact lookup_of_mem nd.2 h
theorem nodup_rev {α : Type} {l : List α} (h : l.Nodup) : l.reverse.Nodup := by
  unfold List.Nodup at h ⊢
  rw [List.pairwise_reverse]
  exact h.imp fun n z => n z.symm
noncomputable def lamEnv (d : LamD) (L f c : Addr) (clos : List (Str × Addr)) : Env := { scope := d.scope, locals := L, globals := mainGlobals, cells := clos, qual := d.qual ++ ".<locals>.", func := some f, code := .ref c, frame := some L, builtins := builtinsNs }
noncomputable def cxL (P : Program) (w : World) (K : PySem.W.Frag) (mg : Str → Option Value) (base : Heap) (N : List Str) (d : LamD) (clos : List (Str × Addr)) (f c : Addr) (A : Around) (outer : List Env) (s : Shared) (H : Hp) : Cx where
  prog := P
  w := w
  K := K
  mg := mg
  base := base
  A := A.deeper (lamEnv d s.heap.objs.size f c clos)
  N := N
  s₀ := s
  H₀ := untrs H (clos.map (·.2))
  env := lamEnv d s.heap.objs.size f c clos
  outer := outer
  stack := lamEnv d s.heap.objs.size f c clos :: outer
  ex := []
  calm := true
  fn := fun _ => false
  pn := []
  xe := fun _ _ => False
noncomputable def LamOk (P : Program) (w : World) (K : PySem.W.Frag) (mg : Str → Option Value) (base : Heap) (k : Nat) (d : LamD) (fv ps : List Str) (sp : List V → Sp) : Prop :=
  ∀ (A : Around) (outer : List Env) (s : Shared) (H : Hp) (f c : Addr) (clos : List (Str × Addr)) (us : List Value) (vs vals : List V) (Q : VK) (E : XK), Room k A → Env0 P w K mg base A outer s H → H f = some (.ext (LamX f d clos c)) → H c = some (.ext (CodeX c d.qual)) →
    clos.map (·.1) = fv → (clos.map (·.2)).Nodup → CellsAt H clos vals → Vals vs us → sp vals vs H Q E → codeAny (model P w) A (.call (.ref f) ⟨us, []⟩) (CR CX0 outer P w H s Q E) s
structure LamScope (d : LamD) (fv ps : List Str) : Prop where
  kind : d.scope.kind = .function
  co : d.scope.isCoroutine = false
  gen : d.scope.isGenerator = false
  nocell : ∀ x ∈ d.scope.names, x.2 ≠ .cell
  par : ∀ x ∈ ps, d.scope.names.lookup x = some .local
  free : ∀ x ∈ d.scope.names, x.2 = .free → x.1 ∈ fv
  fr : ∀ x ∈ fv, d.scope.names.lookup x = some .free
  nd : (ps ++ fv).Nodup
theorem mem_of_look {α β : Type} [BEq α] [LawfulBEq α] : ∀ {l : List (α × β)} {x : α} {u : β}, l.lookup x = some u → (x, u) ∈ l
  | [], _, _, h => by cases h
  | (y, w) :: r, x, u, h => by
    rw [List.lookup_cons] at h
    cases e : x == y with
    | true => rw [e] at h; cases h; rw [eq_of_beq e]; exact List.mem_cons_self ..
    | false => rw [e] at h; exact List.mem_cons_of_mem _ (mem_of_look h)
theorem inv_startL {P : Program} {w : World} {K : PySem.W.Frag} {mg : Str → Option Value} {base : Heap} {d : LamD} {fv ps : List Str} {clos : List (Str × Addr)} {f c : Addr} {A : Around} {outer : List Env} {s : Shared} {H : Hp} {us : List Value} {vs vals : List V} {h1 : Heap} {tk : Nat}
    (S : LamScope d fv ps) (hd : A.handled = none) (e0 : Env0 P w K mg base A outer s H) (hl : vs.length = ps.length) (r : Vals vs us) (hfv : clos.map (·.1) = fv) (hnd : (clos.map (·.2)).Nodup) (ca : CellsAt H clos vals)
    (hns : h1.Ns s.heap.objs.size (fun x => (ps.zip us).reverse.lookup x)) (hk : ∀ b o, s.heap.get? b = some o → h1.get? b = some o) :
    Inv (cxL P w K mg base (ps ++ fv) d clos f c A outer s H) [] ((vs ++ vals).map some) (untrs H (clos.map (·.2))) { s with heap := h1, toks := tk } := by
  have ndf : (clos.map (·.1)).Nodup := by rw [hfv]; exact (List.nodup_append.mp S.nd).2.1
  have ndp : ps.Nodup := (List.nodup_append.mp S.nd).1
  have lus : us.length = ps.length := by rw [← r.length]; exact hl
  have hin : ∀ x c', clos.lookup x = some c' → c' ∈ clos.map (·.2) := fun x c' e => List.mem_map.mpr ⟨(x, c'), mem_of_look e, rfl⟩
  have cellOf : ∀ b v, H b = some (.ext (CellX b v)) → ∃ u, RelV v u ∧ h1.IsCell b (some u) := fun b v e => by
    obtain ⟨⟨o, u, g1, g2, g3⟩, _⟩ := e0.hok b _ e
    exact ⟨u, g3, o, hk _ _ g1, g2⟩
  have noA : ∀ b : Addr, b ∉ (cxL P w K mg base (ps ++ fv) d clos f c A outer s H).ex := fun b z => absurd (show b ∈ ([] : List Addr) from z) (by simp)
  have lcl : clos.length = fv.length := by rw [← hfv, List.length_map]
  have lva : vals.length = clos.length := (Paired.length ca).symm
  refine ⟨⟨e0.mod, S.kind, rfl, rfl, Nat.le_refl _, fun y z c' h1 h2 => ?_, fun y hy => ?_, fun y c' h => (Bool.false_ne_true h).elim, fun _ => hd, Around.frames_deeper e0.frames, .inr ⟨rfl, rfl⟩, fun b z => absurd z (noA b), fun b o e => ⟨(e0.bs b o e).1, untrs_none (e0.bs b o e).2⟩, e0.bsz, fun b _ _ => noA b, fun b z => absurd z (noA b), e0.funs, fun b hb => untrs_none (e0.frf b hb)⟩,
    rfl, e0.bare, Un.kept hk, ⟨_, hns, fun i y v g1 g2 g3 => ?_⟩, fun y c' h => ?_, untrs_none (e0.hok.fresh (Nat.le_refl _)), fun y c' h => untrs_in (hin y c' h), fun p hp => absurd (show p ∈ ([] : List (Addr × Obj)) from hp) (by simp), fun b u e => ?_, ?_⟩
  · have h1 : clos.lookup y = some c' := h1
    have h2 : clos.lookup z = some c' := h2
    have e1 := mem_of_look h1
    have e2 := mem_of_look h2
    have nd2 : ((clos.map fun p => (p.2, p.1)).map (·.1)).Nodup := by rw [List.map_map]; exact hnd
    have := fst_inj nd2 (c', y) (List.mem_map.mpr ⟨_, e1, rfl⟩) (c', z) (List.mem_map.mpr ⟨_, e2, rfl⟩) rfl
    exact congrArg Prod.snd this
  · have hy : d.scope.names.lookup y = some .cell ∨ d.scope.names.lookup y = some .free := hy
    rcases hy with hy | hy
    · exact absurd rfl (S.nocell _ (mem_of_look hy))
    · have := S.free _ (mem_of_look hy) rfl
      rw [← hfv] at this
      obtain ⟨p, hp, e⟩ := List.mem_map.mp this
      have e' : p.1 = y := e
      exact ⟨p.2, lookup_of_mem ndf (by show (y, p.2) ∈ clos; rw [← e']; exact hp)⟩
  · have g1 : (ps ++ fv)[i]? = some y := g1
    by_cases hi : i < ps.length
    · rw [List.getElem?_append_left hi] at g1
      rw [List.getElem?_map, List.getElem?_append_left (by omega)] at g2
      have g2' : vs[i]? = some v := by
        cases q : vs[i]? with
        | none => rw [q] at g2; cases g2
        | some x => rw [q] at g2; cases g2; rfl
      obtain ⟨u, hu, rv⟩ := r.get g2'
      refine ⟨u, rv, .inl ⟨S.par y (List.mem_of_getElem? g1), ?_⟩⟩
      have mem : (y, u) ∈ ps.zip us := List.mem_of_getElem? (i := i) (by rw [List.getElem?_zip_eq_some]; exact ⟨g1, hu⟩)
      refine lookup_of_mem ?_ (List.mem_reverse.mpr mem)
      rw [List.map_reverse]
      refine nodup_rev ?_
      have : (ps.zip us).map (·.1) = ps := by rw [List.map_fst_zip]; omega
      rw [this]
      exact ndp
    · rw [List.getElem?_append_right (by omega)] at g1
      rw [List.getElem?_map, List.getElem?_append_right (by omega)] at g2
      have g2' : vals[i - ps.length]? = some v := by
        rw [hl] at g2
        cases q : vals[i - ps.length]? with
        | none => rw [q] at g2; cases g2
        | some x => rw [q] at g2; cases g2; rfl
      obtain ⟨p, hp, e⟩ := ca.get g2'
      rw [← hfv, List.getElem?_map, hp] at g1
      cases g1
      obtain ⟨u, rv, ic⟩ := cellOf _ _ e
      have hmem := List.mem_of_getElem? hp
      refine ⟨u, rv, .inr ⟨.inr (S.fr p.1 ?_), p.2, lookup_of_mem ndf hmem, ic⟩⟩
      rw [← hfv]
      exact List.mem_map.mpr ⟨p, hmem, rfl⟩
  · obtain ⟨v, e⟩ := ca.at (hin y c' h)
    obtain ⟨u, _, ic⟩ := cellOf _ _ e
    exact ⟨_, ic⟩
  · by_cases hb : b ∈ clos.map (·.2)
    · rw [untrs_in hb] at e; cases e
    · rw [untrs_out hb] at e
      refine (e0.hok b u e).stay (fun b' u' _ q => hk b' u' q) (fun b' q => ?_) fun b' xs q => ?_
      · exact untrs_of ca q fun v z => nomatch z
      · exact untrs_of ca q fun v z => nomatch z
  · show ((vs ++ vals).map some).length = (ps ++ fv).length
    rw [List.length_map, List.length_append, List.length_append]
    omega
end L2

set_option Elab.async false
set_option linter.all false
set_option maxRecDepth 100000
set_option maxHeartbeats 4000000
namespace L2
open PySem PySem.Spec PyProof.Rows
section
variable {P : Program} {w : World} {K : PySem.W.Frag} {mg : Str → Option Value} {base : Heap}
/-- THE RULE for a lambda: its body as a term of rules, and the reading of that term -/
theorem lam_of {d : LamD} {fv ps : List Str} {k : Nat} {sp : List V → Sp} (S : LamScope d fv ps)
    (hbind : ∀ (pm ctv : Value) (clos : List (Str × Addr)) (c : Addr) (us : List Value), us.length = ps.length → bindArgs (PySem.W.kla_fn "<lambda>" d.qual d.params d.body d.scope clos pm (.ref c) ctv) ⟨us, []⟩ = pure (ps.zip us))
    (len : ∀ vals vs H Q E, sp vals vs H Q E → vs.length = ps.length)
    (hbody : ∀ (A : Around) (outer : List Env) (s : Shared) (H : Hp) (f c : Addr) (clos : List (Str × Addr)) (vals vs : List V) (Q : VK) (E : XK), Room k (A.deeper (lamEnv d s.heap.objs.size f c clos)) → clos.map (·.1) = fv → CellsAt H clos vals → sp vals vs H Q E →
      ∃ t, PE (cxL P w K mg base (ps ++ fv) d clos f c A outer s H) d.body t ∧ t ((vs ++ vals).map some) (untrs H (clos.map (·.2))) (fun v H' => ∀ H3, Same H' H3 → (∀ p ∈ clos, H3 p.2 = H p.2) → Q v H3)) :
    LamOk P w K mg base (k + 1) d fv ps sp := by
  intro A outer s H f c clos us vs vals Q E hr e0 hf hc hfv hnd ca r hsp
  have hl := len _ _ _ _ _ hsp
  have lus : us.length = ps.length := by rw [← r.length]; exact hl
  obtain ⟨⟨pm, ctv, ef⟩, _, _⟩ := e0.hok f _ hf
  obtain ⟨⟨oc, cvs, ct, ec, ed, ev⟩, _, _⟩ := e0.hok c _ hc
  have lim : s.heap.NoLimit := e0.mod.nolimit.keeps fun b o e => (e0.bs b o e).1
  obtain ⟨t, ht, hq⟩ := hbody A outer s H f c clos vals vs Q E (hr.deeper _) hfv ca hsp
  refine PySem.W.kla_callFunE (body := d.body) hr.depth ef rfl S.co S.gen rfl ⟨c, oc, cvs, ct, rfl, ec, ed, ev⟩ ?_
  rw [hbind pm ctv clos c us lus]
  refine wpAny_pure (wpAny_newFunctionEnv S.nocell (fun y hy => S.par y.1 (List.of_mem_zip hy).1) (fun h1 hns hsb => ?_) S.kind)
  have hk : ∀ b o, s.heap.get? b = some o → h1.get? b = some o := fun b o e => hsb.extBut b o (Nat.ne_of_lt (Heap.lt_size e)) (Heap.get?_push_of_some _ e)
  refine ⟨lim.fresh _ hsb, ?_⟩
  show codeAny _ _ (.expr d.body (lamEnv d s.heap.objs.size f c clos)) _ _
  have I := inv_startL (f := f) (c := c) (tk := s.toks + (ps.zip us).length) S hr.hd e0 hl r hfv hnd ca hns hk
  refine PySem.W.kla_codeExpr (wpAny_mono (ht [] _ _ _ _ I hq) (fun u s' hs => ?_) fun e s' z => False.elim z)
  obtain ⟨v, H', J, rv, q⟩ := hs
  obtain ⟨cs, hcs⟩ : ∃ cs, cs = clos.map (·.2) := ⟨_, rfl⟩
  have ub : Un (frs outer) [] (untrs H (clos.map (·.2))) H' s.heap s'.heap := J.base
  have hat : ∀ b, b ∈ clos.map (·.2) → ∃ o v, s.heap.get? b = some o ∧ H b = some (.ext (CellX b v)) := fun b hb => by
    obtain ⟨v, e⟩ := ca.at hb
    obtain ⟨⟨o, _, g, _⟩, _⟩ := e0.hok b _ e
    exact ⟨o, v, g, e⟩
  have hfr : ∀ b ∈ clos.map (·.2), H' b = none := fun b hb => by
    obtain ⟨o, v, g, _⟩ := hat b hb
    exact ub.free b o g (untrs_in hb) (by simp)
  let H3 : Hp := fun b => if b ∈ clos.map (·.2) then H b else H' b
  have g1 : ∀ b, b ∈ clos.map (·.2) → H3 b = H b := fun b hb => if_pos hb
  have g2 : ∀ b, b ∉ clos.map (·.2) → H3 b = H' b := fun b hb => if_neg hb
  have sm : Same H' H3 := fun b o e => by
    rw [g2 b fun z => by rw [hfr b z] at e; cases e]
    exact e
  have up : ∀ b o, H b = some o → (∀ v, o ≠ .ext (CellX b v)) → b ∉ clos.map (·.2) := fun b o e n z => by
    obtain ⟨v, e'⟩ := ca.at z
    rw [e] at e'
    exact n v (Option.some.inj e')
  refine ⟨v, H3, J.os, J.bare, ⟨fun b o e n hb hx => ub.keep b o e (untrs_none n) hb hx, fun b o e n hb hx => ub.slot b o e (untrs_none n) hb hx, fun b o e n hx => ?_, ub.there, fun b xs e => ?_, fun b o u e => ?_, fun b ps' e => ?_⟩, fun b o e => ?_, rv, q H3 sm fun p hp => g1 p.2 (List.mem_map.mpr ⟨p, hp, rfl⟩)⟩
  · rw [g2 b fun z => by obtain ⟨_, v, _, e'⟩ := hat b z; rw [n] at e'; cases e']
    exact ub.free b o e (untrs_none n) hx
  · exact sm _ _ (ub.tups b xs (untrs_of ca e fun v z => nomatch z))
  · exact sm _ _ (ub.frzs b o u (untrs_of ca e fun v z => nomatch z))
  · obtain ⟨more, z⟩ := ub.tbls b ps' (untrs_of ca e fun v z => nomatch z)
    exact ⟨more, sm _ _ z⟩
  · by_cases hb : b ∈ clos.map (·.2)
    · rw [g1 b hb] at e
      obtain ⟨o', v', g, e'⟩ := hat b hb
      rw [e] at e'
      cases e'
      obtain ⟨⟨o2, u2, k1, k2, k3⟩, _⟩ := e0.hok b _ e
      refine cellX_ok ⟨o2, u2, ub.keep b o2 k1 (untrs_in hb) (fun z => ?_) (by simp), k2, k3⟩
      rw [e0.frf b z] at e
      cases e
    · rw [g2 b hb] at e
      refine (J.hok b o e).stay (fun b' u' _ q => q) (fun b' q => sm _ _ q) fun b' xs q => sm _ _ q
end
/-- two readings of one expression -/
theorem PE.or {X : Cx} {e : Expr} {t t' : TE} (h : PE X e t) (h' : PE X e t') : PE X e (fun σ H Q => t σ H Q ∨ t' σ H Q) := fun pins s σ H Q I q => q.elim (h pins s σ H Q I) (h' pins s σ H Q I)
/-- what a call of a function value asks: it is the lambda d -/
noncomputable def rLam (d : LamD) (fv : List Str) (sp : List V → Sp) : V → List V → Hp → VK → Prop := fun v vs H Q => ∃ f c clos vals, v = .ref f ∧ H f = some (.ext (LamX f d clos c)) ∧ H c = some (.ext (CodeX c d.qual)) ∧ clos.map (·.1) = fv ∧ (clos.map (·.2)).Nodup ∧ CellsAt H clos vals ∧ sp vals vs H Q fun _ _ _ => False
noncomputable def tCallL (d : LamD) (fv : List Str) (sp : List V → Sp) (tf : TE) (t : TA) : TE := fun σ H Q => tf σ H fun v H1 => (∃ f d' clos c, v = .ref f ∧ H1 f = some (.ext (LamX f d' clos c))) ∧ t σ H1 fun vs H2 => (∀ f d' clos c, v = .ref f → H1 f = some (.ext (LamX f d' clos c)) → H2 f = some (.ext (LamX f d' clos c))) ∧ rLam d fv sp v vs H2 Q
section
variable {X : Cx} {d : LamD} {fv ps : List Str} {k : Nat} {sp : List V → Sp} {x : Str} {p pos : Pos} {tf : TE} {t : TA} {e : Expr} {es : List Expr}
theorem run_lam {pins : List (Addr × Obj)} {σ : St} {H : Hp} {s : Shared} {Q : VK} {us : List Value} {vs : List V} {v : V} {u : Value} (L : LamOk X.prog X.w X.K X.mg X.base k d fv ps sp) (hr : Room k X.A) (I : Inv X pins σ H s) (rv : RelV v u) (r : Vals vs us) (h : rLam d fv sp v vs H Q) :
    wpAny (model X.prog X.w) X.A (call u us) (EP X pins σ Q) X.xe s := by
  obtain ⟨f, c, clos, vals, rfl, hf, hc, h1, h2, h3, h4⟩ := h
  obtain rfl : u = Value.ref f := rv
  refine wpAny_call (codeAny_mono (L X.A X.stack s H f c clos us vs vals Q _ hr I.env0 hf hc h1 h2 h3 r h4) fun r s' hq => ?_)
  cases r with
  | error e => exact False.elim hq
  | ok fl =>
    cases fl with
    | ret u => exact I.after hq
    | next => exact False.elim hq
    | brk => exact False.elim hq
    | cont => exact False.elim hq
theorem fnAt_of {H : Hp} {s : Shared} {P : Program} {w : World} {f c : Addr} {d : LamD} {clos : List (Str × Addr)} (ok : HOk P w H s.heap) (hf : H f = some (.ext (LamX f d clos c))) : PySem.W.FnAt f s.heap := by
  obtain ⟨⟨pm, ctv, ef⟩, _, _⟩ := ok f _ hf
  exact ⟨_, _, _, _, ef⟩
theorem pe_callL (hn : PE X (.Name x p) tf) (L : LamOk X.prog X.w X.K X.mg X.base k d fv ps sp) (hr : Room k X.A) (ha : PA X (e :: es) t)
    (he : starEach (e :: es) X.env = (false, eval e X.env) :: starEach es X.env := by rfl) (hpl : (backTo pos (starEach es X.env)).any (·.1) = false := by rfl) : PE X (.Call (.Name x p) (e :: es) [] pos) (tCallL d fv sp tf t) := by
  intro pins s σ H Q I h
  refine wpAny_Call_Name_kw (thn (hn pins s σ H _ I h) fun u s1 ⟨v, H1, I1, rv, ⟨f, d', clos, c, ef, hf⟩, q⟩ => ?_)
  subst ef
  obtain rfl : u = Value.ref f := rv
  refine PySem.W.callWith_F (fnAt_of I1.hok hf) (thn (ha pos pins s1 σ H1 _ I1 q) fun us s2 ⟨vs, H2, I2, r, q2⟩ => ⟨fnAt_of I2.hok (q2.1 _ _ _ _ rfl hf), ?_⟩) he hpl
  exact run_lam L hr I2 (v := .ref f) rfl r q2.2
theorem pe_callL0 (hn : PE X (.Name x p) tf) (L : LamOk X.prog X.w X.K X.mg X.base k d fv ps sp) (hr : Room k X.A) : PE X (.Call (.Name x p) [] [] pos) (fun σ H Q => tf σ H fun v H1 => rLam d fv sp v [] H1 Q) := by
  intro pins s σ H Q I h
  refine wpAny_Call_Name_kw (thn (hn pins s σ H _ I h) fun u s1 ⟨v, H1, I1, rv, q⟩ => ?_)
  obtain ⟨f, c, clos, vals, ef, hf, _⟩ := id q
  subst ef
  obtain rfl : u = Value.ref f := rv
  exact PySem.W.callWith_F0 (fnAt_of I1.hok hf) (run_lam (us := []) L hr I1 (v := .ref f) rfl .nil q)
end
end L2

set_option Elab.async false
set_option linter.all false
set_option maxRecDepth 100000
set_option maxHeartbeats 4000000
namespace L2
open PySem PySem.Spec PyProof.Rows
/-! ### a def whose last statement tells a value, and whose cells live on -/
noncomputable abbrev TR := VK → (V → St → Hp → Prop) → St → Hp → Prop
noncomputable def PR (X : Cx) (sts : List Stmt) (t : TR) : Prop :=
  ∀ (pins : List (Addr × Obj)) (s : Shared) (σ : St) (H : Hp) (R : VK) (Z : V → St → Hp → Prop), Inv X pins σ H s → t R Z σ H →
    wpAny (model X.prog X.w) X.A (execs sts X.env) (fun f s' => ∃ u, f = .ret u ∧ ((∃ v σ' H', Inv X pins σ' H' s' ∧ RelV v u ∧ (R v H' ∨ Z v σ' H')) ∨ ∃ v H', s'.os = X.s₀.os ∧ AllBare s'.gens ∧ Un X.fs X.ex X.H₀ H' X.s₀.heap s'.heap ∧ HOk X.prog X.w H' s'.heap ∧ RelV v u ∧ R v H')) X.xe s
section
variable {X : Cx} {e : Expr} {te : TE} {pos : Pos} {st : Stmt} {rest : List Stmt} {t : TS} {u : TR}
theorem pr_ret (he : PE X e te) : PR X [.Return (some e) pos] (fun _ Z σ H => te σ H fun v H' => Z v σ H') := by
  intro pins s σ H R Z I h
  refine wpAny_execs_cons (wpAny_Return_some (thn (he pins s σ H _ I h) fun v s1 ⟨x, H1, I1, r1, q1⟩ => ?_))
  exact ⟨v, rfl, .inl ⟨x, σ, H1, I1, r1, .inr q1⟩⟩
theorem pr_cons (h1 : PS X st t) (h2 : PR X rest u) : PR X (st :: rest) (fun R Z σ H => t { nx := u R Z, rt := R } σ H) := by
  intro pins s σ H R Z I h
  refine wpAny_execs_cons (thn (h1 pins s σ H { nx := u R Z, rt := R } I h) fun f s1 q => ?_)
  cases f with
  | next =>
    obtain ⟨σ', H', I', q⟩ := q
    exact h2 pins s1 σ' H' R Z I' q
  | ret v =>
    obtain ⟨v', σ', H', I', r, q⟩ := q
    exact ⟨v, rfl, .inl ⟨v', σ', H', I', r, .inl q⟩⟩
  | brk => obtain ⟨_, _, _, q⟩ := q; exact False.elim q
  | cont => obtain ⟨_, _, _, q⟩ := q; exact False.elim q
end
/-- the cells of the names whose values are known -/
noncomputable def CellsOf (cells : List (Str × Addr)) (N : List Str) (σ : St) (H3 : Hp) : Prop := ∀ (i : Nat) (y : Str) (v : V) (c : Addr), N[i]? = some y → σ[i]? = some (some v) → cells.lookup y = some c → H3 c = some (.ext (CellX c v))
theorem cells_mem {y : Str} {c : Addr} : ∀ (names : List (Str × NameKind)) (n : Nat) (acc : List (Str × Addr)), (y, c) ∈ cellsFrom n names acc → (y, c) ∈ acc ∨ (y, NameKind.cell) ∈ names
  | [], n, acc, h => .inl h
  | (x, k) :: r, n, acc, h => by
    unfold cellsFrom at h
    split at h
    · rename_i hk
      rcases cells_mem r (n + 1) ((x, n) :: acc) h with z | z
      · rcases List.mem_cons.mp z with e | z
        · cases e
          rw [eq_of_beq hk]
          exact .inr (List.mem_cons_self ..)
        · exact .inl z
      · exact .inr (List.mem_cons_of_mem _ z)
    · rcases cells_mem r n acc h with z | z
      · exact .inl z
      · exact .inr (List.mem_cons_of_mem _ z)
section
variable {P : Program} {w : World} {K : PySem.W.Frag} {mg : Str → Option Value} {base : Heap}
theorem track {CX : CXT} {N : List Str} {qual : Str} {scope : Scope} {f : Addr} {cd : Value} {A : Around} {outer : List Env} {s s' : Shared} {H H' : Hp} {E : XK} {σ : St} (hN : N.Nodup) (hck : ∀ p ∈ scope.names, p.2 = .cell → scope.names.lookup p.1 = some .cell)
    {pins : List (Addr × Obj)} (J : Inv (cxOf CX P w K mg base N qual scope f cd A outer s H E) pins σ H' s') :
    ∃ H3, Same H' H3 ∧ CellsOf (cellsFrom (s.heap.objs.size + 1) scope.names []) N σ H3 ∧ (∀ b, H' b = none → H3 b ≠ none → ∃ y, (cellsFrom (s.heap.objs.size + 1) scope.names []).lookup y = some b) ∧ Un (frs outer) [] H H3 s.heap s'.heap ∧ HOk P w H3 s'.heap := by
  have hvis : ∀ y c, (cellsFrom (s.heap.objs.size + 1) scope.names []).lookup y = some c → scope.names.lookup y = some .cell := fun y c e => by
    rcases cells_mem _ _ _ (mem_of_look e) with z | z
    · cases z
    · exact hck _ z rfl
  obtain ⟨cells, hcells⟩ : ∃ l, l = cellsFrom (s.heap.objs.size + 1) scope.names [] := ⟨_, rfl⟩
  rw [← hcells] at hvis ⊢
  have henv : (cxOf CX P w K mg base N qual scope f cd A outer s H E).env.cells = cells := hcells.symm
  let G : Addr → V → Prop := fun b v => ∃ (i : Nat) (y : Str), N[i]? = some y ∧ σ[i]? = some (some v) ∧ cells.lookup y = some b
  have G1 : ∀ b v v', G b v → G b v' → v = v' := by
    rintro b v v' ⟨i, y, a1, a2, a3⟩ ⟨j, z, b1, b2, b3⟩
    have : y = z := J.ok.inj y z b (by rw [henv]; exact a3) (by rw [henv]; exact b3)
    subst this
    have : i = j := nodup_ix hN a1 b1
    subst this
    rw [a2] at b2
    cases b2
    rfl
  have G2 : ∀ b v, G b v → H' b = none ∧ s.heap.objs.size ≤ b ∧ CellX b v s'.heap := by
    rintro b v ⟨i, y, a1, a2, a3⟩
    refine ⟨J.freeC y b (by rw [henv]; exact a3), J.ok.cab y b rfl (by rw [henv]; exact a3), ?_⟩
    obtain ⟨m, hn, hl⟩ := J.loc
    obtain ⟨u, r, l⟩ := hl i y v a1 a2 (.inr (.inl (hvis y b a3)))
    rcases l with ⟨k, _⟩ | ⟨k, c, e, o, ho, hd⟩
    · exfalso
      have k : scope.names.lookup y = some .local := k
      rw [hvis y b a3] at k
      cases k
    · have e : cells.lookup y = some c := by rw [← henv]; exact e
      rw [a3] at e
      cases e
      exact ⟨o, u, ho, hd, r⟩
  classical
  let H3 : Hp := fun b => if h : ∃ v, G b v then some (.ext (CellX b (Classical.choose h))) else H' b
  have g1 : ∀ b v, G b v → H3 b = some (.ext (CellX b v)) := fun b v h => by
    have hx : ∃ v, G b v := ⟨v, h⟩
    show (if h : ∃ v, G b v then some (.ext (CellX b (Classical.choose h))) else H' b) = _
    rw [dif_pos hx, G1 b _ v (Classical.choose_spec hx) h]
  have g2 : ∀ b, (¬ ∃ v, G b v) → H3 b = H' b := fun b h => dif_neg h
  have sm : Same H' H3 := fun b o e => by
    rw [g2 b fun ⟨v, z⟩ => by rw [(G2 b v z).1] at e; cases e]
    exact e
  have jb : Un (frs outer) [] H H' s.heap s'.heap := J.base
  refine ⟨H3, sm, fun i y v c a1 a2 a3 => g1 c v ⟨i, y, a1, a2, a3⟩, (fun b n1 n2 => ?_), ⟨jb.keep, jb.slot, fun b o e n hx => ?_, jb.there, fun b xs e => sm _ _ (jb.tups b xs e), fun b o u e => sm _ _ (jb.frzs b o u e), fun b ps e => ?_⟩, fun b o e => ?_⟩
  · by_cases h : ∃ v, G b v
    · obtain ⟨v, i, y, _, _, a3⟩ := h
      exact ⟨y, a3⟩
    · rw [g2 b h] at n2
      exact absurd n1 n2
  · rw [g2 b fun ⟨v, z⟩ => absurd (Nat.lt_of_lt_of_le (Heap.lt_size e) (G2 b v z).2.1) (Nat.lt_irrefl _)]
    exact jb.free b o e n hx
  · obtain ⟨more, z⟩ := jb.tbls b ps e
    exact ⟨more, sm _ _ z⟩
  · by_cases h : ∃ v, G b v
    · obtain ⟨v, h⟩ := h
      rw [g1 b v h] at e
      cases e
      exact cellX_ok (G2 b v h).2.2
    · rw [g2 b h] at e
      exact (J.hok b o e).stay (fun b' u' _ q => q) (fun b' q => sm _ _ q) fun b' xs q => sm _ _ q
/-- return f(e, ..), f a def; the cells are handed over for the call -/
theorem pr_retC {N : List Str} {qual : Str} {scope : Scope} {f : Addr} {cd : Value} {A : Around} {outer : List Env} {s : Shared} {H : Hp} {E : XK} {k : Nat} {g : Addr} {fd : FuncData} {ps : List Str} {sp : Sp} {ds : List Value} {dvs : List V} {x : Str} {p pos rp : Pos} {e : Expr} {es : List Expr} {t : TA}
    (hN : N.Nodup) (hck : ∀ p ∈ scope.names, p.2 = .cell → scope.names.lookup p.1 = some .cell)
    (F : FnOk P w K mg base CX0 k g fd ps sp) (hr : Room k (cxOf CX0 P w K mg base N qual scope f cd A outer s H E).nox.A) (hg : Gl (cxOf CX0 P w K mg base N qual scope f cd A outer s H E).nox x) (hm : mg x = some (.ref g)) (hk : PySem.W.keepIn K (.ref g) = true) (hb : Binds K fd ps ds) (hd : Vals dvs ds)
    (ha : PA (cxOf CX0 P w K mg base N qual scope f cd A outer s H E).nox (e :: es) t) (hdb : (x == ("__debug__" : Str)) = false := by decide)
    (he : starEach (e :: es) (cxOf CX0 P w K mg base N qual scope f cd A outer s H E).nox.env = (false, eval e (cxOf CX0 P w K mg base N qual scope f cd A outer s H E).nox.env) :: starEach es (cxOf CX0 P w K mg base N qual scope f cd A outer s H E).nox.env := by rfl)
    (hpl : (backTo pos (starEach es (cxOf CX0 P w K mg base N qual scope f cd A outer s H E).nox.env)).any (·.1) = false := by rfl) :
    PR (cxOf CX0 P w K mg base N qual scope f cd A outer s H E).nox [.Return (some (.Call (.Name x p) (e :: es) [] pos)) rp]
      (fun R _ σ H' => t σ H' fun vs H1 => ∀ H3, Same H1 H3 → CellsOf (cellsFrom (s.heap.objs.size + 1) scope.names []) N σ H3 → sp (vs ++ dvs) H3 R fun _ _ _ => False) := by
  intro pins s1 σ H1 R Z I h
  refine wpAny_execs_cons (wpAny_Return_some ?_)
  refine wpAny_Call_Name_kw (ld_glob I hg hm ?_ hdb)
  refine PySem.W.callWith_K (h₀ := base) I.ok.mod.kin hk (thn (ha pos pins s1 σ H1 _ I h) fun us s2 ⟨vs, H2, I2, r, q⟩ => ⟨I2.kIn, ?_⟩) he hpl
  have J : Inv (cxOf CX0 P w K mg base N qual scope f cd A outer s H E) pins σ H2 s2 := I2.unwish
  obtain ⟨H3, sm, hc, hnew, un, hok⟩ := track hN hck J
  have r2 : Vals (vs ++ dvs) (us ++ ds) := r.append hd
  have q' := q H3 sm hc
  have hl : (us ++ ds).length = ps.length := by rw [← r2.length]; exact F.len _ _ _ _ q'
  have hL : ∀ b ∈ frs (envOfC qual scope s.heap.objs.size f cd :: outer), b = s.heap.objs.size ∨ b ∈ frs outer := fun b hb => by
    have : b ∈ s.heap.objs.size :: frs outer := hb
    exact List.mem_cons.mp this
  have e0 : Env0 P w K mg base (cxOf CX0 P w K mg base N qual scope f cd A outer s H E).A (envOfC qual scope s.heap.objs.size f cd :: outer) s2 H3 := by
    have z := J.env0
    refine ⟨z.frames, z.mod, fun b o e => ⟨(z.bs b o e).1, un.free b o (J.ok.bs b o e).1 (J.ok.bs b o e).2 (by simp)⟩, z.bsz, z.funs, fun b hb => ?_, hok, z.bare⟩
    cases q3 : H3 b with
    | none => rfl
    | some o =>
      obtain ⟨y, hy⟩ := hnew b (z.frf b hb) (by rw [q3]; simp)
      rcases hL b hb with rfl | hb'
      · exact absurd rfl (J.cne y _ hy)
      · obtain ⟨_, o', ho', _⟩ := J.ok.funs.mem hb'
        have := J.ok.cab y b rfl hy
        exact absurd (Nat.lt_of_lt_of_le (Heap.lt_size ho') this) (Nat.lt_irrefl _)
  refine wpAny_call (codeAny_mono (F.run _ _ s2 H3 ⟨us, []⟩ (us ++ ds) (vs ++ dvs) R _ hr e0 (hb s2 us J.kIn hl) r2 q') fun rr s' hq => ?_)
  cases rr with
  | error e => exact False.elim hq
  | ok fl =>
    cases fl with
    | ret u =>
      obtain ⟨v, H4, os, bare, un2, hok4, rv, qq⟩ := hq
      have hout : ∀ b o, s.heap.get? b = some o → b ∉ frs outer → b ∉ frs (envOfC qual scope s.heap.objs.size f cd :: outer) := fun b o e n z => by
        rcases hL b z with rfl | z
        · exact absurd (Heap.lt_size e) (Nat.lt_irrefl _)
        · exact n z
      have hin : ∀ b, b ∈ frs outer → b ∈ frs (envOfC qual scope s.heap.objs.size f cd :: outer) := fun b z => by
        show b ∈ s.heap.objs.size :: frs outer
        exact List.mem_cons_of_mem _ z
      refine ⟨u, rfl, .inr ⟨v, H4, os.trans J.os, bare, ⟨fun b o e n hb hx => un2.keep b o (un.keep b o e n hb hx) (un.free b o e n hx) (hout b o e hb) hx, fun b o e n hb hx => ?_, fun b o e n hx => ?_, fun b o e hx => ?_, fun b xs e => un2.tups b xs (un.tups b xs e), fun b o u e => un2.frzs b o u (un.frzs b o u e), fun b qs e => ?_⟩, hok4, rv, qq⟩⟩
      · obtain ⟨sl, e1⟩ := un.slot b o e n hb hx
        obtain ⟨sl', e2⟩ := un2.slot b _ e1 (un.free b o e n hx) (hin b hb) hx
        exact ⟨sl', e2⟩
      · obtain ⟨o', e1⟩ := un.there b o e hx
        exact un2.free b o' e1 (un.free b o e n hx) hx
      · obtain ⟨o', e1⟩ := un.there b o e hx
        exact un2.there b o' e1 hx
      · obtain ⟨m1, e1⟩ := un.tbls b qs e
        obtain ⟨m2, e2⟩ := un2.tbls b _ e1
        exact ⟨m1 ++ m2, by rw [e2, Array.append_assoc]⟩
    | next => exact False.elim hq
    | brk => exact False.elim hq
    | cont => exact False.elim hq
/-- THE RULE for a def that makes lambdas: c its code, in which the table P stands -/
theorem Fun.okL {x qual : Str} {st : Stmt} {f c : Addr} {fd : FuncData} {N ps : List Str} {k : Nat} {sp : Sp} (F : Fun K x qual st f fd) (hc : fd.code = .ref c) (S : FnScope N ps (defScope st)) (hck : ∀ p ∈ (defScope st).names, p.2 = .cell → (defScope st).names.lookup p.1 = some .cell)
    (len : ∀ vs H Q E, sp vs H Q E → vs.length = ps.length)
    (hbody : ∀ (A : Around) (outer : List Env) (s : Shared) (H : Hp) (vs : List V) (Q : VK) (E : XK), Room k (A.deeper (envOfC qual (defScope st) s.heap.objs.size f (.ref c))) → sp vs H Q E →
      ∃ t, PR (cxOf CX0 P w K mg base N qual (defScope st) f (.ref c) A outer s H E).nox (defBody st) t ∧ t Q (fun v σ H' => ∀ H3, Same H' H3 → CellsOf (cellsFrom (s.heap.objs.size + 1) (defScope st).names []) N σ H3 → Q v H3) (start N vs) H) : FnOk P w K mg base CX0 (k + 1) f fd ps sp := by
  obtain ⟨oc, od, kV, doc, pm, an, cdv, ct, osl, rfl, lk, hcd⟩ := F.ex
  obtain rfl : cdv = .ref c := hc
  refine ⟨len, fun A outer s H args us vs Q E hr e0 hb r hsp => ?_⟩
  have hl := len _ _ _ _ hsp
  have KX : K.In s.heap := e0.mod.kin.keeps fun b o e => (e0.bs b o e).1
  have lim : s.heap.NoLimit := e0.mod.nolimit.keeps fun b o e => (e0.bs b o e).1
  have hkind : ∀ y ∈ ps.zip us, (defScope st).names.lookup y.1 = some .local ∨ ((defScope st).names.lookup y.1 = some .cell ∧ ((cellsFrom (s.heap.objs.size + 1) (defScope st).names []).lookup y.1).isSome = true) := fun ⟨n, v⟩ hy => by
    rcases S.par n (List.of_mem_zip hy).1 with q | q
    · exact .inl q
    · exact .inr ⟨q, PySem.W.cellsFrom_some _ _ _ (.inl q)⟩
  refine codeAny_call_function hr.depth (KX _ _ lk) rfl S.co S.gen rfl (PySem.W.codeRec_of KX hcd) (hb _ _ _ _ ?_)
  refine wpAny_newFunctionEnv_cells S.kind hkind fun env he s1 x => ?_
  subst he
  refine ⟨lim.keeps x.toInCall.keep, codeAny_func ?_⟩
  obtain ⟨t, ht, hq⟩ := hbody A outer s H vs Q E (hr.deeper _) hsp
  have I : Inv (cxOf CX0 P w K mg base N qual (defScope st) f (.ref c) A outer s H E) [] (start N vs) H s1 := inv_start S hr.hd e0 hl r x
  refine wpAny_mono (ht [] s1 (start N vs) H Q _ (I.wish _) hq) (fun fl s' hs => ?_) fun e s' hs => False.elim hs
  obtain ⟨u, rfl, ⟨v, σ', H', J, rv, q⟩ | ⟨v, H', g1, g2, g3, g4, rv, q⟩⟩ := hs
  · have J := J.unwish
    rcases q with q | q
    · exact ⟨v, H', J.os, J.bare, J.base, J.hok, rv, q⟩
    · obtain ⟨H3, h1, h2, _, h3, h4⟩ := track S.nd hck J
      exact ⟨v, H3, J.os, J.bare, h3, h4, rv, q H3 h1 h2⟩
  · exact ⟨v, H', g1, g2, g3, g4, rv, q⟩
end
end L2

set_option Elab.async false
set_option linter.all false
set_option maxRecDepth 100000
set_option maxHeartbeats 4000000
namespace L2
open PySem PySem.Spec PyProof.Rows
/-- THE HEAD of a law that comes to lambdas: the tables at ts are empty and tracked -/
theorem law_callT {P : Program} {w : World} {K : PySem.W.Frag} {mg mb : Str → Option Value} {CX : CXT} {k : Nat} {fa a : Addr} {fd : FuncData} {x : Str} {sp : Sp} {s₁ : Shared} {vs : List Value} {ns : List Int} {ts : List Addr}
    (KX : K.In s₁.heap) (hns : s₁.heap.Ns mainGlobals mg) (hb : s₁.heap.Ns builtinsNs mb) (hbb : ∀ x : Str, x ≠ "__name__" → mb x = bootBuiltins x) (hlim : s₁.heap.NoLimit) (hg : s₁.gens = #[])
    (ha : s₁.heap.get? a = some { cls := .type "list", data := .seq vs.toArray }) (hi : IntsAre vs ns) (hl : ns.length ≤ sizeLine) (hr : Room k callerA) (hbm : Bm mg s₁.heap)
    (htab : ∀ P ∈ ts, s₁.heap.get? P = some (PySem.W.tabObj #[])) (htc : ∀ P ∈ ts, ∃ c, PySem.W.codeHdIn K c P = true) (htK : ∀ P ∈ ts, K.lookup P = none)
    (F : ∀ base : Heap, K.In base → base.Ns mainGlobals mg → Bm mg base → FnOk P w K mg base CX k fa fd [x] sp) (hbind : ∀ (s : Shared) (u : Value), BindsTo s fd ⟨[u], []⟩ [(x, u)])
    (hsp : ∀ H : Hp, (∀ P ∈ ts, H P = some (.tbl #[])) → SqL K H a (ns.map V.int) → sp [.ref a] H (fun v _ => v = .bl true) fun _ _ _ => False)
    (hCX : ∀ H e s', CX [] H s₁ (fun _ _ _ => False) e s' → False) :
    codeAny (model P w) callerA (.call (.ref fa) ⟨[.ref a], []⟩) (fun r s' => r = .ok (.ret (.bool true)) ∧ OldK s₁.heap s'.heap ∧ s'.os = s₁.os ∧ AllBare s'.gens) s₁ := by
  have rv := vals_ints hi
  have lenV := hi.length
  have nat : a ∉ ts := fun z => by have := htab a z; rw [ha] at this; cases this
  have core : ∀ H : Hp, (∀ P ∈ ts, H P = some (.tbl #[])) → SqL K H a (ns.map V.int) → HOk P w H s₁.heap → (∀ b u, H b = some u → (b = a ∧ ∃ o xs, u = .frz o (.lst xs)) ∨ (b ∈ ts ∧ u = .tbl #[])) → (H a ≠ none → K.lookup a = none) →
      codeAny (model P w) callerA (.call (.ref fa) ⟨[.ref a], []⟩) (fun r s' => r = .ok (.ret (.bool true)) ∧ OldK s₁.heap s'.heap ∧ s'.os = s₁.os ∧ AllBare s'.gens) s₁ := by
    intro H hT hS hok hA hK
    have base_of : ∀ {b : Addr} {o : Obj}, s₁.heap.get? b = some o → H b = none → (hidT s₁.heap H).get? b = some o := fun e n => hidT_get e n
    have noA : ∀ {b : Addr} {o : Obj}, s₁.heap.get? b = some o → o.cls ≠ .none → (∀ its n, o.data ≠ .seq its n) → H b = none := fun {b o} e d1 d2 => by
      cases q : H b with
      | none => rfl
      | some u =>
        rcases hA b u q with ⟨rfl, _⟩ | ⟨hb, _⟩
        · rw [ha] at e; cases e; exact (d2 _ _ rfl).elim
        · rw [htab b hb] at e; cases e; exact (d1 rfl).elim
    have noD : ∀ {b : Addr} {o : Obj} {es : Array DictEntry} {ep : Nat}, s₁.heap.get? b = some o → o.data = .dict es ep → H b = none := fun {b o es ep} e d => by
      cases q : H b with
      | none => rfl
      | some u =>
        rcases hA b u q with ⟨rfl, _⟩ | ⟨hb, _⟩
        · rw [ha] at e; cases e
          have d' : Data.seq vs.toArray _ = Data.dict es ep := d
          cases d'
        · rw [htab b hb] at e; cases e; cases d
    have nsK : ∀ {b : Addr} {m : Str → Option Value}, s₁.heap.Ns b m → (hidT s₁.heap H).Ns b m := fun {b m} ⟨o, es, ep, e, d, r⟩ => ⟨o, es, ep, base_of e (noD e d), d, r⟩
    have hKb : K.In (hidT s₁.heap H) := fun b o e => base_of (KX b o e) (by
      cases q : H b with
      | none => rfl
      | some u =>
        rcases hA b u q with ⟨rfl, _⟩ | ⟨hb, _⟩
        · rw [hK (by rw [q]; simp)] at e; cases e
        · rw [htK b hb] at e; cases e)
    have hM : Mod K mg (hidT s₁.heap H) := ⟨hKb, nsK hns, ⟨mb, nsK hb, hbb⟩, let ⟨mc, h1, h2⟩ := hlim; ⟨mc, nsK h1, h2⟩⟩
    have hB : Bm mg (hidT s₁.heap H) := by
      obtain ⟨bm, ob, b1, b2, b3, b4, b5⟩ := hbm
      exact ⟨bm, ob, b1, base_of b2 (noA b2 (by rw [b3]; simp) (fun its n => by rw [b5]; intro z; cases z)), b3, b4, b5⟩
    have e0 : Env0 P w K mg (hidT s₁.heap H) callerA [] s₁ H := ⟨rfl, hM, fun b o e => of_hidT e, Nat.le_of_eq (hidT_size _ _), trivial, fun b hb => absurd (show b ∈ ([] : List Addr) from hb) (by simp), hok, .of_eq hg⟩
    refine codeAny_mono ((F _ hKb (nsK hns) hB).run callerA [] s₁ H ⟨[.ref a], []⟩ [.ref a] [.ref a] _ _ hr e0 (hbind s₁ (.ref a)) (.cons rfl .nil) (hsp H hT hS)) fun r s' h => ?_
    cases r with
    | error e => exact (hCX H e s' h).elim
    | ok fl =>
      cases fl with
      | next => exact False.elim h
      | brk => exact False.elim h
      | cont => exact False.elim h
      | ret u =>
        obtain ⟨v, H', os, bare, un, hok', r', q⟩ := h
        have q' : v = .bl true := q
        subst q'
        obtain rfl : u = Value.bool true := r'
        refine ⟨rfl, ⟨fun b o e => ?_, fun b o e => un.there b o e (by simp)⟩, os, bare⟩
        cases q : H b with
        | none => exact .inl (un.keep b o e q (by intro z; exact absurd (show b ∈ ([] : List Addr) from z) (by simp)) (by simp))
        | some u =>
          rcases hA b u q with ⟨_, ob, xs, rfl⟩ | ⟨hb, rfl⟩
          · have z2 := un.frzs b ob _ q
            obtain ⟨e1, _⟩ := hok b _ q
            obtain ⟨e2, _⟩ := hok' b _ z2
            rw [e] at e1; cases e1
            exact .inl e2
          · obtain ⟨c, hc⟩ := htc b hb
            have C := PySem.W.codeHd_of_K KX hc
            obtain ⟨more, z⟩ := un.tbls b _ q
            have z2 : s'.heap.get? b = some (PySem.W.tabObj (#[] ++ more)) := hok' b _ z
            rw [htab b hb] at e
            cases e
            exact .inr (.inl ⟨(C.tab (htab b hb)).isCodeTable, rfl, #[], more, rfl, z2⟩)
  let T : Hp := fun b => if b ∈ ts then some (.tbl #[]) else none
  cases hk : K.lookup a with
  | some o =>
    have e := KX a o hk
    rw [ha] at e
    cases e
    refine core T (fun P hP => if_pos hP) (.inr ⟨_, vs.toArray, _, hk, rfl, rfl, rfl, by rw [List.size_toArray, lenV]; exact hl, by simpa using rv⟩) (fun b u z => ?_) (fun b u z => ?_) fun z => absurd (if_neg nat) z
    · by_cases hb : b ∈ ts
      · have z' := (if_pos hb).symm.trans z
        cases z'
        exact htab b hb
      · have z' := (if_neg hb).symm.trans z
        cases z'
    · by_cases hb : b ∈ ts
      · have z' := (if_pos hb).symm.trans z
        cases z'
        exact .inr ⟨hb, rfl⟩
      · have z' := (if_neg hb).symm.trans z
        cases z'
  | none =>
    refine core (fun b => if b = a then some (.frz { cls := .type "list", data := .seq vs.toArray } (.lst (ns.map V.int))) else T b) (fun P hP => ?_) (.inl (.inr ⟨{ cls := .type "list", data := .seq vs.toArray }, if_pos rfl⟩)) (fun b u z => ?_) (fun b u z => ?_) fun _ => hk
    · have hne : P ≠ a := fun z => nat (by rw [← z]; exact hP)
      exact (if_neg hne).trans (if_pos hP)
    · by_cases hb : b = a
      · have z' := (if_pos hb).symm.trans z
        cases z'
        subst hb
        exact ⟨ha, by rw [List.length_map]; exact hl, vs, _, rv, ha⟩
      · have z' := (if_neg hb).symm.trans z
        by_cases hb : b ∈ ts
        · have z' := (if_pos hb).symm.trans z'
          cases z'
          exact htab b hb
        · have z' := (if_neg hb).symm.trans z'
          cases z'
    · by_cases hb : b = a
      · have z' := (if_pos hb).symm.trans z
        cases z'
        exact .inl ⟨hb, _, _, rfl⟩
      · have z' := (if_neg hb).symm.trans z
        by_cases hb : b ∈ ts
        · have z' := (if_pos hb).symm.trans z'
          cases z'
          exact .inr ⟨hb, rfl⟩
        · have z' := (if_neg hb).symm.trans z'
          cases z'
theorem walk_ofT {l : PySem.W.OpenLaw} {n k : Nat} {q : Program} {loose : List Str} {XP : (Str → Option Value) → Heap → Prop} {YP : World → Heap → Prop} {d : DefRec} {K : Params → PySem.W.Frag} {CX : CXT} {sp : PySem.W.Frag → List Addr → Sp} {x : Str} {ts : List Addr}
    (hn : l.most = some n) (hn2 : n ≤ sizeLine) (hdf : d.params.defaults = []) (hr : Room k callerA)
    (hY : ∀ (w : World) (h : Heap), YP w h → (K w.params).In h ∧ ∀ P ∈ ts, h.get? P = some (PySem.W.tabObj #[]))
    (F : ∀ (ts' : List Addr), ts' = ts → ∀ (w : World) (mg : Str → Option Value) (fa : Addr) (h : Heap), (K w.params).In h → h.Ns mainGlobals mg → mg d.name = some (.ref fa) →
      ∃ fd : FuncData, (∀ (s : Shared) (u : Value), BindsTo s fd ⟨[u], []⟩ [(x, u)]) ∧ (∀ P ∈ ts, ∃ c, PySem.W.codeHdIn (K w.params) c P = true) ∧ (∀ P ∈ ts, (K w.params).lookup P = none) ∧
        ∀ base : Heap, (K w.params).In base → base.Ns mainGlobals mg → Bm mg base → FnOk l.prog w (K w.params) mg base CX k fa fd [x] (sp (K w.params) ts))
    (hsp : ∀ (K : PySem.W.Frag) (H : Hp) (a : Addr) (ns : List Int), ns.length ≤ n → (∀ P ∈ ts, H P = some (.tbl #[])) → SqL K H a (ns.map V.int) → sp K ts [.ref a] H (fun v _ => v = .bl true) fun _ _ _ => False)
    (hCX : ∀ (H : Hp) (s : Shared) (e : Value) (s' : Shared), CX [] H s (fun _ _ _ => False) e s' → False) :
    PySem.W.WalkO q loose XP YP l.row.toRowW d [] (fun f vs => PySem.call f vs) := by
  refine Att.attach_call hn hdf fun w s₀ s₁ mg mb fa o pm cd doc a vs ns G Y ho hd hcd hmg hobj hints hlen hg => ?_
  obtain ⟨KX, hT⟩ := hY w _ Y
  obtain ⟨fd, hb, htc, htK, hF⟩ := F ts rfl w mg fa _ KX G.T.g hmg
  have hbm : Bm mg s₁.heap := let ⟨bm, ob, b1, _, b3, b4, b5, b6⟩ := G.T.bmain; ⟨bm, ob, b1, b3, b4, b5, b6⟩
  exact law_callT KX G.T.g G.T.b G.T.builtins G.T.nolimit hg hobj hints (Nat.le_trans hlen hn2) hr hbm hT htc htK hF hb (fun H hO hS => hsp (K w.params) H a ns hlen hO hS) fun H e s' => hCX H s₁ e s'
end L2

set_option linter.all false
namespace FrM
noncomputable def lowP (t b : Int) : Int × Int := (t / (Int.gcd t b : Int), b / (Int.gcd t b : Int))
noncomputable def sz (z : List Int) (k : Nat) : Int := z.getD k 0
noncomputable def sumL (z : List Int) (l : List Nat) : Int := (l.map (sz z)).sum
noncomputable def stay (z : List Int) (l : List Nat) (w : Int) : List Nat := l.filter fun k => decide (sz z k * w < sumL z l)
theorem stay_le (z : List Int) (l : List Nat) (w : Int) : (stay z l w).length ≤ l.length := List.length_filter_le _ _
noncomputable def fin (z : List Int) (l : List Nat) (w : Int) : List Nat × Int :=
  if (stay z l w).length = l.length then (l, w) else fin z (stay z l w) (w - ((l.length : Int) - ((stay z l w).length : Int)))
termination_by l.length
decreasing_by
  have := stay_le z l w
  lia
theorem fin_stop {z : List Int} {l : List Nat} {w : Int} (h : (stay z l w).length = l.length) : fin z l w = (l, w) := by
  rw [fin, if_pos h]
theorem fin_go {z : List Int} {l : List Nat} {w : Int} (h : (stay z l w).length ≠ l.length) : fin z l w = fin z (stay z l w) (w - ((l.length : Int) - ((stay z l w).length : Int))) := by
  rw [fin, if_neg h]
theorem sumL_ge (z : List Int) : ∀ (l : List Nat), (∀ k ∈ l, 1 ≤ sz z k) → (l.length : Int) ≤ sumL z l
  | [], _ => by simp [sumL]
  | a :: l, h => by
    have := sumL_ge z l (fun k hk => h k (List.mem_cons_of_mem _ hk))
    have h1 := h a List.mem_cons_self
    unfold sumL at *
    rw [List.map_cons, List.sum_cons, List.length_cons]
    lia
theorem sum_ge_mul (z : List Int) (w S : Int) : ∀ (l : List Nat), (∀ k ∈ l, S ≤ sz z k * w) → (l.length : Int) * S ≤ sumL z l * w
  | [], _ => by simp [sumL]
  | a :: l, h => by
    have := sum_ge_mul z w S l (fun k hk => h k (List.mem_cons_of_mem _ hk))
    have h1 := h a List.mem_cons_self
    unfold sumL at *
    rw [List.map_cons, List.sum_cons, List.length_cons, Int.add_mul]
    have e : ((l.length + 1 : Nat) : Int) * S = (l.length : Int) * S + S := by rw [Int.natCast_add, Int.add_mul]; simp
    rw [e]
    lia
theorem stay_pos {z : List Int} {l : List Nat} {w : Int} (hz : ∀ k ∈ l, 1 ≤ sz z k) (hw : w < l.length) (hl : 0 < l.length) : 0 < (stay z l w).length := by
  by_cases h : 0 < (stay z l w).length
  · exact h
  · exfalso
    have e : stay z l w = [] := List.length_eq_zero_iff.mp (by lia)
    have hall : ∀ k ∈ l, sumL z l ≤ sz z k * w := fun k hk => by
      have := (List.filter_eq_nil_iff.mp e) k hk
      simp at this
      exact this
    have h1 := sum_ge_mul z w (sumL z l) l hall
    have h2 := sumL_ge z l hz
    have h3 : 0 < sumL z l := by lia
    rw [Int.mul_comm (sumL z l) w] at h1
    have := Int.le_of_mul_le_mul_right h1 h3
    lia
/-- what is kept round by round -/
structure Rnd (z : List Int) (n : Nat) (m : Int) (l : List Nat) (w : Int) : Prop where
  pos : 0 < l.length
  sub : ∀ k ∈ l, k < n
  lt : w < l.length
  dif : w - l.length = m - n
  fil : l = (List.range n).filter fun k => decide (k ∈ l)
theorem Rnd.len {z : List Int} {n : Nat} {m : Int} {l : List Nat} {w : Int} (h : Rnd z n m l w) : l.length ≤ n := by
  have e := congrArg List.length h.fil
  have := List.length_filter_le (fun k => decide (k ∈ l)) (List.range n)
  rw [List.length_range] at this
  lia
theorem Rnd.start {z : List Int} {n : Nat} {m : Int} (h0 : 0 < n) (hm : m < n) : Rnd z n m (List.range n) m := by
  refine ⟨by rw [List.length_range]; exact h0, fun k hk => List.mem_range.mp hk, by rw [List.length_range]; exact hm, by rw [List.length_range], ?_⟩
  rw [List.filter_eq_self.mpr]
  intro k hk
  exact decide_eq_true hk
theorem Rnd.step {z : List Int} {n : Nat} {m : Int} {l : List Nat} {w : Int} (hz : ∀ k, k < n → 1 ≤ sz z k) (h : Rnd z n m l w) : Rnd z n m (stay z l w) (w - ((l.length : Int) - ((stay z l w).length : Int))) := by
  have hp := stay_pos (fun k hk => hz k (h.sub k hk)) h.lt h.pos
  refine ⟨hp, fun k hk => h.sub k (List.mem_filter.mp hk).1, by have := h.lt; lia, by have := h.dif; lia, ?_⟩
  have e : (List.range n).filter (fun k => decide (k ∈ stay z l w)) = ((List.range n).filter fun k => decide (k ∈ l)).filter fun k => decide (sz z k * w < sumL z l) := by
    rw [List.filter_filter]
    refine List.filter_congr fun k _ => ?_
    rw [Bool.eq_iff_iff]
    simp [stay]
    exact And.comm
  rw [e, ← h.fil]
  rfl
theorem Rnd.fin {z : List Int} {n : Nat} {m : Int} (hz : ∀ k, k < n → 1 ≤ sz z k) : ∀ (c : Nat) (l : List Nat) (w : Int), l.length ≤ c → Rnd z n m l w → Rnd z n m (fin z l w).1 (fin z l w).2
  | 0, l, w, hc, h => absurd h.pos (by lia)
  | c + 1, l, w, hc, h => by
    by_cases e : (stay z l w).length = l.length
    · rw [fin_stop e]; exact h
    · rw [fin_go e]
      have := stay_le z l w
      exact Rnd.fin hz c _ _ (by lia) (h.step hz)
/-- the shares over one bottom -/
structure Top (m : Int) (n : Nat) (S : Int) (N : Nat → Int) : Prop where
  pos : 0 < S
  all : ((List.range n).map N).sum = m * S
/-- what is due -/
noncomputable def due (z : List Int) (m : Int) : List (Int × Int) :=
  if (z.length : Int) ≤ m then z.map fun _ => (1, 1) else if m = 0 then z.map fun _ => (0, 1)
  else (List.range z.length).map fun k => if decide (k ∈ (fin z (List.range z.length) m).1) = true then lowP (sz z k * (fin z (List.range z.length) m).2) (sumL z (fin z (List.range z.length) m).1) else (1, 1)
end FrM

set_option Elab.async false
set_option linter.all false
set_option maxRecDepth 100000
set_option maxHeartbeats 4000000
namespace L2
open PySem PySem.Spec PyProof.Rows
/-! ### tuples of ints that the text holds -/
noncomputable def intsIn : List V → List Value → Bool
  | [], [] => true
  | .int i :: xs, .int j _ :: us => decide (i = j) && intsIn xs us
  | _, _ => false
theorem intsIn_vals : ∀ {xs : List V} {us : List Value}, intsIn xs us = true → Vals xs us
  | [], [], _ => .nil
  | .int i :: xs, .int j t :: us, h => by
    rw [intsIn, Bool.and_eq_true] at h
    have e := of_decide_eq_true h.1
    exact .cons ⟨t, by rw [e]⟩ (intsIn_vals h.2)
noncomputable def tupIn (K : PySem.W.Frag) (a : Addr) (xs : List V) : Bool :=
  match K.lookup a with
  | some o =>
    (match o.cls with
    | .type t => t == "tuple"
    | _ => false) &&
    (match o.data with
    | .seq its _ => decide (its.size ≤ 1000) && intsIn xs its.toList
    | _ => false)
  | none => false
theorem tup_in {K : PySem.W.Frag} {H : Hp} {a : Addr} {xs : List V} (h : tupIn K a xs = true) : SqT K H a xs := by
  unfold tupIn at h
  split at h
  · rename_i o e
    rw [Bool.and_eq_true] at h
    obtain ⟨h1, h2⟩ := h
    split at h1
    · rename_i t ec
      split at h2
      · rename_i its n ed
        rw [Bool.and_eq_true] at h2
        refine .inr ⟨o, its, n, e, by rw [ec, beq_iff_eq.mp h1], ed, ?_, intsIn_vals h2.2⟩
        have := of_decide_eq_true h2.1
        have : sizeLine = 16777216 := sizeLine_eq
        omega
      · cases h2
    · cases h1
  · cases h
/-! ### isinstance of these, too -/
noncomputable def TyS (K : PySem.W.Frag) (H : Hp) (x : V) (t : Value) : Prop := TyOf K H x t ∨ ∃ a xs, x = .ref a ∧ t = .type "tuple" ∧ SqT K H a xs
section
variable {X : Cx}
open PySem.W in
theorem kit_ofS {pins : List (Addr × Obj)} {σ : St} {H : Hp} {s : Shared} {x : V} {u t : Value} (I : Inv X pins σ H s) (rx : RelV x u) (ty : TyS X.K H x t) :
    ∃ Hh : Heap → Prop, KitX X.K u t Hh ∧ Hh s.heap ∧ u ≠ .builtin "__main__.__loader__#opaque" := by
  rcases ty with ty | ⟨a, xs, rfl, rfl, hq⟩
  · exact kit_of I rx ty
  · cases (show u = Value.ref a from rx)
    obtain ⟨its, rv, p, hz⟩ := I.tuple hq
    exact ⟨_, PySem.W.kitx_tuple, let ⟨o, e, c, _⟩ := p; ⟨o, e, c⟩, fun z => nomatch z⟩
noncomputable def rIsS (K : PySem.W.Frag) : List V → Hp → VK → Prop := fun xs H Q => ∃ x c t b, xs = [x, c] ∧ isCls c = true ∧ TyS K H x t ∧ PySem.W.kitOne K t (cVal c) = some b ∧ Q (.bl b) H
theorem call_iss : CallR X (.builtin "isinstance") (rIsS X.K) := by
  intro pins s σ H xs us Q I r h
  obtain ⟨x, c, t, b, rfl, hc, ty, e, q⟩ := h
  obtain ⟨u, w', rfl, rx, rc⟩ := vals2 r
  cases cVal_of hc rc
  obtain ⟨Hh, Z, p, hx⟩ := kit_ofS I rx ty
  exact PySem.W.kia_one Z I.kIn p e hx fun tk => ⟨.bl b, H, I.tok tk, rfl, q⟩
/-! ### sum of ints -/
theorem bt_sum : bootBuiltins "sum" = some (.builtin "sum") := by decide +kernel
theorem ints_are : ∀ {ns : List Int} {us : List Value}, Vals (ns.map V.int) us → IntsAre us ns
  | [], _, .nil => .nil
  | n :: ns, _, .cons r t => by
    obtain ⟨t', rfl⟩ := r
    exact .cons _ _ (ints_are t)
inductive rSumI (K : PySem.W.Frag) (xs : List V) (H : Hp) (Q : VK) : Prop
  | mk (p : Addr) (ns : List Int) (h0 : xs = [.ref p]) (h1 : SqL K H p (ns.map V.int)) (h2 : Q (.int ns.sum) H) : rSumI K xs H Q
theorem call_sumI (hc : X.calm = true) : CallR X (.builtin "sum") (rSumI X.K) := by
  intro pins s σ H xs us Q I r h
  obtain ⟨p, ns, rfl, hq, q⟩ := h
  obtain ⟨u, rfl, rx⟩ := vals1 r
  cases rx
  obtain ⟨its, rv, pl, hz⟩ := I.list hq
  have hi := ints_are rv
  obtain ⟨xs, ex⟩ := hi.allInts.items
  have e2 : (numsOf its) = ns := hi.numsOf
  refine sum_intListG (I.ok.hd hc) (xs := xs) (by rw [← ex]; exact pl.isList) fun h' tk t' hk => ?_
  have e3 : preSum (numAt xs) xs.size = ns.sum := by
    rw [preSum_eq, List.take_of_length_le (by simp), ← e2, ← nums_intItems, ← ex]
  rw [e3]
  exact ⟨.int ns.sum, H, I.kept hk, ⟨_, rfl⟩, q⟩
/-! ### list(range(n)) -/
/-! ### for k in range(a, b, c), c from 1 on -/
end
end L2

set_option Elab.async false
set_option linter.all false
set_option maxRecDepth 100000
set_option maxHeartbeats 4000000
namespace L2
open PySem PySem.Spec PyProof.Rows
/-! ### a lambda's place in the text -/
noncomputable def dE : Expr := .Name "" ⟨0, 0, 0, 0⟩
noncomputable def stAt (st : Stmt) (i : Nat) : Stmt := (defBody st).getD i (.Pass ⟨0, 0, 0, 0⟩)
noncomputable def retE : Stmt → Expr
  | .Return (some e) _ => e
  | _ => dE
noncomputable def argE : Expr → Nat → Expr
  | .Call _ es _ _, i => es.getD i dE
  | _, _ => dE
noncomputable def lstE : Expr → Nat → Expr
  | .List es _, i => es.getD i dE
  | _, _ => dE
noncomputable def tupE : Expr → Nat → Expr
  | .Tuple es _ _, i => es.getD i dE
  | _, _ => dE
noncomputable def lamOf (q : Str) : Expr → LamD
  | .Lambda p b s _ => ⟨q, p, b, s⟩
  | _ => ⟨q, default, dE, default⟩
noncomputable def lamP : Expr → Pos
  | .Lambda _ _ _ p => p
  | _ => ⟨0, 0, 0, 0⟩
/-! ### sorted ints -/
theorem bt_sorted : bootBuiltins "sorted" = some (.builtin "sorted") := by decide +kernel
theorem vals_of_ints : ∀ {us : List Value} {ns : List Int}, IntsAre us ns → Vals (ns.map V.int) us
  | _, _, .nil => .nil
  | _, _, .cons n t h => .cons ⟨_, rfl⟩ (vals_of_ints h)
theorem call_sortedI {X : Cx} : CallR X (.builtin "sorted") (fun xs H Q => ∃ (p : Addr) (ns : List Int), xs = [.ref p] ∧ SqL X.K H p (ns.map V.int) ∧ ns.length < 64 ∧ ∀ q (ns' : List Int), ns'.Perm ns → ns'.Pairwise (· ≤ ·) → H q = none → Q (.ref q) (upd H q (.lst (ns'.map V.int)))) := by
  intro pins s σ H xs us Q I r h
  obtain ⟨p, ns, rfl, hq, hl, q⟩ := h
  obtain ⟨u, rfl, rx⟩ := vals1 r
  cases rx
  obtain ⟨its, rv, pl, hz⟩ := I.list hq
  have hi := ints_are rv
  have hlen : its.length = ns.length := by have := rv.length; rw [List.length_map] at this; exact this.symm
  refine sorted_ints pl.isList hi (by omega) fun out ns' a1 a2 a3 => ?_
  obtain ⟨e, he⟩ := sortedAll_at s.heap its out
  have hn : H (s.heap.objs.size + 1) = none := I.hok.fresh (Nat.le_succ _)
  have small : sizeLine = 16777216 := sizeLine_eq
  refine ⟨.ref (s.heap.objs.size + 1), _, I.laid (a := s.heap.objs.size + 1) (o := .lst (ns'.map V.int)) (t' := s.toks) (fun b u z => sortedAll_old z) (Nat.le_succ _) ⟨?_, out.toList, e, vals_of_ints a1, ?_⟩, rfl, q _ ns' a2 a3 hn⟩
  · rw [List.length_map, a2.length_eq]; omega
  · rw [he, Array.toArray_toList]
end L2

set_option Elab.async false
set_option linter.all false
set_option maxRecDepth 100000
set_option maxHeartbeats 4000000
namespace My
open PySem L2 FrM
noncomputable def top (i : Nat) : Stmt := PySem.Challenge.pw_fewspeak_k22_so_many_thrown.main.body.getD i (.Pass ⟨0, 0, 0, 0⟩)
noncomputable abbrev s_NoPlan___init__ : Stmt := inClass (top 3) 0
noncomputable abbrev s_NoThrow___init__ : Stmt := inClass (top 4) 0
noncomputable abbrev s_greatest_divisor : Stmt := top 6
noncomputable abbrev s_share : Stmt := top 7
noncomputable abbrev s_is_whole : Stmt := top 9
noncomputable abbrev s_Told___init__ : Stmt := inClass (top 12) 0
noncomputable abbrev s_Told_is_told : Stmt := inClass (top 12) 1
noncomputable abbrev s_Told_kept : Stmt := inClass (top 12) 2
noncomputable abbrev s_Told_sides : Stmt := inClass (top 12) 3
noncomputable abbrev s_Told_parts : Stmt := inClass (top 12) 4
noncomputable abbrev s_Die___init__ : Stmt := inClass (top 13) 0
noncomputable abbrev s_Die_is_told : Stmt := inClass (top 13) 1
noncomputable abbrev s_Die_kept : Stmt := inClass (top 13) 2
noncomputable abbrev s_Die_sides : Stmt := inClass (top 13) 3
noncomputable abbrev s_Die_parts : Stmt := inClass (top 13) 4
noncomputable abbrev s_Die_after : Stmt := inClass (top 13) 5
noncomputable abbrev s_can_be_thrown : Stmt := top 14
noncomputable abbrev s_drawn : Stmt := top 15
noncomputable abbrev s_places_of : Stmt := top 18
noncomputable abbrev s_matrix_by : Stmt := top 19
noncomputable abbrev s_matrix_row : Stmt := top 20
noncomputable abbrev s_need_number : Stmt := top 21
noncomputable abbrev s_Few___init__ : Stmt := inClass (top 23) 0
noncomputable abbrev s_Few_node : Stmt := inClass (top 23) 1
noncomputable abbrev s_Few_matrix : Stmt := inClass (top 23) 2
noncomputable abbrev s_Few_bounds : Stmt := inClass (top 23) 3
noncomputable abbrev s_Few_text : Stmt := inClass (top 23) 4
noncomputable abbrev s_few_node : Stmt := top 24
noncomputable abbrev s_few_chance : Stmt := top 25
noncomputable abbrev s_L_cell : Stmt := top 27
noncomputable abbrev s_L_mix : Stmt := top 28
noncomputable abbrev s_L_row : Stmt := top 29
noncomputable abbrev s_L_whole : Stmt := top 30
noncomputable abbrev s_L_low : Stmt := top 31
noncomputable abbrev s_L_fraction : Stmt := top 32
noncomputable abbrev s_L_matrix : Stmt := top 33
noncomputable abbrev s_L_crowd : Stmt := top 34
noncomputable abbrev s_L_thrown : Stmt := top 35
noncomputable abbrev s_L_few : Stmt := top 36
noncomputable abbrev s_L_counts : Stmt := top 37
noncomputable abbrev s_law : Stmt := top 38
theorem sc_greatest_divisor : FnScope ["one", "other"] ["one", "other"] (defScope s_greatest_divisor) := ⟨rfl, rfl, rfl, by decide +kernel, rfl, by decide +kernel, by decide +kernel⟩
theorem sc_share : FnScope ["top", "bottom", "divisor"] ["top", "bottom"] (defScope s_share) := ⟨rfl, rfl, rfl, by decide +kernel, rfl, by decide +kernel, by decide +kernel⟩
theorem sc_is_whole : FnScope ["thing", "low", "high"] ["thing", "low", "high"] (defScope s_is_whole) := ⟨rfl, rfl, rfl, by decide +kernel, rfl, by decide +kernel, by decide +kernel⟩
theorem sc_Told___init__ : FnScope ["self", "kept"] ["self", "kept"] (defScope s_Told___init__) := ⟨rfl, rfl, rfl, by decide +kernel, rfl, by decide +kernel, by decide +kernel⟩
theorem sc_Told_is_told : FnScope ["self"] ["self"] (defScope s_Told_is_told) := ⟨rfl, rfl, rfl, by decide +kernel, rfl, by decide +kernel, by decide +kernel⟩
theorem sc_Told_kept : FnScope ["self"] ["self"] (defScope s_Told_kept) := ⟨rfl, rfl, rfl, by decide +kernel, rfl, by decide +kernel, by decide +kernel⟩
theorem sc_Told_sides : FnScope ["self"] ["self"] (defScope s_Told_sides) := ⟨rfl, rfl, rfl, by decide +kernel, rfl, by decide +kernel, by decide +kernel⟩
theorem sc_Told_parts : FnScope ["self"] ["self"] (defScope s_Told_parts) := ⟨rfl, rfl, rfl, by decide +kernel, rfl, by decide +kernel, by decide +kernel⟩
theorem sc_Die___init__ : FnScope ["self", "parts"] ["self", "parts"] (defScope s_Die___init__) := ⟨rfl, rfl, rfl, by decide +kernel, rfl, by decide +kernel, by decide +kernel⟩
theorem sc_Die_is_told : FnScope ["self"] ["self"] (defScope s_Die_is_told) := ⟨rfl, rfl, rfl, by decide +kernel, rfl, by decide +kernel, by decide +kernel⟩
theorem sc_Die_kept : FnScope ["self"] ["self"] (defScope s_Die_kept) := ⟨rfl, rfl, rfl, by decide +kernel, rfl, by decide +kernel, by decide +kernel⟩
theorem sc_Die_sides : FnScope ["self"] ["self"] (defScope s_Die_sides) := ⟨rfl, rfl, rfl, by decide +kernel, rfl, by decide +kernel, by decide +kernel⟩
theorem sc_Die_parts : FnScope ["self"] ["self"] (defScope s_Die_parts) := ⟨rfl, rfl, rfl, by decide +kernel, rfl, by decide +kernel, by decide +kernel⟩
theorem sc_Die_after : FnScope ["self", "throw", "number", "last", "many", "make"] ["self", "throw"] (defScope s_Die_after) := ⟨rfl, rfl, rfl, by decide +kernel, rfl, by decide +kernel, by decide +kernel⟩
theorem sc_can_be_thrown : FnScope ["node", "throw"] ["node", "throw"] (defScope s_can_be_thrown) := ⟨rfl, rfl, rfl, by decide +kernel, rfl, by decide +kernel, by decide +kernel⟩
theorem sc_drawn : FnScope ["node", "throws", "here", "place", "throw"] ["node", "throws"] (defScope s_drawn) := ⟨rfl, rfl, rfl, by decide +kernel, rfl, by decide +kernel, by decide +kernel⟩
theorem sc_places_of : FnScope ["crowd"] ["crowd"] (defScope s_places_of) := ⟨rfl, rfl, rfl, by decide +kernel, rfl, by decide +kernel, by decide +kernel⟩
theorem sc_matrix_by : FnScope ["many", "tell"] ["many", "tell"] (defScope s_matrix_by) := ⟨rfl, rfl, rfl, by decide +kernel, rfl, by decide +kernel, by decide +kernel⟩
theorem sc_matrix_row : FnScope ["one", "many", "tell"] ["one", "many", "tell"] (defScope s_matrix_row) := ⟨rfl, rfl, rfl, by decide +kernel, rfl, by decide +kernel, by decide +kernel⟩
theorem sc_need_number : FnScope ["thing", "low", "high"] ["thing", "low", "high"] (defScope s_need_number) := ⟨rfl, rfl, rfl, by decide +kernel, rfl, by decide +kernel, by decide +kernel⟩
theorem sc_Few___init__ : FnScope ["self", "many"] ["self", "many"] (defScope s_Few___init__) := ⟨rfl, rfl, rfl, by decide +kernel, rfl, by decide +kernel, by decide +kernel⟩
theorem sc_Few_node : FnScope ["self", "crowd"] ["self", "crowd"] (defScope s_Few_node) := ⟨rfl, rfl, rfl, by decide +kernel, rfl, by decide +kernel, by decide +kernel⟩
noncomputable abbrev le_Few_matrix_1 : Expr := (argE (retE (stAt s_Few_matrix 2)) 1)
noncomputable def ld_Few_matrix_1 : LamD := lamOf ((("Few.matrix" : Str) ++ ".<locals>.") ++ "<lambda>") le_Few_matrix_1
theorem sc_Few_matrix : FnScope ["self", "crowd", "there", "wanted"] ["self", "crowd"] (defScope s_Few_matrix) := ⟨rfl, rfl, rfl, by decide +kernel, rfl, by decide +kernel, by decide +kernel⟩
theorem sc_Few_bounds : FnScope ["self", "crowd", "wanted"] ["self", "crowd"] (defScope s_Few_bounds) := ⟨rfl, rfl, rfl, by decide +kernel, rfl, by decide +kernel, by decide +kernel⟩
theorem sc_Few_text : FnScope ["self", "many"] ["self"] (defScope s_Few_text) := ⟨rfl, rfl, rfl, by decide +kernel, rfl, by decide +kernel, by decide +kernel⟩
noncomputable abbrev le_few_node_1 : Expr := (tupE (lstE (argE (retE (stAt s_few_node 3)) 0) 0) 1)
noncomputable def ld_few_node_1 : LamD := lamOf ((("few_node" : Str) ++ ".<locals>.") ++ "<lambda>") le_few_node_1
noncomputable abbrev le_few_node_2 : Expr := (tupE (lstE (argE (retE (stAt s_few_node 3)) 0) 1) 1)
noncomputable def ld_few_node_2 : LamD := lamOf ((("few_node" : Str) ++ ".<locals>.") ++ "<lambda>") le_few_node_2
theorem sc_few_node : FnScope ["ahead", "wanted", "taken", "rest"] ["ahead", "wanted", "taken"] (defScope s_few_node) := ⟨rfl, rfl, rfl, by decide +kernel, rfl, by decide +kernel, by decide +kernel⟩
theorem sc_few_chance : FnScope ["there", "wanted", "is_same"] ["there", "wanted", "is_same"] (defScope s_few_chance) := ⟨rfl, rfl, rfl, by decide +kernel, rfl, by decide +kernel, by decide +kernel⟩
theorem sc_L_cell : FnScope ["_law_script", "_law_k"] ["_law_script", "_law_k"] (defScope s_L_cell) := ⟨rfl, rfl, rfl, by decide +kernel, rfl, by decide +kernel, by decide +kernel⟩
theorem sc_L_mix : FnScope ["_law_cell_here", "_law_k", "_law_number"] ["_law_cell_here", "_law_k"] (defScope s_L_mix) := ⟨rfl, rfl, rfl, by decide +kernel, rfl, by decide +kernel, by decide +kernel⟩
theorem sc_L_row : FnScope ["_law_cell_here", "_law_bit", "_law_many", "_law_most", "_law_row_here", "_law_k"] ["_law_cell_here", "_law_bit", "_law_many", "_law_most"] (defScope s_L_row) := ⟨rfl, rfl, rfl, by decide +kernel, rfl, by decide +kernel, by decide +kernel⟩
theorem sc_L_whole : FnScope ["_law_found"] ["_law_found"] (defScope s_L_whole) := ⟨rfl, rfl, rfl, by decide +kernel, rfl, by decide +kernel, by decide +kernel⟩
theorem sc_L_low : FnScope ["_law_top", "_law_bottom", "_law_one", "_law_other"] ["_law_top", "_law_bottom"] (defScope s_L_low) := ⟨rfl, rfl, rfl, by decide +kernel, rfl, by decide +kernel, by decide +kernel⟩
theorem sc_L_fraction : FnScope ["_law_found", "_law_due"] ["_law_found", "_law_due"] (defScope s_L_fraction) := ⟨rfl, rfl, rfl, by decide +kernel, rfl, by decide +kernel, by decide +kernel⟩
theorem sc_L_matrix : FnScope ["_law_found", "_law_due", "_law_row_here", "_law_others", "_law_one", "_law_other"] ["_law_found", "_law_due"] (defScope s_L_matrix) := ⟨rfl, rfl, rfl, by decide +kernel, rfl, by decide +kernel, by decide +kernel⟩
theorem sc_L_crowd : FnScope ["_law_script", "_law_start", "_law_most", "_law_many", "_law_bit", "_law_sizes", "_law_left", "_law_places", "_law_pick", "_law_path"] ["_law_script", "_law_start", "_law_most"] (defScope s_L_crowd) := ⟨rfl, rfl, rfl, by decide +kernel, rfl, by decide +kernel, by decide +kernel⟩
theorem sc_L_thrown : FnScope ["_law_node", "_law_rows", "_law_kept", "_law_sizes", "_law_throw"] ["_law_node", "_law_rows", "_law_kept"] (defScope s_L_thrown) := ⟨rfl, rfl, rfl, by decide +kernel, rfl, by decide +kernel, by decide +kernel⟩
theorem sc_L_few : FnScope ["_law_places", "_law_many", "_law_throws", "_law_rows", "_law_kept", "_law_left", "_law_throw"] ["_law_places", "_law_many", "_law_throws"] (defScope s_L_few) := ⟨rfl, rfl, rfl, by decide +kernel, rfl, by decide +kernel, by decide +kernel⟩
theorem sc_L_counts : FnScope ["_law_many", "_law_every", "_law_drawn_now", "_law_found", "_law_one", "_law_row_here"] ["_law_many", "_law_every"] (defScope s_L_counts) := ⟨rfl, rfl, rfl, by decide +kernel, rfl, by decide +kernel, by decide +kernel⟩
theorem sc_law : FnScope ["_law_script", "_law_crowd_here", "_law_many", "_law_throws", "_law_rows", "_law_kept", "_law_handed", "_law_plan", "_law_node", "_law_found", "_law_due", "_law_row_here", "_law_others", "_law_thrown_here"] ["_law_script"] (defScope s_law) := ⟨rfl, rfl, rfl, by decide +kernel, rfl, by decide +kernel, by decide +kernel⟩
set_option genInjectivity false in
set_option genSizeOf false in
structure Ad where
  f_greatest_divisor : Addr
  d_greatest_divisor : FuncData
  f_share : Addr
  d_share : FuncData
  f_is_whole : Addr
  d_is_whole : FuncData
  f_can_be_thrown : Addr
  d_can_be_thrown : FuncData
  f_drawn : Addr
  d_drawn : FuncData
  f_places_of : Addr
  d_places_of : FuncData
  f_matrix_by : Addr
  d_matrix_by : FuncData
  f_matrix_row : Addr
  d_matrix_row : FuncData
  f_need_number : Addr
  d_need_number : FuncData
  f_few_node : Addr
  d_few_node : FuncData
  f_few_chance : Addr
  d_few_chance : FuncData
  f_L_cell : Addr
  d_L_cell : FuncData
  f_L_mix : Addr
  d_L_mix : FuncData
  f_L_row : Addr
  d_L_row : FuncData
  f_L_whole : Addr
  d_L_whole : FuncData
  f_L_low : Addr
  d_L_low : FuncData
  f_L_fraction : Addr
  d_L_fraction : FuncData
  f_L_matrix : Addr
  d_L_matrix : FuncData
  f_L_crowd : Addr
  d_L_crowd : FuncData
  f_L_thrown : Addr
  d_L_thrown : FuncData
  f_L_few : Addr
  d_L_few : FuncData
  f_L_counts : Addr
  d_L_counts : FuncData
  f_law : Addr
  d_law : FuncData
  c_SpeakError : Addr
  c_NoPlan : Addr
  i_NoPlan : Addr
  e_NoPlan : FuncData
  c_NoThrow : Addr
  i_NoThrow : Addr
  e_NoThrow : FuncData
  c_Node : Addr
  c_Told : Addr
  i_Told : Addr
  e_Told : FuncData
  c_Die : Addr
  i_Die : Addr
  e_Die : FuncData
  c_Plan : Addr
  c_Few : Addr
  i_Few : Addr
  e_Few : FuncData
  x_Told_is_told : Addr
  y_Told_is_told : FuncData
  x_Die_is_told : Addr
  y_Die_is_told : FuncData
  x_Told_kept : Addr
  y_Told_kept : FuncData
  x_Die_kept : Addr
  y_Die_kept : FuncData
  x_Told_sides : Addr
  y_Told_sides : FuncData
  x_Die_sides : Addr
  y_Die_sides : FuncData
  x_Told_parts : Addr
  y_Told_parts : FuncData
  x_Die_parts : Addr
  y_Die_parts : FuncData
  x_Die_after : Addr
  y_Die_after : FuncData
  x_Few_node : Addr
  y_Few_node : FuncData
  x_Few_matrix : Addr
  y_Few_matrix : FuncData
  x_Few_bounds : Addr
  y_Few_bounds : FuncData
  x_Few_text : Addr
  y_Few_text : FuncData
  lc_Few_matrix : Addr
  lp_Few_matrix : Addr
  lc_few_node : Addr
  lp_few_node : Addr
noncomputable abbrev ll_Few_matrix : List (Pos × Str) := [(lamP le_Few_matrix_1, ((("Few.matrix" : Str) ++ ".<locals>.") ++ "<lambda>"))]
theorem tp_Few_matrix : (ll_Few_matrix).Pairwise fun x y => ¬ (x.1.line = y.1.line ∧ x.1.col = y.1.col) := by decide +kernel
noncomputable abbrev ll_few_node : List (Pos × Str) := [(lamP le_few_node_1, ((("few_node" : Str) ++ ".<locals>.") ++ "<lambda>")), (lamP le_few_node_2, ((("few_node" : Str) ++ ".<locals>.") ++ "<lambda>"))]
theorem tp_few_node : (ll_few_node).Pairwise fun x y => ¬ (x.1.line = y.1.line ∧ x.1.col = y.1.col) := by decide +kernel
noncomputable def tabs (a : Ad) : Tabs := [(a.lp_Few_matrix, ll_Few_matrix), (a.lp_few_node, ll_few_node)]
theorem tb_Few_matrix (a : Ad) : (a.lp_Few_matrix, ll_Few_matrix) ∈ tabs a := (.head _)
theorem tb_few_node (a : Ad) : (a.lp_few_node, ll_few_node) ∈ tabs a := (.tail _ (.head _))
structure Txt (K : PySem.W.Frag) (mg : Str → Option Value) (a : Ad) : Prop where
  lcd_Few_matrix : a.y_Few_matrix.code = .ref a.lc_Few_matrix
  lch_Few_matrix : PySem.W.codeHdIn K a.lc_Few_matrix a.lp_Few_matrix = true
  lcd_few_node : a.d_few_node.code = .ref a.lc_few_node
  lch_few_node : PySem.W.codeHdIn K a.lc_few_node a.lp_few_node = true
  tnd : ((tabs a).map (·.1)).Nodup
  F_greatest_divisor : Fun K "greatest_divisor" "greatest_divisor" s_greatest_divisor a.f_greatest_divisor a.d_greatest_divisor
  B_greatest_divisor : Binds K a.d_greatest_divisor ["one", "other"] []
  m_greatest_divisor : mg "greatest_divisor" = some (.ref a.f_greatest_divisor)
  F_share : Fun K "share" "share" s_share a.f_share a.d_share
  B_share : Binds K a.d_share ["top", "bottom"] []
  m_share : mg "share" = some (.ref a.f_share)
  F_is_whole : Fun K "is_whole" "is_whole" s_is_whole a.f_is_whole a.d_is_whole
  B_is_whole : Binds K a.d_is_whole ["thing", "low", "high"] []
  m_is_whole : mg "is_whole" = some (.ref a.f_is_whole)
  F_can_be_thrown : Fun K "can_be_thrown" "can_be_thrown" s_can_be_thrown a.f_can_be_thrown a.d_can_be_thrown
  B_can_be_thrown : Binds K a.d_can_be_thrown ["node", "throw"] []
  m_can_be_thrown : mg "can_be_thrown" = some (.ref a.f_can_be_thrown)
  F_drawn : Fun K "drawn" "drawn" s_drawn a.f_drawn a.d_drawn
  B_drawn : Binds K a.d_drawn ["node", "throws"] []
  m_drawn : mg "drawn" = some (.ref a.f_drawn)
  F_places_of : Fun K "places_of" "places_of" s_places_of a.f_places_of a.d_places_of
  B_places_of : Binds K a.d_places_of ["crowd"] []
  m_places_of : mg "places_of" = some (.ref a.f_places_of)
  F_matrix_by : Fun K "matrix_by" "matrix_by" s_matrix_by a.f_matrix_by a.d_matrix_by
  B_matrix_by : Binds K a.d_matrix_by ["many", "tell"] []
  m_matrix_by : mg "matrix_by" = some (.ref a.f_matrix_by)
  F_matrix_row : Fun K "matrix_row" "matrix_row" s_matrix_row a.f_matrix_row a.d_matrix_row
  B_matrix_row : Binds K a.d_matrix_row ["one", "many", "tell"] []
  m_matrix_row : mg "matrix_row" = some (.ref a.f_matrix_row)
  F_need_number : Fun K "need_number" "need_number" s_need_number a.f_need_number a.d_need_number
  B_need_number : Binds K a.d_need_number ["thing", "low", "high"] []
  m_need_number : mg "need_number" = some (.ref a.f_need_number)
  F_few_node : Fun K "few_node" "few_node" s_few_node a.f_few_node a.d_few_node
  B_few_node : Binds K a.d_few_node ["ahead", "wanted", "taken"] []
  m_few_node : mg "few_node" = some (.ref a.f_few_node)
  F_few_chance : Fun K "few_chance" "few_chance" s_few_chance a.f_few_chance a.d_few_chance
  B_few_chance : Binds K a.d_few_chance ["there", "wanted", "is_same"] []
  m_few_chance : mg "few_chance" = some (.ref a.f_few_chance)
  F_L_cell : Fun K "_law_cell" "_law_cell" s_L_cell a.f_L_cell a.d_L_cell
  B_L_cell : Binds K a.d_L_cell ["_law_script", "_law_k"] []
  m_L_cell : mg "_law_cell" = some (.ref a.f_L_cell)
  F_L_mix : Fun K "_law_mix" "_law_mix" s_L_mix a.f_L_mix a.d_L_mix
  B_L_mix : Binds K a.d_L_mix ["_law_cell_here", "_law_k"] []
  m_L_mix : mg "_law_mix" = some (.ref a.f_L_mix)
  F_L_row : Fun K "_law_row" "_law_row" s_L_row a.f_L_row a.d_L_row
  B_L_row : Binds K a.d_L_row ["_law_cell_here", "_law_bit", "_law_many", "_law_most"] []
  m_L_row : mg "_law_row" = some (.ref a.f_L_row)
  F_L_whole : Fun K "_law_whole" "_law_whole" s_L_whole a.f_L_whole a.d_L_whole
  B_L_whole : Binds K a.d_L_whole ["_law_found"] []
  m_L_whole : mg "_law_whole" = some (.ref a.f_L_whole)
  F_L_low : Fun K "_law_low" "_law_low" s_L_low a.f_L_low a.d_L_low
  B_L_low : Binds K a.d_L_low ["_law_top", "_law_bottom"] []
  m_L_low : mg "_law_low" = some (.ref a.f_L_low)
  F_L_fraction : Fun K "_law_fraction" "_law_fraction" s_L_fraction a.f_L_fraction a.d_L_fraction
  B_L_fraction : Binds K a.d_L_fraction ["_law_found", "_law_due"] []
  m_L_fraction : mg "_law_fraction" = some (.ref a.f_L_fraction)
  F_L_matrix : Fun K "_law_matrix" "_law_matrix" s_L_matrix a.f_L_matrix a.d_L_matrix
  B_L_matrix : Binds K a.d_L_matrix ["_law_found", "_law_due"] []
  m_L_matrix : mg "_law_matrix" = some (.ref a.f_L_matrix)
  F_L_crowd : Fun K "_law_crowd" "_law_crowd" s_L_crowd a.f_L_crowd a.d_L_crowd
  B_L_crowd : Binds K a.d_L_crowd ["_law_script", "_law_start", "_law_most"] []
  m_L_crowd : mg "_law_crowd" = some (.ref a.f_L_crowd)
  F_L_thrown : Fun K "_law_thrown" "_law_thrown" s_L_thrown a.f_L_thrown a.d_L_thrown
  B_L_thrown : Binds K a.d_L_thrown ["_law_node", "_law_rows", "_law_kept"] []
  m_L_thrown : mg "_law_thrown" = some (.ref a.f_L_thrown)
  F_L_few : Fun K "_law_few" "_law_few" s_L_few a.f_L_few a.d_L_few
  B_L_few : Binds K a.d_L_few ["_law_places", "_law_many", "_law_throws"] []
  m_L_few : mg "_law_few" = some (.ref a.f_L_few)
  F_L_counts : Fun K "_law_counts" "_law_counts" s_L_counts a.f_L_counts a.d_L_counts
  B_L_counts : Binds K a.d_L_counts ["_law_many", "_law_every"] []
  m_L_counts : mg "_law_counts" = some (.ref a.f_L_counts)
  F_law : Fun K "law" "law" s_law a.f_law a.d_law
  B_law : Binds K a.d_law ["_law_script"] []
  m_law : mg "law" = some (.ref a.f_law)
  g_MOST_MANY : ∃ u, mg "MOST_MANY" = some u ∧ RelV (.int 24) u
  mc_SpeakError : mg "SpeakError" = some (.ref a.c_SpeakError)
  g_SpeakError : ∃ u, mg "SpeakError" = some u ∧ RelV (.ref a.c_SpeakError) u
  kc_SpeakError : PySem.W.keepIn K (.ref a.c_SpeakError) = true
  xc_SpeakError : XCls K a.c_SpeakError
  xh_SpeakError : XHd K a.c_SpeakError
  xi_SpeakError : xIn K a.c_SpeakError none = true
  mc_NoPlan : mg "NoPlan" = some (.ref a.c_NoPlan)
  g_NoPlan : ∃ u, mg "NoPlan" = some u ∧ RelV (.ref a.c_NoPlan) u
  kc_NoPlan : PySem.W.keepIn K (.ref a.c_NoPlan) = true
  xc_NoPlan : XCls K a.c_NoPlan
  xh_NoPlan : XHd K a.c_NoPlan
  xi_NoPlan : xIn K a.c_NoPlan (some (.ref a.i_NoPlan)) = true
  fn_NoPlan : PySem.W.isFn K (.ref a.i_NoPlan) = true
  Fi_NoPlan : Fun K "__init__" "NoPlan.__init__" s_NoPlan___init__ a.i_NoPlan a.e_NoPlan
  Bi_NoPlan : Binds K a.e_NoPlan ["self", "place"] []
  sx_NoPlan_place : ∃ cd, XSet K a.c_NoPlan "place" cd
  mc_NoThrow : mg "NoThrow" = some (.ref a.c_NoThrow)
  g_NoThrow : ∃ u, mg "NoThrow" = some u ∧ RelV (.ref a.c_NoThrow) u
  kc_NoThrow : PySem.W.keepIn K (.ref a.c_NoThrow) = true
  xc_NoThrow : XCls K a.c_NoThrow
  xh_NoThrow : XHd K a.c_NoThrow
  xi_NoThrow : xIn K a.c_NoThrow (some (.ref a.i_NoThrow)) = true
  fn_NoThrow : PySem.W.isFn K (.ref a.i_NoThrow) = true
  Fi_NoThrow : Fun K "__init__" "NoThrow.__init__" s_NoThrow___init__ a.i_NoThrow a.e_NoThrow
  Bi_NoThrow : Binds K a.e_NoThrow ["self", "place"] []
  sx_NoThrow_place : ∃ cd, XSet K a.c_NoThrow "place" cd
  mc_Node : mg "Node" = some (.ref a.c_Node)
  g_Node : ∃ u, mg "Node" = some u ∧ RelV (.ref a.c_Node) u
  cl_Node : Cls K a.c_Node
  ty_Node : ∀ H x dx fs, H x = some (.ins a.c_Node dx fs) → TyOf K H (.ref x) (.ref a.c_Node)
  mc_Told : mg "Told" = some (.ref a.c_Told)
  g_Told : ∃ u, mg "Told" = some u ∧ RelV (.ref a.c_Told) u
  cl_Told : Cls K a.c_Told
  ty_Told : ∀ H x dx fs, H x = some (.ins a.c_Told dx fs) → TyOf K H (.ref x) (.ref a.c_Told)
  mk_Told : Mk K a.c_Told a.i_Told
  Fi_Told : Fun K "__init__" "Told.__init__" s_Told___init__ a.i_Told a.e_Told
  Bi_Told : Binds K a.e_Told ["self", "kept"] []
  na_Told_rising : NoAttr K a.c_Told "rising"
  mt_Told_is_told : Meth K a.c_Told "is_told" a.x_Told_is_told
  mt_Told_kept : Meth K a.c_Told "kept" a.x_Told_kept
  mt_Told_sides : Meth K a.c_Told "sides" a.x_Told_sides
  mt_Told_parts : Meth K a.c_Told "parts" a.x_Told_parts
  mc_Die : mg "Die" = some (.ref a.c_Die)
  g_Die : ∃ u, mg "Die" = some u ∧ RelV (.ref a.c_Die) u
  cl_Die : Cls K a.c_Die
  ty_Die : ∀ H x dx fs, H x = some (.ins a.c_Die dx fs) → TyOf K H (.ref x) (.ref a.c_Die)
  mk_Die : Mk K a.c_Die a.i_Die
  Fi_Die : Fun K "__init__" "Die.__init__" s_Die___init__ a.i_Die a.e_Die
  Bi_Die : Binds K a.e_Die ["self", "parts"] []
  na_Die_makes : NoAttr K a.c_Die "makes"
  mt_Die_is_told : Meth K a.c_Die "is_told" a.x_Die_is_told
  mt_Die_kept : Meth K a.c_Die "kept" a.x_Die_kept
  mt_Die_sides : Meth K a.c_Die "sides" a.x_Die_sides
  mt_Die_parts : Meth K a.c_Die "parts" a.x_Die_parts
  mt_Die_after : Meth K a.c_Die "after" a.x_Die_after
  mc_Plan : mg "Plan" = some (.ref a.c_Plan)
  g_Plan : ∃ u, mg "Plan" = some u ∧ RelV (.ref a.c_Plan) u
  cl_Plan : Cls K a.c_Plan
  ty_Plan : ∀ H x dx fs, H x = some (.ins a.c_Plan dx fs) → TyOf K H (.ref x) (.ref a.c_Plan)
  mc_Few : mg "Few" = some (.ref a.c_Few)
  g_Few : ∃ u, mg "Few" = some u ∧ RelV (.ref a.c_Few) u
  cl_Few : Cls K a.c_Few
  ty_Few : ∀ H x dx fs, H x = some (.ins a.c_Few dx fs) → TyOf K H (.ref x) (.ref a.c_Few)
  mk_Few : Mk K a.c_Few a.i_Few
  Fi_Few : Fun K "__init__" "Few.__init__" s_Few___init__ a.i_Few a.e_Few
  Bi_Few : Binds K a.e_Few ["self", "many"] []
  na_Few_many : NoAttr K a.c_Few "many"
  mt_Few_node : Meth K a.c_Few "node" a.x_Few_node
  mt_Few_matrix : Meth K a.c_Few "matrix" a.x_Few_matrix
  mt_Few_bounds : Meth K a.c_Few "bounds" a.x_Few_bounds
  mt_Few_text : Meth K a.c_Few "text" a.x_Few_text
  F_Told_is_told : Fun K "is_told" "Told.is_told" s_Told_is_told a.x_Told_is_told a.y_Told_is_told
  B_Told_is_told : Binds K a.y_Told_is_told ["self"] []
  F_Die_is_told : Fun K "is_told" "Die.is_told" s_Die_is_told a.x_Die_is_told a.y_Die_is_told
  B_Die_is_told : Binds K a.y_Die_is_told ["self"] []
  F_Told_kept : Fun K "kept" "Told.kept" s_Told_kept a.x_Told_kept a.y_Told_kept
  B_Told_kept : Binds K a.y_Told_kept ["self"] []
  F_Die_kept : Fun K "kept" "Die.kept" s_Die_kept a.x_Die_kept a.y_Die_kept
  B_Die_kept : Binds K a.y_Die_kept ["self"] []
  F_Told_sides : Fun K "sides" "Told.sides" s_Told_sides a.x_Told_sides a.y_Told_sides
  B_Told_sides : Binds K a.y_Told_sides ["self"] []
  F_Die_sides : Fun K "sides" "Die.sides" s_Die_sides a.x_Die_sides a.y_Die_sides
  B_Die_sides : Binds K a.y_Die_sides ["self"] []
  F_Told_parts : Fun K "parts" "Told.parts" s_Told_parts a.x_Told_parts a.y_Told_parts
  B_Told_parts : Binds K a.y_Told_parts ["self"] []
  F_Die_parts : Fun K "parts" "Die.parts" s_Die_parts a.x_Die_parts a.y_Die_parts
  B_Die_parts : Binds K a.y_Die_parts ["self"] []
  F_Die_after : Fun K "after" "Die.after" s_Die_after a.x_Die_after a.y_Die_after
  B_Die_after : Binds K a.y_Die_after ["self", "throw"] []
  F_Few_node : Fun K "node" "Few.node" s_Few_node a.x_Few_node a.y_Few_node
  B_Few_node : Binds K a.y_Few_node ["self", "crowd"] []
  F_Few_matrix : Fun K "matrix" "Few.matrix" s_Few_matrix a.x_Few_matrix a.y_Few_matrix
  B_Few_matrix : Binds K a.y_Few_matrix ["self", "crowd"] []
  F_Few_bounds : Fun K "bounds" "Few.bounds" s_Few_bounds a.x_Few_bounds a.y_Few_bounds
  B_Few_bounds : Binds K a.y_Few_bounds ["self", "crowd"] []
  F_Few_text : Fun K "text" "Few.text" s_Few_text a.x_Few_text a.y_Few_text
  B_Few_text : Binds K a.y_Few_text ["self"] []
  z_abs : mg "abs" = none
  z_bool : mg "bool" = none
  z_enumerate : mg "enumerate" = none
  z_int : mg "int" = none
  z_isinstance : mg "isinstance" = none
  z_len : mg "len" = none
  z_list : mg "list" = none
  z_max : mg "max" = none
  z_min : mg "min" = none
  z_range : mg "range" = none
  z_sorted : mg "sorted" = none
  z_str : mg "str" = none
  z_sum : mg "sum" = none
  z_tuple : mg "tuple" = none
  z_zip : mg "zip" = none
  bl : ∀ (s : Shared) (u : Value), BindsTo s a.d_law ⟨[u], []⟩ [("_law_script", u)]
noncomputable def spLaw (K : PySem.W.Frag) (ts : List Addr) : Sp := fun vs H Q _ => ∃ (p : Addr) (ns : List Int), vs = [.ref p] ∧ SqL K H p (ns.map V.int) ∧ ns.length ≤ 63 ∧ (∀ P ∈ ts, H P = some (.tbl #[])) ∧ ∀ H', Q (.bl true) H'
theorem law_start {K : PySem.W.Frag} {ts : List Addr} {H : Hp} {a : Addr} {ns : List Int} (hl : ns.length ≤ 63) (hT : ∀ P ∈ ts, H P = some (.tbl #[])) (hS : SqL K H a (ns.map V.int)) : spLaw K ts [.ref a] H (fun v _ => v = .bl true) fun _ _ _ => False := ⟨a, ns, rfl, hS, hl, hT, fun _ => rfl⟩
noncomputable def cellC (ns : List Int) (k : Int) : Int := if k < (ns.length : Int) then ns.getD k.toNat 0 else 7919 * k + 13
noncomputable def spCell (K : PySem.W.Frag) : Sp := fun vs H Q _ => ∃ (p : Addr) (ns : List Int) (k : Int), vs = [.ref p, .int k] ∧ SqL K H p (ns.map V.int) ∧ ns.length ≤ 63 ∧ 0 ≤ k ∧ k ≤ 1000 ∧ Q (.int (cellC ns k)) H
noncomputable def spMix : Sp := fun vs H Q _ => ∃ (c k : Int), vs = [.int c, .int k] ∧ 0 ≤ k ∧ k ≤ 1000 ∧ ∀ r : Int, 0 ≤ r → Q (.int r) H
noncomputable def spRow : Sp := fun vs H Q _ => ∃ (c b n m : Int), vs = [.int c, .int b, .int n, .int m] ∧ 0 ≤ n ∧ n ≤ 24 ∧ 1 ≤ m ∧ m ≤ 1000000000000 ∧ ∀ H' p (ns : List Int), Same H H' → H p = none → H' p = some (.lst (ns.map V.int)) → (ns.length : Int) = n → (∀ x ∈ ns, 0 ≤ x ∧ x < m) → Q (.ref p) H'
noncomputable def spGcd : Sp := fun vs H Q _ => ∃ (x y : Int), vs = [.int x, .int y] ∧ 0 ≤ x ∧ 0 ≤ y ∧ Q (.int (Int.gcd x y)) H
noncomputable def Tell (H : Hp) (Q : VK) (T B : Int) : Prop := ∀ H' p, Same H H' → H' p = some (.tup [.int (lowP T B).1, .int (lowP T B).2]) → Q (.ref p) H'
noncomputable def spLow : Sp := fun vs H Q _ => ∃ (T B : Int), vs = [.int T, .int B] ∧ 0 < B ∧ Bt 3000 T ∧ Bt 3000 B ∧ Tell H Q T B
noncomputable def spNo : Sp := fun _ _ _ _ => False
noncomputable def spWhole : Sp := fun vs H Q _ => ∃ (x : Int), vs = [.int x] ∧ Q (.bl true) H
noncomputable def spFraction (K : PySem.W.Frag) : Sp := fun vs H Q _ => ∃ (p q : Addr) (t b : Int), vs = [.ref p, .ref q] ∧ SqT K H p [.int t, .int b] ∧ SqT K H q [.int t, .int b] ∧ Q (.bl true) H
noncomputable def PT (K : PySem.W.Frag) (H : Hp) (p : Addr) (f : Int × Int) : Prop := H p = some (.tup [.int f.1, .int f.2]) ∨ tupIn K p [.int f.1, .int f.2] = true
theorem PT.sq {K : PySem.W.Frag} {H : Hp} {p : Addr} {f : Int × Int} (h : PT K H p f) : SqT K H p [.int f.1, .int f.2] := h.elim SqT.of tup_in
noncomputable def IsF (K : PySem.W.Frag) (H : Hp) (f : Int × Int) (x : V) : Prop := ∃ p, x = .ref p ∧ PT K H p f
theorem IsF.tk {K : PySem.W.Frag} {H H' : Hp} {f : Int × Int} {x : V} (k : TK H H') (h : IsF K H f x) : IsF K H' f x := let ⟨p, e, q⟩ := h; ⟨p, e, q.imp (fun z => k _ _ z) id⟩
noncomputable abbrev AllF (K : PySem.W.Frag) (H : Hp) : List (Int × Int) → List V → Prop := PySem.Paired (IsF K H)
theorem IsF.same {K : PySem.W.Frag} {H H' : Hp} {f : Int × Int} {x : V} (s : Same H H') (h : IsF K H f x) : IsF K H' f x := h.tk s.tk
theorem AllF.same {K : PySem.W.Frag} {H H' : Hp} (s : Same H H') : ∀ {fs : List (Int × Int)} {xs : List V}, AllF K H fs xs → AllF K H' fs xs
  | _, _, .nil => .nil
  | _, _, .cons r t => .cons (r.same s) (AllF.same s t)
theorem AllF.tk {K : PySem.W.Frag} {H H' : Hp} (k : TK H H') : ∀ {fs : List (Int × Int)} {xs : List V}, AllF K H fs xs → AllF K H' fs xs
  | _, _, .nil => .nil
  | _, _, .cons r t => .cons (r.tk k) (AllF.tk k t)
theorem AllF.get {K : PySem.W.Frag} {H : Hp} : ∀ {fs : List (Int × Int)} {xs : List V} {i : Nat} {x : V}, AllF K H fs xs → xs[i]? = some x → ∃ f, fs[i]? = some f ∧ IsF K H f x
  | _, _, _, _, .nil, h => by cases h
  | _, _, 0, _, .cons r _, h => ⟨_, rfl, by cases h; exact r⟩
  | _, _, i + 1, _, .cons _ t, h => AllF.get (i := i) t h
theorem AllF.snoc {K : PySem.W.Frag} {H : Hp} {f : Int × Int} {x : V} (r : IsF K H f x) : ∀ {fs : List (Int × Int)} {xs : List V}, AllF K H fs xs → AllF K H (fs ++ [f]) (xs ++ [x])
  | _, _, .nil => .cons r .nil
  | _, _, .cons q t => .cons q (AllF.snoc r t)
theorem AllF.len {K : PySem.W.Frag} {H : Hp} {fs : List (Int × Int)} {xs : List V} (h : AllF K H fs xs) : fs.length = xs.length := Paired.length h
theorem abs_gcd (T B : Int) : Int.gcd (if T < 0 then -T else T) B = Int.gcd T B := by
  split
  · exact Int.neg_gcd
  · rfl
theorem px0 {K : PySem.W.Frag} {H : Hp} {p : Addr} {x y : V} {Q : VK} (h : SqT K H p [x, y]) (q : Q x H) : rIx K (.ref p) (.int 0) H Q := .inr (.inl ⟨p, _, _, x, rfl, rfl, h, atI_nat (j := 0) rfl, q⟩)
theorem px1 {K : PySem.W.Frag} {H : Hp} {p : Addr} {x y : V} {Q : VK} (h : SqT K H p [x, y]) (q : Q y H) : rIx K (.ref p) (.int 1) H Q := .inr (.inl ⟨p, _, _, y, rfl, rfl, h, atI_nat (j := 1) rfl, q⟩)
theorem two_le (x y : V) : [x, y].length ≤ sizeLine := by show 2 ≤ sizeLine; decide
section
variable {P : Program} {w : World} {K : PySem.W.Frag} {mg : Str → Option Value} {base : Heap} {a : Ad}
theorem ok_no {k : Nat} {f : Addr} {fd : FuncData} {ps : List Str} : FnOk P w K mg base CX0 k f fd ps spNo := ⟨fun _ _ _ _ h => h.elim, fun _ _ _ _ _ _ _ _ _ _ _ _ _ h => h.elim⟩
theorem ok_cell (T : Txt K mg a) : FnOk P w K mg base CX0 1 a.f_L_cell a.d_L_cell ["_law_script", "_law_k"] (spCell K) := by
  refine T.F_L_cell.ok sc_L_cell (fun vs H Q E h => ?_) (fun cdv A outer s H vs Q E hr h => ?_)
  · obtain ⟨p, ns, k, rfl, _⟩ := h; rfl
  · obtain ⟨p, ns, k, rfl, hS, hl, h0, h1, q⟩ := h
    refine ⟨_, (pss_cons (ps_if (t_cmp o_lt (vr 1) (pe_callB call_lenM rfl T.z_len bt_len (pa_cons (vr 0) pa_nil)) (nomark _)) (pss_one (ps_ret (pe_ix ix_seq (vr 0) (vr 1) (fun _ _ => rfl)))) pss_nil) (pss_one (ps_ret (pe_op o_add (pe_op o_mulB pe_int (vr 1)) pe_int)))), ?_⟩
    refine ⟨ns.map V.int, .inl hS, ?_⟩
    rw [List.length_map]
    unfold cellC at q
    refine ite2 (fun c => ?_) (fun c => ?_)
    · have c' : k < (ns.length : Int) := of_decide_eq_true c
      rw [if_pos c'] at q
      refine .inl ⟨p, _, k, .int (ns.getD k.toNat 0), rfl, rfl, hS, ?_, q⟩
      have e : ((k.toNat : Nat) : Int) = k := by omega
      rw [← e]
      refine atI_nat ?_
      have hk : k.toNat < ns.length := by omega
      rw [e]
      simp [List.getElem?_map, List.getD, hk]
    · have c' : ¬ k < (ns.length : Int) := fun z => c (decide_eq_true z)
      rw [if_neg c'] at q
      exact ⟨clB, q⟩
theorem ok_mix (T : Txt K mg a) : FnOk P w K mg base CX0 1 a.f_L_mix a.d_L_mix ["_law_cell_here", "_law_k"] spMix := by
  refine T.F_L_mix.ok sc_L_mix (fun vs H Q E h => ?_) (fun cdv A outer s H vs Q E hr h => ?_)
  · obtain ⟨c, k, rfl, _⟩ := h; rfl
  · obtain ⟨c, k, rfl, h0, h1, q⟩ := h
    refine ⟨_, (pss_cons (ps_set (i := 2) sc_L_mix.nd rfl (Or.inl rfl) (pe_op o_mod (pe_op o_mulB (pe_op o_add (pe_op o_add (pe_op o_mod (vr 0) pe_int) (pe_op o_mulB pe_int (vr 1))) pe_int) pe_int) pe_int)) (pss_cons (ps_set (i := 2) sc_L_mix.nd rfl (Or.inl rfl) (pe_op o_mod (pe_op o_add (pe_op o_mulB (vr 2) (vr 2)) (pe_op o_mulB pe_int (vr 1))) pe_int)) (pss_one (ps_ret (pe_op o_mod (pe_op o_mulB (vr 2) (pe_op o_add (vr 2) pe_int)) pe_int))))), ?_⟩
    exact ⟨cp, clB, crB, cp, clB (by omega) (by omega), clB, cp, clB (by omega) (by omega), cp, q _ (by omega)⟩
theorem ok_gcd (T : Txt K mg a) : FnOk P w K mg base CX0 1 a.f_greatest_divisor a.d_greatest_divisor ["one", "other"] spGcd := by
  refine T.F_greatest_divisor.ok sc_greatest_divisor (fun vs H Q E h => ?_) (fun cdv A outer s H vs Q E hr h => ?_)
  · obtain ⟨x, y, rfl, _⟩ := h; rfl
  · obtain ⟨x0, y0, rfl, h0, h1, q⟩ := h
    refine ⟨_, (pss_cons (ps_while PassesOwn.never (pt_truth (vr 1) (fun _ => rfl)) (pss_one (ps_par rfl sc_greatest_divisor.nd (i := 0) (j := 1) rfl rfl (by decide) rfl rfl (pa_cons (vr 1) (pa_cons (pe_op o_mod (vr 0) (vr 1)) pa_nil)) rfl))) (pss_one (ps_ret (vr 0)))), ?_⟩
    refine ⟨fun m σ H' => H' = H ∧ ∃ x y : Int, 0 ≤ x ∧ 0 ≤ y ∧ m = y.toNat ∧ Int.gcd x y = Int.gcd x0 y0 ∧ σ = [some (.int x), some (.int y)], ⟨_, rfl, x0, y0, h0, h1, rfl, rfl, rfl⟩, ?_⟩
    rintro m σ H' ⟨rfl, x, y, hx, hy, rfl, hg, rfl⟩
    refine ⟨_, rfl, ?_⟩
    refine ifB (fun c => ?_) (fun c => ?_)
    · have c' : y ≠ 0 := by simpa using c
      refine ⟨fun σ' H'' => H'' = H' ∧ σ' = [some (.int y), some (.int (x % y))], ?_, ?_⟩
      · rintro σ' H'' ⟨rfl, rfl⟩
        exact ⟨(x % y).toNat, by have := Int.emod_lt_of_pos x (show 0 < y by omega); have := Int.emod_nonneg x c'; omega, rfl, y, x % y, hy, Int.emod_nonneg x c', rfl, by rw [gcd_step, hg], rfl⟩
      · exact ⟨cp (by omega), _, _, rfl, rfl, rfl⟩
    · have c' : y = 0 := by simpa using c
      subst c'
      rw [Int.gcd_zero_right] at hg
      have : x = (Int.gcd x0 y0 : Int) := by omega
      rw [← this] at q
      exact q
theorem ok_share (T : Txt K mg a) : FnOk P w K mg base CX0 2 a.f_share a.d_share ["top", "bottom"] spLow := by
  have G_share : FnOk P w K mg base CX0 1 a.f_share a.d_share ["top", "bottom"] spNo := ok_no
  have G_greatest_divisor : FnOk P w K mg base CX0 1 _ _ _ spGcd := ok_gcd T
  refine T.F_share.ok sc_share (fun vs H Q E h => ?_) (fun cdv A outer s H vs Q E hr h => ?_)
  · obtain ⟨x, y, rfl, _⟩ := h; rfl
  · obtain ⟨t, b, rfl, hb, b1, b2, q⟩ := h
    refine ⟨_, (pss_cons (ps_if (t_cmp o_lt (vr 1) pe_int (nomark _)) (pss_one (ps_ret (pe_call G_share hr rfl T.m_share T.F_share.kp T.B_share .nil pass0 (pa_cons (pe_un u_neg (vr 0)) (pa_cons (pe_un u_neg (vr 1)) pa_nil))))) pss_nil) (pss_cons (ps_set (i := 2) sc_share.nd rfl (Or.inl rfl) (pe_call G_greatest_divisor hr rfl T.m_greatest_divisor T.F_greatest_divisor.kp T.B_greatest_divisor .nil pass0 (pa_cons (pe_callB call_abs rfl T.z_abs bt_abs (pa_cons (vr 0) pa_nil)) (pa_cons (vr 1) pa_nil)))) (pss_one (ps_ret (pe_tup (pa_cons (pe_op o_fdivB (vr 0) (vr 2)) (pa_cons (pe_op o_fdivB (vr 1) (vr 2)) pa_nil))))))), ?_⟩
    obtain ⟨l1, l2, l3, l4, l5⟩ := low t b hb
    refine ifC (fun c => absurd c (by omega)) (fun _ => ?_)
    refine ⟨t, rfl, ⟨_, _, rfl, by split <;> omega, by omega, ?_⟩⟩
    rw [abs_gcd]
    have hd : Bt 3000 (Int.gcd t b : Int) := b2.le (by omega)
    refine ⟨cdB l1 hd, cdB l1 hd, two_le _ _, fun p hp => ?_⟩
    exact q _ p (Same.new hp) upd_same
theorem ok_low (T : Txt K mg a) : FnOk P w K mg base CX0 1 a.f_L_low a.d_L_low ["_law_top", "_law_bottom"] spLow := by
  refine T.F_L_low.ok sc_L_low (fun vs H Q E h => ?_) (fun cdv A outer s H vs Q E hr h => ?_)
  · obtain ⟨x, y, rfl, _⟩ := h; rfl
  · obtain ⟨t, b, rfl, hb, b1, b2, q⟩ := h
    refine ⟨_, (pss_cons (ps_set (i := 2) sc_L_low.nd rfl (Or.inl rfl) (pe_callB call_abs rfl T.z_abs bt_abs (pa_cons (vr 0) pa_nil))) (pss_cons (ps_set (i := 3) sc_L_low.nd rfl (Or.inl rfl) (vr 1)) (pss_cons (ps_while PassesOwn.never (t_cmp o_gt (vr 3) pe_int (nomark _)) (pss_one (ps_par rfl sc_L_low.nd (i := 2) (j := 3) rfl rfl (by decide) rfl rfl (pa_cons (vr 3) (pa_cons (pe_op o_mod (vr 2) (vr 3)) pa_nil)) rfl))) (pss_one (ps_ret (pe_tup (pa_cons (pe_op o_fdivB (vr 0) (vr 2)) (pa_cons (pe_op o_fdivB (vr 1) (vr 2)) pa_nil)))))))), ?_⟩
    obtain ⟨l1, l2, l3, l4, l5⟩ := low t b hb
    have hd : Bt 3000 (Int.gcd t b : Int) := b2.le (by omega)
    refine ⟨t, rfl, ?_⟩
    refine ⟨fun m σ H' => H' = H ∧ ∃ x y : Int, 0 ≤ x ∧ 0 ≤ y ∧ m = y.toNat ∧ Int.gcd x y = Int.gcd t b ∧ σ = [some (.int t), some (.int b), some (.int x), some (.int y)], ⟨_, rfl, _, b, by split <;> omega, by omega, rfl, abs_gcd t b, rfl⟩, ?_⟩
    rintro m σ H' ⟨rfl, x, y, hx, hy, rfl, hg, rfl⟩
    refine ifC (fun c => ?_) (fun c => ?_)
    · have c' : y ≠ 0 := by have z : 0 < y := c; omega
      refine ⟨fun σ' H'' => H'' = H' ∧ σ' = [some (.int t), some (.int b), some (.int y), some (.int (x % y))], ?_, ?_⟩
      · rintro σ' H'' ⟨rfl, rfl⟩
        exact ⟨(x % y).toNat, by have := Int.emod_lt_of_pos x (show 0 < y by omega); have := Int.emod_nonneg x c'; omega, rfl, y, x % y, hy, Int.emod_nonneg x c', rfl, by rw [gcd_step, hg], rfl⟩
      · exact ⟨cp (by omega), _, _, rfl, rfl, rfl⟩
    · have c' : y = 0 := by have z : ¬ 0 < y := c; omega
      subst c'
      rw [Int.gcd_zero_right] at hg
      have e : x = (Int.gcd t b : Int) := by omega
      subst e
      refine ⟨cdB l1 hd, cdB l1 hd, two_le _ _, fun p hp => ?_⟩
      exact q _ p (Same.new hp) upd_same
theorem ok_whole (T : Txt K mg a) : FnOk P w K mg base CX0 1 a.f_L_whole a.d_L_whole ["_law_found"] spWhole := by
  refine T.F_L_whole.ok sc_L_whole (fun vs H Q E h => ?_) (fun cdv A outer s H vs Q E hr h => ?_)
  · obtain ⟨x, rfl, _⟩ := h; rfl
  · obtain ⟨x, rfl, q⟩ := h
    refine ⟨_, (pss_one (ps_ret (m_and (pe_callB call_isi rfl T.z_isinstance bt_isinstance (pa_cons (vr 0) (pa_cons (pe_bltn (v := .ty "int") rfl T.z_int bt_int rfl) pa_nil))) (pe_one (m_not (pe_callB call_isi rfl T.z_isinstance bt_isinstance (pa_cons (vr 0) (pa_cons (pe_bltn (v := .ty "bool") rfl T.z_bool bt_bool rfl) pa_nil)))))))), ?_⟩
    exact ⟨_, _, _, true, rfl, rfl, .int x, rfl, ⟨_, _, _, false, rfl, rfl, .int x, rfl, q⟩⟩
theorem dv_pair {H : Hp} {p : Addr} {t b : Int} (h : SqT K H p [.int t, .int b]) : DV K H (.tuple [.int t, .int b]) (.ref p) := by
  rw [DV]
  refine ⟨p, _, rfl, h, ?_⟩
  rw [DVs]
  refine ⟨_, _, rfl, by simp [DV], ?_⟩
  rw [DVs]
  exact ⟨_, _, rfl, by simp [DV], by simp [DVs]⟩
theorem shaped_pair (t b : Int) : SeqAt.shaped (.tuple [.int t, .int b]) = true := rfl
theorem ok_fraction (T : Txt K mg a) : FnOk P w K mg base CX0 2 a.f_L_fraction a.d_L_fraction ["_law_found", "_law_due"] (spFraction K) := by
  have G_L_whole : FnOk P w K mg base CX0 1 _ _ _ spWhole := ok_whole T
  refine T.F_L_fraction.ok sc_L_fraction (fun vs H Q E h => ?_) (fun cdv A outer s H vs Q E hr h => ?_)
  · obtain ⟨p, q, t, b, rfl, _⟩ := h; rfl
  · obtain ⟨p, r, t, b, rfl, hp, hr', q⟩ := h
    refine ⟨_, (pss_cons (ps_if (PW.pt (pw_or (pt_not (t_val (pe_callB call_iss rfl T.z_isinstance bt_isinstance (pa_cons (vr 0) (pa_cons (pe_bltn (v := .ty "tuple") rfl T.z_tuple bt_tuple rfl) pa_nil))))) (pw_or (t_cmp o_ne (pe_callB call_lenM rfl T.z_len bt_len (pa_cons (vr 0) pa_nil)) pe_int (nomark _)) (pw_or (pt_not (t_val (pe_call G_L_whole hr rfl T.m_L_whole T.F_L_whole.kp T.B_L_whole .nil pass0 (pa_cons (pe_ix ix_seq (vr 0) pe_int (fun _ _ => rfl)) pa_nil)))) (pw_or1 (pt_not (t_val (pe_call G_L_whole hr rfl T.m_L_whole T.F_L_whole.kp T.B_L_whole .nil pass0 (pa_cons (pe_ix ix_seq (vr 0) pe_int (fun _ _ => rfl)) pa_nil))))))))) (pss_one (ps_ret pe_bl)) pss_nil) (pss_one (ps_ret (pe_cmpR (o_eqD hr.units) (vr 0) (vr 1) (nomark _))))), ?_⟩
    refine ⟨_, _, _, true, rfl, rfl, .inr ⟨p, _, rfl, rfl, hp⟩, rfl, ?_⟩
    refine ⟨_, .inr hp, ?_⟩
    refine px0 hp ⟨t, rfl, px1 hp ⟨b, rfl, ?_⟩⟩
    refine ⟨.tuple [.int t, .int b], .tuple [.int t, .int b], dv_pair hp, dv_pair hr', shaped_pair t b, shaped_pair t b, ?_⟩
    rw [SeqAt.eqv_refl _ (SeqAt.canLay_of_shaped (shaped_pair t b))]
    exact q
theorem ok_row (T : Txt K mg a) : FnOk P w K mg base CX0 2 a.f_L_row a.d_L_row ["_law_cell_here", "_law_bit", "_law_many", "_law_most"] spRow := by
  have G_L_mix : FnOk P w K mg base CX0 1 _ _ _ spMix := ok_mix T
  refine T.F_L_row.ok sc_L_row (fun vs H Q E h => ?_) (fun cdv A outer s H vs Q E hr h => ?_)
  · obtain ⟨c, b, n, m, rfl, _⟩ := h; rfl
  · obtain ⟨c, b, n, m, rfl, n0, n1, m0, m1, q⟩ := h
    refine ⟨_, (pss_cons (ps_set (i := 4) sc_L_row.nd rfl (Or.inl rfl) (pe_lst pa_nil)) (pss_cons (ps_for PassesOwn.never rfl (pi_range1 rfl T.z_range (pa_cons (vr 2) pa_nil)) (pg_name (i := 5) sc_L_row.nd rfl (Or.inl rfl)) (pss_one (ps_if (t_cmp o_eq (pe_op o_mod (vr 1) pe_int) pe_int (nomark _)) (pss_cons (ps_expr (pe_m.append (vr 4) (pa_cons (pe_op o_mod (vr 0) (vr 3)) pa_nil))) (pss_one (ps_set (i := 0) sc_L_row.nd rfl (Or.inl rfl) (pe_op o_fdivB (vr 0) (vr 3))))) (pss_one (ps_expr (pe_m.append (vr 4) (pa_cons (pe_op o_mod (pe_call G_L_mix hr rfl T.m_L_mix T.F_L_mix.kp T.B_L_mix .nil pass0 (pa_cons (vr 0) (pa_cons (vr 5) pa_nil))) (vr 3)) pa_nil))))))) (pss_one (ps_ret (vr 4))))), ?_⟩
    have sl : sizeLine = 16777216 := sizeLine_eq
    refine ⟨Nat.zero_le _, fun p hp => ?_⟩
    refine ⟨n, rfl, by omega, by omega, ?_⟩
    refine for_range (fun i σ H' => ∃ (c' : Int) (ns : List Int) (x : Option V), H' = upd H p (.lst (ns.map V.int)) ∧ ns.length = i ∧ (∀ y ∈ ns, 0 ≤ y ∧ y < m) ∧ σ = [some (.int c'), some (.int b), some (.int n), some (.int m), some (.ref p), x]) ⟨c, [], none, rfl, rfl, (fun y hy => by cases hy), rfl⟩ ?_ ?_
    · rintro i σ H' hi ⟨c', ns, x, rfl, hl, hb, rfl⟩
      have sn : ∀ v : Int, 0 ≤ v → v < m → ∀ y ∈ ns ++ [v], 0 ≤ y ∧ y < m := fun v h0 h1 y hy => by
        rcases List.mem_append.mp hy with hy | hy
        · exact hb y hy
        · rw [List.mem_singleton.mp hy]; exact ⟨h0, h1⟩
      have em : ∀ v : Int, (ns.map V.int) ++ [V.int v] = (ns ++ [v]).map V.int := fun v => by rw [List.map_append]; rfl
      have lz : (ns.map V.int).length < sizeLine := by rw [List.length_map]; omega
      refine ⟨cp, ifC (fun _ => ?_) (fun _ => ?_)⟩
      · refine ⟨.inl ⟨rfl, _, SqL.of upd_same⟩, ⟨cp (by omega), ⟨p, _, _, rfl, rfl, upd_same, lz, ?_⟩⟩⟩
        refine ⟨cdB (by omega) (show Bt 40 m by unfold Bt; omega), ?_⟩
        rw [upd_upd, em]
        exact ⟨_, _, _, rfl, by rw [List.length_append, hl]; rfl, sn _ (Int.emod_nonneg _ (by omega)) (Int.emod_lt_of_pos _ (by omega)), rfl⟩
      · refine ⟨.inl ⟨rfl, _, SqL.of upd_same⟩, ⟨c', _, rfl, by omega, by omega, fun r r0 => ⟨cp (by omega), ⟨p, _, _, rfl, rfl, upd_same, lz, ?_⟩⟩⟩⟩
        rw [upd_upd, em]
        exact ⟨_, _, _, rfl, by rw [List.length_append, hl]; rfl, sn _ (Int.emod_nonneg _ (by omega)) (Int.emod_lt_of_pos _ (by omega)), rfl⟩
    · rintro σ H' ⟨c', ns, x, rfl, hl, hb, rfl⟩
      exact q _ p ns (Same.new hp) hp upd_same (by omega) hb
end
end My

set_option Elab.async false
set_option linter.all false
set_option maxRecDepth 100000
set_option maxHeartbeats 4000000
namespace My
open PySem L2 FrM
noncomputable def Srt (ns kept : List Int) : Prop := ns.Perm kept ∧ ns.Pairwise (· ≤ ·)
noncomputable def IsTold (a : Ad) (H : Hp) (v : V) (kept : List Int) : Prop := ∃ x dx t ns, v = .ref x ∧ H x = some (.ins a.c_Told dx [("rising", .ref t)]) ∧ H t = some (.tup (ns.map V.int)) ∧ Srt ns kept
noncomputable def IsLam (H : Hp) (d : LamD) (fv : List Str) (v : V) (vals : List V) : Prop := ∃ f c clos, v = .ref f ∧ H f = some (.ext (LamX f d clos c)) ∧ H c = some (.ext (CodeX c d.qual)) ∧ clos.map (·.1) = fv ∧ (clos.map (·.2)).Nodup ∧ CellsAt H clos vals
theorem cells_t {H H' : Hp} (s : SameT H H') : ∀ {clos : List (Str × Addr)} {vals : List V}, CellsAt H clos vals → CellsAt H' clos vals
  | _, _, .nil => .nil
  | _, _, .cons r t => .cons (s.at r) (cells_t s t)
theorem IsLam.t {H H' : Hp} {d : LamD} {fv : List Str} {v : V} {vals : List V} (s : SameT H H') (h : IsLam H d fv v vals) : IsLam H' d fv v vals := by
  obtain ⟨f, c, clos, h1, h2, h3, h4, h5, h6⟩ := h
  exact ⟨f, c, clos, h1, s.at h2, s.at h3, h4, h5, cells_t s h6⟩
theorem IsTold.t {a : Ad} {H H' : Hp} {v : V} {kept : List Int} (s : SameT H H') (h : IsTold a H v kept) : IsTold a H' v kept := by
  obtain ⟨x, dx, t, ns, h1, h2, h3, h4⟩ := h
  exact ⟨x, dx, t, ns, h1, s.at h2, s.at h3, h4⟩
noncomputable def LstI (H : Hp) (v : V) (ns : List Int) : Prop := ∃ l, v = .ref l ∧ H l = some (.lst (ns.map V.int))
theorem LstI.t {H H' : Hp} {v : V} {ns : List Int} (s : SameT H H') (h : LstI H v ns) : LstI H' v ns := by
  obtain ⟨l, h1, h2⟩ := h
  exact ⟨l, h1, s.at h2⟩
noncomputable abbrev fv1 : List Str := ["wanted", "taken", "rest", "ahead"]
noncomputable abbrev fv2 : List Str := ["wanted", "taken", "rest"]
noncomputable abbrev fvM : List Str := ["wanted", "there"]
noncomputable def IsDie (a : Ad) (H : Hp) (v : V) (ahead : List Int) (m : Nat) (taken : List Int) : Prop := ∃ x dx l p1 p2 f1 f2 va vt vr, v = .ref x ∧ H x = some (.ins a.c_Die dx [("makes", .ref l)]) ∧ H l = some (.lst [.ref p1, .ref p2]) ∧ H p1 = some (.tup [.int (m : Nat), f1]) ∧ H p2 = some (.tup [.int ((ahead.length : Int) - (m : Nat)), f2]) ∧
  IsLam H ld_few_node_1 fv1 f1 [.int (m : Nat), vt, vr, va] ∧ IsLam H ld_few_node_2 fv2 f2 [.int (m : Nat), vt, vr] ∧ LstI H va ahead ∧ LstI H vt taken ∧ LstI H vr (ahead.drop 1)
theorem IsDie.t {a : Ad} {H H' : Hp} {v : V} {ahead taken : List Int} {m : Nat} (s : SameT H H') (h : IsDie a H v ahead m taken) : IsDie a H' v ahead m taken := by
  obtain ⟨x, dx, l, p1, p2, f1, f2, va, vt, vr, h1, h2, h3, h4, h5, h6, h7, h8, h9, h10⟩ := h
  exact ⟨x, dx, l, p1, p2, f1, f2, va, vt, vr, h1, s.at h2, s.at h3, s.at h4, s.at h5, h6.t s, h7.t s, h8.t s, h9.t s, h10.t s⟩
noncomputable def IsFew (a : Ad) (H : Hp) (v : V) (ahead : List Int) (m : Nat) (taken : List Int) : Prop := ((m = 0 ∨ ahead.length ≤ m) ∧ IsTold a H v (if m = 0 then taken else taken ++ ahead)) ∨ (0 < m ∧ m < ahead.length ∧ IsDie a H v ahead m taken)
theorem IsFew.t {a : Ad} {H H' : Hp} {v : V} {ahead taken : List Int} {m : Nat} (s : SameT H H') (h : IsFew a H v ahead m taken) : IsFew a H' v ahead m taken :=
  h.imp (fun ⟨x, y⟩ => ⟨x, y.t s⟩) fun ⟨x, y, z⟩ => ⟨x, y, z.t s⟩
/-- every list of the node's own stands at an address of N -/
noncomputable def IsFewN (N : Addr → Prop) (a : Ad) (H : Hp) (v : V) (ahead : List Int) (m : Nat) (taken : List Int) : Prop := ((m = 0 ∨ ahead.length ≤ m) ∧ IsTold a H v (if m = 0 then taken else taken ++ ahead)) ∨ (0 < m ∧ m < ahead.length ∧ ∃ x dx l p1 p2 f1 f2 la lt lr, v = .ref x ∧ H x = some (.ins a.c_Die dx [("makes", .ref l)]) ∧ H l = some (.lst [.ref p1, .ref p2]) ∧ H p1 = some (.tup [.int (m : Nat), f1]) ∧ H p2 = some (.tup [.int ((ahead.length : Int) - (m : Nat)), f2]) ∧
  IsLam H ld_few_node_1 fv1 f1 [.int (m : Nat), .ref lt, .ref lr, .ref la] ∧ IsLam H ld_few_node_2 fv2 f2 [.int (m : Nat), .ref lt, .ref lr] ∧ H la = some (.lst (ahead.map V.int)) ∧ H lt = some (.lst (taken.map V.int)) ∧ H lr = some (.lst ((ahead.drop 1).map V.int)) ∧ N l ∧ N la ∧ N lt ∧ N lr)
theorem IsFewN.w {N : Addr → Prop} {a : Ad} {H : Hp} {v : V} {ahead taken : List Int} {m : Nat} (h : IsFewN N a H v ahead m taken) : IsFew a H v ahead m taken :=
  h.imp id fun ⟨x, y, x', dx, l, p1, p2, f1, f2, la, lt, lr, h1, h2, h3, h4, h5, h6, h7, h8, h9, h10, _⟩ => ⟨x, y, x', dx, l, p1, p2, f1, f2, .ref la, .ref lt, .ref lr, h1, h2, h3, h4, h5, h6, h7, ⟨la, rfl, h8⟩, ⟨lt, rfl, h9⟩, ⟨lr, rfl, h10⟩⟩
theorem IsFewN.t {N : Addr → Prop} {a : Ad} {H H' : Hp} {v : V} {ahead taken : List Int} {m : Nat} (s : SameT H H') (h : IsFewN N a H v ahead m taken) : IsFewN N a H' v ahead m taken :=
  h.imp (fun ⟨x, y⟩ => ⟨x, y.t s⟩) fun ⟨x, y, x', dx, l, p1, p2, f1, f2, la, lt, lr, h1, h2, h3, h4, h5, h6, h7, h8, h9, h10, r⟩ => ⟨x, y, x', dx, l, p1, p2, f1, f2, la, lt, lr, h1, s.at h2, s.at h3, s.at h4, s.at h5, h6.t s, h7.t s, s.at h8, s.at h9, s.at h10, r⟩
theorem notL {H : Hp} {b q : Addr} {o o' : HO} {zs : List V} (hq : H q = some (.lst zs)) (h : H b = some o) (n : ∀ ys, o ≠ .lst ys) : (upd H q o') b = some o := by
  rw [upd_ne (fun z => by rw [z, hq] at h; exact n zs (Option.some.inj h).symm)]; exact h
theorem cells_put {H : Hp} {q : Addr} {zs : List V} {o' : HO} (hq : H q = some (.lst zs)) : ∀ {clos : List (Str × Addr)} {vals : List V}, CellsAt H clos vals → CellsAt (upd H q o') clos vals
  | _, _, .nil => .nil
  | _, _, .cons r t => .cons (notL hq r (fun ys z => nomatch z)) (cells_put hq t)
theorem IsLam.put {H : Hp} {d : LamD} {fv : List Str} {v : V} {vals : List V} {q : Addr} {zs : List V} {o' : HO} (hq : H q = some (.lst zs)) (h : IsLam H d fv v vals) : IsLam (upd H q o') d fv v vals := by
  obtain ⟨f, c, clos, h1, h2, h3, h4, h5, h6⟩ := h
  exact ⟨f, c, clos, h1, notL hq h2 (fun ys z => nomatch z), notL hq h3 (fun ys z => nomatch z), h4, h5, cells_put hq h6⟩
theorem IsFewN.put {N : Addr → Prop} {a : Ad} {H : Hp} {v : V} {ahead taken : List Int} {m : Nat} {q : Addr} {zs : List V} {o' : HO} (hq : H q = some (.lst zs)) (n : ¬ N q) (h : IsFewN N a H v ahead m taken) : IsFewN N a (upd H q o') v ahead m taken := by
  have ne : ∀ {b}, N b → b ≠ q := fun hb z => n (z ▸ hb)
  refine h.imp (fun ⟨x, x', dx, t, ns, h1, h2, h3, h4⟩ => ⟨x, x', dx, t, ns, h1, notL hq h2 (fun ys z => nomatch z), notL hq h3 (fun ys z => nomatch z), h4⟩) fun ⟨x, y, x', dx, l, p1, p2, f1, f2, la, lt, lr, h1, h2, h3, h4, h5, h6, h7, h8, h9, h10, n1, n2, n3, n4⟩ => ⟨x, y, x', dx, l, p1, p2, f1, f2, la, lt, lr, h1, notL hq h2 (fun ys z => nomatch z), ?_, notL hq h4 (fun ys z => nomatch z), notL hq h5 (fun ys z => nomatch z), h6.put hq, h7.put hq, ?_, ?_, ?_, n1, n2, n3, n4⟩
  · rw [upd_ne (ne n1)]; exact h3
  · rw [upd_ne (ne n2)]; exact h8
  · rw [upd_ne (ne n3)]; exact h9
  · rw [upd_ne (ne n4)]; exact h10
noncomputable def spToldI (a : Ad) : Sp := fun vs H Q _ => ∃ (x dx l : Addr) (ns : List Int), vs = [.ref x, .ref l] ∧ H x = some (.ins a.c_Told dx []) ∧ H l = some (.lst (ns.map V.int)) ∧ ns.length < 64 ∧
  ∀ H' t ns', (∀ b o, b ≠ x → H b = some o → H' b = some o) → H' x = some (.ins a.c_Told dx [("rising", .ref t)]) → H' t = some (.tup (ns'.map V.int)) → Srt ns' ns → Q .non H'
noncomputable def spDieI (a : Ad) : Sp := fun vs H Q _ => ∃ (x dx l : Addr) (xs : List V), vs = [.ref x, .ref l] ∧ H x = some (.ins a.c_Die dx []) ∧ H l = some (.lst xs) ∧
  ∀ H' t, (∀ b o, b ≠ x → H b = some o → H' b = some o) → H' x = some (.ins a.c_Die dx [("makes", .ref t)]) → H' t = some (.lst xs) → H t = none → Q .non H'
noncomputable def spFewN (a : Ad) : Sp := fun vs H Q _ => ∃ (N : Addr → Prop) (la lt : Addr) (ahead taken : List Int) (m : Nat), vs = [.ref la, .int (m : Nat), .ref lt] ∧ (∀ b, H b = none → N b) ∧ N la ∧ N lt ∧ H la = some (.lst (ahead.map V.int)) ∧ H lt = some (.lst (taken.map V.int)) ∧ ahead.length + taken.length ≤ 40 ∧ TabsOk (tabs a) H ∧
  ∀ H' v, SameT H H' → TabsOk (tabs a) H' → IsFewN N a H' v ahead m taken → Q v H'
section
variable {P : Program} {w : World} {K : PySem.W.Frag} {mg : Str → Option Value} {base : Heap} {a : Ad}
theorem nd4 (n : Nat) : ([n + 1 + 1, n + 1 + 1 + 1, n + 1 + 1 + 1 + 1, n + 1] : List Nat).Nodup := by
  simp only [List.nodup_cons, List.mem_cons, List.not_mem_nil, or_false, not_or, not_false_eq_true, List.nodup_nil, and_true]
  omega
theorem nd3 (n : Nat) : ([n + 1 + 1, n + 1 + 1 + 1, n + 1 + 1 + 1 + 1] : List Nat).Nodup := by
  simp only [List.nodup_cons, List.mem_cons, List.not_mem_nil, or_false, not_or, not_false_eq_true, List.nodup_nil, and_true]
  omega
theorem oi_Told (T : Txt K mg a) : FnOk P w K mg base CX0 1 a.i_Told a.e_Told ["self", "kept"] (spToldI a) := by
  refine T.Fi_Told.ok sc_Told___init__ (fun vs H Q E h => ?_) (fun cdv A outer s H vs Q E hr h => ?_)
  · obtain ⟨x, dx, l, ns, rfl, _⟩ := h; rfl
  · obtain ⟨x, dx, l, ns, rfl, hx, hl, hn, q⟩ := h
    refine ⟨_, (pss_one (ps_fld (vr 0) (pe_callTy call_tuple_of rfl T.z_tuple bt_tuple (pa_cons (pe_callB call_sortedI rfl T.z_sorted bt_sorted (pa_cons (vr 1) pa_nil)) pa_nil)) rfl)), ?_⟩
    refine ⟨l, ns, rfl, SqL.of hl, hn, fun p ns' hp hs fp => ?_⟩
    have s1 := Same.new (o := .lst (ns'.map V.int)) fp
    refine ⟨p, _, rfl, .inl ⟨SqL.of upd_same, fun t ft => ?_⟩⟩
    have s2 := Same.new (o := .tup (ns'.map V.int)) ft
    have s12 := s1.trans s2
    have nt : t ≠ x := fun z => by rw [z, s1 _ _ hx] at ft; cases ft
    refine ⟨x, a.c_Told, dx, [], rfl, s12 _ _ hx, T.cl_Told, T.na_Told_rising, (by decide), ?_⟩
    exact q _ t ns' (fun b o n e => by rw [upd_ne n]; exact s12 _ _ e) upd_same (by rw [upd_ne nt]; exact upd_same) ⟨hp, hs⟩
theorem oi_Die (T : Txt K mg a) : FnOk P w K mg base CX0 1 a.i_Die a.e_Die ["self", "parts"] (spDieI a) := by
  refine T.Fi_Die.ok sc_Die___init__ (fun vs H Q E h => ?_) (fun cdv A outer s H vs Q E hr h => ?_)
  · obtain ⟨x, dx, l, xs, rfl, _⟩ := h; rfl
  · obtain ⟨x, dx, l, xs, rfl, hx, hl, q⟩ := h
    refine ⟨_, (pss_one (ps_fld (vr 0) (pe_callTy call_list_of rfl T.z_list bt_list (pa_cons (vr 1) pa_nil)) rfl)), ?_⟩
    refine ⟨l, xs, rfl, .inl (SqL.of hl), fun t ft => ?_⟩
    have s1 := Same.new (o := .lst xs) ft
    have nt : t ≠ x := fun z => by rw [z, hx] at ft; cases ft
    refine ⟨x, a.c_Die, dx, [], rfl, s1 _ _ hx, T.cl_Die, T.na_Die_makes, (by decide), ?_⟩
    exact q _ t (fun b o n e => by rw [upd_ne n]; exact s1 _ _ e) upd_same (by rw [upd_ne nt]; exact upd_same) ft
theorem made {H1 H' : Hp} {x dx : Addr} {o1 o2 : HO} (hx : H1 x = none) (hd : H1 dx = none) (k : ∀ b o, b ≠ x → (upd (upd H1 dx o1) x o2) b = some o → H' b = some o) : Same H1 H' := fun b o e => by
  refine k b o (ne_of_none e hx) ?_
  rw [upd_ne (ne_of_none e hx), upd_ne (ne_of_none e hd)]
  exact e
theorem ok_fewnode (T : Txt K mg a) (hB : Bm mg base) : FnOk P w K mg base CX0 3 a.f_few_node a.d_few_node ["ahead", "wanted", "taken"] (spFewN a) := by
  have G_Told : FnOk P w K mg base CX0 1 _ _ _ (spToldI a) := oi_Told T
  have G_Die : FnOk P w K mg base CX0 1 _ _ _ (spDieI a) := oi_Die T
  refine T.F_few_node.okL T.lcd_few_node sc_few_node (by decide +kernel) (fun vs H Q E h => ?_) (fun A outer s H vs Q E hr h => ?_)
  · obtain ⟨N, la, lt, ahead, taken, m, rfl, _⟩ := h; rfl
  · obtain ⟨N, la, lt, ahead, taken, m, rfl, hN, nA, nT, ha, ht, hlen, hT, q⟩ := h
    have small : sizeLine = 16777216 := sizeLine_eq
    refine ⟨_, (pr_cons (ps_if (t_cmp o_eq (vr 1) pe_int (nomark _)) (pss_one (ps_ret (pe_make T.mk_Told G_Told hr rfl T.mc_Told T.Bi_Told .nil pass0 (pa_cons (vr 2) pa_nil)))) pss_nil) (pr_cons (ps_if (t_cmp o_ge (vr 1) (pe_callB call_lenM rfl T.z_len bt_len (pa_cons (vr 0) pa_nil)) (nomark _)) (pss_one (ps_ret (pe_make T.mk_Told G_Told hr rfl T.mc_Told T.Bi_Told .nil pass0 (pa_cons (pe_op op_cat (vr 2) (vr 0)) pa_nil)))) pss_nil) (pr_cons (ps_set (i := 3) sc_few_node.nd rfl (Or.inr rfl) (pe_slice sl_any (vr 0) (po_some pe_int) po_none)) (pr_ret (pe_make T.mk_Die G_Die hr rfl T.mc_Die T.Bi_Die .nil pass0 (pa_cons (pe_lst (pa_cons (pe_tup (pa_cons (vr 1) (pa_cons (pe_lam (d := ld_few_node_1) rfl T.lch_few_node hB rfl (by with_unfolding_all rfl) rfl (tb_few_node a) (.head _) T.tnd tp_few_node) pa_nil))) (pa_cons (pe_tup (pa_cons (pe_op o_sub (pe_callB call_lenM rfl T.z_len bt_len (pa_cons (vr 0) pa_nil)) (vr 1)) (pa_cons (pe_lam (d := ld_few_node_2) rfl T.lch_few_node hB rfl (by with_unfolding_all rfl) rfl (tb_few_node a) (.tail _ (.head _)) T.tnd tp_few_node) pa_nil))) pa_nil))) pa_nil)))))), ?_⟩
    refine ifC (fun h0 => ?_) fun h0 => ?_
    · have m0 : m = 0 := by omega
      intro x dx hx hdx hne
      have s0 : Same H (upd (upd H dx (.own x)) x (.ins a.c_Told dx [])) := fun b o e => by rw [upd_ne (ne_of_none e hx), upd_ne (ne_of_none e hdx)]; exact e
      refine ⟨x, dx, lt, taken, rfl, upd_same, s0 _ _ ht, by omega, fun H' t ns' k h1 h2 h3 => ⟨rfl, ?_⟩⟩
      have sm := made hx hdx k
      exact q _ _ sm.t (hT.same sm) (.inl ⟨.inl m0, by rw [if_pos m0]; exact ⟨x, dx, t, ns', rfl, h1, h2, h3⟩⟩)
    have m1 : 0 < m := by omega
    refine ⟨_, .inl (SqL.of ha), ?_⟩
    refine ifC (fun h1 => ?_) fun h1 => ?_
    · have h1 : ahead.length ≤ m := by rw [List.length_map] at h1; omega
      refine ⟨lt, la, _, _, rfl, rfl, ht, ha, (by rw [List.length_map, List.length_map]; omega), fun r fr => ?_⟩
      rw [← List.map_append]
      have s1 := Same.new (o := .lst ((taken ++ ahead).map V.int)) fr
      have hr1 : (upd H r (.lst ((taken ++ ahead).map V.int))) r = some (.lst ((taken ++ ahead).map V.int)) := upd_same
      generalize upd H r (.lst ((taken ++ ahead).map V.int)) = H1 at s1 hr1
      intro x dx hx hdx hne
      have s0 : Same H1 (upd (upd H1 dx (.own x)) x (.ins a.c_Told dx [])) := fun b o e => by rw [upd_ne (ne_of_none e hx), upd_ne (ne_of_none e hdx)]; exact e
      refine ⟨x, dx, r, taken ++ ahead, rfl, upd_same, s0 _ _ hr1, (by rw [List.length_append]; omega), fun H' t ns' k g1 g2 g3 => ⟨rfl, ?_⟩⟩
      have sm := s1.trans (made hx hdx k)
      exact q _ _ sm.t (hT.same sm) (.inl ⟨.inr h1, by rw [if_neg (by omega)]; exact ⟨x, dx, t, ns', rfl, g1, g2, g3⟩⟩)
    have h1 : m < ahead.length := by rw [List.length_map] at h1; omega
    refine ⟨_, rfl, .inl ⟨_, SqL.of ha, fun lr fr => ?_⟩⟩
    have er : cutV (ahead.map V.int) (some 1) none = (ahead.drop 1).map V.int := by rw [List.map_drop]; exact cutV_drop _ 1
    rw [er]
    have s1 := Same.new (o := .lst ((ahead.drop 1).map V.int)) fr
    have hlr : (upd H lr (.lst ((ahead.drop 1).map V.int))) lr = some (.lst ((ahead.drop 1).map V.int)) := upd_same
    generalize upd H lr (.lst ((ahead.drop 1).map V.int)) = H1 at s1 hlr
    refine ⟨hT.same s1, fun f1 c1 H2 t2 hT2 n1 ef1 ec1 => ?_⟩
    refine ⟨(by decide : 2 ≤ sizeLine), fun p1 hp1 => ?_⟩
    have s3 := Same.new (o := .tup [.int (m : Nat), .ref f1]) hp1
    have ep1 : (upd H2 p1 (.tup [.int (m : Nat), .ref f1])) p1 = some (.tup [.int (m : Nat), .ref f1]) := upd_same
    generalize upd H2 p1 (.tup [.int (m : Nat), .ref f1]) = H3 at s3 ep1
    have t3 := (s1.t.trans t2).trans s3.t
    refine ⟨_, .inl (SqL.of (t3.at ha)), ?_⟩
    refine ⟨hT2.same s3, fun f2 c2 H4 t4 hT4 n2 ef2 ec2 => ?_⟩
    refine ⟨(by decide : 2 ≤ sizeLine), fun p2 hp2 => ?_⟩
    rw [List.length_map]
    have s5 := Same.new (o := .tup [.int ((ahead.length : Int) - (m : Nat)), .ref f2]) hp2
    have ep2 : (upd H4 p2 (.tup [.int ((ahead.length : Int) - (m : Nat)), .ref f2])) p2 = some (.tup [.int ((ahead.length : Int) - (m : Nat)), .ref f2]) := upd_same
    generalize upd H4 p2 (.tup [.int ((ahead.length : Int) - (m : Nat)), .ref f2]) = H5 at s5 ep2
    refine ⟨(by decide : 2 ≤ sizeLine), fun l0 hl0 => ?_⟩
    have s6 := Same.new (o := .lst [.ref p1, .ref p2]) hl0
    have el0 : (upd H5 l0 (.lst [.ref p1, .ref p2])) l0 = some (.lst [.ref p1, .ref p2]) := upd_same
    generalize upd H5 l0 (.lst [.ref p1, .ref p2]) = H6 at s6 el0
    intro x dx hx hdx hne
    have s0 : Same H6 (upd (upd H6 dx (.own x)) x (.ins a.c_Die dx [])) := fun b o e => by rw [upd_ne (ne_of_none e hx), upd_ne (ne_of_none e hdx)]; exact e
    refine ⟨x, dx, l0, _, rfl, upd_same, s0 _ _ el0, fun H7 l k g1 g2 g3 => ⟨rfl, fun H8 s8 hc => ?_⟩⟩
    have s7 := made hx hdx k
    have s68 := s7.trans s8
    have s58 := s6.trans s68
    have t48 := s5.trans s58
    have t38 := t4.trans t48.t
    have t28 := s3.t.trans t38
    have t18 := s1.t.trans (t2.trans t28)
    have cA := hc 0 _ _ _ rfl rfl (by with_unfolding_all rfl)
    have cW := hc 1 _ _ _ rfl rfl (by with_unfolding_all rfl)
    have cT := hc 2 _ _ _ rfl rfl (by with_unfolding_all rfl)
    have cR := hc 3 _ _ _ rfl rfl (by with_unfolding_all rfl)
    refine q _ _ t18 (hT4.same t48) (.inr ⟨m1, h1, x, dx, l, p1, p2, .ref f1, .ref f2, la, lt, lr, rfl, s8 _ _ g1, s8 _ _ g2, t38.at ep1, s58 _ _ ep2, ?_, ?_, t18.at ha, t18.at ht, (t2.trans t28).at hlr, hN _ ((s1.t.trans (t2.trans (s3.t.trans (t4.trans (s5.t.trans s6.t))))).free (s0.free g3)), nA, nT, hN _ fr⟩)
    · exact ⟨f1, c1, _, rfl, t28.at ef1, t28.at ec1, rfl, nd4 _, .cons cW (.cons cT (.cons cR (.cons cA .nil)))⟩
    · exact ⟨f2, c2, _, rfl, t48 _ _ ef2, t48 _ _ ec2, rfl, nd3 _, .cons cW (.cons cT (.cons cR .nil))⟩
end
end My

set_option Elab.async false
set_option linter.all false
set_option maxRecDepth 100000
set_option maxHeartbeats 4000000
namespace My
open PySem L2 FrM
theorem TabsOk.untrs {tabs : Tabs} {H : Hp} {clos : List (Str × Addr)} {vals : List V} (hT : TabsOk tabs H) (ca : CellsAt H clos vals) : TabsOk tabs (untrs H (clos.map (·.2))) := fun q hq => by
  obtain ⟨ps, e1, e2, e3⟩ := hT q hq
  exact ⟨ps, untrs_of ca e1 (fun v z => nomatch z), e2, fun l hl => (e3 l hl).imp id fun ⟨c, x, y⟩ => ⟨c, x, untrs_of ca y fun v => code_ne_cell⟩⟩
theorem back {H H' H3 : Hp} {clos : List (Str × Addr)} (s : SameT (untrs H (clos.map (·.2))) H') (s3 : Same H' H3) (hc : ∀ p ∈ clos, H3 p.2 = H p.2) : SameT H H3 := fun b o e => by
  by_cases hb : b ∈ clos.map (·.2)
  · obtain ⟨p, hp, rfl⟩ := List.mem_map.mp hb
    rw [hc p hp, e]
    exact ⟨fun _ => rfl, o, rfl⟩
  · exact (s.trans s3.t) b o (by rw [untrs_out hb]; exact e)
noncomputable def spL1 (a : Ad) : List V → Sp := fun vals vs H Q _ => ∃ (va vt vr : V) (ahead taken : List Int) (m : Nat), vals = [.int (m : Nat), vt, vr, va] ∧ vs = [] ∧ LstI H va ahead ∧ LstI H vt taken ∧ LstI H vr (ahead.drop 1) ∧ 0 < m ∧ m < ahead.length ∧ ahead.length + taken.length ≤ 40 ∧ TabsOk (tabs a) H ∧
  ∀ H' v, SameT H H' → TabsOk (tabs a) H' → IsFew a H' v (ahead.drop 1) (m - 1) (taken ++ ahead.take 1) → Q v H'
noncomputable def spL2 (a : Ad) : List V → Sp := fun vals vs H Q _ => ∃ (vt vr : V) (ahead taken : List Int) (m : Nat), vals = [.int (m : Nat), vt, vr] ∧ vs = [] ∧ LstI H vt taken ∧ LstI H vr (ahead.drop 1) ∧ ahead.length + taken.length ≤ 40 ∧ TabsOk (tabs a) H ∧
  ∀ H' v, SameT H H' → TabsOk (tabs a) H' → IsFew a H' v (ahead.drop 1) m taken → Q v H'
theorem ls1 : LamScope ld_few_node_1 fv1 [] := ⟨rfl, rfl, rfl, by decide +kernel, by decide +kernel, by decide +kernel, by decide +kernel, by decide +kernel⟩
theorem ls2 : LamScope ld_few_node_2 fv2 [] := ⟨rfl, rfl, rfl, by decide +kernel, by decide +kernel, by decide +kernel, by decide +kernel, by decide +kernel⟩
section
variable {P : Program} {w : World} {K : PySem.W.Frag} {mg : Str → Option Value} {base : Heap} {a : Ad}
theorem ok_l1 (T : Txt K mg a) (hB : Bm mg base) : LamOk P w K mg base 4 ld_few_node_1 fv1 [] (spL1 a) := by
  have G_few_node : FnOk P w K mg base CX0 3 _ _ _ (spFewN a) := ok_fewnode T hB
  refine lam_of ls1 (fun pm ctv clos c us hl => match us, hl with | [], _ => rfl) (fun vals vs H Q E h => ?_) (fun A outer s H f c clos vals vs Q E hr hfv ca h => ?_)
  · obtain ⟨va, vt, vr, ahead, taken, m, rfl, rfl, _⟩ := h; rfl
  · obtain ⟨va, vt, vr, ahead, taken, m, rfl, rfl, ⟨la, rfl, ha⟩, ⟨lt, rfl, ht⟩, ⟨lr, rfl, hr'⟩, m0, m1, hlen, hT, q⟩ := h
    have small : sizeLine = 16777216 := sizeLine_eq
    refine ⟨_, (pe_call G_few_node hr rfl T.m_few_node T.F_few_node.kp T.B_few_node .nil pass0 (pa_cons (vr 2) (pa_cons (pe_op o_sub (vr 0) pe_int) (pa_cons (pe_op op_cat (vr 1) (pe_slice sl_any (vr 3) po_none (po_some pe_int))) pa_nil)))), ?_⟩
    have ha' := untrs_of ca ha fun v z => nomatch z
    have ht' := untrs_of ca ht fun v z => nomatch z
    have hr2 := untrs_of ca hr' fun v z => nomatch z
    have hT' := TabsOk.untrs hT ca
    refine ⟨_, rfl, .inl ⟨_, SqL.of ha', fun l1 f1 => ?_⟩⟩
    have e1 : cutV (ahead.map V.int) none (some 1) = (ahead.take 1).map V.int := by rw [List.map_take]; exact cutV_take _ 1 (by rw [List.length_map]; omega)
    rw [e1]
    have s1 := Same.new (o := .lst ((ahead.take 1).map V.int)) f1
    have h1 := upd_same (H := untrs H (clos.map (·.2))) (a := l1) (o := .lst ((ahead.take 1).map V.int))
    generalize upd (untrs H (clos.map (·.2))) l1 (.lst ((ahead.take 1).map V.int)) = H1 at s1 h1
    refine ⟨lt, l1, _, _, rfl, rfl, s1 _ _ ht', h1, (by rw [List.length_map, List.length_map, List.length_take]; omega), fun l2 f2 => ?_⟩
    rw [← List.map_append]
    have s2 := Same.new (o := .lst ((taken ++ ahead.take 1).map V.int)) f2
    have s12 := s1.trans s2
    refine ⟨fun _ => True, lr, l2, ahead.drop 1, taken ++ ahead.take 1, m - 1, ?_, fun _ _ => trivial, trivial, trivial, s12 _ _ hr2, upd_same, ?_, hT'.same s12, fun H' v t' hT3 few => fun H3 s3 hc => ?_⟩
    · show [V.ref lr, V.int ((m : Int) - 1), V.ref l2] = [V.ref lr, V.int ((m - 1 : Nat) : Int), V.ref l2]
      rw [show ((m : Int) - 1) = ((m - 1 : Nat) : Int) by omega]
    · rw [List.length_append, List.length_drop, List.length_take]; omega
    · exact q _ _ (back (s12.t.trans t') s3 hc) (hT3.same s3) (few.w.t s3.t)
theorem ok_l2 (T : Txt K mg a) (hB : Bm mg base) : LamOk P w K mg base 4 ld_few_node_2 fv2 [] (spL2 a) := by
  have G_few_node : FnOk P w K mg base CX0 3 _ _ _ (spFewN a) := ok_fewnode T hB
  refine lam_of ls2 (fun pm ctv clos c us hl => match us, hl with | [], _ => rfl) (fun vals vs H Q E h => ?_) (fun A outer s H f c clos vals vs Q E hr hfv ca h => ?_)
  · obtain ⟨vt, vr, ahead, taken, m, rfl, rfl, _⟩ := h; rfl
  · obtain ⟨vt, vr, ahead, taken, m, rfl, rfl, ⟨lt, rfl, ht⟩, ⟨lr, rfl, hr'⟩, hlen, hT, q⟩ := h
    refine ⟨_, (pe_call G_few_node hr rfl T.m_few_node T.F_few_node.kp T.B_few_node .nil pass0 (pa_cons (vr 2) (pa_cons (vr 0) (pa_cons (vr 1) pa_nil)))), ?_⟩
    have ht' := untrs_of ca ht fun v z => nomatch z
    have hr2 := untrs_of ca hr' fun v z => nomatch z
    refine ⟨fun _ => True, lr, lt, ahead.drop 1, taken, m, rfl, fun _ _ => trivial, trivial, trivial, hr2, ht', ?_, TabsOk.untrs hT ca, fun H' v t' hT3 few => fun H3 s3 hc => ?_⟩
    · rw [List.length_drop]; omega
    · exact q _ _ (back t' s3 hc) (hT3.same s3) (few.w.t s3.t)
end
end My

set_option Elab.async false
set_option linter.all false
set_option maxRecDepth 100000
set_option maxHeartbeats 4000000
namespace My
open PySem L2 FrM
noncomputable def spIsW : Sp := fun vs H Q _ => ∃ (i lo hi : Int), vs = [.int i, .int lo, .int hi] ∧ Q (.bl (decide (lo ≤ i ∧ i ≤ hi))) H
noncomputable def spV (u : V) : Sp := fun vs H Q _ => ∃ v, vs = [v] ∧ Q u H
noncomputable def spTK (a : Ad) : Sp := fun vs H Q _ => ∃ x dx t, vs = [.ref x] ∧ H x = some (.ins a.c_Told dx [("rising", .ref t)]) ∧ Q (.ref t) H
noncomputable def spTP : Sp := fun vs H Q _ => ∃ v, vs = [v] ∧ ∀ p, H p = none → Q (.ref p) (upd H p (.lst []))
noncomputable def spDS (a : Ad) : Sp := fun vs H Q _ => ∃ v ahead m taken, vs = [v] ∧ IsDie a H v ahead m taken ∧ ∀ H', Same H H' → Q (.int (ahead.length : Int)) H'
/-- can be thrown -/
noncomputable def spCan (a : Ad) : Sp := fun vs H Q _ => ∃ v ahead m taken, ∃ t : Int, vs = [v, .int t] ∧ IsDie a H v ahead m taken ∧ 0 ≤ t ∧ t < (ahead.length : Int) ∧ ∀ H', Same H H' → Q (.bl true) H'
noncomputable def spDP (a : Ad) : Sp := fun vs H Q _ => ∃ v ahead m taken, vs = [v] ∧ IsDie a H v ahead m taken ∧ 0 < m ∧ m < ahead.length ∧ ahead.length + taken.length ≤ 40 ∧ TabsOk (tabs a) H ∧
  ∀ H' r q1 q2 n1 n2, SameT H H' → TabsOk (tabs a) H' → H r = none → H' r = some (.lst [.ref q1, .ref q2]) → H' q1 = some (.tup [.int (m : Nat), n1]) → H' q2 = some (.tup [.int ((ahead.length : Int) - (m : Nat)), n2]) → Q (.ref r) H'
noncomputable def spDA (a : Ad) : Sp := fun vs H Q _ => ∃ v ahead m taken, ∃ t : Int, vs = [v, .int t] ∧ IsDie a H v ahead m taken ∧ 0 < m ∧ m < ahead.length ∧ ahead.length + taken.length ≤ 40 ∧ 0 ≤ t ∧ t < (ahead.length : Int) ∧ TabsOk (tabs a) H ∧
  ∀ H' v', SameT H H' → TabsOk (tabs a) H' → IsFew a H' v' (ahead.drop 1) (if t < (m : Int) then m - 1 else m) (if t < (m : Int) then taken ++ ahead.take 1 else taken) → Q v' H'
section
variable {P : Program} {w : World} {K : PySem.W.Frag} {mg : Str → Option Value} {base : Heap} {a : Ad}
theorem ok_isw (T : Txt K mg a) : FnOk P w K mg base CX0 1 a.f_is_whole a.d_is_whole ["thing", "low", "high"] spIsW := by
  refine T.F_is_whole.ok sc_is_whole (fun vs H Q E h => ?_) (fun cdv A outer s H vs Q E hr h => ?_)
  · obtain ⟨i, lo, hi, rfl, _⟩ := h; rfl
  · obtain ⟨i, lo, hi, rfl, q⟩ := h
    refine ⟨_, (pss_one (ps_ret (m_and (pe_callB call_isi rfl T.z_isinstance bt_isinstance (pa_cons (vr 0) (pa_cons (pe_bltn (v := .ty "int") rfl T.z_int bt_int rfl) pa_nil))) (m_and (m_not (pe_callB call_isi rfl T.z_isinstance bt_isinstance (pa_cons (vr 0) (pa_cons (pe_bltn (v := .ty "bool") rfl T.z_bool bt_bool rfl) pa_nil)))) (pe_one (m_chain o_le o_le (vr 1) (vr 0) (vr 2))))))), ?_⟩
    refine ⟨_, _, _, true, rfl, rfl, .int i, rfl, ?_⟩
    refine ⟨_, _, _, false, rfl, rfl, .int i, rfl, ?_⟩
    exact and_if (Q := fun v => Q v H) q
theorem ok_tt (T : Txt K mg a) : FnOk P w K mg base CX0 1 a.x_Told_is_told a.y_Told_is_told ["self"] (spV (.bl true)) := by
  refine T.F_Told_is_told.ok sc_Told_is_told (fun vs H Q E h => ?_) (fun cdv A outer s H vs Q E hr h => ?_)
  · obtain ⟨v, rfl, _⟩ := h; rfl
  · obtain ⟨v, rfl, q⟩ := h
    exact ⟨_, (pss_one (ps_ret pe_bl)), q⟩
theorem ok_ts (T : Txt K mg a) : FnOk P w K mg base CX0 1 a.x_Told_sides a.y_Told_sides ["self"] (spV (.int 0)) := by
  refine T.F_Told_sides.ok sc_Told_sides (fun vs H Q E h => ?_) (fun cdv A outer s H vs Q E hr h => ?_)
  · obtain ⟨v, rfl, _⟩ := h; rfl
  · obtain ⟨v, rfl, q⟩ := h
    exact ⟨_, (pss_one (ps_ret pe_int)), q⟩
theorem ok_tk (T : Txt K mg a) : FnOk P w K mg base CX0 1 a.x_Told_kept a.y_Told_kept ["self"] (spTK a) := by
  refine T.F_Told_kept.ok sc_Told_kept (fun vs H Q E h => ?_) (fun cdv A outer s H vs Q E hr h => ?_)
  · obtain ⟨x, dx, t, rfl, _⟩ := h; rfl
  · obtain ⟨x, dx, t, rfl, hx, q⟩ := h
    exact ⟨_, (pss_one (ps_ret (pe_fld (vr 0) rfl))), x, _, dx, _, _, rfl, hx, T.cl_Told, T.na_Told_rising, rfl, q⟩
theorem ok_tp (T : Txt K mg a) : FnOk P w K mg base CX0 1 a.x_Told_parts a.y_Told_parts ["self"] spTP := by
  refine T.F_Told_parts.ok sc_Told_parts (fun vs H Q E h => ?_) (fun cdv A outer s H vs Q E hr h => ?_)
  · obtain ⟨v, rfl, _⟩ := h; rfl
  · obtain ⟨v, rfl, q⟩ := h
    exact ⟨_, (pss_one (ps_ret (pe_lst pa_nil))), Nat.zero_le _, q⟩
theorem ok_dt (T : Txt K mg a) : FnOk P w K mg base CX0 1 a.x_Die_is_told a.y_Die_is_told ["self"] (spV (.bl false)) := by
  refine T.F_Die_is_told.ok sc_Die_is_told (fun vs H Q E h => ?_) (fun cdv A outer s H vs Q E hr h => ?_)
  · obtain ⟨v, rfl, _⟩ := h; rfl
  · obtain ⟨v, rfl, q⟩ := h
    exact ⟨_, (pss_one (ps_ret pe_bl)), q⟩
theorem ok_dk (T : Txt K mg a) : FnOk P w K mg base CX0 1 a.x_Die_kept a.y_Die_kept ["self"] (spV .non) := by
  refine T.F_Die_kept.ok sc_Die_kept (fun vs H Q E h => ?_) (fun cdv A outer s H vs Q E hr h => ?_)
  · obtain ⟨v, rfl, _⟩ := h; rfl
  · obtain ⟨v, rfl, q⟩ := h
    exact ⟨_, (pss_one (ps_ret pe_non)), q⟩
theorem ok_ds (T : Txt K mg a) : FnOk P w K mg base CX0 1 a.x_Die_sides a.y_Die_sides ["self"] (spDS a) := by
  refine T.F_Die_sides.ok sc_Die_sides (fun vs H Q E h => ?_) (fun cdv A outer s H vs Q E hr h => ?_)
  · obtain ⟨v, ahead, m, taken, rfl, _⟩ := h; rfl
  · obtain ⟨v, ahead, m, taken, rfl, ⟨x, dx, l, p1, p2, f1, f2, va, vt, ve, rfl, hx, hl, h1, h2, _⟩, q⟩ := h
    have small : sizeLine = 16777216 := sizeLine_eq
    refine ⟨_, (pss_one (ps_ret (pe_callB (call_sumI rfl) rfl T.z_sum bt_sum (pa_cons (pe_comp rfl (N := ["many", "make"]) (ix := [none, none]) ⟨rfl, rfl, rfl, rfl, trivial⟩ (pi_any (pe_fld (vr 0) rfl)) ⟨fun C s H fp => (pg_tupK (K := K) (n := 2) rfl rfl (pgs_cons (pg_name (i := 0) (show List.Nodup (["many", "make"] : List Str) by decide +kernel) rfl (Or.inl rfl)) (pgs_cons (pg_name (i := 1) (show List.Nodup (["many", "make"] : List Str) by decide +kernel) rfl (Or.inl rfl)) pgs_nil))), fun C s H fp => pts_nil, fun C s H fp => (vr 0)⟩) pa_nil)))), ?_⟩
    refine ⟨x, _, dx, _, _, rfl, hx, T.cl_Die, T.na_Die_makes, rfl, .inl ⟨⟨_, SqL.of hl⟩, fun D hD => ?_⟩⟩
    refine comp_list (K := K) (a := l) (xs := [.ref p1, .ref p2]) (fun i ys H' => Same H H' ∧ H' D = some (.lst ys) ∧ ys = ([.int (m : Nat), .int ((ahead.length : Int) - (m : Nat))] : List V).take i) ⟨Same.new hD, upd_same, rfl⟩ (fun i ys H' h => SqL.of (h.1 _ _ hl)) (fun i ys H' h => h.2.1) ?_ ?_
    · rintro i y ys H' P' hy ⟨s1, hD1, rfl⟩ hP
      match i, hy with
      | 0, hy =>
        cases hy
        refine ⟨p1, _, rfl, SqT.of (s1 _ _ h1), rfl, _, _, rfl, _, _, rfl, rfl, trivial, hD1, (show 0 < sizeLine by decide), hP _ _ ⟨s1.put hD, upd_same, rfl⟩⟩
      | 1, hy =>
        cases hy
        refine ⟨p2, _, rfl, SqT.of (s1 _ _ h2), rfl, _, _, rfl, _, _, rfl, rfl, trivial, hD1, (show 1 < sizeLine by decide), hP _ _ ⟨s1.put hD, upd_same, rfl⟩⟩
    · rintro ys H' ⟨s1, hD1, rfl⟩
      refine ⟨D, [(m : Int), (ahead.length : Int) - (m : Int)], rfl, SqL.of hD1, ?_⟩
      have e : ([(m : Int), (ahead.length : Int) - (m : Int)] : List Int).sum = (ahead.length : Int) := by simp only [List.sum_cons, List.sum_nil]; omega
      rw [e]
      exact q _ s1
theorem ok_can (T : Txt K mg a) : FnOk P w K mg base CX0 2 a.f_can_be_thrown a.d_can_be_thrown ["node", "throw"] (spCan a) := by
  have G_is_whole : FnOk P w K mg base CX0 1 _ _ _ spIsW := ok_isw T
  have G_Told_sides : FnOk P w K mg base CX0 1 _ _ _ (spV (.int 0)) := ok_ts T
  have G_Die_sides : FnOk P w K mg base CX0 1 _ _ _ (spDS a) := ok_ds T
  refine T.F_can_be_thrown.ok sc_can_be_thrown (fun vs H Q E h => ?_) (fun cdv A outer s H vs Q E hr h => ?_)
  · obtain ⟨v, ahead, m, taken, t, rfl, _⟩ := h; rfl
  · obtain ⟨v, ahead, m, taken, t, rfl, hd, t0, t1, q⟩ := h
    obtain ⟨x, dx, l, p1, p2, f1, f2, va, vt, ve, rfl, hx, hl, h1, h2, _⟩ := id hd
    refine ⟨_, (pss_one (ps_ret (pe_call G_is_whole hr rfl T.m_is_whole T.F_is_whole.kp T.B_is_whole .nil pass0 (pa_cons (vr 1) (pa_cons pe_int (pa_cons (pe_op o_sub (PE.or (pe_meth0 (vr 0) T.cl_Told T.mt_Told_sides G_Told_sides hr T.B_Told_sides .nil pass0) (pe_meth0 (vr 0) T.cl_Die T.mt_Die_sides G_Die_sides hr T.B_Die_sides .nil pass0)) pe_int) pa_nil)))))), ?_⟩
    refine .inr ⟨x, dx, _, rfl, hx, rfl, _, ahead, m, taken, rfl, hd, fun H' s1 => ?_⟩
    refine ⟨t, 0, (ahead.length : Int) - 1, rfl, ?_⟩
    rw [decide_eq_true (show 0 ≤ t ∧ t ≤ (ahead.length : Int) - 1 by omega)]
    exact q _ s1
theorem ok_dp (T : Txt K mg a) (hB : Bm mg base) : FnOk P w K mg base CX0 5 a.x_Die_parts a.y_Die_parts ["self"] (spDP a) := by
  have L_few1 : LamOk P w K mg base 4 ld_few_node_1 fv1 [] (spL1 a) := ok_l1 T hB
  have L_few2 : LamOk P w K mg base 4 ld_few_node_2 fv2 [] (spL2 a) := ok_l2 T hB
  refine T.F_Die_parts.ok sc_Die_parts (fun vs H Q E h => ?_) (fun cdv A outer s H vs Q E hr h => ?_)
  · obtain ⟨v, ahead, m, taken, rfl, _⟩ := h; rfl
  · obtain ⟨v, ahead, m, taken, rfl, ⟨x, dx, l, p1, p2, f1, f2, va, vt, ve, rfl, hx, hl, h1, h2, l1, l2, ha, ht, hr'⟩, m0, m1, hlen, hT, q⟩ := h
    have small : sizeLine = 16777216 := sizeLine_eq
    refine ⟨_, (pss_one (ps_ret (pe_comp rfl (N := ["many", "make"]) (ix := [none, none]) ⟨rfl, rfl, rfl, rfl, trivial⟩ (pi_any (pe_fld (vr 0) rfl)) ⟨fun C s H fp => (pg_tupK (K := K) (n := 2) rfl rfl (pgs_cons (pg_name (i := 0) (show List.Nodup (["many", "make"] : List Str) by decide +kernel) rfl (Or.inl rfl)) (pgs_cons (pg_name (i := 1) (show List.Nodup (["many", "make"] : List Str) by decide +kernel) rfl (Or.inl rfl)) pgs_nil))), fun C s H fp => pts_nil, fun C s H fp => (pe_tup (pa_cons (vr 0) (pa_cons (PE.or (pe_callL0 (vr 1) L_few1 hr) (pe_callL0 (vr 1) L_few2 hr)) pa_nil)))⟩))), ?_⟩
    refine ⟨x, _, dx, _, _, rfl, hx, T.cl_Die, T.na_Die_makes, rfl, .inl ⟨⟨_, SqL.of hl⟩, fun D hD => ?_⟩⟩
    have hTD : TabsOk (tabs a) (upd H D (.lst [])) := hT.same (Same.new hD)
    have ext : ∀ {H' : Hp}, TabsOk (tabs a) H' → ∀ {ys : List V} {ys' : List V}, H' D = some (.lst ys) → TabsOk (tabs a) (upd H' D (.lst ys')) := fun hT' ys ys' e => hT'.put (fun ps z => by rw [e] at z; cases z) fun φ z => by rw [e] at z; cases z
    refine comp_list (K := K) (a := l) (xs := [.ref p1, .ref p2]) (fun i ys H' => SameT H H' ∧ TabsOk (tabs a) H' ∧ H' D = some (.lst ys) ∧ ((i = 0 ∧ ys = []) ∨ (i = 1 ∧ ∃ q1 n1, ys = [.ref q1] ∧ H' q1 = some (.tup [.int (m : Nat), n1])) ∨ (i = 2 ∧ ∃ q1 q2 n1 n2, ys = [.ref q1, .ref q2] ∧ H' q1 = some (.tup [.int (m : Nat), n1]) ∧ H' q2 = some (.tup [.int ((ahead.length : Int) - (m : Nat)), n2]))))
      ⟨(Same.new hD).t, hTD, upd_same, .inl ⟨rfl, rfl⟩⟩ (fun i ys H' h => SqL.of (h.1.at hl)) (fun i ys H' h => h.2.2.1) ?_ ?_
    · rintro i y ys H' P' hy ⟨t1, hT1, hD1, hc⟩ hP
      match i, hy with
      | 0, hy =>
        cases hy
        have ey : ys = [] := by
          rcases hc with ⟨_, e⟩ | ⟨z, _⟩ | ⟨z, _⟩
          · exact e
          · cases z
          · cases z
        subst ey
        refine ⟨p1, _, rfl, SqT.of (t1.at h1), rfl, _, _, rfl, _, _, rfl, rfl, trivial, ?_⟩
        obtain ⟨f, c, clos, rfl, e1, e2, e3, e4, e5⟩ := l1.t t1
        refine .inl ⟨f, c, clos, _, rfl, e1, e2, e3, e4, e5, va, vt, ve, ahead, taken, m, rfl, rfl, ha.t t1, ht.t t1, hr'.t t1, m0, m1, hlen, hT1, fun H2 v2 t2 hT2 few => ?_⟩
        refine ⟨(show 2 ≤ sizeLine by decide), fun q1 hq1 => ?_⟩
        have s3 := Same.new (o := .tup [.int (m : Nat), v2]) hq1
        have hD3 := s3 _ _ (t2.at hD1)
        have n1 : q1 ≠ D := fun z => by rw [z, t2.at hD1] at hq1; cases hq1
        refine ⟨hD3, (show 0 < sizeLine by decide), hP _ _ ⟨((t1.trans t2).trans s3.t).put hD, ext (hT2.same s3) hD3, upd_same, .inr (.inl ⟨rfl, q1, v2, rfl, ?_⟩)⟩⟩
        rw [upd_ne n1]
        exact upd_same
      | 1, hy =>
        cases hy
        have ey : ∃ q1 n1, ys = [.ref q1] ∧ H' q1 = some (.tup [.int (m : Nat), n1]) := by
          rcases hc with ⟨z, _⟩ | ⟨_, e⟩ | ⟨z, _⟩
          · cases z
          · exact e
          · cases z
        obtain ⟨q1, n1, rfl, hq1⟩ := ey
        refine ⟨p2, _, rfl, SqT.of (t1.at h2), rfl, _, _, rfl, _, _, rfl, rfl, trivial, ?_⟩
        obtain ⟨f, c, clos, rfl, e1, e2, e3, e4, e5⟩ := l2.t t1
        refine .inr ⟨f, c, clos, _, rfl, e1, e2, e3, e4, e5, vt, ve, ahead, taken, m, rfl, rfl, ht.t t1, hr'.t t1, hlen, hT1, fun H2 v2 t2 hT2 few => ?_⟩
        refine ⟨(show 2 ≤ sizeLine by decide), fun q2 hq2 => ?_⟩
        have s3 := Same.new (o := .tup [.int ((ahead.length : Int) - (m : Nat)), v2]) hq2
        have hD3 := s3 _ _ (t2.at hD1)
        have nq : q2 ≠ D := fun z => by rw [z, t2.at hD1] at hq2; cases hq2
        have nq1 : q1 ≠ D := fun z => by rw [z, hD1] at hq1; cases hq1
        refine ⟨hD3, (show 1 < sizeLine by decide), hP _ _ ⟨((t1.trans t2).trans s3.t).put hD, ext (hT2.same s3) hD3, upd_same, .inr (.inr ⟨rfl, q1, q2, n1, v2, rfl, ?_, ?_⟩)⟩⟩
        · rw [upd_ne nq1]; exact s3 _ _ (t2.at hq1)
        · rw [upd_ne nq]; exact upd_same
    · rintro ys H' ⟨t1, hT1, hD1, hc⟩
      rcases hc with ⟨z, _⟩ | ⟨z, _⟩ | ⟨_, q1, q2, n1, n2, rfl, g1, g2⟩
      · cases z
      · cases z
      · exact q _ D q1 q2 n1 n2 t1 hT1 hD hD1 g1 g2
end
end My

set_option Elab.async false
set_option linter.all false
set_option maxRecDepth 100000
set_option maxHeartbeats 4000000
namespace My
open PySem L2 FrM
section
variable {P : Program} {w : World} {K : PySem.W.Frag} {mg : Str → Option Value} {base : Heap} {a : Ad}
theorem ok_da (T : Txt K mg a) (hB : Bm mg base) : FnOk P w K mg base CX0 5 a.x_Die_after a.y_Die_after ["self", "throw"] (spDA a) := by
  have L_few1 : LamOk P w K mg base 4 ld_few_node_1 fv1 [] (spL1 a) := ok_l1 T hB
  have L_few2 : LamOk P w K mg base 4 ld_few_node_2 fv2 [] (spL2 a) := ok_l2 T hB
  have G_can_be_thrown : FnOk P w K mg base CX0 4 _ _ _ (spCan a) := (ok_can T).mono (by decide)
  refine T.F_Die_after.ok sc_Die_after (fun vs H Q E h => ?_) (fun cdv A outer s H vs Q E hr h => ?_)
  · obtain ⟨v, ahead, m, taken, t, rfl, _⟩ := h; rfl
  · obtain ⟨v, ahead, m, taken, t, rfl, hd, m0, m1, hlen, t0, t1, hT, q⟩ := h
    refine ⟨_, (pss_cons (ps_if (pt_not (t_val (pe_call G_can_be_thrown hr rfl T.m_can_be_thrown T.F_can_be_thrown.kp T.B_can_be_thrown .nil pass0 (pa_cons (vr 0) (pa_cons (vr 1) pa_nil))))) (pss_one ps_never) pss_nil) (pss_cons (ps_set (i := 2) sc_Die_after.nd rfl (Or.inl rfl) pe_int) (pss_cons (ps_set (i := 3) sc_Die_after.nd rfl (Or.inl rfl) (pe_op o_sub (pe_ix ix_seq (pe_ix ix_seq (pe_fld (vr 0) rfl) pe_int (fun _ _ => rfl)) pe_int (fun _ _ => rfl)) pe_int)) (pss_cons (ps_while PassesOwn.never (t_cmp o_lt (vr 3) (vr 1) (nomark _)) (pss_cons (ps_aug (i := 2) sc_Die_after.nd rfl (Or.inl rfl) pe_int ip_add) (pss_one (ps_aug (i := 3) sc_Die_after.nd rfl (Or.inl rfl) (pe_ix ix_seq (pe_ix ix_seq (pe_fld (vr 0) rfl) (vr 2) (fun _ _ => rfl)) pe_int (fun _ _ => rfl)) ip_add)))) (pss_cons (ps_asg (pe_ix ix_seq (pe_fld (vr 0) rfl) (vr 2) (fun _ _ => rfl)) (pg_tup rfl (pgs_cons (pg_name (i := 4) sc_Die_after.nd rfl (Or.inl rfl)) (pgs_cons (pg_name (i := 5) sc_Die_after.nd rfl (Or.inl rfl)) pgs_nil)))) (pss_one (ps_ret (PE.or (pe_callL0 (vr 5) L_few1 hr) (pe_callL0 (vr 5) L_few2 hr))))))))), ?_⟩
    refine ⟨v, ahead, m, taken, t, rfl, hd, t0, t1, fun H1 s1 => ?_⟩
    have hd1 := hd.t s1.t
    have hT1 := hT.same s1
    obtain ⟨x, dx, l, p1, p2, f1, f2, va, vt, ve, rfl, hx, hl, h1, h2, l1, l2, ha, ht, hr'⟩ := id hd1
    refine ⟨x, _, dx, _, _, rfl, hx, T.cl_Die, T.na_Die_makes, rfl, .inl ⟨l, _, _, _, rfl, rfl, SqL.of hl, atI_cons 0 rfl rfl, .inr (.inl ⟨p1, _, _, _, rfl, rfl, SqT.of h1, atI_cons 0 rfl rfl, ?_⟩)⟩⟩
    refine ⟨fun k σ H' => H' = H1 ∧ ∃ (number : Nat) (last : Int) (x4 x5 : Option V), σ = [some (.ref x), some (.int t), some (.int (number : Nat)), some (.int last), x4, x5] ∧ ((number = 0 ∧ last = (m : Int) - 1 ∧ k = 1) ∨ (number = 1 ∧ last = (ahead.length : Int) - 1 ∧ (m : Int) ≤ t ∧ k = 0)), ⟨1, rfl, 0, _, _, _, rfl, .inl ⟨rfl, rfl, rfl⟩⟩, ?_⟩
    rintro k σ H' ⟨rfl, number, last, x4, x5, rfl, hcs⟩
    refine ifC (fun c => ?_) fun c => ?_
    · have c : last < t := c
      have hc0 : number = 0 ∧ last = (m : Int) - 1 ∧ k = 1 := by
        rcases hcs with h | ⟨_, h, _⟩
        · exact h
        · omega
      obtain ⟨rfl, rfl, rfl⟩ := hc0
      refine ⟨fun σ' H'' => H'' = H' ∧ σ' = [some (.ref x), some (.int t), some (.int ((1 : Nat) : Int)), some (.int ((ahead.length : Int) - 1)), x4, x5], ?_, ?_⟩
      · rintro σ' H'' ⟨rfl, rfl⟩
        exact ⟨0, by decide, rfl, 1, _, _, _, rfl, .inr ⟨rfl, rfl, by omega, rfl⟩⟩
      · refine ⟨_, rfl, _, _, rfl, rfl, _, rfl, ?_⟩
        refine ⟨x, _, dx, _, _, rfl, hx, T.cl_Die, T.na_Die_makes, rfl, .inl ⟨l, _, _, _, rfl, rfl, SqL.of hl, atI_cons 1 rfl rfl, .inr (.inl ⟨p2, _, _, _, rfl, rfl, SqT.of h2, atI_cons 0 rfl rfl, _, _, rfl, rfl, rfl, ?_⟩)⟩⟩
        show [some (V.ref x), some (.int t), some (.int (0 + 1)), some (.int ((m : Int) - 1 + ((ahead.length : Int) - (m : Int)))), x4, x5] = _
        rw [show (m : Int) - 1 + ((ahead.length : Int) - (m : Int)) = (ahead.length : Int) - 1 by omega]
        rfl
    · have c : ¬ last < t := c
      rcases hcs with ⟨rfl, rfl, _⟩ | ⟨rfl, rfl, hm, _⟩
      · have hlt : t < (m : Int) := by omega
        refine ⟨x, _, dx, _, _, rfl, hx, T.cl_Die, T.na_Die_makes, rfl, .inl ⟨l, _, _, _, rfl, rfl, SqL.of hl, atI_cons 0 rfl rfl, p1, _, rfl, SqT.of h1, rfl, _, _, rfl, _, _, rfl, rfl, ?_⟩⟩
        obtain ⟨f, c', clos, rfl, e1, e2, e3, e4, e5⟩ := l1
        refine .inl ⟨f, c', clos, _, rfl, e1, e2, e3, e4, e5, va, vt, ve, ahead, taken, m, rfl, rfl, ha, ht, hr', m0, m1, hlen, hT1, fun H2 v2 t2 hT2 few => ?_⟩
        refine q _ _ (s1.t.trans t2) hT2 ?_
        rw [if_pos hlt, if_pos hlt]
        exact few
      · have hlt : ¬ t < (m : Int) := by omega
        refine ⟨x, _, dx, _, _, rfl, hx, T.cl_Die, T.na_Die_makes, rfl, .inl ⟨l, _, _, _, rfl, rfl, SqL.of hl, atI_cons 1 rfl rfl, p2, _, rfl, SqT.of h2, rfl, _, _, rfl, _, _, rfl, rfl, ?_⟩⟩
        obtain ⟨f, c', clos, rfl, e1, e2, e3, e4, e5⟩ := l2
        refine .inr ⟨f, c', clos, _, rfl, e1, e2, e3, e4, e5, vt, ve, ahead, taken, m, rfl, rfl, ht, hr', hlen, hT1, fun H2 v2 t2 hT2 few => ?_⟩
        refine q _ _ (s1.t.trans t2) hT2 ?_
        rw [if_neg hlt, if_neg hlt]
        exact few
end
/-- along the throws -/
noncomputable def Good : List Int → Nat → List Int → List (Int × Int × Int) → List Int → Prop
  | ahead, m, taken, [], kept => (m = 0 ∨ ahead.length ≤ m) ∧ kept = (if m = 0 then taken else taken ++ ahead)
  | ahead, m, taken, (k, n, t) :: r, kept => 0 < m ∧ m < ahead.length ∧ k = (m : Int) ∧ n = (ahead.length : Int) - (m : Int) ∧ 0 ≤ t ∧ t < (ahead.length : Int) ∧
      Good (ahead.drop 1) (if t < (m : Int) then m - 1 else m) (if t < (m : Int) then taken ++ ahead.take 1 else taken) r kept
theorem srt_uniq {l₁ l₂ k : List Int} (a : Srt l₁ k) (b : Srt l₂ k) : l₁ = l₂ := List.Perm.eq_of_pairwise (fun x y _ _ h h' => Int.le_antisymm h h') a.2 b.2 (a.1.trans b.1.symm)
theorem few_die {a : Ad} {H : Hp} {v : V} {ahead taken : List Int} {m : Nat} (h : IsFew a H v ahead m taken) (m0 : 0 < m) (m1 : m < ahead.length) : IsDie a H v ahead m taken := by
  rcases h with ⟨h, _⟩ | ⟨_, _, h⟩
  · omega
  · exact h
theorem few_told {a : Ad} {H : Hp} {v : V} {ahead taken : List Int} {m : Nat} (h : IsFew a H v ahead m taken) (c : m = 0 ∨ ahead.length ≤ m) : IsTold a H v (if m = 0 then taken else taken ++ ahead) := by
  rcases h with ⟨_, h⟩ | ⟨h1, h2, _⟩
  · exact h
  · omega
noncomputable def len2 (ahead taken : List Int) (m : Nat) (t : Int) : (ahead.drop 1).length + (if t < (m : Int) then taken ++ ahead.take 1 else taken).length ≤ ahead.length + taken.length := by
  split
  · rw [List.length_append, List.length_drop, List.length_take]; omega
  · rw [List.length_drop]; omega
/-- a node along the throws that are left -/
structure At (a : Ad) (H : Hp) (v : V) (rows : List (Int × Int × Int)) (kept : List Int) : Prop where
  ex : ∃ ahead m taken, IsFew a H v ahead m taken ∧ ahead.length + taken.length ≤ 40 ∧ Good ahead m taken rows kept
theorem At.t {a : Ad} {H H' : Hp} {v : V} {rows : List (Int × Int × Int)} {kept : List Int} (s : SameT H H') (h : At a H v rows kept) : At a H' v rows kept :=
  let ⟨ahead, m, taken, h1, h2, h3⟩ := h.ex; ⟨ahead, m, taken, h1.t s, h2, h3⟩
theorem At.nil {a : Ad} {H : Hp} {v : V} {kept : List Int} (h : At a H v [] kept) : IsTold a H v kept := by
  obtain ⟨ahead, m, taken, h1, _, h3, h4⟩ := h.ex
  rw [h4]
  exact few_told h1 h3
theorem At.cons {a : Ad} {H : Hp} {v : V} {k n t : Int} {rows : List (Int × Int × Int)} {kept : List Int} (h : At a H v ((k, n, t) :: rows) kept) : ∃ ahead m taken, IsDie a H v ahead m taken ∧ 0 < m ∧ m < ahead.length ∧ ahead.length + taken.length ≤ 40 ∧ k = (m : Int) ∧ n = (ahead.length : Int) - (m : Int) ∧ 0 ≤ t ∧ t < (ahead.length : Int) ∧
    ∀ H' v', IsFew a H' v' (ahead.drop 1) (if t < (m : Int) then m - 1 else m) (if t < (m : Int) then taken ++ ahead.take 1 else taken) → At a H' v' rows kept := by
  obtain ⟨ahead, m, taken, h1, h2, g1, g2, g3, g4, g5, g6, g7⟩ := h.ex
  exact ⟨ahead, m, taken, few_die h1 g1 g2, g1, g2, h2, g3, g4, g5, g6, fun H' v' f => ⟨_, _, _, f, Nat.le_trans (len2 ahead taken m t) h2, g7⟩⟩
noncomputable def spDrawn (a : Ad) : Sp := fun vs H Q _ => ∃ v l rows kept, vs = [v, .ref l] ∧ At a H v rows kept ∧ H l = some (.lst ((rows.map fun r => r.2.2).map V.int)) ∧ TabsOk (tabs a) H ∧
  ∀ H' t ns, SameT H H' → TabsOk (tabs a) H' → H' t = some (.tup (ns.map V.int)) → Srt ns kept → Q (.ref t) H'
section
variable {P : Program} {w : World} {K : PySem.W.Frag} {mg : Str → Option Value} {base : Heap} {a : Ad}
theorem ok_drawn (T : Txt K mg a) (hB : Bm mg base) : FnOk P w K mg base CX0 6 a.f_drawn a.d_drawn ["node", "throws"] (spDrawn a) := by
  have G_can_be_thrown : FnOk P w K mg base CX0 5 _ _ _ (spCan a) := (ok_can T).mono (by decide)
  have G_Die_after : FnOk P w K mg base CX0 5 _ _ _ (spDA a) := ok_da T hB
  have G_Told_is_told : FnOk P w K mg base CX0 5 _ _ _ (spV (.bl true)) := (ok_tt T).mono (by decide)
  have G_Die_is_told : FnOk P w K mg base CX0 5 _ _ _ (spV (.bl false)) := (ok_dt T).mono (by decide)
  have G_Told_kept : FnOk P w K mg base CX0 5 _ _ _ (spTK a) := (ok_tk T).mono (by decide)
  have G_Die_kept : FnOk P w K mg base CX0 5 _ _ _ (spV .non) := (ok_dk T).mono (by decide)
  refine T.F_drawn.ok sc_drawn (fun vs H Q E h => ?_) (fun cdv A outer s H vs Q E hr h => ?_)
  · obtain ⟨v, l, rows, kept, rfl, _⟩ := h; rfl
  · obtain ⟨v, l, rows, kept, rfl, hat, hl, hT, q⟩ := h
    refine ⟨_, (pss_cons (ps_set (i := 2) sc_drawn.nd rfl (Or.inl rfl) (vr 0)) (pss_cons (ps_for PassesOwn.never rfl (pi_enum rfl T.z_enumerate (pa_cons (vr 1) pa_nil)) (pg_tup rfl (pgs_cons (pg_name (i := 3) sc_drawn.nd rfl (Or.inl rfl)) (pgs_cons (pg_name (i := 4) sc_drawn.nd rfl (Or.inl rfl)) pgs_nil))) (pss_cons (ps_if (pt_not (t_val (pe_call G_can_be_thrown hr rfl T.m_can_be_thrown T.F_can_be_thrown.kp T.B_can_be_thrown .nil pass0 (pa_cons (vr 2) (pa_cons (vr 4) pa_nil))))) (pss_one ps_never) pss_nil) (pss_one (ps_set (i := 2) sc_drawn.nd rfl (Or.inl rfl) (pe_meth (vr 2) T.cl_Die T.mt_Die_after G_Die_after hr T.B_Die_after .nil pass0 (pa_cons (vr 4) pa_nil)))))) (pss_cons (ps_if (pt_not (t_val (PE.or (pe_meth0 (vr 2) T.cl_Told T.mt_Told_is_told G_Told_is_told hr T.B_Told_is_told .nil pass0) (pe_meth0 (vr 2) T.cl_Die T.mt_Die_is_told G_Die_is_told hr T.B_Die_is_told .nil pass0)))) (pss_one ps_never) pss_nil) (pss_one (ps_ret (PE.or (pe_meth0 (vr 2) T.cl_Told T.mt_Told_kept G_Told_kept hr T.B_Told_kept .nil pass0) (pe_meth0 (vr 2) T.cl_Die T.mt_Die_kept G_Die_kept hr T.B_Die_kept .nil pass0))))))), ?_⟩
    refine ⟨l, _, rfl, hl, for_enum (a := l) (xs := (rows.map fun r => r.2.2).map V.int) (fun i σ H' => SameT H H' ∧ TabsOk (tabs a) H' ∧ ∃ (here : V) (x3 x4 : Option V), σ = [some v, some (.ref l), some here, x3, x4] ∧ At a H' here (rows.drop i) kept) ⟨SameT.refl, hT, v, none, none, rfl, hat⟩ (fun i σ H' h => h.1.at hl) ?_ ?_⟩
    · rintro i x σ H' p hx ⟨t1, hT1, here, x3, x4, rfl, hat1⟩ hp
      rw [List.getElem?_map, List.getElem?_map] at hx
      cases hri : rows[i]? with
      | none => rw [hri] at hx; cases hx
      | some r =>
        obtain ⟨k, n, t⟩ := r
        rw [hri] at hx
        cases hx
        have hdr : rows.drop i = (k, n, t) :: rows.drop (i + 1) := by
          obtain ⟨hi, e⟩ := List.getElem?_eq_some_iff.mp hri
          rw [List.drop_eq_getElem_cons hi, e]
        rw [hdr] at hat1
        have s2 : Same H' (upd H' p (.tup [.int (i : Nat), .int t])) := Same.new hp
        obtain ⟨ahead, m, taken, hd, m0, m1, hlen, _, _, t0, t1', nxt⟩ := (hat1.t s2.t).cons
        refine ⟨p, _, rfl, SqT.of upd_same, rfl, _, _, rfl, _, _, rfl, rfl, ?_⟩
        refine ⟨here, ahead, m, taken, t, rfl, hd, t0, t1', fun H2 s3 => ?_⟩
        have hd2 := hd.t s3.t
        obtain ⟨x, dx, l', p1, p2, f1, f2, va, vt, ve, rfl, hx', _⟩ := id hd2
        refine ⟨x, dx, _, rfl, hx', rfl, _, ahead, m, taken, t, rfl, hd2, m0, m1, hlen, t0, t1', (hT1.same s2).same s3, fun H3 v' t4 hT4 few => ?_⟩
        exact ⟨t1.trans (s2.t.trans (s3.t.trans t4)), hT4, v', _, _, rfl, nxt _ _ few⟩
    · rintro σ H' ⟨t1, hT1, here, x3, x4, rfl, hat1⟩
      rw [List.length_map, List.length_map, List.drop_length] at hat1
      obtain ⟨x, dx, t, ns, rfl, hx, ht, hs⟩ := hat1.nil
      refine .inl ⟨x, dx, _, rfl, hx, rfl, _, rfl, ?_⟩
      exact .inl ⟨x, dx, _, rfl, hx, rfl, x, dx, t, rfl, hx, q _ t ns t1 hT1 ht hs⟩
end
end My

set_option Elab.async false
set_option linter.all false
set_option maxRecDepth 100000
set_option maxHeartbeats 4000000
namespace My
open PySem L2 FrM
noncomputable def RowAt (H : Hp) (r : Int × Int × Int) (x : V) : Prop := ∃ p ls, x = .ref p ∧ H p = some (.tup [.ref ls, .int r.2.2]) ∧ H ls = some (.lst [.int r.1, .int r.2.1])
noncomputable abbrev RowsAt (H : Hp) : List (Int × Int × Int) → List V → Prop := Paired (RowAt H)
theorem RowsAt.t {H H' : Hp} (s : SameT H H') : ∀ {rs : List (Int × Int × Int)} {xs : List V}, RowsAt H rs xs → RowsAt H' rs xs
  | _, _, .nil => .nil
  | _, _, .cons ⟨p, ls, h1, h2, h3⟩ t => .cons ⟨p, ls, h1, s.at h2, s.at h3⟩ (RowsAt.t s t)
theorem RowsAt.get {H : Hp} : ∀ {rs : List (Int × Int × Int)} {xs : List V} {i : Nat} {x : V}, RowsAt H rs xs → xs[i]? = some x → ∃ r, rs[i]? = some r ∧ RowAt H r x
  | _, _, _, _, .nil, h => by cases h
  | _, _, 0, _, .cons r _, h => ⟨_, rfl, by cases h; exact r⟩
  | _, _, i + 1, _, .cons _ t, h => RowsAt.get (i := i) t h
theorem RowsAt.len {H : Hp} {rs : List (Int × Int × Int)} {xs : List V} (h : RowsAt H rs xs) : rs.length = xs.length := Paired.length h
theorem RowsAt.snoc {H : Hp} {r : Int × Int × Int} {x : V} (h : RowAt H r x) : ∀ {rs : List (Int × Int × Int)} {xs : List V}, RowsAt H rs xs → RowsAt H (rs ++ [r]) (xs ++ [x])
  | _, _, .nil => .cons h .nil
  | _, _, .cons a b => .cons a (RowsAt.snoc h b)
noncomputable def spThrown (a : Ad) : Sp := fun vs H Q _ => ∃ v l kt rows xs kept ks, vs = [v, .ref l, .ref kt] ∧ At a H v rows kept ∧ H l = some (.lst xs) ∧ RowsAt H rows xs ∧ H kt = some (.tup (ks.map V.int)) ∧ Srt ks kept ∧ ks.length ≤ 40 ∧ TabsOk (tabs a) H ∧
  ∀ H', SameT H H' → TabsOk (tabs a) H' → Q (.bl true) H'
section
variable {P : Program} {w : World} {K : PySem.W.Frag} {mg : Str → Option Value} {base : Heap} {a : Ad}
theorem dvs_int {H : Hp} : ∀ (l : List Int), DVs K H (l.map PyData.int) (l.map V.int)
  | [] => by simp [DVs]
  | c :: l => by
    rw [List.map_cons, List.map_cons, DVs]
    exact ⟨_, _, rfl, by simp [DV], dvs_int l⟩
theorem lay_ints : ∀ (l : List Int), PyData.canLayAll0 (l.map PyData.int) = true ∧ PyData.depthAll (l.map PyData.int) ≤ 1
  | [] => by simp [PyData.canLayAll0, PyData.depthAll]
  | t :: l => by
    obtain ⟨h1, h2⟩ := lay_ints l
    rw [List.map_cons, PyData.canLayAll0, PyData.depthAll, h1, PyData.canLay0]
    refine ⟨rfl, ?_⟩
    simp only [PyData.depth]
    omega
theorem ne_ints {H : Hp} {ns : List Int} {l r : Addr} {Q : VK} (h1 : H l = some (.lst (ns.map V.int))) (h2 : H r = some (.lst (ns.map V.int))) (q : Q (.bl false) H) : rEqD K true (.ref l) (.ref r) H Q := by
  have hs : SeqAt.shaped (.list (ns.map PyData.int)) = true := by
    obtain ⟨k1, k2⟩ := lay_ints ns
    unfold SeqAt.shaped
    rw [PyData.canLay0, k1, Bool.true_and]
    refine decide_eq_true ?_
    simp only [PyData.depth]
    omega
  refine ⟨.list (ns.map PyData.int), .list (ns.map PyData.int), by rw [DV]; exact ⟨l, _, rfl, SqL.of h1, dvs_int _⟩, by rw [DV]; exact ⟨r, _, rfl, SqL.of h2, dvs_int _⟩, hs, hs, ?_⟩
  rw [SeqAt.eqv_refl _ (SeqAt.canLay_of_shaped hs)]
  exact q
theorem eq_tups {H : Hp} {ns : List Int} {l r : Addr} {Q : VK} (h1 : H l = some (.tup (ns.map V.int))) (h2 : H r = some (.tup (ns.map V.int))) (q : Q (.bl true) H) : rEqD K false (.ref l) (.ref r) H Q := by
  have hsh : SeqAt.shaped (.tuple (ns.map PyData.int)) = true := by
    obtain ⟨k1, k2⟩ := lay_ints ns
    unfold SeqAt.shaped
    rw [PyData.canLay0, k1, Bool.true_and]
    refine decide_eq_true ?_
    simp only [PyData.depth]
    omega
  refine ⟨.tuple (ns.map PyData.int), .tuple (ns.map PyData.int), ?_, ?_, hsh, hsh, ?_⟩
  · rw [DV]; exact ⟨l, _, rfl, SqT.of h1, dvs_int ns⟩
  · rw [DV]; exact ⟨r, _, rfl, SqT.of h2, dvs_int ns⟩
  rw [SeqAt.eqv_refl _ (SeqAt.canLay_of_shaped hsh)]
  exact q
theorem eq_nils {H : Hp} {l r : Addr} {Q : VK} (h1 : H l = some (.lst [])) (h2 : H r = some (.lst [])) (q : Q (.bl true) H) : rEqD K false (.ref l) (.ref r) H Q := by
  refine ⟨.list [], .list [], ?_, ?_, by decide +kernel, by decide +kernel, ?_⟩
  · rw [DV]; exact ⟨l, _, rfl, SqL.of h1, by simp [DVs]⟩
  · rw [DV]; exact ⟨r, _, rfl, SqL.of h2, by simp [DVs]⟩
  have : PyData.eqv (.list []) (.list []) = true := by decide +kernel
  rw [this]
  exact q
theorem ok_thrown (T : Txt K mg a) (hB : Bm mg base) : FnOk P w K mg base CX0 6 a.f_L_thrown a.d_L_thrown ["_law_node", "_law_rows", "_law_kept"] (spThrown a) := by
  have G_Die_after : FnOk P w K mg base CX0 5 _ _ _ (spDA a) := ok_da T hB
  have G_Told_is_told : FnOk P w K mg base CX0 5 _ _ _ (spV (.bl true)) := (ok_tt T).mono (by decide)
  have G_Die_is_told : FnOk P w K mg base CX0 5 _ _ _ (spV (.bl false)) := (ok_dt T).mono (by decide)
  have G_Told_kept : FnOk P w K mg base CX0 5 _ _ _ (spTK a) := (ok_tk T).mono (by decide)
  have G_Die_kept : FnOk P w K mg base CX0 5 _ _ _ (spV .non) := (ok_dk T).mono (by decide)
  have G_Told_sides : FnOk P w K mg base CX0 5 _ _ _ (spV (.int 0)) := (ok_ts T).mono (by decide)
  have G_Die_sides : FnOk P w K mg base CX0 5 _ _ _ (spDS a) := (ok_ds T).mono (by decide)
  have G_Told_parts : FnOk P w K mg base CX0 5 _ _ _ spTP := (ok_tp T).mono (by decide)
  have G_Die_parts : FnOk P w K mg base CX0 5 _ _ _ (spDP a) := ok_dp T hB
  refine T.F_L_thrown.ok sc_L_thrown (fun vs H Q E h => ?_) (fun cdv A outer s H vs Q E hr h => ?_)
  · obtain ⟨v, l, kt, rows, xs, kept, ks, rfl, _⟩ := h; rfl
  · obtain ⟨v, l, kt, rows, xs, kept, ks, rfl, hat, hl, hrs, hk, hks, hkl, hT, q⟩ := h
    refine ⟨_, (pss_cons (ps_for PassesOwn.never rfl (pi_any (vr 1)) (pg_tup rfl (pgs_cons (pg_name (i := 3) sc_L_thrown.nd rfl (Or.inl rfl)) (pgs_cons (pg_name (i := 4) sc_L_thrown.nd rfl (Or.inl rfl)) pgs_nil))) (pss_cons (ps_if (PW.pt (pw_or (t_val (PE.or (pe_meth0 (vr 0) T.cl_Told T.mt_Told_is_told G_Told_is_told hr T.B_Told_is_told .nil pass0) (pe_meth0 (vr 0) T.cl_Die T.mt_Die_is_told G_Die_is_told hr T.B_Die_is_told .nil pass0))) (pw_or (t_cmp o_isnot (PE.or (pe_meth0 (vr 0) T.cl_Told T.mt_Told_kept G_Told_kept hr T.B_Told_kept .nil pass0) (pe_meth0 (vr 0) T.cl_Die T.mt_Die_kept G_Die_kept hr T.B_Die_kept .nil pass0)) pe_non (nomark _)) (pw_or1 (t_cmp o_ne (PE.or (pe_meth0 (vr 0) T.cl_Told T.mt_Told_sides G_Told_sides hr T.B_Told_sides .nil pass0) (pe_meth0 (vr 0) T.cl_Die T.mt_Die_sides G_Die_sides hr T.B_Die_sides .nil pass0)) (pe_callB (call_sumI rfl) rfl T.z_sum bt_sum (pa_cons (vr 3) pa_nil)) (nomark _)))))) (pss_one (ps_ret pe_bl)) pss_nil) (pss_cons (ps_if (t_cmp (o_neD hr.units) (pe_comp rfl (N := ["_law_many", "_law_part"]) (ix := [none, none]) ⟨rfl, rfl, rfl, rfl, trivial⟩ (pi_any (PE.or (pe_meth0 (vr 0) T.cl_Told T.mt_Told_parts G_Told_parts hr T.B_Told_parts .nil pass0) (pe_meth0 (vr 0) T.cl_Die T.mt_Die_parts G_Die_parts hr T.B_Die_parts .nil pass0))) ⟨fun C s H fp => (pg_tupK (K := K) (n := 2) rfl rfl (pgs_cons (pg_name (i := 0) (show List.Nodup (["_law_many", "_law_part"] : List Str) by decide +kernel) rfl (Or.inl rfl)) (pgs_cons (pg_name (i := 1) (show List.Nodup (["_law_many", "_law_part"] : List Str) by decide +kernel) rfl (Or.inl rfl)) pgs_nil))), fun C s H fp => pts_nil, fun C s H fp => (vr 0)⟩) (vr 3) (nomark _)) (pss_one (ps_ret pe_bl)) pss_nil) (pss_one (ps_set (i := 0) sc_L_thrown.nd rfl (Or.inl rfl) (pe_meth (vr 0) T.cl_Die T.mt_Die_after G_Die_after hr T.B_Die_after .nil pass0 (pa_cons (vr 4) pa_nil))))))) (pss_one (ps_ret (m_and (PE.or (pe_meth0 (vr 0) T.cl_Told T.mt_Told_is_told G_Told_is_told hr T.B_Told_is_told .nil pass0) (pe_meth0 (vr 0) T.cl_Die T.mt_Die_is_told G_Die_is_told hr T.B_Die_is_told .nil pass0)) (m_and (pe_cmpR (o_eqD hr.units) (PE.or (pe_meth0 (vr 0) T.cl_Told T.mt_Told_kept G_Told_kept hr T.B_Told_kept .nil pass0) (pe_meth0 (vr 0) T.cl_Die T.mt_Die_kept G_Die_kept hr T.B_Die_kept .nil pass0)) (vr 2) (nomark _)) (m_and (pe_cmpR o_eq (PE.or (pe_meth0 (vr 0) T.cl_Told T.mt_Told_sides G_Told_sides hr T.B_Told_sides .nil pass0) (pe_meth0 (vr 0) T.cl_Die T.mt_Die_sides G_Die_sides hr T.B_Die_sides .nil pass0)) pe_int (nomark _)) (pe_one (pe_cmpR (o_eqD hr.units) (PE.or (pe_meth0 (vr 0) T.cl_Told T.mt_Told_parts G_Told_parts hr T.B_Told_parts .nil pass0) (pe_meth0 (vr 0) T.cl_Die T.mt_Die_parts G_Die_parts hr T.B_Die_parts .nil pass0)) (pe_lst pa_nil) (nomark _))))))))), ?_⟩
    refine .inl ⟨⟨_, SqL.of hl⟩, for_list (K := K) (a := l) (xs := xs) (fun i σ H' => SameT H H' ∧ TabsOk (tabs a) H' ∧ ∃ (here : V) (x3 x4 : Option V), σ = [some here, some (.ref l), some (.ref kt), x3, x4] ∧ At a H' here (rows.drop i) kept) ⟨SameT.refl, hT, v, none, none, rfl, hat⟩ (fun i σ H' _ h => SqL.of (h.1.at hl)) ?_ ?_⟩
    · rintro i y σ H' hy ⟨t1, hT1, here, x3, x4, rfl, hat1⟩
      obtain ⟨⟨k, n, t⟩, hri, p, ls, rfl, hp, hls⟩ := (hrs.t t1).get hy
      have hdr : rows.drop i = (k, n, t) :: rows.drop (i + 1) := by
        obtain ⟨hi, e⟩ := List.getElem?_eq_some_iff.mp hri
        rw [List.drop_eq_getElem_cons hi, e]
      rw [hdr] at hat1
      obtain ⟨ahead, m, taken, hd, m0, m1, hlen, ek, en, t0, t1', nxt⟩ := hat1.cons
      obtain ⟨x, dx, l', p1, p2, f1, f2, va, vt, ve, rfl, hx, hd'⟩ := id hd
      refine ⟨p, _, rfl, SqT.of hp, rfl, _, _, rfl, _, _, rfl, rfl, ?_⟩
      refine .inr ⟨x, dx, _, rfl, hx, rfl, _, rfl, ?_⟩
      refine .inr ⟨x, dx, _, rfl, hx, rfl, _, rfl, ?_⟩
      refine .inr ⟨x, dx, _, rfl, hx, rfl, _, ahead, m, taken, rfl, hd, fun H2 s2 => ?_⟩
      refine ⟨ls, [k, n], rfl, SqL.of (s2 _ _ hls), ?_⟩
      have esum : ([k, n] : List Int).sum = (ahead.length : Int) := by simp only [List.sum_cons, List.sum_nil]; omega
      rw [esum]
      refine iteNS rfl ?_
      have hd2 := hd.t s2.t
      refine .inr ⟨x, dx, _, rfl, s2 _ _ hx, rfl, _, ahead, m, taken, rfl, hd2, m0, m1, hlen, hT1.same s2, fun H3 r q1 q2 n1 n2 t3 hT3 hr0 hr3 g1 g2 => ?_⟩
      refine .inl ⟨⟨_, SqL.of hr3⟩, fun D hD => ?_⟩
      refine comp_list (K := K) (a := r) (xs := [.ref q1, .ref q2]) (fun i ys H' => Same H3 H' ∧ H' D = some (.lst ys) ∧ ys = ([.int (m : Nat), .int ((ahead.length : Int) - (m : Nat))] : List V).take i) ⟨Same.new hD, upd_same, rfl⟩ (fun i ys H' h => SqL.of (h.1 _ _ hr3)) (fun i ys H' h => h.2.1) ?_ ?_
      · rintro i y ys H4 P' hy ⟨s4, hD4, rfl⟩ hP
        match i, hy with
        | 0, hy =>
          cases hy
          exact ⟨q1, _, rfl, SqT.of (s4 _ _ g1), rfl, _, _, rfl, _, _, rfl, rfl, trivial, hD4, (show 0 < sizeLine by decide), hP _ _ ⟨s4.put hD, upd_same, rfl⟩⟩
        | 1, hy =>
          cases hy
          exact ⟨q2, _, rfl, SqT.of (s4 _ _ g2), rfl, _, _, rfl, _, _, rfl, rfl, trivial, hD4, (show 1 < sizeLine by decide), hP _ _ ⟨s4.put hD, upd_same, rfl⟩⟩
      · rintro ys H4 ⟨s4, hD4, rfl⟩
        have t24 := s2.t.trans (t3.trans s4.t)
        have hls4 : H4 ls = some (.lst ([k, n].map V.int)) := t24.at hls
        have hD5 : H4 D = some (.lst ([k, n].map V.int)) := by rw [hD4, ek, en]; rfl
        refine ne_ints (ns := [k, n]) hD5 hls4 ?_
        have hd4 := hd.t t24
        refine ⟨x, dx, _, rfl, t24.at hx, rfl, _, ahead, m, taken, t, rfl, hd4, m0, m1, hlen, t0, t1', hT3.same s4, fun H5 v' t5 hT5 few => ?_⟩
        exact ⟨t1.trans (t24.trans t5), hT5, v', _, _, rfl, nxt _ _ few⟩
    · rintro σ H' ⟨t1, hT1, here, x3, x4, rfl, hat1⟩
      rw [← hrs.len, List.drop_length] at hat1
      obtain ⟨x, dx, t, ns, rfl, hx, ht, hs⟩ := hat1.nil
      have : ns = ks := srt_uniq hs hks
      subst this
      refine .inl ⟨x, dx, _, rfl, hx, rfl, _, rfl, ?_⟩
      refine .inl ⟨x, dx, _, rfl, hx, rfl, x, dx, t, rfl, hx, ?_⟩
      refine eq_tups ht (t1.at hk) ?_
      refine .inl ⟨x, dx, _, rfl, hx, rfl, _, rfl, ?_⟩
      refine .inl ⟨x, dx, _, rfl, hx, rfl, _, rfl, fun p1 g1 => ?_⟩
      have s1 := Same.new (o := .lst []) g1
      refine ⟨Nat.zero_le _, fun p2 g2 => ?_⟩
      have s2 := Same.new (o := .lst []) g2
      exact eq_nils (s2 _ _ upd_same) upd_same (q _ (t1.trans (s1.t.trans s2.t)) (hT1.same (s1.trans s2)))
end
end My

set_option Elab.async false
set_option linter.all false
set_option maxRecDepth 100000
set_option maxHeartbeats 4000000
namespace My
open PySem L2 FrM
noncomputable def RowN (R kl : Addr) (H : Hp) (r : Int × Int × Int) (x : V) : Prop := ∃ p ls, x = .ref p ∧ ls ≠ R ∧ ls ≠ kl ∧ H p = some (.tup [.ref ls, .int r.2.2]) ∧ H ls = some (.lst [.int r.1, .int r.2.1])
noncomputable abbrev RowsN (R kl : Addr) (H : Hp) : List (Int × Int × Int) → List V → Prop := Paired (RowN R kl H)
theorem RowsN.same {R kl : Addr} {H H' : Hp} (s : Same H H') : ∀ {rs : List (Int × Int × Int)} {xs : List V}, RowsN R kl H rs xs → RowsN R kl H' rs xs
  | _, _, .nil => .nil
  | _, _, .cons ⟨p, ls, h1, n1, n2, h2, h3⟩ t => .cons ⟨p, ls, h1, n1, n2, s _ _ h2, s _ _ h3⟩ (RowsN.same s t)
theorem RowsN.putR {R kl : Addr} {H : Hp} {xs' : List V} {o : HO} (hR : H R = some (.lst xs')) : ∀ {rs : List (Int × Int × Int)} {xs : List V}, RowsN R kl H rs xs → RowsN R kl (upd H R o) rs xs
  | _, _, .nil => .nil
  | _, _, .cons ⟨p, ls, h1, n1, n2, h2, h3⟩ t => .cons ⟨p, ls, h1, n1, n2, by rw [upd_ne fun z => by rw [z, hR] at h2; cases h2]; exact h2, by rw [upd_ne n1]; exact h3⟩ (RowsN.putR hR t)
theorem RowsN.putK {R kl : Addr} {H : Hp} {xs' : List V} {o : HO} (hK : H kl = some (.lst xs')) : ∀ {rs : List (Int × Int × Int)} {xs : List V}, RowsN R kl H rs xs → RowsN R kl (upd H kl o) rs xs
  | _, _, .nil => .nil
  | _, _, .cons ⟨p, ls, h1, n1, n2, h2, h3⟩ t => .cons ⟨p, ls, h1, n1, n2, by rw [upd_ne fun z => by rw [z, hK] at h2; cases h2]; exact h2, by rw [upd_ne n2]; exact h3⟩ (RowsN.putK hK t)
theorem RowsN.rows {R kl : Addr} {H : Hp} : ∀ {rs : List (Int × Int × Int)} {xs : List V}, RowsN R kl H rs xs → RowsAt H rs xs
  | _, _, .nil => .nil
  | _, _, .cons ⟨p, ls, h1, n1, n2, h2, h3⟩ t => .cons ⟨p, ls, h1, h2, h3⟩ (RowsN.rows t)
theorem RowsN.snoc {R kl : Addr} {H : Hp} {r : Int × Int × Int} {x : V} (h : RowN R kl H r x) : ∀ {rs : List (Int × Int × Int)} {xs : List V}, RowsN R kl H rs xs → RowsN R kl H (rs ++ [r]) (xs ++ [x])
  | _, _, .nil => .cons h .nil
  | _, _, .cons a b => .cons a (RowsN.snoc h b)
noncomputable def spLFew : Sp := fun vs H Q _ => ∃ (lp lt : Addr) (places throws : List Int) (m : Nat), vs = [.ref lp, .int (m : Nat), .ref lt] ∧ H lp = some (.lst (places.map V.int)) ∧ H lt = some (.lst (throws.map V.int)) ∧ places.length ≤ 24 ∧ m ≤ 24 ∧ throws.length = 24 ∧
  ∀ H' p R kt xs rows kept ks, Same H H' → H' p = some (.tup [.ref R, .ref kt]) → H' R = some (.lst xs) → RowsAt H' rows xs → xs.length ≤ 24 → H' kt = some (.tup (ks.map V.int)) → Srt ks kept → ks.length ≤ 40 → Good places m [] rows kept → Q (.ref p) H'
/-- the state of the law's own walk -/
structure WSt (H H' : Hp) (R kl : Addr) (places : List Int) (m0 i : Nat) (l : Addr) (m : Nat) (left kept : List Int) (rows : List (Int × Int × Int)) (xs : List V) : Prop where
  s : Same H H'
  hl : H' l = some (.lst (left.map V.int))
  nR : l ≠ R
  nk : l ≠ kl
  hk : H' kl = some (.lst (kept.map V.int))
  hR : H' R = some (.lst xs)
  rs : RowsN R kl H' rows xs
  li : rows.length = i
  ll : left.length = places.length - i
  ip : i ≤ places.length
  lk : kept.length ≤ i
  mm : m ≤ m0
  good : ∀ rest kf, Good left m kept rest kf → Good places m0 [] (rows ++ rest) kf
section
variable {P : Program} {w : World} {K : PySem.W.Frag} {mg : Str → Option Value} {base : Heap} {a : Ad}
theorem ok_lfew (T : Txt K mg a) : FnOk P w K mg base CX0 1 a.f_L_few a.d_L_few ["_law_places", "_law_many", "_law_throws"] spLFew := by
  refine T.F_L_few.ok sc_L_few (fun vs H Q E h => ?_) (fun cdv A outer s H vs Q E hr h => ?_)
  · obtain ⟨lp, lt, places, throws, m, rfl, _⟩ := h; rfl
  · obtain ⟨lp, lt, places, throws, m, rfl, hp, ht, hpl, hm, htl, q⟩ := h
    have small : sizeLine = 16777216 := sizeLine_eq
    refine ⟨_, (pss_cons (ps_set (i := 3) sc_L_few.nd rfl (Or.inl rfl) (pe_lst pa_nil)) (pss_cons (ps_set (i := 4) sc_L_few.nd rfl (Or.inl rfl) (pe_lst pa_nil)) (pss_cons (ps_set (i := 5) sc_L_few.nd rfl (Or.inl rfl) (pe_callTy call_list_of rfl T.z_list bt_list (pa_cons (vr 0) pa_nil))) (pss_consM (ps_for PassesOwn.never rfl (pi_any (vr 2)) (pg_name (i := 6) sc_L_few.nd rfl (Or.inl rfl)) (pss_cons (ps_if (PW.pt (pw_or (t_cmp o_eq (vr 1) pe_int (nomark _)) (pw_or1 (t_cmp o_ge (vr 1) (pe_callB call_lenM rfl T.z_len bt_len (pa_cons (vr 5) pa_nil)) (nomark _))))) (pss_one ps_break) pss_nil) (pss_cons (ps_expr (pe_m.append (vr 3) (pa_cons (pe_tup (pa_cons (pe_lst (pa_cons (vr 1) (pa_cons (pe_op o_sub (pe_callB call_lenM rfl T.z_len bt_len (pa_cons (vr 5) pa_nil)) (vr 1)) pa_nil))) (pa_cons (pe_op o_mod (vr 6) (pe_callB call_lenM rfl T.z_len bt_len (pa_cons (vr 5) pa_nil))) pa_nil))) pa_nil))) (pss_consM (ps_if (t_cmp o_lt (pe_op o_mod (vr 6) (pe_callB call_lenM rfl T.z_len bt_len (pa_cons (vr 5) pa_nil))) (vr 1) (nomark _)) (pss_cons (ps_expr (pe_m.append (vr 4) (pa_cons (pe_ix ix_seq (vr 5) pe_int (fun _ _ => rfl)) pa_nil))) (pss_one (ps_set (i := 1) sc_L_few.nd rfl (Or.inl rfl) (pe_op o_sub (vr 1) pe_int)))) pss_nil) (pss_one (ps_set (i := 5) sc_L_few.nd rfl (Or.inl rfl) (pe_slice sl_any (vr 5) (po_some pe_int) po_none))))))) (pss_consM (ps_if (t_cmp o_gt (vr 1) pe_int (nomark _)) (pss_one (ps_set (i := 4) sc_L_few.nd rfl (Or.inl rfl) (pe_op op_cat (vr 4) (vr 5)))) pss_nil) (pss_one (ps_ret (pe_tup (pa_cons (vr 3) (pa_cons (pe_callTy call_tuple_of rfl T.z_tuple bt_tuple (pa_cons (pe_callB call_sortedI rfl T.z_sorted bt_sorted (pa_cons (vr 4) pa_nil)) pa_nil)) pa_nil)))))))))), ?_⟩
    refine ⟨Nat.zero_le _, fun R fR => ?_⟩
    have sR := Same.new (o := .lst []) fR
    refine ⟨Nat.zero_le _, fun kl fk => ?_⟩
    have sk := Same.new (o := .lst []) fk
    refine ⟨lp, _, rfl, .inl (SqL.of ((sR.trans sk) _ _ hp)), fun l0 f0 => ?_⟩
    have s0 := Same.new (o := .lst (places.map V.int)) f0
    have nRk : R ≠ kl := ne_of_none upd_same fk
    have nR : l0 ≠ R := fun z => by rw [z, sk _ _ upd_same] at f0; cases f0
    have nk : l0 ≠ kl := fun z => by rw [z] at f0; exact absurd (f0.symm.trans upd_same) (by simp)
    have fkH : H kl = none := sR.free fk
    refine ⟨fun σ H' => ∃ (i m' : Nat) (l : Addr) (left kept : List Int) (rows : List (Int × Int × Int)) (xs : List V) (x6 : Option V), σ = [some (.ref lp), some (.int (m' : Nat)), some (.ref lt), some (.ref R), some (.ref kl), some (.ref l), x6] ∧ WSt H H' R kl places m i l m' left kept rows xs ∧ (m' = 0 ∨ left.length ≤ m'), ?_, ?_⟩
    · refine .inl ⟨⟨_, SqL.of (((sR.trans sk).trans s0) _ _ ht)⟩, for_list (K := K) (a := lt) (xs := throws.map V.int) (fun i σ H' => ∃ (m' : Nat) (l : Addr) (left kept : List Int) (rows : List (Int × Int × Int)) (xs : List V) (x6 : Option V), σ = [some (.ref lp), some (.int (m' : Nat)), some (.ref lt), some (.ref R), some (.ref kl), some (.ref l), x6] ∧ WSt H H' R kl places m i l m' left kept rows xs)
        ⟨m, l0, places, [], [], [], none, rfl, ⟨(sR.trans sk).trans s0, upd_same, nR, nk, s0 _ _ upd_same, s0 _ _ (sk _ _ upd_same), .nil, rfl, by simp, Nat.zero_le _, Nat.le_refl _, Nat.le_refl _, fun rest kf g => g⟩⟩ (fun i σ H' _ h => ?_) ?_ ?_⟩
      · obtain ⟨m', l, left, kept, rows, xs, x6, rfl, W⟩ := h
        exact SqL.of (W.s _ _ ht)
      · rintro i x σ H' hx ⟨m', l, left, kept, rows, xs, x6, rfl, W⟩
        rw [List.getElem?_map] at hx
        cases hti : throws[i]? with
        | none => rw [hti] at hx; cases hx
        | some th =>
        rw [hti] at hx
        cases hx
        have hi : i < 24 := by have := (List.getElem?_eq_some_iff.mp hti).1; omega
        have fin : (m' = 0 ∨ left.length ≤ m') → ∃ (i1 m1 : Nat) (l1 : Addr) (left1 kept1 : List Int) (rows1 : List (Int × Int × Int)) (xs1 : List V) (x7 : Option V), [some (V.ref lp), some (.int (m' : Nat)), some (.ref lt), some (.ref R), some (.ref kl), some (.ref l), some (.int th)] = [some (.ref lp), some (.int (m1 : Nat)), some (.ref lt), some (.ref R), some (.ref kl), some (.ref l1), x7] ∧ WSt H H' R kl places m i1 l1 m1 left1 kept1 rows1 xs1 ∧ (m1 = 0 ∨ left1.length ≤ m1) := fun c => ⟨i, m', l, left, kept, rows, xs, _, rfl, W, c⟩
        refine ifC (fun c => fin (.inl (by omega))) fun c => ?_
        refine ⟨_, .inl (SqL.of W.hl), ?_⟩
        refine ifC (fun c2 => fin (.inr (by rw [List.length_map] at c2; omega))) fun c2 => ?_
        have m0 : 0 < m' := by omega
        have m1 : m' < left.length := by rw [List.length_map] at c2; omega
        refine ⟨.inl ⟨rfl, _, SqL.of W.hR⟩, _, .inl (SqL.of W.hl), (show 2 ≤ sizeLine by decide), fun ls fl => ?_⟩
        rw [List.length_map]
        have s1 := Same.new (o := .lst [.int (m' : Nat), .int ((left.length : Int) - (m' : Nat))]) fl
        have els : (upd H' ls (.lst [.int (m' : Nat), .int ((left.length : Int) - (m' : Nat))])) ls = some (.lst [.int (m' : Nat), .int ((left.length : Int) - (m' : Nat))]) := upd_same
        generalize upd H' ls (.lst [.int (m' : Nat), .int ((left.length : Int) - (m' : Nat))]) = H1 at s1 els
        have nlR : ls ≠ R := fun z => by rw [z, W.hR] at fl; cases fl
        have nlk : ls ≠ kl := fun z => by rw [z, W.hk] at fl; cases fl
        refine ⟨_, .inl (SqL.of (s1 _ _ W.hl)), ?_⟩
        rw [List.length_map]
        have pos : (0 : Int) < (left.length : Int) := by omega
        refine ⟨cp pos, (show 2 ≤ sizeLine by decide), fun p fp => ?_⟩
        obtain ⟨t, ht'⟩ : ∃ t, t = th % (left.length : Int) := ⟨_, rfl⟩
        have t0 : 0 ≤ t := by rw [ht']; exact Int.emod_nonneg _ (by omega)
        have t1 : t < (left.length : Int) := by rw [ht']; exact Int.emod_lt_of_pos _ pos
        dsimp only
        rw [← ht']
        have s2 := Same.new (o := .tup [.ref ls, .int t]) fp
        have ep : (upd H1 p (.tup [.ref ls, .int t])) p = some (.tup [.ref ls, .int t]) := upd_same
        generalize upd H1 p (.tup [.ref ls, .int t]) = H2 at s2 ep
        have s12 := s1.trans s2
        have hR2 := s12 _ _ W.hR
        have hlx : xs.length = i := by rw [← W.li]; exact (Paired.length W.rs).symm
        refine ⟨R, xs, _, rfl, rfl, hR2, by omega, ?_⟩
        have rs3 : RowsN R kl (upd H2 R (.lst (xs ++ [.ref p]))) (rows ++ [((m' : Int), (left.length : Int) - (m' : Int), t)]) (xs ++ [.ref p]) :=
          RowsN.putR hR2 (RowsN.snoc ⟨p, ls, rfl, nlR, nlk, ep, s2 _ _ els⟩ (W.rs.same s12))
        have hl3 : (upd H2 R (.lst (xs ++ [.ref p]))) l = some (.lst (left.map V.int)) := by rw [upd_ne W.nR]; exact s12 _ _ W.hl
        have hk3 : (upd H2 R (.lst (xs ++ [.ref p]))) kl = some (.lst (kept.map V.int)) := by rw [upd_ne nRk.symm]; exact s12 _ _ W.hk
        have hR3 : (upd H2 R (.lst (xs ++ [.ref p]))) R = some (.lst (xs ++ [.ref p])) := upd_same
        have sH3 : Same H (upd H2 R (.lst (xs ++ [.ref p]))) := (W.s.trans s12).put fR
        generalize upd H2 R (.lst (xs ++ [.ref p])) = H3 at rs3 hl3 hk3 hR3 sH3
        have nx : ∀ (rest : List (Int × Int × Int)) (kf : List Int), Good (left.drop 1) (if t < (m' : Int) then m' - 1 else m') (if t < (m' : Int) then kept ++ left.take 1 else kept) rest kf → Good places m [] ((rows ++ [((m' : Int), (left.length : Int) - (m' : Int), t)]) ++ rest) kf := fun rest kf g => by
          rw [List.append_assoc]
          exact W.good _ _ ⟨m0, m1, rfl, rfl, t0, t1, g⟩
        refine ⟨fun σ' H4 => ∃ (m2 : Nat) (kept2 : List Int), σ' = [some (V.ref lp), some (.int (m2 : Nat)), some (.ref lt), some (.ref R), some (.ref kl), some (.ref l), some (.int th)] ∧ Same H H4 ∧ H4 l = some (.lst (left.map V.int)) ∧ H4 kl = some (.lst (kept2.map V.int)) ∧ H4 R = some (.lst (xs ++ [.ref p])) ∧ RowsN R kl H4 (rows ++ [((m' : Int), (left.length : Int) - (m' : Int), t)]) (xs ++ [.ref p]) ∧ m2 = (if t < (m' : Int) then m' - 1 else m') ∧ kept2 = (if t < (m' : Int) then kept ++ left.take 1 else kept), ?_, ?_⟩
        · refine ⟨_, .inl (SqL.of hl3), ?_⟩
          rw [List.length_map]
          refine ⟨cp pos, ?_⟩
          dsimp only
          rw [← ht']
          refine ifC (fun c3 => ?_) fun c3 => ?_
          · have c3 : t < (m' : Int) := c3
            obtain ⟨y, r, e⟩ : ∃ y r, left = y :: r := by
              cases left with
              | nil => simp at m1
              | cons y r => exact ⟨y, r, rfl⟩
            refine ⟨.inl ⟨rfl, _, SqL.of hk3⟩, .inl ⟨l, _, _, .int y, rfl, rfl, SqL.of hl3, atI_cons 0 rfl (by rw [e]; rfl), kl, _, _, rfl, rfl, hk3, (by rw [List.length_map]; have := W.lk; omega), ?_⟩⟩
            refine ⟨m' - 1, kept ++ [y], ?_, sH3.put fkH, ?_, ?_, ?_, RowsN.putK hk3 rs3, by rw [if_pos c3], by rw [if_pos c3, e]; rfl⟩
            · show [some (V.ref lp), some (V.int ((m' : Int) - 1)), some (V.ref lt), some (V.ref R), some (V.ref kl), some (V.ref l), some (V.int th)] = _
              rw [show ((m' : Int) - 1) = ((m' - 1 : Nat) : Int) by omega]
            · rw [upd_ne W.nk]; exact hl3
            · rw [upd_same, List.map_append]; rfl
            · rw [upd_ne nRk]; exact hR3
          · have c3 : ¬ t < (m' : Int) := c3
            exact ⟨m', kept, rfl, sH3, hl3, hk3, hR3, rs3, by rw [if_neg c3], by rw [if_neg c3]⟩
        · rintro σ' H4 ⟨m2, kept2, rfl, sH4, hl4, hk4, hR4, rs4, em, ek⟩
          refine ⟨_, rfl, .inl ⟨_, SqL.of hl4, fun l5 f5 => ?_⟩⟩
          have er : cutV (left.map V.int) (some 1) none = (left.drop 1).map V.int := by rw [List.map_drop]; exact cutV_drop _ 1
          rw [er]
          have s5 := Same.new (o := .lst ((left.drop 1).map V.int)) f5
          have n5R : l5 ≠ R := fun z => by rw [z, hR4] at f5; cases f5
          have n5k : l5 ≠ kl := fun z => by rw [z, hk4] at f5; cases f5
          have hlk := W.lk
          have hll := W.ll
          have hmm := W.mm
          refine ⟨m2, l5, left.drop 1, kept2, _, _, _, rfl, ⟨sH4.trans s5, upd_same, n5R, n5k, s5 _ _ hk4, s5 _ _ hR4, rs4.same s5, by rw [List.length_append, W.li]; rfl, ?_, by omega, ?_, ?_, by rw [em, ek]; exact nx⟩⟩
          · rw [List.length_drop]; omega
          · rw [ek]; split
            · rw [List.length_append, List.length_take]; omega
            · omega
          · rw [em]; split <;> omega
      · rintro σ H' ⟨m', l, left, kept, rows, xs, x6, rfl, W⟩
        refine ⟨_, m', l, left, kept, rows, xs, x6, rfl, W, .inr ?_⟩
        have := W.ll
        have := W.ip
        rw [List.length_map] at *
        omega
    · rintro σ H' ⟨i, m', l, left, kept, rows, xs, x6, rfl, W, c⟩
      have hi := W.ip
      have hlk := W.lk
      have hll := W.ll
      refine ⟨fun σ' H1 => ∃ (kv : Addr) (kf : List Int), σ' = [some (.ref lp), some (.int (m' : Nat)), some (.ref lt), some (.ref R), some (.ref kv), some (.ref l), x6] ∧ Same H' H1 ∧ H1 kv = some (.lst (kf.map V.int)) ∧ kf = (if m' = 0 then kept else kept ++ left), ?_, ?_⟩
      · refine ifC (fun c2 => ?_) fun c2 => ?_
        · have c2 : m' ≠ 0 := by omega
          refine ⟨kl, l, _, _, rfl, rfl, W.hk, W.hl, (by rw [List.length_map, List.length_map]; omega), fun r fr => ?_⟩
          exact ⟨r, kept ++ left, rfl, Same.new fr, by rw [upd_same, List.map_append], by rw [if_neg c2]⟩
        · have c2 : m' = 0 := by omega
          exact ⟨kl, kept, rfl, Same.refl _, W.hk, by rw [if_pos c2]⟩
      · rintro σ' H1 ⟨kv, kf, rfl, s1, hkv, ekf⟩
        have hkl : kf.length < 64 := by
          rw [ekf]
          split
          · omega
          · rw [List.length_append]; omega
        refine ⟨kv, kf, rfl, SqL.of hkv, hkl, fun p ns hp hs fp => ?_⟩
        have s2 := Same.new (o := .lst (ns.map V.int)) fp
        refine ⟨p, _, rfl, .inl ⟨SqL.of upd_same, fun kt fkt => ?_⟩⟩
        have s3 := Same.new (o := .tup (ns.map V.int)) fkt
        refine ⟨(show 2 ≤ sizeLine by decide), fun pr fpr => ?_⟩
        have s4 := Same.new (o := .tup [.ref R, .ref kt]) fpr
        have s14 := s1.trans (s2.trans (s3.trans s4))
        have hxl : xs.length ≤ 24 := by rw [← Paired.length W.rs, W.li]; omega
        have hnl : ns.length ≤ 40 := by
          rw [hp.length_eq, ekf]
          split
          · omega
          · rw [List.length_append]; omega
        refine q _ pr R kt xs rows kf ns (W.s.trans s14) upd_same (s14 _ _ W.hR) (RowsAt.t s14.t W.rs.rows) hxl (s4 _ _ upd_same) ⟨hp, hs⟩ hnl ?_
        have := W.good [] kf ⟨c, ekf⟩
        rw [List.append_nil] at this
        exact this
end
end My

set_option Elab.async false
set_option linter.all false
set_option maxRecDepth 100000
set_option maxHeartbeats 4000000
namespace My
open PySem L2 FrM
noncomputable abbrev Mb := Int × Int × List Str
noncomputable def MbAt (H : Hp) (m : Mb) (x : V) : Prop := ∃ q pt, x = .ref q ∧ H q = some (.tup [.int m.1, .int m.2.1, .ref pt]) ∧ H pt = some (.tup (m.2.2.map V.str))
noncomputable abbrev CrAt (H : Hp) : List Mb → List V → Prop := Paired (MbAt H)
theorem CrAt.tk {H H' : Hp} (k : TK H H') : ∀ {ms : List Mb} {xs : List V}, CrAt H ms xs → CrAt H' ms xs
  | _, _, .nil => .nil
  | _, _, .cons ⟨q, pt, h1, h2, h3⟩ t => .cons ⟨q, pt, h1, k _ _ h2, k _ _ h3⟩ (CrAt.tk k t)
theorem SameT.tk {H H' : Hp} (s : SameT H H') : TK H H' := fun a xs h => s.at h
theorem CrAt.get {H : Hp} : ∀ {ms : List Mb} {xs : List V} {i : Nat} {x : V}, CrAt H ms xs → xs[i]? = some x → ∃ r, ms[i]? = some r ∧ MbAt H r x
  | _, _, _, _, .nil, h => by cases h
  | _, _, 0, _, .cons r _, h => ⟨_, rfl, by cases h; exact r⟩
  | _, _, i + 1, _, .cons _ t, h => CrAt.get (i := i) t h
theorem CrAt.len {H : Hp} {ms : List Mb} {xs : List V} (h : CrAt H ms xs) : ms.length = xs.length := Paired.length h
noncomputable def plc (ms : List Mb) : List Int := ms.map (·.1)
noncomputable def spPlaces : Sp := fun vs H Q _ => ∃ (l : Addr) (xs : List V) (ms : List Mb), vs = [.ref l] ∧ H l = some (.lst xs) ∧ CrAt H ms xs ∧ ms.length ≤ 24 ∧ ∀ H' r, Same H H' → H r = none → H' r = some (.lst ((plc ms).map V.int)) → Q (.ref r) H'
noncomputable def spNeedN : Sp := fun vs H Q _ => ∃ (i lo hi : Int), vs = [.int i, .int lo, .int hi] ∧ lo ≤ i ∧ i ≤ hi ∧ Q .non H
noncomputable def spFewI (a : Ad) : Sp := fun vs H Q _ => ∃ (x dx : Addr) (m : Nat), vs = [.ref x, .int (m : Nat)] ∧ H x = some (.ins a.c_Few dx []) ∧ m ≤ 24 ∧ Q .non (upd H x (.ins a.c_Few dx [("many", .int (m : Nat))]))
noncomputable def IsPlan (a : Ad) (H : Hp) (v : V) (m : Nat) : Prop := ∃ x dx, v = .ref x ∧ H x = some (.ins a.c_Few dx [("many", .int (m : Nat))])
theorem IsPlan.t {a : Ad} {H H' : Hp} {v : V} {m : Nat} (s : SameT H H') (h : IsPlan a H v m) : IsPlan a H' v m := let ⟨x, dx, h1, h2⟩ := h; ⟨x, dx, h1, s.at h2⟩
noncomputable def spNode (a : Ad) : Sp := fun vs H Q _ => ∃ (N : Addr → Prop) (v : V) (m : Nat) (l : Addr) (xs : List V) (ms : List Mb), vs = [v, .ref l] ∧ (∀ b, H b = none → N b) ∧ IsPlan a H v m ∧ H l = some (.lst xs) ∧ CrAt H ms xs ∧ ms.length ≤ 24 ∧ TabsOk (tabs a) H ∧
  ∀ H' v', SameT H H' → TabsOk (tabs a) H' → IsFewN N a H' v' (plc ms) m [] → Q v' H'
noncomputable def spBounds (a : Ad) : Sp := fun vs H Q _ => ∃ (v : V) (m : Nat) (l : Addr) (xs : List V), vs = [v, .ref l] ∧ IsPlan a H v m ∧ H l = some (.lst xs) ∧
  ∀ p, H p = none → Q (.ref p) (upd H p (.tup [.int ((min m xs.length : Nat) : Int), .int ((min m xs.length : Nat) : Int)]))
noncomputable def spTextF (a : Ad) : Sp := fun vs H Q _ => ∃ (v : V) (m : Nat), vs = [v] ∧ IsPlan a H v m ∧ m ≤ 24 ∧ Q (.str (("few " : Str) ++ (toString (m : Int) : String))) H
theorem slen {i : Int} (h0 : 0 ≤ i) (h1 : i ≤ 100) : ((toString i : String) : Str).length ≤ 14 := by
  have h := codes_len (k := 12) (n := i) (by omega)
  rw [← toStr_codes] at h
  simpa [Str.length] using h
theorem slog {i : Int} (h0 : 0 ≤ i) (h1 : i ≤ 100) : i.natAbs.log2 < 1920 := small_log (by omega)
theorem emp (x : Str) : (Str.empty ++ x : Str) = x := by
  refine PyProof.Rows.ext_toList ?_
  show ((#[] : Array Nat) ++ x.cps).toList = x.cps.toList
  simp
section
variable {P : Program} {w : World} {K : PySem.W.Frag} {mg : Str → Option Value} {base : Heap} {a : Ad}
theorem ok_places (T : Txt K mg a) : FnOk P w K mg base CX0 1 a.f_places_of a.d_places_of ["crowd"] spPlaces := by
  refine T.F_places_of.ok sc_places_of (fun vs H Q E h => ?_) (fun cdv A outer s H vs Q E hr h => ?_)
  · obtain ⟨l, xs, ms, rfl, _⟩ := h; rfl
  · obtain ⟨l, xs, ms, rfl, hl, hc, hlen, q⟩ := h
    have small : sizeLine = 16777216 := sizeLine_eq
    have hcl := hc.len
    refine ⟨_, (pss_one (ps_ret (pe_comp rfl (N := ["member"]) (ix := [none]) ⟨rfl, rfl, rfl, rfl, trivial⟩ (pi_any (vr 0)) ⟨fun C s H fp => pg_name (i := 0) (show List.Nodup (["member"] : List Str) by decide +kernel) rfl (Or.inl rfl), fun C s H fp => pts_nil, fun C s H fp => (pe_ix (ix_seqK (K := K) rfl) (vr 0) pe_int (fun _ _ => rfl))⟩))), ?_⟩
    refine .inl ⟨⟨_, SqL.of hl⟩, fun D hD => ?_⟩
    refine comp_list (K := K) (a := l) (xs := xs) (fun i ys H' => i ≤ xs.length ∧ Same H H' ∧ H' D = some (.lst ys) ∧ ys = (plc (ms.take i)).map V.int) ⟨Nat.zero_le _, Same.new hD, upd_same, rfl⟩ (fun i ys H' h => SqL.of (h.2.1 _ _ hl)) (fun i ys H' h => h.2.2.1) ?_ ?_
    · rintro i x ys H' P' hx ⟨hi, s1, hD1, rfl⟩ hP
      obtain ⟨m, hm, q1, pt, rfl, g1, g2⟩ := (hc.tk s1.tk).get hx
      have hlt : i < xs.length := (List.getElem?_eq_some_iff.mp hx).1
      refine ⟨trivial, .inr (.inl ⟨q1, _, _, _, rfl, rfl, SqT.of g1, atI_cons 0 rfl rfl, hD1, ?_, hP _ _ ⟨hlt, s1.put hD, upd_same, ?_⟩⟩)⟩
      · unfold plc; rw [List.length_map, List.length_map, List.length_take]; omega
      · unfold plc; rw [List.take_add_one, hm, List.map_append, List.map_append]; rfl
    · rintro ys H' ⟨_, s1, hD1, rfl⟩
      rw [← hcl, List.take_of_length_le (Nat.le_refl _)] at hD1
      exact q _ D s1 hD hD1
theorem ok_needn (T : Txt K mg a) : FnOk P w K mg base CX0 2 a.f_need_number a.d_need_number ["thing", "low", "high"] spNeedN := by
  have G_is_whole : FnOk P w K mg base CX0 1 _ _ _ spIsW := ok_isw T
  refine T.F_need_number.ok sc_need_number (fun vs H Q E h => ?_) (fun cdv A outer s H vs Q E hr h => ?_)
  · obtain ⟨i, lo, hi, rfl, _⟩ := h; rfl
  · obtain ⟨i, lo, hi, rfl, h1, h2, q⟩ := h
    refine ⟨_, (pss_one (ps_if (pt_not (t_val (pe_call G_is_whole hr rfl T.m_is_whole T.F_is_whole.kp T.B_is_whole .nil pass0 (pa_cons (vr 0) (pa_cons (vr 1) (pa_cons (vr 2) pa_nil)))))) (pss_one ps_never) pss_nil)), ?_⟩
    refine ⟨i, lo, hi, rfl, ?_⟩
    rw [decide_eq_true (And.intro h1 h2)]
    exact q
theorem oi_Few (T : Txt K mg a) : FnOk P w K mg base CX0 3 a.i_Few a.e_Few ["self", "many"] (spFewI a) := by
  have G_need_number : FnOk P w K mg base CX0 2 _ _ _ spNeedN := ok_needn T
  refine T.Fi_Few.ok sc_Few___init__ (fun vs H Q E h => ?_) (fun cdv A outer s H vs Q E hr h => ?_)
  · obtain ⟨x, dx, m, rfl, _⟩ := h; rfl
  · obtain ⟨x, dx, m, rfl, hx, hm, q⟩ := h
    refine ⟨_, (pss_cons (ps_expr (pe_call G_need_number hr rfl T.m_need_number T.F_need_number.kp T.B_need_number .nil pass0 (pa_cons (vr 1) (pa_cons pe_int (pa_cons (pe_gl rfl T.g_MOST_MANY) pa_nil))))) (pss_one (ps_fld (vr 0) (vr 1) rfl))), ?_⟩
    refine ⟨_, 0, 24, rfl, by omega, by omega, ?_⟩
    exact ⟨x, a.c_Few, dx, [], rfl, hx, T.cl_Few, T.na_Few_many, (by decide), q⟩
theorem ok_node (T : Txt K mg a) (hB : Bm mg base) : FnOk P w K mg base CX0 4 a.x_Few_node a.y_Few_node ["self", "crowd"] (spNode a) := by
  have G_few_node : FnOk P w K mg base CX0 3 _ _ _ (spFewN a) := ok_fewnode T hB
  have G_places_of : FnOk P w K mg base CX0 3 _ _ _ spPlaces := (ok_places T).mono (by decide)
  refine T.F_Few_node.ok sc_Few_node (fun vs H Q E h => ?_) (fun cdv A outer s H vs Q E hr h => ?_)
  · obtain ⟨N, v, m, l, xs, ms, rfl, _⟩ := h; rfl
  · obtain ⟨N, v, m, l, xs, ms, rfl, hN, ⟨x, dx, rfl, hx⟩, hl, hc, hlen, hT, q⟩ := h
    refine ⟨_, (pss_one (ps_ret (pe_call G_few_node hr rfl T.m_few_node T.F_few_node.kp T.B_few_node .nil pass0 (pa_cons (pe_call G_places_of hr rfl T.m_places_of T.F_places_of.kp T.B_places_of .nil pass0 (pa_cons (vr 1) pa_nil)) (pa_cons (pe_fld (vr 0) rfl) (pa_cons (pe_lst pa_nil) pa_nil)))))), ?_⟩
    refine ⟨l, xs, ms, rfl, hl, hc, hlen, fun H1 r s1 hr0 hr1 => ?_⟩
    refine ⟨x, _, dx, _, _, rfl, s1 _ _ hx, T.cl_Few, T.na_Few_many, rfl, ?_⟩
    refine ⟨Nat.zero_le _, fun t0 ft => ?_⟩
    have s2 := Same.new (o := .lst []) ft
    refine ⟨N, r, t0, plc ms, [], m, rfl, fun b hb => hN b ((s1.trans s2).free hb), hN _ hr0, hN _ (s1.free ft), s2 _ _ hr1, upd_same, ?_, hT.same (s1.trans s2), fun H' v' t' hT' few => q _ _ ((s1.trans s2).t.trans t') hT' few⟩
    unfold plc
    rw [List.length_map, List.length_nil]
    omega
theorem ok_bounds (T : Txt K mg a) : FnOk P w K mg base CX0 1 a.x_Few_bounds a.y_Few_bounds ["self", "crowd"] (spBounds a) := by
  refine T.F_Few_bounds.ok sc_Few_bounds (fun vs H Q E h => ?_) (fun cdv A outer s H vs Q E hr h => ?_)
  · obtain ⟨v, m, l, xs, rfl, _⟩ := h; rfl
  · obtain ⟨v, m, l, xs, rfl, ⟨x, dx, rfl, hx⟩, hl, q⟩ := h
    refine ⟨_, (pss_cons (ps_set (i := 2) sc_Few_bounds.nd rfl (Or.inl rfl) (pe_callB (call_min2 rfl) rfl T.z_min bt_min (pa_cons (pe_fld (vr 0) rfl) (pa_cons (pe_callB call_lenM rfl T.z_len bt_len (pa_cons (vr 1) pa_nil)) pa_nil)))) (pss_one (ps_ret (pe_tup (pa_cons (vr 2) (pa_cons (vr 2) pa_nil)))))), ?_⟩
    refine ⟨x, _, dx, _, _, rfl, hx, T.cl_Few, T.na_Few_many, rfl, ⟨_, .inl (SqL.of hl), ?_⟩⟩
    refine ⟨_, _, rfl, ?_⟩
    have e : (if ((xs.length : Int) < (m : Int)) then (xs.length : Int) else (m : Int)) = ((min m xs.length : Nat) : Int) := by split <;> omega
    rw [e]
    exact ⟨(show 2 ≤ sizeLine by decide), q⟩
theorem ok_text (T : Txt K mg a) : FnOk P w K mg base CX0 1 a.x_Few_text a.y_Few_text ["self"] (spTextF a) := by
  refine T.F_Few_text.ok sc_Few_text (fun vs H Q E h => ?_) (fun cdv A outer s H vs Q E hr h => ?_)
  · obtain ⟨v, m, rfl, _⟩ := h; rfl
  · obtain ⟨v, m, rfl, ⟨x, dx, rfl, hx⟩, hm, q⟩ := h
    refine ⟨_, (pss_cons (ps_set (i := 1) sc_Few_text.nd rfl (Or.inl rfl) (pe_fld (vr 0) rfl)) (pss_one (ps_ret (pe_fstr (pj_cons pe_str (pj_cons (pe_fmt (vr 1)) pj_nil)))))), ?_⟩
    have h0 : (0 : Int) ≤ (m : Int) := by omega
    have h1 : (m : Int) ≤ 100 := by omega
    have hl := slen h0 h1
    have sl : sizeLine = 16777216 := sizeLine_eq
    have e1 : ((Str.empty ++ ("few " : Str) : Str)).length ≤ 8 := by decide +kernel
    have e2 : ((Str.empty ++ ("few " : Str)) ++ ((toString (m : Int) : String) : Str) : Str).length ≤ sizeLine := by rw [strLen_append]; omega
    refine ⟨x, _, dx, _, _, rfl, hx, T.cl_Few, T.na_Few_many, rfl, ?_⟩
    refine ⟨by omega, slog h0 h1, e2, e2, ?_⟩
    rw [emp]
    exact q
end
end My

set_option Elab.async false
set_option linter.all false
set_option maxRecDepth 100000
set_option maxHeartbeats 4000000
namespace My
open PySem L2 FrM
noncomputable def topE (w : Nat) (i j : Nat) : Int := if i = j then (w : Int) else (w : Int) * ((w : Int) - 1)
noncomputable def botE (n : Nat) (i j : Nat) : Int := if i = j then (n : Int) else (n : Int) * ((n : Int) - 1)
noncomputable def entry (n w i j : Nat) : Int × Int := lowP (topE w i j) (botE n i j)
noncomputable def rowE (n w i : Nat) : List (Int × Int) := (List.range n).map (entry n w i)
noncomputable def matE (n w : Nat) : List (List (Int × Int)) := (List.range n).map (rowE n w)
theorem bt24 {n : Nat} (h : n ≤ 24) : Bt 10 (n : Int) := by unfold Bt; omega
noncomputable def spChance : Sp := fun vs H Q _ => ∃ (n w i j : Nat), vs = [.int (n : Nat), .int (w : Nat), .bl (decide (i = j))] ∧ n ≤ 24 ∧ w ≤ n ∧ i < n ∧ j < n ∧ Tell H Q (topE w i j) (botE n i j)
noncomputable def spLM : List V → Sp := fun vals vs H Q _ => ∃ (n w i j : Nat), vals = [.int (w : Nat), .int (n : Nat)] ∧ vs = [.int (i : Nat), .int (j : Nat)] ∧ n ≤ 24 ∧ w ≤ n ∧ i < n ∧ j < n ∧ Tell H Q (topE w i j) (botE n i j)
theorem nd2 (n : Nat) : ([n + 1 + 1, n + 1] : List Nat).Nodup := by
  simp only [List.nodup_cons, List.mem_cons, List.not_mem_nil, or_false, not_or, not_false_eq_true, List.nodup_nil, and_true]
  omega
theorem lsM : LamScope ld_Few_matrix_1 fvM ["one", "other"] := ⟨rfl, rfl, rfl, by decide +kernel, by decide +kernel, by decide +kernel, by decide +kernel, by decide +kernel⟩
theorem backS {H H' H3 : Hp} {clos : List (Str × Addr)} (s : Same (untrs H (clos.map (·.2))) H') (s3 : Same H' H3) (hc : ∀ p ∈ clos, H3 p.2 = H p.2) : Same H H3 := fun b o e => by
  by_cases hb : b ∈ clos.map (·.2)
  · obtain ⟨p, hp, rfl⟩ := List.mem_map.mp hb
    rw [hc p hp, e]
  · exact (s.trans s3) b o (by rw [untrs_out hb]; exact e)
noncomputable def spMRow (K : PySem.W.Frag) : Sp := fun vs H Q _ => ∃ (n w i : Nat) (v : V), vs = [.int (i : Nat), .int (n : Nat), v] ∧ n ≤ 24 ∧ w ≤ n ∧ i < n ∧ IsLam H ld_Few_matrix_1 fvM v [.int (w : Nat), .int (n : Nat)] ∧
  ∀ H' r ys, Same H H' → H r = none → H' r = some (.lst ys) → AllF K H' (rowE n w i) ys → Q (.ref r) H'
/-- a matrix, each row a list by itself, none of them the one at D -/
noncomputable def MRow (K : PySem.W.Frag) (D : Addr) (H : Hp) (fs : List (Int × Int)) (x : V) : Prop := ∃ q ys, x = .ref q ∧ q ≠ D ∧ H q = some (.lst ys) ∧ AllF K H fs ys
noncomputable abbrev MatAt (K : PySem.W.Frag) (D : Addr) (H : Hp) : List (List (Int × Int)) → List V → Prop := Paired (MRow K D H)
theorem MRow.same {K : PySem.W.Frag} {D : Addr} {H H' : Hp} {fs : List (Int × Int)} {x : V} (s : SameT H H') (h : MRow K D H fs x) : MRow K D H' fs x :=
  let ⟨q, ys, h1, h2, h3, h4⟩ := h; ⟨q, ys, h1, h2, s.at h3, h4.tk (SameT.tk s)⟩
theorem MatAt.same {K : PySem.W.Frag} {D : Addr} {H H' : Hp} (s : SameT H H') : ∀ {fss : List (List (Int × Int))} {xs : List V}, MatAt K D H fss xs → MatAt K D H' fss xs
  | _, _, .nil => .nil
  | _, _, .cons r t => .cons (r.same s) (MatAt.same s t)
theorem MRow.put {K : PySem.W.Frag} {D : Addr} {H : Hp} {fs : List (Int × Int)} {x : V} {zs zs' : List V} (hD : H D = some (.lst zs)) (h : MRow K D H fs x) : MRow K D (upd H D (.lst zs')) fs x :=
  let ⟨q, ys, h1, h2, h3, h4⟩ := h; ⟨q, ys, h1, h2, by rw [upd_ne h2]; exact h3, h4.tk (TK.lst hD)⟩
theorem MatAt.put {K : PySem.W.Frag} {D : Addr} {H : Hp} {zs zs' : List V} (hD : H D = some (.lst zs)) : ∀ {fss : List (List (Int × Int))} {xs : List V}, MatAt K D H fss xs → MatAt K D (upd H D (.lst zs')) fss xs
  | _, _, .nil => .nil
  | _, _, .cons r t => .cons (r.put hD) (MatAt.put hD t)
theorem MatAt.snoc {K : PySem.W.Frag} {D : Addr} {H : Hp} {fs : List (Int × Int)} {x : V} (h : MRow K D H fs x) : ∀ {fss : List (List (Int × Int))} {xs : List V}, MatAt K D H fss xs → MatAt K D H (fss ++ [fs]) (xs ++ [x])
  | _, _, .nil => .cons h .nil
  | _, _, .cons a b => .cons a (MatAt.snoc h b)
theorem MatAt.get {K : PySem.W.Frag} {D : Addr} {H : Hp} : ∀ {fss : List (List (Int × Int))} {xs : List V} {i : Nat} {x : V}, MatAt K D H fss xs → xs[i]? = some x → ∃ r, fss[i]? = some r ∧ MRow K D H r x
  | _, _, _, _, .nil, h => by cases h
  | _, _, 0, _, .cons r _, h => ⟨_, rfl, by cases h; exact r⟩
  | _, _, i + 1, _, .cons _ t, h => MatAt.get (i := i) t h
theorem MatAt.len {K : PySem.W.Frag} {D : Addr} {H : Hp} {fss : List (List (Int × Int))} {xs : List V} (h : MatAt K D H fss xs) : fss.length = xs.length := Paired.length h
noncomputable def spMBy (K : PySem.W.Frag) : Sp := fun vs H Q _ => ∃ (n w : Nat) (v : V), vs = [.int (n : Nat), v] ∧ n ≤ 24 ∧ w ≤ n ∧ IsLam H ld_Few_matrix_1 fvM v [.int (w : Nat), .int (n : Nat)] ∧
  ∀ H' r xs, Same H H' → H r = none → H' r = some (.lst xs) → MatAt K r H' (matE n w) xs → xs.Nodup → (∀ q, V.ref q ∈ xs → H q = none) → Q (.ref r) H'
noncomputable def spMatrix (K : PySem.W.Frag) (a : Ad) : Sp := fun vs H Q _ => ∃ (v : V) (m : Nat) (l : Addr) (zs : List V), vs = [v, .ref l] ∧ IsPlan a H v m ∧ H l = some (.lst zs) ∧ zs.length ≤ 24 ∧ TabsOk (tabs a) H ∧
  ∀ H' r xs, SameT H H' → TabsOk (tabs a) H' → H r = none → H' r = some (.lst xs) → MatAt K r H' (matE zs.length (min m zs.length)) xs → xs.Nodup → (∀ q, V.ref q ∈ xs → H q = none) → Q (.ref r) H'
section
variable {P : Program} {w : World} {K : PySem.W.Frag} {mg : Str → Option Value} {base : Heap} {a : Ad}
theorem ok_chance (T : Txt K mg a) : FnOk P w K mg base CX0 3 a.f_few_chance a.d_few_chance ["there", "wanted", "is_same"] spChance := by
  have G_share : FnOk P w K mg base CX0 2 _ _ _ spLow := ok_share T
  refine T.F_few_chance.ok sc_few_chance (fun vs H Q E h => ?_) (fun cdv A outer s H vs Q E hr h => ?_)
  · obtain ⟨n, w', i, j, rfl, _⟩ := h; rfl
  · obtain ⟨n, w', i, j, rfl, hn, hw, hi, hj, q⟩ := h
    have b1 := bt24 hn
    have b2 := bt24 (Nat.le_trans hw hn)
    refine ⟨_, (pss_cons (ps_if (t_val (vr 2)) (pss_one (ps_ret (pe_call G_share hr rfl T.m_share T.F_share.kp T.B_share .nil pass0 (pa_cons (vr 1) (pa_cons (vr 0) pa_nil))))) pss_nil) (pss_one (ps_ret (pe_call G_share hr rfl T.m_share T.F_share.kp T.B_share .nil pass0 (pa_cons (pe_op o_mulB (vr 1) (pe_op o_sub (vr 1) pe_int)) (pa_cons (pe_op o_mulB (vr 0) (pe_op o_sub (vr 0) pe_int)) pa_nil)))))), ?_⟩
    by_cases e : i = j
    · unfold topE botE at q
      rw [if_pos e, if_pos e] at q
      rw [decide_eq_true e]
      exact ⟨_, _, rfl, by omega, b2.mono (by decide), b1.mono (by decide), q⟩
    · unfold topE botE at q
      rw [if_neg e, if_neg e] at q
      rw [decide_eq_false e]
      have hpos : (0 : Int) < (n : Int) * ((n : Int) - 1) := Int.mul_pos (by omega) (by omega)
      have c1 : Bt 11 ((w' : Int) - 1) := by unfold Bt; omega
      have c2 : Bt 11 ((n : Int) - 1) := by unfold Bt; omega
      exact ⟨clB (by omega) (by omega), clB (by omega) (by omega), _, _, rfl, hpos, (b2.mul c1).mono (by decide), (b1.mul c2).mono (by decide), q⟩
theorem ok_lm (T : Txt K mg a) : LamOk P w K mg base 4 ld_Few_matrix_1 fvM ["one", "other"] spLM := by
  have G_few_chance : FnOk P w K mg base CX0 3 _ _ _ spChance := ok_chance T
  refine lam_of lsM (fun pm ctv clos c us hl => match us, hl with | [_, _], _ => rfl) (fun vals vs H Q E h => ?_) (fun A outer s H f c clos vals vs Q E hr hfv ca h => ?_)
  · obtain ⟨n, w', i, j, rfl, rfl, _⟩ := h; rfl
  · obtain ⟨n, w', i, j, rfl, rfl, hn, hw, hi, hj, q⟩ := h
    refine ⟨_, (pe_call G_few_chance hr rfl T.m_few_chance T.F_few_chance.kp T.B_few_chance .nil pass0 (pa_cons (vr 3) (pa_cons (vr 2) (pa_cons (pe_cmpR o_eq (vr 0) (vr 1) (nomark _)) pa_nil)))), ?_⟩
    have e : (decide ((i : Int) = (j : Int))) = decide (i = j) := by
      by_cases h : i = j
      · subst h; simp
      · rw [decide_eq_false h, decide_eq_false (by omega)]
    refine ⟨n, w', i, j, ?_, hn, hw, hi, hj, fun H' p s1 hp => fun H3 s3 hc => q _ p (backS s1 s3 hc) (s3 _ _ hp)⟩
    show [V.int (n : Int), V.int (w' : Int), V.bl (decide ((i : Int) = (j : Int)))] = _
    rw [e]
theorem ok_mrow (T : Txt K mg a) : FnOk P w K mg base CX0 5 a.f_matrix_row a.d_matrix_row ["one", "many", "tell"] (spMRow K) := by
  have L_mat : LamOk P w K mg base 4 ld_Few_matrix_1 fvM ["one", "other"] spLM := ok_lm T
  refine T.F_matrix_row.ok sc_matrix_row (fun vs H Q E h => ?_) (fun cdv A outer s H vs Q E hr h => ?_)
  · obtain ⟨n, w', i, v, rfl, _⟩ := h; rfl
  · obtain ⟨n, w', i, v, rfl, hn, hw, hi, hL, q⟩ := h
    have small : sizeLine = 16777216 := sizeLine_eq
    refine ⟨_, (pss_one (ps_ret (pe_comp rfl (N := ["other", "tell", "one"]) (ix := [none, some 2, some 0]) ⟨rfl, rfl, rfl, rfl, ⟨rfl, rfl, rfl, ⟨rfl, rfl, rfl, trivial⟩⟩⟩ (pi_range1 rfl T.z_range (pa_cons (vr 1) pa_nil)) ⟨fun C s H fp => pg_name (i := 0) (show List.Nodup (["other", "tell", "one"] : List Str) by decide +kernel) rfl (Or.inl rfl), fun C s H fp => pts_nil, fun C s H fp => (pe_callL (vr 1) L_mat hr (pa_cons (vr 2) (pa_cons (vr 0) pa_nil)))⟩))), ?_⟩
    refine ⟨(n : Int), rfl, by omega, by omega, fun D hD => ?_⟩
    refine comp_rng (lo := 0) (n := n) (fun j ys H' => j ≤ n ∧ Same H H' ∧ H' D = some (.lst ys) ∧ AllF K H' ((List.range j).map (entry n w' i)) ys) ⟨Nat.zero_le _, Same.new hD, upd_same, .nil⟩ (fun j ys H' h => h.2.2.1) ?_ ?_
    · rintro j ys H' P' hj ⟨_, s1, hD1, hF⟩ hP
      obtain ⟨f, c, clos, rfl, e1, e2, e3, e4, e5⟩ := hL.t s1.t
      have hyl : ys.length = j := by rw [← hF.len, List.length_map, List.length_range]
      refine ⟨⟨rfl, rfl, trivial⟩, ⟨f, _, _, _, rfl, e1⟩, ?_⟩
      refine ⟨fun f' d' cl' c' _ z => z, f, c, clos, _, rfl, e1, e2, e3, e4, e5, n, w', i, j, rfl, ?_, hn, hw, hi, hj, fun H2 p s2 hp => ?_⟩
      · show [V.int (i : Int), V.int (0 + (j : Int))] = _
        rw [Int.zero_add]
      have hD2 := s2 _ _ hD1
      refine ⟨hD2, by omega, hP _ _ ⟨hj, (s1.trans s2).put hD, upd_same, ?_⟩⟩
      rw [List.range_succ, List.map_append]
      have np : p ≠ D := fun z => by rw [z, hD2] at hp; cases hp
      exact AllF.snoc ⟨p, rfl, .inl (by rw [upd_ne np]; exact hp)⟩ ((hF.same s2).tk (TK.lst hD2))
    · rintro ys H' ⟨_, s1, hD1, hF⟩
      exact q _ D ys s1 hD hD1 hF
theorem ok_mby (T : Txt K mg a) : FnOk P w K mg base CX0 6 a.f_matrix_by a.d_matrix_by ["many", "tell"] (spMBy K) := by
  have G_matrix_row : FnOk P w K mg base CX0 5 _ _ _ (spMRow K) := ok_mrow T
  refine T.F_matrix_by.ok sc_matrix_by (fun vs H Q E h => ?_) (fun cdv A outer s H vs Q E hr h => ?_)
  · obtain ⟨n, w', v, rfl, _⟩ := h; rfl
  · obtain ⟨n, w', v, rfl, hn, hw, hL, q⟩ := h
    have small : sizeLine = 16777216 := sizeLine_eq
    refine ⟨_, (pss_one (ps_ret (pe_comp rfl (N := ["one", "many", "tell"]) (ix := [none, some 0, some 1]) ⟨rfl, rfl, rfl, rfl, ⟨rfl, rfl, rfl, ⟨rfl, rfl, rfl, trivial⟩⟩⟩ (pi_range1 rfl T.z_range (pa_cons (vr 0) pa_nil)) ⟨fun C s H fp => pg_name (i := 0) (show List.Nodup (["one", "many", "tell"] : List Str) by decide +kernel) rfl (Or.inl rfl), fun C s H fp => pts_nil, fun C s H fp => (pe_call G_matrix_row hr rfl T.m_matrix_row T.F_matrix_row.kp T.B_matrix_row .nil pass0 (pa_cons (vr 0) (pa_cons (vr 1) (pa_cons (vr 2) pa_nil))))⟩))), ?_⟩
    refine ⟨(n : Int), rfl, by omega, by omega, fun D hD => ?_⟩
    refine comp_rng (lo := 0) (n := n) (fun j ys H' => j ≤ n ∧ Same H H' ∧ H' D = some (.lst ys) ∧ MatAt K D H' ((List.range j).map (rowE n w')) ys ∧ ys.Nodup ∧ ∀ q, V.ref q ∈ ys → H q = none) ⟨Nat.zero_le _, Same.new hD, upd_same, .nil, List.nodup_nil, fun q hq => by cases hq⟩ (fun j ys H' h => h.2.2.1) ?_ ?_
    · rintro j ys H' P' hj ⟨_, s1, hD1, hM, hnd, hnew⟩ hP
      have hyl : ys.length = j := by rw [← hM.len, List.length_map, List.length_range]
      refine ⟨⟨rfl, rfl, trivial⟩, n, w', j, v, ?_, hn, hw, hj, hL.t s1.t, fun H2 r ys2 s2 hr0 hr2 hF => ?_⟩
      · show [V.int (0 + (j : Int)), V.int (n : Int), v] = _
        rw [Int.zero_add]
      have hD2 := s2 _ _ hD1
      have nr : r ≠ D := fun z => by rw [z, hD1] at hr0; cases hr0
      refine ⟨hD2, by omega, hP _ _ ⟨hj, (s1.trans s2).put hD, upd_same, ?_, ?_, fun q hq => ?_⟩⟩
      · rw [List.range_succ, List.map_append]
        exact MatAt.snoc ⟨r, ys2, rfl, nr, by rw [upd_ne nr]; exact hr2, hF.tk (TK.lst hD2)⟩ (MatAt.put hD2 (MatAt.same s2.t hM))
      · rw [List.nodup_append]
        refine ⟨hnd, by simp, fun x hx y hy z => ?_⟩
        rw [List.mem_singleton] at hy
        subst hy
        subst z
        obtain ⟨i, hi⟩ := List.getElem?_of_mem hx
        obtain ⟨_, _, q1, _, e, _, h3, _⟩ := hM.get hi
        cases e
        rw [h3] at hr0
        cases hr0
      · rcases List.mem_append.mp hq with z | z
        · exact hnew q z
        · cases List.mem_singleton.mp z
          exact s1.free hr0
    · rintro ys H' ⟨_, s1, hD1, hM, hnd, hnew⟩
      exact q _ D ys s1 hD hD1 hM hnd hnew
theorem ok_matrix (T : Txt K mg a) (hB : Bm mg base) : FnOk P w K mg base CX0 7 a.x_Few_matrix a.y_Few_matrix ["self", "crowd"] (spMatrix K a) := by
  have G_matrix_by : FnOk P w K mg base CX0 6 _ _ _ (spMBy K) := ok_mby T
  refine T.F_Few_matrix.okL T.lcd_Few_matrix sc_Few_matrix (by decide +kernel) (fun vs H Q E h => ?_) (fun A outer s H vs Q E hr h => ?_)
  · obtain ⟨v, m, l, zs, rfl, _⟩ := h; rfl
  · obtain ⟨v, m, l, zs, rfl, ⟨x, dx, rfl, hx⟩, hl, hz, hT, q⟩ := h
    refine ⟨_, (pr_cons (ps_set (i := 2) sc_Few_matrix.nd rfl (Or.inr rfl) (pe_callB call_lenM rfl T.z_len bt_len (pa_cons (vr 1) pa_nil))) (pr_cons (ps_set (i := 3) sc_Few_matrix.nd rfl (Or.inr rfl) (pe_callB (call_min2 rfl) rfl T.z_min bt_min (pa_cons (pe_fld (vr 0) rfl) (pa_cons (vr 2) pa_nil)))) (pr_retC sc_Few_matrix.nd (by decide +kernel) G_matrix_by hr rfl T.m_matrix_by T.F_matrix_by.kp T.B_matrix_by .nil (pa_cons (vr 2) (pa_cons (pe_lam (d := ld_Few_matrix_1) rfl T.lch_Few_matrix hB rfl (by with_unfolding_all rfl) rfl (tb_Few_matrix a) (.head _) T.tnd tp_Few_matrix) pa_nil))))), ?_⟩
    refine ⟨_, .inl (SqL.of hl), ?_⟩
    refine ⟨x, _, dx, _, _, rfl, hx, T.cl_Few, T.na_Few_many, rfl, ?_⟩
    refine ⟨_, _, rfl, ?_⟩
    have e : (if ((zs.length : Int) < (m : Int)) then (zs.length : Int) else (m : Int)) = ((min m zs.length : Nat) : Int) := by split <;> omega
    rw [e]
    refine ⟨hT, fun f c H1 t1 hT1 hf0 ef ec => ?_⟩
    intro H3 s3 hc
    have cT := hc 2 _ _ _ rfl rfl (by with_unfolding_all rfl)
    have cW := hc 3 _ _ _ rfl rfl (by with_unfolding_all rfl)
    have t13 := t1.trans s3.t
    refine ⟨zs.length, min m zs.length, .ref f, rfl, hz, Nat.min_le_right _ _, ⟨f, c, _, rfl, s3 _ _ ef, s3 _ _ ec, rfl, nd2 _, .cons cW (.cons cT .nil)⟩, fun H' r xs s4 hr0 hr1 hM hnd hnew => ?_⟩
    exact q _ r xs (t13.trans s4.t) ((hT1.same s3).same s4) (t13.free hr0) hr1 hM hnd fun q hq => t13.free (hnew q hq)
end
end My

set_option Elab.async false
set_option linter.all false
set_option maxRecDepth 100000
set_option maxHeartbeats 4000000
namespace My
open PySem L2 FrM
theorem paired_snoc {α β : Type} {R : α → β → Prop} {x : α} {y : β} (h : R x y) : ∀ {xs : List α} {ys : List β}, Paired R xs ys → Paired R (xs ++ [x]) (ys ++ [y])
  | _, _, .nil => .cons h .nil
  | _, _, .cons a b => .cons a (paired_snoc h b)
noncomputable def spLMat (K : PySem.W.Frag) : Sp := fun vs H Q _ => ∃ (r d : Addr) (xs ys : List V) (fss : List (List (Int × Int))), vs = [.ref r, .ref d] ∧ H r = some (.lst xs) ∧ H d = some (.lst ys) ∧ MatAt K r H fss xs ∧ MatAt K d H fss ys ∧ ∀ H', Same H H' → Q (.bl true) H'
noncomputable def spCounts (K : PySem.W.Frag) : Sp := fun vs H Q _ => ∃ (m n : Nat), vs = [.int (m : Nat), .int (n : Nat)] ∧ n ≤ 24 ∧ ∀ H' r xs, Same H H' → H r = none → H' r = some (.lst xs) → MatAt K r H' (matE n (min m n)) xs → (∀ q, V.ref q ∈ xs → H q = none) → Q (.ref r) H'
noncomputable def Pt (ms : List Mb) : Prop := ms.length ≤ 24 ∧ ∀ m ∈ ms, ∀ t ∈ m.2.2, ∀ c ∈ t.cps.toList, c < 128
noncomputable def spCrowd (K : PySem.W.Frag) : Sp := fun vs H Q _ => ∃ (p : Addr) (ns : List Int), vs = [.ref p, .int 0, .int 24] ∧ SqL K H p (ns.map V.int) ∧ ns.length ≤ 63 ∧ ∀ H' r ms xs, Same H H' → H r = none → H' r = some (.lst xs) → CrAt H' ms xs → Pt ms → Q (.ref r) H'
theorem AllF.set {K : PySem.W.Frag} {H : Hp} {f : Int × Int} {x : V} (h : IsF K H f x) : ∀ {fs : List (Int × Int)} {xs : List V} (i : Nat), AllF K H fs xs → AllF K H (fs.set i f) (xs.set i x)
  | _, _, _, .nil => .nil
  | _, _, 0, .cons _ t => .cons h t
  | _, _, i + 1, .cons a t => .cons a (AllF.set h i t)
theorem row_set {n w i : Nat} (hi : i < n) : (List.replicate n (lowP ((w : Int) * ((w : Int) - 1)) (if (n : Int) * ((n : Int) - 1) > 1 then (n : Int) * ((n : Int) - 1) else 1))).set i (lowP (w : Int) (n : Int)) = rowE n w i := by
  unfold rowE
  apply List.ext_getElem
  · simp
  · intro j h1 h2
    rw [List.getElem_set, List.getElem_map, List.getElem_range, List.getElem_replicate]
    unfold entry topE botE
    by_cases e : i = j
    · rw [if_pos e, if_pos e, if_pos e]
    · have hj : j < n := by simpa using h2
      rw [if_neg e, if_neg e, if_neg e]
      have h2 : 2 ≤ n := by omega
      have : (n : Int) * ((n : Int) - 1) > 1 := by
        have : (2 : Int) * 1 ≤ (n : Int) * ((n : Int) - 1) := Int.mul_le_mul (by omega) (by omega) (by omega) (by omega)
        omega
      rw [if_pos this]
section
variable {P : Program} {w : World} {K : PySem.W.Frag} {mg : Str → Option Value} {base : Heap} {a : Ad}
theorem ok_lmat (T : Txt K mg a) : FnOk P w K mg base CX0 3 a.f_L_matrix a.d_L_matrix ["_law_found", "_law_due"] (spLMat K) := by
  have G_L_fraction : FnOk P w K mg base CX0 2 _ _ _ (spFraction K) := ok_fraction T
  refine T.F_L_matrix.ok sc_L_matrix (fun vs H Q E h => ?_) (fun cdv A outer s H vs Q E hr h => ?_)
  · obtain ⟨r, d, xs, ys, fss, rfl, _⟩ := h; rfl
  · obtain ⟨r, d, xs, ys, fss, rfl, hl, hr', fx, fy, q⟩ := h
    refine ⟨_, (pss_cons (ps_if (PW.pt (pw_or (pt_not (t_val (pe_callB call_isi rfl T.z_isinstance bt_isinstance (pa_cons (vr 0) (pa_cons (pe_bltn (v := .ty "list") rfl T.z_list bt_list rfl) pa_nil))))) (pw_or1 (t_cmp o_ne (pe_callB call_lenM rfl T.z_len bt_len (pa_cons (vr 0) pa_nil)) (pe_callB call_lenM rfl T.z_len bt_len (pa_cons (vr 1) pa_nil)) (nomark _))))) (pss_one (ps_ret pe_bl)) pss_nil) (pss_cons (ps_for PassesOwn.never rfl (pi_zip rfl T.z_zip (pa_cons (vr 0) (pa_cons (vr 1) pa_nil))) (pg_tup rfl (pgs_cons (pg_name (i := 2) sc_L_matrix.nd rfl (Or.inl rfl)) (pgs_cons (pg_name (i := 3) sc_L_matrix.nd rfl (Or.inl rfl)) pgs_nil))) (pss_cons (ps_if (PW.pt (pw_or (pt_not (t_val (pe_callB call_isi rfl T.z_isinstance bt_isinstance (pa_cons (vr 2) (pa_cons (pe_bltn (v := .ty "list") rfl T.z_list bt_list rfl) pa_nil))))) (pw_or1 (t_cmp o_ne (pe_callB call_lenM rfl T.z_len bt_len (pa_cons (vr 2) pa_nil)) (pe_callB call_lenM rfl T.z_len bt_len (pa_cons (vr 3) pa_nil)) (nomark _))))) (pss_one (ps_ret pe_bl)) pss_nil) (pss_one (ps_for PassesOwn.never rfl (pi_zip rfl T.z_zip (pa_cons (vr 2) (pa_cons (vr 3) pa_nil))) (pg_tup rfl (pgs_cons (pg_name (i := 4) sc_L_matrix.nd rfl (Or.inl rfl)) (pgs_cons (pg_name (i := 5) sc_L_matrix.nd rfl (Or.inl rfl)) pgs_nil))) (pss_one (ps_if (pt_not (t_val (pe_call G_L_fraction hr rfl T.m_L_fraction T.F_L_fraction.kp T.B_L_fraction .nil pass0 (pa_cons (vr 4) (pa_cons (vr 5) pa_nil))))) (pss_one (ps_ret pe_bl)) pss_nil)))))) (pss_one (ps_ret pe_bl)))), ?_⟩
    have e1 := fx.len
    have e2 := fy.len
    refine ⟨_, _, _, true, rfl, rfl, .lst hl, rfl, ?_⟩
    refine ⟨_, .inl (SqL.of hl), ⟨_, .inl (SqL.of hr'), ?_⟩⟩
    refine iteNS (by rw [← e1, ← e2]) ?_
    refine ⟨r, d, xs, ys, rfl, hl, hr', for_zip (a := r) (b := d) (xs := xs) (ys := ys) (by rw [← e1, ← e2]) (fun i σ H' => Same H H' ∧ ∃ (x2 x3 x4 x5 : Option V), σ = [some (.ref r), some (.ref d), x2, x3, x4, x5]) ⟨Same.refl H, none, none, none, none, rfl⟩ (fun i σ H' h => ⟨h.1 _ _ hl, h.1 _ _ hr'⟩) ?_ ?_⟩
    · rintro i x y σ H' p hxi hyi ⟨s1, x2, x3, x4, x5, rfl⟩ hp
      have s2 : Same H (upd H' p (.tup [x, y])) := s1.trans (Same.new hp)
      obtain ⟨fs, hu1, q1, zs, rfl, _, g1, hF⟩ := fx.get hxi
      obtain ⟨fs', hu2, q2, zs', rfl, _, g2, hF'⟩ := fy.get hyi
      rw [hu1] at hu2
      cases hu2
      refine ⟨p, _, rfl, SqT.of upd_same, rfl, _, _, rfl, _, _, rfl, rfl, ?_⟩
      generalize upd H' p (.tup [.ref q1, .ref q2]) = H2 at s2
      have k1 := s2 _ _ g1
      have k2 := s2 _ _ g2
      have l1 := hF.len
      have l2 := hF'.len
      refine ⟨_, _, _, true, rfl, rfl, .lst k1, rfl, ?_⟩
      refine ⟨_, .inl (SqL.of k1), ⟨_, .inl (SqL.of k2), ?_⟩⟩
      refine iteNS (by rw [← l1, ← l2]) ?_
      refine ⟨q1, q2, zs, zs', rfl, k1, k2, for_zip (a := q1) (b := q2) (xs := zs) (ys := zs') (by rw [← l1, ← l2]) (fun i σ H' => Same H H' ∧ ∃ (x4 x5 : Option V), σ = [some (.ref r), some (.ref d), some (.ref q1), some (.ref q2), x4, x5]) ⟨s2, _, _, rfl⟩ (fun i σ H' h => ⟨h.1 _ _ g1, h.1 _ _ g2⟩) ?_ ?_⟩
      · rintro i x y σ H' p hxi hyi ⟨s1, x4, x5, rfl⟩ hp
        have s2 : Same H (upd H' p (.tup [x, y])) := s1.trans (Same.new hp)
        obtain ⟨u, hu1, hU⟩ := hF.get hxi
        obtain ⟨u', hu2, hU'⟩ := hF'.get hyi
        rw [hu1] at hu2
        cases hu2
        obtain ⟨a1, rfl, h1⟩ := hU.same s2
        obtain ⟨a2, rfl, h2⟩ := hU'.same s2
        refine ⟨p, _, rfl, SqT.of upd_same, rfl, _, _, rfl, _, _, rfl, rfl, ?_⟩
        exact ⟨a1, a2, u.1, u.2, rfl, h1.sq, h2.sq, ⟨s2, _, _, rfl⟩⟩
      · rintro σ H' ⟨s1, x4, x5, rfl⟩
        exact ⟨s1, _, _, _, _, rfl⟩
    · rintro σ H' ⟨s1, x2, x3, x4, x5, rfl⟩
      exact q _ s1
theorem ok_counts (T : Txt K mg a) : FnOk P w K mg base CX0 2 a.f_L_counts a.d_L_counts ["_law_many", "_law_every"] (spCounts K) := by
  have G_L_low : FnOk P w K mg base CX0 1 _ _ _ spLow := ok_low T
  refine T.F_L_counts.ok sc_L_counts (fun vs H Q E h => ?_) (fun cdv A outer s H vs Q E hr h => ?_)
  · obtain ⟨m, n, rfl, _⟩ := h; rfl
  · obtain ⟨m, n, rfl, hn, q⟩ := h
    have small : sizeLine = 16777216 := sizeLine_eq
    refine ⟨_, (pss_cons (ps_set (i := 2) sc_L_counts.nd rfl (Or.inr rfl) (pe_callB (call_min2 rfl) rfl T.z_min bt_min (pa_cons (vr 0) (pa_cons (vr 1) pa_nil)))) (pss_cons (ps_set (i := 3) sc_L_counts.nd rfl (Or.inl rfl) (pe_lst pa_nil)) (pss_cons (ps_for PassesOwn.never rfl (pi_range1 rfl T.z_range (pa_cons (vr 1) pa_nil)) (pg_name (i := 4) sc_L_counts.nd rfl (Or.inl rfl)) (pss_cons (ps_setC rfl (i := 5) sc_L_counts.nd rfl rfl (by with_unfolding_all rfl) (N := ["_law_other", "_law_drawn_now", "_law_every"]) (ix := [none, some 2, some 1]) ⟨rfl, rfl, rfl, rfl, ⟨rfl, rfl, rfl, ⟨rfl, rfl, rfl, trivial⟩⟩⟩ (pi_range1 rfl T.z_range (pa_cons (vr 1) pa_nil)) ⟨fun C s H fp => pg_name (i := 0) (show List.Nodup (["_law_other", "_law_drawn_now", "_law_every"] : List Str) by decide +kernel) rfl (Or.inl rfl), fun C s H fp => pts_nil, fun C s H fp => (pe_call G_L_low hr rfl T.m_L_low T.F_L_low.kp T.B_L_low .nil pass0 (pa_cons (pe_op o_mulB (vr 1) (pe_op o_sub (vr 1) pe_int)) (pa_cons (pe_callB (call_max2 rfl) rfl T.z_max bt_max (pa_cons pe_int (pa_cons (pe_op o_mulB (vr 2) (pe_op o_sub (vr 2) pe_int)) pa_nil))) pa_nil)))⟩) (pss_cons (ps_asg (pe_call G_L_low hr rfl T.m_L_low T.F_L_low.kp T.B_L_low .nil pass0 (pa_cons (vr 2) (pa_cons (vr 1) pa_nil))) (pg_sub (vr 5) (vr 4) set_list)) (pss_one (ps_expr (pe_m.append (vr 3) (pa_cons (vr 5) pa_nil))))))) (pss_one (ps_ret (vr 3)))))), ?_⟩
    refine ⟨_, _, rfl, ?_⟩
    have e : (if ((n : Int) < (m : Int)) then (n : Int) else (m : Int)) = ((min m n : Nat) : Int) := by split <;> omega
    rw [e]
    obtain ⟨w', hw'⟩ : ∃ w', w' = min m n := ⟨_, rfl⟩
    have hw : w' ≤ n := by omega
    rw [← hw'] at q ⊢
    have b1 := bt24 hn
    have b2 := bt24 (Nat.le_trans hw hn)
    have c1 : Bt 11 ((w' : Int) - 1) := by unfold Bt; omega
    have c2 : Bt 11 ((n : Int) - 1) := by unfold Bt; omega
    refine ⟨Nat.zero_le _, fun r hr0 => ?_⟩
    refine ⟨(n : Int), rfl, by omega, by omega, for_range (fun i σ H' => i ≤ n ∧ Same H H' ∧ ∃ (xs : List V) (x4 x5 : Option V), σ = [some (.int (m : Nat)), some (.int (n : Nat)), some (.int (w' : Nat)), some (.ref r), x4, x5] ∧ H' r = some (.lst xs) ∧ MatAt K r H' ((List.range i).map (rowE n w')) xs ∧ ∀ q, V.ref q ∈ xs → H q = none)
      ⟨Nat.zero_le _, Same.new hr0, [], none, none, rfl, upd_same, .nil, fun q hq => by cases hq⟩ ?_ ?_⟩
    · rintro i σ H' hi ⟨_, s1, xs, x4, x5, rfl, hr1, hM, hnew⟩
      have hi' : i < n := by omega
      have hxl : xs.length = i := by rw [← hM.len, List.length_map, List.length_range]
      refine ⟨(n : Int), rfl, by omega, by omega, fun D hD => ?_⟩
      refine comp_rng (lo := 0) (n := n) (fun j ys H2 => j ≤ n ∧ Same H' H2 ∧ H2 D = some (.lst ys) ∧ AllF K H2 (List.replicate j (lowP ((w' : Int) * ((w' : Int) - 1)) (if (n : Int) * ((n : Int) - 1) > 1 then (n : Int) * ((n : Int) - 1) else 1))) ys) ⟨Nat.zero_le _, Same.new hD, upd_same, .nil⟩ (fun j ys H2 h => h.2.2.1) ?_ ?_
      · rintro j ys H2 P' hj ⟨_, s2, hD2, hF⟩ hP
        have hyl : ys.length = j := by rw [← hF.len, List.length_replicate]
        refine ⟨⟨rfl, rfl, trivial⟩, clB (by omega) (by omega), clB (by omega) (by omega), ?_⟩
        have bp : Bt 3000 (if (n : Int) * ((n : Int) - 1) > 1 then (n : Int) * ((n : Int) - 1) else 1) := by
          split
          · exact (b1.mul c2).mono (by decide)
          · exact (show Bt 1 (1 : Int) by unfold Bt; decide).mono (by decide)
        refine ⟨1, (n : Int) * ((n : Int) - 1), rfl, _, _, rfl, ?_, (b2.mul c1).mono (by decide), bp, fun H3 p s3 hp => ?_⟩
        · split <;> omega
        have hD3 := s3 _ _ hD2
        have np : p ≠ D := fun z => by rw [z, hD3] at hp; cases hp
        refine ⟨hD3, by omega, hP _ _ ⟨hj, (s2.trans s3).put hD, upd_same, ?_⟩⟩
        rw [List.replicate_succ']
        exact AllF.snoc ⟨p, rfl, .inl (by rw [upd_ne np]; exact hp)⟩ ((hF.same s3).tk (TK.lst hD3))
      · rintro ys H2 ⟨_, s2, hD2, hF⟩
        have hyl : ys.length = n := by rw [← hF.len, List.length_replicate]
        refine ⟨_, _, rfl, by omega, b2.mono (by decide), b1.mono (by decide), fun H3 p s3 hp => ?_⟩
        have hD3 := s3 _ _ hD2
        have np : p ≠ D := fun z => by rw [z, hD3] at hp; cases hp
        have nD : D ≠ r := fun z => by rw [z, hr1] at hD; cases hD
        refine ⟨D, ys, _, i, rfl, rfl, hD3, ?_, ?_⟩
        · rw [hyl]
          unfold ixN
          rw [if_pos (by omega), if_pos (by omega), Int.zero_add]
          rfl
        have hF3 : AllF K (upd H3 D (.lst (ys.set i (.ref p)))) (rowE n w' i) (ys.set i (.ref p)) := by
          rw [← row_set hi']
          exact AllF.set ⟨p, rfl, .inl (by rw [upd_ne np]; exact hp)⟩ i ((hF.same s3).tk (TK.lst hD3))
        have s4 : Same H' (upd H3 D (.lst (ys.set i (.ref p)))) := (s2.trans s3).put hD
        have hr4 := s4 _ _ hr1
        have hD4 : (upd H3 D (.lst (ys.set i (.ref p)))) D = some (.lst (ys.set i (.ref p))) := upd_same
        generalize upd H3 D (.lst (ys.set i (.ref p))) = H4 at hF3 s4 hr4 hD4
        refine ⟨.inl ⟨rfl, _, SqL.of hr4⟩, r, xs, _, rfl, rfl, hr4, by omega, ?_⟩
        refine ⟨hi', (s1.trans s4).put hr0, xs ++ [.ref D], _, _, rfl, upd_same, ?_, fun q hq => ?_⟩
        · rw [List.range_succ, List.map_append]
          exact MatAt.snoc ⟨D, _, rfl, nD, by rw [upd_ne nD]; exact hD4, hF3.tk (TK.lst hr4)⟩ (MatAt.put hr4 (MatAt.same s4.t hM))
        · rcases List.mem_append.mp hq with z | z
          · exact hnew q z
          · cases List.mem_singleton.mp z
            exact s1.free hD
    · rintro σ H' ⟨_, s1, xs, x4, x5, rfl, hr1, hM, hnew⟩
      exact q _ r xs s1 hr0 hr1 hM hnew
theorem ok_crowd (T : Txt K mg a) : FnOk P w K mg base CX0 3 a.f_L_crowd a.d_L_crowd ["_law_script", "_law_start", "_law_most"] (spCrowd K) := by
  have G_L_cell : FnOk P w K mg base CX0 2 _ _ _ (spCell K) := (ok_cell T).mono (by decide)
  have G_L_row : FnOk P w K mg base CX0 2 _ _ _ spRow := ok_row T
  refine T.F_L_crowd.ok sc_L_crowd (fun vs H Q E h => ?_) (fun cdv A outer s H vs Q E hr h => ?_)
  · obtain ⟨p, ns, rfl, _⟩ := h; rfl
  · obtain ⟨p, ns, rfl, hS, hlen, q⟩ := h
    have small : sizeLine = 16777216 := sizeLine_eq
    refine ⟨_, (pss_cons (ps_set (i := 3) sc_L_crowd.nd rfl (Or.inl rfl) (pe_op o_mod (pe_call G_L_cell hr rfl T.m_L_cell T.F_L_cell.kp T.B_L_cell .nil pass0 (pa_cons (vr 0) (pa_cons (vr 1) pa_nil))) (pe_op o_add (vr 2) pe_int))) (pss_cons (ps_set (i := 4) sc_L_crowd.nd rfl (Or.inl rfl) (pe_call G_L_cell hr rfl T.m_L_cell T.F_L_cell.kp T.B_L_cell .nil pass0 (pa_cons (vr 0) (pa_cons (pe_op o_add (vr 1) pe_int) pa_nil)))) (pss_cons (ps_set (i := 5) sc_L_crowd.nd rfl (Or.inr rfl) (pe_call G_L_row hr rfl T.m_L_row T.F_L_row.kp T.B_L_row .nil pass0 (pa_cons (pe_call G_L_cell hr rfl T.m_L_cell T.F_L_cell.kp T.B_L_cell .nil pass0 (pa_cons (vr 0) (pa_cons (pe_op o_add (vr 1) pe_int) pa_nil))) (pa_cons (vr 4) (pa_cons (vr 3) (pa_cons (pe_ix ix_seq (pe_lst (pa_cons pe_int (pa_cons pe_int (pa_cons pe_int pa_nil)))) (pe_op o_mod (pe_op o_fdivB (vr 4) pe_int) pe_int) (fun _ _ => rfl)) pa_nil)))))) (pss_cons (ps_set (i := 6) sc_L_crowd.nd rfl (Or.inl rfl) (pe_callTy (call_lstRng rfl) rfl T.z_list bt_list (pa_cons (pe_callTy call_rng1 rfl T.z_range bt_range (pa_cons pe_int pa_nil)) pa_nil))) (pss_cons (ps_set (i := 7) sc_L_crowd.nd rfl (Or.inr rfl) (pe_lst pa_nil)) (pss_cons (ps_for PassesOwn.never rfl (pi_any (pe_call G_L_row hr rfl T.m_L_row T.F_L_row.kp T.B_L_row .nil pass0 (pa_cons (pe_call G_L_cell hr rfl T.m_L_cell T.F_L_cell.kp T.B_L_cell .nil pass0 (pa_cons (vr 0) (pa_cons (pe_op o_add (vr 1) pe_int) pa_nil))) (pa_cons (pe_op o_fdivB (vr 4) pe_int) (pa_cons (vr 3) (pa_cons pe_int pa_nil)))))) (pg_name (i := 8) sc_L_crowd.nd rfl (Or.inl rfl)) (pss_one (ps_expr (pe_m.append (vr 7) (pa_cons (pe_m.popAt (vr 6) (pa_cons (pe_op o_mod (vr 8) (pe_callB call_lenM rfl T.z_len bt_len (pa_cons (vr 6) pa_nil))) pa_nil)) pa_nil))))) (pss_cons (ps_set (i := 7) sc_L_crowd.nd rfl (Or.inr rfl) (pe_callB call_sortedI rfl T.z_sorted bt_sorted (pa_cons (vr 7) pa_nil))) (pss_cons (ps_set (i := 9) sc_L_crowd.nd rfl (Or.inr rfl) (pe_callTy call_tuple_of rfl T.z_tuple bt_tuple (pa_cons (pe_slice sl_any (pe_lst (pa_cons pe_str (pa_cons pe_str (pa_cons pe_str pa_nil)))) po_none (po_some (pe_op o_mod (pe_op o_fdivB (vr 4) pe_int) pe_int))) pa_nil))) (pss_one (ps_ret (pe_comp rfl (N := ["_law_k", "_law_path", "_law_places", "_law_sizes"]) (ix := [none, some 9, some 7, some 5]) ⟨rfl, rfl, rfl, rfl, ⟨rfl, rfl, rfl, ⟨rfl, rfl, rfl, ⟨rfl, rfl, rfl, trivial⟩⟩⟩⟩ (pi_range1 rfl T.z_range (pa_cons (vr 3) pa_nil)) ⟨fun C s H fp => pg_name (i := 0) (show List.Nodup (["_law_k", "_law_path", "_law_places", "_law_sizes"] : List Str) by decide +kernel) rfl (Or.inl rfl), fun C s H fp => pts_nil, fun C s H fp => (pe_tup (pa_cons (pe_ix (ix_seqK (K := K) rfl) (vr 2) (vr 0) (fun _ _ => rfl)) (pa_cons (pe_op o_add pe_int (pe_ix (ix_seqK (K := K) rfl) (vr 3) (vr 0) (fun _ _ => rfl))) (pa_cons (vr 1) pa_nil))))⟩))))))))))), ?_⟩
    refine ⟨p, ns, 0, rfl, hS, hlen, by decide, by decide, cp, ?_⟩
    have n0 : 0 ≤ (cellC ns 0 % 25) := by omega
    have n1 : (cellC ns 0 % 25) ≤ 24 := by omega
    refine ⟨p, ns, 1, rfl, hS, hlen, by decide, by decide, ?_⟩
    refine ⟨p, ns, 2, rfl, hS, hlen, by decide, by decide, (by decide : 3 ≤ sizeLine), fun p1 hp1 => ⟨cdB (by decide) (show Bt 2 2 by unfold Bt; decide), cp, ?_⟩⟩
    have s1 := Same.new (o := .lst [.int 9, .int 1000, .int 24000000]) hp1
    obtain ⟨m, hm, m0, m1⟩ : ∃ m : Int, atI [V.int 9, V.int 1000, V.int 24000000] ((cellC ns 1) / 2 % 3) = some (.int m) ∧ 1 ≤ m ∧ m ≤ 1000000000000 := by
      have h3 : (cellC ns 1) / 2 % 3 = ((0 : Nat) : Int) ∨ (cellC ns 1) / 2 % 3 = ((1 : Nat) : Int) ∨ (cellC ns 1) / 2 % 3 = ((2 : Nat) : Int) := by omega
      rcases h3 with e | e | e <;> rw [e]
      · exact ⟨9, atI_nat rfl, by decide, by decide⟩
      · exact ⟨1000, atI_nat rfl, by decide, by decide⟩
      · exact ⟨24000000, atI_nat rfl, by decide, by decide⟩
    refine .inl ⟨p1, _, _, .int m, rfl, rfl, SqL.of upd_same, hm, ⟨_, _, _, _, rfl, n0, n1, m0, m1, fun H2 ls sizes s2 _ hls hl2 hb2 => ?_⟩⟩
    have s02 := s1.trans s2
    refine ⟨24, rfl, fun pr hpr => ?_⟩
    have s3 : Same H2 (upd H2 pr (.rng 0 24)) := Same.new hpr
    refine ⟨pr, rfl, upd_same, fun pl hpl => ?_⟩
    have s03 := s02.trans s3
    have hls3 := s3 _ _ hls
    generalize upd H2 pr (.rng 0 24) = H3 at s3 hpl s03 hls3
    have hplH : H pl = none := s03.free hpl
    have s4 := Same.new (o := .lst ((List.range 24).map fun (i : Nat) => V.int (i : Int))) hpl
    have hpl4 : (upd H3 pl (.lst ((List.range 24).map fun (i : Nat) => V.int (i : Int)))) pl = some (.lst ((List.range 24).map fun (i : Nat) => V.int (i : Int))) := upd_same
    generalize upd H3 pl (.lst ((List.range 24).map fun (i : Nat) => V.int (i : Int))) = H4 at s4 hpl4
    refine ⟨Nat.zero_le _, fun r hr0 => ?_⟩
    have s5 := Same.new (o := .lst []) hr0
    have s05 := (s03.trans s4).trans s5
    have nrp : r ≠ pl := fun z => by rw [z, hpl4] at hr0; cases hr0
    have hrH : H r = none := (s03.trans s4).free hr0
    have nls1 : ls ≠ pl := ne_of_none hls3 hpl
    have nls2 : ls ≠ r := ne_of_none (s4 _ _ hls3) hr0
    have hr5 : (upd H4 r (.lst [])) r = some (.lst []) := upd_same
    have hpl5 := s5 _ _ hpl4
    have hls5 := (s4.trans s5) _ _ hls3
    generalize upd H4 r (.lst []) = H5 at s5 s05 hr5 hpl5 hls5
    refine ⟨p, ns, 3, rfl, s05.seq hS, hlen, by decide, by decide, cdB (by decide) (show Bt 3 6 by unfold Bt; decide), ?_⟩
    refine ⟨_, _, _, _, rfl, n0, n1, by decide, by decide, fun H6 lp picks s6 hlp0 hlp hl6 hb6 => ?_⟩
    obtain ⟨many, hmany⟩ : ∃ x : Int, x = cellC ns 0 % 25 := ⟨_, rfl⟩
    have n0 : 0 ≤ many := by omega
    have n1 : many ≤ 24 := by omega
    have hl2 : (sizes.length : Int) = many := by omega
    have hl6 : (picks.length : Int) = many := by omega
    have s06 := s05.trans s6
    have nlp1 : lp ≠ pl := fun z => by rw [z, hpl5] at hlp0; cases hlp0
    have nlp2 : lp ≠ r := fun z => by rw [z, hr5] at hlp0; cases hlp0
    refine .inl ⟨⟨_, SqL.of hlp⟩, for_list (K := K) (a := lp) (xs := picks.map V.int) (fun i σ H' => ∃ (ys : List V) (zs : List Int) (x8 : Option V), σ = [some (.ref p), some (.int 0), some (.int 24), some (.int many), some (.int (cellC ns 1)), some (.ref ls), some (.ref pl), some (.ref r), x8, none] ∧ Same H H' ∧ H' lp = some (.lst (picks.map V.int)) ∧ H' ls = some (.lst (sizes.map V.int)) ∧ H' pl = some (.lst ys) ∧ ys.length = 24 - i ∧ (∀ y ∈ ys, ∃ n : Int, y = .int n) ∧ H' r = some (.lst (zs.map V.int)) ∧ zs.length = i)
      ⟨_, [], none, by rw [hmany]; rfl, s06, hlp, s6 _ _ hls5, s6 _ _ hpl5, by rw [List.length_map, List.length_range], (fun y hy => by obtain ⟨j, _, e⟩ := List.mem_map.mp hy; exact ⟨_, e.symm⟩), s6 _ _ hr5, rfl⟩ (fun i σ H' _ h => by obtain ⟨_, _, _, _, _, z, _⟩ := h; exact SqL.of z) ?_ ?_⟩
    · rintro i x σ H' hx ⟨ys, zs, x8, rfl, sH, hlp', hls', hpl', hyl, hint, hr', hzl⟩
      have hi : i < picks.length := by have := (List.getElem?_eq_some_iff.mp hx).1; rw [List.length_map] at this; exact this
      rw [List.getElem?_map, List.getElem?_eq_getElem hi] at hx
      cases hx
      have hi24 : i < 24 := by omega
      refine ⟨.inl ⟨rfl, _, SqL.of hr'⟩, .inl ⟨rfl, _, SqL.of hpl'⟩, ys, .inl (SqL.of hpl'), cp (by omega), ?_⟩
      obtain ⟨ix, hix⟩ : ∃ x : Int, x = picks[i] % (ys.length : Int) := ⟨_, rfl⟩
      have i0 : 0 ≤ ix := by rw [hix]; exact Int.emod_nonneg _ (by omega)
      have i1 : ix < ys.length := by rw [hix]; exact Int.emod_lt_of_pos _ (by omega)
      have hk : ix.toNat < ys.length := by omega
      have hN : ixN ys.length ix = some ix.toNat := by
        unfold ixN
        rw [if_pos i0, if_pos i1]
      obtain ⟨n, hn⟩ := hint ys[ix.toNat] (List.getElem_mem hk)
      refine ⟨pl, ys, ix, ix.toNat, ys[ix.toNat], rfl, by rw [hix], hpl', by omega, by omega, (ixN_seq hN).1, List.getElem?_eq_getElem hk, ?_⟩
      rw [hn]
      have hr2 : (upd H' pl (.lst (ys.eraseIdx ix.toNat))) r = some (.lst (zs.map V.int)) := by rw [upd_ne nrp]; exact hr'
      refine ⟨r, _, _, rfl, rfl, hr2, by rw [List.length_map]; omega, ?_⟩
      refine ⟨ys.eraseIdx ix.toNat, zs ++ [n], _, rfl, (sH.put hplH).put hrH, ?_, ?_, ?_, ?_, fun y hy => hint y (List.mem_of_mem_eraseIdx hy), ?_, ?_⟩
      · rw [upd_ne nlp2, upd_ne nlp1]; exact hlp'
      · rw [upd_ne nls2, upd_ne nls1]; exact hls'
      · rw [upd_ne nrp.symm]; exact upd_same
      · rw [List.length_eraseIdx_of_lt hk, hyl]; omega
      · rw [upd_same, List.map_append]; rfl
      · rw [List.length_append, hzl]; rfl
    · rintro σ H' ⟨ys, zs, x8, rfl, sH, hlp', hls', hpl', hyl, hint, hr', hzl⟩
      rw [List.length_map] at hzl
      have hzm : (zs.length : Int) = many := by omega
      refine ⟨r, zs, rfl, SqL.of hr', by omega, fun q1 ps hp hs f1 => ?_⟩
      have t1 := Same.new (o := .lst (ps.map V.int)) f1
      have hps : ps.length = zs.length := hp.length_eq
      refine ⟨(show 3 ≤ sizeLine by decide), fun q2 f2 => ?_⟩
      have t2 := t1.trans (Same.new (o := .lst [.str "ab", .str "abc", .str "b"]) f2)
      refine ⟨cdB (by decide) (show Bt 4 12 by unfold Bt; decide), cp, _, rfl, .inl ⟨_, SqL.of upd_same, fun q3 f3 => ?_⟩⟩
      obtain ⟨kk, hkk, hk4⟩ : ∃ kk : Nat, cellC ns 1 / 12 % 4 = (kk : Int) ∧ kk < 4 := ⟨(cellC ns 1 / 12 % 4).toNat, by omega, by omega⟩
      obtain ⟨pa, hpa⟩ : ∃ pa : List Str, pa = (["ab", "abc", "b"] : List Str).take kk := ⟨_, rfl⟩
      have ecut : cutV [V.str "ab", V.str "abc", V.str "b"] none (some (cellC ns 1 / 12 % 4)) = pa.map V.str := by
        rw [hkk, hpa, List.map_take]
        match kk, hk4 with
        | 0, _ => rfl
        | 1, _ => rfl
        | 2, _ => rfl
        | 3, _ => rfl
      have t3 := t2.trans (Same.new (o := .lst (cutV [V.str "ab", V.str "abc", V.str "b"] none (some (cellC ns 1 / 12 % 4)))) f3)
      refine ⟨q3, _, rfl, .inl ⟨SqL.of upd_same, fun pt fpt => ?_⟩⟩
      have n4 := Same.new (o := .tup (cutV [V.str "ab", V.str "abc", V.str "b"] none (some (cellC ns 1 / 12 % 4)))) fpt
      have t4 := t3.trans n4
      have hq1 := ((Same.new (o := .lst [.str "ab", .str "abc", .str "b"]) f2).trans ((Same.new (o := .lst (cutV [V.str "ab", V.str "abc", V.str "b"] none (some (cellC ns 1 / 12 % 4)))) f3).trans n4)) _ _ (upd_same (a := q1) (o := .lst (ps.map V.int)))
      have hpt : ∀ H7 : Hp, Same (upd (upd (upd (upd H' q1 (.lst (ps.map V.int))) q2 (.lst [.str "ab", .str "abc", .str "b"])) q3 (.lst (cutV [V.str "ab", V.str "abc", V.str "b"] none (some (cellC ns 1 / 12 % 4))))) pt (.tup (cutV [V.str "ab", V.str "abc", V.str "b"] none (some (cellC ns 1 / 12 % 4))))) H7 → H7 pt = some (.tup (pa.map V.str)) := fun H7 s7 => by rw [← ecut]; exact s7 _ _ upd_same
      have hls4 := t4 _ _ hls'
      have hpt' := hpt _ (Same.refl _)
      clear hpt
      refine ⟨many, rfl, by omega, by omega, ?_⟩
      generalize upd (upd (upd (upd H' q1 (.lst (ps.map V.int))) q2 (.lst [.str "ab", .str "abc", .str "b"])) q3 (.lst (cutV [V.str "ab", V.str "abc", V.str "b"] none (some (cellC ns 1 / 12 % 4))))) pt (.tup (cutV [V.str "ab", V.str "abc", V.str "b"] none (some (cellC ns 1 / 12 % 4)))) = H7 at t4 hq1 hpt' hls4 n4
      intro D hD
      have hmn : (many.toNat : Int) = many := by omega
      refine comp_rng (lo := 0) (n := many.toNat) (fun j ys H2 => j ≤ many.toNat ∧ Same H7 H2 ∧ H2 D = some (.lst ys) ∧ CrAt H2 ((List.range j).map fun (k : Nat) => ((ps.getD k 0, 1 + sizes.getD k 0, pa) : Mb)) ys) ⟨Nat.zero_le _, Same.new hD, upd_same, .nil⟩ (fun j ys H2 h => h.2.2.1) ?_ ?_
      · rintro j ys H2 P' hj ⟨_, u1, hD2, hC⟩ hP
        have hyl : ys.length = j := by rw [← hC.len, List.length_map, List.length_range]
        have hjp : j < ps.length := by omega
        have hjs : j < sizes.length := by omega
        refine ⟨⟨rfl, rfl, rfl, trivial⟩, .inl ⟨q1, _, _, .int (ps.getD j 0), rfl, rfl, SqL.of (u1 _ _ hq1), atI_cons j (by omega) (by simp [List.getElem?_map, List.getD, hjp]), .inl ⟨ls, _, _, .int (sizes.getD j 0), rfl, rfl, SqL.of (u1 _ _ hls4), atI_cons j (by omega) (by simp [List.getElem?_map, List.getD, hjs]), ?_⟩⟩⟩
        refine ⟨(show 3 ≤ sizeLine by decide), fun q4 f4 => ?_⟩
        have n5 := Same.new (o := .tup [.int (ps.getD j 0), .int (1 + sizes.getD j 0), .ref pt]) f4
        have hD3 := n5 _ _ hD2
        refine ⟨hD3, by omega, hP _ _ ⟨hj, (u1.trans n5).put hD, upd_same, ?_⟩⟩
        have k5 : TK H2 (upd (upd H2 q4 (.tup [.int (ps.getD j 0), .int (1 + sizes.getD j 0), .ref pt])) D (.lst (ys ++ [.ref q4]))) := n5.tk.trans (TK.lst hD3)
        rw [List.range_succ, List.map_append]
        exact paired_snoc ⟨q4, pt, rfl, TK.lst hD3 _ _ upd_same, k5 _ _ (u1 _ _ hpt')⟩ (hC.tk k5)
      · rintro ys H2 ⟨_, u1, hD2, hC⟩
        refine q _ D _ ys (sH.trans (t4.trans u1)) ((sH.trans t4).free hD) hD2 hC ⟨?_, fun m hm t ht c hc => ?_⟩
        · rw [List.length_map, List.length_range]; omega
        · obtain ⟨k, _, rfl⟩ := List.mem_map.mp hm
          have : t ∈ (["ab", "abc", "b"] : List Str) := List.mem_of_mem_take (by rw [hpa] at ht; exact ht)
          have all : (["ab", "abc", "b"] : List Str).all (fun t => t.cps.toList.all fun c => decide (c < 128)) = true := by decide +kernel
          have z := List.all_eq_true.mp all t this
          exact of_decide_eq_true (List.all_eq_true.mp z c hc)
end
end My

set_option Elab.async false
set_option linter.all false
set_option maxRecDepth 100000
namespace L2
open PySem PySem.Spec PyProof.Rows
/-! ### (a, b, ..) = a list of that length -/
section
variable {X : Cx} {pos : Pos}
end
end L2

set_option Elab.async false
set_option linter.all false
set_option maxRecDepth 100000
namespace L2
open PySem PySem.Spec PyProof.Rows
section
variable {X : Cx}
/-! ### o[i] op= e over a list -/
/-! ### lists of the same objects -/
noncomputable def rNeR (K : PySem.W.Frag) : R2 := fun x y H Q => ∃ (l b : Addr) (xs : List V), x = .ref l ∧ y = .ref b ∧ SqL K H l xs ∧ SqL K H b xs ∧ (∀ v ∈ xs, ∃ p, v = .ref p) ∧ Q (.bl false) H
theorem vals_refs : ∀ {xs : List V} {us us' : List Value}, (∀ v ∈ xs, ∃ p, v = .ref p) → Vals xs us → Vals xs us' → us = us'
  | [], _, _, _, h1, h2 => by cases h1; cases h2; rfl
  | x :: xs, _, _, h, h1, h2 => by
    cases h1 with
    | cons r1 t1 =>
      cases h2 with
      | cons r2 t2 =>
        obtain ⟨p, rfl⟩ := h x (List.mem_cons_self ..)
        cases r1
        cases r2
        rw [vals_refs (fun v hv => h v (List.mem_cons_of_mem _ hv)) t1 t2]
theorem o_neR (hu : X.A.units + 64 < cLine) : OpR X (compareOp .NotEq) (rNeR X.K) := by
  intro pins s σ H x y v u Q I rx ry h
  obtain ⟨l, b, xs, rfl, rfl, h1, h2, hr, q⟩ := h
  cases rx
  cases ry
  obtain ⟨its, r1, p1, _⟩ := I.list h1
  obtain ⟨its', r2, p2, _⟩ := I.list h2
  have e := vals_refs hr r1 r2
  subst e
  have L := SeqAt.RcNeAt.lists (A := X.A) (e := fun _ => true) p1.isList p2.isList rfl (by omega) (fun j h1 h2 => SeqAt.EqAt.same _)
  refine PySem.W.cmp_ofNotEq (L _ _ _ _ ?_)
  have ea : (List.range its.toArray.size).all (fun _ => true) = true := by simp
  rw [ea]
  exact ⟨.bl false, H, I, rfl, q⟩
end
end L2

set_option Elab.async false
set_option linter.all false
set_option maxRecDepth 100000
set_option maxHeartbeats 4000000
namespace My
open PySem L2 FrM
theorem tabs_new {a : Ad} {ts : List Addr} {H : Hp} (hts : ∀ q ∈ tabs a, q.1 ∈ ts) (h : ∀ P ∈ ts, H P = some (.tbl #[])) : TabsOk (tabs a) H := fun q hq => ⟨#[], h _ (hts q hq), trivial, fun _ _ => .inl rfl⟩
theorem tabs_lst {tabs : Tabs} {H : Hp} {q : Addr} {zs zs' : List V} (hq : H q = some (.lst zs)) (hT : TabsOk tabs H) : TabsOk tabs (upd H q (.lst zs')) := hT.put (fun ps z => by rw [hq] at z; cases z) (fun φ z => by rw [hq] at z; cases z)
noncomputable def pD (fs : List (Int × Int)) : List PyData := fs.map fun f => .tuple [.int f.1, .int f.2]
theorem MatAt.keep {K : PySem.W.Frag} {D : Addr} {H H' : Hp} (k : TK H H') : ∀ {fss : List (List (Int × Int))} {xs : List V}, (∀ q zs, V.ref q ∈ xs → H q = some (.lst zs) → H' q = some (.lst zs)) → MatAt K D H fss xs → MatAt K D H' fss xs
  | _, _, _, .nil => .nil
  | _, _, h, .cons ⟨q, ys, e, n, g, f⟩ t => .cons ⟨q, ys, e, n, h _ _ (by rw [e]; exact List.mem_cons_self ..) g, f.tk k⟩ (MatAt.keep k (fun q zs m => h q zs (List.mem_cons_of_mem _ m)) t)
theorem MatAt.mem {K : PySem.W.Frag} {D : Addr} {H : Hp} : ∀ {fss : List (List (Int × Int))} {xs : List V} {q : Addr}, MatAt K D H fss xs → V.ref q ∈ xs → q ≠ D ∧ ∃ ys, H q = some (.lst ys)
  | _, _, _, .nil, h => by cases h
  | _, _, _, .cons ⟨q, ys, e, n, g, f⟩ t, h => by
    rcases List.mem_cons.mp h with z | z
    · rw [← z] at e
      cases e
      exact ⟨n, ys, g⟩
    · exact MatAt.mem t z
theorem CrAt.refs {H : Hp} : ∀ {ms : List Mb} {xs : List V}, CrAt H ms xs → ∀ v ∈ xs, ∃ p, v = V.ref p
  | _, _, .nil, v, h => by cases h
  | _, _, .cons ⟨q, pt, e, _⟩ t, v, h => by
    rcases List.mem_cons.mp h with z | z
    · exact ⟨q, z.trans e⟩
    · exact CrAt.refs t v z
theorem nodup_take : ∀ {xs : List V} {i : Nat} {x : V}, xs.Nodup → xs[i]? = some x → x ∉ xs.take i
  | [], _, _, _, h => by cases h
  | _ :: _, 0, _, _, _ => by simp
  | y :: xs, i + 1, x, hn, h => by
    rw [List.nodup_cons] at hn
    rw [List.take_succ_cons]
    intro z
    rcases List.mem_cons.mp z with e | e
    · rw [← e] at hn
      exact hn.1 (List.mem_of_getElem? h)
    · exact nodup_take hn.2 h e
section
variable {P : Program} {w : World} {K : PySem.W.Frag} {mg : Str → Option Value} {base : Heap} {a : Ad}
theorem dvs_f {H : Hp} : ∀ {fs : List (Int × Int)} {xs : List V}, AllF K H fs xs → DVs K H (pD fs) xs
  | _, _, .nil => by simp [DVs, pD]
  | _, _, .cons ⟨p, e, r⟩ t => by
    unfold pD
    rw [List.map_cons, DVs]
    exact ⟨_, _, rfl, by rw [e]; exact dv_pair r.sq, dvs_f t⟩
theorem lay_f : ∀ (fs : List (Int × Int)), PyData.canLayAll0 (pD fs) = true ∧ PyData.depthAll (pD fs) ≤ 3
  | [] => by simp [PyData.canLayAll0, PyData.depthAll, pD]
  | t :: l => by
    obtain ⟨h1, h2⟩ := lay_f l
    unfold pD at *
    rw [List.map_cons, PyData.canLayAll0, PyData.depthAll, h1]
    refine ⟨by simp [PyData.canLay0, PyData.canLayAll0], ?_⟩
    simp only [PyData.depth, PyData.depthAll]
    omega
theorem ne_fr {H : Hp} {fs : List (Int × Int)} {l r : Addr} {xs ys : List V} {Q : VK} (h1 : H l = some (.lst xs)) (h2 : H r = some (.lst ys)) (f1 : AllF K H fs xs) (f2 : AllF K H fs ys) (q : Q (.bl false) H) : rEqD K true (.ref l) (.ref r) H Q := by
  have hs : SeqAt.shaped (.list (pD fs)) = true := by
    obtain ⟨k1, k2⟩ := lay_f fs
    unfold SeqAt.shaped
    rw [PyData.canLay0, k1, Bool.true_and]
    refine decide_eq_true ?_
    simp only [PyData.depth]
    omega
  refine ⟨.list (pD fs), .list (pD fs), by rw [DV]; exact ⟨l, _, rfl, SqL.of h1, dvs_f f1⟩, by rw [DV]; exact ⟨r, _, rfl, SqL.of h2, dvs_f f2⟩, hs, hs, ?_⟩
  rw [SeqAt.eqv_refl _ (SeqAt.canLay_of_shaped hs)]
  exact q
theorem ne_tups {H : Hp} {ns : List Int} {l r : Addr} {Q : VK} (h1 : H l = some (.tup (ns.map V.int))) (h2 : H r = some (.tup (ns.map V.int))) (q : Q (.bl false) H) : rEqD K true (.ref l) (.ref r) H Q := by
  have hsh : SeqAt.shaped (.tuple (ns.map PyData.int)) = true := by
    obtain ⟨k1, k2⟩ := lay_ints ns
    unfold SeqAt.shaped
    rw [PyData.canLay0, k1, Bool.true_and]
    refine decide_eq_true ?_
    simp only [PyData.depth]
    omega
  refine ⟨.tuple (ns.map PyData.int), .tuple (ns.map PyData.int), ?_, ?_, hsh, hsh, ?_⟩
  · rw [DV]; exact ⟨l, _, rfl, SqT.of h1, dvs_int ns⟩
  · rw [DV]; exact ⟨r, _, rfl, SqT.of h2, dvs_int ns⟩
  rw [SeqAt.eqv_refl _ (SeqAt.canLay_of_shaped hsh)]
  exact q
noncomputable abbrev lawK : Nat := 9
theorem ok_law {ts : List Addr} (T : Txt K mg a) (hB : Bm mg base) (hts : ∀ q ∈ tabs a, q.1 ∈ ts) : FnOk P w K mg base CX0 lawK a.f_law a.d_law ["_law_script"] (spLaw K ts) := by
  have G_L_cell : FnOk P w K mg base CX0 8 _ _ _ (spCell K) := (ok_cell T).mono (by decide)
  have G_L_crowd : FnOk P w K mg base CX0 8 _ _ _ (spCrowd K) := (ok_crowd T).mono (by decide)
  have G_L_row : FnOk P w K mg base CX0 8 _ _ _ spRow := (ok_row T).mono (by decide)
  have G_L_few : FnOk P w K mg base CX0 8 _ _ _ spLFew := (ok_lfew T).mono (by decide)
  have G_Few : FnOk P w K mg base CX0 7 _ _ _ (spFewI a) := (oi_Few T).mono (by decide)
  have G_Few_node : FnOk P w K mg base CX0 8 _ _ _ (spNode a) := (ok_node T hB).mono (by decide)
  have G_Few_matrix : FnOk P w K mg base CX0 8 _ _ _ (spMatrix K a) := (ok_matrix T hB).mono (by decide)
  have G_Few_bounds : FnOk P w K mg base CX0 8 _ _ _ (spBounds a) := (ok_bounds T).mono (by decide)
  have G_Few_text : FnOk P w K mg base CX0 8 _ _ _ (spTextF a) := (ok_text T).mono (by decide)
  have G_L_counts : FnOk P w K mg base CX0 8 _ _ _ (spCounts K) := (ok_counts T).mono (by decide)
  have G_L_matrix : FnOk P w K mg base CX0 8 _ _ _ (spLMat K) := (ok_lmat T).mono (by decide)
  have G_L_thrown : FnOk P w K mg base CX0 8 _ _ _ (spThrown a) := (ok_thrown T hB).mono (by decide)
  have G_drawn : FnOk P w K mg base CX0 8 _ _ _ (spDrawn a) := (ok_drawn T hB).mono (by decide)
  refine T.F_law.ok sc_law (fun vs H Q E h => ?_) (fun cdv A outer s H vs Q E hr h => ?_)
  · obtain ⟨p, ns, rfl, _⟩ := h; rfl
  · obtain ⟨p, ns, rfl, hS, hlen, hT0, q⟩ := h
    have small : sizeLine = 16777216 := sizeLine_eq
    have hT := tabs_new hts hT0
    refine ⟨_, (pss_cons (ps_set (i := 1) sc_law.nd rfl (Or.inl rfl) (pe_call G_L_crowd hr rfl T.m_L_crowd T.F_L_crowd.kp T.B_L_crowd .nil pass0 (pa_cons (vr 0) (pa_cons pe_int (pa_cons pe_int pa_nil))))) (pss_cons (ps_set (i := 2) sc_law.nd rfl (Or.inl rfl) (pe_op o_mod (pe_call G_L_cell hr rfl T.m_L_cell T.F_L_cell.kp T.B_L_cell .nil pass0 (pa_cons (vr 0) (pa_cons pe_int pa_nil))) pe_int)) (pss_cons (ps_set (i := 3) sc_law.nd rfl (Or.inl rfl) (pe_call G_L_row hr rfl T.m_L_row T.F_L_row.kp T.B_L_row .nil pass0 (pa_cons (pe_call G_L_cell hr rfl T.m_L_cell T.F_L_cell.kp T.B_L_cell .nil pass0 (pa_cons (vr 0) (pa_cons pe_int pa_nil))) (pa_cons (pe_call G_L_cell hr rfl T.m_L_cell T.F_L_cell.kp T.B_L_cell .nil pass0 (pa_cons (vr 0) (pa_cons pe_int pa_nil))) (pa_cons pe_int (pa_cons pe_int pa_nil)))))) (pss_cons (ps_asg (pe_call G_L_few hr rfl T.m_L_few T.F_L_few.kp T.B_L_few .nil pass0 (pa_cons (pe_comp rfl (N := ["_law_row_here"]) (ix := [none]) ⟨rfl, rfl, rfl, rfl, trivial⟩ (pi_any (vr 1)) ⟨fun C s H fp => pg_name (i := 0) (show List.Nodup (["_law_row_here"] : List Str) by decide +kernel) rfl (Or.inl rfl), fun C s H fp => pts_nil, fun C s H fp => (pe_ix (ix_seqK (K := K) rfl) (vr 0) pe_int (fun _ _ => rfl))⟩) (pa_cons (vr 2) (pa_cons (vr 3) pa_nil)))) (pg_tup rfl (pgs_cons (pg_name (i := 4) sc_law.nd rfl (Or.inl rfl)) (pgs_cons (pg_name (i := 5) sc_law.nd rfl (Or.inl rfl)) pgs_nil)))) (pss_cons (ps_set (i := 6) sc_law.nd rfl (Or.inl rfl) (pe_callTy call_list_of rfl T.z_list bt_list (pa_cons (vr 1) pa_nil))) (pss_cons (ps_set (i := 7) sc_law.nd rfl (Or.inl rfl) (pe_make T.mk_Few G_Few hr rfl T.mc_Few T.Bi_Few .nil pass0 (pa_cons (vr 2) pa_nil))) (pss_cons (ps_set (i := 8) sc_law.nd rfl (Or.inl rfl) (pe_meth (vr 7) T.cl_Few T.mt_Few_node G_Few_node hr T.B_Few_node .nil pass0 (pa_cons (vr 6) pa_nil))) (pss_cons (ps_set (i := 9) sc_law.nd rfl (Or.inl rfl) (pe_meth (vr 7) T.cl_Few T.mt_Few_matrix G_Few_matrix hr T.B_Few_matrix .nil pass0 (pa_cons (vr 6) pa_nil))) (pss_cons (ps_set (i := 10) sc_law.nd rfl (Or.inl rfl) (pe_call G_L_counts hr rfl T.m_L_counts T.F_L_counts.kp T.B_L_counts .nil pass0 (pa_cons (vr 2) (pa_cons (pe_callB call_lenM rfl T.z_len bt_len (pa_cons (vr 1) pa_nil)) pa_nil)))) (pss_cons (ps_if (PW.pt (pw_or (pt_not (t_val (pe_call G_L_matrix hr rfl T.m_L_matrix T.F_L_matrix.kp T.B_L_matrix .nil pass0 (pa_cons (vr 9) (pa_cons (vr 10) pa_nil))))) (pw_or1 (t_cmp (o_neR hr.units) (vr 6) (vr 1) (nomark _))))) (pss_one (ps_ret pe_bl)) pss_nil) (pss_cons (ps_for PassesOwn.never rfl (pi_zip rfl T.z_zip (pa_cons (vr 9) (pa_cons (vr 10) pa_nil))) (pg_tup rfl (pgs_cons (pg_name (i := 11) sc_law.nd rfl (Or.inl rfl)) (pgs_cons (pg_name (i := 12) sc_law.nd rfl (Or.inl rfl)) pgs_nil))) (pss_cons (ps_if (t_cmp (o_neD hr.units) (vr 11) (vr 12) (nomark _)) (pss_one (ps_ret pe_bl)) pss_nil) (pss_one (ps_expr (pe_m.clear (vr 11)))))) (pss_cons (ps_if (t_cmp (o_neD hr.units) (pe_meth (vr 7) T.cl_Few T.mt_Few_bounds G_Few_bounds hr T.B_Few_bounds .nil pass0 (pa_cons (vr 6) pa_nil)) (pe_tup (pa_cons (pe_callB (call_min2 rfl) rfl T.z_min bt_min (pa_cons (vr 2) (pa_cons (pe_callB call_lenM rfl T.z_len bt_len (pa_cons (vr 1) pa_nil)) pa_nil))) (pa_cons (pe_callB (call_min2 rfl) rfl T.z_min bt_min (pa_cons (vr 2) (pa_cons (pe_callB call_lenM rfl T.z_len bt_len (pa_cons (vr 1) pa_nil)) pa_nil))) pa_nil))) (nomark _)) (pss_one (ps_ret pe_bl)) pss_nil) (pss_cons (ps_expr (pe_m.clear (vr 6))) (pss_cons (ps_setC rfl (i := 13) sc_law.nd rfl rfl (by with_unfolding_all rfl) (N := ["_law_sizes", "_law_throw"]) (ix := [none, none]) ⟨rfl, rfl, rfl, rfl, trivial⟩ (pi_any (vr 4)) ⟨fun C s H fp => (pg_tupK (K := K) (n := 2) rfl rfl (pgs_cons (pg_name (i := 0) (show List.Nodup (["_law_sizes", "_law_throw"] : List Str) by decide +kernel) rfl (Or.inl rfl)) (pgs_cons (pg_name (i := 1) (show List.Nodup (["_law_sizes", "_law_throw"] : List Str) by decide +kernel) rfl (Or.inl rfl)) pgs_nil))), fun C s H fp => pts_nil, fun C s H fp => (vr 1)⟩) (pss_cons (ps_if (PW.pt (pw_or (pt_not (t_val (pe_call G_L_thrown hr rfl T.m_L_thrown T.F_L_thrown.kp T.B_L_thrown .nil pass0 (pa_cons (vr 8) (pa_cons (vr 4) (pa_cons (vr 5) pa_nil)))))) (pw_or1 (t_cmp (o_neD hr.units) (pe_call G_drawn hr rfl T.m_drawn T.F_drawn.kp T.B_drawn .nil pass0 (pa_cons (pe_meth (vr 7) T.cl_Few T.mt_Few_node G_Few_node hr T.B_Few_node .nil pass0 (pa_cons (vr 1) pa_nil)) (pa_cons (vr 13) pa_nil))) (vr 5) (nomark _))))) (pss_one (ps_ret pe_bl)) pss_nil) (pss_cons (ps_if (pt_not (t_val (pe_call G_L_matrix hr rfl T.m_L_matrix T.F_L_matrix.kp T.B_L_matrix .nil pass0 (pa_cons (pe_meth (vr 7) T.cl_Few T.mt_Few_matrix G_Few_matrix hr T.B_Few_matrix .nil pass0 (pa_cons (vr 1) pa_nil)) (pa_cons (vr 10) pa_nil))))) (pss_one (ps_ret pe_bl)) pss_nil) (pss_one (ps_ret (m_and (pe_cmpR o_eq (pe_meth0 (vr 7) T.cl_Few T.mt_Few_text G_Few_text hr T.B_Few_text .nil pass0) (pe_op o_add pe_str (pe_callTy call_strI rfl T.z_str bt_str (pa_cons (vr 2) pa_nil))) (nomark _)) (m_and (pe_cmpR o_eq (pe_fld (vr 7) rfl) (vr 2) (nomark _)) (pe_one (pe_call G_L_thrown hr rfl T.m_L_thrown T.F_L_thrown.kp T.B_L_thrown .nil pass0 (pa_cons (vr 8) (pa_cons (vr 4) (pa_cons (vr 5) pa_nil))))))))))))))))))))))))), ?_⟩
    refine ⟨p, ns, rfl, hS, hlen, fun H1 r ms xs s1 hr0 hr1 hC hP => ?_⟩
    have hcl := hC.len
    have hx24 : xs.length ≤ 24 := by rw [← hcl]; exact hP.1
    refine ⟨p, ns, 4, rfl, s1.seq hS, hlen, by decide, by decide, cp, ?_⟩
    obtain ⟨m, hm, hm24⟩ : ∃ m : Nat, cellC ns 4 % 25 = (m : Int) ∧ m ≤ 24 := ⟨(cellC ns 4 % 25).toNat, by omega, by omega⟩
    refine ⟨p, ns, 5, rfl, s1.seq hS, hlen, by decide, by decide, ?_⟩
    refine ⟨p, ns, 6, rfl, s1.seq hS, hlen, by decide, by decide, ?_⟩
    refine ⟨_, _, 24, 5354228880, rfl, by decide, by decide, by decide, by decide, fun H2 lt throws s2 hlt0 hlt htl _ => ?_⟩
    have hr2 := s2 _ _ hr1
    have hC2 := hC.tk s2.tk
    refine .inl ⟨⟨_, SqL.of hr2⟩, fun D hD => ?_⟩
    refine comp_list (K := K) (a := r) (xs := xs) (fun i ys H' => i ≤ xs.length ∧ Same H2 H' ∧ H' D = some (.lst ys) ∧ ys = (plc (ms.take i)).map V.int) ⟨Nat.zero_le _, Same.new hD, upd_same, rfl⟩ (fun i ys H' h => SqL.of (h.2.1 _ _ hr2)) (fun i ys H' h => h.2.2.1) ?_ ?_
    · rintro i x ys H' P' hx ⟨hi, s3, hD1, rfl⟩ hP'
      obtain ⟨m', hm', q1, pt, rfl, g1, g2⟩ := (hC2.tk s3.tk).get hx
      have hlt : i < xs.length := (List.getElem?_eq_some_iff.mp hx).1
      refine ⟨trivial, .inr (.inl ⟨q1, _, _, _, rfl, rfl, SqT.of g1, atI_cons 0 rfl rfl, hD1, ?_, hP' _ _ ⟨hlt, s3.put hD, upd_same, ?_⟩⟩)⟩
      · unfold plc; rw [List.length_map, List.length_map, List.length_take]; omega
      · unfold plc; rw [List.take_add_one, hm', List.map_append, List.map_append]; rfl
    rintro ys H2' ⟨_, s3, hD1, rfl⟩
    rw [← hcl, List.take_of_length_le (Nat.le_refl _)] at hD1
    have hpl : (plc ms).length = xs.length := by unfold plc; rw [List.length_map, hcl]
    refine ⟨D, lt, plc ms, throws, m, (by show [V.ref D, V.int (cellC ns 4 % 25), V.ref lt] = _; rw [hm]), hD1, s3 _ _ hlt, by omega, hm24, by omega, fun H3 p4 R kt xsR rows kept ks s4 hp4 hR hRs hRl hkt hks hkl hG => ?_⟩
    refine ⟨p4, _, rfl, SqT.of hp4, rfl, _, _, rfl, _, _, rfl, rfl, ?_⟩
    have s13 := (s2.trans s3).trans s4
    have hr3 := s13 _ _ hr1
    have hC3 := hC.tk s13.tk
    have hT3 := hT.same (s1.trans s13)
    refine ⟨r, xs, rfl, .inl (SqL.of hr3), fun lh flh => ?_⟩
    have nrl : r ≠ lh := ne_of_none hr3 flh
    have s5 := Same.new (o := .lst xs) flh
    have hlh := upd_same (H := H3) (a := lh) (o := .lst xs)
    generalize upd H3 lh (.lst xs) = H4 at s5 hlh
    intro x dx hx hdx hne
    refine ⟨x, dx, m, (by show [V.ref x, V.int (cellC ns 4 % 25)] = _; rw [hm]), upd_same, hm24, ⟨rfl, ?_⟩⟩
    rw [upd_upd]
    have s6 : Same H4 (upd (upd H4 dx (.own x)) x (.ins a.c_Few dx [("many", .int (m : Nat))])) := fun b o e => by rw [upd_ne (ne_of_none e hx), upd_ne (ne_of_none e hdx)]; exact e
    have hx5 := upd_same (H := upd H4 dx (.own x)) (a := x) (o := .ins a.c_Few dx [("many", .int (m : Nat))])
    generalize upd (upd H4 dx (.own x)) x (.ins a.c_Few dx [("many", .int (m : Nat))]) = H5 at s6 hx5
    have s46 := s5.trans s6
    have hlh5 := s6 _ _ hlh
    have hT5 := hT3.same s46
    have hC5 := hC3.tk s46.tk
    refine ⟨x, dx, _, rfl, hx5, rfl, fun b => b ≠ lh, _, m, lh, xs, ms, rfl, (fun b hb z => by rw [z, hlh5] at hb; cases hb), ⟨x, dx, rfl, hx5⟩, hlh5, hC5, hP.1, hT5, fun H6 nd t6 hT6 few6 => ?_⟩
    have hx6 := t6.at hx5
    have hlh6 := t6.at hlh5
    refine ⟨x, dx, _, rfl, hx6, rfl, _, m, lh, xs, rfl, ⟨x, dx, rfl, hx6⟩, hlh6, hx24, hT6, fun H7 fr xf t7 hT7 hfr0 hfr hM hnd hnew => ?_⟩
    have t37 := (s46.t.trans t6).trans t7
    have hlh7 := t7.at hlh6
    refine ⟨xs, .inl (SqL.of (t37.at hr3)), ?_⟩
    refine ⟨m, xs.length, (by show [V.int (cellC ns 4 % 25), V.int (xs.length : Int)] = _; rw [hm]), hx24, fun H8 d ys s8 hd0 hd hM8 hnew8 => ?_⟩
    refine ⟨fr, d, xf, ys, _, rfl, s8 _ _ hfr, hd, hM.same s8.t, hM8, fun H9 s9 => ?_⟩
    have s79 := s8.trans s9
    have t39 := t37.trans s79.t
    refine ⟨lh, r, xs, rfl, rfl, SqL.of (s79 _ _ hlh7), SqL.of (t39.at hr3), hC.refs, ?_⟩
    have hM9 := hM.same s79.t
    have hD9 := hM8.same s9.t
    have hfr9 := s79 _ _ hfr
    have hd9 := s9 _ _ hd
    have hT9 := hT7.same s79
    have nxf : ∀ {b : Addr}, H7 b = none → V.ref b ∉ xf := fun hb z => by
      obtain ⟨_, ys', e⟩ := hM.mem z
      rw [hb] at e; cases e
    have nfr : V.ref fr ∉ xf := fun z => (hM.mem z).1 rfl
    refine ⟨fr, d, xf, ys, rfl, hfr9, hd9, for_zip (a := fr) (b := d) (xs := xf) (ys := ys) (by rw [← hM.len, ← hM8.len]) (fun i σ H' => (∀ b o, V.ref b ∉ xf.take i → H9 b = some o → H' b = some o) ∧ TabsOk (tabs a) H' ∧ ∃ x11 x12, σ = [some (.ref p), some (.ref r), some (.int (cellC ns 4 % 25)), some (.ref lt), some (.ref R), some (.ref kt), some (.ref lh), some (.ref x), some nd, some (.ref fr), some (.ref d), x11, x12, none]) ⟨fun b o _ e => e, hT9, none, none, rfl⟩ (fun i σ H' h => ⟨h.1 _ _ (fun z => nfr (List.mem_of_mem_take z)) hfr9, h.1 _ _ (fun z => nxf hd0 (List.mem_of_mem_take z)) hd9⟩) ?_ ?_⟩
    · rintro i v1 v2 σ H' pp hxi hyi ⟨k1, hT', x11, x12, rfl⟩ hpp
      obtain ⟨fs, hu1, q1, zs, rfl, nq1, g1, hF1⟩ := hM9.get hxi
      obtain ⟨fs', hu2, q2, zs', rfl, nq2, g2, hF2⟩ := hD9.get hyi
      rw [hu1] at hu2
      cases hu2
      have n1 : V.ref q1 ∉ xf.take i := nodup_take hnd hxi
      have n2 : V.ref q2 ∉ xf := nxf (hnew8 q2 (List.mem_of_getElem? hyi))
      have tk1 : TK H9 H' := fun b us e => k1 _ _ (fun z => by
        obtain ⟨_, ws, e'⟩ := hM9.mem (List.mem_of_mem_take z)
        rw [e] at e'; cases e') e
      have sn := Same.new (o := .tup [.ref q1, .ref q2]) hpp
      have tk2 := tk1.trans sn.tk
      have c1 := sn _ _ (k1 _ _ n1 g1)
      have c2 := sn _ _ (k1 _ _ (fun z => n2 (List.mem_of_mem_take z)) g2)
      have hT2 := hT'.same sn
      refine ⟨pp, _, rfl, SqT.of upd_same, rfl, _, _, rfl, _, _, rfl, rfl, ?_⟩
      refine ne_fr c1 c2 (hF1.tk tk2) (hF2.tk tk2) ?_
      refine ⟨.inl ⟨rfl, _, SqL.of c1⟩, ⟨q1, _, rfl, rfl, c1, ?_⟩⟩
      refine ⟨fun b o nb e => ?_, tabs_lst c1 hT2, _, _, rfl⟩
      rw [List.take_add_one, hxi] at nb
      have nb1 : V.ref b ∉ xf.take i := fun z => nb (List.mem_append_left _ z)
      have nb2 : b ≠ q1 := fun z => nb (List.mem_append_right _ (by rw [z]; exact List.mem_singleton.mpr rfl))
      rw [upd_ne nb2]
      exact sn _ _ (k1 _ _ nb1 e)
    rintro σ H10 ⟨k10, hT10, x11, x12, rfl⟩
    rw [List.take_of_length_le (Nat.le_refl _)] at k10
    have n6 : ∀ {b : Addr} {o : HO}, H6 b = some o → V.ref b ∉ xf := fun e z => by rw [hnew _ z] at e; cases e
    have t69 := t7.trans s79.t
    have t610 : SameT H6 H10 := fun b o e => ⟨fun n => k10 _ _ (n6 e) (t69.at e n), let ⟨o', e'⟩ := (t69 b o e).2; ⟨o', k10 _ _ (n6 e) e'⟩⟩
    have tkx : TK H9 H10 := fun b us e => k10 _ _ (fun z => by
        obtain ⟨_, ws, e'⟩ := hM9.mem z
        rw [e] at e'; cases e') e
    have hD10 : MatAt K d H10 (matE xs.length (min m xs.length)) ys := hD9.keep tkx (fun q zs hq h => k10 _ _ (nxf (hnew8 q hq)) h)
    have hd10 := k10 _ _ (nxf hd0) hd9
    have t310 := (s46.t.trans t6).trans t610
    have hx10 := t610.at hx6
    have hlh10 := t610.at hlh6
    have few10 := few6.t t610
    have emin : (if ((xs.length : Int) < cellC ns 4 % 25) then (xs.length : Int) else cellC ns 4 % 25) = ((min m xs.length : Nat) : Int) := by rw [hm]; split <;> omega
    refine ⟨x, dx, _, rfl, hx10, rfl, _, m, lh, xs, rfl, ⟨x, dx, rfl, hx10⟩, hlh10, fun pb fpb => ?_⟩
    have u1 := Same.new (o := .tup [.int ((min m xs.length : Nat) : Int), .int ((min m xs.length : Nat) : Int)]) fpb
    have hpb := upd_same (H := H10) (a := pb) (o := .tup [.int ((min m xs.length : Nat) : Int), .int ((min m xs.length : Nat) : Int)])
    generalize upd H10 pb (.tup [.int ((min m xs.length : Nat) : Int), .int ((min m xs.length : Nat) : Int)]) = H11 at u1 hpb
    have hr11 := u1 _ _ (t310.at hr3)
    refine ⟨xs, .inl (SqL.of hr11), ⟨_, _, rfl, ?_⟩⟩
    rw [emin]
    refine ⟨xs, .inl (SqL.of hr11), ⟨_, _, rfl, ?_⟩⟩
    rw [emin]
    refine ⟨two_le _ _, fun pc fpc => ?_⟩
    have u2 := Same.new (o := .tup [.int ((min m xs.length : Nat) : Int), .int ((min m xs.length : Nat) : Int)]) fpc
    refine ne_tups (ns := [((min m xs.length : Nat) : Int), ((min m xs.length : Nat) : Int)]) (u2 _ _ hpb) upd_same ?_
    have u12 := u1.trans u2
    have hlh12 := u12 _ _ hlh10
    have hx12 := u12 _ _ hx10
    have few12 := few10.t u12.t
    have hT12 := hT10.same u12
    have hD12 := hD10.same u12.t
    have hd12 := u12 _ _ hd10
    have t312 := t310.trans u12.t
    generalize upd H11 pc (.tup [.int ((min m xs.length : Nat) : Int), .int ((min m xs.length : Nat) : Int)]) = H12 at u2 u12 hlh12 hx12 few12 hT12 hD12 hd12 t312
    refine ⟨.inl ⟨rfl, _, SqL.of hlh12⟩, ⟨lh, _, rfl, rfl, hlh12, ?_⟩⟩
    have few13 := (few12.put (o' := .lst []) hlh12 (fun z => z rfl)).w
    have hx13 := notL (o' := .lst []) hlh12 hx12 (fun ys z => nomatch z)
    have hT13 := tabs_lst (zs' := []) hlh12 hT12
    have t313 : SameT H3 (upd H12 lh (.lst [])) := t312.put flh
    have n7 : ∀ {b : Addr}, H7 b = none → b ≠ lh := fun hb z => by rw [z, hlh7] at hb; cases hb
    have hd13 : (upd H12 lh (.lst [])) d = some (.lst ys) := by rw [upd_ne (n7 hd0)]; exact hd12
    have hD13 : MatAt K d (upd H12 lh (.lst [])) (matE xs.length (min m xs.length)) ys := hD12.keep (TK.lst hlh12) (fun q zs hq h => by rw [upd_ne (n7 (hnew8 q hq))]; exact h)
    generalize upd H12 lh (.lst []) = H13 at few13 hx13 hT13 t313 hd13 hD13
    have hR13 := t313.at hR
    have hRs13 := RowsAt.t t313 hRs
    refine .inl ⟨⟨_, SqL.of hR13⟩, fun D2 hD2 => ?_⟩
    refine comp_list (K := K) (a := R) (xs := xsR) (fun i zs H' => Same H13 H' ∧ H' D2 = some (.lst zs) ∧ i ≤ rows.length ∧ zs = ((rows.map fun r => r.2.2).map V.int).take i) ⟨Same.new hD2, upd_same, Nat.zero_le _, rfl⟩ (fun i zs H' h => SqL.of (h.1 _ _ hR13)) (fun i zs H' h => h.2.1) ?_ ?_
    · rintro i y zs H' P' hy ⟨s13', hD13', hi, rfl⟩ hP'
      obtain ⟨⟨k, n, t⟩, hri, pr, lsz, rfl, hpr, hlsz⟩ := hRs13.get hy
      have ilt : i < rows.length := (List.getElem?_eq_some_iff.mp hri).1
      have rl := hRs13.len
      refine ⟨pr, _, rfl, SqT.of (s13' _ _ hpr), rfl, _, _, rfl, _, _, rfl, rfl, trivial, hD13', ?_, hP' _ _ ⟨s13'.put hD2, upd_same, ilt, ?_⟩⟩
      · rw [List.length_take]; omega
      · rw [List.take_add_one, List.getElem?_map, List.getElem?_map, hri]; rfl
    rintro zs H14 ⟨s14, hD14, _, rfl⟩
    rw [← hRs13.len, List.take_of_length_le (by rw [List.length_map, List.length_map]; exact Nat.le_refl _)] at hD14
    have t314 := t313.trans s14.t
    have len40 : (plc ms).length + ([] : List Int).length ≤ 40 := by rw [hpl, List.length_nil]; omega
    have few14 := few13.t s14.t
    refine ⟨nd, R, kt, rows, xsR, kept, ks, rfl, ⟨⟨plc ms, m, [], few14, len40, hG⟩⟩, t314.at hR, RowsAt.t t314 hRs, t314.at hkt, hks, hkl, hT13.same s14, fun H15 t15 hT15 => ?_⟩
    have t315 := t314.trans t15
    have hx15 := t15.at (s14 _ _ hx13)
    refine ⟨x, dx, _, rfl, hx15, rfl, fun _ => True, _, m, r, xs, ms, rfl, (fun _ _ => trivial), ⟨x, dx, rfl, hx15⟩, t315.at hr3, hC3.tk (SameT.tk t315), hP.1, hT15, fun H16 nd2 t16 hT16 few16 => ?_⟩
    have t316 := t315.trans t16
    refine ⟨nd2, D2, rows, kept, rfl, ⟨⟨plc ms, m, [], few16.w, len40, hG⟩⟩, t16.at (t15.at hD14), hT16, fun H17 kt2 ks2 t17 hT17 hkt2 hks2 => ?_⟩
    have : ks2 = ks := srt_uniq hks2 hks
    subst this
    have t317 := t316.trans t17
    refine ne_tups hkt2 (t317.at hkt) ?_
    have t1417 := (t15.trans t16).trans t17
    have hx17 := t1417.at (s14 _ _ hx13)
    refine ⟨x, dx, _, rfl, hx17, rfl, _, m, r, xs, rfl, ⟨x, dx, rfl, hx17⟩, t317.at hr3, hx24, hT17, fun H18 fr2 xf2 t18 hT18 _ hfr2 hM18 _ _ => ?_⟩
    have t1418 := t1417.trans t18
    refine ⟨fr2, d, xf2, ys, _, rfl, hfr2, t1418.at (s14 _ _ hd13), hM18, hD13.same (s14.t.trans t1418), fun H19 s19 => ?_⟩
    have t1419 := t1418.trans s19.t
    have hx19 := t1419.at (s14 _ _ hx13)
    have t319 := t314.trans t1419
    refine ⟨x, dx, _, rfl, hx19, rfl, _, m, rfl, ⟨x, dx, rfl, hx19⟩, hm24, ?_⟩
    have h0 : (0 : Int) ≤ (m : Int) := by omega
    have h1 : (m : Int) ≤ 100 := by omega
    refine ⟨by rw [hm]; exact slog h0 h1, ?_⟩
    have hl := slen h0 h1
    have e1 : (("few " : Str)).length ≤ 8 := by decide +kernel
    refine ⟨by rw [hm]; omega, ?_⟩
    rw [hm]
    refine ifP rfl ?_
    refine ⟨x, _, dx, _, _, rfl, hx19, T.cl_Few, T.na_Few_many, rfl, ?_⟩
    refine ifP rfl ?_
    exact ⟨nd, R, kt, rows, xsR, kept, _, rfl, ⟨⟨plc ms, m, [], few14.t t1419, len40, hG⟩⟩, t319.at hR, RowsAt.t t319 hRs, t319.at hkt, hks, hkl, hT18.same s19, fun H20 t20 hT20 => q _⟩
end
end My

set_option Elab.async false
set_option linter.all false
set_option maxRecDepth 100000
set_option maxHeartbeats 4000000
namespace My
open PySem L2
theorem us0 {α : Type} : ∀ {us : List α}, us.length = 0 → us = []
  | [], _ => rfl
theorem us1 {α : Type} : ∀ {us : List α}, us.length = 1 → ∃ a0, us = [a0]
  | [_], _ => ⟨_, rfl⟩
theorem us2 {α : Type} : ∀ {us : List α}, us.length = 2 → ∃ a0 a1, us = [a0, a1]
  | [_, _], _ => ⟨_, _, rfl⟩
theorem us3 {α : Type} : ∀ {us : List α}, us.length = 3 → ∃ a0 a1 a2, us = [a0, a1, a2]
  | [_, _, _], _ => ⟨_, _, _, rfl⟩
theorem us4 {α : Type} : ∀ {us : List α}, us.length = 4 → ∃ a0 a1 a2 a3, us = [a0, a1, a2, a3]
  | [_, _, _, _], _ => ⟨_, _, _, _, rfl⟩
theorem us5 {α : Type} : ∀ {us : List α}, us.length = 5 → ∃ a0 a1 a2 a3 a4, us = [a0, a1, a2, a3, a4]
  | [_, _, _, _, _], _ => ⟨_, _, _, _, _, rfl⟩
theorem us6 {α : Type} : ∀ {us : List α}, us.length = 6 → ∃ a0 a1 a2 a3 a4 a5, us = [a0, a1, a2, a3, a4, a5]
  | [_, _, _, _, _, _], _ => ⟨_, _, _, _, _, _, rfl⟩
theorem us7 {α : Type} : ∀ {us : List α}, us.length = 7 → ∃ a0 a1 a2 a3 a4 a5 a6, us = [a0, a1, a2, a3, a4, a5, a6]
  | [_, _, _, _, _, _, _], _ => ⟨_, _, _, _, _, _, _, rfl⟩
theorem txt_mk {K : PySem.W.Frag} {h : Heap} {mg : Str → Option Value} {f0 : Addr} {od0 an0 : Option Addr} {sl0 : Array (Option Value)} {oc0 kV0 dc0 pm0 cd0 ct0 : Value} {f1 : Addr} {od1 an1 : Option Addr} {sl1 : Array (Option Value)} {oc1 kV1 dc1 pm1 cd1 ct1 : Value} {f2 : Addr} {od2 an2 : Option Addr} {sl2 : Array (Option Value)} {oc2 kV2 dc2 pm2 cd2 ct2 : Value} {f3 : Addr} {od3 an3 : Option Addr} {sl3 : Array (Option Value)} {oc3 kV3 dc3 pm3 cd3 ct3 : Value} {f4 : Addr} {od4 an4 : Option Addr} {sl4 : Array (Option Value)} {oc4 kV4 dc4 pm4 cd4 ct4 : Value} {f5 : Addr} {od5 an5 : Option Addr} {sl5 : Array (Option Value)} {oc5 kV5 dc5 pm5 cd5 ct5 : Value} {f6 : Addr} {od6 an6 : Option Addr} {sl6 : Array (Option Value)} {oc6 kV6 dc6 pm6 cd6 ct6 : Value} {f7 : Addr} {od7 an7 : Option Addr} {sl7 : Array (Option Value)} {oc7 kV7 dc7 pm7 cd7 ct7 : Value} {f8 : Addr} {od8 an8 : Option Addr} {sl8 : Array (Option Value)} {oc8 kV8 dc8 pm8 cd8 ct8 : Value} {f9 : Addr} {od9 an9 : Option Addr} {sl9 : Array (Option Value)} {oc9 kV9 dc9 pm9 cd9 ct9 : Value} {f10 : Addr} {od10 an10 : Option Addr} {sl10 : Array (Option Value)} {oc10 kV10 dc10 pm10 cd10 ct10 : Value} {f11 : Addr} {od11 an11 : Option Addr} {sl11 : Array (Option Value)} {oc11 kV11 dc11 pm11 cd11 ct11 : Value} {f12 : Addr} {od12 an12 : Option Addr} {sl12 : Array (Option Value)} {oc12 kV12 dc12 pm12 cd12 ct12 : Value} {f13 : Addr} {od13 an13 : Option Addr} {sl13 : Array (Option Value)} {oc13 kV13 dc13 pm13 cd13 ct13 : Value} {f14 : Addr} {od14 an14 : Option Addr} {sl14 : Array (Option Value)} {oc14 kV14 dc14 pm14 cd14 ct14 : Value} {f15 : Addr} {od15 an15 : Option Addr} {sl15 : Array (Option Value)} {oc15 kV15 dc15 pm15 cd15 ct15 : Value} {f16 : Addr} {od16 an16 : Option Addr} {sl16 : Array (Option Value)} {oc16 kV16 dc16 pm16 cd16 ct16 : Value} {f17 : Addr} {od17 an17 : Option Addr} {sl17 : Array (Option Value)} {oc17 kV17 dc17 pm17 cd17 ct17 : Value} {f18 : Addr} {od18 an18 : Option Addr} {sl18 : Array (Option Value)} {oc18 kV18 dc18 pm18 cd18 ct18 : Value} {f19 : Addr} {od19 an19 : Option Addr} {sl19 : Array (Option Value)} {oc19 kV19 dc19 pm19 cd19 ct19 : Value} {f20 : Addr} {od20 an20 : Option Addr} {sl20 : Array (Option Value)} {oc20 kV20 dc20 pm20 cd20 ct20 : Value} {f21 : Addr} {od21 an21 : Option Addr} {sl21 : Array (Option Value)} {oc21 kV21 dc21 pm21 cd21 ct21 : Value} {f22 : Addr} {od22 an22 : Option Addr} {sl22 : Array (Option Value)} {oc22 kV22 dc22 pm22 cd22 ct22 : Value} {u0 : Value} {c_SpeakError : Addr} {c_NoPlan : Addr} {i_NoPlan : Addr} {od_NoPlan an_NoPlan : Option Addr} {sl_NoPlan : Array (Option Value)} {oc_NoPlan kV_NoPlan dc_NoPlan pm_NoPlan cd_NoPlan ct_NoPlan : Value} {c_NoThrow : Addr} {i_NoThrow : Addr} {od_NoThrow an_NoThrow : Option Addr} {sl_NoThrow : Array (Option Value)} {oc_NoThrow kV_NoThrow dc_NoThrow pm_NoThrow cd_NoThrow ct_NoThrow : Value} {c_Node : Addr} {c_Told : Addr} {i_Told : Addr} {od_Told an_Told : Option Addr} {sl_Told : Array (Option Value)} {oc_Told kV_Told dc_Told pm_Told cd_Told ct_Told : Value} {c_Die : Addr} {i_Die : Addr} {od_Die an_Die : Option Addr} {sl_Die : Array (Option Value)} {oc_Die kV_Die dc_Die pm_Die cd_Die ct_Die : Value} {c_Plan : Addr} {c_Few : Addr} {i_Few : Addr} {od_Few an_Few : Option Addr} {sl_Few : Array (Option Value)} {oc_Few kV_Few dc_Few pm_Few cd_Few ct_Few : Value} {x_Told_is_told : Addr} {od_Told_is_told an_Told_is_told : Option Addr} {sl_Told_is_told : Array (Option Value)} {oc_Told_is_told kV_Told_is_told dc_Told_is_told pm_Told_is_told cd_Told_is_told ct_Told_is_told : Value} {x_Die_is_told : Addr} {od_Die_is_told an_Die_is_told : Option Addr} {sl_Die_is_told : Array (Option Value)} {oc_Die_is_told kV_Die_is_told dc_Die_is_told pm_Die_is_told cd_Die_is_told ct_Die_is_told : Value} {x_Told_kept : Addr} {od_Told_kept an_Told_kept : Option Addr} {sl_Told_kept : Array (Option Value)} {oc_Told_kept kV_Told_kept dc_Told_kept pm_Told_kept cd_Told_kept ct_Told_kept : Value} {x_Die_kept : Addr} {od_Die_kept an_Die_kept : Option Addr} {sl_Die_kept : Array (Option Value)} {oc_Die_kept kV_Die_kept dc_Die_kept pm_Die_kept cd_Die_kept ct_Die_kept : Value} {x_Told_sides : Addr} {od_Told_sides an_Told_sides : Option Addr} {sl_Told_sides : Array (Option Value)} {oc_Told_sides kV_Told_sides dc_Told_sides pm_Told_sides cd_Told_sides ct_Told_sides : Value} {x_Die_sides : Addr} {od_Die_sides an_Die_sides : Option Addr} {sl_Die_sides : Array (Option Value)} {oc_Die_sides kV_Die_sides dc_Die_sides pm_Die_sides cd_Die_sides ct_Die_sides : Value} {x_Told_parts : Addr} {od_Told_parts an_Told_parts : Option Addr} {sl_Told_parts : Array (Option Value)} {oc_Told_parts kV_Told_parts dc_Told_parts pm_Told_parts cd_Told_parts ct_Told_parts : Value} {x_Die_parts : Addr} {od_Die_parts an_Die_parts : Option Addr} {sl_Die_parts : Array (Option Value)} {oc_Die_parts kV_Die_parts dc_Die_parts pm_Die_parts cd_Die_parts ct_Die_parts : Value} {x_Die_after : Addr} {od_Die_after an_Die_after : Option Addr} {sl_Die_after : Array (Option Value)} {oc_Die_after kV_Die_after dc_Die_after pm_Die_after cd_Die_after ct_Die_after : Value} {x_Few_node : Addr} {od_Few_node an_Few_node : Option Addr} {sl_Few_node : Array (Option Value)} {oc_Few_node kV_Few_node dc_Few_node pm_Few_node cd_Few_node ct_Few_node : Value} {x_Few_matrix : Addr} {od_Few_matrix an_Few_matrix : Option Addr} {sl_Few_matrix : Array (Option Value)} {oc_Few_matrix kV_Few_matrix dc_Few_matrix pm_Few_matrix cd_Few_matrix ct_Few_matrix : Value} {x_Few_bounds : Addr} {od_Few_bounds an_Few_bounds : Option Addr} {sl_Few_bounds : Array (Option Value)} {oc_Few_bounds kV_Few_bounds dc_Few_bounds pm_Few_bounds cd_Few_bounds ct_Few_bounds : Value} {x_Few_text : Addr} {od_Few_text an_Few_text : Option Addr} {sl_Few_text : Array (Option Value)} {oc_Few_text kV_Few_text dc_Few_text pm_Few_text cd_Few_text ct_Few_text : Value} {lc_Few_matrix lp_Few_matrix : Addr} {lo_Few_matrix : Value} {lod_Few_matrix : Option Addr} {lvs_Few_matrix : Array Value} {lsl_Few_matrix : Array (Option Value)} {lc_few_node lp_few_node : Addr} {lo_few_node : Value} {lod_few_node : Option Addr} {lvs_few_node : Array Value} {lsl_few_node : Array (Option Value)} (X : K.In h) (G : h.Ns mainGlobals mg)
    (a0 : PySem.W.nsIn K mainGlobals "greatest_divisor" = some (some (.ref f0))) (l0 : K.lookup f0 = some ⟨oc0, od0, .func (PySem.W.fnOf "greatest_divisor" "greatest_divisor" (defArgs s_greatest_divisor) (defBody s_greatest_divisor) (defScope s_greatest_divisor) .none kV0 dc0 pm0 an0 cd0 ct0), sl0⟩) (c0 : PySem.W.codeIn K cd0 "greatest_divisor" = true) (k0 : PySem.W.keepIn K (.ref f0) = true)
    (a1 : PySem.W.nsIn K mainGlobals "share" = some (some (.ref f1))) (l1 : K.lookup f1 = some ⟨oc1, od1, .func (PySem.W.fnOf "share" "share" (defArgs s_share) (defBody s_share) (defScope s_share) .none kV1 dc1 pm1 an1 cd1 ct1), sl1⟩) (c1 : PySem.W.codeIn K cd1 "share" = true) (k1 : PySem.W.keepIn K (.ref f1) = true)
    (a2 : PySem.W.nsIn K mainGlobals "is_whole" = some (some (.ref f2))) (l2 : K.lookup f2 = some ⟨oc2, od2, .func (PySem.W.fnOf "is_whole" "is_whole" (defArgs s_is_whole) (defBody s_is_whole) (defScope s_is_whole) .none kV2 dc2 pm2 an2 cd2 ct2), sl2⟩) (c2 : PySem.W.codeIn K cd2 "is_whole" = true) (k2 : PySem.W.keepIn K (.ref f2) = true)
    (a3 : PySem.W.nsIn K mainGlobals "can_be_thrown" = some (some (.ref f3))) (l3 : K.lookup f3 = some ⟨oc3, od3, .func (PySem.W.fnOf "can_be_thrown" "can_be_thrown" (defArgs s_can_be_thrown) (defBody s_can_be_thrown) (defScope s_can_be_thrown) .none kV3 dc3 pm3 an3 cd3 ct3), sl3⟩) (c3 : PySem.W.codeIn K cd3 "can_be_thrown" = true) (k3 : PySem.W.keepIn K (.ref f3) = true)
    (a4 : PySem.W.nsIn K mainGlobals "drawn" = some (some (.ref f4))) (l4 : K.lookup f4 = some ⟨oc4, od4, .func (PySem.W.fnOf "drawn" "drawn" (defArgs s_drawn) (defBody s_drawn) (defScope s_drawn) .none kV4 dc4 pm4 an4 cd4 ct4), sl4⟩) (c4 : PySem.W.codeIn K cd4 "drawn" = true) (k4 : PySem.W.keepIn K (.ref f4) = true)
    (a5 : PySem.W.nsIn K mainGlobals "places_of" = some (some (.ref f5))) (l5 : K.lookup f5 = some ⟨oc5, od5, .func (PySem.W.fnOf "places_of" "places_of" (defArgs s_places_of) (defBody s_places_of) (defScope s_places_of) .none kV5 dc5 pm5 an5 cd5 ct5), sl5⟩) (c5 : PySem.W.codeIn K cd5 "places_of" = true) (k5 : PySem.W.keepIn K (.ref f5) = true)
    (a6 : PySem.W.nsIn K mainGlobals "matrix_by" = some (some (.ref f6))) (l6 : K.lookup f6 = some ⟨oc6, od6, .func (PySem.W.fnOf "matrix_by" "matrix_by" (defArgs s_matrix_by) (defBody s_matrix_by) (defScope s_matrix_by) .none kV6 dc6 pm6 an6 cd6 ct6), sl6⟩) (c6 : PySem.W.codeIn K cd6 "matrix_by" = true) (k6 : PySem.W.keepIn K (.ref f6) = true)
    (a7 : PySem.W.nsIn K mainGlobals "matrix_row" = some (some (.ref f7))) (l7 : K.lookup f7 = some ⟨oc7, od7, .func (PySem.W.fnOf "matrix_row" "matrix_row" (defArgs s_matrix_row) (defBody s_matrix_row) (defScope s_matrix_row) .none kV7 dc7 pm7 an7 cd7 ct7), sl7⟩) (c7 : PySem.W.codeIn K cd7 "matrix_row" = true) (k7 : PySem.W.keepIn K (.ref f7) = true)
    (a8 : PySem.W.nsIn K mainGlobals "need_number" = some (some (.ref f8))) (l8 : K.lookup f8 = some ⟨oc8, od8, .func (PySem.W.fnOf "need_number" "need_number" (defArgs s_need_number) (defBody s_need_number) (defScope s_need_number) .none kV8 dc8 pm8 an8 cd8 ct8), sl8⟩) (c8 : PySem.W.codeIn K cd8 "need_number" = true) (k8 : PySem.W.keepIn K (.ref f8) = true)
    (a9 : PySem.W.nsIn K mainGlobals "few_node" = some (some (.ref f9))) (l9 : K.lookup f9 = some ⟨oc9, od9, .func (PySem.W.fnOf "few_node" "few_node" (defArgs s_few_node) (defBody s_few_node) (defScope s_few_node) .none kV9 dc9 pm9 an9 cd9 ct9), sl9⟩) (c9 : PySem.W.codeIn K cd9 "few_node" = true) (k9 : PySem.W.keepIn K (.ref f9) = true)
    (a10 : PySem.W.nsIn K mainGlobals "few_chance" = some (some (.ref f10))) (l10 : K.lookup f10 = some ⟨oc10, od10, .func (PySem.W.fnOf "few_chance" "few_chance" (defArgs s_few_chance) (defBody s_few_chance) (defScope s_few_chance) .none kV10 dc10 pm10 an10 cd10 ct10), sl10⟩) (c10 : PySem.W.codeIn K cd10 "few_chance" = true) (k10 : PySem.W.keepIn K (.ref f10) = true)
    (a11 : PySem.W.nsIn K mainGlobals "_law_cell" = some (some (.ref f11))) (l11 : K.lookup f11 = some ⟨oc11, od11, .func (PySem.W.fnOf "_law_cell" "_law_cell" (defArgs s_L_cell) (defBody s_L_cell) (defScope s_L_cell) .none kV11 dc11 pm11 an11 cd11 ct11), sl11⟩) (c11 : PySem.W.codeIn K cd11 "_law_cell" = true) (k11 : PySem.W.keepIn K (.ref f11) = true)
    (a12 : PySem.W.nsIn K mainGlobals "_law_mix" = some (some (.ref f12))) (l12 : K.lookup f12 = some ⟨oc12, od12, .func (PySem.W.fnOf "_law_mix" "_law_mix" (defArgs s_L_mix) (defBody s_L_mix) (defScope s_L_mix) .none kV12 dc12 pm12 an12 cd12 ct12), sl12⟩) (c12 : PySem.W.codeIn K cd12 "_law_mix" = true) (k12 : PySem.W.keepIn K (.ref f12) = true)
    (a13 : PySem.W.nsIn K mainGlobals "_law_row" = some (some (.ref f13))) (l13 : K.lookup f13 = some ⟨oc13, od13, .func (PySem.W.fnOf "_law_row" "_law_row" (defArgs s_L_row) (defBody s_L_row) (defScope s_L_row) .none kV13 dc13 pm13 an13 cd13 ct13), sl13⟩) (c13 : PySem.W.codeIn K cd13 "_law_row" = true) (k13 : PySem.W.keepIn K (.ref f13) = true)
    (a14 : PySem.W.nsIn K mainGlobals "_law_whole" = some (some (.ref f14))) (l14 : K.lookup f14 = some ⟨oc14, od14, .func (PySem.W.fnOf "_law_whole" "_law_whole" (defArgs s_L_whole) (defBody s_L_whole) (defScope s_L_whole) .none kV14 dc14 pm14 an14 cd14 ct14), sl14⟩) (c14 : PySem.W.codeIn K cd14 "_law_whole" = true) (k14 : PySem.W.keepIn K (.ref f14) = true)
    (a15 : PySem.W.nsIn K mainGlobals "_law_low" = some (some (.ref f15))) (l15 : K.lookup f15 = some ⟨oc15, od15, .func (PySem.W.fnOf "_law_low" "_law_low" (defArgs s_L_low) (defBody s_L_low) (defScope s_L_low) .none kV15 dc15 pm15 an15 cd15 ct15), sl15⟩) (c15 : PySem.W.codeIn K cd15 "_law_low" = true) (k15 : PySem.W.keepIn K (.ref f15) = true)
    (a16 : PySem.W.nsIn K mainGlobals "_law_fraction" = some (some (.ref f16))) (l16 : K.lookup f16 = some ⟨oc16, od16, .func (PySem.W.fnOf "_law_fraction" "_law_fraction" (defArgs s_L_fraction) (defBody s_L_fraction) (defScope s_L_fraction) .none kV16 dc16 pm16 an16 cd16 ct16), sl16⟩) (c16 : PySem.W.codeIn K cd16 "_law_fraction" = true) (k16 : PySem.W.keepIn K (.ref f16) = true)
    (a17 : PySem.W.nsIn K mainGlobals "_law_matrix" = some (some (.ref f17))) (l17 : K.lookup f17 = some ⟨oc17, od17, .func (PySem.W.fnOf "_law_matrix" "_law_matrix" (defArgs s_L_matrix) (defBody s_L_matrix) (defScope s_L_matrix) .none kV17 dc17 pm17 an17 cd17 ct17), sl17⟩) (c17 : PySem.W.codeIn K cd17 "_law_matrix" = true) (k17 : PySem.W.keepIn K (.ref f17) = true)
    (a18 : PySem.W.nsIn K mainGlobals "_law_crowd" = some (some (.ref f18))) (l18 : K.lookup f18 = some ⟨oc18, od18, .func (PySem.W.fnOf "_law_crowd" "_law_crowd" (defArgs s_L_crowd) (defBody s_L_crowd) (defScope s_L_crowd) .none kV18 dc18 pm18 an18 cd18 ct18), sl18⟩) (c18 : PySem.W.codeIn K cd18 "_law_crowd" = true) (k18 : PySem.W.keepIn K (.ref f18) = true)
    (a19 : PySem.W.nsIn K mainGlobals "_law_thrown" = some (some (.ref f19))) (l19 : K.lookup f19 = some ⟨oc19, od19, .func (PySem.W.fnOf "_law_thrown" "_law_thrown" (defArgs s_L_thrown) (defBody s_L_thrown) (defScope s_L_thrown) .none kV19 dc19 pm19 an19 cd19 ct19), sl19⟩) (c19 : PySem.W.codeIn K cd19 "_law_thrown" = true) (k19 : PySem.W.keepIn K (.ref f19) = true)
    (a20 : PySem.W.nsIn K mainGlobals "_law_few" = some (some (.ref f20))) (l20 : K.lookup f20 = some ⟨oc20, od20, .func (PySem.W.fnOf "_law_few" "_law_few" (defArgs s_L_few) (defBody s_L_few) (defScope s_L_few) .none kV20 dc20 pm20 an20 cd20 ct20), sl20⟩) (c20 : PySem.W.codeIn K cd20 "_law_few" = true) (k20 : PySem.W.keepIn K (.ref f20) = true)
    (a21 : PySem.W.nsIn K mainGlobals "_law_counts" = some (some (.ref f21))) (l21 : K.lookup f21 = some ⟨oc21, od21, .func (PySem.W.fnOf "_law_counts" "_law_counts" (defArgs s_L_counts) (defBody s_L_counts) (defScope s_L_counts) .none kV21 dc21 pm21 an21 cd21 ct21), sl21⟩) (c21 : PySem.W.codeIn K cd21 "_law_counts" = true) (k21 : PySem.W.keepIn K (.ref f21) = true)
    (a22 : PySem.W.nsIn K mainGlobals "law" = some (some (.ref f22))) (l22 : K.lookup f22 = some ⟨oc22, od22, .func (PySem.W.fnOf "law" "law" (defArgs s_law) (defBody s_law) (defScope s_law) .none kV22 dc22 pm22 an22 cd22 ct22), sl22⟩) (c22 : PySem.W.codeIn K cd22 "law" = true) (k22 : PySem.W.keepIn K (.ref f22) = true)
    (b0 : PySem.W.nsIn K mainGlobals "MOST_MANY" = some (some u0))
    (ca_SpeakError : PySem.W.nsIn K mainGlobals "SpeakError" = some (some (.ref c_SpeakError))) (cb_SpeakError : PySem.W.keepIn K (.ref c_SpeakError) = true) (cc_SpeakError : xcIn K c_SpeakError = true)
    (cx_SpeakError : xIn K c_SpeakError none = true)
    (ca_NoPlan : PySem.W.nsIn K mainGlobals "NoPlan" = some (some (.ref c_NoPlan))) (cb_NoPlan : PySem.W.keepIn K (.ref c_NoPlan) = true) (cc_NoPlan : xcIn K c_NoPlan = true)
    (cf_NoPlan : PySem.W.findIn K (.ref c_NoPlan) "__init__" = some (some (.ref i_NoPlan))) (cx_NoPlan : xIn K c_NoPlan (some (.ref i_NoPlan)) = true) (cg_NoPlan : PySem.W.isFn K (.ref i_NoPlan) = true)
    (cl_NoPlan : K.lookup i_NoPlan = some ⟨oc_NoPlan, od_NoPlan, .func (PySem.W.fnOf "__init__" "NoPlan.__init__" (defArgs s_NoPlan___init__) (defBody s_NoPlan___init__) (defScope s_NoPlan___init__) .none kV_NoPlan dc_NoPlan pm_NoPlan an_NoPlan cd_NoPlan ct_NoPlan), sl_NoPlan⟩) (co_NoPlan : PySem.W.codeIn K cd_NoPlan "NoPlan.__init__" = true) (ck_NoPlan : PySem.W.keepIn K (.ref i_NoPlan) = true)
    (cs_NoPlan_place : xsIn K c_NoPlan "place" = true)
    (ca_NoThrow : PySem.W.nsIn K mainGlobals "NoThrow" = some (some (.ref c_NoThrow))) (cb_NoThrow : PySem.W.keepIn K (.ref c_NoThrow) = true) (cc_NoThrow : xcIn K c_NoThrow = true)
    (cf_NoThrow : PySem.W.findIn K (.ref c_NoThrow) "__init__" = some (some (.ref i_NoThrow))) (cx_NoThrow : xIn K c_NoThrow (some (.ref i_NoThrow)) = true) (cg_NoThrow : PySem.W.isFn K (.ref i_NoThrow) = true)
    (cl_NoThrow : K.lookup i_NoThrow = some ⟨oc_NoThrow, od_NoThrow, .func (PySem.W.fnOf "__init__" "NoThrow.__init__" (defArgs s_NoThrow___init__) (defBody s_NoThrow___init__) (defScope s_NoThrow___init__) .none kV_NoThrow dc_NoThrow pm_NoThrow an_NoThrow cd_NoThrow ct_NoThrow), sl_NoThrow⟩) (co_NoThrow : PySem.W.codeIn K cd_NoThrow "NoThrow.__init__" = true) (ck_NoThrow : PySem.W.keepIn K (.ref i_NoThrow) = true)
    (cs_NoThrow_place : xsIn K c_NoThrow "place" = true)
    (ca_Node : PySem.W.nsIn K mainGlobals "Node" = some (some (.ref c_Node))) (pa_Node : PySem.W.plainGet K c_Node Str.empty = true) (pb_Node : PySem.W.hasDictIn K c_Node = true) (pc_Node : PySem.W.plainOver K c_Node = true)
    (pd_Node : PySem.W.findIn K (.ref c_Node) "__setattr__" = some (some (.builtin "object.__setattr__"))) (pe_Node : PySem.W.findIn K (.ref c_Node) "__class__" = some (some (.builtin "object.__class__"))) (pf_Node : PySem.W.specialIn K (.builtin "object.__class__") "__get__" = some (some (.builtin "getset_descriptor.__get__"))) (pg_Node : PySem.W.takesIn K (.builtin "object.__class__") = some true) (ph_Node : PySem.W.mroIn K c_Node (.type "object") = some true)
    (ca_Told : PySem.W.nsIn K mainGlobals "Told" = some (some (.ref c_Told))) (pa_Told : PySem.W.plainGet K c_Told Str.empty = true) (pb_Told : PySem.W.hasDictIn K c_Told = true) (pc_Told : PySem.W.plainOver K c_Told = true)
    (pd_Told : PySem.W.findIn K (.ref c_Told) "__setattr__" = some (some (.builtin "object.__setattr__"))) (pe_Told : PySem.W.findIn K (.ref c_Told) "__class__" = some (some (.builtin "object.__class__"))) (pf_Told : PySem.W.specialIn K (.builtin "object.__class__") "__get__" = some (some (.builtin "getset_descriptor.__get__"))) (pg_Told : PySem.W.takesIn K (.builtin "object.__class__") = some true) (ph_Told : PySem.W.mroIn K c_Told (.type "object") = some true)
    (qa_Told : PySem.W.makesIn K c_Told = true) (qb_Told : PySem.W.findIn K (.ref c_Told) "__init__" = some (some (.ref i_Told))) (qc_Told : PySem.W.isFn K (.ref i_Told) = true) (qd_Told : PySem.W.keepIn K (.ref c_Told) = true)
    (qn_Told_rising : PySem.W.findIn K (.ref c_Told) "rising" = some none)
    (cl_Told : K.lookup i_Told = some ⟨oc_Told, od_Told, .func (PySem.W.fnOf "__init__" "Told.__init__" (defArgs s_Told___init__) (defBody s_Told___init__) (defScope s_Told___init__) .none kV_Told dc_Told pm_Told an_Told cd_Told ct_Told), sl_Told⟩) (co_Told : PySem.W.codeIn K cd_Told "Told.__init__" = true) (ck_Told : PySem.W.keepIn K (.ref i_Told) = true)
    (ca_Die : PySem.W.nsIn K mainGlobals "Die" = some (some (.ref c_Die))) (pa_Die : PySem.W.plainGet K c_Die Str.empty = true) (pb_Die : PySem.W.hasDictIn K c_Die = true) (pc_Die : PySem.W.plainOver K c_Die = true)
    (pd_Die : PySem.W.findIn K (.ref c_Die) "__setattr__" = some (some (.builtin "object.__setattr__"))) (pe_Die : PySem.W.findIn K (.ref c_Die) "__class__" = some (some (.builtin "object.__class__"))) (pf_Die : PySem.W.specialIn K (.builtin "object.__class__") "__get__" = some (some (.builtin "getset_descriptor.__get__"))) (pg_Die : PySem.W.takesIn K (.builtin "object.__class__") = some true) (ph_Die : PySem.W.mroIn K c_Die (.type "object") = some true)
    (qa_Die : PySem.W.makesIn K c_Die = true) (qb_Die : PySem.W.findIn K (.ref c_Die) "__init__" = some (some (.ref i_Die))) (qc_Die : PySem.W.isFn K (.ref i_Die) = true) (qd_Die : PySem.W.keepIn K (.ref c_Die) = true)
    (qn_Die_makes : PySem.W.findIn K (.ref c_Die) "makes" = some none)
    (cl_Die : K.lookup i_Die = some ⟨oc_Die, od_Die, .func (PySem.W.fnOf "__init__" "Die.__init__" (defArgs s_Die___init__) (defBody s_Die___init__) (defScope s_Die___init__) .none kV_Die dc_Die pm_Die an_Die cd_Die ct_Die), sl_Die⟩) (co_Die : PySem.W.codeIn K cd_Die "Die.__init__" = true) (ck_Die : PySem.W.keepIn K (.ref i_Die) = true)
    (ca_Plan : PySem.W.nsIn K mainGlobals "Plan" = some (some (.ref c_Plan))) (pa_Plan : PySem.W.plainGet K c_Plan Str.empty = true) (pb_Plan : PySem.W.hasDictIn K c_Plan = true) (pc_Plan : PySem.W.plainOver K c_Plan = true)
    (pd_Plan : PySem.W.findIn K (.ref c_Plan) "__setattr__" = some (some (.builtin "object.__setattr__"))) (pe_Plan : PySem.W.findIn K (.ref c_Plan) "__class__" = some (some (.builtin "object.__class__"))) (pf_Plan : PySem.W.specialIn K (.builtin "object.__class__") "__get__" = some (some (.builtin "getset_descriptor.__get__"))) (pg_Plan : PySem.W.takesIn K (.builtin "object.__class__") = some true) (ph_Plan : PySem.W.mroIn K c_Plan (.type "object") = some true)
    (ca_Few : PySem.W.nsIn K mainGlobals "Few" = some (some (.ref c_Few))) (pa_Few : PySem.W.plainGet K c_Few Str.empty = true) (pb_Few : PySem.W.hasDictIn K c_Few = true) (pc_Few : PySem.W.plainOver K c_Few = true)
    (pd_Few : PySem.W.findIn K (.ref c_Few) "__setattr__" = some (some (.builtin "object.__setattr__"))) (pe_Few : PySem.W.findIn K (.ref c_Few) "__class__" = some (some (.builtin "object.__class__"))) (pf_Few : PySem.W.specialIn K (.builtin "object.__class__") "__get__" = some (some (.builtin "getset_descriptor.__get__"))) (pg_Few : PySem.W.takesIn K (.builtin "object.__class__") = some true) (ph_Few : PySem.W.mroIn K c_Few (.type "object") = some true)
    (qa_Few : PySem.W.makesIn K c_Few = true) (qb_Few : PySem.W.findIn K (.ref c_Few) "__init__" = some (some (.ref i_Few))) (qc_Few : PySem.W.isFn K (.ref i_Few) = true) (qd_Few : PySem.W.keepIn K (.ref c_Few) = true)
    (qn_Few_many : PySem.W.findIn K (.ref c_Few) "many" = some none)
    (cl_Few : K.lookup i_Few = some ⟨oc_Few, od_Few, .func (PySem.W.fnOf "__init__" "Few.__init__" (defArgs s_Few___init__) (defBody s_Few___init__) (defScope s_Few___init__) .none kV_Few dc_Few pm_Few an_Few cd_Few ct_Few), sl_Few⟩) (co_Few : PySem.W.codeIn K cd_Few "Few.__init__" = true) (ck_Few : PySem.W.keepIn K (.ref i_Few) = true)
    (mf_Told_is_told : PySem.W.findIn K (.ref c_Told) "is_told" = some (some (.ref x_Told_is_told)))
    (ml_Told_is_told : K.lookup x_Told_is_told = some ⟨oc_Told_is_told, od_Told_is_told, .func (PySem.W.fnOf "is_told" "Told.is_told" (defArgs s_Told_is_told) (defBody s_Told_is_told) (defScope s_Told_is_told) .none kV_Told_is_told dc_Told_is_told pm_Told_is_told an_Told_is_told cd_Told_is_told ct_Told_is_told), sl_Told_is_told⟩) (mo_Told_is_told : PySem.W.codeIn K cd_Told_is_told "Told.is_told" = true) (mk_Told_is_told : PySem.W.keepIn K (.ref x_Told_is_told) = true) (mi_Told_is_told : PySem.W.isFn K (.ref x_Told_is_told) = true)
    (mf_Die_is_told : PySem.W.findIn K (.ref c_Die) "is_told" = some (some (.ref x_Die_is_told)))
    (ml_Die_is_told : K.lookup x_Die_is_told = some ⟨oc_Die_is_told, od_Die_is_told, .func (PySem.W.fnOf "is_told" "Die.is_told" (defArgs s_Die_is_told) (defBody s_Die_is_told) (defScope s_Die_is_told) .none kV_Die_is_told dc_Die_is_told pm_Die_is_told an_Die_is_told cd_Die_is_told ct_Die_is_told), sl_Die_is_told⟩) (mo_Die_is_told : PySem.W.codeIn K cd_Die_is_told "Die.is_told" = true) (mk_Die_is_told : PySem.W.keepIn K (.ref x_Die_is_told) = true) (mi_Die_is_told : PySem.W.isFn K (.ref x_Die_is_told) = true)
    (mf_Told_kept : PySem.W.findIn K (.ref c_Told) "kept" = some (some (.ref x_Told_kept)))
    (ml_Told_kept : K.lookup x_Told_kept = some ⟨oc_Told_kept, od_Told_kept, .func (PySem.W.fnOf "kept" "Told.kept" (defArgs s_Told_kept) (defBody s_Told_kept) (defScope s_Told_kept) .none kV_Told_kept dc_Told_kept pm_Told_kept an_Told_kept cd_Told_kept ct_Told_kept), sl_Told_kept⟩) (mo_Told_kept : PySem.W.codeIn K cd_Told_kept "Told.kept" = true) (mk_Told_kept : PySem.W.keepIn K (.ref x_Told_kept) = true) (mi_Told_kept : PySem.W.isFn K (.ref x_Told_kept) = true)
    (mf_Die_kept : PySem.W.findIn K (.ref c_Die) "kept" = some (some (.ref x_Die_kept)))
    (ml_Die_kept : K.lookup x_Die_kept = some ⟨oc_Die_kept, od_Die_kept, .func (PySem.W.fnOf "kept" "Die.kept" (defArgs s_Die_kept) (defBody s_Die_kept) (defScope s_Die_kept) .none kV_Die_kept dc_Die_kept pm_Die_kept an_Die_kept cd_Die_kept ct_Die_kept), sl_Die_kept⟩) (mo_Die_kept : PySem.W.codeIn K cd_Die_kept "Die.kept" = true) (mk_Die_kept : PySem.W.keepIn K (.ref x_Die_kept) = true) (mi_Die_kept : PySem.W.isFn K (.ref x_Die_kept) = true)
    (mf_Told_sides : PySem.W.findIn K (.ref c_Told) "sides" = some (some (.ref x_Told_sides)))
    (ml_Told_sides : K.lookup x_Told_sides = some ⟨oc_Told_sides, od_Told_sides, .func (PySem.W.fnOf "sides" "Told.sides" (defArgs s_Told_sides) (defBody s_Told_sides) (defScope s_Told_sides) .none kV_Told_sides dc_Told_sides pm_Told_sides an_Told_sides cd_Told_sides ct_Told_sides), sl_Told_sides⟩) (mo_Told_sides : PySem.W.codeIn K cd_Told_sides "Told.sides" = true) (mk_Told_sides : PySem.W.keepIn K (.ref x_Told_sides) = true) (mi_Told_sides : PySem.W.isFn K (.ref x_Told_sides) = true)
    (mf_Die_sides : PySem.W.findIn K (.ref c_Die) "sides" = some (some (.ref x_Die_sides)))
    (ml_Die_sides : K.lookup x_Die_sides = some ⟨oc_Die_sides, od_Die_sides, .func (PySem.W.fnOf "sides" "Die.sides" (defArgs s_Die_sides) (defBody s_Die_sides) (defScope s_Die_sides) .none kV_Die_sides dc_Die_sides pm_Die_sides an_Die_sides cd_Die_sides ct_Die_sides), sl_Die_sides⟩) (mo_Die_sides : PySem.W.codeIn K cd_Die_sides "Die.sides" = true) (mk_Die_sides : PySem.W.keepIn K (.ref x_Die_sides) = true) (mi_Die_sides : PySem.W.isFn K (.ref x_Die_sides) = true)
    (mf_Told_parts : PySem.W.findIn K (.ref c_Told) "parts" = some (some (.ref x_Told_parts)))
    (ml_Told_parts : K.lookup x_Told_parts = some ⟨oc_Told_parts, od_Told_parts, .func (PySem.W.fnOf "parts" "Told.parts" (defArgs s_Told_parts) (defBody s_Told_parts) (defScope s_Told_parts) .none kV_Told_parts dc_Told_parts pm_Told_parts an_Told_parts cd_Told_parts ct_Told_parts), sl_Told_parts⟩) (mo_Told_parts : PySem.W.codeIn K cd_Told_parts "Told.parts" = true) (mk_Told_parts : PySem.W.keepIn K (.ref x_Told_parts) = true) (mi_Told_parts : PySem.W.isFn K (.ref x_Told_parts) = true)
    (mf_Die_parts : PySem.W.findIn K (.ref c_Die) "parts" = some (some (.ref x_Die_parts)))
    (ml_Die_parts : K.lookup x_Die_parts = some ⟨oc_Die_parts, od_Die_parts, .func (PySem.W.fnOf "parts" "Die.parts" (defArgs s_Die_parts) (defBody s_Die_parts) (defScope s_Die_parts) .none kV_Die_parts dc_Die_parts pm_Die_parts an_Die_parts cd_Die_parts ct_Die_parts), sl_Die_parts⟩) (mo_Die_parts : PySem.W.codeIn K cd_Die_parts "Die.parts" = true) (mk_Die_parts : PySem.W.keepIn K (.ref x_Die_parts) = true) (mi_Die_parts : PySem.W.isFn K (.ref x_Die_parts) = true)
    (mf_Die_after : PySem.W.findIn K (.ref c_Die) "after" = some (some (.ref x_Die_after)))
    (ml_Die_after : K.lookup x_Die_after = some ⟨oc_Die_after, od_Die_after, .func (PySem.W.fnOf "after" "Die.after" (defArgs s_Die_after) (defBody s_Die_after) (defScope s_Die_after) .none kV_Die_after dc_Die_after pm_Die_after an_Die_after cd_Die_after ct_Die_after), sl_Die_after⟩) (mo_Die_after : PySem.W.codeIn K cd_Die_after "Die.after" = true) (mk_Die_after : PySem.W.keepIn K (.ref x_Die_after) = true) (mi_Die_after : PySem.W.isFn K (.ref x_Die_after) = true)
    (mf_Few_node : PySem.W.findIn K (.ref c_Few) "node" = some (some (.ref x_Few_node)))
    (ml_Few_node : K.lookup x_Few_node = some ⟨oc_Few_node, od_Few_node, .func (PySem.W.fnOf "node" "Few.node" (defArgs s_Few_node) (defBody s_Few_node) (defScope s_Few_node) .none kV_Few_node dc_Few_node pm_Few_node an_Few_node cd_Few_node ct_Few_node), sl_Few_node⟩) (mo_Few_node : PySem.W.codeIn K cd_Few_node "Few.node" = true) (mk_Few_node : PySem.W.keepIn K (.ref x_Few_node) = true) (mi_Few_node : PySem.W.isFn K (.ref x_Few_node) = true)
    (mf_Few_matrix : PySem.W.findIn K (.ref c_Few) "matrix" = some (some (.ref x_Few_matrix)))
    (ml_Few_matrix : K.lookup x_Few_matrix = some ⟨oc_Few_matrix, od_Few_matrix, .func (PySem.W.fnOf "matrix" "Few.matrix" (defArgs s_Few_matrix) (defBody s_Few_matrix) (defScope s_Few_matrix) .none kV_Few_matrix dc_Few_matrix pm_Few_matrix an_Few_matrix cd_Few_matrix ct_Few_matrix), sl_Few_matrix⟩) (mo_Few_matrix : PySem.W.codeIn K cd_Few_matrix "Few.matrix" = true) (mk_Few_matrix : PySem.W.keepIn K (.ref x_Few_matrix) = true) (mi_Few_matrix : PySem.W.isFn K (.ref x_Few_matrix) = true)
    (mf_Few_bounds : PySem.W.findIn K (.ref c_Few) "bounds" = some (some (.ref x_Few_bounds)))
    (ml_Few_bounds : K.lookup x_Few_bounds = some ⟨oc_Few_bounds, od_Few_bounds, .func (PySem.W.fnOf "bounds" "Few.bounds" (defArgs s_Few_bounds) (defBody s_Few_bounds) (defScope s_Few_bounds) .none kV_Few_bounds dc_Few_bounds pm_Few_bounds an_Few_bounds cd_Few_bounds ct_Few_bounds), sl_Few_bounds⟩) (mo_Few_bounds : PySem.W.codeIn K cd_Few_bounds "Few.bounds" = true) (mk_Few_bounds : PySem.W.keepIn K (.ref x_Few_bounds) = true) (mi_Few_bounds : PySem.W.isFn K (.ref x_Few_bounds) = true)
    (mf_Few_text : PySem.W.findIn K (.ref c_Few) "text" = some (some (.ref x_Few_text)))
    (ml_Few_text : K.lookup x_Few_text = some ⟨oc_Few_text, od_Few_text, .func (PySem.W.fnOf "text" "Few.text" (defArgs s_Few_text) (defBody s_Few_text) (defScope s_Few_text) .none kV_Few_text dc_Few_text pm_Few_text an_Few_text cd_Few_text ct_Few_text), sl_Few_text⟩) (mo_Few_text : PySem.W.codeIn K cd_Few_text "Few.text" = true) (mk_Few_text : PySem.W.keepIn K (.ref x_Few_text) = true) (mi_Few_text : PySem.W.isFn K (.ref x_Few_text) = true)
    (lca_Few_matrix : cd_Few_matrix = .ref lc_Few_matrix) (lct_Few_matrix : K.lookup lc_Few_matrix = some ⟨lo_Few_matrix, lod_Few_matrix, .fields lvs_Few_matrix, lsl_Few_matrix⟩) (lcq_Few_matrix : lvs_Few_matrix[11]? = some (.ref lp_Few_matrix)) (lch_Few_matrix : PySem.W.codeHdIn K lc_Few_matrix lp_Few_matrix = true)
    (lca_few_node : cd9 = .ref lc_few_node) (lct_few_node : K.lookup lc_few_node = some ⟨lo_few_node, lod_few_node, .fields lvs_few_node, lsl_few_node⟩) (lcq_few_node : lvs_few_node[11]? = some (.ref lp_few_node)) (lch_few_node : PySem.W.codeHdIn K lc_few_node lp_few_node = true)
    (ltnd : ([lp_Few_matrix, lp_few_node] : List Addr).Nodup)
    (z0 : PySem.W.nsIn K mainGlobals "abs" = some none)
    (z1 : PySem.W.nsIn K mainGlobals "bool" = some none)
    (z2 : PySem.W.nsIn K mainGlobals "enumerate" = some none)
    (z3 : PySem.W.nsIn K mainGlobals "int" = some none)
    (z4 : PySem.W.nsIn K mainGlobals "isinstance" = some none)
    (z5 : PySem.W.nsIn K mainGlobals "len" = some none)
    (z6 : PySem.W.nsIn K mainGlobals "list" = some none)
    (z7 : PySem.W.nsIn K mainGlobals "max" = some none)
    (z8 : PySem.W.nsIn K mainGlobals "min" = some none)
    (z9 : PySem.W.nsIn K mainGlobals "range" = some none)
    (z10 : PySem.W.nsIn K mainGlobals "sorted" = some none)
    (z11 : PySem.W.nsIn K mainGlobals "str" = some none)
    (z12 : PySem.W.nsIn K mainGlobals "sum" = some none)
    (z13 : PySem.W.nsIn K mainGlobals "tuple" = some none)
    (z14 : PySem.W.nsIn K mainGlobals "zip" = some none) (r0 : RelV (.int 24) u0) : ∃ a : Ad, Txt K mg a ∧ (tabs a).map (·.1) = [lp_Few_matrix, lp_few_node] := by
  refine ⟨{ f_greatest_divisor := f0, d_greatest_divisor := PySem.W.fnOf "greatest_divisor" "greatest_divisor" (defArgs s_greatest_divisor) (defBody s_greatest_divisor) (defScope s_greatest_divisor) .none kV0 dc0 pm0 an0 cd0 ct0, f_share := f1, d_share := PySem.W.fnOf "share" "share" (defArgs s_share) (defBody s_share) (defScope s_share) .none kV1 dc1 pm1 an1 cd1 ct1, f_is_whole := f2, d_is_whole := PySem.W.fnOf "is_whole" "is_whole" (defArgs s_is_whole) (defBody s_is_whole) (defScope s_is_whole) .none kV2 dc2 pm2 an2 cd2 ct2, f_can_be_thrown := f3, d_can_be_thrown := PySem.W.fnOf "can_be_thrown" "can_be_thrown" (defArgs s_can_be_thrown) (defBody s_can_be_thrown) (defScope s_can_be_thrown) .none kV3 dc3 pm3 an3 cd3 ct3, f_drawn := f4, d_drawn := PySem.W.fnOf "drawn" "drawn" (defArgs s_drawn) (defBody s_drawn) (defScope s_drawn) .none kV4 dc4 pm4 an4 cd4 ct4, f_places_of := f5, d_places_of := PySem.W.fnOf "places_of" "places_of" (defArgs s_places_of) (defBody s_places_of) (defScope s_places_of) .none kV5 dc5 pm5 an5 cd5 ct5, f_matrix_by := f6, d_matrix_by := PySem.W.fnOf "matrix_by" "matrix_by" (defArgs s_matrix_by) (defBody s_matrix_by) (defScope s_matrix_by) .none kV6 dc6 pm6 an6 cd6 ct6, f_matrix_row := f7, d_matrix_row := PySem.W.fnOf "matrix_row" "matrix_row" (defArgs s_matrix_row) (defBody s_matrix_row) (defScope s_matrix_row) .none kV7 dc7 pm7 an7 cd7 ct7, f_need_number := f8, d_need_number := PySem.W.fnOf "need_number" "need_number" (defArgs s_need_number) (defBody s_need_number) (defScope s_need_number) .none kV8 dc8 pm8 an8 cd8 ct8, f_few_node := f9, d_few_node := PySem.W.fnOf "few_node" "few_node" (defArgs s_few_node) (defBody s_few_node) (defScope s_few_node) .none kV9 dc9 pm9 an9 cd9 ct9, f_few_chance := f10, d_few_chance := PySem.W.fnOf "few_chance" "few_chance" (defArgs s_few_chance) (defBody s_few_chance) (defScope s_few_chance) .none kV10 dc10 pm10 an10 cd10 ct10, f_L_cell := f11, d_L_cell := PySem.W.fnOf "_law_cell" "_law_cell" (defArgs s_L_cell) (defBody s_L_cell) (defScope s_L_cell) .none kV11 dc11 pm11 an11 cd11 ct11, f_L_mix := f12, d_L_mix := PySem.W.fnOf "_law_mix" "_law_mix" (defArgs s_L_mix) (defBody s_L_mix) (defScope s_L_mix) .none kV12 dc12 pm12 an12 cd12 ct12, f_L_row := f13, d_L_row := PySem.W.fnOf "_law_row" "_law_row" (defArgs s_L_row) (defBody s_L_row) (defScope s_L_row) .none kV13 dc13 pm13 an13 cd13 ct13, f_L_whole := f14, d_L_whole := PySem.W.fnOf "_law_whole" "_law_whole" (defArgs s_L_whole) (defBody s_L_whole) (defScope s_L_whole) .none kV14 dc14 pm14 an14 cd14 ct14, f_L_low := f15, d_L_low := PySem.W.fnOf "_law_low" "_law_low" (defArgs s_L_low) (defBody s_L_low) (defScope s_L_low) .none kV15 dc15 pm15 an15 cd15 ct15, f_L_fraction := f16, d_L_fraction := PySem.W.fnOf "_law_fraction" "_law_fraction" (defArgs s_L_fraction) (defBody s_L_fraction) (defScope s_L_fraction) .none kV16 dc16 pm16 an16 cd16 ct16, f_L_matrix := f17, d_L_matrix := PySem.W.fnOf "_law_matrix" "_law_matrix" (defArgs s_L_matrix) (defBody s_L_matrix) (defScope s_L_matrix) .none kV17 dc17 pm17 an17 cd17 ct17, f_L_crowd := f18, d_L_crowd := PySem.W.fnOf "_law_crowd" "_law_crowd" (defArgs s_L_crowd) (defBody s_L_crowd) (defScope s_L_crowd) .none kV18 dc18 pm18 an18 cd18 ct18, f_L_thrown := f19, d_L_thrown := PySem.W.fnOf "_law_thrown" "_law_thrown" (defArgs s_L_thrown) (defBody s_L_thrown) (defScope s_L_thrown) .none kV19 dc19 pm19 an19 cd19 ct19, f_L_few := f20, d_L_few := PySem.W.fnOf "_law_few" "_law_few" (defArgs s_L_few) (defBody s_L_few) (defScope s_L_few) .none kV20 dc20 pm20 an20 cd20 ct20, f_L_counts := f21, d_L_counts := PySem.W.fnOf "_law_counts" "_law_counts" (defArgs s_L_counts) (defBody s_L_counts) (defScope s_L_counts) .none kV21 dc21 pm21 an21 cd21 ct21, f_law := f22, d_law := PySem.W.fnOf "law" "law" (defArgs s_law) (defBody s_law) (defScope s_law) .none kV22 dc22 pm22 an22 cd22 ct22, c_SpeakError := c_SpeakError, c_NoPlan := c_NoPlan, i_NoPlan := i_NoPlan, e_NoPlan := PySem.W.fnOf "__init__" "NoPlan.__init__" (defArgs s_NoPlan___init__) (defBody s_NoPlan___init__) (defScope s_NoPlan___init__) .none kV_NoPlan dc_NoPlan pm_NoPlan an_NoPlan cd_NoPlan ct_NoPlan, c_NoThrow := c_NoThrow, i_NoThrow := i_NoThrow, e_NoThrow := PySem.W.fnOf "__init__" "NoThrow.__init__" (defArgs s_NoThrow___init__) (defBody s_NoThrow___init__) (defScope s_NoThrow___init__) .none kV_NoThrow dc_NoThrow pm_NoThrow an_NoThrow cd_NoThrow ct_NoThrow, c_Node := c_Node, c_Told := c_Told, i_Told := i_Told, e_Told := PySem.W.fnOf "__init__" "Told.__init__" (defArgs s_Told___init__) (defBody s_Told___init__) (defScope s_Told___init__) .none kV_Told dc_Told pm_Told an_Told cd_Told ct_Told, c_Die := c_Die, i_Die := i_Die, e_Die := PySem.W.fnOf "__init__" "Die.__init__" (defArgs s_Die___init__) (defBody s_Die___init__) (defScope s_Die___init__) .none kV_Die dc_Die pm_Die an_Die cd_Die ct_Die, c_Plan := c_Plan, c_Few := c_Few, i_Few := i_Few, e_Few := PySem.W.fnOf "__init__" "Few.__init__" (defArgs s_Few___init__) (defBody s_Few___init__) (defScope s_Few___init__) .none kV_Few dc_Few pm_Few an_Few cd_Few ct_Few, x_Told_is_told := x_Told_is_told, y_Told_is_told := PySem.W.fnOf "is_told" "Told.is_told" (defArgs s_Told_is_told) (defBody s_Told_is_told) (defScope s_Told_is_told) .none kV_Told_is_told dc_Told_is_told pm_Told_is_told an_Told_is_told cd_Told_is_told ct_Told_is_told, x_Die_is_told := x_Die_is_told, y_Die_is_told := PySem.W.fnOf "is_told" "Die.is_told" (defArgs s_Die_is_told) (defBody s_Die_is_told) (defScope s_Die_is_told) .none kV_Die_is_told dc_Die_is_told pm_Die_is_told an_Die_is_told cd_Die_is_told ct_Die_is_told, x_Told_kept := x_Told_kept, y_Told_kept := PySem.W.fnOf "kept" "Told.kept" (defArgs s_Told_kept) (defBody s_Told_kept) (defScope s_Told_kept) .none kV_Told_kept dc_Told_kept pm_Told_kept an_Told_kept cd_Told_kept ct_Told_kept, x_Die_kept := x_Die_kept, y_Die_kept := PySem.W.fnOf "kept" "Die.kept" (defArgs s_Die_kept) (defBody s_Die_kept) (defScope s_Die_kept) .none kV_Die_kept dc_Die_kept pm_Die_kept an_Die_kept cd_Die_kept ct_Die_kept, x_Told_sides := x_Told_sides, y_Told_sides := PySem.W.fnOf "sides" "Told.sides" (defArgs s_Told_sides) (defBody s_Told_sides) (defScope s_Told_sides) .none kV_Told_sides dc_Told_sides pm_Told_sides an_Told_sides cd_Told_sides ct_Told_sides, x_Die_sides := x_Die_sides, y_Die_sides := PySem.W.fnOf "sides" "Die.sides" (defArgs s_Die_sides) (defBody s_Die_sides) (defScope s_Die_sides) .none kV_Die_sides dc_Die_sides pm_Die_sides an_Die_sides cd_Die_sides ct_Die_sides, x_Told_parts := x_Told_parts, y_Told_parts := PySem.W.fnOf "parts" "Told.parts" (defArgs s_Told_parts) (defBody s_Told_parts) (defScope s_Told_parts) .none kV_Told_parts dc_Told_parts pm_Told_parts an_Told_parts cd_Told_parts ct_Told_parts, x_Die_parts := x_Die_parts, y_Die_parts := PySem.W.fnOf "parts" "Die.parts" (defArgs s_Die_parts) (defBody s_Die_parts) (defScope s_Die_parts) .none kV_Die_parts dc_Die_parts pm_Die_parts an_Die_parts cd_Die_parts ct_Die_parts, x_Die_after := x_Die_after, y_Die_after := PySem.W.fnOf "after" "Die.after" (defArgs s_Die_after) (defBody s_Die_after) (defScope s_Die_after) .none kV_Die_after dc_Die_after pm_Die_after an_Die_after cd_Die_after ct_Die_after, x_Few_node := x_Few_node, y_Few_node := PySem.W.fnOf "node" "Few.node" (defArgs s_Few_node) (defBody s_Few_node) (defScope s_Few_node) .none kV_Few_node dc_Few_node pm_Few_node an_Few_node cd_Few_node ct_Few_node, x_Few_matrix := x_Few_matrix, y_Few_matrix := PySem.W.fnOf "matrix" "Few.matrix" (defArgs s_Few_matrix) (defBody s_Few_matrix) (defScope s_Few_matrix) .none kV_Few_matrix dc_Few_matrix pm_Few_matrix an_Few_matrix cd_Few_matrix ct_Few_matrix, x_Few_bounds := x_Few_bounds, y_Few_bounds := PySem.W.fnOf "bounds" "Few.bounds" (defArgs s_Few_bounds) (defBody s_Few_bounds) (defScope s_Few_bounds) .none kV_Few_bounds dc_Few_bounds pm_Few_bounds an_Few_bounds cd_Few_bounds ct_Few_bounds, x_Few_text := x_Few_text, y_Few_text := PySem.W.fnOf "text" "Few.text" (defArgs s_Few_text) (defBody s_Few_text) (defScope s_Few_text) .none kV_Few_text dc_Few_text pm_Few_text an_Few_text cd_Few_text ct_Few_text, lc_Few_matrix := lc_Few_matrix, lp_Few_matrix := lp_Few_matrix, lc_few_node := lc_few_node, lp_few_node := lp_few_node }, ?_, rfl⟩
  exact {
    lcd_Few_matrix := lca_Few_matrix
    lch_Few_matrix := lch_Few_matrix
    lcd_few_node := lca_few_node
    lch_few_node := lch_few_node
    tnd := ltnd
    F_greatest_divisor := fun_mk (st := s_greatest_divisor) l0 c0 k0
    B_greatest_divisor := (fun_mk (st := s_greatest_divisor) l0 c0 k0).binds (ps := ["one", "other"]) fun _ _ _ _ _ _ us hl => (by obtain ⟨_, _, rfl⟩ := us2 hl; rfl)
    m_greatest_divisor := PySem.W.mg_of X G a0
    F_share := fun_mk (st := s_share) l1 c1 k1
    B_share := (fun_mk (st := s_share) l1 c1 k1).binds (ps := ["top", "bottom"]) fun _ _ _ _ _ _ us hl => (by obtain ⟨_, _, rfl⟩ := us2 hl; rfl)
    m_share := PySem.W.mg_of X G a1
    F_is_whole := fun_mk (st := s_is_whole) l2 c2 k2
    B_is_whole := (fun_mk (st := s_is_whole) l2 c2 k2).binds (ps := ["thing", "low", "high"]) fun _ _ _ _ _ _ us hl => (by obtain ⟨_, _, _, rfl⟩ := us3 hl; rfl)
    m_is_whole := PySem.W.mg_of X G a2
    F_can_be_thrown := fun_mk (st := s_can_be_thrown) l3 c3 k3
    B_can_be_thrown := (fun_mk (st := s_can_be_thrown) l3 c3 k3).binds (ps := ["node", "throw"]) fun _ _ _ _ _ _ us hl => (by obtain ⟨_, _, rfl⟩ := us2 hl; rfl)
    m_can_be_thrown := PySem.W.mg_of X G a3
    F_drawn := fun_mk (st := s_drawn) l4 c4 k4
    B_drawn := (fun_mk (st := s_drawn) l4 c4 k4).binds (ps := ["node", "throws"]) fun _ _ _ _ _ _ us hl => (by obtain ⟨_, _, rfl⟩ := us2 hl; rfl)
    m_drawn := PySem.W.mg_of X G a4
    F_places_of := fun_mk (st := s_places_of) l5 c5 k5
    B_places_of := (fun_mk (st := s_places_of) l5 c5 k5).binds (ps := ["crowd"]) fun _ _ _ _ _ _ us hl => (by obtain ⟨_, rfl⟩ := us1 hl; rfl)
    m_places_of := PySem.W.mg_of X G a5
    F_matrix_by := fun_mk (st := s_matrix_by) l6 c6 k6
    B_matrix_by := (fun_mk (st := s_matrix_by) l6 c6 k6).binds (ps := ["many", "tell"]) fun _ _ _ _ _ _ us hl => (by obtain ⟨_, _, rfl⟩ := us2 hl; rfl)
    m_matrix_by := PySem.W.mg_of X G a6
    F_matrix_row := fun_mk (st := s_matrix_row) l7 c7 k7
    B_matrix_row := (fun_mk (st := s_matrix_row) l7 c7 k7).binds (ps := ["one", "many", "tell"]) fun _ _ _ _ _ _ us hl => (by obtain ⟨_, _, _, rfl⟩ := us3 hl; rfl)
    m_matrix_row := PySem.W.mg_of X G a7
    F_need_number := fun_mk (st := s_need_number) l8 c8 k8
    B_need_number := (fun_mk (st := s_need_number) l8 c8 k8).binds (ps := ["thing", "low", "high"]) fun _ _ _ _ _ _ us hl => (by obtain ⟨_, _, _, rfl⟩ := us3 hl; rfl)
    m_need_number := PySem.W.mg_of X G a8
    F_few_node := fun_mk (st := s_few_node) l9 c9 k9
    B_few_node := (fun_mk (st := s_few_node) l9 c9 k9).binds (ps := ["ahead", "wanted", "taken"]) fun _ _ _ _ _ _ us hl => (by obtain ⟨_, _, _, rfl⟩ := us3 hl; rfl)
    m_few_node := PySem.W.mg_of X G a9
    F_few_chance := fun_mk (st := s_few_chance) l10 c10 k10
    B_few_chance := (fun_mk (st := s_few_chance) l10 c10 k10).binds (ps := ["there", "wanted", "is_same"]) fun _ _ _ _ _ _ us hl => (by obtain ⟨_, _, _, rfl⟩ := us3 hl; rfl)
    m_few_chance := PySem.W.mg_of X G a10
    F_L_cell := fun_mk (st := s_L_cell) l11 c11 k11
    B_L_cell := (fun_mk (st := s_L_cell) l11 c11 k11).binds (ps := ["_law_script", "_law_k"]) fun _ _ _ _ _ _ us hl => (by obtain ⟨_, _, rfl⟩ := us2 hl; rfl)
    m_L_cell := PySem.W.mg_of X G a11
    F_L_mix := fun_mk (st := s_L_mix) l12 c12 k12
    B_L_mix := (fun_mk (st := s_L_mix) l12 c12 k12).binds (ps := ["_law_cell_here", "_law_k"]) fun _ _ _ _ _ _ us hl => (by obtain ⟨_, _, rfl⟩ := us2 hl; rfl)
    m_L_mix := PySem.W.mg_of X G a12
    F_L_row := fun_mk (st := s_L_row) l13 c13 k13
    B_L_row := (fun_mk (st := s_L_row) l13 c13 k13).binds (ps := ["_law_cell_here", "_law_bit", "_law_many", "_law_most"]) fun _ _ _ _ _ _ us hl => (by obtain ⟨_, _, _, _, rfl⟩ := us4 hl; rfl)
    m_L_row := PySem.W.mg_of X G a13
    F_L_whole := fun_mk (st := s_L_whole) l14 c14 k14
    B_L_whole := (fun_mk (st := s_L_whole) l14 c14 k14).binds (ps := ["_law_found"]) fun _ _ _ _ _ _ us hl => (by obtain ⟨_, rfl⟩ := us1 hl; rfl)
    m_L_whole := PySem.W.mg_of X G a14
    F_L_low := fun_mk (st := s_L_low) l15 c15 k15
    B_L_low := (fun_mk (st := s_L_low) l15 c15 k15).binds (ps := ["_law_top", "_law_bottom"]) fun _ _ _ _ _ _ us hl => (by obtain ⟨_, _, rfl⟩ := us2 hl; rfl)
    m_L_low := PySem.W.mg_of X G a15
    F_L_fraction := fun_mk (st := s_L_fraction) l16 c16 k16
    B_L_fraction := (fun_mk (st := s_L_fraction) l16 c16 k16).binds (ps := ["_law_found", "_law_due"]) fun _ _ _ _ _ _ us hl => (by obtain ⟨_, _, rfl⟩ := us2 hl; rfl)
    m_L_fraction := PySem.W.mg_of X G a16
    F_L_matrix := fun_mk (st := s_L_matrix) l17 c17 k17
    B_L_matrix := (fun_mk (st := s_L_matrix) l17 c17 k17).binds (ps := ["_law_found", "_law_due"]) fun _ _ _ _ _ _ us hl => (by obtain ⟨_, _, rfl⟩ := us2 hl; rfl)
    m_L_matrix := PySem.W.mg_of X G a17
    F_L_crowd := fun_mk (st := s_L_crowd) l18 c18 k18
    B_L_crowd := (fun_mk (st := s_L_crowd) l18 c18 k18).binds (ps := ["_law_script", "_law_start", "_law_most"]) fun _ _ _ _ _ _ us hl => (by obtain ⟨_, _, _, rfl⟩ := us3 hl; rfl)
    m_L_crowd := PySem.W.mg_of X G a18
    F_L_thrown := fun_mk (st := s_L_thrown) l19 c19 k19
    B_L_thrown := (fun_mk (st := s_L_thrown) l19 c19 k19).binds (ps := ["_law_node", "_law_rows", "_law_kept"]) fun _ _ _ _ _ _ us hl => (by obtain ⟨_, _, _, rfl⟩ := us3 hl; rfl)
    m_L_thrown := PySem.W.mg_of X G a19
    F_L_few := fun_mk (st := s_L_few) l20 c20 k20
    B_L_few := (fun_mk (st := s_L_few) l20 c20 k20).binds (ps := ["_law_places", "_law_many", "_law_throws"]) fun _ _ _ _ _ _ us hl => (by obtain ⟨_, _, _, rfl⟩ := us3 hl; rfl)
    m_L_few := PySem.W.mg_of X G a20
    F_L_counts := fun_mk (st := s_L_counts) l21 c21 k21
    B_L_counts := (fun_mk (st := s_L_counts) l21 c21 k21).binds (ps := ["_law_many", "_law_every"]) fun _ _ _ _ _ _ us hl => (by obtain ⟨_, _, rfl⟩ := us2 hl; rfl)
    m_L_counts := PySem.W.mg_of X G a21
    F_law := fun_mk (st := s_law) l22 c22 k22
    B_law := (fun_mk (st := s_law) l22 c22 k22).binds (ps := ["_law_script"]) fun _ _ _ _ _ _ us hl => (by obtain ⟨_, rfl⟩ := us1 hl; rfl)
    m_law := PySem.W.mg_of X G a22
    F_Told_is_told := fun_mk (st := s_Told_is_told) ml_Told_is_told mo_Told_is_told mk_Told_is_told
    B_Told_is_told := (fun_mk (st := s_Told_is_told) ml_Told_is_told mo_Told_is_told mk_Told_is_told).binds (ps := ["self"]) fun _ _ _ _ _ _ us hl => (by obtain ⟨_, rfl⟩ := us1 hl; rfl)
    F_Die_is_told := fun_mk (st := s_Die_is_told) ml_Die_is_told mo_Die_is_told mk_Die_is_told
    B_Die_is_told := (fun_mk (st := s_Die_is_told) ml_Die_is_told mo_Die_is_told mk_Die_is_told).binds (ps := ["self"]) fun _ _ _ _ _ _ us hl => (by obtain ⟨_, rfl⟩ := us1 hl; rfl)
    F_Told_kept := fun_mk (st := s_Told_kept) ml_Told_kept mo_Told_kept mk_Told_kept
    B_Told_kept := (fun_mk (st := s_Told_kept) ml_Told_kept mo_Told_kept mk_Told_kept).binds (ps := ["self"]) fun _ _ _ _ _ _ us hl => (by obtain ⟨_, rfl⟩ := us1 hl; rfl)
    F_Die_kept := fun_mk (st := s_Die_kept) ml_Die_kept mo_Die_kept mk_Die_kept
    B_Die_kept := (fun_mk (st := s_Die_kept) ml_Die_kept mo_Die_kept mk_Die_kept).binds (ps := ["self"]) fun _ _ _ _ _ _ us hl => (by obtain ⟨_, rfl⟩ := us1 hl; rfl)
    F_Told_sides := fun_mk (st := s_Told_sides) ml_Told_sides mo_Told_sides mk_Told_sides
    B_Told_sides := (fun_mk (st := s_Told_sides) ml_Told_sides mo_Told_sides mk_Told_sides).binds (ps := ["self"]) fun _ _ _ _ _ _ us hl => (by obtain ⟨_, rfl⟩ := us1 hl; rfl)
    F_Die_sides := fun_mk (st := s_Die_sides) ml_Die_sides mo_Die_sides mk_Die_sides
    B_Die_sides := (fun_mk (st := s_Die_sides) ml_Die_sides mo_Die_sides mk_Die_sides).binds (ps := ["self"]) fun _ _ _ _ _ _ us hl => (by obtain ⟨_, rfl⟩ := us1 hl; rfl)
    F_Told_parts := fun_mk (st := s_Told_parts) ml_Told_parts mo_Told_parts mk_Told_parts
    B_Told_parts := (fun_mk (st := s_Told_parts) ml_Told_parts mo_Told_parts mk_Told_parts).binds (ps := ["self"]) fun _ _ _ _ _ _ us hl => (by obtain ⟨_, rfl⟩ := us1 hl; rfl)
    F_Die_parts := fun_mk (st := s_Die_parts) ml_Die_parts mo_Die_parts mk_Die_parts
    B_Die_parts := (fun_mk (st := s_Die_parts) ml_Die_parts mo_Die_parts mk_Die_parts).binds (ps := ["self"]) fun _ _ _ _ _ _ us hl => (by obtain ⟨_, rfl⟩ := us1 hl; rfl)
    F_Die_after := fun_mk (st := s_Die_after) ml_Die_after mo_Die_after mk_Die_after
    B_Die_after := (fun_mk (st := s_Die_after) ml_Die_after mo_Die_after mk_Die_after).binds (ps := ["self", "throw"]) fun _ _ _ _ _ _ us hl => (by obtain ⟨_, _, rfl⟩ := us2 hl; rfl)
    F_Few_node := fun_mk (st := s_Few_node) ml_Few_node mo_Few_node mk_Few_node
    B_Few_node := (fun_mk (st := s_Few_node) ml_Few_node mo_Few_node mk_Few_node).binds (ps := ["self", "crowd"]) fun _ _ _ _ _ _ us hl => (by obtain ⟨_, _, rfl⟩ := us2 hl; rfl)
    F_Few_matrix := fun_mk (st := s_Few_matrix) ml_Few_matrix mo_Few_matrix mk_Few_matrix
    B_Few_matrix := (fun_mk (st := s_Few_matrix) ml_Few_matrix mo_Few_matrix mk_Few_matrix).binds (ps := ["self", "crowd"]) fun _ _ _ _ _ _ us hl => (by obtain ⟨_, _, rfl⟩ := us2 hl; rfl)
    F_Few_bounds := fun_mk (st := s_Few_bounds) ml_Few_bounds mo_Few_bounds mk_Few_bounds
    B_Few_bounds := (fun_mk (st := s_Few_bounds) ml_Few_bounds mo_Few_bounds mk_Few_bounds).binds (ps := ["self", "crowd"]) fun _ _ _ _ _ _ us hl => (by obtain ⟨_, _, rfl⟩ := us2 hl; rfl)
    F_Few_text := fun_mk (st := s_Few_text) ml_Few_text mo_Few_text mk_Few_text
    B_Few_text := (fun_mk (st := s_Few_text) ml_Few_text mo_Few_text mk_Few_text).binds (ps := ["self"]) fun _ _ _ _ _ _ us hl => (by obtain ⟨_, rfl⟩ := us1 hl; rfl)
    mt_Told_is_told := ⟨mf_Told_is_told, mi_Told_is_told, mk_Told_is_told⟩
    mt_Die_is_told := ⟨mf_Die_is_told, mi_Die_is_told, mk_Die_is_told⟩
    mt_Told_kept := ⟨mf_Told_kept, mi_Told_kept, mk_Told_kept⟩
    mt_Die_kept := ⟨mf_Die_kept, mi_Die_kept, mk_Die_kept⟩
    mt_Told_sides := ⟨mf_Told_sides, mi_Told_sides, mk_Told_sides⟩
    mt_Die_sides := ⟨mf_Die_sides, mi_Die_sides, mk_Die_sides⟩
    mt_Told_parts := ⟨mf_Told_parts, mi_Told_parts, mk_Told_parts⟩
    mt_Die_parts := ⟨mf_Die_parts, mi_Die_parts, mk_Die_parts⟩
    mt_Die_after := ⟨mf_Die_after, mi_Die_after, mk_Die_after⟩
    mt_Few_node := ⟨mf_Few_node, mi_Few_node, mk_Few_node⟩
    mt_Few_matrix := ⟨mf_Few_matrix, mi_Few_matrix, mk_Few_matrix⟩
    mt_Few_bounds := ⟨mf_Few_bounds, mi_Few_bounds, mk_Few_bounds⟩
    mt_Few_text := ⟨mf_Few_text, mi_Few_text, mk_Few_text⟩
    mc_Node := PySem.W.mg_of X G ca_Node
    g_Node := ⟨_, PySem.W.mg_of X G ca_Node, rfl⟩
    cl_Node := ⟨pa_Node, pb_Node, pc_Node, pd_Node⟩
    ty_Node := fun H x dx fs e => .ins e ⟨pa_Node, pb_Node, pc_Node, pd_Node⟩ pe_Node pf_Node pg_Node ph_Node
    mc_Told := PySem.W.mg_of X G ca_Told
    g_Told := ⟨_, PySem.W.mg_of X G ca_Told, rfl⟩
    cl_Told := ⟨pa_Told, pb_Told, pc_Told, pd_Told⟩
    ty_Told := fun H x dx fs e => .ins e ⟨pa_Told, pb_Told, pc_Told, pd_Told⟩ pe_Told pf_Told pg_Told ph_Told
    mk_Told := ⟨qa_Told, qb_Told, qc_Told, qd_Told⟩
    na_Told_rising := qn_Told_rising
    Fi_Told := fun_mk (st := s_Told___init__) cl_Told co_Told ck_Told
    Bi_Told := (fun_mk (st := s_Told___init__) cl_Told co_Told ck_Told).binds (ps := ["self", "kept"]) fun _ _ _ _ _ _ us hl => (by obtain ⟨_, _, rfl⟩ := us2 hl; rfl)
    mc_Die := PySem.W.mg_of X G ca_Die
    g_Die := ⟨_, PySem.W.mg_of X G ca_Die, rfl⟩
    cl_Die := ⟨pa_Die, pb_Die, pc_Die, pd_Die⟩
    ty_Die := fun H x dx fs e => .ins e ⟨pa_Die, pb_Die, pc_Die, pd_Die⟩ pe_Die pf_Die pg_Die ph_Die
    mk_Die := ⟨qa_Die, qb_Die, qc_Die, qd_Die⟩
    na_Die_makes := qn_Die_makes
    Fi_Die := fun_mk (st := s_Die___init__) cl_Die co_Die ck_Die
    Bi_Die := (fun_mk (st := s_Die___init__) cl_Die co_Die ck_Die).binds (ps := ["self", "parts"]) fun _ _ _ _ _ _ us hl => (by obtain ⟨_, _, rfl⟩ := us2 hl; rfl)
    mc_Plan := PySem.W.mg_of X G ca_Plan
    g_Plan := ⟨_, PySem.W.mg_of X G ca_Plan, rfl⟩
    cl_Plan := ⟨pa_Plan, pb_Plan, pc_Plan, pd_Plan⟩
    ty_Plan := fun H x dx fs e => .ins e ⟨pa_Plan, pb_Plan, pc_Plan, pd_Plan⟩ pe_Plan pf_Plan pg_Plan ph_Plan
    mc_Few := PySem.W.mg_of X G ca_Few
    g_Few := ⟨_, PySem.W.mg_of X G ca_Few, rfl⟩
    cl_Few := ⟨pa_Few, pb_Few, pc_Few, pd_Few⟩
    ty_Few := fun H x dx fs e => .ins e ⟨pa_Few, pb_Few, pc_Few, pd_Few⟩ pe_Few pf_Few pg_Few ph_Few
    mk_Few := ⟨qa_Few, qb_Few, qc_Few, qd_Few⟩
    na_Few_many := qn_Few_many
    Fi_Few := fun_mk (st := s_Few___init__) cl_Few co_Few ck_Few
    Bi_Few := (fun_mk (st := s_Few___init__) cl_Few co_Few ck_Few).binds (ps := ["self", "many"]) fun _ _ _ _ _ _ us hl => (by obtain ⟨_, _, rfl⟩ := us2 hl; rfl)
    g_MOST_MANY := ⟨u0, PySem.W.mg_of X G b0, r0⟩
    mc_SpeakError := PySem.W.mg_of X G ca_SpeakError
    g_SpeakError := ⟨_, PySem.W.mg_of X G ca_SpeakError, rfl⟩
    kc_SpeakError := cb_SpeakError
    xc_SpeakError := xc_of cc_SpeakError
    xh_SpeakError := xh_of cc_SpeakError
    xi_SpeakError := cx_SpeakError
    mc_NoPlan := PySem.W.mg_of X G ca_NoPlan
    g_NoPlan := ⟨_, PySem.W.mg_of X G ca_NoPlan, rfl⟩
    kc_NoPlan := cb_NoPlan
    xc_NoPlan := xc_of cc_NoPlan
    xh_NoPlan := xh_of cc_NoPlan
    xi_NoPlan := cx_NoPlan
    fn_NoPlan := cg_NoPlan
    Fi_NoPlan := fun_mk (st := s_NoPlan___init__) cl_NoPlan co_NoPlan ck_NoPlan
    Bi_NoPlan := (fun_mk (st := s_NoPlan___init__) cl_NoPlan co_NoPlan ck_NoPlan).binds (ps := ["self", "place"]) fun _ _ _ _ _ _ us hl => (by obtain ⟨_, _, rfl⟩ := us2 hl; rfl)
    sx_NoPlan_place := xs_of cs_NoPlan_place
    mc_NoThrow := PySem.W.mg_of X G ca_NoThrow
    g_NoThrow := ⟨_, PySem.W.mg_of X G ca_NoThrow, rfl⟩
    kc_NoThrow := cb_NoThrow
    xc_NoThrow := xc_of cc_NoThrow
    xh_NoThrow := xh_of cc_NoThrow
    xi_NoThrow := cx_NoThrow
    fn_NoThrow := cg_NoThrow
    Fi_NoThrow := fun_mk (st := s_NoThrow___init__) cl_NoThrow co_NoThrow ck_NoThrow
    Bi_NoThrow := (fun_mk (st := s_NoThrow___init__) cl_NoThrow co_NoThrow ck_NoThrow).binds (ps := ["self", "place"]) fun _ _ _ _ _ _ us hl => (by obtain ⟨_, _, rfl⟩ := us2 hl; rfl)
    sx_NoThrow_place := xs_of cs_NoThrow_place
    z_abs := PySem.W.mg_none_of X G z0
    z_bool := PySem.W.mg_none_of X G z1
    z_enumerate := PySem.W.mg_none_of X G z2
    z_int := PySem.W.mg_none_of X G z3
    z_isinstance := PySem.W.mg_none_of X G z4
    z_len := PySem.W.mg_none_of X G z5
    z_list := PySem.W.mg_none_of X G z6
    z_max := PySem.W.mg_none_of X G z7
    z_min := PySem.W.mg_none_of X G z8
    z_range := PySem.W.mg_none_of X G z9
    z_sorted := PySem.W.mg_none_of X G z10
    z_str := PySem.W.mg_none_of X G z11
    z_sum := PySem.W.mg_none_of X G z12
    z_tuple := PySem.W.mg_none_of X G z13
    z_zip := PySem.W.mg_none_of X G z14
    bl := fun s u => .of_eq rfl }
end My
open PySem PySem.W PyProof.Rows
def PySem.W.Fast.tw10210065820112866912 : Nat := 0
def PySem.W.Fast.tw6148512998049324386 : Nat := 0
def PySem.W.Fast.tw5182791445325593957 : Nat := 0
def PySem.W.Fast.tw9912862310787198287 : Nat := 0
def PySem.W.Fast.tw8594415880170439151 : Nat := 0
def PySem.W.Fast.tw13914031520365212752 : Nat := 0
def PySem.W.Fast.tw14706094119045678256 : Nat := 0
def PySem.W.Fast.tw16295297644274452722 : Nat := 0
def PySem.W.Fast.tw17203688046062264309 : Nat := 0
def PySem.W.Fast.tw522469160328133655 : Nat := 0
def PySem.W.Fast.tw14078309388486072153 : Nat := 0
def PySem.W.Fast.tw15325726542648042489 : Nat := 0
def PySem.W.Fast.tw1823583986711874492 : Nat := 0
def PySem.W.Fast.tw15248758358354610140 : Nat := 0
def PySem.W.Fast.tw13940281243342748669 : Nat := 0
set_option maxRecDepth 100000 in
set_option maxHeartbeats 0 in
theorem PySem.Challenge.cw_fewspeak_k22_so_many_thrown_holds : PySem.Challenge.rw_fewspeak_k22_so_many_thrown.Holds := by
  w_on; o_law; k_head; (case hw => w_witness2)
  k_fill
  refine L2.walk_ofT (l := PySem.Challenge.rw_fewspeak_k22_so_many_thrown) (n := 63) (k := My.lawK) (x := "_law_script") (CX := L2.CX0) (sp := My.spLaw) rfl (by decide) rfl ⟨rfl, by decide, by decide⟩ (fun w h Y => ⟨PySem.W.km_in_of Y, PySem.W.km_tabs_of Y⟩) ?F ?S ?C
  case F =>
    intro ts' hts w mg fa h KX G hmg
    have T : ∃ a, My.Txt (L2.KOf KX) mg a ∧ (My.tabs a).map (·.1) = ts' := by
      rw [hts]
      dsimp only [L2.KOf]
      refine' My.txt_mk KX G ?a0 ?l0 ?c0 ?k0 ?a1 ?l1 ?c1 ?k1 ?a2 ?l2 ?c2 ?k2 ?a3 ?l3 ?c3 ?k3 ?a4 ?l4 ?c4 ?k4 ?a5 ?l5 ?c5 ?k5 ?a6 ?l6 ?c6 ?k6 ?a7 ?l7 ?c7 ?k7 ?a8 ?l8 ?c8 ?k8 ?a9 ?l9 ?c9 ?k9 ?a10 ?l10 ?c10 ?k10 ?a11 ?l11 ?c11 ?k11 ?a12 ?l12 ?c12 ?k12 ?a13 ?l13 ?c13 ?k13 ?a14 ?l14 ?c14 ?k14 ?a15 ?l15 ?c15 ?k15 ?a16 ?l16 ?c16 ?k16 ?a17 ?l17 ?c17 ?k17 ?a18 ?l18 ?c18 ?k18 ?a19 ?l19 ?c19 ?k19 ?a20 ?l20 ?c20 ?k20 ?a21 ?l21 ?c21 ?k21 ?a22 ?l22 ?c22 ?k22 ?b0 ?ca_SpeakError ?cb_SpeakError ?cc_SpeakError ?cx_SpeakError ?ca_NoPlan ?cb_NoPlan ?cc_NoPlan ?cf_NoPlan ?cx_NoPlan ?cg_NoPlan ?cl_NoPlan ?co_NoPlan ?ck_NoPlan ?cs_NoPlan_place ?ca_NoThrow ?cb_NoThrow ?cc_NoThrow ?cf_NoThrow ?cx_NoThrow ?cg_NoThrow ?cl_NoThrow ?co_NoThrow ?ck_NoThrow ?cs_NoThrow_place ?ca_Node ?pa_Node ?pb_Node ?pc_Node ?pd_Node ?pe_Node ?pf_Node ?pg_Node ?ph_Node ?ca_Told ?pa_Told ?pb_Told ?pc_Told ?pd_Told ?pe_Told ?pf_Told ?pg_Told ?ph_Told ?qa_Told ?qb_Told ?qc_Told ?qd_Told ?qn_Told_rising ?cl_Told ?co_Told ?ck_Told ?ca_Die ?pa_Die ?pb_Die ?pc_Die ?pd_Die ?pe_Die ?pf_Die ?pg_Die ?ph_Die ?qa_Die ?qb_Die ?qc_Die ?qd_Die ?qn_Die_makes ?cl_Die ?co_Die ?ck_Die ?ca_Plan ?pa_Plan ?pb_Plan ?pc_Plan ?pd_Plan ?pe_Plan ?pf_Plan ?pg_Plan ?ph_Plan ?ca_Few ?pa_Few ?pb_Few ?pc_Few ?pd_Few ?pe_Few ?pf_Few ?pg_Few ?ph_Few ?qa_Few ?qb_Few ?qc_Few ?qd_Few ?qn_Few_many ?cl_Few ?co_Few ?ck_Few ?mf_Told_is_told ?ml_Told_is_told ?mo_Told_is_told ?mk_Told_is_told ?mi_Told_is_told ?mf_Die_is_told ?ml_Die_is_told ?mo_Die_is_told ?mk_Die_is_told ?mi_Die_is_told ?mf_Told_kept ?ml_Told_kept ?mo_Told_kept ?mk_Told_kept ?mi_Told_kept ?mf_Die_kept ?ml_Die_kept ?mo_Die_kept ?mk_Die_kept ?mi_Die_kept ?mf_Told_sides ?ml_Told_sides ?mo_Told_sides ?mk_Told_sides ?mi_Told_sides ?mf_Die_sides ?ml_Die_sides ?mo_Die_sides ?mk_Die_sides ?mi_Die_sides ?mf_Told_parts ?ml_Told_parts ?mo_Told_parts ?mk_Told_parts ?mi_Told_parts ?mf_Die_parts ?ml_Die_parts ?mo_Die_parts ?mk_Die_parts ?mi_Die_parts ?mf_Die_after ?ml_Die_after ?mo_Die_after ?mk_Die_after ?mi_Die_after ?mf_Few_node ?ml_Few_node ?mo_Few_node ?mk_Few_node ?mi_Few_node ?mf_Few_matrix ?ml_Few_matrix ?mo_Few_matrix ?mk_Few_matrix ?mi_Few_matrix ?mf_Few_bounds ?ml_Few_bounds ?mo_Few_bounds ?mk_Few_bounds ?mi_Few_bounds ?mf_Few_text ?ml_Few_text ?mo_Few_text ?mk_Few_text ?mi_Few_text ?lca_Few_matrix ?lct_Few_matrix ?lcq_Few_matrix ?lch_Few_matrix ?lca_few_node ?lct_few_node ?lcq_few_node ?lch_few_node ?ltnd ?z0 ?z1 ?z2 ?z3 ?z4 ?z5 ?z6 ?z7 ?z8 ?z9 ?z10 ?z11 ?z12 ?z13 ?z14 ?r0
      (case a0 => k_is)
      (case l0 => k_is)
      (case c0 => k_is)
      (case k0 => k_is)
      (case a1 => k_is)
      (case l1 => k_is)
      (case c1 => k_is)
      (case k1 => k_is)
      (case a2 => k_is)
      (case l2 => k_is)
      (case c2 => k_is)
      (case k2 => k_is)
      (case a3 => k_is)
      (case l3 => k_is)
      (case c3 => k_is)
      (case k3 => k_is)
      (case a4 => k_is)
      (case l4 => k_is)
      (case c4 => k_is)
      (case k4 => k_is)
      (case a5 => k_is)
      (case l5 => k_is)
      (case c5 => k_is)
      (case k5 => k_is)
      (case a6 => k_is)
      (case l6 => k_is)
      (case c6 => k_is)
      (case k6 => k_is)
      (case a7 => k_is)
      (case l7 => k_is)
      (case c7 => k_is)
      (case k7 => k_is)
      (case a8 => k_is)
      (case l8 => k_is)
      (case c8 => k_is)
      (case k8 => k_is)
      (case a9 => k_is)
      (case l9 => k_is)
      (case c9 => k_is)
      (case k9 => k_is)
      (case a10 => k_is)
      (case l10 => k_is)
      (case c10 => k_is)
      (case k10 => k_is)
      (case a11 => k_is)
      (case l11 => k_is)
      (case c11 => k_is)
      (case k11 => k_is)
      (case a12 => k_is)
      (case l12 => k_is)
      (case c12 => k_is)
      (case k12 => k_is)
      (case a13 => k_is)
      (case l13 => k_is)
      (case c13 => k_is)
      (case k13 => k_is)
      (case a14 => k_is)
      (case l14 => k_is)
      (case c14 => k_is)
      (case k14 => k_is)
      (case a15 => k_is)
      (case l15 => k_is)
      (case c15 => k_is)
      (case k15 => k_is)
      (case a16 => k_is)
      (case l16 => k_is)
      (case c16 => k_is)
      (case k16 => k_is)
      (case a17 => k_is)
      (case l17 => k_is)
      (case c17 => k_is)
      (case k17 => k_is)
      (case a18 => k_is)
      (case l18 => k_is)
      (case c18 => k_is)
      (case k18 => k_is)
      (case a19 => k_is)
      (case l19 => k_is)
      (case c19 => k_is)
      (case k19 => k_is)
      (case a20 => k_is)
      (case l20 => k_is)
      (case c20 => k_is)
      (case k20 => k_is)
      (case a21 => k_is)
      (case l21 => k_is)
      (case c21 => k_is)
      (case k21 => k_is)
      (case a22 => k_is)
      (case l22 => k_is)
      (case c22 => k_is)
      (case k22 => k_is)
      (case b0 => k_is)
      (case ca_SpeakError => k_is)
      (case cb_SpeakError => k_is)
      (case cc_SpeakError => kernel_rfl)
      (case cx_SpeakError => kernel_rfl)
      (case ca_NoPlan => k_is)
      (case cb_NoPlan => k_is)
      (case cc_NoPlan => kernel_rfl)
      (case cf_NoPlan => k_is)
      (case cx_NoPlan => kernel_rfl)
      (case cg_NoPlan => k_is)
      (case cl_NoPlan => k_is)
      (case co_NoPlan => k_is)
      (case ck_NoPlan => k_is)
      (case cs_NoPlan_place => kernel_rfl)
      (case ca_NoThrow => k_is)
      (case cb_NoThrow => k_is)
      (case cc_NoThrow => kernel_rfl)
      (case cf_NoThrow => k_is)
      (case cx_NoThrow => kernel_rfl)
      (case cg_NoThrow => k_is)
      (case cl_NoThrow => k_is)
      (case co_NoThrow => k_is)
      (case ck_NoThrow => k_is)
      (case cs_NoThrow_place => kernel_rfl)
      (case ca_Node => k_is)
      (case pa_Node => (first | k_is | kernel_rfl))
      (case pb_Node => (first | k_is | kernel_rfl))
      (case pc_Node => (first | k_is | kernel_rfl))
      (case pd_Node => (first | k_is | kernel_rfl))
      (case pe_Node => (first | k_is | kernel_rfl))
      (case pf_Node => (first | k_is | kernel_rfl))
      (case pg_Node => (first | k_is | kernel_rfl))
      (case ph_Node => (first | k_is | kernel_rfl))
      (case ca_Told => k_is)
      (case pa_Told => (first | k_is | kernel_rfl))
      (case pb_Told => (first | k_is | kernel_rfl))
      (case pc_Told => (first | k_is | kernel_rfl))
      (case pd_Told => (first | k_is | kernel_rfl))
      (case pe_Told => (first | k_is | kernel_rfl))
      (case pf_Told => (first | k_is | kernel_rfl))
      (case pg_Told => (first | k_is | kernel_rfl))
      (case ph_Told => (first | k_is | kernel_rfl))
      (case qa_Told => (first | k_is | kernel_rfl))
      (case qb_Told => (first | k_is | kernel_rfl))
      (case qc_Told => (first | k_is | kernel_rfl))
      (case qd_Told => (first | k_is | kernel_rfl))
      (case qn_Told_rising => (first | k_is | kernel_rfl))
      (case cl_Told => k_is)
      (case co_Told => k_is)
      (case ck_Told => k_is)
      (case ca_Die => k_is)
      (case pa_Die => (first | k_is | kernel_rfl))
      (case pb_Die => (first | k_is | kernel_rfl))
      (case pc_Die => (first | k_is | kernel_rfl))
      (case pd_Die => (first | k_is | kernel_rfl))
      (case pe_Die => (first | k_is | kernel_rfl))
      (case pf_Die => (first | k_is | kernel_rfl))
      (case pg_Die => (first | k_is | kernel_rfl))
      (case ph_Die => (first | k_is | kernel_rfl))
      (case qa_Die => (first | k_is | kernel_rfl))
      (case qb_Die => (first | k_is | kernel_rfl))
      (case qc_Die => (first | k_is | kernel_rfl))
      (case qd_Die => (first | k_is | kernel_rfl))
      (case qn_Die_makes => (first | k_is | kernel_rfl))
      (case cl_Die => k_is)
      (case co_Die => k_is)
      (case ck_Die => k_is)
      (case ca_Plan => k_is)
      (case pa_Plan => (first | k_is | kernel_rfl))
      (case pb_Plan => (first | k_is | kernel_rfl))
      (case pc_Plan => (first | k_is | kernel_rfl))
      (case pd_Plan => (first | k_is | kernel_rfl))
      (case pe_Plan => (first | k_is | kernel_rfl))
      (case pf_Plan => (first | k_is | kernel_rfl))
      (case pg_Plan => (first | k_is | kernel_rfl))
      (case ph_Plan => (first | k_is | kernel_rfl))
      (case ca_Few => k_is)
      (case pa_Few => (first | k_is | kernel_rfl))
      (case pb_Few => (first | k_is | kernel_rfl))
      (case pc_Few => (first | k_is | kernel_rfl))
      (case pd_Few => (first | k_is | kernel_rfl))
      (case pe_Few => (first | k_is | kernel_rfl))
      (case pf_Few => (first | k_is | kernel_rfl))
      (case pg_Few => (first | k_is | kernel_rfl))
      (case ph_Few => (first | k_is | kernel_rfl))
      (case qa_Few => (first | k_is | kernel_rfl))
      (case qb_Few => (first | k_is | kernel_rfl))
      (case qc_Few => (first | k_is | kernel_rfl))
      (case qd_Few => (first | k_is | kernel_rfl))
      (case qn_Few_many => (first | k_is | kernel_rfl))
      (case cl_Few => k_is)
      (case co_Few => k_is)
      (case ck_Few => k_is)
      (case mf_Told_is_told => (first | k_is | kernel_rfl))
      (case ml_Told_is_told => k_is)
      (case mo_Told_is_told => k_is)
      (case mk_Told_is_told => k_is)
      (case mi_Told_is_told => (first | k_is | kernel_rfl))
      (case mf_Die_is_told => (first | k_is | kernel_rfl))
      (case ml_Die_is_told => k_is)
      (case mo_Die_is_told => k_is)
      (case mk_Die_is_told => k_is)
      (case mi_Die_is_told => (first | k_is | kernel_rfl))
      (case mf_Told_kept => (first | k_is | kernel_rfl))
      (case ml_Told_kept => k_is)
      (case mo_Told_kept => k_is)
      (case mk_Told_kept => k_is)
      (case mi_Told_kept => (first | k_is | kernel_rfl))
      (case mf_Die_kept => (first | k_is | kernel_rfl))
      (case ml_Die_kept => k_is)
      (case mo_Die_kept => k_is)
      (case mk_Die_kept => k_is)
      (case mi_Die_kept => (first | k_is | kernel_rfl))
      (case mf_Told_sides => (first | k_is | kernel_rfl))
      (case ml_Told_sides => k_is)
      (case mo_Told_sides => k_is)
      (case mk_Told_sides => k_is)
      (case mi_Told_sides => (first | k_is | kernel_rfl))
      (case mf_Die_sides => (first | k_is | kernel_rfl))
      (case ml_Die_sides => k_is)
      (case mo_Die_sides => k_is)
      (case mk_Die_sides => k_is)
      (case mi_Die_sides => (first | k_is | kernel_rfl))
      (case mf_Told_parts => (first | k_is | kernel_rfl))
      (case ml_Told_parts => k_is)
      (case mo_Told_parts => k_is)
      (case mk_Told_parts => k_is)
      (case mi_Told_parts => (first | k_is | kernel_rfl))
      (case mf_Die_parts => (first | k_is | kernel_rfl))
      (case ml_Die_parts => k_is)
      (case mo_Die_parts => k_is)
      (case mk_Die_parts => k_is)
      (case mi_Die_parts => (first | k_is | kernel_rfl))
      (case mf_Die_after => (first | k_is | kernel_rfl))
      (case ml_Die_after => k_is)
      (case mo_Die_after => k_is)
      (case mk_Die_after => k_is)
      (case mi_Die_after => (first | k_is | kernel_rfl))
      (case mf_Few_node => (first | k_is | kernel_rfl))
      (case ml_Few_node => k_is)
      (case mo_Few_node => k_is)
      (case mk_Few_node => k_is)
      (case mi_Few_node => (first | k_is | kernel_rfl))
      (case mf_Few_matrix => (first | k_is | kernel_rfl))
      (case ml_Few_matrix => k_is)
      (case mo_Few_matrix => k_is)
      (case mk_Few_matrix => k_is)
      (case mi_Few_matrix => (first | k_is | kernel_rfl))
      (case mf_Few_bounds => (first | k_is | kernel_rfl))
      (case ml_Few_bounds => k_is)
      (case mo_Few_bounds => k_is)
      (case mk_Few_bounds => k_is)
      (case mi_Few_bounds => (first | k_is | kernel_rfl))
      (case mf_Few_text => (first | k_is | kernel_rfl))
      (case ml_Few_text => k_is)
      (case mo_Few_text => k_is)
      (case mk_Few_text => k_is)
      (case mi_Few_text => (first | k_is | kernel_rfl))
      (case lca_Few_matrix => exact rfl)
      (case lct_Few_matrix => k_is)
      (case lcq_Few_matrix => exact rfl)
      (case lch_Few_matrix => kernel_rfl)
      (case lca_few_node => exact rfl)
      (case lct_few_node => k_is)
      (case lcq_few_node => exact rfl)
      (case lch_few_node => kernel_rfl)
      (case ltnd => decide)
      (case z0 => k_is)
      (case z1 => k_is)
      (case z2 => k_is)
      (case z3 => k_is)
      (case z4 => k_is)
      (case z5 => k_is)
      (case z6 => k_is)
      (case z7 => k_is)
      (case z8 => k_is)
      (case z9 => k_is)
      (case z10 => k_is)
      (case z11 => k_is)
      (case z12 => k_is)
      (case z13 => k_is)
      (case z14 => k_is)
      (case r0 => first | exact rfl | exact ⟨_, rfl⟩)
    obtain ⟨a, T, e1⟩ := T
    have e1 := e1.trans hts
    have e0 := hmg.symm.trans T.m_law
    cases e0
    refine' ⟨a.d_law, ?b, ?t, ?u, fun base kb nb hB => My.ok_law T hB ?v⟩
    case b => exact T.bl
    case t =>
      intro P hP
      have hP := e1.symm ▸ hP
      simp only [My.tabs, List.map_cons, List.map_nil, List.mem_cons, List.not_mem_nil, or_false] at hP
      rcases hP with rfl | rfl
      · exact ⟨_, T.lch_Few_matrix⟩
      · exact ⟨_, T.lch_few_node⟩
    case u =>
      intro P hP
      simp only [List.mem_cons, List.not_mem_nil, or_false] at hP
      rcases hP with rfl | rfl <;> kernel_rfl
    case v =>
      intro q hq
      rw [← e1]
      exact List.mem_map_of_mem hq
  case S => exact fun K H a ns hl hO hS => My.law_start hl hO hS
  case C => exact fun H s e s' z => z

