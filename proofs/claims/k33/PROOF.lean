import PyProof.Rows.All
import Wide.All
import OpenK.AllK
import Wide.FinOn
import Lean
import PyProof.EqAt
import PyProof.EqKinds
import PyProof.TupleCall
import PySem.Challenge.RW_fewspeak_k33_whole_matrix_of_duels
set_option Elab.async false
set_option linter.all false
set_option maxRecDepth 100000
/-! THE HAND LAYER, for ints, bools, texts, own classes, LISTS and tuples (index, slices, in, append, pop ..), calls, loops. Paste it whole ahead of your own text; what your proof does not reach may be deleted. -/
namespace L2
open PySem PySem.Spec PyProof.Rows

/-- a key: an int or a str -/
noncomputable abbrev Key := Sum Int Str
noncomputable def keyIs : Key → Value → Bool
  | .inl k, v => Value.isInt k v
  | .inr x, v => Value.isStrOf x v
noncomputable def keyH (w : World) : Key → Int
  | .inl k => hashInt k
  | .inr x => hashStr w x
theorem keyIs_shape : ∀ {k : Key} {v : Value}, keyIs k v = true → (∃ i t, k = Sum.inl i ∧ v = Value.int i t) ∨ (∃ x t, k = Sum.inr x ∧ v = Value.str x t)
  | .inl i, v, h => by
    obtain ⟨t, e⟩ := Value.isInt_shape (k := i) (v := v) h
    exact .inl ⟨i, t, rfl, e⟩
  | .inr x, v, h => by
    obtain ⟨t, e⟩ := Value.isStrOf_shape (x := x) (v := v) h
    exact .inr ⟨x, t, rfl, e⟩
theorem keyIs_int (i : Int) (t : Tok) : keyIs (.inl i) (.int i t) = true := by simp [keyIs, Value.isInt]
theorem keyIs_str (x : Str) (t : Tok) : keyIs (.inr x) (.str x t) = true := by simp [keyIs, Value.isStrOf]
theorem key_ll (a b : Int) : decide ((Sum.inl a : Key) = Sum.inl b) = (a == b) := by
  by_cases e : a = b
  · subst e; simp
  · have h : ¬ (Sum.inl a : Key) = Sum.inl b := fun q => e (Sum.inl.inj q)
    rw [decide_eq_false h]
    exact (beq_eq_false_iff_ne.mpr e).symm
theorem key_rr (a b : Str) : decide ((Sum.inr a : Key) = Sum.inr b) = decide (a = b) := by
  by_cases e : a = b
  · subst e; simp
  · have h : ¬ (Sum.inr a : Key) = Sum.inr b := fun q => e (Sum.inr.inj q)
    rw [decide_eq_false h, decide_eq_false e]
theorem key_lr (a : Int) (b : Str) : decide ((Sum.inl a : Key) = Sum.inr b) = false := decide_eq_false (fun q => nomatch q)
theorem key_rl (a : Str) (b : Int) : decide ((Sum.inr a : Key) = Sum.inl b) = false := decide_eq_false (fun q => nomatch q)

noncomputable def mixKind (prog : Program) (w : World) : PySem.KeyKind prog w Key where
  is := keyIs
  hash := keyH w
  inj := fun v a b ha hb => by
    rcases keyIs_shape ha with ⟨i, t, rfl, rfl⟩ | ⟨x, t, rfl, rfl⟩
    · rcases keyIs_shape hb with ⟨j, u, rfl, e⟩ | ⟨y, u, rfl, e⟩
      · injection e with e1 _; rw [e1]
      · exact nomatch e
    · rcases keyIs_shape hb with ⟨j, u, rfl, e⟩ | ⟨y, u, rfl, e⟩
      · exact nomatch e
      · injection e with e1 _; rw [e1]
  byValue := fun k v h => by
    rcases keyIs_shape h with ⟨i, t, rfl, rfl⟩ | ⟨x, t, rfl, rfl⟩ <;> rfl
  pyHash := fun hv h => by
    rcases keyIs_shape hv with ⟨i, t, rfl, rfl⟩ | ⟨x, t, rfl, rfl⟩
    · exact wpAny_pyHash_int h
    · exact wpAny_pyHash_str h
  eqBool := fun hu hv h => by
    rcases keyIs_shape hu with ⟨i, t, rfl, rfl⟩ | ⟨x, t, rfl, rfl⟩
    · rcases keyIs_shape hv with ⟨j, u, rfl, rfl⟩ | ⟨y, u, rfl, rfl⟩
      · rw [key_ll] at h; exact wpAny_eqBool_int h
      · rw [key_lr] at h; exact SeqAt.EqAt.int_str i t y u _ _ _ _ h
    · rcases keyIs_shape hv with ⟨j, u, rfl, rfl⟩ | ⟨y, u, rfl, rfl⟩
      · rw [key_rl] at h; exact SeqAt.EqAt.str_int x t j u _ _ _ _ h
      · rw [key_rr] at h; exact wpAny_eqBool_str h
  «strs» := fun k x t v h => by
    rcases keyIs_shape h with ⟨i, u, rfl, e⟩ | ⟨y, u, rfl, e⟩
    · exact nomatch e
    · injection e with e1 _
      subst e1
      cases v <;> rfl

theorem mixKind_int (prog : Program) (w : World) (i : Int) (t : Tok) : (mixKind prog w).is (.inl i) (.int i t) = true := keyIs_int i t
theorem mixKind_str (prog : Program) (w : World) (x : Str) (t : Tok) : (mixKind prog w).is (.inr x) (.str x t) = true := keyIs_str x t
end L2

namespace L2
open PySem PySem.Spec PyProof.Rows

/-- a value, without the heap -/
inductive V where
  | non | bl (b : Bool) | int (i : Int) | str (x : Str) | byt (b : Array UInt8) | flt (b : UInt64) | ref (a : Addr) | ty (n : String)
  deriving DecidableEq

noncomputable def RelV : V → Value → Prop
  | .non, u => u = Value.none
  | .bl b, u => u = Value.bool b
  | .int i, u => ∃ t, u = Value.int i t
  | .str x, u => ∃ t, u = Value.str x t
  | .byt b, u => ∃ t, u = Value.bytes b t
  | .flt b, u => ∃ t, u = Value.float b t
  | .ref a, u => u = Value.ref a
  | .ty n, u => u = Value.type n

noncomputable abbrev Vals : List V → List Value → Prop := Paired RelV
theorem Vals.length {xs : List V} {us : List Value} (r : Vals xs us) : xs.length = us.length := Paired.length r
theorem Vals.get : ∀ {xs : List V} {us : List Value} {i : Nat} {x : V}, Vals xs us → xs[i]? = some x → ∃ u, us[i]? = some u ∧ RelV x u
  | _, _, _, _, .nil, e => by simp at e
  | _, _, 0, _, .cons r _, e => by simp at e; subst e; exact ⟨_, rfl, r⟩
  | _, _, i + 1, x, .cons _ t, e => by
    obtain ⟨u, h1, h2⟩ := Vals.get (i := i) (x := x) t (by simpa using e)
    exact ⟨u, by simpa using h1, h2⟩
theorem Vals.set {x : V} {u : Value} (r : RelV x u) : ∀ {xs : List V} {us : List Value} (i : Nat), Vals xs us → Vals (xs.set i x) (us.set i u)
  | _, _, _, .nil => .nil
  | _, _, 0, .cons _ t => .cons r t
  | _, _, i + 1, .cons q t => .cons q (Vals.set r i t)
theorem Vals.append : ∀ {xs ys : List V} {us ws : List Value}, Vals xs us → Vals ys ws → Vals (xs ++ ys) (us ++ ws)
  | _, _, _, _, .nil, s => s
  | _, _, _, _, .cons r t, s => .cons r (Vals.append t s)
theorem Vals.take : ∀ {xs : List V} {us : List Value} (n : Nat), Vals xs us → Vals (xs.take n) (us.take n)
  | _, _, 0, _ => .nil
  | _, _, _ + 1, .nil => .nil
  | _, _, n + 1, .cons r t => .cons r (Vals.take n t)
theorem Vals.drop : ∀ {xs : List V} {us : List Value} (n : Nat), Vals xs us → Vals (xs.drop n) (us.drop n)
  | _, _, 0, r => r
  | _, _, _ + 1, .nil => .nil
  | _, _, n + 1, .cons _ t => Vals.drop n t
theorem Vals.none_of : ∀ {xs : List V} {us : List Value} {i : Nat}, Vals xs us → xs[i]? = none → us[i]? = none := fun {xs us i} r e => by
  have h1 := r.length
  have h2 : xs.length ≤ i := List.getElem?_eq_none_iff.mp e
  exact List.getElem?_eq_none_iff.mpr (by omega)

noncomputable def RelO : Option V → Option Value → Prop
  | some v, some u => RelV v u
  | none, none => True
  | _, _ => False
noncomputable def KV {κ : Type} : List (κ × V) → List (κ × Value) → Prop := Paired fun (p : κ × V) (q : κ × Value) => p.1 = q.1 ∧ RelV p.2 q.2

/-- a key of a dict (00_mix): an int or a text -/
noncomputable def kV : Key → V
  | .inl i => .int i
  | .inr x => .str x

/-- what stands at a tracked address -/
inductive HO where
  /-- a list -/
  | lst (xs : List V)
  /-- a tuple (never changes) -/
  | tup (xs : List V)
  /-- a dict whose keys are ints and texts; one whose keys are tuples of ints and texts (the empty one is both) -/
  | dK (kvs : List (Key × V)) | dT (kvs : List (List Key × V))
  /-- a set of ints: its members, its size -/
  | set (S : Int → Bool) (n : Nat)
  /-- an instance of the class at C, its dict at dx, its attributes -/
  | ins (C dx : Addr) (fs : List (Str × V))
  /-- the dict of the instance at x -/
  | own (x : Addr)
  /-- the dict of an exception -/
  | xd (fs : List (Str × V))
  /-- a bound method, f of x -/
  | met (f x : Addr)
  /-- a range object lo, lo + 1, .. below hi -/
  | rng (lo hi : Int)
  /-- a thing that is known to the object (the script; a dict while a loop walks it): read, never written while it is so -/
  | frz (o : Obj) (u : HO)
  /-- a code object's table -/
  | tbl (ps : Array Value)
  /-- any other thing, by what is true of its one object (a def of one's own: SetO a S n := HO.ext fun h => ..) -/
  | ext (φ : Heap → Prop)

noncomputable abbrev Hp := Addr → Option HO
noncomputable def upd (H : Hp) (a : Addr) (o : HO) : Hp := fun b => if b = a then some o else H b
theorem upd_same {H : Hp} {a : Addr} {o : HO} : upd H a o a = some o := by unfold upd; rw [if_pos rfl]
theorem upd_ne {H : Hp} {a b : Addr} {o : HO} (h : b ≠ a) : upd H a o b = H b := by unfold upd; rw [if_neg h]
theorem upd_upd {H : Hp} {a : Addr} {o u : HO} : upd (upd H a o) a u = upd H a u := by
  funext b; unfold upd; split <;> rfl
/-- two objects of different content stand apart -/
theorem ne_of {H : Hp} {a b : Addr} {o u : HO} (h : H a = some o) (h' : H b = some u) (d : o ≠ u) : a ≠ b := by
  intro e; subst e; rw [h] at h'; exact d (Option.some.inj h')
theorem ne_of_none {H : Hp} {a b : Addr} {o : HO} (h : H a = some o) (h' : H b = none) : a ≠ b := by
  intro e; subst e; rw [h] at h'; cases h'

section
variable (P : Program) (w : World)
noncomputable def ObjOk (H : Hp) (h : Heap) (a : Addr) : HO → Prop
  | .lst xs => xs.length ≤ sizeLine ∧ ∃ (its : List Value) (n : Nat), Vals xs its ∧ h.get? a = some { cls := .type "list", data := .seq its.toArray n }
  | .tup xs => xs.length ≤ sizeLine ∧ ∃ its : List Value, Vals xs its ∧ IsTup h a its.toArray
  | .dK kvs => kvs.length ≤ sizeLine ∧ (a == sysModules) = false ∧ ∃ vs, KV kvs vs ∧ h.DictOf (mixKind P w) a vs
  | .dT kvs => kvs.length ≤ sizeLine ∧ (a == sysModules) = false ∧ ∃ xs : List (List Key × Addr × Value),
      Paired (fun (p : List Key × V) (q : List Key × Addr × Value) => p.1 = q.1 ∧ H q.2.1 = some (.tup (p.1.map kV)) ∧ RelV p.2 q.2.2) kvs xs ∧
      ∃ o es ep, h.get? a = some o ∧ o.ExactDict ∧ o.data = .dict es ep ∧ es.toList = xs.map (entryOfKey (tupleKind (mixKind P w))) ∧ (xs.map (·.1)).Nodup
  | .set S n => h.SetOf (intKind P w) a S n
  | .ins C dx fs => H dx = some (.own a) ∧ fs.length ≤ 1000 ∧ dx ≠ a ∧ h.get? a = some (PySem.W.instObj C dx) ∧
      ∃ mA, h.Ns1 dx mA ∧ (∀ f, RelO (fs.lookup f) (mA f)) ∧ PySem.Within mA (fs.map (·.1))
  | .own _ => ∃ o, h.get? a = some o
  | .xd fs => ∃ mA, h.Ns1 a mA ∧ ∀ f, RelO (fs.lookup f) (mA f)
  | .rng lo hi => ∃ t u v, h.get? a = some { cls := .type "range", data := .fields #[.int lo t, .int hi u, .int 1 v] }
  | .frz o u => h.get? a = some o ∧ ObjOk H h a u
  | .tbl ps => h.get? a = some { cls := .none, data := .fields ps }
  | .met f x => h.get? a = some (PySem.W.methodObj (.ref f) (.ref x))
  | .ext φ => φ h ∧ (∃ o, h.get? a = some o) ∧ ∀ h1 h2 : Heap, φ h1 → (∀ o, h1.get? a = some o → h2.get? a = some o) → φ h2
/-- the abstract heap is held -/
noncomputable def HOk (H : Hp) (h : Heap) : Prop := ∀ a o, H a = some o → ObjOk P w H h a o
end

section
variable {P : Program} {w : World} {H H' : Hp} {h h' : Heap} {a : Addr} {o : HO}
theorem ObjOk.lt (x : ObjOk P w H h a o) : a < h.objs.size := by
  cases o with
  | lst xs => obtain ⟨_, _, _, _, e⟩ := x; exact Heap.lt_size e
  | tup xs => obtain ⟨_, _, _, p⟩ := x; exact p.lt
  | dK kvs => obtain ⟨_, _, _, _, o, _, _, e, _⟩ := x; exact Heap.lt_size e
  | dT kvs => obtain ⟨_, _, _, _, o, _, _, e, _⟩ := x; exact Heap.lt_size e
  | set S n => obtain ⟨o, _, _, _, e, _⟩ := x; exact Heap.lt_size e
  | ins C dx fs => obtain ⟨_, _, _, e, _⟩ := x; exact Heap.lt_size e
  | own y => obtain ⟨_, e⟩ := x; exact Heap.lt_size e
  | xd fs => obtain ⟨_, ⟨_, _, _, e, _⟩, _⟩ := x; exact Heap.lt_size e
  | rng lo hi => obtain ⟨_, _, _, e⟩ := x; exact Heap.lt_size e
  | frz ob u => obtain ⟨e, _⟩ := x; exact Heap.lt_size e
  | tbl ps => exact Heap.lt_size (show h.get? a = some _ from x)
  | met f y => exact Heap.lt_size (show h.get? a = some _ from x)
  | ext φ => obtain ⟨_, ⟨_, e⟩, _⟩ := x; exact Heap.lt_size e
theorem Paired.mapP {α β : Type} {F G : α → β → Prop} : ∀ {l₁ : List α} {l₂ : List β}, Paired F l₁ l₂ → (∀ a b, F a b → G a b) → Paired G l₁ l₂
  | _, _, .nil, _ => .nil
  | _, _, .cons r t, f => .cons (f _ _ r) (Paired.mapP t f)
/-- what an object's description leans on: its own object, its own dict, the tuples -/
theorem ObjOk.stay (x : ObjOk P w H h a o) (k : ∀ b u, (b = a ∨ H b = some (.own a)) → h.get? b = some u → h'.get? b = some u)
    (ho : ∀ b, H b = some (.own a) → H' b = some (.own a)) (ht : ∀ b xs, H b = some (.tup xs) → H' b = some (.tup xs)) : ObjOk P w H' h' a o := by
  induction o with
  | lst xs => obtain ⟨z, its, n, r, e⟩ := x; exact ⟨z, its, n, r, k _ _ (.inl rfl) e⟩
  | tup xs => obtain ⟨z, its, r, ob, e, c⟩ := x; exact ⟨z, its, r, ob, k _ _ (.inl rfl) e, c⟩
  | dK kvs => obtain ⟨z, y, vs, r, ob, es, ep, e, c⟩ := x; exact ⟨z, y, vs, r, ob, es, ep, k _ _ (.inl rfl) e, c⟩
  | dT kvs =>
    obtain ⟨z, y, xs, r, ob, es, ep, e, c⟩ := x
    exact ⟨z, y, xs, Paired.mapP r fun p q z => ⟨z.1, ht _ _ z.2.1, z.2.2⟩, ob, es, ep, k _ _ (.inl rfl) e, c⟩
  | set S n => obtain ⟨ob, es, ep, t, e, c⟩ := x; exact ⟨ob, es, ep, t, k _ _ (.inl rfl) e, c⟩
  | ins C dx fs =>
    obtain ⟨d, z, ne, e, mA, ⟨od, es, ep, e2, c⟩, r⟩ := x
    exact ⟨ho _ d, z, ne, k _ _ (.inl rfl) e, mA, ⟨od, es, ep, k _ _ (.inr d) e2, c⟩, r⟩
  | own y => obtain ⟨ob, e⟩ := x; exact ⟨ob, k _ _ (.inl rfl) e⟩
  | xd fs => obtain ⟨mA, ⟨od, es, ep, e, c⟩, r⟩ := x; exact ⟨mA, ⟨od, es, ep, k _ _ (.inl rfl) e, c⟩, r⟩
  | rng lo hi => obtain ⟨t, u, v, e⟩ := x; exact ⟨t, u, v, k _ _ (.inl rfl) e⟩
  | frz ob u ih => obtain ⟨e, q⟩ := x; exact ⟨k _ _ (.inl rfl) e, ih q⟩
  | tbl ps =>
    have e : h.get? a = some { cls := .none, data := .fields ps } := x
    show h'.get? a = some { cls := .none, data := .fields ps }
    exact k a _ (.inl rfl) e
  | met f y =>
    have e : h.get? a = some (PySem.W.methodObj (.ref f) (.ref y)) := x
    show h'.get? a = some (PySem.W.methodObj (.ref f) (.ref y))
    exact k a _ (.inl rfl) e
  | ext φ => obtain ⟨p, ⟨o, e⟩, st⟩ := x; exact ⟨st _ _ p fun o q => k _ _ (.inl rfl) q, ⟨o, k _ _ (.inl rfl) e⟩, st⟩
theorem HOk.lt (x : HOk P w H h) (e : H a = some o) : a < h.objs.size := (x a o e).lt
theorem HOk.fresh (x : HOk P w H h) (e : h.objs.size ≤ a) : H a = none := by
  cases q : H a with
  | none => rfl
  | some u => exact absurd (Nat.lt_of_lt_of_le (x.lt q) e) (Nat.lt_irrefl _)
/-- every object of the heap is kept -/
theorem HOk.kept (x : HOk P w H h) (k : ∀ b u, h.get? b = some u → h'.get? b = some u) : HOk P w H h' := fun a o e =>
  (x a o e).stay (fun b u _ q => k b u q) (fun _ q => q) fun _ _ q => q
/-- a new object is laid and tracked -/
theorem HOk.laid (x : HOk P w H h) (k : ∀ b u, h.get? b = some u → h'.get? b = some u) (hp : h.objs.size ≤ a) (new : ObjOk P w (upd H a o) h' a o) : HOk P w (upd H a o) h' := fun b u e => by
  have hn := x.fresh hp
  by_cases hb : b = a
  · subst hb; rw [upd_same] at e; cases e; exact new
  · rw [upd_ne hb] at e
    exact (x b u e).stay (fun c v _ q => k c v q) (fun c q => by rw [upd_ne (ne_of_none q hn)]; exact q) fun c xs q => by rw [upd_ne (ne_of_none q hn)]; exact q
end

/-- what may be read as u: it is u, or a known u -/
noncomputable def Rd (H : Hp) (a : Addr) (u : HO) : Prop := H a = some u ∨ ∃ o, H a = some (.frz o u)
theorem Rd.of {H : Hp} {a : Addr} {u : HO} (h : H a = some u) : Rd H a u := .inl h
theorem Rd.ok {P : Program} {w : World} {H : Hp} {h : Heap} {a : Addr} {u : HO} (r : Rd H a u) (x : HOk P w H h) : ObjOk P w H h a u := by
  rcases r with r | ⟨o, r⟩
  · exact x a u r
  · obtain ⟨_, q⟩ := x a _ r
    exact q
/-- what may be written -/
noncomputable def Mut : Option HO → Prop
  | some (.lst _) => True
  | some (.dK _) => True
  | some (.dT _) => True
  | some (.set _ _) => True
  | some (.ins _ _ _) => True
  | some (.ext _) => True
  | _ => False
section
variable {P : Program} {w : World} {H : Hp} {h h' : Heap} {x e : Addr} {o' : HO}
/-- the object at e is changed: x itself, or the dict of the instance x -/
theorem HOk.write (ok : HOk P w H h) (mu : Mut (H x)) (he : e = x ∨ H e = some (.own x)) (k : ∀ b u, b ≠ e → h.get? b = some u → h'.get? b = some u) (heo : ∃ u, h'.get? e = some u)
    (new : ObjOk P w (upd H x o') h' x o') : HOk P w (upd H x o') h' := fun b u q => by
  have nown : ∀ c y, H c = some (.own y) → c ≠ x := fun c y r z => by subst z; rw [r] at mu; exact mu
  have ntup : ∀ c xs, H c = some (.tup xs) → c ≠ x := fun c xs r z => by subst z; rw [r] at mu; exact mu
  by_cases hb : b = x
  · subst hb; rw [upd_same] at q; cases q; exact new
  · rw [upd_ne hb] at q
    by_cases hbe : b = e
    · have q' : H b = some (.own x) := by
        rcases he with z | z
        · exact absurd (hbe.trans z) hb
        · rw [hbe]; exact z
      rw [q] at q'; cases q'
      obtain ⟨v, hv⟩ := heo
      exact ⟨v, by rw [hbe]; exact hv⟩
    · refine (ok b u q).stay (fun c v hc r => k c v ?_ r) (fun c r => by rw [upd_ne (nown c b r)]; exact r) fun c xs r => by rw [upd_ne (ntup c xs r)]; exact r
      rcases hc with rfl | hc
      · exact hbe
      · rintro rfl
        rcases he with z | z
        · exact nown c b hc z
        · rw [hc] at z; cases z; exact hb rfl
end

/-! ### kept unless tracked; of the frames at fs (the callers') the slots may change (an exception that passes writes there); of the records at ex (iterators) nothing is said -/
structure Un (fs ex : List Addr) (H H' : Hp) (h h' : Heap) : Prop where
  keep : ∀ b o, h.get? b = some o → H b = none → b ∉ fs → b ∉ ex → h'.get? b = some o
  slot : ∀ b o, h.get? b = some o → H b = none → b ∈ fs → b ∉ ex → ∃ sl, h'.get? b = some { o with slots := sl }
  free : ∀ b o, h.get? b = some o → H b = none → b ∉ ex → H' b = none
  there : ∀ b o, h.get? b = some o → b ∉ ex → ∃ o', h'.get? b = some o'
  tups : ∀ b xs, H b = some (.tup xs) → H' b = some (.tup xs)
  frzs : ∀ b o u, H b = some (.frz o u) → H' b = some (.frz o u)
  tbls : ∀ b ps, H b = some (.tbl ps) → ∃ more, H' b = some (.tbl (ps ++ more))
section
variable {fs fs' ex ex' : List Addr} {H H1 H2 : Hp} {h h1 h2 h' : Heap} {a x e : Addr} {o : HO}
theorem Un.any (u : Un fs ex H H1 h h1) {b : Addr} {ob : Obj} (q : h.get? b = some ob) (n : H b = none) (hx : b ∉ ex) : ∃ sl, h1.get? b = some { ob with slots := sl } := by
  by_cases hb : b ∈ fs
  · exact u.slot b ob q n hb hx
  · exact ⟨ob.slots, u.keep b ob q n hb hx⟩
theorem Un.trans (a : Un fs ex H H1 h h1) (b : Un fs ex H1 H2 h1 h2) : Un fs ex H H2 h h2 where
  keep := fun c ob q n hc hx => b.keep c ob (a.keep c ob q n hc hx) (a.free c ob q n hx) hc hx
  slot := fun c ob q n hc hx => by
    obtain ⟨sl, e1⟩ := a.slot c ob q n hc hx
    obtain ⟨sl', e2⟩ := b.slot c _ e1 (a.free c ob q n hx) hc hx
    exact ⟨sl', e2⟩
  free := fun c ob q n hx => by
    obtain ⟨o', e1⟩ := a.there c ob q hx
    exact b.free c o' e1 (a.free c ob q n hx) hx
  there := fun c ob q hx => by
    obtain ⟨o', e1⟩ := a.there c ob q hx
    exact b.there c o' e1 hx
  tups := fun c xs q => b.tups c xs (a.tups c xs q)
  frzs := fun c ob xs q => b.frzs c ob xs (a.frzs c ob xs q)
  tbls := fun c ps q => by
    obtain ⟨m1, e1⟩ := a.tbls c ps q
    obtain ⟨m2, e2⟩ := b.tbls c _ e1
    exact ⟨m1 ++ m2, by rw [e2, Array.append_assoc]⟩
theorem Un.kept (k : ∀ b u, h.get? b = some u → h'.get? b = some u) : Un fs ex H H h h' :=
  ⟨fun b ob q _ _ _ => k b ob q, fun b ob q _ _ _ => ⟨ob.slots, k b ob q⟩, fun _ _ _ n _ => n, fun b ob q _ => ⟨ob, k b ob q⟩, fun _ _ q => q, fun _ _ _ q => q, fun _ ps q => ⟨#[], by rw [q]; simp⟩⟩
theorem Un.refl : Un fs ex H H h h := Un.kept fun _ _ q => q
theorem Un.laid (k : ∀ b u, h.get? b = some u → h'.get? b = some u) (hp : h.objs.size ≤ a) (hn : H a = none) : Un fs ex H (upd H a o) h h' where
  keep := fun b u q _ _ _ => k b u q
  slot := fun b u q _ _ _ => ⟨u.slots, k b u q⟩
  free := fun b u q n _ => by rw [upd_ne (Nat.ne_of_lt (Nat.lt_of_lt_of_le (Heap.lt_size q) hp))]; exact n
  there := fun b u q _ => ⟨u, k b u q⟩
  tups := fun b xs q => by rw [upd_ne (ne_of_none q hn)]; exact q
  frzs := fun b u xs q => by rw [upd_ne (ne_of_none q hn)]; exact q
  tbls := fun b ps q => ⟨#[], by rw [upd_ne (ne_of_none q hn), q]; simp⟩
theorem Un.write (mu : Mut (H x)) (he : e = x ∨ H e = some (.own x)) (k : ∀ b u, b ≠ e → h.get? b = some u → h'.get? b = some u) (heo : ∃ u, h'.get? e = some u) : Un fs ex H (upd H x o) h h' := by
  have hx : ∀ b, H b = none → b ≠ x := fun b n z => by subst z; rw [n] at mu; exact mu
  have hb : ∀ b, H b = none → b ≠ e := fun b n z => by
    subst z
    rcases he with r | r
    · exact hx b n r
    · rw [n] at r; cases r
  have hm : ∀ b u, H b = some u → ¬ Mut (some u) → b ≠ x := fun b u q nm z => by subst z; rw [q] at mu; exact nm mu
  refine ⟨fun b u q n _ _ => k b u (hb b n) q, fun b u q n _ _ => ⟨u.slots, k b u (hb b n) q⟩, fun b u q n _ => by rw [upd_ne (hx b n)]; exact n, fun b u q _ => ?_,
    fun b xs q => by rw [upd_ne (hm b _ q fun z => z)]; exact q, fun b u xs q => by rw [upd_ne (hm b _ q fun z => z)]; exact q, fun b ps q => ⟨#[], by rw [upd_ne (hm b _ q fun z => z), q]; simp⟩⟩
  by_cases hbe : b = e
  · subst hbe; exact heo
  · exact ⟨u, k b u hbe q⟩
theorem Un.mono (u : Un fs ex H H1 h h1) (hs : ∀ b ∈ fs, b ∈ fs') (hx : ∀ b ∈ ex, b ∈ ex') : Un fs' ex' H H1 h h1 :=
  ⟨fun b ob q n hb he => u.keep b ob q n (fun z => hb (hs b z)) fun z => he (hx b z), fun _ _ q n _ he => u.any q n fun z => he (hx _ z), fun b ob q n he => u.free b ob q n fun z => he (hx b z), fun b ob q he => u.there b ob q fun z => he (hx b z), u.tups, u.frzs, u.tbls⟩
end

/-! ### the heap without what is tracked -/
noncomputable def trk (h : Heap) (H : Hp) : List Addr := (List.range h.objs.size).filter fun a => (H a).isSome
noncomputable def hidT (h : Heap) (H : Hp) : Heap := PySem.W.hideAll h (trk h H)
theorem hidT_size (h : Heap) (H : Hp) : (hidT h H).objs.size = h.objs.size := PySem.W.hideAll_size _ _
theorem hidT_get {h : Heap} {H : Hp} {b : Addr} {o : Obj} (e : h.get? b = some o) (n : H b = none) : (hidT h H).get? b = some o :=
  PySem.W.hideAll_get _ e fun hm => by
    have q : (H b).isSome = true := (List.mem_filter.mp hm).2
    rw [n] at q; simp at q
theorem of_hidT {h : Heap} {H : Hp} {b : Addr} {o : Obj} (e : (hidT h H).get? b = some o) : h.get? b = some o ∧ H b = none := by
  have e' : h.get? b = some o := PySem.W.of_hideAll (trk h H) e
  refine ⟨e', ?_⟩
  cases q : H b with
  | none => rfl
  | some x =>
    have hm : b ∈ trk h H := List.mem_filter.mpr ⟨List.mem_range.mpr (Heap.lt_size e'), by simp [q]⟩
    have z : (hidT h H).get? b = none := PySem.W.hideAll_none (trk h H) hm
    rw [z] at e; cases e

/-! ### OpenK's ledger, filled with every new object but one -/
noncomputable def allNews (g h : Heap) (L : Addr) : List (Addr × Obj) := (List.range h.objs.size).filterMap fun a => if a = L ∨ (g.get? a).isSome = true then none else (h.get? a).map fun o => (a, o)
noncomputable def rest (g h : Heap) (L d : Addr) : List (Addr × Obj) := (allNews g h L).filter fun p => decide (p.1 ≠ d)
end L2

namespace L2
open PySem PySem.Spec PyProof.Rows

/-- the module's facts, over the base: the heap at the law's entry without what is tracked there -/
structure Mod (K : PySem.W.Frag) (mg : Str → Option Value) (base : Heap) : Prop where
  kin : K.In base
  glob : base.Ns mainGlobals mg
  blt : ∃ mb, base.Ns builtinsNs mb ∧ ∀ x : Str, x ≠ "__name__" → mb x = bootBuiltins x
  nolimit : base.NoLimit

/-- the context: a def's body (or a comprehension's block) running. base: fixed through the whole law; s₀, H₀: the entry; outer: the frames whose slots others may change (a def's callers); stack: all frames that run;
   ex: iterators that were made ahead of the entry and are walked here (a comprehension's); fn: the names whose cells were made at the entry (a def: all; a comprehension's block: its own); calm: not within an except suite; pn: pins that every state bears; xe: what is wanted of an exception that leaves the code -/
structure Cx where
  prog : Program
  w : World
  K : PySem.W.Frag
  mg : Str → Option Value
  base : Heap
  A : Around
  N : List Str
  s₀ : Shared
  H₀ : Hp
  env : Env
  outer : List Env
  stack : List Env
  ex : List Addr
  fn : Str → Bool
  calm : Bool
  pn : List (Addr × Obj)
  xe : Value → Shared → Prop
/-- the callers' frames -/
noncomputable def frs (l : List Env) : List Addr := l.filterMap (·.frame)
noncomputable abbrev Cx.fs (X : Cx) : List Addr := frs X.outer

noncomputable def Vis (sc : Scope) (x : Str) : Prop := sc.names.lookup x = some .local ∨ sc.names.lookup x = some .cell ∨ sc.names.lookup x = some .free
noncomputable def Loc (sc : Scope) (x : Str) : Prop := sc.names.lookup x = some .local ∨ sc.names.lookup x = some .cell
noncomputable def Look (env : Env) (h : Heap) (m : Str → Option Value) (x : Str) (u : Value) : Prop :=
  (env.kindOf x = some .local ∧ m x = some u) ∨ ((env.kindOf x = some .cell ∨ env.kindOf x = some .free) ∧ ∃ c, env.cells.lookup x = some c ∧ h.IsCell c (some u))

structure Cx.Ok (X : Cx) : Prop where
  mod : Mod X.K X.mg X.base
  kind : X.env.scope.kind = .function
  glob : X.env.globals = mainGlobals
  blt : X.env.builtins = builtinsNs
  above : X.s₀.heap.objs.size ≤ X.env.locals
  inj : ∀ x y c, X.env.cells.lookup x = some c → X.env.cells.lookup y = some c → x = y
  has : ∀ x, (X.env.kindOf x = some .cell ∨ X.env.kindOf x = some .free) → ∃ c, X.env.cells.lookup x = some c
  cab : ∀ x c, X.fn x = true → X.env.cells.lookup x = some c → X.s₀.heap.objs.size ≤ c
  hd : X.calm = true → X.A.handled = none
  frames : X.A.frames = some X.stack
  stk : X.stack = X.outer ∨ (X.stack = X.env :: X.outer ∧ X.env.frame = some X.env.locals)
  exf : ∀ b ∈ X.ex, b ≠ X.env.locals ∧ ∀ x c, X.env.cells.lookup x = some c → c ≠ b
  bs : ∀ b o, X.base.get? b = some o → X.s₀.heap.get? b = some o ∧ X.H₀ b = none
  bsz : X.base.objs.size ≤ X.s₀.heap.objs.size
  noex : ∀ b o, X.base.get? b = some o → b ∉ X.ex
  exfs : ∀ b ∈ X.ex, b ∉ X.fs
  funs : X.s₀.heap.FunFrames X.base X.outer
  frf : ∀ b ∈ X.fs, X.H₀ b = none

structure Inv (X : Cx) (pins : List (Addr × Obj)) (σ : List (Option V)) (H : Hp) (s : Shared) : Prop where
  ok : X.Ok
  os : s.os = X.s₀.os
  bare : AllBare s.gens
  base : Un X.fs X.ex X.H₀ H X.s₀.heap s.heap
  loc : ∃ m, s.heap.Ns X.env.locals m ∧ ∀ (i : Nat) (x : Str) (v : V), X.N[i]? = some x → σ[i]? = some (some v) → Vis X.env.scope x → ∃ u, RelV v u ∧ Look X.env s.heap m x u
  cell : ∀ x c, X.env.cells.lookup x = some c → ∃ v, s.heap.IsCell c v
  free : H X.env.locals = none
  freeC : ∀ x c, X.env.cells.lookup x = some c → H c = none
  pin : ∀ p ∈ X.pn ++ pins, s.heap.get? p.1 = some p.2 ∧ H p.1 = none ∧ p.1 ≠ X.env.locals ∧ p.1 ∉ X.fs ∧ ∀ v, p.2.data ≠ .cell v
  hok : HOk X.prog X.w H s.heap
  len : σ.length = X.N.length

section
variable {X : Cx} {pins : List (Addr × Obj)} {σ : List (Option V)} {H H' : Hp} {s : Shared} {h' : Heap}

theorem Cx.Ok.nofr (ok : X.Ok) {b : Addr} {o : Obj} (e : X.base.get? b = some o) : b ∉ X.fs := fun hb => by
  have := (ok.funs.mem hb).1
  rw [e] at this; cases this
theorem Inv.bs (I : Inv X pins σ H s) : ∀ b o, X.base.get? b = some o → s.heap.get? b = some o ∧ H b = none := fun b o e =>
  ⟨I.base.keep b o (I.ok.bs b o e).1 (I.ok.bs b o e).2 (I.ok.nofr e) (I.ok.noex b o e), I.base.free b o (I.ok.bs b o e).1 (I.ok.bs b o e).2 (I.ok.noex b o e)⟩
theorem Inv.bk (I : Inv X pins σ H s) : ∀ b o, X.base.get? b = some o → s.heap.get? b = some o := fun b o e => (I.bs b o e).1
theorem Inv.mod (I : Inv X pins σ H s) : Mod X.K X.mg X.base := I.ok.mod
theorem Inv.kIn (I : Inv X pins σ H s) : X.K.In s.heap := I.ok.mod.kin.keeps I.bk
theorem Inv.nolimit (I : Inv X pins σ H s) : s.heap.NoLimit := I.ok.mod.nolimit.keeps I.bk
/-- the frame over the base: for OpenK's rules (K.In X.base is I.mod.kin) -/
theorem Inv.fr (I : Inv X pins σ H s) : ∃ m, Fr X.base X.env.locals s.heap m :=
  let ⟨m, hn, _⟩ := I.loc
  ⟨m, hn, I.bk, Nat.le_trans I.ok.bsz I.ok.above⟩
theorem Inv.lt (I : Inv X pins σ H s) : X.env.locals < s.heap.objs.size := let ⟨_, hn, _⟩ := I.loc; hn.lt
theorem Inv.sz (I : Inv X pins σ H s) : X.s₀.heap.objs.size ≤ s.heap.objs.size := Nat.le_trans I.ok.above (Nat.le_of_lt I.lt)
theorem Inv.nofs (I : Inv X pins σ H s) {a : Addr} (h : s.heap.objs.size ≤ a) : a ∉ X.fs := fun hb => by
  obtain ⟨_, o, ho, _⟩ := I.ok.funs.mem hb
  exact absurd (Nat.lt_of_lt_of_le (Heap.lt_size ho) (Nat.le_trans I.sz h)) (Nat.lt_irrefl _)
theorem Inv.cne (I : Inv X pins σ H s) : ∀ x c, X.env.cells.lookup x = some c → c ≠ X.env.locals := fun x c e z => by
  obtain ⟨v, o, ho, hd⟩ := I.cell x c e
  obtain ⟨m, ⟨o', es, ep, ho', hd', _⟩, _⟩ := I.loc
  rw [z, ho'] at ho; cases ho; rw [hd'] at hd; cases hd
theorem Inv.funs (I : Inv X pins σ H s) : s.heap.FunFrames X.base X.outer := by
  have all : ∀ (l : List Env), (∀ b ∈ frs l, b ∈ X.fs) → X.s₀.heap.FunFrames X.base l → s.heap.FunFrames X.base l := by
    intro l
    induction l with
    | nil => intro _ _; trivial
    | cons env r ih =>
      intro hs hl
      obtain ⟨hk, ⟨L, o, hf, hn, ho, hd⟩, hr⟩ := hl
      have hL : L ∈ X.fs := hs L (by unfold frs; rw [List.filterMap_cons, hf]; exact List.mem_cons_self)
      obtain ⟨sl, e⟩ := I.base.slot L o ho (I.ok.frf L hL) hL fun z => I.ok.exfs L z hL
      exact ⟨hk, ⟨L, _, hf, hn, e, hd⟩, ih (fun b hb => hs b (by unfold frs; rw [List.filterMap_cons, hf]; exact List.mem_cons_of_mem _ hb)) hr⟩
  exact all X.outer (fun _ hb => hb) I.ok.funs

/-- the frames that run, for a call -/
theorem Inv.stack (I : Inv X pins σ H s) : s.heap.FunFrames X.base X.stack := by
  rcases I.ok.stk with e | ⟨e, hf⟩
  · rw [e]; exact I.funs
  · rw [e]
    obtain ⟨m, hn, _⟩ := I.loc
    refine .cons (by rw [I.ok.kind]; decide) hf hn ?_ I.funs
    exact Heap.get?_none_of_le (Nat.le_trans I.ok.bsz I.ok.above)
theorem Inv.stkSub (I : Inv X pins σ H s) : ∀ b ∈ frs X.stack, b ∈ X.env.locals :: X.fs := fun b hb => by
  rcases I.ok.stk with e | ⟨e, hf⟩
  · rw [e] at hb; exact List.mem_cons_of_mem _ hb
  · rw [e] at hb
    unfold frs at hb
    rw [List.filterMap_cons, hf] at hb
    exact hb
theorem Inv.stkFree (I : Inv X pins σ H s) : ∀ b ∈ frs X.stack, H b = none := fun b hb => by
  rcases List.mem_cons.mp (I.stkSub b hb) with e | hb
  · rw [e]; exact I.free
  · obtain ⟨_, o, ho, _⟩ := I.ok.funs.mem hb
    exact I.base.free b o ho (I.ok.frf b hb) fun z => I.ok.exfs b z hb

/-- THE STEP: the untracked objects but the frame and the records at ch are kept (the callers' frames up to slots), the frame's map is kept, the new abstract heap is held -/
theorem Inv.step {g' : Array GenState} {t' : Nat} {d' : Drawn} {ch : List Addr} (I : Inv X pins σ H s)
    (hch : ∀ b ∈ ch, (b ∈ X.ex ∨ X.s₀.heap.objs.size ≤ b) ∧ b ≠ X.env.locals ∧ (∀ x c, X.env.cells.lookup x = some c → c ≠ b) ∧ ∀ p ∈ X.pn ++ pins, p.1 ≠ b)
    (keep : ∀ b o, b ≠ X.env.locals → b ∉ X.fs → b ∉ ch → s.heap.get? b = some o → H b = none → h'.get? b = some o)
    (slot : ∀ b o, b ≠ X.env.locals → b ∈ X.fs → b ∉ ch → s.heap.get? b = some o → H b = none → ∃ sl, h'.get? b = some { o with slots := sl }) (free : ∀ b o, b ∉ ch → s.heap.get? b = some o → H b = none → H' b = none)
    (there : ∀ b o, b ∉ ch → s.heap.get? b = some o → ∃ o', h'.get? b = some o')
    (tups : ∀ b xs, H b = some (.tup xs) → H' b = some (.tup xs)) (frzs : ∀ b o u, H b = some (.frz o u) → H' b = some (.frz o u)) (tbls : ∀ b ps, H b = some (.tbl ps) → ∃ more, H' b = some (.tbl (ps ++ more)))
    (ns : ∀ m, s.heap.Ns X.env.locals m → h'.Ns X.env.locals m) (hok : HOk X.prog X.w H' h') (hg : AllBare g') :
    Inv X pins σ H' { s with heap := h', gens := g', drawn := d', toks := t' } := by
  have neL : ∀ b o, X.s₀.heap.get? b = some o → b ≠ X.env.locals := fun b o e => Nat.ne_of_lt (Nat.lt_of_lt_of_le (Heap.lt_size e) I.ok.above)
  have neC : ∀ b o, X.s₀.heap.get? b = some o → b ∉ X.ex → b ∉ ch := fun b o e hx hb => by
    rcases (hch b hb).1 with z | z
    · exact hx z
    · exact absurd (Nat.lt_of_lt_of_le (Heap.lt_size e) z) (Nat.lt_irrefl _)
  have cellK : ∀ x c, X.env.cells.lookup x = some c → ∀ v, s.heap.IsCell c v → h'.IsCell c v := fun x c e v ⟨o, ho, hd⟩ => by
    have nch : c ∉ ch := fun z => (hch c z).2.2.1 x c e rfl
    by_cases hc : c ∈ X.fs
    · obtain ⟨sl, q⟩ := slot c o (I.cne x c e) hc nch ho (I.freeC x c e)
      exact ⟨_, q, hd⟩
    · exact ⟨o, keep c o (I.cne x c e) hc nch ho (I.freeC x c e), hd⟩
  refine ⟨I.ok, I.os, hg, ⟨fun b o e n hb hx => ?_, fun b o e n hb hx => ?_, fun b o e n hx => ?_, fun b o e hx => ?_, fun b xs e => tups b xs (I.base.tups b xs e), fun b o xs e => frzs b o xs (I.base.frzs b o xs e), fun b ps e => ?_⟩, ?_, fun x c e => ?_, ?_, fun x c e => ?_, fun p hp => ?_, hok, I.len⟩
  · exact keep b o (neL b o e) hb (neC b o e hx) (I.base.keep b o e n hb hx) (I.base.free b o e n hx)
  · obtain ⟨sl, e1⟩ := I.base.slot b o e n hb hx
    obtain ⟨sl', e2⟩ := slot b _ (neL b o e) hb (neC b o e hx) e1 (I.base.free b o e n hx)
    exact ⟨sl', e2⟩
  · obtain ⟨o', e1⟩ := I.base.there b o e hx
    exact free b o' (neC b o e hx) e1 (I.base.free b o e n hx)
  · obtain ⟨o', e1⟩ := I.base.there b o e hx
    exact there b o' (neC b o e hx) e1
  · obtain ⟨m1, e1⟩ := I.base.tbls b ps e
    obtain ⟨m2, e2⟩ := tbls b _ e1
    exact ⟨m1 ++ m2, by rw [e2, Array.append_assoc]⟩
  · obtain ⟨m, hn, hl⟩ := I.loc
    refine ⟨m, ns m hn, fun i x v e1 e2 e3 => ?_⟩
    obtain ⟨u, r, l⟩ := hl i x v e1 e2 e3
    refine ⟨u, r, ?_⟩
    rcases l with l | ⟨k, c, e, z⟩
    · exact .inl l
    · exact .inr ⟨k, c, e, cellK x c e _ z⟩
  · obtain ⟨v, z⟩ := I.cell x c e
    exact ⟨v, cellK x c e v z⟩
  · obtain ⟨m, ⟨o, _, _, ho, _⟩, _⟩ := I.loc
    exact free _ o (fun z => (hch _ z).2.1 rfl) ho I.free
  · obtain ⟨v, o, ho, hd⟩ := I.cell x c e
    exact free c o (fun z => (hch c z).2.2.1 x c e rfl) ho (I.freeC x c e)
  · obtain ⟨e, n, ne, nf, d⟩ := I.pin p hp
    have nch : p.1 ∉ ch := fun z => (hch p.1 z).2.2.2 p hp rfl
    exact ⟨keep p.1 p.2 ne nf nch e n, free p.1 p.2 nch e n, ne, nf, d⟩
/-- .. where the frame's own object is kept too -/
theorem Inv.un {t' : Nat} (I : Inv X pins σ H s) (u : Un X.fs [] H H' s.heap h') (hok : HOk X.prog X.w H' h') : Inv X pins σ H' { s with heap := h', toks := t' } := by
  obtain ⟨m, ⟨o, es, ep, ho, r⟩, _⟩ := id I.loc
  obtain ⟨sl, hL⟩ := u.any ho I.free (by simp)
  exact I.step (g' := s.gens) (d' := s.drawn) (ch := []) (fun _ z => nomatch z) (fun b o _ hb _ e n => u.keep b o e n hb (by simp)) (fun b o _ hb _ e n => u.slot b o e n hb (by simp)) (fun b o _ e n => u.free b o e n (by simp)) (fun b o _ e => u.there b o e (by simp)) u.tups u.frzs u.tbls (fun m' hm => by
    obtain ⟨o', es', ep', ho', r'⟩ := hm
    rw [ho] at ho'; cases ho'
    exact ⟨_, es', ep', hL, r'⟩) hok I.bare
/-- behind a call (or a comprehension's block): the slots of this frame may have changed too, the records at ch may have turned -/
theorem Inv.call {g' : Array GenState} {t' : Nat} {d' : Drawn} {ch : List Addr} (I : Inv X pins σ H s) (u : Un (frs X.stack) ch H H' s.heap h') (hok : HOk X.prog X.w H' h') (hg : AllBare g')
    (hch : ∀ b ∈ ch, (b ∈ X.ex ∨ X.s₀.heap.objs.size ≤ b) ∧ b ≠ X.env.locals ∧ (∀ x c, X.env.cells.lookup x = some c → c ≠ b) ∧ ∀ p ∈ X.pn ++ pins, p.1 ≠ b) :
    Inv X pins σ H' { s with heap := h', gens := g', drawn := d', toks := t' } := by
  obtain ⟨m, ⟨o, es, ep, ho, r⟩, _⟩ := id I.loc
  obtain ⟨sl, hL⟩ := u.any ho I.free fun z => (hch _ z).2.1 rfl
  exact I.step (ch := ch) hch (fun b o hL hb hc e n => u.keep b o e n (fun z => (List.mem_cons.mp (I.stkSub b z)).elim hL hb) hc) (fun b o _ _ hc e n => u.any e n hc) (fun b o hc e n => u.free b o e n hc) (fun b o hc e => u.there b o e hc) u.tups u.frzs u.tbls (fun m' hm => by
    obtain ⟨o', es', ep', ho', r'⟩ := hm
    rw [ho] at ho'; cases ho'
    exact ⟨_, es', ep', hL, r'⟩) hok hg
/-- an untracked record of ours (an iterator) has turned -/
theorem Inv.turned {t' : Nat} {it : Addr} (I : Inv X pins σ H s) (k : ∀ b o, b ≠ it → s.heap.get? b = some o → h'.get? b = some o) (hn : H it = none) (hL : it ≠ X.env.locals)
    (h1 : it ∈ X.ex ∨ X.s₀.heap.objs.size ≤ it) (h2 : ∀ x c, X.env.cells.lookup x = some c → c ≠ it) (h3 : ∀ p ∈ X.pn ++ pins, p.1 ≠ it) : Inv X pins σ H { s with heap := h', toks := t' } := by
  have nit : ∀ b u, H b = some u → b ≠ it := fun b u e z => by rw [z, hn] at e; cases e
  refine I.step (g' := s.gens) (d' := s.drawn) (ch := [it]) (fun b hb => ?_) (fun b o _ _ hc e _ => k b o (fun z => hc (by simp [z])) e) (fun b o _ _ hc e _ => ⟨o.slots, k b o (fun z => hc (by simp [z])) e⟩) (fun _ _ _ _ n => n)
    (fun b o hc e => ⟨o, k b o (fun z => hc (by simp [z])) e⟩) (fun _ _ e => e) (fun _ _ _ e => e) (fun b ps e => ⟨#[], by rw [e]; simp⟩) (fun m hm => ?_) (fun b u e => ?_) I.bare
  · have e : b = it := by simpa using hb
    subst e
    exact ⟨h1, hL, h2, h3⟩
  · obtain ⟨o, es, ep, ho, r⟩ := hm
    exact ⟨o, es, ep, k _ o (Ne.symm hL) ho, r⟩
  · refine (I.hok b u e).stay (fun c v hc q => k c v ?_ q) (fun _ q => q) fun _ _ q => q
    rcases hc with z | z
    · rw [z]; exact nit b u e
    · exact nit c _ z
theorem Inv.tok (I : Inv X pins σ H s) (t : Nat) : Inv X pins σ H { s with toks := t } := I.un (h' := s.heap) (t' := t) Un.refl I.hok
/-- all objects kept -/
theorem Inv.kept {t' : Nat} (I : Inv X pins σ H s) (k : ∀ b u, s.heap.get? b = some u → h'.get? b = some u) : Inv X pins σ H { s with heap := h', toks := t' } := I.un (Un.kept k) (I.hok.kept k)
/-- a new object laid and tracked -/
theorem Inv.laid {a : Addr} {o : HO} {t' : Nat} (I : Inv X pins σ H s) (k : ∀ b u, s.heap.get? b = some u → h'.get? b = some u) (hp : s.heap.objs.size ≤ a) (new : ObjOk X.prog X.w (upd H a o) h' a o) :
    Inv X pins σ (upd H a o) { s with heap := h', toks := t' } := I.un (Un.laid k hp (I.hok.fresh hp)) (I.hok.laid k hp new)
/-- an object written -/
theorem Inv.write {x e : Addr} {o : HO} {t' : Nat} (I : Inv X pins σ H s) (mu : Mut (H x)) (he : e = x ∨ H e = some (.own x)) (k : ∀ b u, b ≠ e → s.heap.get? b = some u → h'.get? b = some u) (heo : ∃ u, h'.get? e = some u)
    (new : ObjOk X.prog X.w (upd H x o) h' x o) : Inv X pins σ (upd H x o) { s with heap := h', toks := t' } := I.un (Un.write mu he k heo) (I.hok.write mu he k heo new)
/-- forgetting slots, pins -/
theorem Inv.weak {σ' : List (Option V)} (I : Inv X pins σ H s) (hl : σ'.length = σ.length) (w : ∀ (i : Nat) v, σ'[i]? = some (some v) → σ[i]? = some (some v)) : Inv X pins σ' H s :=
  ⟨I.ok, I.os, I.bare, I.base, let ⟨m, hn, hl'⟩ := I.loc; ⟨m, hn, fun i x v e1 e2 e3 => hl' i x v e1 (w i v e2) e3⟩, I.cell, I.free, I.freeC, I.pin, I.hok, hl.trans I.len⟩
theorem Inv.pins_of {pins' : List (Addr × Obj)} (I : Inv X pins σ H s) (h : ∀ p ∈ pins', s.heap.get? p.1 = some p.2 ∧ H p.1 = none ∧ p.1 ≠ X.env.locals ∧ p.1 ∉ X.fs ∧ ∀ v, p.2.data ≠ .cell v) : Inv X pins' σ H s :=
  ⟨I.ok, I.os, I.bare, I.base, I.loc, I.cell, I.free, I.freeC, fun p hp => (List.mem_append.mp hp).elim (fun z => I.pin p (List.mem_append_left _ z)) (h p), I.hok, I.len⟩

theorem nodup_ix {N : List Str} (hN : N.Nodup) {i j : Nat} {x : Str} (a : N[i]? = some x) (b : N[j]? = some x) : i = j := by
  obtain ⟨h1, e1⟩ := List.getElem?_eq_some_iff.mp a
  obtain ⟨h2, e2⟩ := List.getElem?_eq_some_iff.mp b
  exact (List.getElem_inj hN).mp (e1.trans e2.symm)

/-- a name is stored; what changed -/
theorem store_ok2 {M : Model} {A : Around} {E : Value → Shared → Prop} {i : Nat} {x : Str} {v : V} {u : Value} {Q : Unit → Shared → Prop} (I : Inv X pins σ H s) (hN : X.N.Nodup) (hi : X.N[i]? = some x) (hx : Loc X.env.scope x) (r : RelV v u)
    (h : ∀ s', Inv X pins (σ.set i (some v)) H s' → (∃ a, Heap.SameBut a s.heap s'.heap ∧ (a = X.env.locals ∨ X.env.cells.lookup x = some a)) → Q () s') (hf : X.fn x = true ∨ X.env.scope.names.lookup x = some .local := by first | exact .inl rfl | exact .inr rfl | assumption) : wpAny M A (storeName X.env x u) Q E s := by
  obtain ⟨m, hn, hl⟩ := id I.loc
  have hcls : (X.env.scope.kind == .class || (X.env.scope.kind == .module && X.env.locals != X.env.globals)) = false := by rw [I.ok.kind]; rfl
  have hiσ : i < σ.length := by rw [I.len]; exact (List.getElem?_eq_some_iff.mp hi).1
  have cne := I.cne
  have tracked : ∀ {a : Addr} {h' : Heap}, (∃ o, s.heap.get? a = some o ∧ H a = none) → Heap.SameBut a s.heap h' → HOk X.prog X.w H h' := fun {a h'} ha hs b ob e => by
    obtain ⟨_, _, hfree⟩ := ha
    refine (I.hok b ob e).stay (fun c w' hc q => (hs.2 c ?_).trans q) (fun _ q => q) fun _ _ q => q
    rintro rfl
    rcases hc with rfl | hc
    · rw [hfree] at e; cases e
    · rw [hfree] at hc; cases hc
  rcases hx with hk | hk
  · refine wpAny_storeName_local hk hn (fun h' hn' hs => ?_) hcls
    obtain ⟨oL, _, _, hoL, _⟩ := id hn
    refine h _ ⟨I.ok, I.os, I.bare, ⟨fun b o e n hb hx => ?_, fun b o e n hb hx => ?_, I.base.free, fun b o e hx => ?_, I.base.tups, I.base.frzs, I.base.tbls⟩, ⟨_, hn', fun j y v' e1 e2 e3 => ?_⟩, fun y c e => ?_, I.free, I.freeC, fun p hp => ?_, tracked ⟨oL, hoL, I.free⟩ hs, by simpa using I.len⟩ ⟨_, hs, .inl rfl⟩
    · exact (hs.2 b (Nat.ne_of_lt (Nat.lt_of_lt_of_le (Heap.lt_size e) I.ok.above))).trans (I.base.keep b o e n hb hx)
    · obtain ⟨sl, e1⟩ := I.base.slot b o e n hb hx
      exact ⟨sl, (hs.2 b (Nat.ne_of_lt (Nat.lt_of_lt_of_le (Heap.lt_size e) I.ok.above))).trans e1⟩
    · obtain ⟨o', e1⟩ := I.base.there b o e hx
      exact ⟨o', (hs.2 b (Nat.ne_of_lt (Nat.lt_of_lt_of_le (Heap.lt_size e) I.ok.above))).trans e1⟩
    · by_cases hj : j = i
      · subst hj
        rw [hi] at e1; cases e1
        rw [List.getElem?_set_self hiσ] at e2
        cases e2
        exact ⟨u, r, .inl ⟨hk, by simp⟩⟩
      · rw [List.getElem?_set_ne (Ne.symm hj)] at e2
        obtain ⟨u', r', q⟩ := hl j y v' e1 e2 e3
        refine ⟨u', r', ?_⟩
        rcases q with ⟨k, e⟩ | ⟨k, c, e, z⟩
        · refine .inl ⟨k, ?_⟩
          have : y ≠ x := fun e => hj (nodup_ix hN e1 (e ▸ hi))
          simp [this, e]
        · exact .inr ⟨k, c, e, z.sameBut hs (cne y c e)⟩
    · obtain ⟨w', z⟩ := I.cell y c e
      exact ⟨w', z.sameBut hs (cne y c e)⟩
    · obtain ⟨e, n, ne, nf, d⟩ := I.pin p hp
      exact ⟨(hs.2 p.1 ne).trans e, n, ne, nf, d⟩
  · have hfn : X.fn x = true := by
      rcases hf with z | z
      · exact z
      · rw [z] at hk; cases hk
    obtain ⟨c, hc⟩ := I.ok.has x (.inl hk)
    obtain ⟨w', z⟩ := I.cell x c hc
    refine wpAny_storeName_cell I.ok.kind hk hc z (fun h' hc' hs => ?_)
    obtain ⟨oc, hoc, hocd⟩ := id z
    refine h { s with heap := h' } ⟨I.ok, I.os, I.bare, ⟨fun b o e n hb hx => ?_, fun b o e n hb hx => ?_, I.base.free, fun b o e hx => ?_, I.base.tups, I.base.frzs, I.base.tbls⟩, ⟨m, hn.sameBut hs (Ne.symm (cne x c hc)), fun j y v' e1 e2 e3 => ?_⟩, fun y c' e => ?_, I.free, I.freeC, fun p hp => ?_, tracked ⟨oc, hoc, I.freeC x c hc⟩ hs, by simpa using I.len⟩ ⟨c, hs, .inr hc⟩
    · exact (hs.2 b (Nat.ne_of_lt (Nat.lt_of_lt_of_le (Heap.lt_size e) (I.ok.cab x c hfn hc)))).trans (I.base.keep b o e n hb hx)
    · obtain ⟨sl, e1⟩ := I.base.slot b o e n hb hx
      exact ⟨sl, (hs.2 b (Nat.ne_of_lt (Nat.lt_of_lt_of_le (Heap.lt_size e) (I.ok.cab x c hfn hc)))).trans e1⟩
    · obtain ⟨o', e1⟩ := I.base.there b o e hx
      exact ⟨o', (hs.2 b (Nat.ne_of_lt (Nat.lt_of_lt_of_le (Heap.lt_size e) (I.ok.cab x c hfn hc)))).trans e1⟩
    · by_cases hj : j = i
      · subst hj
        rw [hi] at e1; cases e1
        rw [List.getElem?_set_self hiσ] at e2
        cases e2
        exact ⟨u, r, .inr ⟨.inl hk, c, hc, hc'⟩⟩
      · rw [List.getElem?_set_ne (Ne.symm hj)] at e2
        obtain ⟨u', r', q⟩ := hl j y v' e1 e2 e3
        refine ⟨u', r', ?_⟩
        rcases q with q | ⟨k, c', e, z'⟩
        · exact .inl q
        · refine .inr ⟨k, c', e, z'.sameBut hs ?_⟩
          rintro rfl
          exact hj (nodup_ix hN e1 (I.ok.inj _ _ _ e hc ▸ hi))
    · by_cases hcc : c' = c
      · subst hcc; exact ⟨_, hc'⟩
      · obtain ⟨w2, z2⟩ := I.cell y c' e
        exact ⟨w2, z2.sameBut hs hcc⟩
    · obtain ⟨e, n, ne, nf, d⟩ := I.pin p hp
      refine ⟨(hs.2 p.1 ?_).trans e, n, ne, nf, d⟩
      intro q
      rw [q, hoc] at e
      have q' : oc = p.2 := Option.some.inj e
      exact d w' (by rw [← q']; exact hocd)
theorem store_ok {M : Model} {A : Around} {E : Value → Shared → Prop} {i : Nat} {x : Str} {v : V} {u : Value} {Q : Unit → Shared → Prop} (I : Inv X pins σ H s) (hN : X.N.Nodup) (hi : X.N[i]? = some x) (hx : Loc X.env.scope x) (r : RelV v u)
    (h : ∀ s', Inv X pins (σ.set i (some v)) H s' → Q () s') (hf : X.fn x = true ∨ X.env.scope.names.lookup x = some .local := by first | exact .inl rfl | exact .inr rfl | assumption) : wpAny M A (storeName X.env x u) Q E s :=
  store_ok2 I hN hi hx r (fun s' I' _ => h s' I') hf
/-- behind a call or a block, the state as it is -/
theorem Inv.call' {s' : Shared} {ch : List Addr} (I : Inv X pins σ H s) (ho : s'.os = s.os) (u : Un (frs X.stack) ch H H' s.heap s'.heap) (hok : HOk X.prog X.w H' s'.heap) (hg : AllBare s'.gens)
    (hch : ∀ b ∈ ch, (b ∈ X.ex ∨ X.s₀.heap.objs.size ≤ b) ∧ b ≠ X.env.locals ∧ (∀ x c, X.env.cells.lookup x = some c → c ≠ b) ∧ ∀ p ∈ X.pn ++ pins, p.1 ≠ b) : Inv X pins σ H' s' := by
  obtain ⟨h', g', d', t', o'⟩ := s'
  have e : o' = s.os := ho
  subst e
  exact I.call (g' := g') (t' := t') (d' := d') u hok hg hch
end

/-! ### the judgements -/
/-- an exception: its class, its own dict's address (where it has one), the abstract heap behind it -/
noncomputable abbrev XK := Value → Option Addr → Hp → Prop
noncomputable abbrev St := List (Option V)
noncomputable abbrev VK := V → Hp → Prop
/-- an expression's reading; a test's; an argument list's -/
noncomputable abbrev TE := St → Hp → VK → Prop
noncomputable abbrev TT := St → Hp → (Bool → Hp → Prop) → Prop
noncomputable abbrev TA := St → Hp → (List V → Hp → Prop) → Prop
/-- what is wanted behind a statement -/
structure Ends where
  nx : St → Hp → Prop
  rt : VK
  bk : St → Hp → Prop := fun _ _ => False
  ct : St → Hp → Prop := fun _ _ => False
noncomputable abbrev TS := Ends → St → Hp → Prop

noncomputable def EP (X : Cx) (pins : List (Addr × Obj)) (σ : St) (Q : VK) (u : Value) (s' : Shared) : Prop := ∃ v H', Inv X pins σ H' s' ∧ RelV v u ∧ Q v H'
noncomputable def TP (X : Cx) (pins : List (Addr × Obj)) (σ : St) (Q : Bool → Hp → Prop) (b : Bool) (s' : Shared) : Prop := ∃ H', Inv X pins σ H' s' ∧ Q b H'
noncomputable def AP (X : Cx) (pins : List (Addr × Obj)) (σ : St) (Q : List V → Hp → Prop) (us : List Value) (s' : Shared) : Prop := ∃ vs H', Inv X pins σ H' s' ∧ Vals vs us ∧ Q vs H'
noncomputable def SP (X : Cx) (pins : List (Addr × Obj)) (D : Ends) (f : Flow) (s' : Shared) : Prop :=
  match f with
  | .next => ∃ σ' H', Inv X pins σ' H' s' ∧ D.nx σ' H'
  | .brk => ∃ σ' H', Inv X pins σ' H' s' ∧ D.bk σ' H'
  | .cont => ∃ σ' H', Inv X pins σ' H' s' ∧ D.ct σ' H'
  | .ret u => ∃ v σ' H', Inv X pins σ' H' s' ∧ RelV v u ∧ D.rt v H'

noncomputable def PE (X : Cx) (e : Expr) (t : TE) : Prop :=
  ∀ (pins : List (Addr × Obj)) (s : Shared) (σ : St) (H : Hp) (Q : VK), Inv X pins σ H s → t σ H Q → wpAny (model X.prog X.w) X.A (eval e X.env) (EP X pins σ Q) X.xe s
noncomputable def PT (X : Cx) (e : Expr) (t : TT) : Prop :=
  ∀ (pins : List (Addr × Obj)) (s : Shared) (σ : St) (H : Hp) (Q : Bool → Hp → Prop), Inv X pins σ H s → t σ H Q → wpAny (model X.prog X.w) X.A (isTrue e X.env (eval e X.env)) (TP X pins σ Q) X.xe s
/-- a test whatever its 'whole' is (and, or) -/
noncomputable def PW (X : Cx) (e : Expr) (t : TT) : Prop :=
  ∀ (whole : Sem Value) (pins : List (Addr × Obj)) (s : Shared) (σ : St) (H : Hp) (Q : Bool → Hp → Prop), Inv X pins σ H s → t σ H Q → wpAny (model X.prog X.w) X.A (isTrue e X.env whole) (TP X pins σ Q) X.xe s
theorem PW.pt {X : Cx} {e : Expr} {t : TT} (h : PW X e t) : PT X e t := h _
/-- an argument list (no star), from the left -/
noncomputable def PA (X : Cx) (es : List Expr) (t : TA) : Prop :=
  ∀ (pos : Pos) (pins : List (Addr × Obj)) (s : Shared) (σ : St) (H : Hp) (Q : List V → Hp → Prop), Inv X pins σ H s → t σ H Q → wpAny (model X.prog X.w) X.A (spliced (backTo pos (starEach es X.env))) (AP X pins σ Q) X.xe s
noncomputable def PS (X : Cx) (st : Stmt) (t : TS) : Prop :=
  ∀ (pins : List (Addr × Obj)) (s : Shared) (σ : St) (H : Hp) (D : Ends), Inv X pins σ H s → t D σ H → wpAny (model X.prog X.w) X.A (exec st X.env) (SP X pins D) X.xe s
noncomputable def PSs (X : Cx) (st : List Stmt) (t : TS) : Prop :=
  ∀ (pins : List (Addr × Obj)) (s : Shared) (σ : St) (H : Hp) (D : Ends), Inv X pins σ H s → t D σ H → wpAny (model X.prog X.w) X.A (execs st X.env) (SP X pins D) X.xe s
/-- weaken the end -/
theorem thn {α : Type} {t : Sem α} {Q Q' : α → Shared → Prop} {M : Model} {A : Around} {E : Value → Shared → Prop} {s : Shared} (h : wpAny M A t Q E s) (hQ : ∀ a s, Q a s → Q' a s) : wpAny M A t Q' E s := wpAny_mono h hQ fun _ _ x => x
end L2

namespace L2
open PySem PySem.Spec PyProof.Rows
section
variable {X : Cx}

/-! ### names and constants -/
noncomputable def tVar (i : Nat) : TE := fun σ H Q => ∃ v, σ[i]? = some (some v) ∧ Q v H
noncomputable def tC (v : V) : TE := fun _ H Q => Q v H
theorem pe_var {i : Nat} {x : Str} {pos : Pos} (hN : X.N[i]? = some x) (hv : Vis X.env.scope x) (hd : (x == ("__debug__" : Str)) = false := by decide) (hcd : (x == ("__classdict__" : Str)) = false := by decide) : PE X (.Name x pos) (tVar i) := by
  intro pins s σ H Q I h
  obtain ⟨v, e, h⟩ := h
  obtain ⟨m, hn, hl⟩ := I.loc
  obtain ⟨u, r, l⟩ := hl i x v hN e hv
  have fin : EP X pins σ Q u s := ⟨v, H, I, r, h⟩
  rcases l with ⟨hk, hm⟩ | ⟨hk, c, hc, hcell⟩
  · exact wpAny_Name (wpAny_loadName_local I.ok.kind hk hn hm fin) hd
  · rcases hk with hk | hk
    · exact wpAny_Name (wpAny_loadName_cell I.ok.kind hk hc hcell fin) hd
    · exact wpAny_Name (wpAny_loadName_free I.ok.kind hk hc hcell fin hcd) hd
theorem pe_int {i j pos} : PE X (.Constant (.int i) j pos) (tC (.int i)) := fun _ _ _ H _ I h => wpAny_Constant_int ⟨.int i, H, I.tok _, ⟨_, rfl⟩, h⟩
theorem pe_bl {b j pos} : PE X (.Constant (.bool b) j pos) (tC (.bl b)) := fun _ _ _ H _ I h => Constant_bool ⟨.bl b, H, I, rfl, h⟩
/-- a global name of the def -/
noncomputable def Gl (X : Cx) (x : Str) : Prop := X.env.kindOf x = some .globalImplicit
theorem ld_glob {E : Value → Shared → Prop} {pins : List (Addr × Obj)} {s : Shared} {σ : St} {H : Hp} {x : Str} {u : Value} {pos : Pos} {Q : Value → Shared → Prop} (I : Inv X pins σ H s) (hg : Gl X x) (hm : X.mg x = some u) (h : Q u s)
    (hd : (x == ("__debug__" : Str)) = false := by decide) : wpAny (model X.prog X.w) X.A (eval (.Name x pos) X.env) Q E s :=
  Calls.Name_function_global I.ok.kind hg (Calls.loadGlobal_global (by rw [I.ok.glob]; exact I.mod.glob.keeps I.bk) hm h) hd
theorem ld_blt {E : Value → Shared → Prop} {pins : List (Addr × Obj)} {s : Shared} {σ : St} {H : Hp} {x : Str} {u : Value} {pos : Pos} {Q : Value → Shared → Prop} (I : Inv X pins σ H s) (hg : Gl X x) (hm : X.mg x = none) (hv : bootBuiltins x = some u) (h : Q u s)
    (hn : x ≠ "__name__" := by decide) (hd : (x == ("__debug__" : Str)) = false := by decide) : wpAny (model X.prog X.w) X.A (eval (.Name x pos) X.env) Q E s := by
  obtain ⟨mb, h1, h2⟩ := I.mod.blt
  exact Calls.Name_function_global I.ok.kind hg (Calls.loadGlobal_builtin (by rw [I.ok.glob]; exact I.mod.glob.keeps I.bk) hm (by rw [I.ok.blt]; exact h1.keeps I.bk) ((h2 x hn).trans hv) h) hd
/-- a module's constant, a class, a function, as a value -/
theorem pe_glob {x : Str} {v : V} {u : Value} {pos : Pos} (hg : Gl X x) (hm : X.mg x = some u) (r : RelV v u) (hd : (x == ("__debug__" : Str)) = false := by decide) : PE X (.Name x pos) (tC v) :=
  fun _ _ _ H _ I h => ld_glob I hg hm ⟨v, H, I, r, h⟩ hd
theorem pe_bltn {x : Str} {v : V} {u : Value} {pos : Pos} (hg : Gl X x) (hm : X.mg x = none) (hv : bootBuiltins x = some u) (r : RelV v u) (hn : x ≠ "__name__" := by decide) (hd : (x == ("__debug__" : Str)) = false := by decide) : PE X (.Name x pos) (tC v) :=
  fun _ _ _ H _ I h => ld_blt I hg hm hv ⟨v, H, I, r, h⟩ hn hd

/-! ### arithmetic -/
variable {a b : Expr} {ta tb : TE} {pos : Pos}
/-! ### comparisons -/
/-- a comparison as a value, as a test -/
noncomputable def tB (t : TE) : TT := fun σ H Q => t σ H fun x H1 => ∃ c, x = .bl c ∧ Q c H1
/-! ### and, or, not -/
variable {tA tB' : TT} {rest : List Expr}
noncomputable def tAnd (t u : TT) : TT := fun σ H Q => t σ H fun c H1 => if c = true then u σ H1 Q else Q false H1
noncomputable def tOr (t u : TT) : TT := fun σ H Q => t σ H fun c H1 => if c = true then Q true H1 else u σ H1 Q
noncomputable def tNot (t : TT) : TT := fun σ H Q => t σ H fun c H1 => Q (!c) H1
theorem pw_and1 (ha : PT X a tA) : PW X (.BoolOp .And [a] pos) tA := by
  intro wh pins s σ H Q I h
  refine isTrue_and (thn (ha pins s σ H Q I h) fun c s1 e => ?_)
  cases c with
  | true => exact isTrue_and_nil e
  | false => exact e
theorem pw_or1 (ha : PT X a tA) : PW X (.BoolOp .Or [a] pos) tA := by
  intro wh pins s σ H Q I h
  refine isTrue_or (thn (ha pins s σ H Q I h) fun c s1 e => ?_)
  cases c with
  | false => exact isTrue_or_nil e
  | true => exact e
theorem pw_and (ha : PT X a tA) (hb : PW X (.BoolOp .And (b :: rest) pos) tB') : PW X (.BoolOp .And (a :: b :: rest) pos) (tAnd tA tB') := by
  intro wh pins s σ H Q I h
  refine isTrue_and (thn (ha pins s σ H _ I h) fun c s1 ⟨H1, I1, q1⟩ => ?_)
  cases c with
  | true => exact hb wh pins s1 σ H1 Q I1 q1
  | false => exact ⟨H1, I1, q1⟩
theorem pw_or (ha : PT X a tA) (hb : PW X (.BoolOp .Or (b :: rest) pos) tB') : PW X (.BoolOp .Or (a :: b :: rest) pos) (tOr tA tB') := by
  intro wh pins s σ H Q I h
  refine isTrue_or (thn (ha pins s σ H _ I h) fun c s1 ⟨H1, I1, q1⟩ => ?_)
  cases c with
  | true => exact ⟨H1, I1, q1⟩
  | false => exact hb wh pins s1 σ H1 Q I1 q1
theorem pt_not (ha : PT X a tA) : PT X (.UnaryOp .Not a pos) (tNot tA) := by
  intro pins s σ H Q I h
  exact isTrue_not (ha pins s σ H (fun c H1 => Q (!c) H1) I h)
theorem pe_one {op} {t : TE} (h : PE X a t) : PE X (.BoolOp op [a] pos) t := fun pins s σ H Q I hw => BoolOp_one (h pins s σ H Q I hw)
/-- a if t else b -/
noncomputable def tIf (t : TT) (ta tb : TE) : TE := fun σ H Q => t σ H fun c H1 => if c = true then ta σ H1 Q else tb σ H1 Q
theorem pe_ifExp {c : Expr} (hc : PT X c tA) (ha : PE X a ta) (hb : PE X b tb) : PE X (.IfExp c a b pos) (tIf tA ta tb) := by
  intro pins s σ H Q I h
  refine wpAny_IfExp (thn (hc pins s σ H _ I h) fun d s1 ⟨H1, I1, q1⟩ => ?_)
  cases d with
  | true => exact ha pins s1 σ H1 Q I1 q1
  | false => exact hb pins s1 σ H1 Q I1 q1
end
end L2

namespace L2
open PySem PySem.Spec PyProof.Rows

/-! ### a list, a tuple that is read: tracked, frozen, or an object of the module -/
noncomputable def SqL (K : PySem.W.Frag) (H : Hp) (a : Addr) (xs : List V) : Prop :=
  Rd H a (.lst xs) ∨
    ∃ (o : Obj) (its : Array Value) (n : Nat), K.lookup a = some o ∧ o.cls = .type "list" ∧ o.dict = none ∧ o.data = .seq its n ∧ its.size ≤ sizeLine ∧ Vals xs its.toList
noncomputable def SqT (K : PySem.W.Frag) (H : Hp) (a : Addr) (xs : List V) : Prop :=
  Rd H a (.tup xs) ∨
    ∃ (o : Obj) (its : Array Value) (n : Nat), K.lookup a = some o ∧ o.cls = .type "tuple" ∧ o.data = .seq its n ∧ its.size ≤ sizeLine ∧ Vals xs its.toList
noncomputable def absV : Value → Option V
  | .none => some .non
  | .bool b => some (.bl b)
  | .int i _ => some (.int i)
  | .str x _ => some (.str x)
  | .bytes b _ => some (.byt b)
  | .float b _ => some (.flt b)
  | .ref a => some (.ref a)
  | .type n => some (.ty n)
  | _ => none
theorem RelV.abs {x : V} {u : Value} (r : RelV x u) : absV u = some x := by
  cases x with
  | non => cases r; rfl
  | bl _ => cases r; rfl
  | int _ => obtain ⟨t, rfl⟩ := r; rfl
  | str _ => obtain ⟨t, rfl⟩ := r; rfl
  | byt _ => obtain ⟨t, rfl⟩ := r; rfl
  | flt _ => obtain ⟨t, rfl⟩ := r; rfl
  | ref _ => cases r; rfl
  | ty _ => cases r; rfl
theorem RelV.inj {x y : V} {u : Value} (r : RelV x u) (q : RelV y u) : x = y := Option.some.inj (r.abs.symm.trans q.abs)
theorem Vals.inj : ∀ {xs ys : List V} {us : List Value}, Vals xs us → Vals ys us → xs = ys
  | _, _, _, .nil, .nil => rfl
  | _, _, _, .cons r t, .cons r' t' => by rw [r.inj r', Vals.inj t t']
section
variable {X : Cx} {pins : List (Addr × Obj)} {σ : St} {H : Hp} {s : Shared} {a : Addr} {xs ys : List V}
theorem SqL.of {K : PySem.W.Frag} (h : H a = some (.lst xs)) : SqL K H a xs := .inl (.inl h)
theorem SqT.of {K : PySem.W.Frag} (h : H a = some (.tup xs)) : SqT K H a xs := .inl (.inl h)
theorem Inv.list (I : Inv X pins σ H s) (h : SqL X.K H a xs) : ∃ its : List Value, Vals xs its ∧ PlainL s.heap a its.toArray ∧ xs.length ≤ sizeLine := by
  rcases h with h | ⟨o, its, n, hk, hc, hd, hs, hz, r⟩
  · obtain ⟨z, its, n, r, e⟩ := h.ok I.hok
    exact ⟨its, r, ⟨_, n, e, rfl, rfl, rfl⟩, z⟩
  · refine ⟨its.toList, r, ⟨o, n, I.kIn a o hk, hc, hd, by simpa using hs⟩, ?_⟩
    have e := r.length
    simp only [Array.length_toList] at e
    omega
theorem Inv.tuple (I : Inv X pins σ H s) (h : SqT X.K H a xs) : ∃ its : List Value, Vals xs its ∧ IsTup s.heap a its.toArray ∧ xs.length ≤ sizeLine := by
  rcases h with h | ⟨o, its, n, hk, hc, hs, hz, r⟩
  · obtain ⟨z, its, r, p⟩ := h.ok I.hok
    exact ⟨its, r, p, z⟩
  · refine ⟨its.toList, r, ⟨o, I.kIn a o hk, hc, n, by simpa using hs⟩, ?_⟩
    have e := r.length
    simp only [Array.length_toList] at e
    omega
theorem Inv.list_inj (I : Inv X pins σ H s) (h : SqL X.K H a xs) (h' : SqL X.K H a ys) : xs = ys := by
  obtain ⟨its, r, ⟨o, n, e, _, _, d⟩, _⟩ := I.list h
  obtain ⟨its', r', ⟨o', n', e', _, _, d'⟩, _⟩ := I.list h'
  rw [e] at e'; cases e'
  rw [d] at d'
  injection d' with d1 _
  have : its = its' := by simpa using congrArg Array.toList d1
  subst this
  exact r.inj r'
theorem Inv.tuple_inj (I : Inv X pins σ H s) (h : SqT X.K H a xs) (h' : SqT X.K H a ys) : xs = ys := by
  obtain ⟨its, r, ⟨o, e, _, n, d⟩, _⟩ := I.tuple h
  obtain ⟨its', r', ⟨o', e', _, n', d'⟩, _⟩ := I.tuple h'
  rw [e] at e'; cases e'
  rw [d] at d'
  injection d' with d1 _
  have : its = its' := by simpa using congrArg Array.toList d1
  subst this
  exact r.inj r'
end

/-! ### another wish about exceptions -/
noncomputable abbrev Cx.wish (X : Cx) (E : Value → Shared → Prop) : Cx := { X with xe := E }
/-- no exception leaves -/
noncomputable abbrev Cx.nox (X : Cx) : Cx := X.wish fun _ _ => False
theorem Cx.Ok.wish {X : Cx} (ok : X.Ok) (E : Value → Shared → Prop) : (X.wish E).Ok :=
  ⟨ok.mod, ok.kind, ok.glob, ok.blt, ok.above, ok.inj, ok.has, ok.cab, ok.hd, ok.frames, ok.stk, ok.exf, ok.bs, ok.bsz, ok.noex, ok.exfs, ok.funs, ok.frf⟩
theorem Cx.Ok.unwish {X : Cx} {E : Value → Shared → Prop} (ok : (X.wish E).Ok) : X.Ok :=
  ⟨ok.mod, ok.kind, ok.glob, ok.blt, ok.above, ok.inj, ok.has, ok.cab, ok.hd, ok.frames, ok.stk, ok.exf, ok.bs, ok.bsz, ok.noex, ok.exfs, ok.funs, ok.frf⟩
section
variable {X : Cx} {pins : List (Addr × Obj)} {σ : St} {H : Hp} {s : Shared} {E : Value → Shared → Prop}
theorem Inv.wish (I : Inv X pins σ H s) (E : Value → Shared → Prop) : Inv (X.wish E) pins σ H s := ⟨I.ok.wish E, I.os, I.bare, I.base, I.loc, I.cell, I.free, I.freeC, I.pin, I.hok, I.len⟩
theorem Inv.unwish (I : Inv (X.wish E) pins σ H s) : Inv X pins σ H s := ⟨I.ok.unwish, I.os, I.bare, I.base, I.loc, I.cell, I.free, I.freeC, I.pin, I.hok, I.len⟩
theorem SP.unwish {D : Ends} {f : Flow} {s' : Shared} (h : SP (X.wish E) pins D f s') : SP X pins D f s' := by
  cases f with
  | next => obtain ⟨σ', H', I, q⟩ := h; exact ⟨σ', H', I.unwish, q⟩
  | brk => obtain ⟨σ', H', I, q⟩ := h; exact ⟨σ', H', I.unwish, q⟩
  | cont => obtain ⟨σ', H', I, q⟩ := h; exact ⟨σ', H', I.unwish, q⟩
  | ret u => obtain ⟨v, σ', H', I, r, q⟩ := h; exact ⟨v, σ', H', I.unwish, r, q⟩
theorem PE.nox {e : Expr} {t : TE} (h : PE X.nox e t) : PE X e t := fun pins s σ H Q I hw =>
  wpAny_mono (h pins s σ H Q (I.wish _) hw) (fun _ _ ⟨v, H', I', r, q⟩ => ⟨v, H', I'.unwish, r, q⟩) fun _ _ z => False.elim z
theorem PT.nox {e : Expr} {t : TT} (h : PT X.nox e t) : PT X e t := fun pins s σ H Q I hw =>
  wpAny_mono (h pins s σ H Q (I.wish _) hw) (fun _ _ ⟨H', I', q⟩ => ⟨H', I'.unwish, q⟩) fun _ _ z => False.elim z
theorem PSs.nox {st : List Stmt} {t : TS} (h : PSs X.nox st t) : PSs X st t := fun pins s σ H D I hw =>
  wpAny_mono (h pins s σ H D (I.wish _) hw) (fun _ _ q => q.unwish) fun _ _ z => False.elim z
end

/-! ### blocks and small statements -/
section
variable {X : Cx} {st : Stmt} {rest : List Stmt} {t u : TS} {e : Expr} {te : TE} {pos : Pos}
noncomputable def tNext : TS := fun D σ H => D.nx σ H
noncomputable def tSeq (t u : TS) : TS := fun D σ H => t { D with nx := u D } σ H
theorem pss_nil : PSs X [] tNext := fun _ _ σ H _ I h => wpAny_execs_nil ⟨σ, H, I, h⟩
theorem pss_cons (h1 : PS X st t) (h2 : PSs X rest u) : PSs X (st :: rest) (tSeq t u) := by
  intro pins s σ H D I h
  refine wpAny_execs_cons (thn (h1 pins s σ H { D with nx := u D } I h) fun f s1 q => ?_)
  cases f with
  | next =>
    obtain ⟨σ', H', I', q⟩ := q
    exact h2 pins s1 σ' H' D I' q
  | ret v => exact q
  | brk => exact q
  | cont => exact q
theorem pss_one (h1 : PS X st t) : PSs X [st] t := by
  intro pins s σ H D I h
  refine wpAny_execs_cons (thn (h1 pins s σ H D I h) fun f s1 q => ?_)
  cases f with
  | next => exact wpAny_execs_nil q
  | ret v => exact q
  | brk => exact q
  | cont => exact q
/-- in a def's body nothing is shown -/
theorem Inv.quiet {pins : List (Addr × Obj)} {σ : St} {H : Hp} {s : Shared} (I : Inv X pins σ H s) : interactive X.env = false := by simp [interactive, I.ok.kind]
/-- an expression whose value is dropped -/
noncomputable def tDrop (te : TE) : TS := fun D σ H => te σ H fun _ H1 => D.nx σ H1
theorem ps_expr (he : PE X e te) (hs : swapsWith e none pos.line X.env = pure false := by rfl) : PS X (.Expr e pos) (tDrop te) := by
  intro pins s σ H D I h
  exact wpAny_Expr_any (thn (he pins s σ H _ I h) fun v s1 ⟨x, H1, I1, r1, q1⟩ => ⟨σ, H1, I1, q1⟩) I.quiet hs
noncomputable def tRet (te : TE) : TS := fun D σ H => te σ H D.rt
theorem ps_ret (he : PE X e te) : PS X (.Return (some e) pos) (tRet te) := by
  intro pins s σ H D I h
  exact wpAny_Return_some (thn (he pins s σ H _ I h) fun v s1 ⟨x, H1, I1, r1, q1⟩ => ⟨x, σ, H1, I1, r1, q1⟩)
noncomputable def tIfS (c : TT) (t u : TS) : TS := fun D σ H => c σ H fun b H1 => if b = true then t D σ H1 else u D σ H1
theorem ps_if {c : Expr} {a b : List Stmt} {tc : TT} (hc : PT X c tc) (ha : PSs X a t) (hb : PSs X b u) : PS X (.If c a b pos) (tIfS tc t u) := by
  intro pins s σ H D I h
  refine wpAny_If (thn (hc pins s σ H _ I h) fun d s1 ⟨H1, I1, q1⟩ => ?_)
  cases d with
  | true => exact ha pins s1 σ H1 D I1 q1
  | false => exact hb pins s1 σ H1 D I1 q1
end

/-! ### targets -/
noncomputable abbrev TG := V → St → Hp → (St → Hp → Prop) → Prop
noncomputable abbrev TGs := List V → St → Hp → (St → Hp → Prop) → Prop
noncomputable def PG (X : Cx) (target : Expr) (t : TG) : Prop :=
  ∀ (pins : List (Addr × Obj)) (s : Shared) (σ : St) (H : Hp) (v : V) (u : Value) (Q : St → Hp → Prop), Inv X pins σ H s → RelV v u → t v σ H Q →
    wpAny (model X.prog X.w) X.A (assign target X.env u) (fun _ s' => ∃ σ' H', Inv X pins σ' H' s' ∧ Q σ' H') X.xe s
/-- several targets, one after another -/
noncomputable def PGs (X : Cx) (ts : List Expr) (t : TGs) : Prop :=
  ∀ (pins : List (Addr × Obj)) (s : Shared) (σ : St) (H : Hp) (vs : List V) (us : List Value) (Q : St → Hp → Prop), Inv X pins σ H s → Vals vs us → t vs σ H Q →
    wpAny (model X.prog X.w) X.A (assignInOrder ((assignEach ts X.env).map (·.2)) us) (fun _ s' => ∃ σ' H', Inv X pins σ' H' s' ∧ Q σ' H') X.xe s
section
variable {X : Cx} {pos : Pos}
noncomputable def gName (i : Nat) : TG := fun v σ H Q => Q (σ.set i (some v)) H
theorem pg_name {i : Nat} {x : Str} (hN : X.N.Nodup) (hi : X.N[i]? = some x) (hx : Loc X.env.scope x) (hf : X.fn x = true ∨ X.env.scope.names.lookup x = some .local := by first | exact .inl rfl | exact .inr rfl | assumption) : PG X (.Name x pos) (gName i) := by
  intro pins s σ H v u Q I r h
  exact wpAny_assign_Name (store_ok I hN hi hx r (fun s' I' => ⟨_, H, I', h⟩) hf)
noncomputable def gNil : TGs := fun vs σ H Q => vs = [] ∧ Q σ H
inductive gCons (t : TG) (u : TGs) (vs : List V) (σ : St) (H : Hp) (Q : St → Hp → Prop) : Prop
  | mk (v : V) (r : List V) (h0 : vs = v :: r) (h1 : t v σ H fun σ' H' => u r σ' H' Q) : gCons t u vs σ H Q
theorem pgs_nil : PGs X [] gNil := by
  intro pins s σ H vs us Q I r h
  obtain ⟨e, h⟩ := h
  subst e
  cases r
  exact assignInOrder_nil ⟨σ, H, I, h⟩
theorem pgs_cons {e : Expr} {es : List Expr} {t : TG} {u : TGs} (h1 : PG X e t) (h2 : PGs X es u)
    (hs : (assignEach (e :: es) X.env).map (·.2) = assign e X.env :: (assignEach es X.env).map (·.2) := by rfl) : PGs X (e :: es) (gCons t u) := by
  intro pins s σ H vs us Q I r h
  obtain ⟨v, vr, e1, h⟩ := h
  subst e1
  cases r with
  | cons r rr =>
    rw [hs]
    refine assignInOrder_cons (thn (h1 pins s σ H _ _ _ I r h) fun _ s1 ⟨σ1, H1, I1, q1⟩ => ?_)
    exact h2 pins s1 σ1 H1 _ _ Q I1 rr q1
/-- (a, b, ..) = a tuple of that length -/
inductive gTup (K : PySem.W.Frag) (n : Nat) (t : TGs) (v : V) (σ : St) (H : Hp) (Q : St → Hp → Prop) : Prop
  | mk (a : Addr) (xs : List V) (h0 : v = .ref a) (h1 : SqT K H a xs) (h2 : xs.length = n) (h3 : t xs σ H Q) : gTup K n t v σ H Q
theorem pg_tup {es : List Expr} {k : Nat} {t : TGs} {n : Nat} (hc : X.calm = true) (h : PGs X es t)
    (hn : (assignEach es X.env).length = n := by rfl) (hst : (assignEach es X.env).findIdx? (·.1) = none := by rfl) : PG X (.Tuple es k pos) (gTup X.K n t) := by
  intro pins s σ H v u Q I r hw
  obtain ⟨a, xs, e1, hq, hl, hw⟩ := hw
  subst e1
  cases r
  obtain ⟨its, rv, ht, hz⟩ := I.tuple hq
  refine assign_Tuple_tuple (I.ok.hd hc) ht (by simp [hn, ← hl, rv.length]) hst fun h' hx => ?_
  have I1 : Inv X pins σ H { s with heap := h' } := I.kept (t' := s.toks) fun b o e => hx b o (Nat.ne_of_lt (Heap.lt_size e)) e
  exact h pins _ σ H xs _ Q I1 (by simpa using rv) hw
/-- target = value -/
noncomputable def tAsg (te : TE) (g : TG) : TS := fun D σ H => te σ H fun x H1 => g x σ H1 D.nx
/-- name = value -/
theorem ps_set {i : Nat} {x : Str} {e : Expr} {te : TE} {pos' : Pos} (hN : X.N.Nodup) (hi : X.N[i]? = some x) (hx : Loc X.env.scope x) (he : PE X e te) (hs : swapsWith e (some (.Name x pos')) pos.line X.env = pure false := by rfl) (hf : X.fn x = true ∨ X.env.scope.names.lookup x = some .local := by first | exact .inl rfl | exact .inr rfl | assumption) :
    PS X (.Assign [.Name x pos'] e pos) (tAsg te (gName i)) := by
  intro pins s σ H D I h
  refine wpAny_Assign_Name (thn (he pins s σ H _ I h) fun v s1 ⟨y, H1, I1, r1, q1⟩ => ?_) hs
  exact store_ok I1 hN hi hx r1 (fun s2 I2 => ⟨_, H1, I2, q1⟩) hf
/-- a, b = x, y with plain local names: stored from the right; the pair itself is not tracked (the opening rows as in PyProof/Rows/TupAssign.lean:23) -/
noncomputable def tPar (i j : Nat) (ta : TA) : TS := fun D σ H => ta σ H fun vs H1 => ∃ v w, vs = [v, w] ∧ D.nx ((σ.set i (some v)).set j (some w)) H1
theorem ps_par {i j : Nat} {x y : Str} {a b : Expr} {ta : TA} {px py pt : Pos} {kt k2 pt2} (hc : X.calm = true) (hN : X.N.Nodup) (hi : X.N[i]? = some x) (hj : X.N[j]? = some y) (hij : i ≠ j)
    (hx : X.env.scope.names.lookup x = some .local) (hy : X.env.scope.names.lookup y = some .local) (ha : PA X [a, b] ta)
    (hw : swappedStores [.Tuple [.Name x px, .Name y py] kt pt] (.Tuple [a, b] k2 pt2) X.env = pure (some [x, y]))
    (hs : swapsWithSole [.Tuple [.Name x px, .Name y py] kt pt] (.Tuple [a, b] k2 pt2) pos.line X.env = pure false := by rfl) :
    PS X (.Assign [.Tuple [.Name x px, .Name y py] kt pt] (.Tuple [a, b] k2 pt2) pos) (tPar i j ta) := by
  intro pins s σ H D I h
  rw [exec_Assign_arm]
  refine wpAny_bind (wpAny_standAt ?_)
  rw [hs]
  refine wpAny_bind (wpAny_pure ?_)
  rw [if_neg (by decide)]
  refine wpAny_bind (Tuple_ (thn (ha _ pins s σ H _ I h) fun us s1 ⟨vs, H1, I1, r1, q1⟩ => ?_))
  obtain ⟨v, w, e1, q1⟩ := q1
  subst e1
  obtain ⟨u1, u2, rfl, rv, rw'⟩ : ∃ u1 u2, us = [u1, u2] ∧ RelV v u1 ∧ RelV w u2 := by
    cases r1 with
    | cons p q =>
      cases q with
      | cons p' q' =>
        cases q'
        exact ⟨_, _, rfl, p, p'⟩
  refine wpAny_newObj_type ?_ (by show 2 ≤ sizeLine; decide)
  have I2 : Inv X pins σ H1 { s1 with heap := s1.heap.push { cls := .type "tuple", data := .seq [u1, u2].toArray } } := I1.kept (t' := s1.toks) fun b o e => Heap.get?_push_of_some _ e
  rw [hw]
  refine wpAny_bind (wpAny_pure ?_)
  show wpAny (model X.prog X.w) X.A (do rule "assign.swapped-stores"; let items ← unpackItems (.ref s1.heap.objs.size) 2 none; assignInOrder [fun v => bindName X.env y v, fun v => bindName X.env x v] items.reverse; pure Flow.next) _ _ _
  refine wpAny_bind (wpAny_rule (wpAny_bind (unpackItems_tuple (items := #[u1, u2]) (I.ok.hd hc) (IsTup.new s1.heap _) fun h' hx' => ?_)))
  have I3 := I2.kept (h' := h') (t' := s1.toks) fun b o e => hx' b o (Nat.ne_of_lt (Heap.lt_size e)) e
  show wpAny _ _ (assignInOrder [fun v => bindName X.env y v, fun v => bindName X.env x v] [u2, u1] >>= fun _ => pure Flow.next) _ _ _
  refine wpAny_bind (assignInOrder_cons (wpAny_bindName (store_ok I3 hN hj (.inl hy) rw' (fun s2 I4 => ?_) (.inr hy))))
  refine assignInOrder_cons (wpAny_bindName (store_ok I4 hN hi (.inl hx) rv (fun s3 I5 => assignInOrder_nil (wpAny_pure ?_)) (.inr hx)))
  rw [List.set_comm _ _ (Ne.symm hij)] at I5
  exact ⟨_, H1, I5, q1⟩
end

/-! ### while -/
section
variable {X : Cx} {pos : Pos}
/-- the invariant W with its measure -/
noncomputable def tWhile (c : TT) (tb : TS) : TS := fun D σ H => ∃ W : Nat → St → Hp → Prop, (∃ m, W m σ H) ∧ ∀ m σ H, W m σ H →
  c σ H fun b H1 => if b = true then ∃ N : St → Hp → Prop, (∀ σ' H', N σ' H' → ∃ m', m' < m ∧ W m' σ' H') ∧ tb { D with nx := N, ct := N, bk := D.nx } σ H1 else D.nx σ H1
theorem ps_while {c : Expr} {body : List Stmt} {tc : TT} {tb : TS} (hp : PassesOwn (model X.prog X.w) X.A X.env X.xe) (hc : PT X c tc) (hb : PSs X body tb) : PS X (.While c body [] pos) (tWhile tc tb) := by
  intro pins s σ H D I h
  obtain ⟨W, ⟨m0, w0⟩, turn⟩ := h
  refine wpAny_While (codeAny_whileLoop (fun n s' => ∃ σ' H', Inv X pins σ' H' s' ∧ W n σ' H') ?_ m0 ⟨σ, H, I, w0⟩)
  rintro n s1 ⟨σ1, H1, I1, w1⟩
  refine wpAny_passesOwn hp (thn (hc pins s1 σ1 H1 _ I1 (turn n σ1 H1 w1)) fun b s2 ⟨H2, I2, q2⟩ => ?_)
  cases b with
  | true =>
    obtain ⟨N, hN, q2⟩ := q2
    rw [if_pos rfl]
    refine wpAny_passesOwn hp (thn (hb pins s2 σ1 H2 _ I2 q2) fun f s3 q3 => ?_)
    cases f with
    | next =>
      obtain ⟨σ3, H3, I3, n3⟩ := q3
      obtain ⟨m', hm, w3⟩ := hN σ3 H3 n3
      exact ⟨m', hm, σ3, H3, I3, w3⟩
    | cont =>
      obtain ⟨σ3, H3, I3, n3⟩ := q3
      obtain ⟨m', hm, w3⟩ := hN σ3 H3 n3
      exact ⟨m', hm, σ3, H3, I3, w3⟩
    | brk => exact q3
    | ret v => exact q3
  | false =>
    rw [if_neg Bool.false_ne_true]
    exact wpAny_execs_nil ⟨σ1, H2, I2, q2⟩
end

/-! ### what a loop or a comprehension walks -/
/-- at turn i: it yields x (the heap may grow), or it stops -/
structure It where
  go : Nat → Hp → Prop
  yld : Nat → Hp → V → Hp → Prop
  stop : Nat → Hp → Prop
/-- the iterator's own objects may turn: they are not the frame's, not pinned, younger than the entry (or a comprehension's own) -/
noncomputable def FpOk (X : Cx) (pins : List (Addr × Obj)) (H : Hp) (b : Addr) : Prop :=
  H b = none ∧ b ≠ X.env.locals ∧ b ∉ X.fs ∧ (b ∈ X.ex ∨ X.s₀.heap.objs.size ≤ b) ∧ (∀ x c, X.env.cells.lookup x = some c → c ≠ b) ∧ ∀ p ∈ X.pn ++ pins, p.1 ≠ b
theorem Inv.fpOk {X : Cx} {pins : List (Addr × Obj)} {σ : St} {H H' : Hp} {s : Shared} {b : Addr} (I : Inv X pins σ H s) (hb : s.heap.objs.size ≤ b) (hn : H' b = none) : FpOk X pins H' b := by
  refine ⟨hn, Nat.ne_of_gt (Nat.lt_of_lt_of_le I.lt hb), I.nofs hb, .inr (Nat.le_trans I.sz hb), fun x c e z => ?_, fun p hp z => ?_⟩
  · obtain ⟨v, q⟩ := I.cell x c e
    exact absurd (Nat.lt_of_lt_of_le q.lt (by rw [z]; exact hb)) (Nat.lt_irrefl _)
  · exact absurd (Nat.lt_of_lt_of_le (Heap.lt_size (I.pin p hp).1) (by rw [z]; exact hb)) (Nat.lt_irrefl _)
structure Turn (P : Program) (w : World) (K : PySem.W.Frag) (tg : Expr) (J : It) (fp : List Addr) (it : Addr) (tn : Nat → Heap → Prop) : Prop where
  mem : it ∈ fp
  obj : ∀ i h, tn i h → ∀ b ∈ fp, ∃ o, h.get? b = some o ∧ ∀ v, o.data ≠ .cell v
  keep : ∀ i h h', tn i h → (∀ b ∈ fp, ∀ o, h.get? b = some o → h'.get? b = some o) → tn i h'
  item : ∀ (X : Cx), X.prog = P → X.w = w → X.K = K → X.calm = true → ∀ (i : Nat) (pins : List (Addr × Obj)) (s : Shared) (σ : St) (H : Hp) (E : Value → Shared → Prop), Inv X pins σ H s → (∀ b ∈ fp, FpOk X pins H b) → tn i s.heap → J.go i H →
    wpAny (model P w) X.A (pyNext (.ref it)) (fun r s1 => ∃ u, r = some u ∧
      wpAny (model P w) X.A (letOwnedTupleGo tg (.ref it) u) (fun _ s2 => ∃ x H', Inv X pins σ H' s2 ∧ RelV x u ∧ J.yld i H x H' ∧ tn (i + 1) s2.heap ∧ ∀ b ∈ fp, H' b = none) E s1) E s
  done : ∀ (X : Cx), X.prog = P → X.w = w → X.K = K → X.calm = true → ∀ (i : Nat) (pins : List (Addr × Obj)) (s : Shared) (σ : St) (H : Hp) (E : Value → Shared → Prop), Inv X pins σ H s → (∀ b ∈ fp, FpOk X pins H b) → tn i s.heap → J.stop i H →
    wpAny (model P w) X.A (pyNext (.ref it)) (fun r s1 => r = none ∧ Inv X pins σ H s1) E s
  self : ∀ (A : Around) (i : Nat) (s : Shared) (Q : Value → Shared → Prop) (E : Value → Shared → Prop), tn i s.heap → Q (.ref it) s → wpAny (model P w) A (pyIter (.ref it)) Q E s
noncomputable abbrev TI := St → Hp → (It → Hp → Prop) → Prop
/-- an iterator has come -/
noncomputable def PIE (X : Cx) (pins : List (Addr × Obj)) (σ : St) (tg : Expr) (R : It → Hp → Prop) (itv : Value) (s2 : Shared) : Prop :=
  ∃ (it : Addr) (fp : List Addr) (tn : Nat → Heap → Prop) (J : It) (H' : Hp), itv = .ref it ∧ Inv X pins σ H' s2 ∧ Turn X.prog X.w X.K tg J fp it tn ∧ tn 0 s2.heap ∧ (∀ b ∈ fp, FpOk X pins H' b) ∧ R J H'
noncomputable def PI (X : Cx) (tg iter : Expr) (wi : TI) : Prop :=
  ∀ (pins : List (Addr × Obj)) (s : Shared) (σ : St) (H : Hp) (R : It → Hp → Prop), Inv X pins σ H s → wi σ H R →
    wpAny (model X.prog X.w) X.A (eval iter X.env) (fun v s1 => wpAny (model X.prog X.w) X.A (pyIter v) (PIE X pins σ tg R) X.xe s1) X.xe s

/-- the step ahead of the store is nothing for an iterator that keeps no tuple -/
theorem go_of {M : Model} {A : Around} {E : Value → Shared → Prop} {s : Shared} {tg : Expr} {it : Addr} {u : Value} {o : Obj} {n : String} {vs : Array Value} {Q : Unit → Shared → Prop} (ho : s.heap.get? it = some o) (hc : o.cls = .type n) (hd : o.data = .fields vs)
    (hn : ["enumerate", "zip", "dict_itemiterator", "dict_reverseitemiterator", "odict_iterator", "itertools.zip_longest", "itertools.pairwise"].contains n = false) (hQ : Q () s) : wpAny M A (letOwnedTupleGo tg (.ref it) u) Q E s := by
  unfold letOwnedTupleGo
  cases tg <;> first
    | exact wpAny_pure hQ
    | (cases u <;> first
        | exact wpAny_pure hQ
        | (refine wpAny_bind (wpAny_load ho ?_)
           rw [hc, hd]
           show wpAny M A (if (["enumerate", "zip", "dict_itemiterator", "dict_reverseitemiterator", "odict_iterator", "itertools.zip_longest", "itertools.pairwise"].contains n && vs[0]? == some (rawInt _)) = true then _ else _) Q E s
           rw [if_neg (by intro h; rw [hn, Bool.false_and] at h; cases h)]
           exact wpAny_pure hQ))

/-- the list at a, as it stands at each turn (a loop may append to it) -/
noncomputable def Itl (K : PySem.W.Frag) (a : Addr) : It :=
  ⟨fun i H => ∃ xs x, SqL K H a xs ∧ xs[i]? = some x, fun i H x H' => H' = H ∧ ∀ xs, SqL K H a xs → xs[i]? = some x, fun i H => ∃ xs, SqL K H a xs ∧ xs.length ≤ i⟩
noncomputable def Itt (K : PySem.W.Frag) (a : Addr) : It :=
  ⟨fun i H => ∃ xs x, SqT K H a xs ∧ xs[i]? = some x, fun i H x H' => H' = H ∧ ∀ xs, SqT K H a xs → xs[i]? = some x, fun i H => ∃ xs, SqT K H a xs ∧ xs.length ≤ i⟩
/-- lo, lo + 1, .. (n of them) -/
noncomputable def Itr (lo : Int) (n : Nat) : It := ⟨fun i _ => i < n, fun i H x H' => H' = H ∧ x = .int (lo + i), fun i _ => n ≤ i⟩
theorem turn_list {P : Program} {w : World} {K : PySem.W.Frag} {tg : Expr} (a it : Addr) : Turn P w K tg (Itl K a) [it] it (fun i h => h.IsListIter it a i) where
  mem := by simp
  obj := fun i h st b hb => by
    have e : b = it := by simpa using hb
    subst e
    obtain ⟨o, e, c, d⟩ := st
    exact ⟨o, e, fun v z => by rw [d] at z; cases z⟩
  keep := fun i h h' st k => st.at fun o e => k it (by simp) o e
  item := by
    intro X hP hw hK hc i pins s σ H E I hf st hg
    subst hP hw hK
    obtain ⟨xs, x, hq, hx⟩ := hg
    obtain ⟨its, rv, p, hz⟩ := I.list hq
    obtain ⟨u, hu, ru⟩ := rv.get hx
    obtain ⟨f0, f1, f2, f3, f4, f5⟩ := hf it (by simp)
    refine wpAny_pyNext_list_item st p.isList (x := u) (by simpa using hu) fun h' st' sb => ?_
    have I1 : Inv X pins σ H { s with heap := h' } := I.turned (t' := s.toks) (fun b o hb e => (sb.2 b hb).trans e) f0 f1 f3 f4 f5
    obtain ⟨o, e, c, d⟩ := id st'
    exact ⟨u, rfl, go_of (s := { s with heap := h' }) e c d (by decide) ⟨x, H, I1, ru, ⟨rfl, fun ys hy => by rw [I.list_inj hy hq]; exact hx⟩, st', fun b hb => (hf b hb).1⟩⟩
  done := by
    intro X hP hw hK hc i pins s σ H E I hf st hg
    subst hP hw hK
    obtain ⟨xs, hq, hx⟩ := hg
    obtain ⟨its, rv, p, hz⟩ := I.list hq
    obtain ⟨f0, f1, f2, f3, f4, f5⟩ := hf it (by simp)
    have hl := rv.length
    exact wpAny_pyNext_list_end (I.ok.hd hc) st p.isList (by simp; omega) fun h' eb => ⟨rfl, I.turned (t' := s.toks) (fun b o hb e => eb b o hb e) f0 f1 f3 f4 f5⟩
  self := fun _ _ _ _ _ st h => wpAny_pyIter_listiter st h
theorem turn_tuple {P : Program} {w : World} {K : PySem.W.Frag} {tg : Expr} (a it : Addr) : Turn P w K tg (Itt K a) [it] it (fun i h => h.IsTupleIter it a i) where
  mem := by simp
  obj := fun i h st b hb => by
    have e : b = it := by simpa using hb
    subst e
    obtain ⟨o, e, c, d⟩ := st
    exact ⟨o, e, fun v z => by rw [d] at z; cases z⟩
  keep := fun i h h' st k => st.at fun o e => k it (by simp) o e
  item := by
    intro X hP hw hK hc i pins s σ H E I hf st hg
    subst hP hw hK
    obtain ⟨xs, x, hq, hx⟩ := hg
    obtain ⟨its, rv, p, hz⟩ := I.tuple hq
    obtain ⟨u, hu, ru⟩ := rv.get hx
    obtain ⟨f0, f1, f2, f3, f4, f5⟩ := hf it (by simp)
    refine wpAny_pyNext_tuple_item st (show s.heap.IsTuple a its.toArray from p) (x := u) (by simpa using hu) fun h' st' sb => ?_
    have I1 : Inv X pins σ H { s with heap := h' } := I.turned (t' := s.toks) (fun b o hb e => (sb.2 b hb).trans e) f0 f1 f3 f4 f5
    obtain ⟨o, e, c, d⟩ := id st'
    exact ⟨u, rfl, go_of (s := { s with heap := h' }) e c d (by decide) ⟨x, H, I1, ru, ⟨rfl, fun ys hy => by rw [I.tuple_inj hy hq]; exact hx⟩, st', fun b hb => (hf b hb).1⟩⟩
  done := by
    intro X hP hw hK hc i pins s σ H E I hf st hg
    subst hP hw hK
    obtain ⟨xs, hq, hx⟩ := hg
    obtain ⟨its, rv, p, hz⟩ := I.tuple hq
    obtain ⟨f0, f1, f2, f3, f4, f5⟩ := hf it (by simp)
    have hl := rv.length
    exact wpAny_pyNext_tuple_end (I.ok.hd hc) st (show s.heap.IsTuple a its.toArray from p) (by simp; omega) fun h' eb => ⟨rfl, I.turned (t' := s.toks) (fun b o hb e => eb b o hb e) f0 f1 f3 f4 f5⟩
  self := fun _ _ _ _ _ st h => wpAny_pyIter_tupleiter st h
theorem turn_range {P : Program} {w : World} {K : PySem.W.Frag} {tg : Expr} (it : Addr) (lo : Int) (n : Nat) : Turn P w K tg (Itr lo n) [it] it (fun i h => IsRangeIter h it (lo + (i : Nat) * 1) ((n : Int) - (i : Nat)) 1) where
  mem := by simp
  obj := fun i h st b hb => by
    have e : b = it := by simpa using hb
    subst e
    exact ⟨_, st, fun v z => by
      have z' : Data.fields _ = Data.cell v := z
      cases z'⟩
  keep := fun i h h' st k => k it (by simp) _ st
  item := by
    intro X hP hw hK hc i pins s σ H E I hf st hg
    subst hP hw hK
    obtain ⟨f0, f1, f2, f3, f4, f5⟩ := hf it (by simp)
    have W := Walks.range (prog := X.prog) (w := X.w) (I.ok.hd hc) it lo 1 n
    refine W.item i s _ _ hg st fun v h' tk hv st' kk => ?_
    obtain ⟨t, rfl⟩ := hv
    have I1 : Inv X pins σ H { s with heap := h', toks := tk } := I.turned (fun b o hb e => kk b o (by simpa using hb) e) f0 f1 f3 f4 f5
    refine ⟨_, rfl, go_of (s := { s with heap := h', toks := tk }) (n := "range_iterator") st' rfl rfl (by decide) ⟨.int (lo + i), H, I1, ⟨t, ?_⟩, ⟨rfl, rfl⟩, st', fun b hb => (hf b hb).1⟩⟩
    rw [Int.mul_one]
  done := by
    intro X hP hw hK hc i pins s σ H E I hf st hg
    subst hP hw hK
    obtain ⟨f0, f1, f2, f3, f4, f5⟩ := hf it (by simp)
    exact wpAny_pyNext_range_end (I.ok.hd hc) st (by have : n ≤ i := hg; omega) fun h' eb => ⟨rfl, I.turned (t' := s.toks) (fun b o hb e => eb b o hb e) f0 f1 f3 f4 f5⟩
  self := fun _ _ _ _ _ st h => wpAny_pyIter_rangeiter st h
end L2

namespace L2
open PySem PySem.Spec PyProof.Rows
section
variable {X : Cx} {tg : Expr}
/-- a range object just made, walked -/
theorem range_it {pins : List (Addr × Obj)} {σ : St} {H : Hp} {s : Shared} {R : It → Hp → Prop} {E : Value → Shared → Prop} {lo hi : Int} {t u v : Tok} {tk : Nat} (I : Inv X pins σ H s) (h1 : -(2 ^ 62) ≤ lo) (h2 : lo < 2 ^ 62) (h3 : -(2 ^ 62) ≤ hi) (h4 : hi < 2 ^ 62)
    (q : R (Itr lo (hi - lo).toNat) H) : wpAny (model X.prog X.w) X.A (pyIter (.ref s.heap.objs.size)) (PIE X pins σ tg R) E { s with heap := s.heap.push { cls := .type "range", data := .fields #[.int lo t, .int hi u, .int 1 v] }, toks := tk } := by
  refine wpAny_pyIter_range (IsRange.new ..) (small_one h1 h2 h3 h4) ?_
  have I1 : Inv X pins σ H { s with heap := s.heap.push { cls := .type "range", data := .fields #[.int lo t, .int hi u, .int 1 v] }, toks := tk } := I.kept fun b o e => Heap.get?_push_of_some _ e
  refine ⟨(s.heap.push { cls := .type "range", data := .fields #[.int lo t, .int hi u, .int 1 v] }).objs.size, [(s.heap.push { cls := .type "range", data := .fields #[.int lo t, .int hi u, .int 1 v] }).objs.size], _, _, H, rfl,
    I1.kept (t' := tk) fun b o e => Heap.get?_push_of_some _ e, turn_range _ lo (hi - lo).toNat, ?_, fun b hb => ?_, q⟩
  · have e1 : lo + ((0 : Nat) : Int) * 1 = lo := by simp
    have e2 : (((hi - lo).toNat : Nat) : Int) - ((0 : Nat) : Int) = Builtin.Range.rangeSize lo hi 1 := by rw [rangeSize_one]; split <;> omega
    show IsRangeIter _ _ (lo + ((0 : Nat) : Int) * 1) ((((hi - lo).toNat : Nat) : Int) - ((0 : Nat) : Int)) 1
    rw [e1, e2]
    exact Heap.get?_push_size _ rfl
  · have e : b = (s.heap.push { cls := .type "range", data := .fields #[.int lo t, .int hi u, .int 1 v] }).objs.size := by simpa using hb
    subst e
    exact I1.fpOk (Nat.le_refl _) (I1.hok.fresh (Nat.le_refl _))
noncomputable def iRng1 (ta : TA) : TI := fun σ H R => ta σ H fun vs H1 => ∃ j : Int, vs = [.int j] ∧ -(2 ^ 62) ≤ j ∧ j < 2 ^ 62 ∧ R (Itr 0 j.toNat) H1
theorem pi_range1 {a : Expr} {ta : TA} {p pos : Pos} (hg : Gl X "range") (hm : X.mg "range" = none) (ha : PA X [a] ta) (hs : starEach [a] X.env = [(false, eval a X.env)] := by rfl) : PI X tg (.Call (.Name "range" p) [a] [] pos) (iRng1 ta) := by
  intro pins s σ H R I h
  refine Call_ (ld_blt I hg hm boot_range (PyProof.Rows.callWith_type1 (thn (ha pos pins s σ H _ I h) fun us s1 ⟨vs, H1, I1, r1, q1⟩ => ?_) hs rfl))
  obtain ⟨j, e, q1, q2, q⟩ := q1
  subst e
  cases r1 with
  | cons r rr =>
    cases rr
    obtain ⟨t, rfl⟩ := r
    exact call_range_1 (range_it I1 (by omega) (by omega) q1 q2 (by simpa using q))
/-! ### for -/
/-- W: the invariant by the turn and a measure; N: what the body is to reach -/
noncomputable def tFor (wi : TI) (g : TG) (tb : TS) : TS := fun D σ H => wi σ H fun J H1 => ∃ W : Nat → Nat → St → Hp → Prop, (∃ m, W 0 m σ H1) ∧ ∀ i m σ H, W i m σ H →
  (J.stop i H ∧ D.nx σ H) ∨ (J.go i H ∧ ∃ N : St → Hp → Prop, (∀ σ' H', N σ' H' → ∃ m', m' < m ∧ W (i + 1) m' σ' H') ∧ ∀ x H', J.yld i H x H' → g x σ H' fun σ2 H2 => tb { D with nx := N, ct := N, bk := D.nx } σ2 H2)
/-- the records at fp as they stand -/
noncomputable def pinsAt (fp : List Addr) (h : Heap) : List (Addr × Obj) := fp.filterMap fun b => (h.get? b).map fun o => (b, o)
theorem mem_pinsAt {fp : List Addr} {h : Heap} {b : Addr} {o : Obj} (hb : b ∈ fp) (e : h.get? b = some o) : (b, o) ∈ pinsAt fp h := List.mem_filterMap.mpr ⟨b, hb, by rw [e]; rfl⟩
theorem of_pinsAt {fp : List Addr} {h : Heap} {p : Addr × Obj} (hp : p ∈ pinsAt fp h) : p.1 ∈ fp ∧ h.get? p.1 = some p.2 := by
  obtain ⟨b, hb, e⟩ := List.mem_filterMap.mp hp
  cases q : h.get? b with
  | none => rw [q] at e; cases e
  | some o =>
    rw [q] at e
    have e' : (b, o) = p := Option.some.inj e
    subst e'
    exact ⟨hb, q⟩
theorem Inv.pinned {pins : List (Addr × Obj)} {σ : St} {H : Hp} {s : Shared} {fp : List Addr} (I : Inv X pins σ H s) (hf : ∀ b ∈ fp, FpOk X pins H b) (ho : ∀ b ∈ fp, ∃ o, s.heap.get? b = some o ∧ ∀ v, o.data ≠ .cell v) : Inv X (pins ++ pinsAt fp s.heap) σ H s :=
  I.pins_of fun p hp => (List.mem_append.mp hp).elim (fun z => I.pin p (List.mem_append_right _ z)) fun z => by
    obtain ⟨hb, e⟩ := of_pinsAt z
    obtain ⟨f0, f1, f2, _⟩ := hf p.1 hb
    obtain ⟨o, e', d⟩ := ho p.1 hb
    rw [e] at e'; cases e'
    exact ⟨e, f0, f1, f2, d⟩
theorem Inv.unpinned {pins pl : List (Addr × Obj)} {σ : St} {H : Hp} {s : Shared} (I : Inv X (pins ++ pl) σ H s) : Inv X pins σ H s := I.pins_of fun p hp => I.pin p (List.mem_append_right _ (List.mem_append_left _ hp))
theorem ps_for {iter : Expr} {body : List Stmt} {wi : TI} {g : TG} {tb : TS} {pos : Pos} (hp : PassesOwn (model X.prog X.w) X.A X.env X.xe) (hc : X.calm = true) (hi : PI X tg iter wi) (hg : PG X tg g) (hb : PSs X body tb)
    (hs : ∀ x, foldedSetIterable iter X.env x = pure x := by intro _; rfl) : PS X (.For tg iter body [] pos) (tFor wi g tb) := by
  intro pins s σ H D I h
  refine wpAny_For (thn (hi pins s σ H _ I h) fun v s1 h1 => thn h1 fun itv s2 h2 => ?_) hs
  obtain ⟨it, fp, tn, J, H2, e, I2, T, st2, f2, W, ⟨m0, w0⟩, turn⟩ := h2
  subst e
  -- what stays true of the iterator's objects through the loop
  have stat : ∀ {H' : Hp}, (∀ b ∈ fp, H' b = none) → ∀ b ∈ fp, FpOk X pins H' b := fun hn b hb => ⟨hn b hb, (f2 b hb).2⟩
  refine codeAny_forLoop_any (fun n s' => ∃ i σ' H', Inv X pins σ' H' s' ∧ tn i s'.heap ∧ (∀ b ∈ fp, H' b = none) ∧ W i n σ' H') ?_ m0 ⟨0, σ, H2, I2, st2, fun b hb => (f2 b hb).1, w0⟩
  rintro n s3 ⟨i, σ3, H3, I3, st3, fr3, w3⟩
  rcases turn i n σ3 H3 w3 with ⟨stop, qn⟩ | ⟨go, N, hN, step⟩
  · refine wpAny_passesOwn hp (thn (T.done X rfl rfl rfl hc i pins s3 σ3 H3 X.xe I3 (stat fr3) st3 stop) fun r s4 ⟨hr, I4⟩ => ?_)
    subst hr
    exact wpAny_execs_nil ⟨σ3, H3, I4, qn⟩
  · refine wpAny_passesOwn hp (thn (T.item X rfl rfl rfl hc i pins s3 σ3 H3 X.xe I3 (stat fr3) st3 go) fun r s4 ⟨u, hr, h4⟩ => ?_)
    subst hr
    refine wpAny_passesOwn hp (thn h4 fun _ s5 ⟨x, H5, I5, r5, y5, st5, fr5⟩ => ?_)
    have I5' := I5.pinned (stat fr5) (T.obj _ _ st5)
    refine wpAny_passesOwn hp (thn (hg _ s5 σ3 H5 x u _ I5' r5 (step x H5 y5)) fun _ s6 ⟨σ6, H6, I6, q6⟩ => ?_)
    refine wpAny_passesOwn hp (thn (hb _ s6 σ6 H6 _ I6 q6) fun f s7 q7 => ?_)
    have again : ∀ {σ7 : St} {H7 : Hp}, Inv X (pins ++ pinsAt fp s5.heap) σ7 H7 s7 → N σ7 H7 → ∃ m, m < n ∧ ∃ i σ' H', Inv X pins σ' H' s7 ∧ tn i s7.heap ∧ (∀ b ∈ fp, H' b = none) ∧ W i m σ' H' := fun {σ7 H7} I7 n7 => by
      obtain ⟨m', hm, w7⟩ := hN σ7 H7 n7
      refine ⟨m', hm, i + 1, σ7, H7, I7.unpinned, T.keep _ _ _ st5 fun b hb o e => (I7.pin (b, o) (List.mem_append_right _ (List.mem_append_right _ (mem_pinsAt hb e)))).1, fun b hb => ?_, w7⟩
      obtain ⟨o, e, d⟩ := T.obj _ _ st5 b hb
      exact (I7.pin (b, o) (List.mem_append_right _ (List.mem_append_right _ (mem_pinsAt hb e)))).2.1
    cases f with
    | next => obtain ⟨σ7, H7, I7, n7⟩ := q7; exact again I7 n7
    | cont => obtain ⟨σ7, H7, I7, n7⟩ := q7; exact again I7 n7
    | brk => obtain ⟨σ7, H7, I7, q7⟩ := q7; exact ⟨σ7, H7, I7.unpinned, q7⟩
    | ret v => obtain ⟨x7, σ7, H7, I7, r7, q7⟩ := q7; exact ⟨x7, σ7, H7, I7.unpinned, r7, q7⟩
end

/-! ### the forms one uses -/
/-- over a list that the body leaves as it is -/
theorem for_list {K : PySem.W.Frag} {a : Addr} {xs : List V} {g : TG} {tb : TS} {D : Ends} {σ : St} {H : Hp} (Pv : Nat → St → Hp → Prop) (h0 : Pv 0 σ H) (hl : ∀ i σ H, i ≤ xs.length → Pv i σ H → SqL K H a xs)
    (hs : ∀ i x σ H, xs[i]? = some x → Pv i σ H → g x σ H fun σ2 H2 => tb { D with nx := Pv (i + 1), ct := Pv (i + 1), bk := D.nx } σ2 H2) (hd : ∀ σ H, Pv xs.length σ H → D.nx σ H) :
    ∃ W : Nat → Nat → St → Hp → Prop, (∃ m, W 0 m σ H) ∧ ∀ i m σ H, W i m σ H →
      ((Itl K a).stop i H ∧ D.nx σ H) ∨ ((Itl K a).go i H ∧ ∃ N : St → Hp → Prop, (∀ σ' H', N σ' H' → ∃ m', m' < m ∧ W (i + 1) m' σ' H') ∧ ∀ x H', (Itl K a).yld i H x H' → g x σ H' fun σ2 H2 => tb { D with nx := N, ct := N, bk := D.nx } σ2 H2) := by
  refine ⟨fun i m σ H => m = xs.length - i ∧ i ≤ xs.length ∧ Pv i σ H, ⟨xs.length, by simp, Nat.zero_le _, h0⟩, ?_⟩
  rintro i m σ H ⟨rfl, hi, p⟩
  have q := hl i σ H hi p
  by_cases hlt : i < xs.length
  · refine .inr ⟨⟨xs, xs[i], q, by simp [hlt]⟩, Pv (i + 1), fun σ' H' p' => ⟨xs.length - (i + 1), by omega, rfl, hlt, p'⟩, fun x H' y => ?_⟩
    obtain ⟨e, y⟩ := y
    subst e
    exact hs i x σ _ (y xs q) p
  · have e : i = xs.length := by omega
    subst e
    exact .inl ⟨⟨xs, q, Nat.le_refl _⟩, hd σ H p⟩
theorem for_range {lo : Int} {n : Nat} {g : TG} {tb : TS} {D : Ends} {σ : St} {H : Hp} (Pv : Nat → St → Hp → Prop) (h0 : Pv 0 σ H)
    (hs : ∀ i σ H, i < n → Pv i σ H → g (.int (lo + i)) σ H fun σ2 H2 => tb { D with nx := Pv (i + 1), ct := Pv (i + 1), bk := D.nx } σ2 H2) (hd : ∀ σ H, Pv n σ H → D.nx σ H) :
    ∃ W : Nat → Nat → St → Hp → Prop, (∃ m, W 0 m σ H) ∧ ∀ i m σ H, W i m σ H →
      ((Itr lo n).stop i H ∧ D.nx σ H) ∨ ((Itr lo n).go i H ∧ ∃ N : St → Hp → Prop, (∀ σ' H', N σ' H' → ∃ m', m' < m ∧ W (i + 1) m' σ' H') ∧ ∀ x H', (Itr lo n).yld i H x H' → g x σ H' fun σ2 H2 => tb { D with nx := N, ct := N, bk := D.nx } σ2 H2) := by
  refine ⟨fun i m σ H => m = n - i ∧ i ≤ n ∧ Pv i σ H, ⟨n, by simp, Nat.zero_le _, h0⟩, ?_⟩
  rintro i m σ H ⟨rfl, hi, p⟩
  by_cases hlt : i < n
  · refine .inr ⟨hlt, Pv (i + 1), fun σ' H' p' => ⟨n - (i + 1), by omega, rfl, hlt, p'⟩, fun x H' y => ?_⟩
    obtain ⟨e, y⟩ := y
    subst e y
    exact hs i σ _ hlt p
  · have e : i = n := by omega
    subst e
    exact .inl ⟨Nat.le_refl _, hd σ H p⟩
end L2

namespace L2
open PySem PySem.Spec PyProof.Rows

noncomputable abbrev R2 := V → V → Hp → VK → Prop
/-- a two-place operation on values: f is binaryOp op, inplaceOp op or compareOp op -/
noncomputable def OpR (X : Cx) (f : Value → Value → Sem Value) (r : R2) : Prop :=
  ∀ (pins : List (Addr × Obj)) (s : Shared) (σ : St) (H : Hp) (x y : V) (v u : Value) (Q : VK), Inv X pins σ H s → RelV x v → RelV y u → r x y H Q →
    wpAny (model X.prog X.w) X.A (f v u) (EP X pins σ Q) X.xe s
/-- a one-place operation -/
noncomputable def UnR (X : Cx) (f : Value → Sem Value) (r : V → Hp → VK → Prop) : Prop :=
  ∀ (pins : List (Addr × Obj)) (s : Shared) (σ : St) (H : Hp) (x : V) (v : Value) (Q : VK), Inv X pins σ H s → RelV x v → r x H Q →
    wpAny (model X.prog X.w) X.A (f v) (EP X pins σ Q) X.xe s
/-- a call of a value that is known (a builtin, a type) with values -/
noncomputable def CallR (X : Cx) (f : Value) (r : List V → Hp → VK → Prop) : Prop :=
  ∀ (pins : List (Addr × Obj)) (s : Shared) (σ : St) (H : Hp) (xs : List V) (us : List Value) (Q : VK), Inv X pins σ H s → Vals xs us → r xs H Q →
    wpAny (model X.prog X.w) X.A (call f us) (EP X pins σ Q) X.xe s
/-- a value's truth -/
noncomputable def TruR (X : Cx) (r : V → Hp → (Bool → Hp → Prop) → Prop) : Prop :=
  ∀ (pins : List (Addr × Obj)) (s : Shared) (σ : St) (H : Hp) (x : V) (v : Value) (Q : Bool → Hp → Prop), Inv X pins σ H s → RelV x v → r x H Q →
    wpAny (model X.prog X.w) X.A (truthy v) (TP X pins σ Q) X.xe s

noncomputable def tOp (r : R2) (ta tb : TE) : TE := fun σ H Q => ta σ H fun x H1 => tb σ H1 fun y H2 => r x y H2 Q
noncomputable def tUn (r : V → Hp → VK → Prop) (ta : TE) : TE := fun σ H Q => ta σ H fun x H1 => r x H1 Q
/-- ints in, under C, and a value out -/
noncomputable def rI (C : Int → Int → Prop) (g : Int → Int → V) : R2 := fun x y H Q => ∃ i j, x = .int i ∧ y = .int j ∧ C i j ∧ Q (g i j) H
noncomputable def rI0 (g : Int → Int → V) : R2 := fun x y H Q => ∃ i j, x = .int i ∧ y = .int j ∧ Q (g i j) H
noncomputable def rU (g : Int → V) : V → Hp → VK → Prop := fun x H Q => ∃ i, x = .int i ∧ Q (g i) H

section
variable {X : Cx} {a b c : Expr} {ta tb tc : TE} {pos : Pos}

theorem binT (ha : PE X a ta) (hb : PE X b tb) {pins : List (Addr × Obj)} {s : Shared} {σ : St} {H : Hp} {R : V → V → Hp → Prop} (I : Inv X pins σ H s)
    (h : ta σ H fun x H1 => tb σ H1 fun y H2 => R x y H2) {Q : Value → Shared → Prop} {f : Value → Value → Sem Value}
    (hf : ∀ v u s2 x y H2, Inv X pins σ H2 s2 → RelV x v → RelV y u → R x y H2 → wpAny (model X.prog X.w) X.A (f v u) Q X.xe s2) :
    wpAny (model X.prog X.w) X.A (eval a X.env) (fun v s₁ => wpAny (model X.prog X.w) X.A (eval b X.env) (fun u s₂ => wpAny (model X.prog X.w) X.A (f v u) Q X.xe s₂) X.xe s₁) X.xe s := by
  refine thn (ha pins s σ H _ I h) fun v s1 ⟨x, H1, I1, r1, q1⟩ => ?_
  refine thn (hb pins s1 σ H1 _ I1 q1) fun u s2 ⟨y, H2, I2, r2, q2⟩ => ?_
  exact hf v u s2 x y H2 I2 r1 r2 q2

theorem pe_op {op : Operator} {r : R2} (ho : OpR X (binaryOp op) r) (ha : PE X a ta) (hb : PE X b tb) : PE X (.BinOp a op b pos) (tOp r ta tb) := by
  intro pins s σ H Q I h
  exact wpAny_BinOp (binT ha hb I h fun v u s2 x y H2 I2 rx ry q => ho pins s2 σ H2 x y v u Q I2 rx ry q)
theorem pe_un {op : UnaryOp} {r : V → Hp → VK → Prop} (ho : UnR X (unaryOp op) r) (ha : PE X a ta) : PE X (.UnaryOp op a pos) (tUn r ta) := by
  intro pins s σ H Q I h
  exact UnaryOp_ (thn (ha pins s σ H _ I h) fun v s1 ⟨x, H1, I1, r1, q1⟩ => ho pins s1 σ H1 x v Q I1 r1 q1)
/-! ### ints -/
theorem opI {f : Value → Value → Sem Value} {C : Int → Int → Prop} {g : Int → Int → Int}
    (rule : ∀ (i j : Int) (t u : Tok) (s : Shared) (Q : Value → Shared → Prop) (E : Value → Shared → Prop), C i j → Q (.int (g i j) s.toks) { s with toks := s.toks + 1 } → wpAny (model X.prog X.w) X.A (f (.int i t) (.int j u)) Q E s) :
    OpR X f (rI C fun i j => .int (g i j)) := by
  intro pins s σ H x y v u Q I rx ry h
  obtain ⟨i, j, rfl, rfl, hc, q⟩ := h
  obtain ⟨t, rfl⟩ := rx
  obtain ⟨t', rfl⟩ := ry
  exact rule i j t t' s _ _ hc ⟨.int (g i j), H, I.tok _, ⟨_, rfl⟩, q⟩
theorem opI0 {f : Value → Value → Sem Value} {g : Int → Int → Int}
    (rule : ∀ (i j : Int) (t u : Tok) (s : Shared) (Q : Value → Shared → Prop) (E : Value → Shared → Prop), Q (.int (g i j) s.toks) { s with toks := s.toks + 1 } → wpAny (model X.prog X.w) X.A (f (.int i t) (.int j u)) Q E s) :
    OpR X f (rI0 fun i j => .int (g i j)) := by
  intro pins s σ H x y v u Q I rx ry h
  obtain ⟨i, j, rfl, rfl, q⟩ := h
  obtain ⟨t, rfl⟩ := rx
  obtain ⟨t', rfl⟩ := ry
  exact rule i j t t' s _ _ ⟨.int (g i j), H, I.tok _, ⟨_, rfl⟩, q⟩
theorem opB0 {f : Value → Value → Sem Value} {g : Int → Int → Bool}
    (rule : ∀ (i j : Int) (t u : Tok) (s : Shared) (Q : Value → Shared → Prop) (E : Value → Shared → Prop), Q (.bool (g i j)) s → wpAny (model X.prog X.w) X.A (f (.int i t) (.int j u)) Q E s) :
    OpR X f (rI0 fun i j => .bl (g i j)) := by
  intro pins s σ H x y v u Q I rx ry h
  obtain ⟨i, j, rfl, rfl, q⟩ := h
  obtain ⟨t, rfl⟩ := rx
  obtain ⟨t', rfl⟩ := ry
  exact rule i j t t' s _ _ ⟨.bl (g i j), H, I, rfl, q⟩

noncomputable def CDiv (i j : Int) : Prop := 0 < j ∧ j < 1073741824
noncomputable def CPow (i j : Int) : Prop := 0 ≤ j ∧ j ≤ 1000000 ∧ i.natAbs < 2 ^ 64
noncomputable def CMul (i j : Int) : Prop := (-(2 ^ 64) < i ∧ i < 2 ^ 64) ∨ (-(2 ^ 64) < j ∧ j < 2 ^ 64)
theorem CMul.ok {i j : Int} (h : CMul i j) : IntMulOk i j := by
  rcases h with ⟨h1, h2⟩ | ⟨h1, h2⟩
  · exact .of_left (intBits_le_64 h1 h2)
  · exact .of_right (intBits_le_64 h1 h2)
theorem op_add : OpR X (binaryOp .Add) (rI0 fun i j => .int (i + j)) := opI0 fun _ _ _ _ _ _ _ q => add_int q
theorem op_sub : OpR X (binaryOp .Sub) (rI0 fun i j => .int (i - j)) := opI0 fun _ _ _ _ _ _ _ q => sub_int q
/-- % by a positive divisor of any size -/
theorem op_mod : OpR X (binaryOp .Mod) (rI (fun _ j => 0 < j) fun i j => .int (i % j)) := opI fun i j _ _ _ _ _ hc q => by
  have h1 : (0 : Int) < j := hc
  exact mod_int' (by omega) (by rw [Int.fmod_eq_emod_of_nonneg i (by omega)]; exact q)
theorem op_pow : OpR X (binaryOp .Pow) (rI CPow fun i j => .int (i ^ j.toNat)) := opI fun _ _ _ _ _ _ _ hc q => pow_int_small hc.1 hc.2.1 hc.2.2 q
theorem op_or : OpR X (binaryOp .BitOr) (rI0 fun i j => .int (Builtin.bitOr i j)) := opI0 fun _ _ _ _ _ _ _ q => or_int q
theorem unI {f : Value → Sem Value} {g : Int → Int}
    (rule : ∀ (i : Int) (t : Tok) (s : Shared) (Q : Value → Shared → Prop) (E : Value → Shared → Prop), Q (.int (g i) s.toks) { s with toks := s.toks + 1 } → wpAny (model X.prog X.w) X.A (f (.int i t)) Q E s) :
    UnR X f (rU fun i => .int (g i)) := by
  intro pins s σ H x v Q I rx h
  obtain ⟨i, rfl, q⟩ := h
  obtain ⟨t, rfl⟩ := rx
  exact rule i t s _ _ ⟨.int (g i), H, I.tok _, ⟨_, rfl⟩, q⟩
theorem un_neg : UnR X (unaryOp .USub) (rU fun i => .int (-i)) := unI fun _ _ _ _ _ q => neg_int q
/-! ### bools among ints: n += (a < b) -/
end

/-! ### comparisons -/
/-- the scalars that == tells apart as data does -/
noncomputable def scal : V → V → Bool
  | .non, .non => true | .non, .int _ => true | .int _, .non => true | .non, .bl _ => true | .bl _, .non => true | .non, .str _ => true | .str _, .non => true
  | .int _, .int _ => true | .bl _, .bl _ => true | .str _, .str _ => true | .byt _, .byt _ => true
  | .int _, .str _ => true | .str _, .int _ => true | .bl _, .str _ => true | .str _, .bl _ => true
  | _, _ => false
noncomputable def rEq : R2 := fun x y H Q => scal x y = true ∧ Q (.bl (decide (x = y))) H
noncomputable def rNe : R2 := fun x y H Q => scal x y = true ∧ Q (.bl (!decide (x = y))) H

theorem dec_int {i j : Int} : decide (V.int i = V.int j) = (i == j) := by
  rw [Bool.eq_iff_iff]
  simp
theorem dec_bl {i j : Bool} : decide (V.bl i = V.bl j) = (i == j) := by
  rw [Bool.eq_iff_iff]
  simp
theorem dec_str {i j : Str} : decide (V.str i = V.str j) = (i == j) := by
  rw [Bool.eq_iff_iff]
  simp
theorem dec_byt {i j : Array UInt8} : decide (V.byt i = V.byt j) = (i.toList == j.toList) := by
  rw [Bool.eq_iff_iff]
  cases i
  cases j
  simp

section
variable {X : Cx} {a b c : Expr} {ta tb tc : TE} {pos : Pos}
theorem fin_bl {pins : List (Addr × Obj)} {σ : St} {H : Hp} {s : Shared} {Q : VK} {k k' : Bool} (I : Inv X pins σ H s) (q : Q (.bl k) H) (e : k = k') : EP X pins σ Q (.bool k') s := by
  subst e
  exact ⟨.bl k, H, I, rfl, q⟩
theorem op_eq : OpR X (compareOp .Eq) rEq := by
  intro pins s σ H x y v u Q I rx ry h
  obtain ⟨hs, q⟩ := h
  cases x with
  | non =>
    cases rx
    cases y with
    | non => cases ry; exact PySem.EqNone.eq_none_none (fin_bl I q (by simp))
    | bl j => cases ry; exact PySem.EqNone.eq_none_bool (fin_bl I q (by simp))
    | int j => obtain ⟨t', rfl⟩ := ry; exact PySem.EqNone.eq_none_int (fin_bl I q (by simp))
    | str j => obtain ⟨t', rfl⟩ := ry; exact PySem.EqNone.eq_none_str (fin_bl I q (by simp))
    | _ => exact absurd (show false = true from hs) Bool.false_ne_true
  | bl i =>
    cases rx
    cases y with
    | non => cases ry; exact PySem.EqNone.eq_bool_none (fin_bl I q (by simp))
    | bl j => cases ry; exact eq_bool (fin_bl I q dec_bl)
    | str j => obtain ⟨t', rfl⟩ := ry; exact PySem.EqMixed.eq_bool_str (fin_bl I q (by simp))
    | _ => exact absurd (show false = true from hs) Bool.false_ne_true
  | int i =>
    obtain ⟨t, rfl⟩ := rx
    cases y with
    | non => cases ry; exact PySem.EqNone.eq_int_none (fin_bl I q (by simp))
    | int j => obtain ⟨t', rfl⟩ := ry; exact eq_int (fin_bl I q dec_int)
    | str j => obtain ⟨t', rfl⟩ := ry; exact PySem.EqMixed.eq_int_str (fin_bl I q (by simp))
    | _ => exact absurd (show false = true from hs) Bool.false_ne_true
  | str i =>
    obtain ⟨t, rfl⟩ := rx
    cases y with
    | non => cases ry; exact PySem.EqNone.eq_str_none (fin_bl I q (by simp))
    | bl j => cases ry; exact PySem.EqMixed.eq_str_bool (fin_bl I q (by simp))
    | int j => obtain ⟨t', rfl⟩ := ry; exact PySem.EqMixed.eq_str_int (fin_bl I q (by simp))
    | str j => obtain ⟨t', rfl⟩ := ry; exact eq_str (fin_bl I q dec_str)
    | _ => exact absurd (show false = true from hs) Bool.false_ne_true
  | byt i =>
    obtain ⟨t, rfl⟩ := rx
    cases y with
    | byt j => obtain ⟨t', rfl⟩ := ry; exact PySem.W.eq_bytes (fin_bl I q dec_byt)
    | _ => exact absurd (show false = true from hs) Bool.false_ne_true
  | _ => cases y <;> exact absurd (show false = true from hs) Bool.false_ne_true
theorem op_ne : OpR X (compareOp .NotEq) rNe := by
  intro pins s σ H x y v u Q I rx ry h
  obtain ⟨hs, q⟩ := h
  cases x with
  | non =>
    cases rx
    cases y with
    | non => cases ry; exact PySem.EqNone.ne_none_none (fin_bl I q (by simp))
    | bl j => cases ry; exact PySem.EqNone.ne_none_bool (fin_bl I q (by simp))
    | int j => obtain ⟨t', rfl⟩ := ry; exact PySem.EqNone.ne_none_int (fin_bl I q (by simp))
    | str j => obtain ⟨t', rfl⟩ := ry; exact PySem.EqNone.ne_none_str (fin_bl I q (by simp))
    | _ => exact absurd (show false = true from hs) Bool.false_ne_true
  | bl i =>
    cases rx
    cases y with
    | non => cases ry; exact PySem.EqNone.ne_bool_none (fin_bl I q (by simp))
    | bl j => cases ry; exact ne_bool (fin_bl I q (congrArg not dec_bl))
    | str j => obtain ⟨t', rfl⟩ := ry; exact PySem.EqMixed.ne_bool_str (fin_bl I q (by simp))
    | _ => exact absurd (show false = true from hs) Bool.false_ne_true
  | int i =>
    obtain ⟨t, rfl⟩ := rx
    cases y with
    | non => cases ry; exact PySem.EqNone.ne_int_none (fin_bl I q (by simp))
    | int j => obtain ⟨t', rfl⟩ := ry; exact ne_int (fin_bl I q (congrArg not dec_int))
    | str j => obtain ⟨t', rfl⟩ := ry; exact PySem.EqMixed.ne_int_str (fin_bl I q (by simp))
    | _ => exact absurd (show false = true from hs) Bool.false_ne_true
  | str i =>
    obtain ⟨t, rfl⟩ := rx
    cases y with
    | non => cases ry; exact PySem.EqNone.ne_str_none (fin_bl I q (by simp))
    | bl j => cases ry; exact PySem.EqMixed.ne_str_bool (fin_bl I q (by simp))
    | int j => obtain ⟨t', rfl⟩ := ry; exact PySem.EqMixed.ne_str_int (fin_bl I q (by simp))
    | str j => obtain ⟨t', rfl⟩ := ry; exact ne_str (fin_bl I q (congrArg not dec_str))
    | _ => exact absurd (show false = true from hs) Bool.false_ne_true
  | byt i =>
    obtain ⟨t, rfl⟩ := rx
    cases y with
    | byt j => obtain ⟨t', rfl⟩ := ry; exact PySem.W.ne_bytes (fin_bl I q (congrArg not dec_byt))
    | _ => exact absurd (show false = true from hs) Bool.false_ne_true
  | _ => cases y <;> exact absurd (show false = true from hs) Bool.false_ne_true

theorem op_lt : OpR X (compareOp .Lt) (rI0 fun i j => .bl (decide (i < j))) := opB0 fun _ _ _ _ _ _ _ q => lt_int q
theorem op_gt : OpR X (compareOp .Gt) (rI0 fun i j => .bl (decide (j < i))) := opB0 fun _ _ _ _ _ _ _ q => gt_int q
theorem op_ge : OpR X (compareOp .GtE) (rI0 fun i j => .bl (decide (j ≤ i))) := opB0 fun _ _ _ _ _ _ _ q => ge_int q
theorem op_lt_str : OpR X (compareOp .Lt) (fun x y H Q => ∃ i j, x = .str i ∧ y = .str j ∧ Q (.bl (decide (i.cps.toList < j.cps.toList))) H) := by
  intro pins s σ H x y v u Q I rx ry h
  obtain ⟨i, j, rfl, rfl, q⟩ := h
  obtain ⟨t, rfl⟩ := rx
  obtain ⟨t', rfl⟩ := ry
  exact lt_str (fin_bl I q rfl)
/-- is, is not of two objects that are tracked lists or instances -/
noncomputable def isObj : HO → Bool
  | .lst _ => true
  | .ins _ _ _ => true
  | _ => false
/-- two rules for one operation: by cases -/
theorem OpR.or {f : Value → Value → Sem Value} {r r' : R2} (h : OpR X f r) (h' : OpR X f r') : OpR X f (fun x y H Q => r x y H Q ∨ r' x y H Q) := by
  intro pins s σ H x y v u Q I rx ry q
  rcases q with q | q
  · exact h pins s σ H x y v u Q I rx ry q
  · exact h' pins s σ H x y v u Q I rx ry q

theorem nomark (b : Expr) {op : CmpOp} (h : op ≠ .In := by decide) (h2 : op ≠ .NotIn := by decide) : behindInMarks op b = false := by
  have e1 : (op == CmpOp.In) = false := by cases op <;> first | rfl | exact absurd rfl h
  have e2 : (op == CmpOp.NotIn) = false := by cases op <;> first | rfl | exact absurd rfl h2
  cases b <;> simp [behindInMarks, e1, e2]
/-- a comparison as a value; hm: nomark b, or (for in, not in) by with_unfolding_all rfl -/
theorem pe_cmpR {op : CmpOp} {r : R2} (ho : OpR X (compareOp op) r) (ha : PE X a ta) (hb : PE X b tb) (hm : behindInMarks op b = false) : PE X (.Compare a [op] [b] pos) (tOp r ta tb) := by
  intro pins s σ H Q I h
  exact wpAny_Compare1 (binT ha hb I h fun v u s2 x y H2 I2 rx ry q => ho pins s2 σ H2 x y v u Q I2 rx ry q) hm
/-! ### truth -/
/-- a value's truth by the abstract heap -/
noncomputable def TruV (K : PySem.W.Frag) (x : V) (H : Hp) (k : Bool) : Prop :=
  match x with
  | .non => k = false
  | .bl b => k = b
  | .int i => k = (i != 0)
  | .str y => y.length ≤ sizeLine ∧ k = ((y.length : Int) != 0)
  | .byt y => y.size ≤ sizeLine ∧ k = ((y.size : Int) != 0)
  | .ref p => (∃ xs, SqL K H p xs ∧ k = !xs.isEmpty) ∨ (∃ xs, SqT K H p xs ∧ k = !xs.isEmpty) ∨ ∃ kvs, H p = some (.dK kvs) ∧ k = !kvs.isEmpty
  | _ => False
theorem isEmpty_kv {κ : Type} {kvs : List (κ × V)} {vs : List (κ × Value)} (r : KV kvs vs) : (!vs.isEmpty) = !kvs.isEmpty := by
  cases r <;> rfl
theorem isEmpty_of {xs : List V} {its : List Value} (r : Vals xs its) : (!its.toArray.isEmpty) = !xs.isEmpty := by
  cases r <;> simp
theorem line63 : (sizeLine : Nat) < 2 ^ 63 := by rw [sizeLine_eq]; decide
theorem tru_ok : TruR X (fun x H Q => ∃ k, TruV X.K x H k ∧ Q k H) := by
  intro pins s σ H x v Q I rx h
  obtain ⟨k, e, q⟩ := h
  have hl := line63
  have hs : sizeLine = 16777216 := sizeLine_eq
  cases x with
  | non =>
    cases rx
    have e' : k = false := e
    subst e'
    exact truthy_none ⟨H, I, q⟩
  | bl b =>
    cases rx
    have e' : k = b := e
    subst e'
    exact wpAny_truthy_bool ⟨H, I, q⟩
  | int i =>
    obtain ⟨t, rfl⟩ := rx
    have e' : k = (i != 0) := e
    subst e'
    exact PySem.P.truthy_int ⟨H, I, q⟩
  | str y =>
    obtain ⟨t, rfl⟩ := rx
    obtain ⟨hy, e'⟩ : y.length ≤ sizeLine ∧ k = ((y.length : Int) != 0) := e
    subst e'
    exact PySem.P.truthy_str (by omega) ⟨H, I.tok _, q⟩
  | byt y =>
    obtain ⟨t, rfl⟩ := rx
    obtain ⟨hy, e'⟩ : y.size ≤ sizeLine ∧ k = ((y.size : Int) != 0) := e
    subst e'
    exact PySem.W.truthy_bytes (by omega) ⟨H, I.tok _, q⟩
  | ref p =>
    cases rx
    have e' : (∃ xs, SqL X.K H p xs ∧ k = !xs.isEmpty) ∨ (∃ xs, SqT X.K H p xs ∧ k = !xs.isEmpty) ∨ ∃ kvs, H p = some (.dK kvs) ∧ k = !kvs.isEmpty := e
    rcases e' with ⟨xs, hx, e'⟩ | ⟨xs, hx, e'⟩ | ⟨kvs, hx, e'⟩
    · subst e'
      obtain ⟨its, r, pl, hz⟩ := I.list hx
      have hlen := r.length
      exact wpAny_truthy_list pl.isList (by simp only [List.size_toArray]; omega) ⟨H, I.tok _, by rw [isEmpty_of r]; exact q⟩
    · subst e'
      obtain ⟨its, r, pl, hz⟩ := I.tuple hx
      have hlen := r.length
      exact truthy_tuple pl (by simp only [List.size_toArray]; omega) ⟨H, I.tok _, by rw [isEmpty_of r]; exact q⟩
    · subst e'
      obtain ⟨hz, hS, vs, r, m⟩ : kvs.length ≤ sizeLine ∧ (p == sysModules) = false ∧ ∃ vs, KV kvs vs ∧ s.heap.DictOf (mixKind X.prog X.w) p vs := I.hok p _ hx
      have hlen : kvs.length = vs.length := Paired.length r
      exact wpAny_truthy_dict hS m (by omega) ⟨H, I.tok _, by rw [isEmpty_kv r]; exact q⟩
  | _ => exact (show False from e).elim
/-- any expression whose test is its value's truth (a name, a call, a subscript, a field ..: he by fun _ => rfl) -/
theorem pt_truth (ha : PE X a ta) (he : ∀ whole, isTrue a X.env whole = (do let v ← whole; standAt a.pos; holding [v] (truthy v))) :
    PT X a (fun σ H Q => ta σ H fun x H' => ∃ k, TruV X.K x H' k ∧ Q k H') := by
  intro pins s σ H Q I h
  exact isTrue_plain (thn (ha pins s σ H _ I h) fun v s1 ⟨x, H1, I1, r1, q1⟩ => tru_ok pins s1 σ H1 x v Q I1 r1 q1) (he _)

/-! ### strs and bytes -/
theorem op_add_str : OpR X (binaryOp .Add) (fun x y H Q => ∃ i j, x = .str i ∧ y = .str j ∧ i.length + j.length ≤ sizeLine ∧ Q (.str (i ++ j)) H) := by
  intro pins s σ H x y v u Q I rx ry h
  obtain ⟨i, j, rfl, rfl, hz, q⟩ := h
  obtain ⟨t, rfl⟩ := rx
  obtain ⟨t', rfl⟩ := ry
  exact add_str (fun t' tk => ⟨.str (i ++ j), H, I.tok _, ⟨_, rfl⟩, q⟩) hz
/-! ### scalar builtins, by CallR -/
theorem vals1 {x : V} {us : List Value} (r : Vals [x] us) : ∃ u, us = [u] ∧ RelV x u := by
  cases r with
  | cons r1 r2 => cases r2; exact ⟨_, rfl, r1⟩
theorem vals2 {x y : V} {us : List Value} (r : Vals [x, y] us) : ∃ u w', us = [u, w'] ∧ RelV x u ∧ RelV y w' := by
  cases r with
  | cons r1 r2 =>
    cases r2 with
    | cons r3 r4 => cases r4; exact ⟨_, _, rfl, r1, r3⟩
theorem call_abs : CallR X (.builtin "abs") (fun xs H Q => ∃ i, xs = [.int i] ∧ Q (.int (if i < 0 then -i else i)) H) := by
  intro pins s σ H xs us Q I r h
  obtain ⟨i, rfl, q⟩ := h
  obtain ⟨u, rfl, t, rfl⟩ := vals1 r
  exact call_abs_int fun u tk => ⟨.int (if i < 0 then -i else i), H, I.tok _, ⟨_, rfl⟩, q⟩
inductive rTwo (f : Int → Int → Int) (xs : List V) (H : Hp) (Q : VK) : Prop
  | mk (i j : Int) (h0 : xs = [.int i, .int j]) (h1 : Q (.int (f i j)) H) : rTwo f xs H Q
theorem call_max2 (hc : X.calm = true) : CallR X (.builtin "max") (rTwo fun i j => if j > i then j else i) := by
  intro pins s σ H xs us Q I r h
  obtain ⟨i, j, rfl, q⟩ := h
  obtain ⟨u, w', rfl, ⟨t, rfl⟩, ⟨t', rfl⟩⟩ := vals2 r
  refine max_two_ints (I.ok.hd hc) fun h' tk k => ⟨_, H, I.kept k, ?_, q⟩
  by_cases hj : j > i
  · rw [if_pos hj, if_pos hj]; exact ⟨_, rfl⟩
  · rw [if_neg hj, if_neg hj]; exact ⟨_, rfl⟩
theorem call_min2 (hc : X.calm = true) : CallR X (.builtin "min") (rTwo fun i j => if j < i then j else i) := by
  intro pins s σ H xs us Q I r h
  obtain ⟨i, j, rfl, q⟩ := h
  obtain ⟨u, w', rfl, ⟨t, rfl⟩, ⟨t', rfl⟩⟩ := vals2 r
  refine min_two_ints (I.ok.hd hc) fun h' tk k => ⟨_, H, I.kept k, ?_, q⟩
  by_cases hj : j < i
  · rw [if_pos hj, if_pos hj]; exact ⟨_, rfl⟩
  · rw [if_neg hj, if_neg hj]; exact ⟨_, rfl⟩
theorem call_int1 : CallR X (.type "int") (fun xs H Q => (∃ i, xs = [.int i] ∧ Q (.int i) H) ∨ ∃ k, xs = [.bl k] ∧ Q (.int (if k then 1 else 0)) H) := by
  intro pins s σ H xs us Q I r h
  rcases h with ⟨i, rfl, q⟩ | ⟨k, rfl, q⟩
  · obtain ⟨u, rfl, t, rfl⟩ := vals1 r
    exact call_int_int ⟨.int i, H, I, ⟨_, rfl⟩, q⟩
  · obtain ⟨u, rfl, r1⟩ := vals1 r
    cases r1
    exact call_int_bool ⟨.int (if k then 1 else 0), H, I.tok _, ⟨_, rfl⟩, q⟩
end
end L2

namespace L2
open PySem PySem.Spec PyProof.Rows

/-! ### an instance, its attributes a map -/
structure ObjM (h : Heap) (x dx C : Addr) (mA : Str → Option Value) : Prop where
  obj : h.get? x = some (PySem.W.instObj C dx)
  ns : h.Ns1 dx mA
  ne : dx ≠ x

theorem lookIn_ns {h : Heap} {dx : Addr} {mA : Str → Option Value} (n : h.Ns1 dx mA) : ∃ od, h.get? dx = some od ∧ ∀ name, PySem.W.lookIn name od = some (mA name) := by
  obtain ⟨o, es, ep, ho, hd, hk, _, hm⟩ := n
  refine ⟨o, ho, fun name => ?_⟩
  have e := hm name
  unfold nsFind findBy at e
  rw [← Array.find?_toList] at e
  unfold PySem.W.lookIn
  rw [hd]
  dsimp only
  split
  · rename_i y q
    rw [q] at e
    exact congrArg some e
  · rename_i q
    rw [q] at e
    have a : es.toList.any (·.refKey) = false := by
      rw [List.any_eq_false]
      intro y hy
      obtain ⟨z, t, hkey⟩ := hk y (Array.mem_toList_iff.mp hy)
      simp [DictEntry.refKey, hkey]
    have a' : ¬ es.toList.any (·.refKey) = true := by rw [a]; exact Bool.false_ne_true
    rw [if_neg a']
    exact congrArg some e

theorem ObjM.look {h : Heap} {x dx C : Addr} {mA : Str → Option Value} (I : ObjM h x dx C mA) : ∃ od, PySem.W.InstAt h x (PySem.W.instObj C dx) C (some od) ∧ ∀ name, PySem.W.lookIn name od = some (mA name) :=
  let ⟨od, ho, hl⟩ := lookIn_ns I.ns
  ⟨od, ⟨I.obj, rfl, rfl, ho⟩, hl⟩

section
variable {prog : Program} {w : World} {A : Around} {E : Value → Shared → Prop} {s : Shared} {K : PySem.W.Frag} {x dx C f : Addr} {mA : Str → Option Value} {name : Str} {v : Value}

end

/-! ### the attributes as a list of pairs -/
theorem RelO.some_of {v : V} {o : Option Value} (r : RelO (some v) o) : ∃ u, o = some u ∧ RelV v u := by
  cases o with
  | none => exact (show False from r).elim
  | some u => exact ⟨u, rfl, r⟩
theorem RelO.none_of {o : Option Value} (r : RelO none o) : o = none := by
  cases o with
  | none => rfl
  | some u => exact (show False from r).elim
section
variable {P : Program} {w : World} {H H' : Hp} {h h' : Heap} {a C dx : Addr} {fs fs' : List (Str × V)}
theorem ins_get (hok : HOk P w H h) (e : H a = some (.ins C dx fs)) : ∃ mA, ObjM h a dx C mA ∧ (∀ f, RelO (fs.lookup f) (mA f)) ∧ PySem.Within mA (fs.map (·.1)) ∧ fs.length ≤ 1000 ∧ H dx = some (.own a) := by
  obtain ⟨d, z, ne, ob, mA, n, r, q⟩ := (show ObjOk P w H h a (.ins C dx fs) from hok a _ e)
  exact ⟨mA, ⟨ob, n, ne⟩, r, q, z, d⟩
end

/-! ### what of the text a class must have -/
structure Cls (K : PySem.W.Frag) (C : Addr) : Prop where
  pg : PySem.W.plainGet K C Str.empty = true
  hd : PySem.W.hasDictIn K C = true
  po : PySem.W.plainOver K C = true
  sa : PySem.W.findIn K (.ref C) "__setattr__" = some (some (.builtin "object.__setattr__"))
theorem Cls.get {K : PySem.W.Frag} {C : Addr} (c : Cls K C) (f : Str) : PySem.W.plainGet K C f = true := c.pg
/-- a constant of the class -/
structure Con (K : PySem.W.Frag) (C : Addr) (f : Str) (v : V) (u : Value) : Prop where
  at_ : PySem.W.findIn K (.ref C) f = some (some u)
  rel : RelV v u
  get : PySem.W.specialIn K u "__get__" = some none
  cp : PySem.W.copiedNames.contains f = false
/-- a method: a plain def of the class or of one above it -/
structure Meth (K : PySem.W.Frag) (C : Addr) (m : Str) (f : Addr) : Prop where
  at_ : PySem.W.findIn K (.ref C) m = some (some (.ref f))
  fn : PySem.W.isFn K (.ref f) = true
  kp : PySem.W.keepIn K (.ref f) = true

section
variable {X : Cx} {pins : List (Addr × Obj)} {σ : St} {H : Hp} {s : Shared} {a C dx : Addr} {fs : List (Str × V)} {f : Str} {v : V} {A : Around} {E : Value → Shared → Prop}

/-- a new instance, tracked, without attributes -/
theorem Inv.made (I : Inv X pins σ H s) : Inv X pins σ (upd (upd H s.heap.objs.size (.own (s.heap.objs.size + 1))) (s.heap.objs.size + 1) (.ins C s.heap.objs.size []))
    { s with heap := (s.heap.push PySem.W.emptyDict).push (PySem.W.instObj C s.heap.objs.size) } := by
  have e1 : (s.heap.push PySem.W.emptyDict).get? s.heap.objs.size = some PySem.W.emptyDict := Heap.get?_push_size s.heap rfl
  have e2 : ((s.heap.push PySem.W.emptyDict).push (PySem.W.instObj C s.heap.objs.size)).get? (s.heap.objs.size + 1) = some (PySem.W.instObj C s.heap.objs.size) := by
    have := Heap.get?_push_size (s.heap.push PySem.W.emptyDict) (o := PySem.W.instObj C s.heap.objs.size) rfl
    rwa [Heap.size_push] at this
  have e3 : (s.heap.push PySem.W.emptyDict).Ns s.heap.objs.size (fun _ => none) := ⟨PySem.W.emptyDict, #[], _, e1, rfl, (fun e he => absurd he (by simp)), fun _ => rfl⟩
  have I1 := I.laid (a := s.heap.objs.size) (o := .own (s.heap.objs.size + 1)) (h' := s.heap.push PySem.W.emptyDict) (t' := s.toks) (fun b u q => Heap.get?_push_of_some _ q) (Nat.le_refl _) ⟨_, e1⟩
  refine I1.laid (a := s.heap.objs.size + 1) (o := .ins C s.heap.objs.size []) (t' := s.toks) (fun b u q => Heap.get?_push_of_some _ q) (Nat.le_of_eq (Heap.size_push _ _)) ?_
  have ne : s.heap.objs.size ≠ s.heap.objs.size + 1 := Nat.ne_of_lt (Nat.lt_succ_self _)
  refine ⟨by rw [upd_ne ne, upd_same], Nat.zero_le _, ne, e2, fun _ => none, (Heap.Ns1.of_empty e3).at fun o q => Heap.get?_push_of_some _ q, fun _ => True.intro, fun y hy => absurd rfl hy⟩

end

/-! ### readings and rules -/
section
variable {X : Cx} {o e value : Expr} {f : Str} {pos pos' tpos : Pos} {ta tv : TE}
end

/-! ### isinstance -/
section
variable {X : Cx} {pins : List (Addr × Obj)} {σ : St} {H : Hp} {s : Shared} {A : Around} {E : Value → Shared → Prop} {Q : Value → Shared → Prop} {c : Value} {b : Bool}
/-- the type of a value, as the fragment's deciders take it; for an instance its class -/
inductive TyOf (K : PySem.W.Frag) (H : Hp) : V → Value → Prop where
  | non : TyOf K H .non (.type "NoneType")
  | bl (x : Bool) : TyOf K H (.bl x) (.type "bool")
  | int (i : Int) : TyOf K H (.int i) (.type "int")
  | str (x : Str) : TyOf K H (.str x) (.type "str")
  | flt (x : UInt64) : TyOf K H (.flt x) (.type "float")
  | lst {a : Addr} {xs : List V} (e : H a = some (.lst xs)) : TyOf K H (.ref a) (.type "list")
  | frz {a : Addr} {o : Obj} {xs : List V} (e : H a = some (.frz o (.lst xs))) : TyOf K H (.ref a) (.type "list")
  | tup {a : Addr} {xs : List V} (e : H a = some (.tup xs)) : TyOf K H (.ref a) (.type "tuple")
  | dK {a : Addr} {kvs : List (Key × V)} (e : H a = some (.dK kvs)) : TyOf K H (.ref a) (.type "dict")
  | dT {a : Addr} {kvs : List (List Key × V)} (e : H a = some (.dT kvs)) : TyOf K H (.ref a) (.type "dict")
  | ins {a C dx : Addr} {fs : List (Str × V)} (e : H a = some (.ins C dx fs)) (cl : Cls K C) (ha : PySem.W.findIn K (.ref C) "__class__" = some (some (.builtin "object.__class__")))
      (hn : PySem.W.specialIn K (.builtin "object.__class__") "__get__" = some (some (.builtin "getset_descriptor.__get__"))) (htk : PySem.W.takesIn K (.builtin "object.__class__") = some true)
      (hm : PySem.W.mroIn K C (.type "object") = some true) : TyOf K H (.ref a) (.ref C)
end
end L2

namespace L2
open PySem PySem.Spec PyProof.Rows

/-! ### room -/
structure Room (k : Nat) (A : Around) : Prop where
  hd : A.handled = none
  dp : A.depth + 3 * k + 5 < recursionLimit
  un : A.units + 16 * k + 200 < cLine
theorem Room.mono {j k : Nat} {A : Around} (r : Room k A) (h : j ≤ k) : Room j A := ⟨r.hd, by have := r.dp; omega, by have := r.un; omega⟩
theorem Room.deeper {k : Nat} {A : Around} (r : Room (k + 1) A) (env : Env) : Room k (A.deeper env) :=
  ⟨r.hd, by have := r.dp; show A.depth + 1 + 3 * k + 5 < _; omega, by have := r.un; show A.units + 3 + 16 * k + 200 < _; omega⟩
theorem Room.in1 {k : Nat} {A : Around} (r : Room (k + 1) A) : Room k A.in1 :=
  ⟨r.hd, by have := r.dp; show A.depth + 3 * k + 5 < _; omega, by have := r.un; show A.units + 1 + 16 * k + 200 < _; omega⟩
theorem make_depth {A : Around} {C : Addr} {us : List Value} {kw : List (Str × Value)} : (A.under (.builtin "type.__call__" ⟨.ref C :: us, kw⟩)).depth = A.depth + 1 := by
  first | rfl | simp [Around.under, Code.weight, Code.isCreation, Code.isGuard, Code.isCaller, Code.frames, Code.isFrame, guardIds]
theorem make_units {A : Around} {C : Addr} {us : List Value} {kw : List (Str × Value)} : (A.under (.builtin "type.__call__" ⟨.ref C :: us, kw⟩)).units = A.units + 1 := by
  first | rfl | simp [Around.under, Code.cUnits, Code.frames, Code.isFrame]
theorem Room.make {k : Nat} {A : Around} (r : Room (k + 1) A) (C : Addr) (us : List Value) (kw : List (Str × Value)) : Room k (A.under (.builtin "type.__call__" ⟨.ref C :: us, kw⟩)) :=
  ⟨r.hd, by have := r.dp; rw [make_depth]; omega, by have := r.un; rw [make_units]; omega⟩
theorem Room.depth {k : Nat} {A : Around} (r : Room k A) : A.depth < recursionLimit := by have := r.dp; omega
theorem Room.units {k : Nat} {A : Around} (r : Room k A) : A.units + 64 < cLine := by have := r.un; omega
/-! ### argument lists and displays -/
noncomputable def tNil : TA := fun _ H Q => Q [] H
noncomputable def tCons (ta : TE) (tr : TA) : TA := fun σ H Q => ta σ H fun x H1 => tr σ H1 fun xs H2 => Q (x :: xs) H2
section
variable {X : Cx} {e : Expr} {es : List Expr} {te : TE} {t : TA} {pos : Pos}
theorem pa_nil : PA X [] tNil := fun _ _ _ _ H Q I h => Calls.spliced_nil ⟨[], H, I, .nil, h⟩
theorem pa_cons (ha : PE X e te) (hr : PA X es t) (hs : starEach (e :: es) X.env = (false, eval e X.env) :: starEach es X.env := by rfl) : PA X (e :: es) (tCons te t) := by
  intro pos pins s σ H Q I h
  rw [hs]
  show wpAny _ _ (spliced ((false, eval e X.env) :: backTo pos (starEach es X.env))) _ _ s
  refine Calls.spliced_cons (thn (ha pins s σ H _ I h) fun u s1 ⟨x, H1, I1, r1, q1⟩ => ?_)
  exact thn (hr pos pins s1 σ H1 _ I1 q1) fun us s2 ⟨xs, H2, I2, r2, q2⟩ => ⟨x :: xs, H2, I2, .cons r1 r2, q2⟩

/-- a tuple, a list of written items -/
noncomputable def tTup (t : TA) : TE := fun σ H Q => t σ H fun xs H1 => xs.length ≤ sizeLine ∧ ∀ p, H1 p = none → Q (.ref p) (upd H1 p (.tup xs))
noncomputable def tLst (t : TA) : TE := fun σ H Q => t σ H fun xs H1 => xs.length ≤ sizeLine ∧ ∀ p, H1 p = none → Q (.ref p) (upd H1 p (.lst xs))
theorem pe_tup {x1} (h : PA X es t) : PE X (.Tuple es x1 pos) (tTup t) := by
  intro pins s σ H Q I hq
  refine wpAny_Tuple_spliced (thn (h pos pins s σ H _ I hq) fun us s1 ⟨xs, H1, I1, r, z, q⟩ => ⟨by rw [← r.length]; exact z, ?_⟩)
  have hf : H1 s1.heap.objs.size = none := I1.hok.fresh (Nat.le_refl _)
  refine ⟨.ref s1.heap.objs.size, upd H1 s1.heap.objs.size (.tup xs), I1.laid (t' := s1.toks) (fun b u e => Heap.get?_push_of_some _ e) (Nat.le_refl _) ?_, rfl, q _ hf⟩
  exact ⟨z, us, r, ⟨_, Heap.get?_push_size _ rfl, rfl, _, rfl⟩⟩
theorem pe_lst (h : PA X es t) : PE X (.List es pos) (tLst t) := by
  intro pins s σ H Q I hq
  refine wpAny_List_spliced (thn (h pos pins s σ H _ I hq) fun us s1 ⟨xs, H1, I1, r, z, q⟩ => ⟨by rw [← r.length]; exact z, ?_⟩)
  have hf : H1 s1.heap.objs.size = none := I1.hok.fresh (Nat.le_refl _)
  refine ⟨.ref s1.heap.objs.size, upd H1 s1.heap.objs.size (.lst xs), I1.laid (t' := s1.toks) (fun b u e => Heap.get?_push_of_some _ e) (Nat.le_refl _) ?_, rfl, q _ hf⟩
  exact ⟨z, us, 0, r, Heap.get?_push_size _ rfl⟩
end

/-! ### what a def promises -/
/-- a def's promise: the bound arguments in the parameters' order, the heap, the wanted end, the wanted exception -/
noncomputable abbrev Sp := List V → Hp → VK → XK → Prop
/-- how an exception lies behind a call (file 08 gives it): the callers' frames, abstract heap and state ahead of the call, the wish, the exception, the state -/
noncomputable abbrev CXT := List Env → Hp → Shared → XK → Value → Shared → Prop

/-- the state at a call -/
structure Env0 (P : Program) (w : World) (K : PySem.W.Frag) (mg : Str → Option Value) (base : Heap) (A : Around) (outer : List Env) (s : Shared) (H : Hp) : Prop where
  frames : A.frames = some outer
  mod : Mod K mg base
  bs : ∀ b o, base.get? b = some o → s.heap.get? b = some o ∧ H b = none
  bsz : base.objs.size ≤ s.heap.objs.size
  funs : s.heap.FunFrames base outer
  frf : ∀ b ∈ frs outer, H b = none
  hok : HOk P w H s.heap
  bare : AllBare s.gens
/-- a call's end -/
noncomputable def CE (outer : List Env) (P : Program) (w : World) (H : Hp) (s : Shared) (Q : VK) (u : Value) (s' : Shared) : Prop :=
  ∃ v H', s'.os = s.os ∧ AllBare s'.gens ∧ Un (frs outer) [] H H' s.heap s'.heap ∧ HOk P w H' s'.heap ∧ RelV v u ∧ Q v H'
noncomputable def CR (CX : CXT) (outer : List Env) (P : Program) (w : World) (H : Hp) (s : Shared) (Q : VK) (E : XK) (r : Result) (s' : Shared) : Prop :=
  match r with
  | .ok (.ret u) => CE outer P w H s Q u s'
  | .ok _ => False
  | .error e => CX outer H s E e s'
structure FnOk (P : Program) (w : World) (K : PySem.W.Frag) (mg : Str → Option Value) (base : Heap) (CX : CXT) (k : Nat) (f : Addr) (fd : FuncData) (ps : List Str) (sp : Sp) : Prop where
  len : ∀ vs H Q E, sp vs H Q E → vs.length = ps.length
  run : ∀ (A : Around) (outer : List Env) (s : Shared) (H : Hp) (args : Args) (us : List Value) (vs : List V) (Q : VK) (E : XK), Room k A → Env0 P w K mg base A outer s H → BindsTo s fd args (ps.zip us) → Vals vs us → sp vs H Q E →
    codeAny (model P w) A (.call (.ref f) args) (CR CX outer P w H s Q E) s
theorem FnOk.mono {P : Program} {w : World} {K : PySem.W.Frag} {mg : Str → Option Value} {base : Heap} {CX : CXT} {j k : Nat} {f : Addr} {fd : FuncData} {ps : List Str} {sp : Sp} (F : FnOk P w K mg base CX j f fd ps sp) (h : j ≤ k) :
    FnOk P w K mg base CX k f fd ps sp := ⟨F.len, fun A outer s H args us vs Q E hr => F.run A outer s H args us vs Q E (hr.mono h)⟩
/-- a weaker promise -/
theorem FnOk.imp {P : Program} {w : World} {K : PySem.W.Frag} {mg : Str → Option Value} {base : Heap} {CX : CXT} {k : Nat} {f : Addr} {fd : FuncData} {ps : List Str} {sp sp' : Sp} (F : FnOk P w K mg base CX k f fd ps sp)
    (h : ∀ vs H Q E, sp' vs H Q E → sp vs H Q E) : FnOk P w K mg base CX k f fd ps sp' :=
  ⟨fun vs H Q E q => F.len vs H Q E (h _ _ _ _ q), fun A outer s H args us vs Q E hr he hb hv hs => F.run A outer s H args us vs Q E hr he hb hv (h _ _ _ _ hs)⟩

theorem Env0.make {P : Program} {w : World} {K : PySem.W.Frag} {mg : Str → Option Value} {base : Heap} {A : Around} {outer : List Env} {s : Shared} {H : Hp} (e : Env0 P w K mg base A outer s H) (C : Addr) (us : List Value) (kw : List (Str × Value)) :
    Env0 P w K mg base (A.under (.builtin "type.__call__" ⟨.ref C :: us, kw⟩)) outer s H := ⟨by first | exact e.frames | (simpa [Around.under, Code.envs, Code.isFrame, pushEnvs] using e.frames), e.mod, e.bs, e.bsz, e.funs, e.frf, e.hok, e.bare⟩
theorem Env0.in1 {P : Program} {w : World} {K : PySem.W.Frag} {mg : Str → Option Value} {base : Heap} {A : Around} {outer : List Env} {s : Shared} {H : Hp} (e : Env0 P w K mg base A outer s H) :
    Env0 P w K mg base A.in1 outer s H := ⟨e.frames, e.mod, e.bs, e.bsz, e.funs, e.frf, e.hok, e.bare⟩

section
variable {X : Cx} {pins : List (Addr × Obj)} {σ : St} {H : Hp} {s s' : Shared}
/-- from a body: what a callee wants -/
theorem Inv.env0 (I : Inv X pins σ H s) : Env0 X.prog X.w X.K X.mg X.base X.A X.stack s H :=
  ⟨I.ok.frames, I.ok.mod, I.bs, Nat.le_trans I.ok.bsz I.sz, I.stack, I.stkFree, I.hok, I.bare⟩
/-- behind a call -/
theorem Inv.after {Q : VK} {u : Value} (I : Inv X pins σ H s) (h : CE X.stack X.prog X.w H s Q u s') : EP X pins σ Q u s' := by
  obtain ⟨v, H', os, bare, un, hok, r, q⟩ := h
  obtain ⟨hh, g, d, t, os'⟩ := s'
  obtain rfl : os' = s.os := os
  exact ⟨v, H', I.call (h' := hh) (g' := g) (d' := d) (t' := t) (ch := []) un hok bare (fun b z => absurd z (by simp)), r, q⟩
end

/-! ### calls -/
/-- f(..): the written arguments, then the defaults dvs; E: what is wanted of an exception -/
noncomputable def tCall (sp : Sp) (dvs : List V) (E : XK) (t : TA) : TE := fun σ H Q => t σ H fun vs H1 => sp (vs ++ dvs) H1 Q E
/-- how the parameters are bound: us the positional arguments, kw the keywords' values by name, ds the defaults that fill up -/
noncomputable def Binds (K : PySem.W.Frag) (fd : FuncData) (ps : List Str) (ds : List Value) : Prop :=
  ∀ (s : Shared) (us : List Value), K.In s.heap → (us ++ ds).length = ps.length → BindsTo s fd ⟨us, []⟩ (ps.zip (us ++ ds))
/-- every parameter is given -/
theorem Binds.all {K : PySem.W.Frag} {fd : FuncData} {ps : List Str} (h : ∀ us : List Value, us.length = ps.length → bindArgs fd ⟨us, []⟩ = pure (ps.zip us)) : Binds K fd ps [] := fun s us _ hl => by
  rw [List.append_nil] at hl ⊢
  exact .of_eq (h us hl)

/-- an exception of a callee reaches what this body wants of exceptions -/
noncomputable def Passes (CX : CXT) (X : Cx) (E : XK) : Prop := ∀ (pins : List (Addr × Obj)) (σ : St) (H : Hp) (s : Shared) (e : Value) (s' : Shared), Inv X pins σ H s → CX X.stack H s E e s' → X.xe e s'

section
variable {X : Cx} {CX : CXT} {k : Nat} {f C : Addr} {fd : FuncData} {ps : List Str} {sp : Sp} {dvs : List V} {ds : List Value} {E : XK} {x m : Str} {p pos apos : Pos} {e o : Expr} {es : List Expr} {ta : TE} {t : TA}

/-- the callee runs -/
theorem run_fn {pins : List (Addr × Obj)} {σ : St} {H : Hp} {s : Shared} {Q : VK} {us : List Value} {vs : List V} (F : FnOk X.prog X.w X.K X.mg X.base CX k f fd ps sp) (hr : Room k X.A) (hb : Binds X.K fd ps ds) (hd : Vals dvs ds) (hx : Passes CX X E)
    (I : Inv X pins σ H s) (r : Vals vs us) (h : sp (vs ++ dvs) H Q E) : wpAny (model X.prog X.w) X.A (call (.ref f) us) (EP X pins σ Q) X.xe s := by
  have r2 : Vals (vs ++ dvs) (us ++ ds) := r.append hd
  have hl : (us ++ ds).length = ps.length := by rw [← r2.length]; exact F.len _ _ _ _ h
  refine wpAny_call (codeAny_mono (F.run X.A X.stack s H ⟨us, []⟩ (us ++ ds) (vs ++ dvs) Q E hr I.env0 (hb s us I.kIn hl) r2 h) fun r s' hq => ?_)
  cases r with
  | error e => exact hx pins σ H s e s' I hq
  | ok fl =>
    cases fl with
    | ret u => exact I.after hq
    | next => exact False.elim hq
    | brk => exact False.elim hq
    | cont => exact False.elim hq

theorem pe_call (F : FnOk X.prog X.w X.K X.mg X.base CX k f fd ps sp) (hr : Room k X.A) (hg : Gl X x) (hm : X.mg x = some (.ref f)) (hk : PySem.W.keepIn X.K (.ref f) = true) (hb : Binds X.K fd ps ds) (hd : Vals dvs ds) (hx : Passes CX X E)
    (ha : PA X (e :: es) t) (hdb : (x == ("__debug__" : Str)) = false := by decide) (he : starEach (e :: es) X.env = (false, eval e X.env) :: starEach es X.env := by rfl) (hpl : (backTo pos (starEach es X.env)).any (·.1) = false := by rfl) :
    PE X (.Call (.Name x p) (e :: es) [] pos) (tCall sp dvs E t) := by
  intro pins s σ H Q I h
  refine wpAny_Call_Name_kw (ld_glob I hg hm ?_ hdb)
  refine PySem.W.callWith_K (h₀ := X.base) I.ok.mod.kin hk (thn (ha pos pins s σ H _ I h) fun us s1 ⟨vs, H1, I1, r, q⟩ => ⟨I1.kIn, ?_⟩) he hpl
  exact run_fn F hr hb hd hx I1 r q
/-- what a class must have to be made -/
structure Mk (K : PySem.W.Frag) (C f : Addr) : Prop where
  makes : PySem.W.makesIn K C = true
  init : PySem.W.findIn K (.ref C) "__init__" = some (some (.ref f))
  fn : PySem.W.isFn K (.ref f) = true
  kp : PySem.W.keepIn K (.ref C) = true

end

/-! ### keywords -/
section
variable {X : Cx} {CX : CXT} {k : Nat} {f C : Addr} {fd : FuncData} {ps ks : List Str} {sp : Sp} {E : XK} {x m : Str} {p pos apos kpos : Pos} {e o : Expr} {es : List Expr} {kws : List Keyword} {te ta : TE} {t tk : TA} {nm : Option Str}
/-- how a call with keywords binds: g puts the positional values us and the keywords' values ws (names ks) in the parameters' order, defaults among them -/
structure KBinds (K : PySem.W.Frag) (fd : FuncData) (ps ks : List Str) (g : List Value → List Value → List Value) (gV : List V → List V → List V) : Prop where
  to : ∀ (s : Shared) (us ws : List Value), K.In s.heap → (g us ws).length = ps.length → BindsTo s fd ⟨us, ks.zip ws⟩ (ps.zip (g us ws))
  rel : ∀ {vs : List V} {us : List Value} {zs : List V} {ws : List Value}, Vals vs us → Vals zs ws → Vals (gV vs zs) (g us ws)
variable {g : List Value → List Value → List Value} {gV : List V → List V → List V}
end

/-! ### a def's body keeps its promise -/
/-- names: the parameters first -/
structure FnScope (N P : List Str) (sc : Scope) : Prop where
  kind : sc.kind = .function
  co : sc.isCoroutine = false
  gen : sc.isGenerator = false
  nd : N.Nodup
  pre : N.take P.length = P
  par : ∀ x ∈ P, sc.names.lookup x = some .local ∨ sc.names.lookup x = some .cell
  nofree : ∀ y ∈ sc.names, y.2 ≠ .free

theorem bindL_out {kindOf : Str → Option NameKind} {x : Str} : ∀ {binds : List (Str × Value)} {m : Str → Option Value}, (∀ v, (x, v) ∉ binds) → bindL kindOf binds m x = m x
  | [], _, _ => rfl
  | (n, v) :: r, m, h => by
    unfold bindL
    rw [bindL_out fun w hw => h w (List.mem_cons_of_mem _ hw)]
    split
    · have : x ≠ n := by rintro rfl; exact h v List.mem_cons_self
      simp [this]
    · rfl
theorem bindC_out {kindOf : Str → Option NameKind} {x : Str} : ∀ {binds : List (Str × Value)} {m : Str → Option Value}, (∀ v, (x, v) ∉ binds) → bindC kindOf binds m x = m x
  | [], _, _ => rfl
  | (n, v) :: r, m, h => by
    unfold bindC
    rw [bindC_out fun w hw => h w (List.mem_cons_of_mem _ hw)]
    split
    · rfl
    · have : x ≠ n := by rintro rfl; exact h v List.mem_cons_self
      simp [this]
theorem bindL_get {kindOf : Str → Option NameKind} {x : Str} {v : Value} : ∀ {P : List Str} {vs : List Value} {i : Nat} {m : Str → Option Value}, P.Nodup → P[i]? = some x → vs[i]? = some v → kindOf x = some .local →
    bindL kindOf (P.zip vs) m x = some v
  | [], _, _, _, _, h, _, _ => by simp at h
  | _ :: _, [], _, _, _, _, h, _ => by simp at h
  | p :: P, w :: vs, 0, m, nd, h1, h2, hk => by
    simp at h1 h2; subst h1; subst h2
    show bindL kindOf ((p, w) :: P.zip vs) m p = _
    unfold bindL
    rw [bindL_out fun v hv => (List.nodup_cons.mp nd).1 (List.of_mem_zip hv).1, if_pos hk]
    simp
  | p :: P, w :: vs, i + 1, m, nd, h1, h2, hk => by
    show bindL kindOf ((p, w) :: P.zip vs) m x = _
    unfold bindL
    exact bindL_get (i := i) (List.nodup_cons.mp nd).2 (by simpa using h1) (by simpa using h2) hk
theorem bindC_get {kindOf : Str → Option NameKind} {x : Str} {v : Value} : ∀ {P : List Str} {vs : List Value} {i : Nat} {m : Str → Option Value}, P.Nodup → P[i]? = some x → vs[i]? = some v → kindOf x ≠ some .local →
    bindC kindOf (P.zip vs) m x = some v
  | [], _, _, _, _, h, _, _ => by simp at h
  | _ :: _, [], _, _, _, _, h, _ => by simp at h
  | p :: P, w :: vs, 0, m, nd, h1, h2, hk => by
    simp at h1 h2; subst h1; subst h2
    show bindC kindOf ((p, w) :: P.zip vs) m p = _
    unfold bindC
    rw [bindC_out fun v hv => (List.nodup_cons.mp nd).1 (List.of_mem_zip hv).1, if_neg hk]
    simp
  | p :: P, w :: vs, i + 1, m, nd, h1, h2, hk => by
    show bindC kindOf ((p, w) :: P.zip vs) m x = _
    unfold bindC
    exact bindC_get (i := i) (List.nodup_cons.mp nd).2 (by simpa using h1) (by simpa using h2) hk

/-- the names' values at the entry -/
noncomputable def start (N : List Str) (vs : List V) : St := vs.map some ++ List.replicate (N.length - vs.length) none

/-- the context of a def's body, at its entry; an exception leaves the frame, then lies as CX says -/
noncomputable def cxOf (CX : CXT) (P : Program) (w : World) (K : PySem.W.Frag) (mg : Str → Option Value) (base : Heap) (N : List Str) (qual : Str) (scope : Scope) (f : Addr) (cd : Value) (A : Around) (outer : List Env) (s : Shared) (H : Hp) (E : XK) : Cx where
  prog := P
  w := w
  K := K
  mg := mg
  base := base
  A := A.deeper (envOfC qual scope s.heap.objs.size f cd)
  N := N
  s₀ := s
  H₀ := H
  env := envOfC qual scope s.heap.objs.size f cd
  outer := outer
  stack := envOfC qual scope s.heap.objs.size f cd :: outer
  ex := []
  calm := true
  fn := fun _ => true
  pn := []
  xe := fun e s' => wpAny (model P w) (A.deeper (envOfC qual scope s.heap.objs.size f cd)) (leaving (envOfC qual scope s.heap.objs.size f cd) e) (fun _ s'' => CX outer H s E e s'') (fun e' s'' => CX outer H s E e' s'') s'

theorem cell_has {sc : Scope} {n : Nat} {x : Str} (h : sc.names.lookup x = some .cell) : ∃ c, (cellsFrom n sc.names []).lookup x = some c := by
  have q := PySem.W.cellsFrom_some sc.names n [] (.inl h)
  exact Option.isSome_iff_exists.mp q

theorem inv_start {CX : CXT} {P : Program} {w : World} {K : PySem.W.Frag} {mg : Str → Option Value} {base : Heap} {N ps : List Str} {qual : Str} {scope : Scope} {f : Addr} {cd : Value} {A : Around} {outer : List Env} {s s1 : Shared} {H : Hp} {E : XK} {us : List Value} {vs : List V}
    (S : FnScope N ps scope) (hd : A.handled = none) (e0 : Env0 P w K mg base A outer s H) (hl : vs.length = ps.length) (r : Vals vs us)
    (x : InCallC s s.heap.objs.size (bindL (envOfC qual scope s.heap.objs.size f cd).kindOf (ps.zip us) fun _ => none) (cellsFrom (s.heap.objs.size + 1) scope.names []) (bindC (envOfC qual scope s.heap.objs.size f cd).kindOf (ps.zip us) fun _ => none) s1) :
    Inv (cxOf CX P w K mg base N qual scope f cd A outer s H E) [] (start N vs) H s1 := by
  have hpl : ps.length ≤ N.length := by have := congrArg List.length S.pre; rw [List.length_take] at this; omega
  obtain ⟨h1, tk, rfl, hk⟩ := x.done
  have noA : ∀ b : Addr, b ∉ (cxOf CX P w K mg base N qual scope f cd A outer s H E).ex := fun b z => absurd (show b ∈ ([] : List Addr) from z) (by simp)
  refine ⟨⟨e0.mod, S.kind, rfl, rfl, Nat.le_refl _, fun y z c h1 h2 => ?_, fun y hy => ?_, fun y c _ h => ?_, fun _ => hd, Around.frames_deeper e0.frames, .inr ⟨rfl, rfl⟩, fun b z => absurd z (noA b), e0.bs, e0.bsz, fun b _ _ => noA b, fun b z => absurd z (noA b), e0.funs, e0.frf⟩,
    rfl, e0.bare, Un.kept hk, ⟨_, x.toInCall.ns, fun i y v h1 h2 h3 => ?_⟩, fun y c h => ⟨_, x.cell y c h⟩, e0.hok.fresh (Nat.le_refl _), fun y c h => ?_, fun p hp => absurd (show p ∈ ([] : List (Addr × Obj)) from hp) (by simp), e0.hok.kept hk, ?_⟩
  · exact name_of_addr x.apart (PySem.mem_of_lookup h1) (PySem.mem_of_lookup h2)
  · have hy : scope.names.lookup y = some .cell ∨ scope.names.lookup y = some .free := hy
    rcases hy with hy | hy
    · exact cell_has hy
    · exact absurd rfl (S.nofree _ (PySem.mem_of_lookup hy))
  · exact Nat.le_of_lt (x.above y c (PySem.mem_of_lookup h))
  · have hi : i < vs.length := by
      unfold start at h2
      by_cases hi : i < vs.length
      · exact hi
      · rw [List.getElem?_append_right (by simpa using hi)] at h2
        rw [List.getElem?_replicate] at h2
        split at h2 <;> cases h2
    have ha : vs[i]? = some v := by
      unfold start at h2
      rw [List.getElem?_append_left (by simpa using hi), List.getElem?_map] at h2
      cases e : vs[i]? with
      | none => rw [e] at h2; cases h2
      | some a => rw [e] at h2; cases h2; rfl
    obtain ⟨u, hu, rv⟩ := r.get ha
    have hp : ps[i]? = some y := by
      rw [← S.pre, List.getElem?_take_of_lt (by omega)]; exact h1
    have ndP : ps.Nodup := by rw [← S.pre]; exact S.nd.sublist (List.take_sublist _ _)
    refine ⟨u, rv, ?_⟩
    rcases S.par y (List.mem_of_getElem? hp) with k | k
    · exact .inl ⟨k, bindL_get ndP hp hu k⟩
    · obtain ⟨c, e⟩ := cell_has (n := s.heap.objs.size + 1) k
      refine .inr ⟨.inl k, c, e, ?_⟩
      have q := x.cell y c e
      rw [bindC_get ndP hp hu (by show scope.names.lookup y ≠ _; rw [k]; decide)] at q
      exact q
  · exact e0.hok.fresh (Nat.le_of_lt (x.above y c (PySem.mem_of_lookup h)))
  · unfold start
    show _ = N.length
    rw [List.length_append, List.length_map, List.length_replicate]
    omega

/-- THE RULE: a def (or a method) of the text, by its body. The body's reading t is chosen for each entry; it is run at the parameters' values -/
theorem fn_of {CX : CXT} {P : Program} {w : World} {K : PySem.W.Frag} {mg : Str → Option Value} {base : Heap} {k : Nat} {f : Addr} {name qual : Str} {params : Arguments} {body : List Stmt} {scope : Scope} {dV kV doc pm cdv ct oc : Value} {an od : Option Addr}
    {osl : Array (Option Value)} {N ps : List Str} {sp : Sp} (lk : K.lookup f = some ⟨oc, od, .func (PySem.W.fnOf name qual params body scope dV kV doc pm an cdv ct), osl⟩) (hcd : PySem.W.codeIn K cdv qual = true) (S : FnScope N ps scope)
    (len : ∀ vs H Q E, sp vs H Q E → vs.length = ps.length)
    (hbody : ∀ (A : Around) (outer : List Env) (s : Shared) (H : Hp) (vs : List V) (Q : VK) (E : XK), Room k (A.deeper (envOfC qual scope s.heap.objs.size f cdv)) → sp vs H Q E →
      ∃ t, PSs (cxOf CX P w K mg base N qual scope f cdv A outer s H E) body t ∧ t { nx := fun _ H' => Q .non H', rt := Q } (start N vs) H) :
    FnOk P w K mg base CX (k + 1) f (PySem.W.fnOf name qual params body scope dV kV doc pm an cdv ct) ps sp := by
  refine ⟨len, fun A outer s H args us vs Q E hr e0 hb r hsp => ?_⟩
  have hl := len _ _ _ _ hsp
  have KX : K.In s.heap := e0.mod.kin.keeps fun b o e => (e0.bs b o e).1
  have lim : s.heap.NoLimit := e0.mod.nolimit.keeps fun b o e => (e0.bs b o e).1
  have hkind : ∀ y ∈ ps.zip us, scope.names.lookup y.1 = some .local ∨ (scope.names.lookup y.1 = some .cell ∧ ((cellsFrom (s.heap.objs.size + 1) scope.names []).lookup y.1).isSome = true) := fun ⟨n, v⟩ hy => by
    rcases S.par n (List.of_mem_zip hy).1 with q | q
    · exact .inl q
    · exact .inr ⟨q, PySem.W.cellsFrom_some _ _ _ (.inl q)⟩
  refine codeAny_call_function hr.depth (KX _ _ lk) rfl S.co S.gen rfl (PySem.W.codeRec_of KX hcd) (hb _ _ _ _ ?_)
  refine wpAny_newFunctionEnv_cells S.kind hkind fun env he s1 x => ?_
  subst he
  refine ⟨lim.keeps x.toInCall.keep, codeAny_func ?_⟩
  obtain ⟨t, ht, hq⟩ := hbody A outer s H vs Q E (hr.deeper _) hsp
  have I : Inv (cxOf CX P w K mg base N qual scope f cdv A outer s H E) [] (start N vs) H s1 := inv_start S hr.hd e0 hl r x
  refine wpAny_mono (ht [] s1 (start N vs) H _ I hq) (fun fl s' hs => ?_) fun e s' hs => hs
  have fin : ∀ {σ' : St} {H' : Hp} {v : V} {u : Value}, Inv (cxOf CX P w K mg base N qual scope f cdv A outer s H E) [] σ' H' s' → RelV v u → Q v H' → CE outer P w H s Q u s' :=
    fun {σ' H' v u} J rv q => ⟨v, H', J.os, J.bare, J.base, J.hok, rv, q⟩
  cases fl with
  | ret u =>
    obtain ⟨v, σ', H', J, rv, q⟩ := hs
    exact fin J rv q
  | next =>
    obtain ⟨σ', H', J, q⟩ := hs
    exact fin (v := V.non) (u := Value.none) J rfl q
  | brk =>
    obtain ⟨_, _, _, q⟩ := hs
    exact False.elim q
  | cont =>
    obtain ⟨_, _, _, q⟩ := hs
    exact False.elim q
end L2

namespace L2
open PySem PySem.Spec PyProof.Rows
section
variable {X : Cx} {x : Str} {p pos : Pos} {e : Expr} {es : List Expr} {t : TA} {id T : String} {r : List V → Hp → VK → Prop}

noncomputable def tCB (r : List V → Hp → VK → Prop) (t : TA) : TE := fun σ H Q => t σ H fun vs H1 => r vs H1 Q
/-- f(e, ..), f a built-in function -/
theorem pe_callB (hc : CallR X (.builtin id) r) (hg : Gl X x) (hm : X.mg x = none) (hv : bootBuiltins x = some (.builtin id)) (ha : PA X (e :: es) t) (hn : x ≠ "__name__" := by decide) (hdb : (x == ("__debug__" : Str)) = false := by decide)
    (he : starEach (e :: es) X.env = (false, eval e X.env) :: starEach es X.env := by rfl) (hpl : (backTo pos (starEach es X.env)).any (·.1) = false := by rfl) : PE X (.Call (.Name x p) (e :: es) [] pos) (tCB r t) := by
  intro pins s σ H Q I h
  refine wpAny_Call_Name_kw (ld_blt I hg hm hv ?_ hn hdb)
  exact PyProof.Rows.callWith_builtin1 (thn (ha pos pins s σ H _ I h) fun us s1 ⟨vs, H1, I1, r1, q1⟩ => hc pins s1 σ H1 vs us Q I1 r1 q1) he hpl
/-- T(e, ..), T a built-in type -/
theorem pe_callTy (hc : CallR X (.type T) r) (hg : Gl X x) (hm : X.mg x = none) (hv : bootBuiltins x = some (.type T)) (ha : PA X (e :: es) t) (hn : x ≠ "__name__" := by decide) (hdb : (x == ("__debug__" : Str)) = false := by decide)
    (he : starEach (e :: es) X.env = (false, eval e X.env) :: starEach es X.env := by rfl) (hpl : (backTo pos (starEach es X.env)).any (·.1) = false := by rfl) : PE X (.Call (.Name x p) (e :: es) [] pos) (tCB r t) := by
  intro pins s σ H Q I h
  refine wpAny_Call_Name_kw (ld_blt I hg hm hv ?_ hn hdb)
  exact PyProof.Rows.callWith_type1 (thn (ha pos pins s σ H _ I h) fun us s1 ⟨vs, H1, I1, r1, q1⟩ => hc pins s1 σ H1 vs us Q I1 r1 q1) he hpl
end
end L2

namespace HT
open PySem PyProof.Rows

section
open PySem.SeqAt
open PySem.AutoSeq1 (wpAny_loadPart')
open PySem.MeetsSeq PySem.MeetsSeq2 PySem.MeetsSeq3

end

section
variable {prog : Program} {w : World} {A : Around} {E : Value → Shared → Prop} {s : Shared}

/-! ### t[a:b], not the whole -/
end
end HT

namespace L2
open PySem PySem.Spec PyProof.Rows

/-! ### the parts of a slice -/
noncomputable abbrev TO := St → Hp → (Option Int → Hp → Prop) → Prop
section
variable {X : Cx} {e : Expr} {te : TE} {lo hi : Option Expr} {tl th : TO} {pos p2 : Pos}

/-- what a slice of a value is, by values: the slice object stands at sl -/
noncomputable def SlR (X : Cx) (r : V → Option Int → Option Int → Hp → VK → Prop) : Prop :=
  ∀ (pins : List (Addr × Obj)) (s : Shared) (σ : St) (H : Hp) (x : V) (v vl vu : Value) (lo hi : Option Int) (sl : Addr) (Q : VK), Inv X pins σ H s → RelV x v → s.heap.IsSliceOf sl vl vu .none → IsPart vl lo → IsPart vu hi → r x lo hi H Q →
    ∃ T id, typeLookup (.type T) "__getitem__" = pure (some (.builtin id)) ∧ s.TypeIs v T ∧ wpAny (model X.prog X.w) X.A (getItem v (.ref sl)) (EP X pins σ Q) X.xe s
theorem SlR.or {r r' : V → Option Int → Option Int → Hp → VK → Prop} (h : SlR X r) (h' : SlR X r') : SlR X (fun x lo hi H Q => r x lo hi H Q ∨ r' x lo hi H Q) := by
  intro pins s σ H x v vl vu lo hi sl Q I rx hs pl pu q
  rcases q with q | q
  · exact h pins s σ H x v vl vu lo hi sl Q I rx hs pl pu q
  · exact h' pins s σ H x v vl vu lo hi sl Q I rx hs pl pu q
/-! ### t < u, t + u -/
end
end L2

namespace L2
open PySem PySem.Spec PyProof.Rows

/-! ### places -/
/-- the place that an index of any sign means -/
noncomputable def ixN (n : Nat) (i : Int) : Option Nat := if 0 ≤ i then (if i < n then some i.toNat else none) else if -(n : Int) ≤ i then some (i + n).toNat else none
noncomputable def atI {α : Type} (xs : List α) (i : Int) : Option α := (ixN xs.length i).bind fun j => xs[j]?
theorem ixN_seq {n : Nat} {i : Int} {j : Nat} (h : ixN n i = some j) : seqIndex? i n = some j ∧ j < n ∧ -(n : Int) ≤ i ∧ i < n := by
  unfold ixN at h
  by_cases h0 : 0 ≤ i
  · rw [if_pos h0] at h
    by_cases h1 : i < n
    · rw [if_pos h1] at h
      have e : i.toNat = j := Option.some.inj h
      exact ⟨by rw [seqIndex_of h0 h1, e], by omega, by omega, h1⟩
    · rw [if_neg h1] at h; cases h
  · rw [if_neg h0] at h
    by_cases h1 : -(n : Int) ≤ i
    · rw [if_pos h1] at h
      have e : (i + n).toNat = j := Option.some.inj h
      exact ⟨by rw [seqIndex_neg (by omega) h1, e], by omega, h1, by omega⟩
    · rw [if_neg h1] at h; cases h
theorem atI_get {α : Type} {xs : List α} {i : Int} {v : α} (h : atI xs i = some v) : ∃ j, seqIndex? i xs.length = some j ∧ xs[j]? = some v ∧ j < xs.length ∧ -(xs.length : Int) ≤ i ∧ i < xs.length := by
  unfold atI at h
  cases e : ixN xs.length i with
  | none => rw [e] at h; cases h
  | some j =>
    rw [e] at h
    obtain ⟨h1, h2, h3, h4⟩ := ixN_seq e
    exact ⟨j, h1, h, h2, h3, h4⟩
theorem atI_nat {α : Type} {xs : List α} {j : Nat} {v : α} (h : xs[j]? = some v) : atI xs (j : Int) = some v := by
  have hj : j < xs.length := (List.getElem?_eq_some_iff.mp h).1
  have e : ixN xs.length (j : Int) = some j := by
    unfold ixN
    rw [if_pos (by omega), if_pos (by omega)]; simp
  unfold atI; rw [e]; exact h
/-! ### what may be subscripted -/
/-- what stands as an index of a plain subscript -/
noncomputable def PlainIx (b : Expr) : Prop := ∀ o i, subscripted b false o i = operate [o, i] (getItem o i)
/-- a subscript by values -/
noncomputable def IxR (X : Cx) (r : R2) : Prop :=
  ∀ (value slice : Expr) (pins : List (Addr × Obj)) (s : Shared) (σ : St) (H : Hp) (x y : V) (v u : Value) (Q : VK), Inv X pins σ H s → RelV x v → RelV y u → r x y H Q →
    subscripted slice false v u = operate [v, u] (getItem v u) → wpAny (model X.prog X.w) X.A (subscriptTail value slice v u) (EP X pins σ Q) X.xe s
/-- a call of a builtin's method by values: the receiver, the arguments -/
noncomputable def MtR (X : Cx) (id : String) (r : V → List V → Hp → VK → Prop) : Prop :=
  ∀ (pins : List (Addr × Obj)) (s : Shared) (σ : St) (H : Hp) (x : V) (xs : List V) (v : Value) (us : List Value) (Q : VK), Inv X pins σ H s → RelV x v → Vals xs us → r x xs H Q →
    wpAny (model X.prog X.w) X.A (call (.builtin id) (v :: us)) (EP X pins σ Q) X.xe s
section
variable {X : Cx} {a b : Expr} {ta tb : TE} {pos : Pos}
theorem IxR.or {r r' : R2} (h : IxR X r) (h' : IxR X r') : IxR X (fun x y H Q => r x y H Q ∨ r' x y H Q) := by
  intro value slice pins s σ H x y v u Q I rx ry q hs
  rcases q with q | q
  · exact h value slice pins s σ H x y v u Q I rx ry q hs
  · exact h' value slice pins s σ H x y v u Q I rx ry q hs
theorem MtR.or {id : String} {r r' : V → List V → Hp → VK → Prop} (h : MtR X id r) (h' : MtR X id r') : MtR X id (fun x xs H Q => r x xs H Q ∨ r' x xs H Q) := by
  intro pins s σ H x xs v us Q I rx rs q
  rcases q with q | q
  · exact h pins s σ H x xs v us Q I rx rs q
  · exact h' pins s σ H x xs v us Q I rx rs q
/-- a[b] -/
theorem pe_ix {r : R2} (hr : IxR X r) (ha : PE X a ta) (hb : PE X b tb) (hs : PlainIx b) : PE X (.Subscript a b pos) (tOp r ta tb) := by
  intro pins s σ H Q I h
  exact Subscript_ (binT ha hb I h fun v u s2 x y H2 I2 rx ry q => hr a b pins s2 σ H2 x y v u Q I2 rx ry q (hs _ _))

inductive rIxL (K : PySem.W.Frag) (x y : V) (H : Hp) (Q : VK) : Prop
  | mk (p : Addr) (xs : List V) (i : Int) (v : V) (h0 : x = .ref p) (h1 : y = .int i) (h2 : SqL K H p xs) (h3 : atI xs i = some v) (h4 : Q v H) : rIxL K x y H Q
inductive rIxT (K : PySem.W.Frag) (x y : V) (H : Hp) (Q : VK) : Prop
  | mk (p : Addr) (xs : List V) (i : Int) (v : V) (h0 : x = .ref p) (h1 : y = .int i) (h2 : SqT K H p xs) (h3 : atI xs i = some v) (h4 : Q v H) : rIxT K x y H Q
noncomputable def rIxS : R2 := fun x y H Q => ∃ z i c, x = .str z ∧ y = .int i ∧ z.length ≤ sizeLine ∧ atI z.cps.toList i = some c ∧ Q (.str ⟨#[c]⟩) H
theorem ix_list : IxR X (rIxL X.K) := by
  intro value slice pins s σ H x y v u Q I rx ry h hs
  obtain ⟨p, xs, i, z, rfl, rfl, hq, he, q⟩ := h
  cases rx
  obtain ⟨t, rfl⟩ := ry
  obtain ⟨its, r, pl, hz⟩ := I.list hq
  obtain ⟨j, h1, h2, h3, h4, h5⟩ := atI_get he
  obtain ⟨w, ew, rw'⟩ := r.get h2
  have hl := r.length
  have hn := line63
  have fin : EP X pins σ Q w s := ⟨z, H, I, rw', q⟩
  by_cases h0 : 0 ≤ i
  · have hj : i.toNat = j := by
      rw [seqIndex_of h0 h5] at h1
      exact Option.some.inj h1
    exact item_listR pl.isList h0 (by omega) (by rw [hj]; simpa using ew) fin hs
  · have hj : (i + (its.toArray.size : Int)).toNat = j := by
      rw [seqIndex_neg (by omega) h4] at h1
      rw [List.size_toArray, ← hl]
      exact Option.some.inj h1
    exact subscriptTail_builtinR (x := w) pl.isList.typeIs slot_list_getitem.lookup
      (wpAny_getItem_list_neg (Q := fun r s' => r = w ∧ EP X pins σ Q r s') pl.isList (by omega) (by rw [List.size_toArray] <;> omega) (by omega) (by rw [hj]; simpa using ew) ⟨rfl, fin⟩) hs
theorem ix_tup : IxR X (rIxT X.K) := by
  intro value slice pins s σ H x y v u Q I rx ry h hs
  obtain ⟨p, xs, i, z, rfl, rfl, hq, he, q⟩ := h
  cases rx
  obtain ⟨t, rfl⟩ := ry
  obtain ⟨its, r, pl, hz⟩ := I.tuple hq
  obtain ⟨j, h1, h2, h3, h4, h5⟩ := atI_get he
  obtain ⟨w, ew, rw'⟩ := r.get h2
  have hl := r.length
  have hn := line63
  have fin : EP X pins σ Q w s := ⟨z, H, I, rw', q⟩
  exact subscriptTail_builtinR (x := w) pl.typeIs slot_tuple_getitem.lookup
    (getItem_tuple (j := j) (Q := fun r s' => r = w ∧ EP X pins σ Q r s') pl (by omega) (by omega) (by rw [List.size_toArray, ← hl]; exact h1) (by simpa using ew) ⟨rfl, fin⟩) hs
theorem ix_str : IxR X rIxS := by
  intro value slice pins s σ H x y v u Q I rx ry h hs
  obtain ⟨z, i, c, rfl, rfl, hz, he, q⟩ := h
  obtain ⟨t, rfl⟩ := rx
  obtain ⟨t', rfl⟩ := ry
  obtain ⟨j, h1, h2, h3, h4, h5⟩ := atI_get he
  have hl : z.cps.toList.length = z.length := by simp [Str.length]
  rw [hl] at h1 h4 h5
  have hn := line63
  exact tail_any (typeIs_str s z t) slot_str_getitem.lookup (getItem_str (c := c) (by
    have e1 : decide (i < -(2 ^ 63 : Int)) = false := decide_eq_false (by omega)
    have e2 : decide (i ≥ 2 ^ 63) = false := decide_eq_false (by omega)
    rw [e1, e2, Bool.or_false]) (by rw [h1]; simpa using h2) ⟨.str ⟨#[c]⟩, H, I.tok _, ⟨_, rfl⟩, q⟩) hs
/-- list, tuple or str -/
noncomputable def rIx (K : PySem.W.Frag) : R2 := fun x y H Q => rIxL K x y H Q ∨ rIxT K x y H Q ∨ rIxS x y H Q
theorem ix_seq : IxR X (rIx X.K) := ix_list.or (ix_tup.or ix_str)

/-! ### xs[i] = v, any sign -/
theorem Inv.lst {pins : List (Addr × Obj)} {σ : St} {H : Hp} {s : Shared} {p : Addr} {xs : List V} (I : Inv X pins σ H s) (h : H p = some (.lst xs)) :
    ∃ (its : List Value) (n : Nat), Vals xs its ∧ s.heap.get? p = some { cls := .type "list", data := .seq its.toArray n } ∧ xs.length ≤ sizeLine := by
  obtain ⟨z, its, n, r, e⟩ := I.hok p _ h
  exact ⟨its, n, r, e, z⟩
/-! ### slices -/
/-! ### in, not in: flat items -/
noncomputable def flatV : V → Bool
  | .non => true
  | .bl _ => true
  | .int _ => true
  | .str _ => true
  | _ => false
/-- == of flat values -/
noncomputable def eqV : V → V → Bool
  | .non, .non => true
  | .bl a, .bl b => a == b
  | .bl a, .int b => (if a then 1 else 0) == b
  | .int a, .bl b => a == (if b then 1 else 0)
  | .int a, .int b => a == b
  | .str a, .str b => a == b
  | _, _ => false
noncomputable def inV (x : V) (xs : List V) : Bool := xs.any fun y => eqV y x
/-- x in a list or tuple of flat items -/
inductive rIn (K : PySem.W.Frag) (neg : Bool) (x y : V) (H : Hp) (Q : VK) : Prop
  | mk (p : Addr) (xs : List V) (h0 : y = .ref p) (h1 : SqL K H p xs ∨ SqT K H p xs) (h2 : flatV x = true) (h3 : xs.all flatV = true) (h4 : Q (.bl (if neg then !inV x xs else inV x xs)) H) : rIn K neg x y H Q
/-! ### len, list(x), tuple(x) of any list or tuple that is read -/
theorem call_len_seq : CallR X (.builtin "len") (fun xs H Q => ∃ p ys, xs = [.ref p] ∧ (SqL X.K H p ys ∨ SqT X.K H p ys) ∧ Q (.int ys.length) H) := by
  intro pins s σ H xs us Q I r h
  obtain ⟨p, ys, rfl, hq, q⟩ := h
  obtain ⟨u, rfl, rx⟩ := vals1 r
  cases rx
  have hn := line63
  rcases hq with hq | hq
  · obtain ⟨its, r', pl, hz⟩ := I.list hq
    have hlen := r'.length
    exact Calls.call_len_list pl.isList (by simp only [List.size_toArray] <;> omega) ⟨.int ys.length, H, I.tok _, ⟨s.toks + 1, by rw [List.size_toArray, hlen]⟩, q⟩
  · obtain ⟨its, r', pl, hz⟩ := I.tuple hq
    have hlen := r'.length
    exact len_tuple pl (by simp only [List.size_toArray] <;> omega) ⟨.int ys.length, H, I.tok _, ⟨s.toks + 1, by rw [List.size_toArray, hlen]⟩, q⟩
theorem call_len_str : CallR X (.builtin "len") (fun xs H Q => ∃ z, xs = [.str z] ∧ z.length ≤ sizeLine ∧ Q (.int z.length) H) := by
  intro pins s σ H xs us Q I r h
  obtain ⟨z, rfl, hz, q⟩ := h
  obtain ⟨u, rfl, t, rfl⟩ := vals1 r
  have hn := line63
  exact len_str (by omega) ⟨.int z.length, H, I.tok _, ⟨_, rfl⟩, q⟩
theorem CallR.or {f : Value} {r r' : List V → Hp → VK → Prop} (h : CallR X f r) (h' : CallR X f r') : CallR X f (fun xs H Q => r xs H Q ∨ r' xs H Q) := by
  intro pins s σ H xs us Q I rs q
  rcases q with q | q
  · exact h pins s σ H xs us Q I rs q
  · exact h' pins s σ H xs us Q I rs q
inductive rListOf (K : PySem.W.Frag) (xs : List V) (H : Hp) (Q : VK) : Prop
  | mk (p : Addr) (ys : List V) (h0 : xs = [.ref p]) (h1 : SqL K H p ys ∨ SqT K H p ys) (h2 : ∀ l, H l = none → Q (.ref l) (upd H l (.lst ys))) : rListOf K xs H Q
theorem call_list_of : CallR X (.type "list") (rListOf X.K) := by
  intro pins s σ H xs us Q I r h
  obtain ⟨p, ys, rfl, hq, q⟩ := h
  obtain ⟨u, rfl, rx⟩ := vals1 r
  cases rx
  have fin : ∀ (its : List Value), Vals ys its → ys.length ≤ sizeLine → ∀ (h' : Heap) (c' : Nat), (∀ b o', s.heap.get? b = some o' → h'.get? b = some o') →
      h'.get? s.heap.objs.size = some { cls := .type "list", dict := none, data := .seq its.toArray c', slots := #[] } → EP X pins σ Q (.ref s.heap.objs.size) { s with heap := h' } := fun its r' hz h' c' kp e =>
    ⟨.ref s.heap.objs.size, _, I.laid (t' := s.toks) kp (Nat.le_refl _) (show ObjOk X.prog X.w _ h' _ (.lst ys) from ⟨hz, its, c', r', e⟩), rfl, q _ (I.hok.fresh (Nat.le_refl _))⟩
  rcases hq with hq | hq
  · obtain ⟨its, r', pl, hz⟩ := I.list hq
    have hlen := r'.length
    obtain ⟨o, ho, hc, n, hd⟩ := pl.isList
    exact call_list_seq p (.inl rfl) ho hc hd (fun h' c' kp e => fin its r' hz h' c' kp e) (by simp only [List.size_toArray] <;> omega)
  · obtain ⟨its, r', pl, hz⟩ := I.tuple hq
    have hlen := r'.length
    obtain ⟨o, ho, hc, n, hd⟩ := pl
    exact call_list_seq p (.inr rfl) ho hc hd (fun h' c' kp e => fin its r' hz h' c' kp e) (by simp only [List.size_toArray] <;> omega)
/-! ### the call of a builtin's method: o.m(..) -/
/-- the value is of that builtin type -/
noncomputable def tyV (K : PySem.W.Frag) (T : String) (x : V) (H : Hp) : Prop := match x with
  | .str _ => T = "str"
  | .int _ => T = "int"
  | .ref p => (T = "list" ∧ ∃ xs, SqL K H p xs) ∨ (T = "tuple" ∧ ∃ o, K.lookup p = some o ∧ o.cls = .type "tuple" ∧ o.dict = none) ∨
      (T = "dict" ∧ ((∃ kvs, H p = some (.dK kvs)) ∨ ∃ kvs, H p = some (.dT kvs))) ∨ (T = "set" ∧ ∃ S n, H p = some (.set S n))
  | _ => False
theorem tyV_is {pins : List (Addr × Obj)} {σ : St} {H : Hp} {s : Shared} {T : String} {x : V} {v : Value} (I : Inv X pins σ H s) (r : RelV x v) (ty : tyV X.K T x H) :
    s.TypeIs v T ∧ ∀ a, v = .ref a → ∃ ob, s.heap.get? a = some ob ∧ ob.dict = none := by
  cases x with
  | str z =>
    obtain ⟨t, rfl⟩ := r
    cases (show T = "str" from ty)
    exact ⟨typeIs_str s z t, fun _ e => nomatch e⟩
  | int i =>
    obtain ⟨t, rfl⟩ := r
    cases (show T = "int" from ty)
    exact ⟨typeIs_int s i t, fun _ e => nomatch e⟩
  | ref p =>
    cases r
    rcases ty with ⟨rfl, xs, hq⟩ | ⟨rfl, o, hk, hc, hd⟩ | ⟨rfl, hk⟩ | ⟨rfl, S, n, hk⟩
    · obtain ⟨its, _, pl, _⟩ := I.list hq
      refine ⟨pl.isList.typeIs, fun a e => ?_⟩
      cases e
      obtain ⟨o, n, e, c, hd, _⟩ := pl
      exact ⟨o, e, hd⟩
    · refine ⟨⟨o, I.kIn p o hk, hc⟩, fun a e => ?_⟩
      cases e
      exact ⟨o, I.kIn _ o hk, hd⟩
    · have z : ∃ o, s.heap.get? p = some o ∧ o.ExactDict := by
        rcases hk with ⟨kvs, hk⟩ | ⟨kvs, hk⟩
        · obtain ⟨_, _, _, _, o, _, _, e, ex, _⟩ := I.hok p _ hk
          exact ⟨o, e, ex⟩
        · obtain ⟨_, _, _, _, o, _, _, e, ex, _⟩ := I.hok p _ hk
          exact ⟨o, e, ex⟩
      obtain ⟨o, e, ex⟩ := z
      refine ⟨⟨o, e, ex.1⟩, fun a e2 => ?_⟩
      cases e2
      exact ⟨o, e, ex.2.1⟩
    · obtain ⟨o, _, _, _, e, ex, _⟩ := I.hok p _ hk
      refine ⟨⟨o, e, ex.1⟩, fun a e2 => ?_⟩
      cases e2
      exact ⟨o, e, ex.2.1⟩
  | _ => exact False.elim ty
noncomputable def tBM0 (K : PySem.W.Frag) (T : String) (r : V → List V → Hp → VK → Prop) (to : TE) : TE := fun σ H Q => to σ H fun x H1 => tyV K T x H1 ∧ r x [] H1 Q
noncomputable def tBM (K : PySem.W.Frag) (T : String) (r : V → List V → Hp → VK → Prop) (to : TE) (t : TA) : TE := fun σ H Q => to σ H fun x H1 => tyV K T x H1 ∧ t σ H1 fun xs H2 => r x xs H2 Q
variable {o e : Expr} {es : List Expr} {to : TE} {t : TA} {name : Str} {apos cpos : Pos} {T id : String} {r : V → List V → Hp → VK → Prop}
theorem pe_bm0 (pa : PlainAttrs T) (slot : Slot T name id) (hty : typeOf (.builtin id) = pure (.type "method_descriptor")) (hm : MtR X id r) (ho : PE X o to)
    (hbase : attributeBase o name X.env (eval o X.env) = eval o X.env := by rfl) (hline : (apos.endLine == cpos.line) = true := by rfl) : PE X (.Call (.Attribute o name apos) [] [] cpos) (tBM0 X.K T r to) := by
  intro pins s σ H Q I h
  refine wpAny_Call_method0_late hbase hline (thn (ho pins s σ H _ I h) fun v s1 ⟨x, H1, I1, r1, ty, q1⟩ => ?_)
  obtain ⟨h1, h2⟩ := tyV_is I1 r1 ty
  exact ⟨T, id, pa, slot, hty, h1, h2, Calls.callWith_builtin rfl (PySem.evalArgs_none (hm pins s1 σ H1 x [] v [] Q I1 r1 .nil q1))⟩
theorem pe_bm (pa : PlainAttrs T) (slot : Slot T name id) (hty : typeOf (.builtin id) = pure (.type "method_descriptor")) (hm : MtR X id r) (ho : PE X o to) (ha : PA X (e :: es) t)
    (hbase : attributeBase o name X.env (eval o X.env) = eval o X.env := by rfl)
    (hfew : ((backTo cpos (starEach (e :: es) X.env)).all (fun x => !x.1) && (backToKw cpos (keywordEach [] X.env)).all (fun x => x.1.isSome)
      && decide ((e :: es).length + ([] : List Keyword).length + (if ([] : List Keyword).isEmpty then 0 else 1) < 30)) = true := by rfl)
    (hline : (apos.endLine == cpos.line) = true := by rfl) (hs : starEach (e :: es) X.env = (false, eval e X.env) :: starEach es X.env := by rfl) (hplain : (backTo cpos (starEach es X.env)).any (·.1) = false := by rfl) :
    PE X (.Call (.Attribute o name apos) (e :: es) [] cpos) (tBM X.K T r to t) := by
  intro pins s σ H Q I h
  refine wpAny_Call_method_late hbase hfew hline rfl (thn (ho pins s σ H _ I h) fun v s1 ⟨x, H1, I1, r1, ty, q1⟩ => ?_)
  obtain ⟨h1, h2⟩ := tyV_is I1 r1 ty
  refine ⟨T, id, pa, slot, hty, h1, h2, ?_⟩
  have hA := ha cpos pins s1 σ H1 _ I1 q1
  rw [hs] at hA ⊢
  refine Calls.callWith_builtin (by show (false || (backTo cpos (starEach es X.env)).any (·.1)) = false; rw [hplain] <;> rfl) (Calls.evalArgs_plain ?_)
  exact thn hA fun us s2 ⟨vs, H2, I2, r2, q2⟩ => hm pins s2 σ H2 x vs v us Q I2 r1 r2 q2
/- xs.append(e), list.index on a module's tuple .. are MtR facts of 06m -/
end
end L2

namespace L2
open PySem PySem.Spec PyProof.Rows

noncomputable def MtM (X : Cx) (id : String) (r : V → List V → Hp → VK → Prop) : Prop :=
  ∀ (pins : List (Addr × Obj)) (s : Shared) (σ : St) (H : Hp) (x : V) (xs : List V) (v : Value) (us : List Value) (Q : VK), Inv X pins σ H s → RelV x v → Vals xs us → r x xs H Q →
    wpAny (model X.prog X.w) X.A (call (.builtin id) (v :: us)) (EP X pins σ Q) X.xe s

/-! ### lists of values -/
theorem Vals.one : ∀ {x : V} {us : List Value}, Vals [x] us → ∃ u, us = [u] ∧ RelV x u
  | _, _, .cons r .nil => ⟨_, rfl, r⟩
theorem Vals.two : ∀ {x y : V} {us : List Value}, Vals [x, y] us → ∃ u v, us = [u, v] ∧ RelV x u ∧ RelV y v
  | _, _, _, .cons r (.cons q .nil) => ⟨_, _, rfl, r, q⟩
theorem Vals.zero : ∀ {us : List Value}, Vals [] us → us = []
  | _, .nil => rfl
theorem Vals.dropLast {xs : List V} {us : List Value} (h : Vals xs us) : Vals xs.dropLast us.dropLast := by
  induction h with
  | nil => exact .nil
  | cons r t ih =>
    cases t with
    | nil => exact .nil
    | cons q t' => exact .cons r ih
theorem Vals.eraseIdx : ∀ {xs : List V} {us : List Value} (i : Nat), Vals xs us → Vals (xs.eraseIdx i) (us.eraseIdx i)
  | _, _, _, .nil => .nil
  | _, _, 0, .cons _ t => t
  | _, _, i + 1, .cons r t => .cons r (Vals.eraseIdx i t)
theorem Vals.reverse {xs : List V} {us : List Value} (h : Vals xs us) : Vals xs.reverse us.reverse := by
  induction h with
  | nil => exact .nil
  | cons r t ih => rw [List.reverse_cons, List.reverse_cons]; exact Vals.append ih (.cons r .nil)
theorem erase_last {α : Type} (l : List α) : l.eraseIdx (l.length - 1) = l.dropLast := by
  induction l with
  | nil => rfl
  | cons a r ih =>
    cases r with
    | nil => rfl
    | cons b r =>
      have e : (a :: b :: r).length - 1 = ((b :: r).length - 1) + 1 := by
        have h1 : (a :: b :: r).length = r.length + 2 := rfl
        have h2 : (b :: r).length = r.length + 1 := rfl
        omega
      rw [e, List.eraseIdx_cons_succ, ih]
      all_goals rfl
theorem len_erase {α : Type} : ∀ (l : List α) (i : Nat), (l.eraseIdx i).length ≤ l.length
  | [], _ => Nat.le_refl _
  | _ :: _, 0 => Nat.le_succ _
  | _ :: r, i + 1 => Nat.succ_le_succ (len_erase r i)
section
variable {X : Cx} {pins : List (Addr × Obj)} {σ : St} {H : Hp} {s : Shared} {l b : Addr} {xs ys zs : List V}

/-! ### the two steps: a tracked list is rewritten, a new list is laid -/
theorem Inv.lset {its its' : List Value} {n : Nat} {f : Array Value → Array Value} {t' : Nat} (I : Inv X pins σ H s) (hH : H l = some (.lst xs))
    (e : s.heap.get? l = some { cls := .type "list", data := .seq its.toArray n }) (hf : f its.toArray = its'.toArray) (hv : Vals ys its') (hz : ys.length ≤ sizeLine) :
    Inv X pins σ (upd H l (.lst ys)) { s with heap := s.heap.update l (Obj.mapSeq f), toks := t' } := by
  have q := PySem.IsL.update e f
  rw [hf] at q
  refine I.write (x := l) (e := l) (by rw [hH]; exact trivial) (.inl rfl) (fun b' u hb hu => (Heap.get?_update_other s.heap (Obj.mapSeq f) (Ne.symm hb)).trans hu) ⟨_, q⟩ ?_
  exact ⟨hz, its', _, hv, q⟩
theorem Inv.lnew {its : List Value} {t' : Nat} (I : Inv X pins σ H s) (hv : Vals ys its) (hz : ys.length ≤ sizeLine) :
    Inv X pins σ (upd H s.heap.objs.size (.lst ys)) { s with heap := s.heap.push { cls := .type "list", data := .seq its.toArray }, toks := t' } :=
  I.laid (fun _ _ q => Heap.get?_push_of_some _ q) (Nat.le_refl _) ⟨hz, its, 0, hv, Heap.get?_push_size _ rfl⟩
theorem Inv.fresh (I : Inv X pins σ H s) : H s.heap.objs.size = none := I.hok.fresh (Nat.le_refl _)
theorem Inv.lstM (I : Inv X pins σ H s) (hH : H l = some (.lst xs)) : xs.length ≤ sizeLine ∧ ∃ (its : List Value) (n : Nat), Vals xs its ∧ xs.length = its.length ∧ s.heap.get? l = some { cls := .type "list", data := .seq its.toArray n } := by
  obtain ⟨z, its, n, r, e⟩ := I.hok l _ hH
  exact ⟨z, its, n, r, r.length, e⟩

end

section
variable {X : Cx}

/-! ### methods -/
inductive rAppend (x : V) (vs : List V) (H : Hp) (Q : VK) : Prop
  | mk (l : Addr) (xs : List V) (y : V) (h0 : x = .ref l) (h1 : vs = [y]) (h2 : H l = some (.lst xs)) (h3 : xs.length < sizeLine) (h4 : Q .non (upd H l (.lst (xs ++ [y])))) : rAppend x vs H Q
theorem mt_append : MtM X "list.append" rAppend := by
  intro pins s σ H x vs v us Q I rx rv h
  obtain ⟨l, xs, y, rfl, rfl, hH, hz, q⟩ := h
  cases rx
  obtain ⟨u, rfl, ru⟩ := rv.one
  obtain ⟨z, its, n, r, hl, e⟩ := I.lstM hH
  refine call_meets F.slot_list_append ⟨_, e, rfl⟩ F.entry_list_append (F.args_list_append_2 _ _) (PySem.list_append l its.toArray n u (by rw [List.size_toArray]; omega)) ⟨e, ?_⟩
  refine ⟨.non, _, I.lset (its' := its ++ [u]) hH e (by simp) (r.append (.cons ru .nil)) ?_, rfl, q⟩
  rw [List.length_append, List.length_singleton]
  omega

noncomputable def rPop : V → List V → Hp → VK → Prop := fun x vs H Q => ∃ l xs y, x = .ref l ∧ vs = [] ∧ H l = some (.lst xs) ∧ xs[xs.length - 1]? = some y ∧ Q y (upd H l (.lst xs.dropLast))
theorem mt_pop : MtM X "list.pop" rPop := by
  intro pins s σ H x vs v us Q I rx rv h
  obtain ⟨l, xs, y, rfl, rfl, hH, hy, q⟩ := h
  cases rx
  have hus := rv.zero
  subst hus
  obtain ⟨z, its, n, r, hl, e⟩ := I.lstM hH
  obtain ⟨u, hu, ru⟩ := r.get hy
  have hy' : its.toArray[its.toArray.size - 1]? = some u := by
    show its.toArray[its.length - 1]? = some u
    rw [← Array.getElem?_toList, ← hl]
    exact hu
  refine call_meets F.slot_list_pop ⟨_, e, rfl⟩ F.entry_list_pop (F.args_list_pop_1 _) (MeetsSeq.list_pop_last l its.toArray n u hy' (by rw [List.size_toArray]; omega)) ⟨e, ?_⟩
  refine ⟨y, _, I.lset (its' := its.dropLast) hH e ?_ r.dropLast ?_, ru, q⟩
  · show its.toArray.eraseIdxIfInBounds (its.toArray.size - 1) = its.dropLast.toArray
    rw [List.size_toArray, List.eraseIdxIfInBounds_toArray, erase_last]
  · rw [List.length_dropLast]
    omega

noncomputable def rPopAt : V → List V → Hp → VK → Prop := fun x vs H Q => ∃ l xs i k y, x = .ref l ∧ vs = [.int i] ∧ H l = some (.lst xs) ∧ -(2 ^ 63) ≤ i ∧ i < 2 ^ 63 ∧ seqIndex? i xs.length = some k ∧ xs[k]? = some y ∧ Q y (upd H l (.lst (xs.eraseIdx k)))
theorem mt_popAt : MtM X "list.pop" rPopAt := by
  intro pins s σ H x vs v us Q I rx rv h
  obtain ⟨l, xs, i, k, y, rfl, rfl, hH, h1, h2, hk, hy, q⟩ := h
  cases rx
  obtain ⟨u, rfl, ru⟩ := rv.one
  obtain ⟨t, rfl⟩ := ru
  obtain ⟨z, its, n, r, hl, e⟩ := I.lstM hH
  obtain ⟨w, hw, rw'⟩ := r.get hy
  refine call_meets F.slot_list_pop ⟨_, e, rfl⟩ F.entry_list_pop (F.args_list_pop_2 _ _)
    (MeetsSeq.list_pop_at l its.toArray n i t k w (fitsIndex_both h1 h2) (by rw [List.size_toArray, ← hl]; exact hk) (by rw [← Array.getElem?_toList]; exact hw) (by rw [List.size_toArray]; omega)) ⟨e, ?_⟩
  refine ⟨y, _, I.lset (its' := its.eraseIdx k) hH e ?_ (r.eraseIdx k) ?_, rw', q⟩
  · show its.toArray.eraseIdxIfInBounds k = (its.eraseIdx k).toArray
    rw [List.eraseIdxIfInBounds_toArray]
  · have := len_erase xs k
    omega

noncomputable def rClear : V → List V → Hp → VK → Prop := fun x vs H Q => ∃ l xs, x = .ref l ∧ vs = [] ∧ H l = some (.lst xs) ∧ Q .non (upd H l (.lst []))
theorem mt_clear : MtM X "list.clear" rClear := by
  intro pins s σ H x vs v us Q I rx rv h
  obtain ⟨l, xs, rfl, rfl, hH, q⟩ := h
  cases rx
  have hus := rv.zero
  subst hus
  obtain ⟨z, its, n, r, hl, e⟩ := I.lstM hH
  refine call_meets F.slot_list_clear ⟨_, e, rfl⟩ F.entry_list_clear (F.args_list_clear_1 _) (AutoSeq1.list_clear_list_0 l its.toArray n (by rw [List.size_toArray]; omega)) ⟨e, ?_⟩
  exact ⟨.non, _, I.lset (its' := []) (ys := []) hH e rfl .nil (Nat.zero_le _), rfl, q⟩

/-! ### list + list, list += list, list * int -/
inductive rCat (x y : V) (H : Hp) (Q : VK) : Prop
  | mk (l b : Addr) (xs zs : List V) (h0 : x = .ref l) (h1 : y = .ref b) (h2 : H l = some (.lst xs)) (h3 : H b = some (.lst zs)) (h4 : xs.length + zs.length ≤ sizeLine) (h5 : ∀ p, H p = none → Q (.ref p) (upd H p (.lst (xs ++ zs)))) : rCat x y H Q
theorem op_cat : OpR X (binaryOp .Add) rCat := by
  intro pins s σ H x y v u Q I rx ry h
  obtain ⟨l, b, xs, zs, rfl, rfl, hH, hB, hz, q⟩ := h
  cases rx
  cases ry
  obtain ⟨z, its, n, r, hl, e⟩ := I.lstM hH
  obtain ⟨z2, its2, n2, r2, hl2, e2⟩ := I.lstM hB
  refine PySem.P.add_list e e2 ?_ (by rw [List.size_toArray, List.size_toArray]; omega)
  have ea : its.toArray ++ its2.toArray = (its ++ its2).toArray := by simp
  rw [ea]
  exact ⟨.ref _, _, I.lnew (t' := s.toks) (r.append r2) (by rw [List.length_append]; omega), rfl, q _ I.fresh⟩
/-! ### del xs[i] -/
end

/-! ### xs[a:b] = ys -/
section
variable {prog : Program} {w : World} {A : Around} {E : Value → Shared → Prop} {s : Shared}
set_option maxRecDepth 100000 in
end

section
variable {X : Cx}
end
end L2

namespace Att
open PySem PySem.W PySem.Calls PyProof.Rows

/-! ### the script -/
theorem ints_of_wellAll {P : Params} {h : Heap} : ∀ (ns : List Int) (vs : List Value), WellAll P h vs (ns.map WData.int) → IntsAre vs ns := by
  intro ns
  induction ns with
  | nil =>
    intro vs w
    rw [List.map_nil] at w
    cases w
    exact .nil
  | cons n ns ih =>
    intro vs w
    rw [List.map_cons] at w
    cases w with
    | cons a b =>
      cases a
      exact .cons _ _ (ih _ b)

theorem script_of {l : OpenLaw} {n : Nat} (hn : l.most = some n) {P : Params} {h : Heap} {args : List WData} {vals : List Value}
    (hpre : l.row.toRowW.claim.pre args = true) (hwl : WellAll P h vals args) :
    ∃ a vs ns, vals = [Value.ref a] ∧ args = [WData.list (ns.map WData.int)] ∧ h.get? a = some { cls := .type "list", data := .seq vs.toArray } ∧ IntsAre vs ns ∧ ns.length ≤ n := by
  have hsh : WShape.hasAll [] args [.list .int] = true := (pre_splitW hpre).1
  have hc : l.pre.holds [] { args := args } = true := (pre_splitW hpre).2
  obtain ⟨d, r, rfl, h1, h2⟩ := hasAllW_cons hsh
  obtain rfl := hasAllW_nil h2
  obtain ⟨xs, rfl, h3⟩ := hasW_list h1
  obtain ⟨ns, rfl⟩ := items_int h3
  have hlen : ns.length ≤ n := by
    unfold OpenLaw.pre at hc
    have h4 : (WTm.not (.lt (.lit (.int (n : Int))) (.len (.arg 0)))).holds [] { args := [.list (ns.map .int)] } = true := by
      have h4 := (holds_andW hc).1
      rw [hn] at h4
      exact h4
    have h5 := condW_of h4 (w_not (w_lt w_lit (w_len_list (w_arg rfl))))
    rw [List.length_map] at h5
    refine Nat.le_of_not_lt fun q => ?_
    have q' : (n : Int) < ((ns.length : Nat) : Int) := by omega
    first
      | (rw [decide_eq_true q'] at h5; exact absurd h5 (by decide))
      | (simp at h5; omega)
  cases hwl with
  | cons w1 w2 =>
    cases w2
    cases w1 with
    | list ho hall => exact ⟨_, _, ns, rfl, rfl, ho, ints_of_wellAll ns _ hall, hlen⟩

theorem post_true (l : OpenLaw) (args : List WData) : l.row.toRowW.claim.post args (.bool true) args = true :=
  postW_of (r := l.row.toRowW) (X := (true == true))
    (show WShape.has [] (.bool true) .bool = true by first | rfl | decide | simp [WShape.has, WShape.arms, WShape.armsAll])
    (show (WTm.eq .res (.lit (.bool true))).value [] { args := args, res := some (.bool true), after := args } = some (.bool (true == true)) from w_eq_bool (w_res rfl) w_lit) rfl

/-! ### the attachment: holds_open's last premise (the goal 'hc' behind k_head) from a wpAny of the law's body -/
/-- the same from a codeAny of the CALL (for a layer whose function contracts speak of calls) -/
theorem attach_call {l : OpenLaw} {n : Nat} {q : Program} {loose : List Str} {XP : (Str → Option Value) → Heap → Prop} {YP : World → Heap → Prop} {d : DefRec}
    (hn : l.most = some n) (hdf : d.params.defaults = [])
    (call : ∀ (w : World) (s₀ s₁ : Shared) (mg mb : Str → Option Value) (fa : Addr) (o : Obj) (pm cd doc : Value) (a : Addr) (vs : List Value) (ns : List Int),
      Ground q loose [] XP w s₀ mg mb s₁.heap → YP w s₁.heap →
      s₁.heap.get? fa = some o → o.data = .func (docDef d.name d.params d.body d.scope pm cd doc) → s₁.heap.CodeRec cd d.name → mg d.name = some (.ref fa) →
      s₁.heap.get? a = some { cls := .type "list", data := .seq vs.toArray } → IntsAre vs ns → ns.length ≤ n → s₁.gens = #[] →
      codeAny (model l.prog w) callerA (.call (.ref fa) ⟨[.ref a], []⟩) (fun r s' => r = .ok (.ret (.bool true)) ∧ OldK s₁.heap s'.heap ∧ s'.os = s₁.os ∧ AllBare s'.gens) s₁) :
    WalkO q loose XP YP l.row.toRowW d [] (fun f vs => PySem.call f vs) := by
  intro w s₀ s₁ mg mb G Y fa o pm cd doc dV kV ho hd hcd hD hmg hg args vals as hpre hlay hrd hwl hlo
  obtain rfl : dV = .none := Dflts.none hD hdf
  obtain rfl : kV = .none := Dflts.noKw hD
  obtain ⟨a, vs, ns, rfl, rfl, hobj, hints, hlen⟩ := script_of hn hpre hwl
  refine enter_call (codeAny_mono (call w s₀ s₁ mg mb fa o pm cd doc a vs ns G Y ho (fd_plain hd) hcd hmg hobj hints hlen hg) fun r s' hq => ?_)
  obtain ⟨rfl, h2, h3, h4⟩ := hq
  exact ⟨.inl ⟨.bool true, .bool true, [], rfl, fun _ => rfl, .bool true, post_true l _, fun _ => ⟨List.Pairwise.nil, fun _ hm => (nomatch hm)⟩⟩, h2, h3, h4⟩

/-! ### rules over ANY heap (no ledger) from facts about the written part K: the library's own take a ledger (News) for what they write -/
section
variable {prog : Program} {w : World} {A : Around} {E : Value → Shared → Prop} {s : Shared} {K : Frag}

/-! the whole heap as the ledger: makes every rule that writes through a ledger a rule over any heap -/
noncomputable def ledger (h : Heap) (L d : Addr) : List (Addr × Obj) := (List.range h.objs.size).filterMap fun a => if a = L ∨ a = d then none else (h.get? a).map fun o => (a, o)
end
end Att

namespace L2
open PySem PySem.Spec PyProof.Rows

theorem vals_ints : ∀ {vs : List Value} {ns : List Int}, IntsAre vs ns → Vals (ns.map V.int) vs
  | _, _, .nil => .nil
  | _, _, .cons n t h => .cons ⟨t, rfl⟩ (vals_ints h)

/-- nothing is tracked but the script, known to the object (or it is an object of the module) -/
noncomputable def Only (H : Hp) : Prop := ∀ b, H b = none ∨ ∃ o xs, H b = some (.frz o (.lst xs))

/-- THE HEAD: the law's promise, at the heap behind the top. F, the promise of the law's def, may use that base is part of the heap (so K.In base, base.Ns mainGlobals mg stand in Mod) -/
theorem law_call {P : Program} {w : World} {K : PySem.W.Frag} {mg mb : Str → Option Value} {CX : CXT} {k : Nat} {fa a : Addr} {fd : FuncData} {x : Str} {sp : Sp} {s₁ : Shared} {vs : List Value} {ns : List Int}
    (KX : K.In s₁.heap) (hns : s₁.heap.Ns mainGlobals mg) (hb : s₁.heap.Ns builtinsNs mb) (hbb : ∀ x : Str, x ≠ "__name__" → mb x = bootBuiltins x) (hlim : s₁.heap.NoLimit) (hg : s₁.gens = #[])
    (ha : s₁.heap.get? a = some { cls := .type "list", data := .seq vs.toArray }) (hi : IntsAre vs ns) (hl : ns.length ≤ sizeLine) (hr : Room k callerA)
    (F : ∀ base : Heap, K.In base → base.Ns mainGlobals mg → FnOk P w K mg base CX k fa fd [x] sp) (hbind : ∀ (s : Shared) (u : Value), BindsTo s fd ⟨[u], []⟩ [(x, u)])
    (hsp : ∀ H : Hp, Only H → SqL K H a (ns.map V.int) → sp [.ref a] H (fun v _ => v = .bl true) fun _ _ _ => False)
    (hCX : ∀ H e s', CX [] H s₁ (fun _ _ _ => False) e s' → False) :
    codeAny (model P w) callerA (.call (.ref fa) ⟨[.ref a], []⟩) (fun r s' => r = .ok (.ret (.bool true)) ∧ OldK s₁.heap s'.heap ∧ s'.os = s₁.os ∧ AllBare s'.gens) s₁ := by
  have rv := vals_ints hi
  have lenV := hi.length
  -- from an abstract heap in which nothing but the script may be tracked
  have core : ∀ H : Hp, Only H → SqL K H a (ns.map V.int) → HOk P w H s₁.heap → (∀ b, H b ≠ none → b = a) → (H a ≠ none → K.lookup a = none) →
      codeAny (model P w) callerA (.call (.ref fa) ⟨[.ref a], []⟩) (fun r s' => r = .ok (.ret (.bool true)) ∧ OldK s₁.heap s'.heap ∧ s'.os = s₁.os ∧ AllBare s'.gens) s₁ := by
    intro H hO hS hok hA hK
    have base_of : ∀ {b : Addr} {o : Obj}, s₁.heap.get? b = some o → H b = none → (hidT s₁.heap H).get? b = some o := fun e n => hidT_get e n
    have noA : ∀ {b : Addr} {o : Obj} {es : Array DictEntry} {ep : Nat}, s₁.heap.get? b = some o → o.data = .dict es ep → H b = none := fun {b o es ep} e d => by
      cases q : H b with
      | none => rfl
      | some u =>
        have e' : b = a := hA b (by rw [q]; simp)
        subst e'
        rw [ha] at e; cases e
        have d' : Data.seq vs.toArray _ = Data.dict es ep := d
        cases d'
    have nsK : ∀ {b : Addr} {m : Str → Option Value}, s₁.heap.Ns b m → (hidT s₁.heap H).Ns b m := fun {b m} ⟨o, es, ep, e, d, r⟩ => ⟨o, es, ep, base_of e (noA e d), d, r⟩
    have hKb : K.In (hidT s₁.heap H) := fun b o e => base_of (KX b o e) (by
      cases q : H b with
      | none => rfl
      | some u =>
        have e' : b = a := hA b (by rw [q]; simp)
        subst e'
        rw [hK (by rw [q]; simp)] at e; cases e)
    have hM : Mod K mg (hidT s₁.heap H) := ⟨hKb, nsK hns, ⟨mb, nsK hb, hbb⟩, let ⟨mc, h1, h2⟩ := hlim; ⟨mc, nsK h1, h2⟩⟩
    have e0 : Env0 P w K mg (hidT s₁.heap H) callerA [] s₁ H := ⟨rfl, hM, fun b o e => of_hidT e, Nat.le_of_eq (hidT_size _ _), trivial, fun b hb => absurd (show b ∈ ([] : List Addr) from hb) (by simp), hok, .of_eq hg⟩
    refine codeAny_mono ((F _ hKb (nsK hns)).run callerA [] s₁ H ⟨[.ref a], []⟩ [.ref a] [.ref a] _ _ hr e0 (hbind s₁ (.ref a)) (.cons rfl .nil) (hsp H hO hS)) fun r s' h => ?_
    cases r with
    | error e => exact (hCX H e s' h).elim
    | ok fl =>
      cases fl with
      | next => exact False.elim h
      | brk => exact False.elim h
      | cont => exact False.elim h
      | ret u =>
        obtain ⟨v, H', os, bare, un, hok', r', q⟩ := h
        have q' : v = .bl true := q
        subst q'
        obtain rfl : u = Value.bool true := r'
        refine ⟨rfl, OldK.of_keep fun b o e => ?_, os, bare⟩
        cases q : H b with
        | none => exact un.keep b o e q (by intro z; exact absurd (show b ∈ ([] : List Addr) from z) (by simp)) (by simp)
        | some u =>
          rcases hO b with z | ⟨ob, xs, z⟩
          · rw [q] at z; cases z
          · have z2 := un.frzs b ob _ z
            obtain ⟨e1, _⟩ := hok b _ z
            obtain ⟨e2, _⟩ := hok' b _ z2
            rw [e] at e1; cases e1
            exact e2
  cases hk : K.lookup a with
  | some o =>
    -- the script is one of the module's own objects
    have e := KX a o hk
    rw [ha] at e
    cases e
    refine core (fun _ => none) (fun _ => .inl rfl) (.inr ⟨_, vs.toArray, _, hk, rfl, rfl, rfl, by rw [List.size_toArray, lenV]; exact hl, by simpa using rv⟩) (fun b u z => by have z' : (none : Option HO) = some u := z; cases z') (fun b z => absurd rfl z) fun z => absurd rfl z
  | none =>
    refine core (fun b => if b = a then some (.frz { cls := .type "list", data := .seq vs.toArray } (.lst (ns.map V.int))) else none) (fun b => ?_) (.inl (.inr ⟨{ cls := .type "list", data := .seq vs.toArray }, if_pos rfl⟩)) (fun b u z => ?_) (fun b z => ?_) fun _ => hk
    · by_cases hb : b = a
      · exact .inr ⟨_, _, if_pos hb⟩
      · exact .inl (if_neg hb)
    · by_cases hb : b = a
      · have z' := (if_pos hb).symm.trans z
        cases z'
        subst hb
        exact ⟨ha, by rw [List.length_map]; exact hl, vs, _, rv, ha⟩
      · have z' := (if_neg hb).symm.trans z
        cases z'
    · by_cases hb : b = a
      · exact hb
      · exact absurd (if_neg hb) z
end L2

namespace L2
open PySem PySem.Spec PyProof.Rows

noncomputable abbrev KOf {K : PySem.W.Frag} {h : Heap} (_ : K.In h) : PySem.W.Frag := K

end L2



/-! SHORT WORDS over the layer: a def of the text, its body, what a loop and a test want. -/
namespace L2
open PySem PySem.Spec PyProof.Rows

/-! ### the text by places -/
noncomputable def defArgs (s : Stmt) : Arguments := match s with
  | .FunctionDef _ a _ _ _ _ _ _ _ _ => a
  | _ => { posonlyargs := [], args := [], vararg := none, kwonlyargs := [], kw_defaults := [], kwarg := none, defaults := [] }
noncomputable def defBody (s : Stmt) : List Stmt := match s with
  | .FunctionDef _ _ b _ _ _ _ _ _ _ => b
  | _ => []
noncomputable def defScope (s : Stmt) : Scope := match s with
  | .FunctionDef _ _ _ _ _ _ sc _ _ _ => sc
  | _ => { kind := .function, names := [], isGenerator := false, isCoroutine := false }

/-! ### no exception leaves a def -/
noncomputable abbrev CX0 : CXT := fun _ _ _ _ _ _ => False
noncomputable abbrev E0 : XK := fun _ _ _ => False
theorem pass0 {X : Cx} : Passes CX0 X E0 := fun _ _ _ _ _ _ _ h => h.elim

/-! ### a def (or method) of the text as it stands behind the top -/
structure Fun (K : PySem.W.Frag) (x qual : Str) (st : Stmt) (f : Addr) (fd : FuncData) : Prop where
  ex : ∃ (oc : Value) (od : Option Addr) (kV doc pm : Value) (an : Option Addr) (cdv ct : Value) (osl : Array (Option Value)),
    fd = PySem.W.fnOf x qual (defArgs st) (defBody st) (defScope st) .none kV doc pm an cdv ct ∧ K.lookup f = some ⟨oc, od, .func fd, osl⟩ ∧ PySem.W.codeIn K cdv qual = true
  kp : PySem.W.keepIn K (.ref f) = true
section
variable {P : Program} {w : World} {K : PySem.W.Frag} {mg : Str → Option Value} {base : Heap}
/-- THE RULE for a def: its body as a term of rules, and the reading of that term -/
theorem Fun.ok {x qual : Str} {st : Stmt} {f : Addr} {fd : FuncData} {N ps : List Str} {k : Nat} {sp : Sp} (F : Fun K x qual st f fd) (S : FnScope N ps (defScope st)) (len : ∀ vs H Q E, sp vs H Q E → vs.length = ps.length)
    (hbody : ∀ (cdv : Value) (A : Around) (outer : List Env) (s : Shared) (H : Hp) (vs : List V) (Q : VK) (E : XK), Room k (A.deeper (envOfC qual (defScope st) s.heap.objs.size f cdv)) → sp vs H Q E →
      ∃ t, PSs (cxOf CX0 P w K mg base N qual (defScope st) f cdv A outer s H E).nox (defBody st) t ∧ t { nx := fun _ H' => Q .non H', rt := Q } (start N vs) H) : FnOk P w K mg base CX0 (k + 1) f fd ps sp := by
  obtain ⟨oc, od, kV, doc, pm, an, cdv, ct, osl, rfl, lk, hcd⟩ := F.ex
  refine fn_of lk hcd S len fun A outer s H vs Q E hr hsp => ?_
  obtain ⟨t, h, q⟩ := hbody cdv A outer s H vs Q E hr hsp
  exact ⟨t, h.nox, q⟩
/-- how its arguments bind (no defaults): h is «fun _ _ _ _ _ _ us hl => match us, hl with | [_, _], _ => rfl», one _ a parameter -/
theorem Fun.binds {x qual : Str} {st : Stmt} {f : Addr} {fd : FuncData} {ps : List Str} (F : Fun K x qual st f fd)
    (h : ∀ (kV doc pm : Value) (an : Option Addr) (cdv ct : Value) (us : List Value), us.length = ps.length → bindArgs (PySem.W.fnOf x qual (defArgs st) (defBody st) (defScope st) .none kV doc pm an cdv ct) ⟨us, []⟩ = pure (ps.zip us)) : Binds K fd ps [] := by
  obtain ⟨oc, od, kV, doc, pm, an, cdv, ct, osl, rfl, lk, hcd⟩ := F.ex
  exact .all (h kV doc pm an cdv ct)
theorem fun_mk {x qual : Str} {st : Stmt} {f : Addr} {oc : Value} {od an : Option Addr} {osl : Array (Option Value)} {kV doc pm cdv ct : Value} (l : K.lookup f = some ⟨oc, od, .func (PySem.W.fnOf x qual (defArgs st) (defBody st) (defScope st) .none kV doc pm an cdv ct), osl⟩)
    (c : PySem.W.codeIn K cdv qual = true) (k : PySem.W.keepIn K (.ref f) = true) : Fun K x qual st f (PySem.W.fnOf x qual (defArgs st) (defBody st) (defScope st) .none kV doc pm an cdv ct) := ⟨⟨oc, od, kV, doc, pm, an, cdv, ct, osl, rfl, l, c⟩, k⟩
end
theorem hu_of {A : Around} {k : Nat} (hr : Room k A) : A.units + 1 < cLine := Nat.lt_of_le_of_lt (Nat.add_le_add_left (by decide : 1 ≤ 64) _) hr.units
/-! ### expressions in short: the name that stands in the i-th slot -/
section
variable {X : Cx}
end

/-! ### tests -/
theorem iteF {A B : Prop} (h : B) : if false = true then A else B := by
  rw [if_neg Bool.false_ne_true]
  exact h
theorem ite2 {c A B : Prop} [Decidable c] (h1 : c → A) (h2 : ¬ c → B) : if c then A else B := by
  by_cases h : c
  · rw [if_pos h]
    exact h1 h
  · rw [if_neg h]
    exact h2 h
theorem iteNS {c A B : Prop} [Decidable c] (hc : c) (h : B) : if (!decide c) = true then A else B := by
  rw [decide_eq_true hc]
  exact iteF h

/-! ### heaps -/
/-- all that was tracked is as it was -/
noncomputable def Same (H H' : Hp) : Prop := ∀ b o, H b = some o → H' b = some o
theorem Same.refl (H : Hp) : Same H H := fun _ _ h => h
theorem Same.trans {H H1 H2 : Hp} (a : Same H H1) (b : Same H1 H2) : Same H H2 := fun c o h => b c o (a c o h)
theorem Same.free {H H' : Hp} (e : Same H H') {l : Addr} (h : H' l = Option.none) : H l = Option.none := by
  cases q : H l with
  | none => rfl
  | some o =>
    rw [e l o q] at h
    cases h
theorem Same.seq {K : PySem.W.Frag} {H H' : Hp} {a : Addr} {xs : List V} (e : Same H H') (h : SqL K H a xs) : SqL K H' a xs := by
  rcases h with (h | ⟨o, h⟩) | h
  · exact .inl (.inl (e _ _ h))
  · exact .inl (.inr ⟨o, e _ _ h⟩)
  · exact .inr h

end L2

set_option Elab.async false
set_option linter.all false
set_option maxRecDepth 100000
set_option maxHeartbeats 4000000
namespace L2
open PySem PySem.Spec PyProof.Rows

/-! ### the signs of a text, walked -/
noncomputable def Its (x : Str) : It := ⟨fun i _ => i < x.cps.size, fun i H y H' => H' = H ∧ ∃ c, x.cps[i]? = some c ∧ y = .str ⟨#[c]⟩, fun i _ => x.cps.size ≤ i⟩
theorem turn_str {P : Program} {w : World} {K : PySem.W.Frag} {tg : Expr} (x : Str) (it : Addr) {ty : String} {t : Tok} (hty : ty = "str_ascii_iterator" ∨ ty = "str_iterator") :
    Turn P w K tg (Its x) [it] it (fun i h => h.IsStrIter it ty x t i) where
  mem := by simp
  obj := fun i h st b hb => by
    have e : b = it := by simpa using hb
    subst e
    obtain ⟨o, e, c, d⟩ := st
    exact ⟨o, e, fun v z => by rw [d] at z; cases z⟩
  keep := fun i h h' st k => by
    obtain ⟨o, e, r⟩ := st
    exact ⟨o, k it (by simp) o e, r⟩
  item := by
    intro X hP hw hK hc i pins s σ H E I hf st hg
    subst hP hw hK
    have hi : i < x.cps.size := hg
    obtain ⟨f0, f1, f2, f3, f4, f5⟩ := hf it (by simp)
    rcases hty with rfl | rfl
    · refine wpAny_pyNext_ascii_item st (c := x.cps[i]) (by simp [hi]) fun h' st' sb => ?_
      have I1 : Inv X pins σ H { s with heap := h', toks := s.toks + 1 } := I.turned (fun b o hb e => (sb.2 b hb).trans e) f0 f1 f3 f4 f5
      obtain ⟨o, e, c, d⟩ := id st'
      exact ⟨_, rfl, go_of (s := { s with heap := h', toks := s.toks + 1 }) e c d (by decide) ⟨.str ⟨#[x.cps[i]]⟩, H, I1, ⟨_, rfl⟩, ⟨rfl, x.cps[i], by simp [hi], rfl⟩, st', fun b hb => (hf b hb).1⟩⟩
    · refine wpAny_pyNext_wide_item st (c := x.cps[i]) (by simp [hi]) fun h' st' sb => ?_
      have I1 : Inv X pins σ H { s with heap := h', toks := s.toks + 1 } := I.turned (fun b o hb e => (sb.2 b hb).trans e) f0 f1 f3 f4 f5
      obtain ⟨o, e, c, d⟩ := id st'
      exact ⟨_, rfl, go_of (s := { s with heap := h', toks := s.toks + 1 }) e c d (by decide) ⟨.str ⟨#[x.cps[i]]⟩, H, I1, ⟨_, rfl⟩, ⟨rfl, x.cps[i], by simp [hi], rfl⟩, st', fun b hb => (hf b hb).1⟩⟩
  done := by
    intro X hP hw hK hc i pins s σ H E I hf st hg
    subst hP hw hK
    have hi : x.cps.size ≤ i := hg
    obtain ⟨f0, f1, f2, f3, f4, f5⟩ := hf it (by simp)
    rcases hty with rfl | rfl
    · exact wpAny_pyNext_ascii_end (I.ok.hd hc) st (by simp [hi]) fun h' eb => ⟨rfl, I.turned (t' := s.toks) (fun b o hb e => eb b o hb e) f0 f1 f3 f4 f5⟩
    · exact wpAny_pyNext_wide_end (I.ok.hd hc) st (by simp [hi]) fun h' eb => ⟨rfl, I.turned (t' := s.toks) (fun b o hb e => eb b o hb e) f0 f1 f3 f4 f5⟩
  self := fun _ _ _ _ _ st h => by
    rcases hty with rfl | rfl
    · exact wpAny_pyIter_striter_ascii st h
    · exact wpAny_pyIter_striter_wide st h
noncomputable def iStr (tl : TE) : TI := fun σ H R => tl σ H fun x H1 => ∃ z, x = .str z ∧ R (Its z) H1
theorem pi_str {X : Cx} {tg l : Expr} {tl : TE} (hl : PE X l tl) : PI X tg l (iStr tl) := by
  intro pins s σ H R I h
  refine thn (hl pins s σ H _ I h) fun v s1 ⟨x, H1, I1, r1, q1⟩ => ?_
  obtain ⟨z, e, q⟩ := q1
  subst e
  obtain ⟨t, rfl⟩ := r1
  refine wpAny_pyIter_strU ?_
  refine ⟨s1.heap.objs.size, [s1.heap.objs.size], _, _, H1, rfl, I1.kept (t' := s1.toks) fun b o e => Heap.get?_push_of_some _ e, turn_str (ty := strIterType z) (t := t) z _ ?_, ⟨_, Heap.get?_push_size _ rfl, rfl, rfl⟩, fun b hb => ?_, q⟩
  · unfold strIterType
    split
    · exact .inl rfl
    · exact .inr rfl
  · have e : b = s1.heap.objs.size := by simpa using hb
    subst e
    exact I1.fpOk (Nat.le_refl _) (I1.hok.fresh (Nat.le_refl _))
end L2

set_option Elab.async false
set_option linter.all false
set_option maxRecDepth 100000
set_option maxHeartbeats 4000000
namespace L2
open PySem PySem.Spec PyProof.Rows

/-! ### a comprehension -/
noncomputable def Wk : St → St → Prop
  | [], [] => True
  | Option.none :: r, _ :: q => Wk r q
  | some a :: r, b :: q => b = some a ∧ Wk r q
  | _, _ => False
theorem Wk.len : ∀ {a b : St}, Wk a b → a.length = b.length
  | [], [], _ => rfl
  | Option.none :: r, _ :: q, h => congrArg (· + 1) (Wk.len (a := r) (b := q) h)
  | some _ :: r, _ :: q, h => congrArg (· + 1) (Wk.len (a := r) (b := q) h.2)
  | [], _ :: _, h => h.elim
  | Option.none :: _, [], h => h.elim
  | some _ :: _, [], h => h.elim
theorem Wk.get : ∀ {a b : St}, Wk a b → ∀ (i : Nat) v, a[i]? = some (some v) → b[i]? = some (some v)
  | [], [], _, i, v, e => by simp at e
  | Option.none :: r, y :: q, h, 0, v, e => by simp at e
  | Option.none :: r, y :: q, h, i + 1, v, e => by simpa using Wk.get (a := r) (b := q) h i v (by simpa using e)
  | some x :: r, y :: q, h, 0, v, e => by
    have e' : x = v := by simpa using e
    rw [h.1, e'] <;> simp
  | some x :: r, y :: q, h, i + 1, v, e => by simpa using Wk.get (a := r) (b := q) h.2 i v (by simpa using e)
  | [], _ :: _, h, _, _, _ => h.elim
  | Option.none :: _, [], h, _, _, _ => h.elim
  | some _ :: _, [], h, _, _, _ => h.elim
noncomputable def clOf (cells : List (Str × Addr)) : List (Str × NameKind) → List (Str × Addr) → List (Str × Addr)
  | [], acc => acc
  | (n, k) :: r, acc => if k == .free then clOf cells r ((n, (cells.lookup n).getD 0) :: acc) else clOf cells r acc
theorem closureFor_clOf {sc : Scope} {env : Env} (h : ∀ y ∈ sc.names, y.2 = .free → ∃ c, env.cells.lookup y.1 = some c) : closureFor sc env = pure (clOf env.cells sc.names []) := by
  unfold closureFor
  have key : ∀ (l : List (Str × NameKind)) (acc : List (Str × Addr)), (∀ y ∈ l, y.2 = .free → ∃ c, env.cells.lookup y.1 = some c) →
      (forIn l acc fun x r => match x with | (name, kind) => if (kind == .free) = true then do let a ← cellOf env name; pure (ForInStep.yield ((name, a) :: r)) else pure (ForInStep.yield r) : Sem (List (Str × Addr))) = pure (clOf env.cells l acc) := by
    intro l
    induction l with
    | nil => intro acc _; rfl
    | cons y r ih =>
      intro acc hy
      obtain ⟨n, k⟩ := y
      have hr : ∀ y ∈ r, y.2 = .free → ∃ c, env.cells.lookup y.1 = some c := fun y hm => hy y (List.mem_cons_of_mem _ hm)
      rw [List.forIn_cons]
      by_cases hk : k = .free
      · subst hk
        obtain ⟨c, hc⟩ := hy (n, .free) List.mem_cons_self rfl
        have e1 : cellOf env n = pure c := by unfold cellOf; rw [hc]
        have e2 : clOf env.cells ((n, .free) :: r) acc = clOf env.cells r ((n, c) :: acc) := by
          show (if (NameKind.free == NameKind.free) = true then clOf env.cells r ((n, (env.cells.lookup n).getD 0) :: acc) else clOf env.cells r acc) = _
          rw [if_pos (by decide), hc]; rfl
        rw [e2, ← ih ((n, c) :: acc) hr]
        show (do let x ← (if (NameKind.free == NameKind.free) = true then do let a ← cellOf env n; pure (ForInStep.yield ((n, a) :: acc)) else pure (ForInStep.yield acc) : Sem _); _) = _
        rw [if_pos (by decide), e1]
        rfl
      · have hb : (k == NameKind.free) = false := by simpa using hk
        have e2 : clOf env.cells ((n, k) :: r) acc = clOf env.cells r acc := by
          show (if (k == NameKind.free) = true then clOf env.cells r ((n, (env.cells.lookup n).getD 0) :: acc) else clOf env.cells r acc) = _
          rw [hb]; rfl
        rw [e2, ← ih acc hr]
        show (do let x ← (if (k == NameKind.free) = true then do let a ← cellOf env n; pure (ForInStep.yield ((n, a) :: acc)) else pure (ForInStep.yield acc) : Sem _); _) = _
        rw [hb]
        rfl
  have := key sc.names [] h
  first | exact this | (rw [this]; rfl) | simpa using this
theorem clOf_lookup {cells : List (Str × Addr)} : ∀ {l : List (Str × NameKind)} {acc : List (Str × Addr)} {n : Str} {c : Addr}, (∀ y ∈ l, y.2 = .free → ∃ c, cells.lookup y.1 = some c) → (∀ n c, acc.lookup n = some c → cells.lookup n = some c) →
    (clOf cells l acc).lookup n = some c → cells.lookup n = some c
  | [], acc, n, c, _, ha, e => ha n c e
  | (m, k) :: r, acc, n, c, hl, ha, e => by
    have hr : ∀ y ∈ r, y.2 = .free → ∃ c, cells.lookup y.1 = some c := fun y hm => hl y (List.mem_cons_of_mem _ hm)
    have e' : (if (k == NameKind.free) = true then clOf cells r ((m, (cells.lookup m).getD 0) :: acc) else clOf cells r acc).lookup n = some c := e
    by_cases hk : (k == NameKind.free) = true
    · rw [if_pos hk] at e'
      refine clOf_lookup hr (fun n c z => ?_) e'
      obtain ⟨d, hd⟩ := hl (m, k) List.mem_cons_self (by simpa using hk)
      rw [List.lookup_cons] at z
      by_cases hn : (n == m) = true
      · rw [hn] at z
        have : n = m := by simpa using hn
        subst this
        have hd' : cells.lookup n = some d := hd
        rw [hd'] at z ⊢
        simpa using z
      · have hn' : (n == m) = false := by simpa using hn
        rw [hn'] at z
        exact ha n c z
    · rw [if_neg hk] at e'
      exact clOf_lookup hr ha e'
theorem clOf_some {cells : List (Str × Addr)} : ∀ {l : List (Str × NameKind)} {acc : List (Str × Addr)} {n : Str}, ((n, NameKind.free) ∈ l ∨ ∃ c, acc.lookup n = some c) → ∃ c, (clOf cells l acc).lookup n = some c
  | [], acc, n, h => by
    rcases h with h | h
    · cases h
    · exact h
  | (m, k) :: r, acc, n, h => by
    show ∃ c, (if (k == NameKind.free) = true then clOf cells r ((m, (cells.lookup m).getD 0) :: acc) else clOf cells r acc).lookup n = some c
    have hcons : ∀ a, n = m ∨ (∃ c, acc.lookup n = some c) → ∃ c, ((m, a) :: acc).lookup n = some c := fun a z => by
      rw [List.lookup_cons]
      by_cases hn : (n == m) = true
      · rw [hn]; exact ⟨_, rfl⟩
      · have hn' : (n == m) = false := by simpa using hn
        rw [hn']
        rcases z with z | z
        · exact absurd (by simpa using z) hn
        · exact z
    by_cases hk : (k == NameKind.free) = true
    · rw [if_pos hk]
      refine clOf_some ?_
      rcases h with h | h
      · rcases List.mem_cons.mp h with e | h
        · exact .inr (hcons _ (.inl (congrArg Prod.fst e)))
        · exact .inl h
      · exact .inr (hcons _ (.inr h))
    · rw [if_neg hk]
      refine clOf_some ?_
      rcases h with h | h
      · rcases List.mem_cons.mp h with e | h
        · have : k = .free := (congrArg Prod.snd e).symm
          rw [this] at hk
          exact absurd (by decide) hk
        · exact .inl h
      · exact .inr h
noncomputable def rlb (env : Env) (p : Str × NameKind) : Str × NameKind := if (p.2 == NameKind.free && env.scope.kind == ScopeKind.function && env.kindOf p.1 == some NameKind.cell) = true then (p.1, NameKind.cell) else p
theorem relabel_names (sc : Scope) (env : Env) : (relabel sc env).names = sc.names.map (rlb env) := rfl
theorem rlb_fst (env : Env) (p : Str × NameKind) : (rlb env p).1 = p.1 := by
  unfold rlb
  split <;> rfl
theorem rlb_free {env : Env} {p : Str × NameKind} (h : p.2 ≠ .cell) (h2 : (rlb env p).2 = .cell ∨ (rlb env p).2 = .free) : p.2 = .free := by
  unfold rlb at h2
  split at h2
  · rename_i q
    rw [Bool.and_eq_true, Bool.and_eq_true] at q
    simpa using q.1.1
  · rcases h2 with h2 | h2
    · exact absurd h2 h
    · exact h2
theorem relabel_free' {env : Env} : ∀ {names : List (Str × NameKind)} {x : Str} {k : NameKind}, (∀ y ∈ names, y.2 ≠ .cell) → (k = .cell ∨ k = .free) → (names.map (rlb env)).lookup x = some k → (x, NameKind.free) ∈ names
  | [], x, k, _, _, e => by simp at e
  | p :: r, x, k, hc, hk, e => by
    have hr : ∀ y ∈ r, y.2 ≠ .cell := fun y hm => hc y (List.mem_cons_of_mem _ hm)
    have e0 : rlb env p = (p.1, (rlb env p).2) := by rw [← rlb_fst env p]
    rw [List.map_cons, e0, List.lookup_cons] at e
    by_cases hx : x = p.1
    · have hb : (x == p.1) = true := by simpa using hx
      rw [hb] at e
      have e2 : (rlb env p).2 = k := Option.some.inj e
      have hj := rlb_free (env := env) (hc p List.mem_cons_self) (by rw [e2]; exact hk)
      have : (x, NameKind.free) = p := by rw [hx, ← hj]
      rw [this]
      exact List.mem_cons_self
    · have hb : (x == p.1) = false := by simpa using hx
      rw [hb] at e
      exact List.mem_cons_of_mem _ (relabel_free' hr hk e)
theorem relabel_free {env : Env} {sc : Scope} {x : Str} {k : NameKind} (hc : ∀ y ∈ sc.names, y.2 ≠ .cell) (hk : k = .cell ∨ k = .free) (e : (relabel sc env).names.lookup x = some k) : (x, NameKind.free) ∈ sc.names :=
  relabel_free' (env := env) hc hk (by rw [← relabel_names]; exact e)

/-- the values that a block sees at its start: of the names it takes from around it -/
noncomputable def blkS (ix : List (Option Nat)) (σ : St) : St := ix.map fun o => o.bind fun i => (σ[i]?).join
noncomputable def FreeOk (XN : List Str) (env : Env) (sc : Scope) : List Str → List (Option Nat) → Prop
  | [], [] => True
  | _ :: N, Option.none :: ix => FreeOk XN env sc N ix
  | y :: N, some i :: ix => XN[i]? = some y ∧ env.kindOf y = some .cell ∧ (relabel sc env).names.lookup y = some .cell ∧ FreeOk XN env sc N ix
  | _, _ => False
theorem FreeOk.len {XN : List Str} {env : Env} {sc : Scope} : ∀ {N : List Str} {ix : List (Option Nat)}, FreeOk XN env sc N ix → ix.length = N.length
  | [], [], _ => rfl
  | _ :: N, Option.none :: ix, h => congrArg (· + 1) (FreeOk.len (N := N) (ix := ix) h)
  | _ :: N, some _ :: ix, h => congrArg (· + 1) (FreeOk.len (N := N) (ix := ix) h.2.2.2)
  | [], _ :: _, h => h.elim
  | _ :: _, [], h => h.elim
theorem FreeOk.get {XN : List Str} {env : Env} {sc : Scope} : ∀ {N : List Str} {ix : List (Option Nat)}, FreeOk XN env sc N ix → ∀ (j : Nat) (y : Str) (i : Nat), N[j]? = some y → ix[j]? = some (some i) →
    XN[i]? = some y ∧ env.kindOf y = some .cell ∧ (relabel sc env).names.lookup y = some .cell
  | [], [], _, j, y, i, e, _ => by simp at e
  | _ :: N, Option.none :: ix, h, 0, y, i, e, e2 => by simp at e2
  | _ :: N, Option.none :: ix, h, j + 1, y, i, e, e2 => FreeOk.get (N := N) (ix := ix) h j y i (by simpa using e) (by simpa using e2)
  | z :: N, some k :: ix, h, 0, y, i, e, e2 => by
    have e' : z = y := by simpa using e
    have e2' : k = i := by simpa using e2
    subst e'; subst e2'
    exact ⟨h.1, h.2.1, h.2.2.1⟩
  | _ :: N, some _ :: ix, h, j + 1, y, i, e, e2 => FreeOk.get (N := N) (ix := ix) h.2.2.2 j y i (by simpa using e) (by simpa using e2)
  | [], _ :: _, h, _, _, _, _, _ => h.elim
  | _ :: _, [], h, _, _, _, _, _ => h.elim

/-- the context of a comprehension's block -/
noncomputable def cxB (X : Cx) (sc : Scope) (C : Addr) (N : List Str) (s₀ : Shared) (H₀ : Hp) (fp : List Addr) : Cx :=
  { X with N := N, s₀ := s₀, H₀ := H₀, env := compEnvC sc (clOf X.env.cells sc.names []) C X.env, outer := X.stack, ex := fp, fn := fun _ => false, pn := [], xe := fun _ _ => False }
structure CompOk (X : Cx) (sc : Scope) (N : List Str) (ix : List (Option Nat)) : Prop where
  kind : sc.kind = .function
  nocell : (sc.names.all fun y => y.2 != .cell) = true
  names : (sc.names.all fun y => y.2 != .local || sc.names.lookup y.1 == some .local) = true
  free : (sc.names.all fun y => y.2 != .free || X.env.scope.names.lookup y.1 == some .cell) = true
  fr : FreeOk X.N X.env sc N ix
section
variable {X : Cx} {sc : Scope} {N : List Str} {ix : List (Option Nat)} {pins : List (Addr × Obj)} {σ : St} {H : Hp} {s : Shared}
theorem CompOk.cells (c : CompOk X sc N ix) (ok : X.Ok) : ∀ y ∈ sc.names, y.2 = .free → ∃ c, X.env.cells.lookup y.1 = some c := fun y hy e => by
  have h := List.all_eq_true.mp c.free y hy
  rw [e] at h
  have h' : X.env.scope.names.lookup y.1 = some .cell := by simpa using h
  exact ok.has y.1 (.inl h')
theorem CompOk.nc (c : CompOk X sc N ix) : ∀ y ∈ sc.names, y.2 ≠ .cell := fun y hy => by simpa using List.all_eq_true.mp c.nocell y hy
theorem CompOk.nm (c : CompOk X sc N ix) : ∀ y ∈ sc.names, y.2 = .local → sc.names.lookup y.1 = some .local := fun y hy e => by
  have h := List.all_eq_true.mp c.names y hy
  rw [e] at h
  simpa using h
/-- the block begins: s₂ the state at its entry (the iterator is made), s₄ behind the frame's making -/
theorem inv_block {C : Addr} {fp : List Addr} {h₁ : Heap} {t' : Nat} (c : CompOk X sc N ix) (I : Inv X pins σ H s) (hf : ∀ b ∈ fp, FpOk X pins H b) (hfp : ∀ b ∈ fp, b < s.heap.objs.size) (hC : s.heap.objs.size ≤ C)
    (hn : h₁.Ns C (fun _ => none)) (old : ∀ b o, s.heap.get? b = some o → h₁.get? b = some o) : Inv (cxB X sc C N s H fp) [] (blkS ix σ) H { s with heap := h₁, toks := t' } := by
  have hcells := c.cells I.ok
  have sub : ∀ n c, (clOf X.env.cells sc.names []).lookup n = some c → X.env.cells.lookup n = some c := fun n c e => clOf_lookup hcells (fun n c z => by simp at z) e
  refine ⟨⟨I.ok.mod, c.kind, I.ok.glob, I.ok.blt, hC, fun x y d h1 h2 => I.ok.inj x y d (sub x d h1) (sub y d h2), fun x hx => ?_, fun x d z => absurd z (by simp [cxB]), I.ok.hd, I.ok.frames, .inl rfl, fun b hb => ⟨?_, fun x d e => ?_⟩, I.bs, Nat.le_trans I.ok.bsz I.sz, fun b o e hb => ?_, fun b hb hs => ?_, I.stack, I.stkFree⟩,
    rfl, I.bare, Un.kept old, ⟨_, hn, fun j y v e1 e2 e3 => ?_⟩, fun x d e => ?_, I.hok.fresh hC, fun x d e => I.freeC x d (sub x d e), fun p hp => absurd (show p ∈ ([] : List (Addr × Obj)) from hp) (by simp), I.hok.kept old, ?_⟩
  · refine clOf_some (.inl ?_)
    rcases hx with hx | hx
    · exact relabel_free c.nc (.inl rfl) (show (relabel sc X.env).names.lookup x = some .cell from hx)
    · exact relabel_free c.nc (.inr rfl) (show (relabel sc X.env).names.lookup x = some .free from hx)
  · exact Nat.ne_of_lt (Nat.lt_of_lt_of_le (hfp b hb) hC)
  · exact (hf b hb).2.2.2.2.1 x d (sub x d e)
  · rcases (hf b hb).2.2.2.1 with z | z
    · exact I.ok.noex b o e z
    · exact absurd (Nat.lt_of_lt_of_le (Heap.lt_size e) (Nat.le_trans I.ok.bsz z)) (Nat.lt_irrefl _)
  · rcases List.mem_cons.mp (I.stkSub b hs) with z | z
    · exact (hf b hb).2.1 z
    · exact (hf b hb).2.2.1 z
  · have hj : ∃ i, ix[j]? = some (some i) ∧ σ[i]? = some (some v) := by
      unfold blkS at e2
      rw [List.getElem?_map] at e2
      cases q : ix[j]? with
      | none => rw [q] at e2; cases e2
      | some o =>
        rw [q] at e2
        cases o with
        | none => cases e2
        | some i =>
          refine ⟨i, rfl, ?_⟩
          have e2' : (σ[i]?).join = some v := Option.some.inj e2
          cases q2 : σ[i]? with
          | none => rw [q2] at e2'; cases e2'
          | some w => rw [q2] at e2'; exact congrArg some e2'
    obtain ⟨i, hi, hv⟩ := hj
    obtain ⟨k1, k2, k3⟩ := c.fr.get j y i e1 hi
    obtain ⟨m, hm, hl⟩ := I.loc
    obtain ⟨u, r, l⟩ := hl i y v k1 hv (.inr (.inl k2))
    refine ⟨u, r, ?_⟩
    rcases l with ⟨z, _⟩ | ⟨_, d, hd, hcell⟩
    · rw [k2] at z; cases z
    · obtain ⟨d', hd'⟩ : ∃ d', (clOf X.env.cells sc.names []).lookup y = some d' := clOf_some (.inl (relabel_free c.nc (.inl rfl) k3))
      have := sub y d' hd'
      rw [hd] at this
      cases this
      exact .inr ⟨.inl k3, d, hd', hcell.keeps old⟩
  · obtain ⟨v, z⟩ := I.cell x d (sub x d e)
    exact ⟨v, z.keeps old⟩
  · show (blkS ix σ).length = N.length
    unfold blkS
    rw [List.length_map, c.fr.len]
/-- the block ends -/
theorem inv_unblock {C : Addr} {fp : List Addr} {pins' : List (Addr × Obj)} {σ' : St} {H' : Hp} {s' : Shared} (I : Inv X pins σ H s) (hf : ∀ b ∈ fp, FpOk X pins H b) (J : Inv (cxB X sc C N s H fp) pins' σ' H' s') : Inv X pins σ H' s' := by
  refine I.call' (ch := fp) J.os J.base J.hok J.bare fun b hb => ?_
  obtain ⟨f0, f1, f2, f3, f4, f5⟩ := hf b hb
  exact ⟨f3, f1, f4, f5⟩
end
noncomputable def PTs (X : Cx) (ifs : List Expr) (t : TT) : Prop :=
  ∀ (pins : List (Addr × Obj)) (s : Shared) (σ : St) (H : Hp) (Q : Bool → Hp → Prop), Inv X pins σ H s → t σ H Q →
    wpAny (model X.prog X.w) X.A (forIn ifs true fun c r => if r = true then do let ok ← isTrue c X.env (eval c X.env); pure (ForInStep.yield ok) else pure (ForInStep.yield r)) (TP X pins σ Q) X.xe s
noncomputable def tAll : TT := fun _ H Q => Q true H
theorem pts_nil {X : Cx} : PTs X [] tAll := fun _ _ _ H _ I h => wpAny_tests_nil ⟨H, I, h⟩
theorem pts_one {X : Cx} {c : Expr} {t : TT} (h : PT X c t) : PTs X [c] t := fun pins s σ H Q I hw => wpAny_tests_one (h pins s σ H Q I hw)

/-- what a comprehension asks: W by the turn, a measure, the items so far -/
noncomputable def CompW (J : It) (D : Addr) (σb : St) (g : TG) (tt : TT) (te : TE) (Q : Hp → List V → Prop) (W : Nat → Nat → List V → Hp → Prop) : Prop :=
  ∀ i m ys H, W i m ys H → H D = some (.lst ys) ∧ ((J.stop i H ∧ Q H ys) ∨ (J.go i H ∧ ∀ x H3, J.yld i H x H3 → g x σb H3 fun σ4 H4 => Wk σb σ4 ∧ tt σ4 H4 fun b H5 =>
    if b = true then te σ4 H5 fun y H6 => H6 D = some (.lst ys) ∧ ys.length < sizeLine ∧ ∃ m', m' < m ∧ W (i + 1) m' (ys ++ [y]) (upd H6 D (.lst (ys ++ [y]))) else ∃ m', m' < m ∧ W (i + 1) m' ys H5))
noncomputable def tComp (ix : List (Option Nat)) (wi : TI) (g : TG) (tt : TT) (te : TE) : TE := fun σ H Q => wi σ H fun J H1 => ∀ D, H1 D = none → ∃ W, (∃ m, W 0 m [] (upd H1 D (.lst []))) ∧ CompW J D (blkS ix σ) g tt te (fun H _ => Q (.ref D) H) W

section
variable {X : Cx} {sc : Scope} {N : List Str} {ix : List (Option Nat)} {elt tg iter : Expr} {ifs : List Expr} {pos : Pos} {wi : TI} {g : TG} {tt : TT} {te : TE}
/-- the block's rules, in every context that it may run in -/
structure Blk (X : Cx) (sc : Scope) (N : List Str) (tg elt : Expr) (ifs : List Expr) (g : TG) (tt : TT) (te : TE) : Prop where
  tg : ∀ C s H fp, PG (cxB X sc C N s H fp) tg g
  tests : ∀ C s H fp, PTs (cxB X sc C N s H fp) ifs tt
  elt : ∀ C s H fp, PE (cxB X sc C N s H fp) elt te
theorem comp_loop {J : It} {fp : List Addr} {it D : Addr} {tn : Nat → Heap → Prop} {σb : St} {Q : Hp → List V → Prop} {R : Result → Shared → Prop} {W : Nat → Nat → List V → Hp → Prop}
    (hc : X.calm = true) (hxe : X.xe = fun _ _ => False) (T : Turn X.prog X.w X.K tg J fp it tn) (hg : PG X tg g) (ht : PTs X ifs tt) (he : PE X elt te) (turn : CompW J D σb g tt te Q W)
    (stat : ∀ {H' : Hp}, (∀ b ∈ fp, H' b = none) → ∀ b ∈ fp, FpOk X [] H' b)
    (fin : ∀ {σ' : St} {H' : Hp} {s' : Shared} {ys : List V}, Inv X [] σ' H' s' → Q H' ys → R (.ok .next) s')
    {m0 i0 : Nat} {ys0 : List V} {H0 : Hp} {s0 : Shared} (I0 : Inv X [] σb H0 s0) (st0 : tn i0 s0.heap) (fr0 : ∀ b ∈ fp, H0 b = none) (w0 : W i0 m0 ys0 H0) :
    codeAny (model X.prog X.w) X.A (.compLoop (.ListComp elt [⟨tg, iter, ifs, 0⟩] sc pos) 0 (.ref it) (.ref D) X.env) R s0 := by
  have noE : ∀ {E' : Value → Shared → Prop} (e : Value) (s' : Shared), X.xe e s' → E' e s' := fun {E'} e s' z => by rw [hxe] at z; exact z.elim
  refine codeAny_loop rfl (fun n s' => ∃ i ys H', Inv X [] σb H' s' ∧ tn i s'.heap ∧ (∀ b ∈ fp, H' b = none) ∧ W i n ys H') ?_ m0 ⟨i0, ys0, H0, I0, st0, fr0, w0⟩
  rintro n s3 ⟨i, ys, H3, I3, st3, fr3, w3⟩
  show wpAny _ X.A ((compTurn (.ListComp elt [⟨tg, iter, ifs, 0⟩] sc pos) 0 (.ref it) (.ref D) X.env).onRaise (fun x => do noteFrame x X.env; theTreesLotGoes x)) _ _ s3
  refine wpAny_noted ?_
  rw [compTurn_list]
  refine wpAny_bind (wpAny_standAt (wpAny_bind ?_))
  obtain ⟨hDl, next⟩ := turn i n ys H3 w3
  rcases next with ⟨stop, q⟩ | ⟨go, step⟩
  · refine thn (T.done X rfl rfl rfl hc i [] s3 σb H3 _ I3 (stat fr3) st3 stop) fun r s4 ⟨hr, I4⟩ => ?_
    subst hr
    exact wpAny_pure (fin I4 q)
  · refine thn (T.item X rfl rfl rfl hc i [] s3 σb H3 _ I3 (stat fr3) st3 go) fun r s4 ⟨u, hr, h4⟩ => ?_
    subst hr
    refine wpAny_bind (thn h4 fun _ s5 ⟨x, H5, I5, r5, y5, st5, fr5⟩ => ?_)
    have I5' := I5.pinned (stat fr5) (T.obj _ _ st5)
    have back : ∀ {σ' : St} {H' : Hp} {s' : Shared}, Inv X ([] ++ pinsAt fp s5.heap) σ' H' s' → Wk σb σ' → Inv X [] σb H' s' ∧ tn (i + 1) s'.heap ∧ ∀ b ∈ fp, H' b = none := fun {σ' H' s'} I7 wk => by
      refine ⟨(I7.unpinned).weak wk.len wk.get, T.keep _ _ _ st5 fun b hb o e => (I7.pin (b, o) (List.mem_append_right _ (List.mem_append_right _ (mem_pinsAt hb e)))).1, fun b hb => ?_⟩
      obtain ⟨o, e, d⟩ := T.obj _ _ st5 b hb
      exact (I7.pin (b, o) (List.mem_append_right _ (List.mem_append_right _ (mem_pinsAt hb e)))).2.1
    refine wpAny_bind (wpAny_mono (hg _ s5 σb H5 x u _ I5' r5 (step x H5 y5)) (fun _ s6 ⟨σ6, H6, I6, wk, q6⟩ => ?_) noE)
    refine wpAny_bind (wpAny_mono (ht _ s6 σ6 H6 _ I6 q6) (fun ok s7 ⟨H7, I7, q7⟩ => ?_) noE)
    cases ok with
    | false =>
      obtain ⟨m', hm, w7⟩ := q7
      obtain ⟨b1, b2, b3⟩ := back I7 wk
      exact wpAny_pure ⟨rfl, m', hm, i + 1, ys, H7, b1, b2, b3, w7⟩
    | true =>
      refine wpAny_bind (wpAny_bind (wpAny_mono (he _ s7 σ6 H7 _ I7 q7) (fun v s8 ⟨y, H8, I8, r8, hD8, hl8, m', hm, w8⟩ => ?_) noE))
      refine wpAny_bind (wpAny_mono (mt_append _ s8 σ6 H8 (.ref D) [y] (.ref D) [v] (fun _ H9 => H9 = upd H8 D (.lst (ys ++ [y]))) I8 rfl (.cons r8 .nil) ⟨D, ys, y, rfl, rfl, hD8, hl8, rfl⟩) (fun _ s9 ⟨z, H9, I9, _, e9⟩ => ?_) noE)
      subst e9
      obtain ⟨b1, b2, b3⟩ := back I9 wk
      exact wpAny_pure (wpAny_pure ⟨rfl, m', hm, i + 1, ys ++ [y], _, b1, b2, b3, w8⟩)
theorem comp_core {pins : List (Addr × Obj)} {σ : St} {H : Hp} {s : Shared} {E : Value → Shared → Prop} {RR : Value → Addr → Result → Shared → Prop} {it : Addr} {fp : List Addr} {tn : Nat → Heap → Prop} {J : It} {Q : Addr → Hp → List V → Prop}
    (hc : X.calm = true) (c : CompOk X sc N ix) (B : Blk X sc N tg elt ifs g tt te) (I : Inv X pins σ H s) (T : Turn X.prog X.w X.K tg J fp it tn) (st : tn 0 s.heap) (hf : ∀ b ∈ fp, FpOk X pins H b)
    (h : ∀ D, H D = none → ∃ W, (∃ m, W 0 m [] (upd H D (.lst []))) ∧ CompW J D (blkS ix σ) g tt te (Q D) W)
    (hR : ∀ D C H' s' ys, Inv X pins σ H' s' → FpOk X pins H' C → (∃ m, s'.heap.Ns C m) → Q D H' ys → RR (.ref D) C (.ok .next) s') :
    wpAny (model X.prog X.w) X.A (newList []) (fun acc s₃ => wpAny (model X.prog X.w) X.A (newFunctionEnv sc X.env.globals (clOf X.env.cells sc.names []) [] X.env.qual none .none (some X.env)) (fun cenv s₄ =>
      codeAny (model X.prog X.w) X.A (.compStart (.ListComp elt [⟨tg, iter, ifs, 0⟩] sc pos) 0 (.ref it) acc { cenv with scope := relabel sc X.env }) (RR acc cenv.locals) s₄) E s₃) E s := by
  have hlt : ∀ b ∈ fp, b < s.heap.objs.size := fun b hb => let ⟨o, e, _⟩ := T.obj _ _ st b hb; Heap.lt_size e
  refine wpAny_newObj_type ?_ (by show 0 ≤ sizeLine; exact Nat.zero_le _)
  have hD : H s.heap.objs.size = none := I.hok.fresh (Nat.le_refl _)
  obtain ⟨W, ⟨m0, w0⟩, turn⟩ := h s.heap.objs.size hD
  have I1 : Inv X pins σ (upd H s.heap.objs.size (.lst [])) { s with heap := s.heap.push { cls := .type "list", data := .seq ([] : List Value).toArray } } := I.lnew (t' := s.toks) (its := []) .nil (Nat.zero_le _)
  have k1 : ∀ b o, s.heap.get? b = some o → (s.heap.push { cls := .type "list", data := .seq ([] : List Value).toArray }).get? b = some o := fun b o e => Heap.get?_push_of_some _ e
  have hne : ∀ b ∈ fp, b ≠ s.heap.objs.size := fun b hb => Nat.ne_of_lt (hlt b hb)
  have hf1 : ∀ b ∈ fp, FpOk X pins (upd H s.heap.objs.size (.lst [])) b := fun b hb => ⟨by rw [upd_ne (hne b hb)]; exact (hf b hb).1, (hf b hb).2⟩
  have st1 : tn 0 (s.heap.push { cls := .type "list", data := .seq ([] : List Value).toArray }) := T.keep _ _ _ st fun b _ o e => k1 b o e
  generalize hs1 : ({ s with heap := s.heap.push { cls := .type "list", data := .seq ([] : List Value).toArray } } : Shared) = s1 at I1
  have hs1h : s1.heap = s.heap.push { cls := .type "list", data := .seq ([] : List Value).toArray } := by rw [← hs1]
  generalize hDe : s.heap.objs.size = D at *
  show wpAny _ _ _ _ _ s1
  refine wpAny_newFunctionEnv c.nc (by intro y hy; simp at hy) (fun h₁ hns₁ hsb₁ => ?_) c.kind
  have old : ∀ b o, s1.heap.get? b = some o → h₁.get? b = some o := fun b o e => (hsb₁.2 b (Nat.ne_of_lt (Heap.lt_size e))).trans (Heap.get?_push_of_some _ e)
  have hlt1 : ∀ b ∈ fp, b < s1.heap.objs.size := fun b hb => by
    obtain ⟨o, e, _⟩ := T.obj _ _ st1 b hb
    rw [hs1h]
    exact Heap.lt_size e
  have J0 := inv_block (h₁ := h₁) (t' := s1.toks + ([] : List (Str × Value)).length) c I1 hf1 hlt1 (Nat.le_refl _) (by simpa using hns₁) old
  have stB : tn 0 h₁ := T.keep _ _ _ (by rw [hs1h]; exact st1 : tn 0 s1.heap) fun b _ o e => old b o e
  have fpB : ∀ {H' : Hp}, (∀ b ∈ fp, H' b = none) → ∀ b ∈ fp, FpOk (cxB X sc s1.heap.objs.size N s1 (upd H D (.lst [])) fp) [] H' b := fun {H'} hn b hb => by
    obtain ⟨f0, f1, f2, f3, f4, f5⟩ := hf1 b hb
    refine ⟨hn b hb, Nat.ne_of_lt (hlt1 b hb), ?_, .inl hb, fun x d e => f4 x d (clOf_lookup (c.cells I.ok) (fun n c z => by simp at z) e), fun p hp => absurd (show p ∈ ([] : List (Addr × Obj)) from hp) (by simp)⟩
    intro z
    rcases List.mem_cons.mp (I1.stkSub b z) with q | q
    · exact f1 q
    · exact f2 q
  have fin : ∀ {σ' : St} {H' : Hp} {s' : Shared} {ys : List V}, Inv (cxB X sc s1.heap.objs.size N s1 (upd H D (.lst [])) fp) [] σ' H' s' → Q D H' ys → RR (.ref D) s1.heap.objs.size (.ok .next) s' := fun {σ' H' s' ys} J q =>
    hR D _ H' s' ys (inv_unblock I1 hf1 J) (I1.fpOk (Nat.le_refl _) J.free) (let ⟨m, hn, _⟩ := J.loc; ⟨m, hn⟩) q
  have loop : codeAny (model X.prog X.w) X.A (.compLoop (.ListComp elt [⟨tg, iter, ifs, 0⟩] sc pos) 0 (.ref it) (.ref D) (cxB X sc s1.heap.objs.size N s1 (upd H D (.lst [])) fp).env) (RR (.ref D) s1.heap.objs.size) { s1 with heap := h₁, toks := s1.toks + ([] : List (Str × Value)).length } :=
    comp_loop (X := cxB X sc s1.heap.objs.size N s1 (upd H D (.lst [])) fp) hc rfl T (B.tg _ _ _ _) (B.tests _ _ _ _) (B.elt _ _ _ _) turn fpB fin J0 stB (fun b hb => (hf1 b hb).1) w0
  exact codeAny_compStart_list loop (T.self _ 0 _ _ _ stB loop)
theorem pe_comp (hc : X.calm = true) (c : CompOk X sc N ix) (hi : PI X tg iter wi) (B : Blk X sc N tg elt ifs g tt te) (hs : ∀ x, foldedSetIterable iter X.env x = pure x := by intro _; rfl) : PE X (.ListComp elt [⟨tg, iter, ifs, 0⟩] sc pos) (tComp ix wi g tt te) := by
  intro pins s σ H Q I h
  rw [eval_ListComp]
  refine wpAny_comprehension_free (use := none) rfl hs (closureFor_clOf (c.cells I.ok)) c.kind c.nm (thn (hi pins s σ H _ I h) fun xv s₁ h₁ => thn h₁ fun itv s₂ h₂ => ?_)
  obtain ⟨it, fp, tn, J, H2, e, I2, T, st2, f2, q2⟩ := h₂
  subst e
  refine comp_core (RR := fun acc C => compPost (model X.prog X.w) X.A X.xe none (EP X pins σ Q) acc C) (Q := fun D H _ => Q (.ref D) H) hc c B I2 T st2 f2 q2 ?_
  intro D C H' s' ys I' fC ns q
  refine ⟨_, ns.choose_spec, fun h' sb => ⟨.ref D, H', ?_, rfl, q⟩⟩
  obtain ⟨f0, f1, f2, f3, f4, f5⟩ := fC
  exact I'.turned (t' := s'.toks) (fun b o hb e => (sb.2 b hb).trans e) f0 f1 f3 f4 f5
/-- name = [..]: the store comes ahead of the block's end -/
theorem ps_setC {i : Nat} {y : Str} {py spos : Pos} (hc : X.calm = true) (hN : X.N.Nodup) (hy : X.N[i]? = some y) (hl : X.env.scope.names.lookup y = some .local)
    (hsw : swapsWith (.ListComp elt [⟨tg, iter, ifs, 0⟩] sc pos) (some (.Name y py)) spos.line X.env = pure true)
    (c : CompOk X sc N ix) (hi : PI X tg iter wi) (B : Blk X sc N tg elt ifs g tt te) (hs : ∀ x, foldedSetIterable iter X.env x = pure x := by intro _; rfl) :
    PS X (.Assign [.Name y py] (.ListComp elt [⟨tg, iter, ifs, 0⟩] sc pos) spos) (tAsg (tComp ix wi g tt te) (gName i)) := by
  intro pins s σ H D0 I h
  rw [exec_Assign_Name_used _ _ _ _ hsw]
  refine wpAny_bind (wpAny_standAt (wpAny_bind ?_))
  show wpAny _ X.A (do let _ ← comprehension (.ListComp elt [⟨tg, iter, ifs, 0⟩] sc pos) sc X.env _ (newList []) false (eval iter X.env) (some (assign (.Name y py) X.env))) _ _ s
  refine wpAny_bind (wpAny_mono (wpAny_comprehension_free (use := some (assign (.Name y py) X.env)) (Q := fun _ s' => SP X pins D0 .next s') rfl hs (closureFor_clOf (c.cells I.ok)) c.kind c.nm
    (thn (hi pins s σ H _ I h) fun xv s₁ h₁ => thn h₁ fun itv s₂ h₂ => ?_)) (fun _ s' hq => wpAny_pure (wpAny_pure hq)) fun _ _ e => e)
  obtain ⟨it, fp, tn, J, H2, e, I2, T, st2, f2, q2⟩ := h₂
  subst e
  refine comp_core (RR := fun acc C => compPost (model X.prog X.w) X.A X.xe (some (assign (.Name y py) X.env)) (fun _ s' => SP X pins D0 .next s') acc C) (Q := fun D H _ => D0.nx (σ.set i (some (.ref D))) H) hc c B I2 T st2 f2 q2 ?_
  intro D C H' s' ys I' fC ns q
  show wpAny _ X.A (assign (.Name y py) X.env (.ref D)) _ _ _
  obtain ⟨f0, f1, f2, f3, f4, f5⟩ := fC
  refine wpAny_assign_Name (store_ok2 I' hN hy (.inl hl) (v := .ref D) rfl (fun s2 J2 ⟨a, sb, ha⟩ => ?_) (.inr hl))
  obtain ⟨m, hn⟩ := ns
  have neC : C ≠ a := by
    rcases ha with z | z
    · rw [z]; exact f1
    · exact fun e => f4 y a z e.symm
  refine ⟨m, hn.sameBut sb neC, fun h3 sb3 => ⟨_, H', ?_, q⟩⟩
  exact J2.turned (t' := s2.toks) (fun b o hb e => (sb3.2 b hb).trans e) f0 f1 f3 f4 f5
end
end L2


set_option Elab.async false
set_option linter.all false
set_option maxRecDepth 100000
namespace L2
open PySem PySem.Spec PyProof.Rows

/-! ### lists of pairs as tables -/
section
variable {κ : Type} [DecidableEq κ]
noncomputable def valV (kvs : List (κ × V)) (k : κ) : Option V := (kvs.find? fun kv => decide (kv.1 = k)).map (·.2)
/-- in its place, or at the end -/
noncomputable def putK (kvs : List (κ × V)) (k : κ) (v : V) : List (κ × V) :=
  if (kvs.any fun kv => decide (kv.1 = k)) = true then kvs.map (fun kv => if kv.1 = k then (kv.1, v) else kv) else kvs ++ [(k, v)]
noncomputable def dropK (kvs : List (κ × V)) (k : κ) : List (κ × V) := kvs.filter fun kv => decide (kv.1 ≠ k)

theorem valV_pos {p : κ × V} {r : List (κ × V)} {k : κ} (e : p.1 = k) : valV (p :: r) k = some p.2 := by simp [valV, List.find?_cons, e]
theorem valV_neg {p : κ × V} {r : List (κ × V)} {k : κ} (e : ¬ p.1 = k) : valV (p :: r) k = valV r k := by simp [valV, List.find?_cons, e]
theorem valV_any (k : κ) : ∀ kvs : List (κ × V), (kvs.any fun kv => decide (kv.1 = k)) = (valV kvs k).isSome
  | [] => rfl
  | p :: r => by
    rw [List.any_cons]
    by_cases e : p.1 = k
    · simp only [valV_pos e, decide_eq_true e, Bool.true_or, Option.isSome_some]
    · rw [valV_neg e, decide_eq_false e, Bool.false_or]; exact valV_any k r
theorem valV_map (k j : κ) (y : V) : ∀ kvs : List (κ × V), valV (kvs.map fun kv => if kv.1 = k then (kv.1, y) else kv) j = (valV kvs j).map fun x => if j = k then y else x
  | [] => rfl
  | p :: r => by
    have ih := valV_map k j y r
    rw [List.map_cons]
    by_cases h : p.1 = k
    · rw [if_pos h]
      by_cases e : p.1 = j
      · rw [valV_pos (p := (p.1, y)) e, valV_pos e, Option.map_some, if_pos (e.symm.trans h)]
      · rw [valV_neg (p := (p.1, y)) e, valV_neg e, ih]
    · rw [if_neg h]
      by_cases e : p.1 = j
      · rw [valV_pos (p := p) e, valV_pos e, Option.map_some, if_neg (fun z => h (e.trans z))]
      · rw [valV_neg (p := p) e, valV_neg e, ih]
theorem valV_snoc (k j : κ) (y : V) : ∀ kvs : List (κ × V), valV kvs k = none → valV (kvs ++ [(k, y)]) j = if j = k then some y else valV kvs j
  | [], _ => by
    by_cases e : k = j
    · rw [if_pos e.symm]; exact valV_pos (p := (k, y)) e
    · rw [if_neg (fun z => e z.symm)]; exact valV_neg (p := (k, y)) e
  | p :: r, hn => by
    rw [List.cons_append]
    have hk : ¬ p.1 = k := fun z => by rw [valV_pos z] at hn; cases hn
    rw [valV_neg hk] at hn
    have ih := valV_snoc k j y r hn
    by_cases e : p.1 = j
    · rw [valV_pos e, valV_pos e, if_neg (fun z => hk (e.trans z))]
    · rw [valV_neg e, valV_neg e, ih]
theorem valV_put (kvs : List (κ × V)) (k j : κ) (y : V) : valV (putK kvs k y) j = if j = k then some y else valV kvs j := by
  unfold putK
  by_cases a : (kvs.any fun kv => decide (kv.1 = k)) = true
  · rw [if_pos a, valV_map]
    rw [valV_any] at a
    by_cases e : j = k
    · obtain ⟨x, hx⟩ := Option.isSome_iff_exists.mp a
      rw [if_pos e, e, hx, Option.map_some, if_pos rfl]
    · rw [if_neg e]
      cases valV kvs j with
      | none => rfl
      | some x => rw [Option.map_some, if_neg e]
  · rw [if_neg a]
    refine valV_snoc k j y kvs ?_
    rw [valV_any] at a
    cases q : valV kvs k with
    | none => rfl
    | some x => rw [q] at a; exact (a rfl).elim
theorem length_putK (kvs : List (κ × V)) (k : κ) (v : V) : (putK kvs k v).length ≤ kvs.length + 1 := by
  unfold putK
  split
  · rw [List.length_map]; omega
  · rw [List.length_append, List.length_cons, List.length_nil]; omega
theorem putK_new {kvs : List (κ × V)} {k : κ} (v : V) (h : valV kvs k = none) : putK kvs k v = kvs ++ [(k, v)] := by
  unfold putK
  rw [valV_any, h]
  exact if_neg (by decide)

theorem RelO.isSome_eq {o : Option V} {u : Option Value} (r : RelO o u) : o.isSome = u.isSome := by
  cases o with
  | none => cases u with
    | none => rfl
    | some _ => exact (show False from r).elim
  | some _ => cases u with
    | none => exact (show False from r).elim
    | some _ => rfl
theorem RelO.getD {o : Option V} {u : Option Value} {d : V} {d' : Value} (r : RelO o u) (rd : RelV d d') : RelV (o.getD d) (u.getD d') := by
  cases o with
  | none => cases u with
    | none => exact rd
    | some _ => exact (show False from r).elim
  | some _ => cases u with
    | none => exact (show False from r).elim
    | some _ => exact r

/-- raw tables of the same keys -/
theorem KV.val {kvs : List (κ × V)} {vs : List (κ × Value)} (r : KV kvs vs) (k : κ) : RelO (valV kvs k) (valueAt vs k) := by
  unfold KV at r
  induction r with
  | nil => exact True.intro
  | @cons p q ps qs h t ih =>
    obtain ⟨h1, h2⟩ := h
    by_cases e : p.1 = k
    · have e' : q.1 = k := h1.symm.trans e
      have b : valueAt (q :: qs) k = some q.2 := by simp [valueAt, List.find?_cons, e']
      rw [valV_pos e, b]; exact h2
    · have e' : ¬ q.1 = k := fun z => e (h1.trans z)
      have b : valueAt (q :: qs) k = valueAt qs k := by simp [valueAt, List.find?_cons, e']
      rw [valV_neg e, b]; exact ih
theorem KV.any {kvs : List (κ × V)} {vs : List (κ × Value)} (r : KV kvs vs) (k : κ) : (kvs.any fun kv => decide (kv.1 = k)) = vs.any fun kv => decide (kv.1 = k) := by
  unfold KV at r
  induction r with
  | nil => rfl
  | cons h t ih => rw [List.any_cons, List.any_cons, ih, h.1]
theorem KV.repl {kvs : List (κ × V)} {vs : List (κ × Value)} (r : KV kvs vs) (k : κ) {y : V} {u : Value} (ry : RelV y u) :
    KV (kvs.map fun kv => if kv.1 = k then (kv.1, y) else kv) (vs.map fun kv => if kv.1 = k then (kv.1, u) else kv) := by
  unfold KV at r ⊢
  induction r with
  | nil => exact .nil
  | @cons p q ps qs h t ih =>
    rw [List.map_cons, List.map_cons]
    refine .cons ?_ ih
    obtain ⟨h1, h2⟩ := h
    by_cases e : p.1 = k
    · rw [if_pos e, if_pos (h1.symm.trans e)]; exact ⟨h1, ry⟩
    · rw [if_neg e, if_neg (fun z => e (h1.trans z))]; exact ⟨h1, h2⟩
theorem KV.put {kvs : List (κ × V)} {vs : List (κ × Value)} (r : KV kvs vs) (k : κ) {y : V} {u : Value} (ry : RelV y u) : KV (putK kvs k y) (stored vs k u) := by
  unfold putK stored
  rw [r.any k]
  by_cases e : (vs.any fun kv => decide (kv.1 = k)) = true
  · rw [if_pos e, if_pos e]; exact r.repl k ry
  · rw [if_neg e, if_neg e]; exact Paired.snoc r ⟨rfl, ry⟩
theorem KV.drop {kvs : List (κ × V)} {vs : List (κ × Value)} (r : KV kvs vs) (k : κ) : KV (dropK kvs k) (without vs k) := by
  unfold KV at r ⊢
  unfold dropK without
  induction r with
  | nil => exact .nil
  | @cons p q ps qs h t ih =>
    obtain ⟨h1, h2⟩ := h
    rw [List.filter_cons, List.filter_cons]
    by_cases e : p.1 = k
    · have a : ¬ decide (p.1 ≠ k) = true := by simp [e]
      have b : ¬ decide (q.1 ≠ k) = true := by simp [h1.symm.trans e]
      rw [if_neg a, if_neg b]; exact ih
    · have e' : ¬ q.1 = k := fun z => e (h1.trans z)
      have a : decide (p.1 ≠ k) = true := by simp [e]
      have b : decide (q.1 ≠ k) = true := by simp [e']
      rw [if_pos a, if_pos b]; exact .cons ⟨h1, h2⟩ ih
theorem KV.keys {kvs : List (κ × V)} {vs : List (κ × Value)} (r : KV kvs vs) : kvs.map (·.1) = vs.map (·.1) := by
  unfold KV at r
  induction r with
  | nil => rfl
  | cons h t ih => rw [List.map_cons, List.map_cons, ih, h.1]
theorem KV.length {kvs : List (κ × V)} {vs : List (κ × Value)} (r : KV kvs vs) : kvs.length = vs.length := Paired.length r
end


/-! ### a tracked dict, its keys ints and texts or tuples of these -/
theorem kV_is {P : Program} {w : World} {k : Key} {u : Value} (r : RelV (kV k) u) : (mixKind P w).is k u = true := by
  cases k with
  | inl i => obtain ⟨t, e⟩ := (show ∃ t, u = Value.int i t from r); subst e; exact mixKind_int P w i t
  | inr x => obtain ⟨t, e⟩ := (show ∃ t, u = Value.str x t from r); subst e; exact mixKind_str P w x t
theorem items_are {P : Program} {w : World} : ∀ {ks : List Key} {us : List Value}, Vals (ks.map kV) us → ItemsAre (mixKind P w) ks us
  | [], _, r => by rw [List.map_nil] at r; cases r; exact .nil
  | k :: ks, _, r => by
    rw [List.map_cons] at r
    cases r with
    | cons h t => exact .cons (kV_is h) (items_are t)

/-- raw entries of a dict with tuple keys -/
noncomputable abbrev KT (H : Hp) : List (List Key × V) → List (List Key × Addr × Value) → Prop := Paired fun p q => p.1 = q.1 ∧ H q.2.1 = some (.tup (p.1.map kV)) ∧ RelV p.2 q.2.2
theorem KT.val {H : Hp} {kvs : List (List Key × V)} {xs : List (List Key × Addr × Value)} (r : KT H kvs xs) (k : List Key) : RelO (valV kvs k) ((atKey xs k).map (·.2)) := by
  induction r with
  | nil => exact True.intro
  | @cons p q ps qs h t ih =>
    obtain ⟨h1, _, h2⟩ := h
    by_cases e : p.1 = k
    · have e' : q.1 = k := h1.symm.trans e
      have b : atKey (q :: qs) k = some q.2 := by simp [atKey, List.find?_cons, e']
      rw [valV_pos e, b]; exact h2
    · have e' : ¬ q.1 = k := fun z => e (h1.trans z)
      have b : atKey (q :: qs) k = atKey qs k := by simp [atKey, List.find?_cons, e']
      rw [valV_neg e, b]; exact ih
theorem KT.repl {H : Hp} {kvs : List (List Key × V)} {xs : List (List Key × Addr × Value)} (r : KT H kvs xs) (k : List Key) {y : V} {u : Value} (ry : RelV y u) :
    KT H (kvs.map fun kv => if kv.1 = k then (kv.1, y) else kv) (xs.map (putAt k u)) := by
  induction r with
  | nil => exact .nil
  | @cons p q ps qs h t ih =>
    rw [List.map_cons, List.map_cons]
    refine .cons ?_ ih
    obtain ⟨h1, h2, h3⟩ := h
    unfold putAt
    by_cases e : p.1 = k
    · rw [if_pos e, if_pos (h1.symm.trans e)]; exact ⟨h1, h2, ry⟩
    · rw [if_neg e, if_neg (fun z => e (h1.trans z))]; exact ⟨h1, h2, h3⟩
theorem KT.put {H : Hp} {kvs : List (List Key × V)} {xs : List (List Key × Addr × Value)} (r : KT H kvs xs) (k : List Key) {b : Addr} {y : V} {u : Value} (hb : H b = some (.tup (k.map kV))) (ry : RelV y u) :
    KT H (putK kvs k y) (storedH xs k b u) := by
  have e : (kvs.any fun kv => decide (kv.1 = k)) = (atKey xs k).isSome := by
    rw [valV_any, (r.val k).isSome_eq, Option.isSome_map]
  unfold putK storedH
  rw [e]
  by_cases q : (atKey xs k).isSome = true
  · rw [if_pos q, if_pos q]; exact r.repl k ry
  · rw [if_neg q, if_neg q]; exact Paired.snoc r ⟨rfl, hb, ry⟩
theorem KT.keeps {H H' : Hp} {kvs : List (List Key × V)} {xs : List (List Key × Addr × Value)} (r : KT H kvs xs) (ht : ∀ b ys, H b = some (.tup ys) → H' b = some (.tup ys)) : KT H' kvs xs :=
  Paired.mapP r fun _ _ z => ⟨z.1, ht _ _ z.2.1, z.2.2⟩

section
variable {P : Program} {w : World} {H : Hp} {h : Heap} {a : Addr}
theorem rd_of {u : HO} (ok : HOk P w H h) (e : Rd H a u) : ObjOk P w H h a u := e.ok ok
theorem dk_rd {kvs : List (Key × V)} (ok : HOk P w H h) (e : Rd H a (.dK kvs)) : kvs.length ≤ sizeLine ∧ (a == sysModules) = false ∧ ∃ vs, KV kvs vs ∧ h.DictOf (mixKind P w) a vs :=
  show ObjOk P w H h a (.dK kvs) from rd_of ok e
theorem dk_of {kvs : List (Key × V)} (ok : HOk P w H h) (e : H a = some (.dK kvs)) : kvs.length ≤ sizeLine ∧ (a == sysModules) = false ∧ ∃ vs, KV kvs vs ∧ h.DictOf (mixKind P w) a vs := dk_rd ok (.inl e)
/-- a tracked tuple of ints and texts is a key -/
theorem key_of {ks : List Key} (ok : HOk P w H h) (e : H a = some (.tup (ks.map kV))) : (tupleKind (mixKind P w)).is h ks a := by
  obtain ⟨_, its, r, o, h1, h2, n, h3⟩ := (show ObjOk P w H h a (.tup (ks.map kV)) from ok a _ e)
  exact ⟨o, its.toArray, n, h1, h2, h3, by simpa using items_are r⟩
theorem dt_rd {kvs : List (List Key × V)} (ok : HOk P w H h) (e : Rd H a (.dT kvs)) : kvs.length ≤ sizeLine ∧ (a == sysModules) = false ∧
    ∃ xs, KT H kvs xs ∧ h.DictOfH (tupleKind (mixKind P w)) a xs := by
  obtain ⟨z, y, xs, r, o, es, ep, h1, h2, h3, h4, h5⟩ := (show ObjOk P w H h a (.dT kvs) from rd_of ok e)
  refine ⟨z, y, xs, r, o, es, ep, h1, h2, h3, h4, fun x hx => ?_, h5⟩
  have all : ∀ {l : List (List Key × V)} {m : List (List Key × Addr × Value)}, KT H l m → ∀ x ∈ m, (tupleKind (mixKind P w)).is h x.1 x.2.1 := by
    intro l m q
    induction q with
    | nil => intro x hx; exact nomatch hx
    | @cons p q ps qs hq t ih =>
      intro x hx
      rcases List.mem_cons.mp hx with e | hx
      · subst e
        exact key_of ok (by rw [← hq.1]; exact hq.2.1)
      · exact ih x hx
  exact all r x hx
theorem dt_of {kvs : List (List Key × V)} (ok : HOk P w H h) (e : H a = some (.dT kvs)) : kvs.length ≤ sizeLine ∧ (a == sysModules) = false ∧
    ∃ xs, KT H kvs xs ∧ h.DictOfH (tupleKind (mixKind P w)) a xs := dt_rd ok (.inl e)
end

/-- what the dict at a holds at the key y -/
noncomputable def DGet (H : Hp) (a : Addr) (y : V) (r : Option V) : Prop :=
  (∃ kvs k, Rd H a (.dK kvs) ∧ y = kV k ∧ r = valV kvs k) ∨ ∃ kvs k b, Rd H a (.dT kvs) ∧ y = .ref b ∧ H b = some (.tup (k.map kV)) ∧ r = valV kvs k
/-- the heap behind a[y] = v -/
noncomputable def DPut (H : Hp) (a : Addr) (y v : V) (H' : Hp) : Prop :=
  (∃ kvs k, H a = some (.dK kvs) ∧ y = kV k ∧ kvs.length < sizeLine ∧ H' = upd H a (.dK (putK kvs k v))) ∨
  ∃ kvs k b, H a = some (.dT kvs) ∧ y = .ref b ∧ H b = some (.tup (k.map kV)) ∧ kvs.length < sizeLine ∧ H' = upd H a (.dT (putK kvs k v))
theorem DGet.k {H : Hp} {a : Addr} {kvs : List (Key × V)} {k : Key} (e : H a = some (.dK kvs)) : DGet H a (kV k) (valV kvs k) := .inl ⟨kvs, k, .inl e, rfl, rfl⟩
theorem DGet.t {H : Hp} {a b : Addr} {kvs : List (List Key × V)} {k : List Key} (e : H a = some (.dT kvs)) (eb : H b = some (.tup (k.map kV))) : DGet H a (.ref b) (valV kvs k) := .inr ⟨kvs, k, b, .inl e, rfl, eb, rfl⟩
theorem DPut.k {H : Hp} {a : Addr} {kvs : List (Key × V)} {k : Key} {v : V} (e : H a = some (.dK kvs)) (hl : kvs.length < sizeLine) : DPut H a (kV k) v (upd H a (.dK (putK kvs k v))) := .inl ⟨kvs, k, e, rfl, hl, rfl⟩
theorem DPut.t {H : Hp} {a b : Addr} {kvs : List (List Key × V)} {k : List Key} {v : V} (e : H a = some (.dT kvs)) (eb : H b = some (.tup (k.map kV))) (hl : kvs.length < sizeLine) :
    DPut H a (.ref b) v (upd H a (.dT (putK kvs k v))) := .inr ⟨kvs, k, b, e, rfl, eb, hl, rfl⟩


section
variable {X : Cx} {pins : List (Addr × Obj)} {σ : St} {H : Hp} {s : Shared} {a : Addr} {y v : V} {u r : Value} {o : Option V} {A : Around} {E : Value → Shared → Prop}

theorem Inv.big (I : Inv X pins σ H s) : sysModules < s.heap.objs.size := by
  have h : mainGlobals < s.heap.objs.size := (I.mod.glob.keeps I.bk).lt
  exact Nat.lt_trans (by decide) h

/-- d[y], there -/
theorem d_getItem {Q : Value → Shared → Prop} (hu : A.units + 1 < cLine) (I : Inv X pins σ H s) (g : DGet H a y (some v)) (ry : RelV y u) (h : ∀ w' s', Inv X pins σ H s' → RelV v w' → Q w' s') :
    wpAny (model X.prog X.w) A (getItem (.ref a) u) Q E s := by
  rcases g with ⟨kvs, k, e, ey, l⟩ | ⟨kvs, k, b, e, ey, eb, l⟩
  · subst ey
    obtain ⟨z, hd, vs, rel, dd⟩ := dk_rd I.hok e
    obtain ⟨w', hw, rw'⟩ := RelO.some_of (v := v) (o := valueAt vs k) (by rw [l]; exact rel.val k)
    exact wpAny_getItem_of (kV_is ry) dd.mapOf hw (h w' _ (I.tok _) rw')
  · subst ey
    cases (show u = Value.ref b from ry)
    obtain ⟨z, hd, xs, rel, dd⟩ := dt_rd I.hok e
    obtain ⟨w', hw, rw'⟩ := RelO.some_of (v := v) (o := (atKey xs k).map (·.2)) (by rw [l]; exact rel.val k)
    obtain ⟨p, hp, hp2⟩ := Option.map_eq_some_iff.mp hw
    refine wpAny_getItem_heap (tupleKind_room_in1 hu) (key_of I.hok eb) dd hp ?_
    rw [hp2]
    exact h w' _ (I.tok _) rw'
/-- a dict's object is replaced -/
theorem d_write {h' : Heap} {t' : Nat} {ob : HO} (I : Inv X pins σ H s) (mu : Mut (H a)) (hs : Heap.SameBut a s.heap h') (he : ∃ q, h'.get? a = some q) (new : ObjOk X.prog X.w (upd H a ob) h' a ob) :
    Inv X pins σ (upd H a ob) { s with heap := h', toks := t' } :=
  I.write (x := a) (e := a) mu (.inl rfl) (fun b q hb z => (hs.2 b hb).trans z) he new
theorem dk_new {P : Program} {w : World} {H' : Hp} {h' : Heap} {kvs : List (Key × V)} {vs : List (Key × Value)} (z : kvs.length ≤ sizeLine) (hd : (a == sysModules) = false) (rel : KV kvs vs) (dd : h'.DictOf (mixKind P w) a vs) :
    ObjOk P w H' h' a (.dK kvs) := ⟨z, hd, vs, rel, dd⟩
/-- d[y] = v -/
theorem d_setItem {H' : Hp} {Q : Unit → Shared → Prop} (hu : A.units + 1 < cLine) (I : Inv X pins σ H s) (g : DPut H a y v H') (ry : RelV y u) (rv : RelV v r) (h : ∀ s', Inv X pins σ H' s' → Q () s') :
    wpAny (model X.prog X.w) A (setItem (.ref a) u r) Q E s := by
  rcases g with ⟨kvs, k, e, ey, l, eH⟩ | ⟨kvs, k, b, e, ey, eb, l, eH⟩
  · subst ey eH
    obtain ⟨z, hd, vs, rel, dd⟩ := dk_of I.hok e
    have hz : vs.length ≤ sizeLine := by rw [← rel.length]; exact z
    have hl : (putK kvs k v).length ≤ sizeLine := by have := length_putK kvs k v; omega
    refine wpAny_setItem_pairs (hsz := hz) (kV_is ry) dd fun h' dd' hs => h _ ?_
    have he : ∃ q, h'.get? a = some q := let ⟨q, _, _, hq, _⟩ := dd'; ⟨q, hq⟩
    exact d_write I (by rw [e]; exact True.intro) hs he (dk_new hl hd (rel.put k rv) dd')
  · subst ey eH
    cases (show u = Value.ref b from ry)
    obtain ⟨z, hd, xs, rel, dd⟩ := dt_of I.hok e
    have hz : xs.length ≤ sizeLine := by rw [← Paired.length rel]; exact z
    have hl : (putK kvs k v).length ≤ sizeLine := by have := length_putK kvs k v; omega
    refine wpAny_setItem_heap (hsz := hz) (tupleKind_room_in1 hu) (key_of I.hok eb) dd fun h' dd' hs => h _ ?_
    obtain ⟨q, es, ep, hq, h2, h3, h4, _, h5⟩ := dd'
    refine d_write I (by rw [e]; exact True.intro) hs ⟨q, hq⟩ ⟨hl, hd, _, (rel.put k eb rv).keeps fun c ys ec => ?_, q, es, ep, hq, h2, h3, h4, h5⟩
    rw [upd_ne (ne_of ec e (fun z => nomatch z))]
    exact ec
end

section
variable {X : Cx} {pins : List (Addr × Obj)} {σ : St} {H : Hp} {s : Shared} {a : Addr} {kvs : List (Key × V)} {k : Key} {u : Value} {A : Around} {E : Value → Shared → Prop}
end


/-! ### readings and rules -/
/-- the element of a subscription, not a slice -/
noncomputable def NoSl (i : Expr) : Prop := ∀ ov iv, subscripted i false ov iv = operate [ov, iv] (getItem ov iv)
theorem subD_of {prog : Program} {w : World} {A : Around} {E : Value → Shared → Prop} {s : Shared} {env : Env} {value slice : Expr} {pos : Pos} {T id : String} {Q : Value → Shared → Prop}
    (hl : typeLookup (.type T) "__getitem__" = pure (some (.builtin id))) (hs : NoSl slice)
    (h : wpAny (model prog w) A (eval value env) (fun o s₁ => wpAny (model prog w) A (eval slice env) (fun i s₂ => s₂.TypeIs o T ∧ wpAny (model prog w) A (getItem o i) Q E s₂) E s₁) E s) :
    wpAny (model prog w) A (eval (.Subscript value slice pos) env) Q E s := by
  refine Subscript_ (wpAny_mono h (fun o s₁ h₁ => wpAny_mono h₁ (fun i s₂ h₂ => ?_) fun _ _ x => x) fun _ _ x => x)
  obtain ⟨hT, h₂⟩ := h₂
  unfold subscriptTail
  refine wpAny_bind ?_
  rw [getitemInPython_of_ne hT.not_modules]
  refine wpAny_bind (wpAny_specialOf hT hl ?_)
  have fin : wpAny (model prog w) A (subscripted slice false o i) (fun r s₃ => wpAny (model prog w) A (letTemporaryGo value o r >>= fun _ => pure r) Q E s₃) E s₂ := by
    rw [hs o i]
    exact wpAny_operating (wpAny_mono h₂ (fun r s₃ h₃ => wpAny_bind (wpAny_letTemporaryGo (wpAny_pure h₃))) fun _ _ x => x)
  first
    | exact wpAny_pure (wpAny_bind fin)
    | exact wpAny_bind (wpAny_pure (wpAny_bind fin))
    | exact wpAny_bind fin

theorem dict_typeIs {X : Cx} {pins : List (Addr × Obj)} {σ : St} {H : Hp} {s : Shared} {a : Addr} {y : V} {o : Option V} (I : Inv X pins σ H s) (g : DGet H a y o) : s.TypeIs (.ref a) "dict" := by
  rcases g with ⟨kvs, k, e, _, _⟩ | ⟨kvs, k, b, e, _, _, _⟩
  · obtain ⟨_, _, vs, _, dd⟩ := dk_rd I.hok e
    exact dd.typeIs
  · obtain ⟨_, _, xs, _, dd⟩ := dt_rd I.hok e
    exact dd.typeIs
/-- d[y] -/
inductive rDGet (x y : V) (H : Hp) (Q : VK) : Prop
  | mk (a : Addr) (v : V) (h0 : x = .ref a) (h1 : DGet H a y (some v)) (h2 : Q v H) : rDGet x y H Q
noncomputable def tDGet (td ty : TE) : TE := fun σ H Q => td σ H fun x H1 => ty σ H1 fun y H2 => rDGet x y H2 Q
/-- d[y] = v -/
noncomputable def sDPut (td ty tv : TE) : TS := fun D σ H => tv σ H fun v H1 => td σ H1 fun x H2 => ty σ H2 fun y H3 => ∃ a H4, x = .ref a ∧ DPut H3 a y v H4 ∧ D.nx σ H4
section
variable {X : Cx} {o i e value : Expr} {pos pos' tpos : Pos} {td ty tv : TE}
theorem pe_dget (hu : X.A.units + 1 < cLine) (ho : PE X o td) (hi : PE X i ty) (hs : NoSl i) : PE X (.Subscript o i pos) (tDGet td ty) := by
  intro pins s σ H Q I h
  refine subD_of PySem.F.slot_dict_getitem.lookup hs (thn (ho pins s σ H _ I h) fun u s1 ⟨x, H1, I1, rx, q1⟩ => thn (hi pins s1 σ H1 _ I1 q1) fun iv s2 ⟨y, H2, I2, ry, a, v, ex, g, q2⟩ => ?_)
  subst ex
  obtain rfl : u = Value.ref a := rx
  exact ⟨dict_typeIs I2 g, d_getItem hu I2 g ry fun w' s3 I3 rw' => ⟨v, H2, I3, rw', q2⟩⟩
theorem ps_dput (hu : X.A.units + 1 < cLine) (ho : PE X o td) (hi : PE X i ty) (hv : PE X value tv) (hs : swapsWith value (some (.Subscript o i pos')) pos.line X.env = pure false) :
    PS X (.Assign [.Subscript o i pos'] value pos) (sDPut td ty tv) := by
  intro pins s σ H D I h
  refine wpAny_Assign_Subscript (thn (hv pins s σ H _ I h) fun r s1 ⟨v, H1, I1, rv, q1⟩ => thn (ho pins s1 σ H1 _ I1 q1) fun u s2 ⟨x, H2, I2, rx, q2⟩ => thn (hi pins s2 σ H2 _ I2 q2) fun iv s3 ⟨y, H3, I3, ry, a, H4, ex, g, q3⟩ => ?_) hs
  subst ex
  obtain rfl : u = Value.ref a := rx
  exact d_setItem hu I3 g ry rv fun s4 I4 => ⟨σ, H4, I4, q3⟩
end


/-! ### displays -/
theorem dk_empty {P : Program} {w : World} {H : Hp} (h : Heap) (hb : sysModules < h.objs.size) : ObjOk P w H (h.push { cls := .type "dict", data := .dict #[] }) h.objs.size (.dK []) :=
  ⟨Nat.zero_le _, beq_eq_false_iff_ne.mpr (Ne.symm (Nat.ne_of_lt hb)), [], .nil, Heap.DictOf.new h⟩
theorem dt_empty {P : Program} {w : World} {H : Hp} (h : Heap) (hb : sysModules < h.objs.size) : ObjOk P w H (h.push { cls := .type "dict", data := .dict #[] }) h.objs.size (.dT []) :=
  ⟨Nat.zero_le _, beq_eq_false_iff_ne.mpr (Ne.symm (Nat.ne_of_lt hb)), [], .nil, _, #[], 0, Heap.get?_push_size _ rfl, ⟨rfl, rfl, rfl⟩, rfl, rfl, List.nodup_nil⟩
noncomputable def tDNewT : TE := fun _ H Q => ∀ p, H p = none → Q (.ref p) (upd H p (.dT []))
section
variable {X : Cx} {pos : Pos}
theorem pe_dnewT : PE X (.Dict [] [] pos) tDNewT := fun pins s σ H Q I h =>
  wpAny_Dict_empty ⟨.ref s.heap.objs.size, _, I.laid (a := s.heap.objs.size) (o := .dT []) (t' := s.toks) (fun _ _ q => Heap.get?_push_of_some _ q) (Nat.le_refl _) (dt_empty s.heap I.big), rfl, h _ (I.hok.fresh (Nat.le_refl _))⟩
end

/-- the pairs of a display, from the left -/
noncomputable def tPairs : List (TE × TE) → St → Hp → (List (V × V) → Hp → Prop) → Prop
  | [], _, H, Q => Q [] H
  | (tk, tv) :: r, σ, H, Q => tk σ H fun x H1 => tv σ H1 fun y H2 => tPairs r σ H2 fun ps H3 => Q ((x, y) :: ps) H3
noncomputable abbrev VV : List (V × V) → List (Value × Value) → Prop := Paired fun p q => RelV p.1 q.1 ∧ RelV p.2 q.2
noncomputable def PPs (X : Cx) (pos : Pos) (keys : List (Option Expr)) (values : List Expr) (trs : List (TE × TE)) : Prop :=
  ∀ (pins : List (Addr × Obj)) (s : Shared) (σ : St) (H : Hp) (Q : List (V × V) → Hp → Prop), Inv X pins σ H s → tPairs trs σ H Q →
    wpAny (model X.prog X.w) X.A (evalPairs (pairTrees keys values X.env pos)) (fun vs s' => ∃ ps H', Inv X pins σ H' s' ∧ VV ps vs ∧ Q ps H') X.xe s
theorem pps_nil {X : Cx} {pos : Pos} : PPs X pos [] [] [] := fun pins s σ H Q I h => pairTrees_nil_walk ⟨[], H, I, .nil, h⟩
theorem pps_cons {X : Cx} {pos : Pos} {k v : Expr} {ks : List (Option Expr)} {vs : List Expr} {tk tv : TE} {trs : List (TE × TE)} (hk : PE X k tk) (hv : PE X v tv) (hr : PPs X pos ks vs trs) :
    PPs X pos (some k :: ks) (v :: vs) ((tk, tv) :: trs) := fun pins s σ H Q I h =>
  pairTrees_cons_walk (thn (hk pins s σ H _ I h) fun u s1 ⟨x, H1, I1, rx, q1⟩ => thn (hv pins s1 σ H1 _ I1 q1) fun w2 s2 ⟨y, H2, I2, ry, q2⟩ =>
    thn (hr pins s2 σ H2 _ I2 q2) fun ws s3 ⟨ps, H3, I3, rel, q3⟩ => ⟨(x, y) :: ps, H3, I3, .cons ⟨rx, ry⟩ rel, q3⟩)

noncomputable def mergeK (kvs more : List (Key × V)) : List (Key × V) := more.foldl (fun acc kv => putK acc kv.1 kv.2) kvs
theorem KV.merge : ∀ {more : List (Key × V)} {rs : List (Key × Value)} {kvs : List (Key × V)} {vs : List (Key × Value)}, KV more rs → KV kvs vs → KV (mergeK kvs more) (merged vs rs) := by
  intro more rs kvs vs r
  unfold KV at r
  induction r generalizing kvs vs with
  | nil => intro q; exact q
  | @cons p q ps qs h t ih =>
    intro r0
    have e : KV (putK kvs p.1 p.2) (stored vs q.1 q.2) := by
      have := r0.put p.1 h.2
      rw [← h.1]; exact this
    exact ih e
theorem length_mergeK : ∀ (more kvs : List (Key × V)), (mergeK kvs more).length ≤ kvs.length + more.length
  | [], kvs => by show kvs.length ≤ kvs.length + 0; omega
  | p :: r, kvs => by
    have h1 := length_mergeK r (putK kvs p.1 p.2)
    have h2 := length_putK kvs p.1 p.2
    show (mergeK (putK kvs p.1 p.2) r).length ≤ _
    rw [List.length_cons]; omega
theorem carries_of {P : Program} {w : World} : ∀ {kvs : List (Key × V)} {ws : List (Value × Value)}, VV (kvs.map fun kv => (kV kv.1, kv.2)) ws → ∃ rs, Carries (mixKind P w) ws rs ∧ KV kvs rs
  | [], _, r => by rw [List.map_nil] at r; cases r; exact ⟨[], True.intro, .nil⟩
  | p :: kvs, _, r => by
    rw [List.map_cons] at r
    cases r with
    | @cons a b as bs h t =>
      obtain ⟨rs, c, q⟩ := carries_of (P := P) (w := w) t
      obtain ⟨b1, b2⟩ := b
      exact ⟨(p.1, b2) :: rs, ⟨kV_is h.1, rfl, c⟩, .cons ⟨rfl, h.2⟩ q⟩
/-- {k: v, ..} with keys ints and texts; the new dict stands empty while the pairs are made -/
noncomputable def tDisp (trs : List (TE × TE)) : TE := fun σ H Q => ∀ p, H p = none → tPairs trs σ (upd H p (.dK [])) fun ps H2 => H2 p = some (.dK []) ∧ ∃ kvs : List (Key × V), ps = kvs.map (fun kv => (kV kv.1, kv.2)) ∧ kvs.length ≤ 15 ∧ Q (.ref p) (upd H2 p (.dK (mergeK [] kvs)))
theorem pe_disp {X : Cx} {pos : Pos} {keys : List (Option Expr)} {values : List Expr} {trs : List (TE × TE)} (h : PPs X pos keys values trs) (hall : keys.all (·.isSome) = true) (hl : keys.length = values.length) (h0 : keys ≠ [])
    (h15 : keys.length ≤ 15) : PE X (.Dict keys values pos) (tDisp trs) := by
  intro pins s σ H Q I q
  have hn := I.hok.fresh (Nat.le_refl s.heap.objs.size)
  have I1 := I.laid (a := s.heap.objs.size) (o := .dK []) (h' := s.heap.push { cls := .type "dict", data := .dict #[] }) (t' := s.toks) (fun _ _ q => Heap.get?_push_of_some _ q) (Nat.le_refl _) (dk_empty s.heap I.big)
  refine wpAny_Dict_walk (knd := mixKind X.prog X.w) hall hl h0 h15 (thn (h pins _ σ _ _ I1 (q _ hn)) fun ws s2 ⟨ps, H2, I2, rel, e, kvs, ep, lk, q2⟩ => ?_)
  subst ep
  obtain ⟨rs, c, rk⟩ := carries_of (P := X.prog) (w := X.w) rel
  obtain ⟨z, hd, vs0, r0, dd⟩ := dk_of I2.hok e
  cases r0
  refine ⟨rs, c, dd, fun h' dd' hs => ⟨.ref s.heap.objs.size, _, ?_, rfl, q2⟩⟩
  have hz : (mergeK [] kvs).length ≤ sizeLine := by
    have h1 := length_mergeK kvs []
    rw [List.length_nil] at h1
    rw [sizeLine_eq]; omega
  have he : ∃ q, h'.get? s.heap.objs.size = some q := let ⟨q, _, _, hq, _⟩ := dd'; ⟨q, hq⟩
  exact d_write I2 (by rw [e]; exact True.intro) hs he (dk_new hz hd (rk.merge .nil) dd')


/-! ### methods -/
/-- a method call o.m(e) of a built-in, with one argument: what must be seen of the text -/
structure M1 (X : Cx) (o : Expr) (m : Str) (apos : Pos) (e : Expr) (cpos : Pos) : Prop where
  base : attributeBase o m X.env (eval o X.env) = eval o X.env
  few : ((backTo cpos (starEach [e] X.env)).all (fun x => !x.1) && (backToKw cpos (keywordEach [] X.env)).all (fun x => x.1.isSome)
    && decide (([e] : List Expr).length + ([] : List Keyword).length + (if ([] : List Keyword).isEmpty then 0 else 1) < 30)) = true
  line : (apos.endLine == cpos.line) = true
  trees : backTo cpos (starEach [e] X.env) = [(false, eval e X.env)]
structure M2 (X : Cx) (o : Expr) (m : Str) (apos : Pos) (e f : Expr) (cpos : Pos) : Prop where
  base : attributeBase o m X.env (eval o X.env) = eval o X.env
  few : ((backTo cpos (starEach [e, f] X.env)).all (fun x => !x.1) && (backToKw cpos (keywordEach [] X.env)).all (fun x => x.1.isSome)
    && decide (([e, f] : List Expr).length + ([] : List Keyword).length + (if ([] : List Keyword).isEmpty then 0 else 1) < 30)) = true
  line : (apos.endLine == cpos.line) = true
  trees : backTo cpos (starEach [e, f] X.env) = [(false, eval e X.env), (false, eval f X.env)]

/-- a is a dict, whatever its keys -/
noncomputable def IsD (H : Hp) (a : Addr) : Prop := (∃ kvs, Rd H a (.dK kvs)) ∨ ∃ kvs, Rd H a (.dT kvs)
theorem isD_at {X : Cx} {pins : List (Addr × Obj)} {σ : St} {H : Hp} {s : Shared} {a : Addr} (I : Inv X pins σ H s) (d : IsD H a) :
    s.TypeIs (.ref a) "dict" ∧ (∀ b, Value.ref a = .ref b → ∃ ob, s.heap.get? b = some ob ∧ ob.dict = none) ∧ (a == sysModules) = false := by
  rcases d with ⟨kvs, e⟩ | ⟨kvs, e⟩
  · obtain ⟨_, hd, vs, _, dd⟩ := dk_rd I.hok e
    refine ⟨dd.typeIs, fun b q => ?_, hd⟩
    cases q
    obtain ⟨ob, _, _, h1, h2, _⟩ := dd
    exact ⟨ob, h1, h2.2.1⟩
  · obtain ⟨_, hd, xs, _, dd⟩ := dt_rd I.hok e
    refine ⟨dd.typeIs, fun b q => ?_, hd⟩
    cases q
    obtain ⟨ob, _, _, h1, h2, _⟩ := dd
    exact ⟨ob, h1, h2.2.1⟩

section
variable {X : Cx} {pins : List (Addr × Obj)} {σ : St} {H : Hp} {s : Shared} {a : Addr} {y d : V} {u r : Value} {o : Option V} {A : Around} {E : Value → Shared → Prop}
/-- d.get(y, x) -/
theorem d_get2 {Q : Value → Shared → Prop} (hu : A.units + 1 < cLine) (I : Inv X pins σ H s) (g : DGet H a y o) (ry : RelV y u) (rd : RelV d r) (h : ∀ w' s', Inv X pins σ H s' → RelV (o.getD d) w' → Q w' s') :
    wpAny (model X.prog X.w) A (call (.builtin "dict.get") [.ref a, u, r]) Q E s := by
  rcases g with ⟨kvs, k, e, ey, l⟩ | ⟨kvs, k, b, e, ey, eb, l⟩
  · subst ey
    obtain ⟨z, hd, vs, rel, dd⟩ := dk_rd I.hok e
    refine call_meetsIn PySem.F.slot_dict_get dd.typeIs PySem.F.entry_dict_get (PySem.F.args_dict_get_3 _ _ _) (meets_dict_get_default (mixKind X.prog X.w) a (kV_is ry) hd r) ⟨_, dd.mapOf, h _ _ (I.tok _) ?_⟩
    rw [l]
    exact (rel.val k).getD rd
  · subst ey
    cases (show u = Value.ref b from ry)
    obtain ⟨z, hd, xs, rel, dd⟩ := dt_rd I.hok e
    refine call_meetsIn PySem.F.slot_dict_get dd.typeIs PySem.F.entry_dict_get (PySem.F.args_dict_get_3 _ _ _) (meetsH_dict_get_default (tupleKind (mixKind X.prog X.w)) a b hd r) ⟨tupleKind_room_in1 hu, k, xs, key_of I.hok eb, dd, h _ _ (I.tok _) ?_⟩
    rw [l]
    exact (rel.val k).getD rd
end

noncomputable def tDGet2 (td ty tx : TE) : TE := fun σ H Q => td σ H fun x H1 => ∃ a, x = .ref a ∧ IsD H1 a ∧ ty σ H1 fun y H2 => tx σ H2 fun z H3 => ∃ o, DGet H3 a y o ∧ Q (o.getD z) H3
section
variable {X : Cx} {o e f : Expr} {apos cpos : Pos} {td ty tx : TE}
theorem pe_dget2 (hu : X.A.units + 1 < cLine) (ho : PE X o td) (he : PE X e ty) (hf : PE X f tx) (m : M2 X o "get" apos e f cpos) : PE X (.Call (.Attribute o "get" apos) [e, f] [] cpos) (tDGet2 td ty tx) := by
  intro pins s σ H Q I h
  refine wpAny_Call_method m.base m.few m.line PySem.F.plainAttrs_dict PySem.F.slot_dict_get PySem.F.type_dict_get (thn (ho pins s σ H _ I h) fun u s1 ⟨x, H1, I1, rx, a, ex, d, q1⟩ => ?_)
  subst ex
  obtain rfl : u = Value.ref a := rx
  obtain ⟨t1, t2, _⟩ := isD_at I1 d
  refine ⟨t1, t2, ?_⟩
  rw [m.trees]
  refine Calls.callWith_builtin rfl (Calls.evalArgs_plain (Calls.spliced_cons (thn (he pins s1 σ H1 _ I1 q1) fun iv s2 ⟨y, H2, I2, ry, q2⟩ =>
    Calls.spliced_cons (thn (hf pins s2 σ H2 _ I2 q2) fun fv s3 ⟨z, H3, I3, rz, ov, g, q3⟩ => Calls.spliced_nil ?_))))
  exact d_get2 hu I3 g ry rz fun w' s4 I4 rw' => ⟨_, H3, I4, rw', q3⟩
end

/-! ### dict(d): a copy -/
section
variable {X : Cx} {pins : List (Addr × Obj)} {σ : St} {H : Hp} {s : Shared} {a : Addr} {kvs : List (Key × V)} {A : Around} {E : Value → Shared → Prop}
end


section
variable {X : Cx} {pins : List (Addr × Obj)} {σ : St} {H : Hp} {s : Shared} {a : Addr} {y : V} {u : Value} {A : Around} {E : Value → Shared → Prop}
end
end L2

set_option Elab.async false
set_option linter.all false
set_option maxRecDepth 100000
set_option maxHeartbeats 4000000
namespace L2
open PySem PySem.Spec PyProof.Rows

theorem OpR.imp {X : Cx} {f : Value → Value → Sem Value} {r r' : R2} (h : OpR X f r) (i : ∀ x y H Q, r' x y H Q → r x y H Q) : OpR X f r' :=
  fun pins s σ H x y v u Q I rx ry q => h pins s σ H x y v u Q I rx ry (i x y H Q q)
theorem CallR.imp {X : Cx} {f : Value} {r r' : List V → Hp → VK → Prop} (h : CallR X f r) (i : ∀ xs H Q, r' xs H Q → r xs H Q) : CallR X f r' :=
  fun pins s σ H xs us Q I rs q => h pins s σ H xs us Q I rs (i xs H Q q)
/-- by what stands in the slot -/
noncomputable def tV (i : Nat) : TE := fun σ H Q => match σ[i]? with
  | some (some v) => Q v H
  | _ => False
theorem vr {X : Cx} (i : Nat) {x : Str} {pos : Pos} (hN : X.N[i]? = some x := by rfl) (hv : Vis X.env.scope x := by first | exact Or.inl rfl | exact Or.inr (Or.inl rfl) | exact Or.inr (Or.inr rfl)) (hd : (x == ("__debug__" : Str)) = false := by decide)
    (hcd : (x == ("__classdict__" : Str)) = false := by decide) : PE X (.Name x pos) (tV i) := fun pins s σ H Q I h => by
  refine pe_var hN hv hd hcd pins s σ H Q I ?_
  unfold tV at h
  split at h
  · rename_i v e
    exact ⟨v, e, h⟩
  · exact h.elim

/-! ### operations, read by the values' shapes -/
noncomputable def rI2 (g : Int → Int → V) : R2 := fun x y H Q => match x, y with
  | .int i, .int j => Q (g i j) H
  | _, _ => False
noncomputable def rIC (C : Int → Int → Prop) (g : Int → Int → V) : R2 := fun x y H Q => match x, y with
  | .int i, .int j => C i j ∧ Q (g i j) H
  | _, _ => False
theorem OpR.i2 {X : Cx} {f : Value → Value → Sem Value} {g : Int → Int → V} (h : OpR X f (rI0 g)) : OpR X f (rI2 g) := h.imp fun x y H Q q => by
  cases x <;> cases y <;> first | exact ⟨_, _, rfl, rfl, q⟩ | exact (show False from q).elim
theorem OpR.ic {X : Cx} {f : Value → Value → Sem Value} {C : Int → Int → Prop} {g : Int → Int → V} (h : OpR X f (rI C g)) : OpR X f (rIC C g) := h.imp fun x y H Q q => by
  cases x <;> cases y <;> first | exact ⟨_, _, rfl, rfl, q.1, q.2⟩ | exact (show False from q).elim
section
variable {X : Cx}
noncomputable def rAddM : R2 := fun x y H Q => match x, y with
  | .int i, .int j => Q (.int (i + j)) H
  | .str i, .str j => i.length + j.length ≤ sizeLine ∧ Q (.str (i ++ j)) H
  | _, _ => False
theorem o_add : OpR X (binaryOp .Add) rAddM := (op_add.or op_add_str).imp fun x y H Q q => by
  cases x <;> cases y <;> first | exact .inl ⟨_, _, rfl, rfl, q⟩ | exact .inr ⟨_, _, rfl, rfl, q.1, q.2⟩ | exact (show False from q).elim
theorem o_sub : OpR X (binaryOp .Sub) (rI2 fun i j => .int (i - j)) := op_sub.i2
noncomputable def CPos (i j : Int) : Prop := 0 < j
noncomputable def CNn (i j : Int) : Prop := 0 ≤ j
theorem cp {i j : Int} (h : 0 < j := by decide) : CPos i j := h
theorem cn {i j : Int} (h : 0 ≤ j := by decide) : CNn i j := h
theorem cd {i j : Int} (h : 0 < j := by decide) (h2 : j < 1073741824 := by decide) : CDiv i j := ⟨h, h2⟩
theorem cw {i j : Int} (h : 0 ≤ j := by decide) (h2 : j ≤ 1000000 := by decide) (h3 : i.natAbs < 2 ^ 64 := by decide) : CPow i j := ⟨h, h2, h3⟩
theorem cl {i j : Int} (h : -(2 ^ 64) < i := by decide) (h2 : i < 2 ^ 64 := by decide) : CMul i j := .inl ⟨h, h2⟩
theorem cr {i j : Int} (h : -(2 ^ 64) < j := by decide) (h2 : j < 2 ^ 64 := by decide) : CMul i j := .inr ⟨h, h2⟩
theorem o_mod : OpR X (binaryOp .Mod) (rIC CPos fun i j => .int (i % j)) := op_mod.ic
theorem o_pow : OpR X (binaryOp .Pow) (rIC CPow fun i j => .int (i ^ j.toNat)) := op_pow.ic
noncomputable def rCmpM (f : Int → Int → Bool) (g : Str → Str → Bool) : R2 := fun x y H Q => match x, y with
  | .int i, .int j => Q (.bl (f i j)) H
  | .str i, .str j => Q (.bl (g i j)) H
  | _, _ => False
theorem o_lt : OpR X (compareOp .Lt) (rCmpM (fun i j => decide (i < j)) fun i j => decide (i.cps.toList < j.cps.toList)) := (op_lt.or op_lt_str).imp fun x y H Q q => by
  cases x <;> cases y <;> first | exact .inl ⟨_, _, rfl, rfl, q⟩ | exact .inr ⟨_, _, rfl, rfl, q⟩ | exact (show False from q).elim
theorem o_gt : OpR X (compareOp .Gt) (rI2 fun i j => .bl (decide (j < i))) := op_gt.i2
theorem o_ge : OpR X (compareOp .GtE) (rI2 fun i j => .bl (decide (j ≤ i))) := op_ge.i2
/-- == of two values without objects; the deep one is o_eqD -/
noncomputable def rEqM (neg : Bool) : R2 := fun x y H Q => match x, y with
  | .int i, .int j => Q (.bl (if neg then !decide (i = j) else decide (i = j))) H
  | .str i, .str j => Q (.bl (if neg then !decide (i = j) else decide (i = j))) H
  | .bl i, .bl j => Q (.bl (if neg then !decide (i = j) else decide (i = j))) H
  | .non, .non => Q (.bl (!neg)) H
  | .non, .int _ => Q (.bl neg) H
  | .non, .str _ => Q (.bl neg) H
  | .non, .bl _ => Q (.bl neg) H
  | .int _, .non => Q (.bl neg) H
  | .str _, .non => Q (.bl neg) H
  | .bl _, .non => Q (.bl neg) H
  | .int _, .str _ => Q (.bl neg) H
  | .str _, .int _ => Q (.bl neg) H
  | _, _ => False
theorem o_eq : OpR X (compareOp .Eq) (rEqM false) := op_eq.imp fun x y H Q q => by
  cases x <;> cases y <;> first | exact (show False from q).elim | (refine ⟨rfl, ?_⟩; revert q; simp [rEqM])
theorem o_ne : OpR X (compareOp .NotEq) (rEqM true) := op_ne.imp fun x y H Q q => by
  cases x <;> cases y <;> first | exact (show False from q).elim | (refine ⟨rfl, ?_⟩; revert q; simp [rEqM])
noncomputable def rU1 (g : Int → V) : V → Hp → VK → Prop := fun x H Q => match x with
  | .int i => Q (g i) H
  | _ => False
theorem u_neg : UnR X (unaryOp .USub) (rU1 fun i => .int (-i)) := fun pins s σ H x v Q I r q => un_neg pins s σ H x v Q I r (by
  cases x <;> first | exact ⟨_, rfl, q⟩ | exact (show False from q).elim)
/-! ### truths -/
noncomputable def mB (Q : Bool → Hp → Prop) : VK := fun x H => match x with
  | .bl c => Q c H
  | _ => False
variable {a b c : Expr} {ta tb tc : TE} {pos : Pos} {rest : List Expr}
noncomputable def mAnd (ta tb : TE) : TE := fun σ H Q => ta σ H (mB fun c H1 => if c = true then tb σ H1 Q else Q (.bl false) H1)
noncomputable def mNot (ta : TE) : TE := fun σ H Q => ta σ H (mB fun c H1 => Q (.bl (!c)) H1)
theorem mB_iff {Q : Bool → Hp → Prop} {x : V} {H : Hp} (h : mB Q x H) : ∃ c, x = .bl c ∧ Q c H := by
  cases x <;> first | exact ⟨_, rfl, h⟩ | exact (show False from h).elim
theorem m_and (ha : PE X a ta) (hb : PE X (.BoolOp .And (b :: rest) pos) tb) : PE X (.BoolOp .And (a :: b :: rest) pos) (mAnd ta tb) := by
  intro pins s σ H Q I h
  refine BoolOp_and (thn (ha pins s σ H _ I h) fun v s1 ⟨x, H1, I1, r1, q1⟩ => ?_)
  obtain ⟨c, rfl, q1⟩ := mB_iff q1
  cases r1
  refine wpAny_truthy_bool ?_
  cases c with
  | true => exact hb pins s1 σ H1 Q I1 q1
  | false => exact ⟨.bl false, H1, I1, rfl, q1⟩
theorem m_not (ha : PE X a ta) : PE X (.UnaryOp .Not a pos) (mNot ta) := by
  intro pins s σ H Q I h
  refine UnaryOp_ (thn (ha pins s σ H _ I h) fun v s1 ⟨x, H1, I1, r1, q1⟩ => ?_)
  obtain ⟨c, rfl, q1⟩ := mB_iff q1
  cases r1
  exact not_of (wpAny_truthy_bool ⟨.bl (!c), H1, I1, rfl, q1⟩)
/-- a test that is a bool's expression -/
noncomputable def mT (t : TE) : TT := fun σ H Q => t σ H (mB Q)
theorem t_val (h : PE X a ta) (he : ∀ whole, isTrue a X.env whole = (do let v ← whole; standAt a.pos; holding [v] (truthy v)) := by intro _; rfl) : PT X a (mT ta) := by
  intro pins s σ H Q I hw
  refine isTrue_plain (thn (h pins s σ H _ I hw) fun v s1 ⟨x, H1, I1, r1, q1⟩ => ?_) (he _)
  obtain ⟨d, rfl, q⟩ := mB_iff q1
  cases r1
  exact wpAny_truthy_bool ⟨H1, I1, q⟩
theorem t_cmp {op : CmpOp} {r : R2} (ho : OpR X (compareOp op) r) (ha : PE X a ta) (hb : PE X b tb) (hm : behindInMarks op b = false) : PT X (.Compare a [op] [b] pos) (mT (tOp r ta tb)) := by
  intro pins s σ H Q I h
  refine wpAny_isTrue_Compare1 (thn (ha pins s σ H _ I h) fun v s1 ⟨x, H1, I1, r1, q1⟩ => thn (hb pins s1 σ H1 _ I1 q1) fun u s2 ⟨y, H2, I2, r2, q2⟩ =>
    thn (ho pins s2 σ H2 x y v u _ I2 r1 r2 q2) fun c s3 ⟨z, H3, I3, r3, q3⟩ => ?_) hm
  obtain ⟨k, rfl, q3⟩ := mB_iff q3
  cases r3
  exact wpAny_truthy_bool ⟨H3, I3, q3⟩
noncomputable def mChain (r r' : R2) (ta tb tc : TE) : TE := fun σ H Q => ta σ H fun x H1 => tb σ H1 fun y H2 => r x y H2 (mB fun k H3 => if k = true then tc σ H3 fun w' H4 => r' y w' H4 Q else Q (.bl false) H3)
theorem m_chain {op op' : CmpOp} {r r' : R2} (ho : OpR X (compareOp op) r) (ho' : OpR X (compareOp op') r') (ha : PE X a ta) (hb : PE X b tb) (hc : PE X c tc)
    (hm : lastMarks [op, op'] [b, c] = false := by with_unfolding_all rfl) : PE X (.Compare a [op, op'] [b, c] pos) (mChain r r' ta tb tc) := by
  intro pins s σ H Q I h
  refine Compare_chain (thn (ha pins s σ H _ I h) fun v s1 ⟨x, H1, I1, r1, q1⟩ => chain_link (thn (hb pins s1 σ H1 _ I1 q1) fun u s2 ⟨y, H2, I2, r2, q2⟩ =>
    thn (ho pins s2 σ H2 x y v u _ I2 r1 r2 q2) fun d s3 ⟨z, H3, I3, r3, q3⟩ => ?_)) hm
  obtain ⟨k, rfl, q3⟩ := mB_iff q3
  cases r3
  refine wpAny_truthy_bool ?_
  cases k with
  | false => exact ite_ff ⟨.bl false, H3, I3, rfl, q3⟩
  | true => exact ite_tt (chain_last (thn (hc pins s3 σ H3 _ I3 q3) fun w' s4 ⟨z', H4, I4, r4, q4⟩ => ho' pins s4 σ H4 y z' u w' Q I4 r2 r4 q4))
/-! ### isinstance -/
open PySem.W in
theorem kit_of {pins : List (Addr × Obj)} {σ : St} {H : Hp} {s : Shared} {x : V} {u t : Value} (I : Inv X pins σ H s) (rx : RelV x u) (ty : TyOf X.K H x t) :
    ∃ Hh : Heap → Prop, KitX X.K u t Hh ∧ Hh s.heap ∧ u ≠ .builtin "__main__.__loader__#opaque" := by
  cases ty with
  | non => cases (show u = Value.none from rx); exact ⟨_, PySem.W.kitx_none, True.intro, fun z => nomatch z⟩
  | bl y => cases (show u = Value.bool y from rx); exact ⟨_, PySem.W.kitx_bool, True.intro, fun z => nomatch z⟩
  | int i => obtain ⟨t, q⟩ := (show ∃ t, u = Value.int i t from rx); cases q; exact ⟨_, PySem.W.kitx_int, True.intro, fun z => nomatch z⟩
  | str y => obtain ⟨t, q⟩ := (show ∃ t, u = Value.str y t from rx); cases q; exact ⟨_, PySem.W.kitx_str, True.intro, fun z => nomatch z⟩
  | flt y => obtain ⟨t, q⟩ := (show ∃ t, u = Value.float y t from rx); cases q; exact ⟨_, PySem.W.kitx_float, True.intro, fun z => nomatch z⟩
  | @lst a xs ea =>
    cases (show u = Value.ref a from rx)
    obtain ⟨_, _, n, _, h1⟩ := (show ObjOk X.prog X.w H s.heap a (.lst xs) from I.hok a _ ea)
    exact ⟨_, PySem.W.kitx_list, ⟨_, h1, rfl⟩, fun z => nomatch z⟩
  | @frz a ob xs ea =>
    cases (show u = Value.ref a from rx)
    obtain ⟨_, _, _, n, _, h1⟩ := (show ObjOk X.prog X.w H s.heap a (.frz ob (.lst xs)) from I.hok a _ ea)
    exact ⟨_, PySem.W.kitx_list, ⟨_, h1, rfl⟩, fun z => nomatch z⟩
  | @tup a xs ea =>
    cases (show u = Value.ref a from rx)
    obtain ⟨_, _, _, p⟩ := (show ObjOk X.prog X.w H s.heap a (.tup xs) from I.hok a _ ea)
    obtain ⟨o, h1, h2, _⟩ := p
    exact ⟨_, PySem.W.kitx_tuple, ⟨o, h1, h2⟩, fun z => nomatch z⟩
  | @dK a kvs ea =>
    cases (show u = Value.ref a from rx)
    obtain ⟨_, _, vs, _, p⟩ := (show ObjOk X.prog X.w H s.heap a (.dK kvs) from I.hok a _ ea)
    obtain ⟨o, es, ep, h1, h2, _⟩ := p
    exact ⟨_, PySem.W.kitx_dict, ⟨o, h1, h2.1⟩, fun z => nomatch z⟩
  | @dT a kvs ea =>
    cases (show u = Value.ref a from rx)
    obtain ⟨_, _, xs, _, o, es, ep, h1, h2, _⟩ := (show ObjOk X.prog X.w H s.heap a (.dT kvs) from I.hok a _ ea)
    exact ⟨_, PySem.W.kitx_dict, ⟨o, h1, h2.1⟩, fun z => nomatch z⟩
  | @ins a C dx fs ea cl ha hn htk hm =>
    cases (show u = Value.ref a from rx)
    obtain ⟨mA, O, _⟩ := ins_get I.hok ea
    obtain ⟨od, J, _⟩ := O.look
    exact ⟨_, PySem.W.kitx_own (cl.get _) cl.hd ha hn htk hm, J, fun z => nomatch z⟩
noncomputable def cVal : V → Value
  | .ty n => .type n
  | .ref a => .ref a
  | _ => .none
noncomputable def isCls : V → Bool
  | .ty _ => true
  | .ref _ => true
  | _ => false
theorem cVal_of {c : V} {u : Value} (h : isCls c = true) (r : RelV c u) : u = cVal c := by
  cases c <;> first | exact r | exact absurd (show false = true from h) Bool.false_ne_true
/-- isinstance(x, C): the type of x, then kitOne's answer -/
inductive rIsi (K : PySem.W.Frag) (xs : List V) (H : Hp) (Q : VK) : Prop
  | mk (x c : V) (t : _) (b : Bool) (h0 : xs = [x, c]) (h1 : isCls c = true) (h2 : TyOf K H x t) (h3 : PySem.W.kitOne K t (cVal c) = some b) (h4 : Q (.bl b) H) : rIsi K xs H Q
theorem call_isi : CallR X (.builtin "isinstance") (rIsi X.K) := by
  intro pins s σ H xs us Q I r h
  obtain ⟨x, c, t, b, rfl, hc, ty, e, q⟩ := h
  obtain ⟨u, w', rfl, rx, rc⟩ := vals2 r
  cases cVal_of hc rc
  obtain ⟨Hh, Z, p, hx⟩ := kit_of I rx ty
  exact PySem.W.kia_one Z I.kIn p e hx fun tk => ⟨.bl b, H, I.tok tk, rfl, q⟩

/-! ### all -/
/-! ### x in range(a, b) -/
end
end L2

set_option Elab.async false
set_option linter.all false
set_option maxRecDepth 100000
set_option maxHeartbeats 4000000
namespace L2
open PySem PySem.Spec PyProof.Rows

theorem ifP {c : Prop} [Decidable c] {A B : Prop} (hc : c) (h : A) : if decide c = true then A else B := by rw [if_pos (decide_eq_true hc)]; exact h
theorem ifN {c : Prop} [Decidable c] {A B : Prop} (hc : ¬ c) (h : B) : if decide c = true then A else B := by rw [if_neg (fun z => hc (of_decide_eq_true z))]; exact h
theorem ifC {c : Prop} [Decidable c] {A B : Prop} (h1 : c → A) (h2 : ¬ c → B) : if decide c = true then A else B := by
  by_cases h : c
  · exact ifP h (h1 h)
  · exact ifN h (h2 h)
theorem ifB {b : Bool} {A B : Prop} (h1 : b = true → A) (h2 : b = false → B) : if b = true then A else B := by
  cases b with
  | true => rw [if_pos rfl]; exact h1 rfl
  | false => rw [if_neg Bool.false_ne_true]; exact h2 rfl
theorem atI_ex {α : Type} {xs : List α} {i : Int} (h0 : 0 ≤ i) (h1 : i < xs.length) : ∃ c, c ∈ xs ∧ atI xs i = some c := by
  have hk : i.toNat < xs.length := by omega
  refine ⟨xs[i.toNat], List.getElem_mem hk, ?_⟩
  have e : ((i.toNat : Nat) : Int) = i := by omega
  have := atI_nat (xs := xs) (j := i.toNat) (v := xs[i.toNat]) (by simp [hk])
  rwa [e] at this
theorem bt_len : bootBuiltins "len" = some (.builtin "len") := by decide +kernel
theorem bt_isinstance : bootBuiltins "isinstance" = some (.builtin "isinstance") := by decide +kernel
theorem bt_min : bootBuiltins "min" = some (.builtin "min") := by decide +kernel
theorem bt_max : bootBuiltins "max" = some (.builtin "max") := by decide +kernel
theorem bt_zip : bootBuiltins "zip" = some (.type "zip") := by decide +kernel
theorem bt_range : bootBuiltins "range" = some (.type "range") := by decide +kernel
theorem bt_int : bootBuiltins "int" = some (.type "int") := by decide +kernel
theorem bt_bool : bootBuiltins "bool" = some (.type "bool") := by decide +kernel
theorem bt_list : bootBuiltins "list" = some (.type "list") := by decide +kernel
theorem bt_tuple : bootBuiltins "tuple" = some (.type "tuple") := by decide +kernel
theorem bt_dict : bootBuiltins "dict" = some (.type "dict") := by decide +kernel
theorem pe_gl {X : Cx} {x : Str} {v : V} {pos : Pos} (hg : Gl X x) (h : ∃ u, X.mg x = some u ∧ RelV v u) (hd : (x == ("__debug__" : Str)) = false := by decide) : PE X (.Name x pos) (tC v) :=
  let ⟨_, e, r⟩ := h
  pe_glob hg e r hd

/-- what a loop walks, by the value -/
noncomputable def iAny (K : PySem.W.Frag) (tl : TE) : TI := fun σ H R => tl σ H fun x H1 => match x with
  | .str z => R (Its z) H1
  | .ref a => ((∃ xs, SqL K H1 a xs) ∧ R (Itl K a) H1) ∨ ((∃ xs, SqT K H1 a xs) ∧ R (Itt K a) H1)
  | _ => False
theorem pi_any {X : Cx} {tg l : Expr} {tl : TE} (hl : PE X l tl) : PI X tg l (iAny X.K tl) := by
  intro pins s σ H R I h
  have hl1 : PE X l tl := hl
  refine thn (hl pins s σ H _ I h) fun v s1 ⟨x, H1, I1, r1, q1⟩ => ?_
  cases x with
  | str z =>
    have := pi_str (X := X) (tg := tg) (l := l) (tl := tC (.str z)) 
    obtain ⟨t, rfl⟩ := r1
    refine wpAny_pyIter_strU ?_
    refine ⟨s1.heap.objs.size, [s1.heap.objs.size], _, _, H1, rfl, I1.kept (t' := s1.toks) fun b o e => Heap.get?_push_of_some _ e, turn_str (ty := strIterType z) (t := t) z _ ?_, ⟨_, Heap.get?_push_size _ rfl, rfl, rfl⟩, fun b hb => ?_, q1⟩
    · unfold strIterType
      split
      · exact .inl rfl
      · exact .inr rfl
    · have e : b = s1.heap.objs.size := by simpa using hb
      subst e
      exact I1.fpOk (Nat.le_refl _) (I1.hok.fresh (Nat.le_refl _))
  | ref a =>
    cases r1
    rcases q1 with ⟨⟨xs, hq⟩, q⟩ | ⟨⟨xs, hq⟩, q⟩
    · obtain ⟨its, rv, p, hz⟩ := I1.list hq
      refine wpAny_pyIter_list p.isList ?_
      refine ⟨s1.heap.objs.size, [s1.heap.objs.size], _, _, H1, rfl, I1.kept (t' := s1.toks) fun b o e => Heap.get?_push_of_some _ e, turn_list a _, ⟨_, Heap.get?_push_size _ rfl, rfl, rfl⟩, fun b hb => ?_, q⟩
      have e : b = s1.heap.objs.size := by simpa using hb
      subst e
      exact I1.fpOk (Nat.le_refl _) (I1.hok.fresh (Nat.le_refl _))
    · obtain ⟨its, rv, p, hz⟩ := I1.tuple hq
      refine wpAny_pyIter_tuple (show s1.heap.IsTuple a its.toArray from p) ?_
      refine ⟨s1.heap.objs.size, [s1.heap.objs.size], _, _, H1, rfl, I1.kept (t' := s1.toks) fun b o e => Heap.get?_push_of_some _ e, turn_tuple a _, ⟨_, Heap.get?_push_size _ rfl, rfl, rfl⟩, fun b hb => ?_, q⟩
      have e : b = s1.heap.objs.size := by simpa using hb
      subst e
      exact I1.fpOk (Nat.le_refl _) (I1.hok.fresh (Nat.le_refl _))
  | _ => exact (show False from q1).elim

inductive rLenSq (K : PySem.W.Frag) (p : Addr) (H : Hp) (Q : VK) : Prop
  | mk (ys : List V) (h0 : SqL K H p ys ∨ SqT K H p ys) (h1 : Q (.int ys.length) H) : rLenSq K p H Q
theorem call_lenM {X : Cx} : CallR X (.builtin "len") (fun xs H Q => match xs with
    | [.str z] => z.length ≤ sizeLine ∧ Q (.int z.length) H
    | [.ref p] => rLenSq X.K p H Q
    | _ => False) := (call_len_str.or call_len_seq).imp fun xs H Q q => by
  match xs, q with
  | [.str z], q => exact .inl ⟨z, rfl, q.1, q.2⟩
  | [.ref p], q => obtain ⟨ys, h, q⟩ := q; exact .inr ⟨p, ys, rfl, h, q⟩

/-! ### a comprehension, by what it walks -/
section
variable {D : Addr} {σb : St} {g : TG} {tt : TT} {te : TE} {Q : Hp → List V → Prop} {H : Hp} {K : PySem.W.Frag}
/-- what one turn asks -/
noncomputable def CompT (D : Addr) (σb : St) (g : TG) (tt : TT) (te : TE) (x : V) (ys : List V) (H : Hp) (P : List V → Hp → Prop) : Prop :=
  g x σb H fun σ4 H4 => Wk σb σ4 ∧ tt σ4 H4 fun b H5 => if b = true then te σ4 H5 fun y H6 => H6 D = some (.lst ys) ∧ ys.length < sizeLine ∧ P (ys ++ [y]) (upd H6 D (.lst (ys ++ [y]))) else P ys H5
theorem comp_list {a : Addr} {xs : List V} (Pv : Nat → List V → Hp → Prop) (h0 : Pv 0 [] H) (hq : ∀ i ys H, Pv i ys H → SqL K H a xs) (hl : ∀ i ys H, Pv i ys H → H D = some (.lst ys))
    (hs : ∀ (i : Nat) x ys H P, xs[i]? = some x → Pv i ys H → (∀ a b, Pv (i + 1) a b → P a b) → CompT D σb g tt te x ys H P) (hd : ∀ ys H, Pv xs.length ys H → Q H ys) : ∃ W, (∃ m, W 0 m [] H) ∧ CompW (Itl K a) D σb g tt te Q W := by
  refine ⟨fun i m ys H => m = xs.length - i ∧ i ≤ xs.length ∧ Pv i ys H, ⟨_, rfl, Nat.zero_le _, h0⟩, ?_⟩
  rintro i m ys H ⟨rfl, hi, p⟩
  refine ⟨hl i ys H p, ?_⟩
  have q := hq i ys H p
  by_cases hlt : i < xs.length
  · refine .inr ⟨⟨xs, xs[i], q, by simp [hlt]⟩, fun x H3 y => ?_⟩
    obtain ⟨rfl, y⟩ := y
    exact hs i x ys _ (fun a b => ∃ m', m' < xs.length - i ∧ m' = xs.length - (i + 1) ∧ i + 1 ≤ xs.length ∧ Pv (i + 1) a b) (y xs q) p (fun a b q => ⟨xs.length - (i + 1), by omega, rfl, hlt, q⟩)
  · have e : i = xs.length := by omega
    subst e
    exact .inl ⟨⟨xs, q, Nat.le_refl _⟩, hd ys H p⟩
theorem comp_rng {lo : Int} {n : Nat} (Pv : Nat → List V → Hp → Prop) (h0 : Pv 0 [] H) (hl : ∀ i ys H, Pv i ys H → H D = some (.lst ys))
    (hs : ∀ (i : Nat) ys H P, i < n → Pv i ys H → (∀ a b, Pv (i + 1) a b → P a b) → CompT D σb g tt te (.int (lo + i)) ys H P) (hd : ∀ ys H, Pv n ys H → Q H ys) : ∃ W, (∃ m, W 0 m [] H) ∧ CompW (Itr lo n) D σb g tt te Q W := by
  refine ⟨fun i m ys H => m = n - i ∧ i ≤ n ∧ Pv i ys H, ⟨_, rfl, Nat.zero_le _, h0⟩, ?_⟩
  rintro i m ys H ⟨rfl, hi, p⟩
  refine ⟨hl i ys H p, ?_⟩
  by_cases hlt : i < n
  · refine .inr ⟨hlt, fun x H3 y => ?_⟩
    obtain ⟨rfl, rfl⟩ := y
    exact hs i ys _ (fun a b => ∃ m', m' < n - i ∧ m' = n - (i + 1) ∧ i + 1 ≤ n ∧ Pv (i + 1) a b) hlt p (fun a b q => ⟨n - (i + 1), by omega, rfl, hlt, q⟩)
  · have e : i = n := by omega
    subst e
    exact .inl ⟨Nat.le_refl _, hd ys H p⟩
end

/-! ### heaps that have grown -/
theorem Same.new {H : Hp} {p : Addr} {o : HO} (h : H p = none) : Same H (upd H p o) := fun b u e => by rw [upd_ne (ne_of_none e h)]; exact e
theorem Same.sqT {K : PySem.W.Frag} {H H' : Hp} {a : Addr} {xs : List V} (e : Same H H') (h : SqT K H a xs) : SqT K H' a xs := by
  rcases h with (h | ⟨o, h⟩) | h
  · exact .inl (.inl (e _ _ h))
  · exact .inl (.inr ⟨o, e _ _ h⟩)
  · exact .inr h
/-! ### deep data -/
mutual
noncomputable def DV (K : PySem.W.Frag) (H : Hp) : PyData → V → Prop
  | .none, x => x = .non
  | .bool b, x => x = .bl b
  | .int i, x => x = .int i
  | .str z, x => x = .str z
  | .list ds, x => ∃ a xs, x = .ref a ∧ SqL K H a xs ∧ DVs K H ds xs
  | .tuple ds, x => ∃ a xs, x = .ref a ∧ SqT K H a xs ∧ DVs K H ds xs
  | .dict _, _ => False
noncomputable def DVs (K : PySem.W.Frag) (H : Hp) : List PyData → List V → Prop
  | [], xs => xs = []
  | d :: ds, xs => ∃ y ys, xs = y :: ys ∧ DV K H d y ∧ DVs K H ds ys
end
mutual
theorem DV.same {K : PySem.W.Frag} {H H' : Hp} (e : Same H H') : ∀ {d : PyData} {x : V}, DV K H d x → DV K H' d x
  | .none, x, h => by simpa [DV] using h
  | .bool b, x, h => by simpa [DV] using h
  | .int i, x, h => by simpa [DV] using h
  | .str z, x, h => by simpa [DV] using h
  | .list ds, x, h => by
    rw [DV] at h ⊢
    obtain ⟨a, xs, h1, h2, h3⟩ := h
    exact ⟨a, xs, h1, e.seq h2, DVs.same e h3⟩
  | .tuple ds, x, h => by
    rw [DV] at h ⊢
    obtain ⟨a, xs, h1, h2, h3⟩ := h
    exact ⟨a, xs, h1, e.sqT h2, DVs.same e h3⟩
  | .dict _, x, h => by rw [DV] at h; exact h.elim
theorem DVs.same {K : PySem.W.Frag} {H H' : Hp} (e : Same H H') : ∀ {ds : List PyData} {xs : List V}, DVs K H ds xs → DVs K H' ds xs
  | [], xs, h => by simpa [DVs] using h
  | d :: ds, xs, h => by
    rw [DVs] at h ⊢
    obtain ⟨y, ys, h1, h2, h3⟩ := h
    exact ⟨y, ys, h1, DV.same e h2, DVs.same e h3⟩
end
section
variable {X : Cx} {pins : List (Addr × Obj)} {σ : St} {H : Hp} {s : Shared}
mutual
theorem DV.reads (I : Inv X pins σ H s) : ∀ {d : PyData} {x : V} {u : Value}, DV X.K H d x → RelV x u → ∃ as, Reads s.heap u d as
  | .none, x, u, h, r => by
    rw [DV] at h; subst h; cases r; exact ⟨_, .none⟩
  | .bool b, x, u, h, r => by
    rw [DV] at h; subst h; cases r; exact ⟨_, .bool b⟩
  | .int i, x, u, h, r => by
    rw [DV] at h; subst h; obtain ⟨t, rfl⟩ := r; exact ⟨_, .int i t⟩
  | .str z, x, u, h, r => by
    rw [DV] at h; subst h; obtain ⟨t, rfl⟩ := r; exact ⟨_, .str z t⟩
  | .list ds, x, u, h, r => by
    rw [DV] at h
    obtain ⟨a, xs, rfl, h2, h3⟩ := h
    cases r
    obtain ⟨its, rv, ⟨o, n, e, c, _, d⟩, _⟩ := I.list h2
    obtain ⟨as, q⟩ := DVs.reads I h3 rv
    exact ⟨_, .list e c d (by simpa using q)⟩
  | .tuple ds, x, u, h, r => by
    rw [DV] at h
    obtain ⟨a, xs, rfl, h2, h3⟩ := h
    cases r
    obtain ⟨its, rv, ⟨o, e, c, n, d⟩, _⟩ := I.tuple h2
    obtain ⟨as, q⟩ := DVs.reads I h3 rv
    exact ⟨_, .tuple e c d (by simpa using q)⟩
  | .dict _, x, u, h, r => by rw [DV] at h; exact h.elim
theorem DVs.reads (I : Inv X pins σ H s) : ∀ {ds : List PyData} {xs : List V} {us : List Value}, DVs X.K H ds xs → Vals xs us → ∃ as, ReadsAll s.heap us ds as
  | [], xs, us, h, r => by
    rw [DVs] at h; subst h; cases r; exact ⟨_, .nil⟩
  | d :: ds, xs, us, h, r => by
    rw [DVs] at h
    obtain ⟨y, ys, rfl, h2, h3⟩ := h
    cases r with
    | cons r rs =>
      obtain ⟨as, q⟩ := DV.reads I h2 r
      obtain ⟨bs, p⟩ := DVs.reads I h3 rs
      exact ⟨_, .cons q p⟩
end
end
/-- == of data, whatever its depth -/
inductive rEqD (K : PySem.W.Frag) (neg : Bool) (x y : V) (H : Hp) (Q : VK) : Prop
  | mk (d e : PyData) (h0 : DV K H d x) (h1 : DV K H e y) (h2 : SeqAt.shaped d = true) (h3 : SeqAt.shaped e = true) (h4 : Q (.bl (if neg then !PyData.eqv d e else PyData.eqv d e)) H) : rEqD K neg x y H Q
theorem o_eqD {X : Cx} (hu : X.A.units + 64 < cLine) : OpR X (compareOp .Eq) (rEqD X.K false) := by
  intro pins s σ H x y v u Q I rx ry h
  obtain ⟨d, e, h1, h2, s1, s2, q⟩ := h
  obtain ⟨as, ra⟩ := h1.reads I rx
  obtain ⟨bs, rb⟩ := h2.reads I ry
  exact eq_dataH ra rb s1 s2 hu ⟨.bl _, H, I, rfl, q⟩
theorem o_neD {X : Cx} (hu : X.A.units + 64 < cLine) : OpR X (compareOp .NotEq) (rEqD X.K true) := by
  intro pins s σ H x y v u Q I rx ry h
  obtain ⟨d, e, h1, h2, s1, s2, q⟩ := h
  obtain ⟨as, ra⟩ := h1.reads I rx
  obtain ⟨bs, rb⟩ := h2.reads I ry
  exact ne_dataH ra rb s1 s2 hu ⟨.bl _, H, I, rfl, q⟩
end L2

set_option Elab.async false
set_option linter.all false
set_option maxRecDepth 100000
set_option maxHeartbeats 4000000
namespace L2
open PySem PySem.Spec PyProof.Rows

/-! ### texts: slices, methods, numbers -/
section
variable {X : Cx}
theorem SlR.imp {r r' : V → Option Int → Option Int → Hp → VK → Prop} (h : SlR X r) (i : ∀ x lo hi H Q, r' x lo hi H Q → r x lo hi H Q) : SlR X r' :=
  fun pins s σ H x v vl vu lo hi sl Q I rx hs pl pu q => h pins s σ H x v vl vu lo hi sl Q I rx hs pl pu (i x lo hi H Q q)
theorem MtR.imp {id : String} {r r' : V → List V → Hp → VK → Prop} (h : MtR X id r) (i : ∀ x xs H Q, r' x xs H Q → r x xs H Q) : MtR X id r' :=
  fun pins s σ H x xs v us Q I rx rs q => h pins s σ H x xs v us Q I rx rs (i x xs H Q q)
/-- t.startswith(u) -/
noncomputable def rStarts : V → List V → Hp → VK → Prop := fun x xs H Q => match x, xs with
  | .str z, [.str y] => Q (.bl (Txt.startswith z y)) H
  | _, _ => False
theorem mt_starts : MtR X "str.startswith" rStarts := by
  intro pins s σ H x xs v us Q I rx rs q
  match x, xs, q with
  | .str z, [.str y], q =>
    obtain ⟨t, rfl⟩ := rx
    obtain ⟨u, rfl, t', rfl⟩ := vals1 rs
    exact SC.startswith ⟨.bl _, H, I, rfl, q⟩
variable {o e : Expr} {es : List Expr} {to : TE} {t : TA} {apos cpos : Pos}
theorem pe_m.startswith (ho : PE X o to) (ha : PA X (e :: es) t)
    (hbase : attributeBase o "startswith" X.env (eval o X.env) = eval o X.env := by rfl)
    (hfew : ((backTo cpos (starEach (e :: es) X.env)).all (fun x => !x.1) && (backToKw cpos (keywordEach [] X.env)).all (fun x => x.1.isSome)
      && decide ((e :: es).length + ([] : List Keyword).length + (if ([] : List Keyword).isEmpty then 0 else 1) < 30)) = true := by rfl)
    (hline : (apos.endLine == cpos.line) = true := by rfl) (hs : starEach (e :: es) X.env = (false, eval e X.env) :: starEach es X.env := by rfl) (hplain : (backTo cpos (starEach es X.env)).any (·.1) = false := by rfl) :
    PE X (.Call (.Attribute o "startswith" apos) (e :: es) [] cpos) (tBM X.K "str" rStarts to t) := pe_bm F.plainAttrs_str F.slot_str_startswith F.type_str_startswith mt_starts ho ha hbase hfew hline hs hplain
end
end L2

set_option Elab.async false
set_option linter.all false
set_option maxRecDepth 100000
set_option maxHeartbeats 4000000
namespace L2
open PySem PySem.Spec PyProof.Rows
/-! ### joins: what holds behind a part, said once -/
section
variable {X : Cx} {st : Stmt} {rest : List Stmt} {t u : TS} {e : Expr} {te : TE} {tt : TT}
end
end L2

set_option Elab.async false
set_option linter.all false
set_option maxRecDepth 100000
set_option maxHeartbeats 4000000
namespace L2
open PySem PySem.Spec PyProof.Rows
/-! ### iterators of several records; enumerate, zip -/
section
variable {X : Cx} {pins : List (Addr × Obj)} {σ : St} {H : Hp} {s : Shared} {h' : Heap}
/-- records of ours have turned, a thing may have been laid -/
theorem Inv.turnedNew {t' : Nat} {ch : List Addr} {a : Addr} {o : HO} (I : Inv X pins σ H s) (k : ∀ b u, b ∉ ch → s.heap.get? b = some u → h'.get? b = some u) (hf : ∀ b ∈ ch, FpOk X pins H b)
    (ha : s.heap.objs.size ≤ a) (new : ObjOk X.prog X.w (upd H a o) h' a o) : Inv X pins σ (upd H a o) { s with heap := h', toks := t' } := by
  have hna : H a = none := I.hok.fresh ha
  have nch : ∀ b u, H b = some u → b ∉ ch := fun b u e z => by
    rw [(hf b z).1] at e
    cases e
  have nea : ∀ b u, H b = some u → b ≠ a := fun b u e z => by
    rw [z, hna] at e
    cases e
  have old : ∀ b u, s.heap.get? b = some u → b ≠ a := fun b u e => Nat.ne_of_lt (Nat.lt_of_lt_of_le (Heap.lt_size e) ha)
  refine I.step (g' := s.gens) (d' := s.drawn) (ch := ch) (fun b hb => ?_) (fun b u _ _ hc e _ => k b u hc e) (fun b u _ _ hc e _ => ⟨u.slots, k b u hc e⟩) (fun b u _ e n => ?_) (fun b u hc e => ⟨u, k b u hc e⟩)
    (fun b xs e => ?_) (fun b u v e => ?_) (fun b ps e => ⟨#[], ?_⟩) (fun m hm => ?_) (fun b u e => ?_) I.bare
  · obtain ⟨_, f1, _, f3, f4, f5⟩ := hf b hb
    exact ⟨f3, f1, f4, f5⟩
  · rw [upd_ne (old b u e)]; exact n
  · rw [upd_ne (nea b _ e)]; exact e
  · rw [upd_ne (nea b _ e)]; exact e
  · rw [upd_ne (nea b _ e), e]; simp
  · obtain ⟨ob, es, ep, ho, r⟩ := hm
    exact ⟨ob, es, ep, k _ ob (fun z => (hf _ z).2.1 rfl) ho, r⟩
  · by_cases hb : b = a
    · subst hb
      rw [upd_same] at e
      cases e
      exact new
    · rw [upd_ne hb] at e
      refine (I.hok b u e).stay (fun c v hc q => k c v ?_ q) (fun c q => ?_) fun c xs q => ?_
      · rcases hc with z | z
        · rw [z]; exact nch b u e
        · exact nch c _ z
      · rw [upd_ne (nea c _ q)]; exact q
      · rw [upd_ne (nea c _ q)]; exact q
theorem Inv.turnedN {t' : Nat} {ch : List Addr} (I : Inv X pins σ H s) (k : ∀ b u, b ∉ ch → s.heap.get? b = some u → h'.get? b = some u) (hf : ∀ b ∈ ch, FpOk X pins H b) : Inv X pins σ H { s with heap := h', toks := t' } := by
  have nch : ∀ b u, H b = some u → b ∉ ch := fun b u e z => by
    rw [(hf b z).1] at e
    cases e
  refine I.step (g' := s.gens) (d' := s.drawn) (ch := ch) (fun b hb => ?_) (fun b u _ _ hc e _ => k b u hc e) (fun b u _ _ hc e _ => ⟨u.slots, k b u hc e⟩) (fun b u _ e n => n) (fun b u hc e => ⟨u, k b u hc e⟩)
    (fun b xs e => e) (fun b u v e => e) (fun b ps e => ⟨#[], by rw [e]; simp⟩) (fun m hm => ?_) (fun b u e => ?_) I.bare
  · obtain ⟨_, f1, _, f3, f4, f5⟩ := hf b hb
    exact ⟨f3, f1, f4, f5⟩
  · obtain ⟨ob, es, ep, ho, r⟩ := hm
    exact ⟨ob, es, ep, k _ ob (fun z => (hf _ z).2.1 rfl) ho, r⟩
  · refine (I.hok b u e).stay (fun c v hc q => k c v ?_ q) (fun c q => q) fun c xs q => q
    rcases hc with z | z
    · rw [z]; exact nch b u e
    · exact nch c _ z
end
/-- pairs of the items of the tracked lists at a and b -/
noncomputable def Itz (a b : Addr) : It := ⟨fun i H => ∃ xs ys x y, H a = some (.lst xs) ∧ H b = some (.lst ys) ∧ xs[i]? = some x ∧ ys[i]? = some y,
  fun i H v H' => ∃ p x y, H p = none ∧ v = .ref p ∧ (∀ xs, H a = some (.lst xs) → xs[i]? = some x) ∧ (∀ ys, H b = some (.lst ys) → ys[i]? = some y) ∧ H' = upd H p (.tup [x, y]),
  fun i H => ∃ xs ys, H a = some (.lst xs) ∧ H b = some (.lst ys) ∧ (xs.length ≤ i ∨ ys.length ≤ i)⟩
theorem turn_zip {P : Program} {w : World} {K : PySem.W.Frag} {es : List Expr} {k : Nat} {pos : Pos} (a b z TI TO i1 i2 : Addr) (nd : [z, TI, TO, i1, i2].Nodup) :
    Turn P w K (.Tuple es k pos) (Itz a b) [z, TI, TO, i1, i2] z (fun i h => IsZip h z TI TO .none ∧ IsPair h TI (.ref i1) (.ref i2) ∧ (∃ u v, IsPair h TO u v) ∧ h.IsListIter i1 a i ∧ h.IsListIter i2 b i) := by
  have n1 : TI ≠ z := fun e => by simp [e] at nd
  have n2 : TO ≠ z := fun e => by simp [e] at nd
  have n3 : i1 ≠ z := fun e => by simp [e] at nd
  have n4 : i2 ≠ z := fun e => by simp [e] at nd
  have n5 : TI ≠ TO := fun e => by simp [e] at nd
  have n6 : TI ≠ i1 := fun e => by simp [e] at nd
  have n7 : TI ≠ i2 := fun e => by simp [e] at nd
  have n8 : TO ≠ i1 := fun e => by simp [e] at nd
  have n9 : TO ≠ i2 := fun e => by simp [e] at nd
  have n0 : i1 ≠ i2 := fun e => by simp [e] at nd
  have apart : ∀ {H : Hp} {xs ys : List V}, (∀ c ∈ [z, TI, TO, i1, i2], H c = none) → H a = some (.lst xs) → H b = some (.lst ys) → ZipApart z TI TO i1 i2 a b := fun {H xs ys} hf ha hb =>
    ⟨n1, n2, n3, n4, n5, n6, n7, n8, n9, n0, ne_of_none ha (hf z (by simp)), ne_of_none ha (hf TO (by simp)), ne_of_none ha (hf i1 (by simp)), ne_of_none ha (hf i2 (by simp)),
      ne_of_none hb (hf z (by simp)), ne_of_none hb (hf TO (by simp)), ne_of_none hb (hf i1 (by simp)), ne_of_none hb (hf i2 (by simp))⟩
  refine { mem := by simp, obj := ?_, keep := ?_, item := ?_, done := ?_, self := ?_ }
  · rintro i h ⟨h1, h2, ⟨u, v, h3⟩, ⟨o4, h4, _, d4⟩, ⟨o5, h5, _, d5⟩⟩ c hc
    simp only [List.mem_cons, List.not_mem_nil, or_false] at hc
    rcases hc with rfl | rfl | rfl | rfl | rfl
    · exact ⟨_, h1, fun v z => by cases z⟩
    · exact ⟨_, h2, fun v z => by cases z⟩
    · exact ⟨_, h3, fun v z => by cases z⟩
    · exact ⟨_, h4, fun v z => by rw [d4] at z; cases z⟩
    · exact ⟨_, h5, fun v z => by rw [d5] at z; cases z⟩
  · rintro i h h' ⟨h1, h2, ⟨u, v, h3⟩, ⟨o4, h4, r4⟩, ⟨o5, h5, r5⟩⟩ kp
    exact ⟨kp z (by simp) _ h1, kp TI (by simp) _ h2, ⟨u, v, kp TO (by simp) _ h3⟩, ⟨o4, kp i1 (by simp) _ h4, r4⟩, ⟨o5, kp i2 (by simp) _ h5, r5⟩⟩
  · intro X hP hw hK hc i pins s σ H E I hf st hg
    subst hP hw hK
    obtain ⟨h1, h2, ⟨u, v, h3⟩, h4, h5⟩ := st
    obtain ⟨xs, ys, x, y, ha, hb, hx, hy⟩ := hg
    obtain ⟨_, its, n, r, hlen, eo⟩ := I.lstM ha
    obtain ⟨_, its2, m, r2, hlen2, eo2⟩ := I.lstM hb
    obtain ⟨ux, hux, rux⟩ := Vals.get r hx
    obtain ⟨uy, huy, ruy⟩ := Vals.get r2 hy
    have hn : H s.heap.objs.size = none := I.hok.fresh (Nat.le_refl _)
    have new : ∀ c ∈ [z, TI, TO, i1, i2], c ≠ s.heap.objs.size := fun c hc q => by
      have : ∃ o, s.heap.get? c = some o := by
        simp only [List.mem_cons, List.not_mem_nil, or_false] at hc
        obtain ⟨o4, h4, _⟩ := h4
        obtain ⟨o5, h5, _⟩ := h5
        rcases hc with rfl | rfl | rfl | rfl | rfl
        · exact ⟨_, h1⟩
        · exact ⟨_, h2⟩
        · exact ⟨_, h3⟩
        · exact ⟨_, h4⟩
        · exact ⟨_, h5⟩
      obtain ⟨o, ho⟩ := this
      exact absurd (Heap.lt_size ho) (by rw [q]; exact Nat.lt_irrefl _)
    refine wpAny_pyNext_zip_item (apart (fun c hc => (hf c hc).1) ha hb) h1 h2 h3 h4 h5 (xs := its.toArray) (ys := its2.toArray) ⟨_, eo, rfl, _, rfl⟩ ⟨_, eo2, rfl, _, rfl⟩ (x := ux) (y := uy) (by simpa using hux) (by simpa using huy)
      fun h6 e1 e2 e3 e4 e5 e6 e7 => ?_
    refine ⟨_, rfl, wpAny_letOwnedTupleGo_zip e1 fun h7 e8 sb => ?_⟩
    have J : Inv X pins σ (upd H s.heap.objs.size (.tup [x, y])) { s with heap := h7 } := by
      refine I.turnedNew (t' := s.toks) (ch := [z, TI, TO, i1, i2]) (fun c o hc q => ?_) hf (Nat.le_refl _) ⟨by rw [sizeLine_eq]; show 2 ≤ 16777216; decide, [ux, uy], .cons rux (.cons ruy .nil), _, (sb.2 _ (new z (by simp)).symm).trans e5, rfl, 0, rfl⟩
      have c1 : c ≠ z := fun w => hc (by simp [w])
      exact (sb.2 c c1).trans (e7 c o c1 (fun w => hc (by simp [w])) (fun w => hc (by simp [w])) (fun w => hc (by simp [w])) q)
    refine ⟨.ref s.heap.objs.size, _, J, rfl, ⟨s.heap.objs.size, x, y, hn, rfl, fun xs' h => by rw [ha] at h; cases h; exact hx, fun ys' h => by rw [hb] at h; cases h; exact hy, rfl⟩, ⟨e8, ?_, ⟨ux, uy, ?_⟩, ?_, ?_⟩, fun c hc => ?_⟩
    · exact (sb.2 TI n1).trans (e7 TI _ n1 n5 n6 n7 h2)
    · exact (sb.2 TO n2).trans e2
    · obtain ⟨o, ho, q⟩ := e3
      exact ⟨o, (sb.2 i1 n3).trans ho, q⟩
    · obtain ⟨o, ho, q⟩ := e4
      exact ⟨o, (sb.2 i2 n4).trans ho, q⟩
    · rw [upd_ne (new c hc)]
      exact (hf c hc).1
  · intro X hP hw hK hc i pins s σ H E I hf st hg
    subst hP hw hK
    obtain ⟨h1, h2, ⟨u, v, h3⟩, h4, h5⟩ := st
    obtain ⟨xs, ys, ha, hb, hx⟩ := hg
    obtain ⟨_, its, n, r, hlen, eo⟩ := I.lstM ha
    obtain ⟨_, its2, m, r2, hlen2, eo2⟩ := I.lstM hb
    refine wpAny_pyNext_zip_end (I.ok.hd hc) (apart (fun c hc => (hf c hc).1) ha hb) h1 h2 h3 h4 h5 (xs := its.toArray) (ys := its2.toArray) ⟨_, eo, rfl, _, rfl⟩ ⟨_, eo2, rfl, _, rfl⟩ (by simp; omega) fun h6 e7 => ?_
    exact ⟨rfl, I.turnedN (t' := s.toks) (ch := [z, TI, TO, i1, i2]) (fun c o hc q => e7 c o (fun w => hc (by simp [w])) (fun w => hc (by simp [w])) (fun w => hc (by simp [w])) (fun w => hc (by simp [w])) q) hf⟩
  · exact fun _ _ _ _ _ st h => wpAny_pyIter_zip st.1 h
noncomputable def iZip (ta : TA) : TI := fun σ H R => ta σ H fun vs H1 => ∃ a b xs ys, vs = [.ref a, .ref b] ∧ H1 a = some (.lst xs) ∧ H1 b = some (.lst ys) ∧ R (Itz a b) H1
theorem pi_zip {X : Cx} {es : List Expr} {k : Nat} {tpos : Pos} {e f : Expr} {ta : TA} {p pos : Pos} (hg : Gl X "zip") (hm : X.mg "zip" = none) (ha : PA X [e, f] ta) (hs : starEach [e, f] X.env = (false, eval e X.env) :: starEach [f] X.env := by rfl)
    (hpl : (backTo pos (starEach [f] X.env)).any (·.1) = false := by rfl) : PI X (.Tuple es k tpos) (.Call (.Name "zip" p) [e, f] [] pos) (iZip ta) := by
  intro pins s σ H R I h
  refine wpAny_Call_Name_kw (ld_blt I hg hm bt_zip ?_ (by decide) (by decide))
  refine PyProof.Rows.callWith_type1 (thn (ha pos pins s σ H _ I h) fun us s1 ⟨vs, H1, I1, r1, a, b, xs, ys, e1, hl, hl2, q⟩ => ?_) hs hpl
  subst e1
  obtain ⟨u, v, rfl, ru, rv⟩ := vals2 r1
  cases ru
  cases rv
  obtain ⟨_, its, n, r, hlen, eo⟩ := I1.lstM hl
  obtain ⟨_, its2, m, r2, hlen2, eo2⟩ := I1.lstM hl2
  refine call_zip_2 (xs := its.toArray) (ys := its2.toArray) ⟨_, eo, rfl, _, rfl⟩ ⟨_, eo2, rfl, _, rfl⟩ fun h2 e1 e2 e3 e4 e5 e6 e7 => ?_
  have I2 : Inv X pins σ H1 { s1 with heap := h2 } := I1.kept (t' := s1.toks) e7
  refine wpAny_pyIter_zip e1 ?_
  refine ⟨s1.heap.objs.size + 4, [s1.heap.objs.size + 4, s1.heap.objs.size + 2, s1.heap.objs.size + 3, s1.heap.objs.size, s1.heap.objs.size + 1], _, _, H1, rfl, I2, turn_zip a b _ _ _ _ _ (by simp), ⟨e1, e2, ⟨_, _, e3⟩, e4, e5⟩, fun c hc => ?_, q⟩
  have hc' : s1.heap.objs.size ≤ c := by
    simp only [List.mem_cons, List.not_mem_nil, or_false] at hc
    rcases hc with z | z | z | z | z <;> rw [z] <;> first | exact Nat.le_refl _ | exact Nat.le_add_right _ _
  exact I1.fpOk hc' (I1.hok.fresh hc')
theorem for_zip {a b : Addr} {xs ys : List V} {g : TG} {tb : TS} {D : Ends} {σ : St} {H : Hp} (he : xs.length = ys.length) (Pv : Nat → St → Hp → Prop) (h0 : Pv 0 σ H) (hl : ∀ i σ H, Pv i σ H → H a = some (.lst xs) ∧ H b = some (.lst ys))
    (hs : ∀ (i : Nat) x y σ H p, xs[i]? = some x → ys[i]? = some y → Pv i σ H → H p = none → g (.ref p) σ (upd H p (.tup [x, y])) fun σ2 H2 => tb { D with nx := Pv (i + 1), ct := Pv (i + 1), bk := D.nx } σ2 H2) (hd : ∀ σ H, Pv xs.length σ H → D.nx σ H) :
    ∃ W : Nat → Nat → St → Hp → Prop, (∃ m, W 0 m σ H) ∧ ∀ i m σ H, W i m σ H →
      ((Itz a b).stop i H ∧ D.nx σ H) ∨ ((Itz a b).go i H ∧ ∃ N : St → Hp → Prop, (∀ σ' H', N σ' H' → ∃ m', m' < m ∧ W (i + 1) m' σ' H') ∧ ∀ x H', (Itz a b).yld i H x H' → g x σ H' fun σ2 H2 => tb { D with nx := N, ct := N, bk := D.nx } σ2 H2) := by
  refine ⟨fun i m σ H => m = xs.length - i ∧ i ≤ xs.length ∧ Pv i σ H, ⟨_, rfl, Nat.zero_le _, h0⟩, ?_⟩
  rintro i m σ H ⟨rfl, hi, p⟩
  obtain ⟨q1, q2⟩ := hl i σ H p
  by_cases hlt : i < xs.length
  · refine .inr ⟨⟨xs, ys, xs[i], ys[i]'(by omega), q1, q2, by simp [hlt], by simp [show i < ys.length by omega]⟩, Pv (i + 1), fun σ' H' p' => ⟨_, by omega, rfl, hlt, p'⟩, fun v H' y => ?_⟩
    obtain ⟨c, x, y, hc, rfl, hx, hy, rfl⟩ := y
    exact hs i x y σ H c (hx xs q1) (hy ys q2) p hc
  · have e : i = xs.length := by omega
    subst e
    exact .inl ⟨⟨xs, ys, q1, q2, .inl (Nat.le_refl _)⟩, hd σ H p⟩
end L2

set_option Elab.async false
set_option linter.all false
set_option maxRecDepth 100000
set_option maxHeartbeats 4000000
namespace NumM
open PySem PySem.NumText

theorem toNat_ofNat {c : Nat} (h : c < 128) : (Char.ofNat c).toNat = c := by
  have : c.isValidChar := Or.inl (by omega)
  simp [Char.ofNat, this, Char.toNat, Char.ofNatAux]
theorem back {cs : List Nat} (h : AllDigits cs) : (cs.map Char.ofNat).map Char.toNat = cs := by
  rw [List.map_map]
  induction cs with
  | nil => rfl
  | cons c cs ih =>
    rw [List.map_cons, ih h.tail]
    have := h.head
    show (Char.ofNat c).toNat :: cs = _
    rw [toNat_ofNat (by omega)]
end NumM
namespace L2
open PySem PySem.Spec PyProof.Rows
noncomputable def within (lo hi : Int) : Option Int → Option Int
  | some n => if lo ≤ n ∧ n ≤ hi then some n else none
  | none => none
noncomputable def madeB (t S : Str) (m : Int) : Bool := decide (1 ≤ (t.cps.size : Int) ∧ (t.cps.size : Int) ≤ m) && t.cps.toList.all fun c => decide (c ∈ S.cps.toList)
end L2

set_option Elab.async false
set_option linter.all false
set_option maxRecDepth 100000
set_option maxHeartbeats 4000000
namespace SplM
open PySem
/-- the parts between the signs c -/
noncomputable def splitC (c : Nat) : List Nat → List (List Nat)
  | [] => [[]]
  | a :: l => if a = c then [] :: splitC c l else match splitC c l with
    | [] => [[a]]
    | p :: r => (a :: p) :: r
/-- the parts with c between -/
noncomputable def joinC (c : Nat) : List (List Nat) → List Nat
  | [] => []
  | [p] => p
  | p :: q :: r => p ++ c :: joinC c (q :: r)
theorem splitC_ne (c : Nat) : ∀ l, splitC c l ≠ []
  | [] => by simp [splitC]
  | a :: l => by
    unfold splitC
    split
    · exact List.cons_ne_nil _ _
    · split <;> exact List.cons_ne_nil _ _
theorem joinC_cons (c : Nat) (p : List Nat) {r : List (List Nat)} (h : r ≠ []) : joinC c (p :: r) = p ++ c :: joinC c r := by
  cases r with
  | nil => exact absurd rfl h
  | cons q r => rfl
theorem split_app (c : Nat) : ∀ (p l : List Nat), c ∉ p → splitC c (p ++ c :: l) = p :: splitC c l
  | [], l, _ => by simp [splitC]
  | a :: p, l, h => by
    have ha : a ≠ c := fun e => h (by rw [e]; exact List.mem_cons_self)
    have ih := split_app c p l fun z => h (List.mem_cons_of_mem _ z)
    rw [List.cons_append, splitC, if_neg ha, ih]
theorem split_free (c : Nat) : ∀ (p : List Nat), c ∉ p → splitC c p = [p]
  | [], _ => rfl
  | a :: p, h => by
    have ha : a ≠ c := fun e => h (by rw [e]; exact List.mem_cons_self)
    unfold splitC
    rw [if_neg ha, split_free c p fun z => h (List.mem_cons_of_mem _ z)]
theorem split_join (c : Nat) : ∀ (ps : List (List Nat)), ps ≠ [] → (∀ p ∈ ps, c ∉ p) → splitC c (joinC c ps) = ps
  | [], h, _ => absurd rfl h
  | [p], _, h => split_free c p (h p List.mem_cons_self)
  | p :: q :: r, _, h => by
    rw [joinC, split_app c p _ (h p List.mem_cons_self), split_join c (q :: r) (List.cons_ne_nil _ _) fun x hx => h x (List.mem_cons_of_mem _ hx)]
theorem join_split (c : Nat) : ∀ l, joinC c (splitC c l) = l
  | [] => rfl
  | a :: l => by
    have ih := join_split c l
    unfold splitC
    split
    · rename_i e
      rw [joinC_cons c [] (splitC_ne c l), ih, e]; rfl
    · cases hs : splitC c l with
      | nil => exact absurd hs (splitC_ne c l)
      | cons p r =>
        rw [hs] at ih
        show joinC c ((a :: p) :: r) = a :: l
        cases r with
        | nil => rw [← ih]; rfl
        | cons q r => rw [← ih]; rfl
theorem split_len (c : Nat) : ∀ l, (splitC c l).length ≤ l.length + 1
  | [] => Nat.le_refl _
  | a :: l => by
    have ih := split_len c l
    unfold splitC
    split
    · simp only [List.length_cons]; omega
    · cases hs : splitC c l with
      | nil => simp
      | cons q r => rw [hs] at ih; simp only [List.length_cons] at ih ⊢; omega
theorem codes_join (c : Nat) : ∀ ts : List Str, (Str.join ⟨#[c]⟩ ts).cps.toList = joinC c (ts.map fun t => t.cps.toList)
  | [] => rfl
  | [t] => rfl
  | t :: u :: r => by
    have ih := codes_join c (u :: r)
    show (t ++ (⟨#[c]⟩ : Str) ++ Str.join ⟨#[c]⟩ (u :: r)).cps.toList = _
    rw [Str.cps_append, Str.cps_append, Array.toList_append, Array.toList_append, ih]
    show t.cps.toList ++ [c] ++ _ = t.cps.toList ++ c :: _
    rw [List.append_assoc]; rfl
/-- t.split(c), by the codes -/
theorem codes_split (x : Str) (c : Nat) : (Txt.split x ⟨#[c]⟩).map (fun t => t.cps.toList) = splitC c x.cps.toList := by
  have h1 := StrLaws.join_split x ⟨#[c]⟩
  have h2 := StrLaws.split_free x c
  have hne : Txt.split x ⟨#[c]⟩ ≠ [] := by
    unfold Txt.split
    split
    · exact List.cons_ne_nil _ _
    · split
      · exact List.cons_ne_nil _ _
      · rw [StrLaws.partsBetween_eq]
        obtain ⟨p, r, e⟩ := StrLaws.partsFrom_ne x (⟨#[c]⟩ : Str).length 0 (Builtin.Str.occurrences x ⟨#[c]⟩ 0 x.length (x.length + 1))
        rw [e]; exact List.cons_ne_nil _ _
  have h3 := codes_join c (Txt.split x ⟨#[c]⟩)
  rw [h1] at h3
  rw [h3, split_join c _ (by simpa using hne) ?_]
  intro p hp
  obtain ⟨t, ht, rfl⟩ := List.mem_map.mp hp
  exact h2 t ht
end SplM
namespace L2
open PySem PySem.Spec PyProof.Rows
/-! ### join, split, fields of texts, truth, list methods -/
section
variable {X : Cx}
theorem vals_strs : ∀ {ts : List Str} {us : List Value}, Vals (ts.map V.str) us → StrsAre us ts
  | [], us, r => by
    rw [List.map_nil] at r
    cases r
    exact .nil
  | t :: ts, us, r => by
    rw [List.map_cons] at r
    cases r with
    | cons r1 r2 =>
      obtain ⟨k, rfl⟩ := r1
      exact .cons t k (vals_strs r2)
/-- sep.join(texts), of a list or a tuple -/
noncomputable def rJoin (K : PySem.W.Frag) : V → List V → Hp → VK → Prop := fun x xs H Q => ∃ (z : Str) (p : Addr) (ts : List Str), x = .str z ∧ xs = [.ref p] ∧ (SqL K H p (ts.map V.str) ∨ SqT K H p (ts.map V.str)) ∧
  (ts.map (·.length)).sum + ts.length * z.length ≤ 16777216 ∧ Q (.str (Txt.join z ts)) H
theorem mt_join : MtR X "str.join" (rJoin X.K) := by
  intro pins s σ H x xs v us Q I rx rs h
  obtain ⟨z, p, ts, rfl, rfl, hp, hz, q⟩ := h
  obtain ⟨t, rfl⟩ := rx
  obtain ⟨u, rfl, ru⟩ := vals1 rs
  cases ru
  rcases hp with hp | hp
  · obtain ⟨its, r, pl, _⟩ := I.list hp
    exact join_list pl.isList (by simpa using vals_strs r) hz fun t' k => ⟨.str _, H, I.tok _, ⟨_, rfl⟩, q⟩
  · obtain ⟨its, r, pl, _⟩ := I.tuple hp
    exact join_tuple pl (by simpa using vals_strs r) hz fun t' k => ⟨.str _, H, I.tok _, ⟨_, rfl⟩, q⟩
theorem vals_of_strs : ∀ (l : List (Str × Tok)), Vals ((l.map (·.1)).map V.str) (strValues l)
  | [] => .nil
  | p :: l => .cons ⟨p.2, rfl⟩ (vals_of_strs l)
open Builtin.Str in
theorem split_new {P : Program} {w : World} {A : Around} {E : Value → Shared → Prop} {s : Shared} {x y : Str} {t u : Tok} {Q : Value → Shared → Prop} (hy : (y.length == 0) = false) (hx : x.length ≤ sizeLine)
    (hp : (partsBetween x (occurrences x y 0 x.length (x.length + 1)) y.length).length ≤ sizeLine)
    (h : ∀ (l : List (Str × Tok)) (k : Nat), l.map (·.1) = Txt.split x y → Q (.ref s.heap.objs.size) { s with heap := s.heap.push { cls := .type "list", data := .seq (strValues l).toArray }, toks := k }) :
    wpAny (model P w) A (call (.builtin "str.split") [.str x t, .str y u]) Q E s := by
  by_cases h1 : (decide (x.length < y.length) || decide (strKind x < strKind y)) = true
  · refine call_meets F.slot_str_split (typeIs_str s x t) F.entry_str_split (F.args_str_split_2 _ _) (meets_str_split_cannot_occur x y t u h1) ?_
    exact h [(x, t)] s.toks (by unfold Txt.split; rw [if_pos h1]; rfl)
  · have h1' := eq_false_of_ne_true h1
    by_cases h2 : (occurrences x y 0 x.length (x.length + 1)).isEmpty = true
    · refine call_meets F.slot_str_split (typeIs_str s x t) F.entry_str_split (F.args_str_split_2 _ _) (meets_str_split_not_found x y t u h1' hy h2) ?_
      exact h [(x, t)] s.toks (by unfold Txt.split; rw [if_neg h1, if_pos h2]; rfl)
    · have h2' := eq_false_of_ne_true h2
      refine call_meets F.slot_str_split (typeIs_str s x t) F.entry_str_split (F.args_str_split_2 _ _) (meets_str_split_sep x y t u h1' hy h2' hx hp) ?_
      have := h (numbered s.toks (partsBetween x (occurrences x y 0 x.length (x.length + 1)) y.length)) (s.toks + (partsBetween x (occurrences x y 0 x.length (x.length + 1)) y.length).length)
        ((numbered_texts _ _).trans (by unfold Txt.split; rw [if_neg h1, if_neg h2]))
      rw [← strsFrom_eq] at this
      exact this
/-- text.split(sign): a new list -/
noncomputable def rSplit : V → List V → Hp → VK → Prop := fun x xs H Q => ∃ (z : Str) (c : Nat), x = .str z ∧ xs = [.str ⟨#[c]⟩] ∧ z.cps.size + 2 ≤ sizeLine ∧
  ∀ (l : Addr) (ts : List Str), H l = none → ts.map (fun t => t.cps.toList) = SplM.splitC c z.cps.toList → Q (.ref l) (upd H l (.lst (ts.map V.str)))
theorem mt_split : MtR X "str.split" rSplit := by
  intro pins s σ H x xs v us Q I rx rs h
  obtain ⟨z, c, rfl, rfl, hz, q⟩ := h
  obtain ⟨t, rfl⟩ := rx
  obtain ⟨u, rfl, t', rfl⟩ := vals1 rs
  have hs : (Txt.split z ⟨#[c]⟩).length ≤ sizeLine := by
    have h1 := congrArg List.length (SplM.codes_split z c)
    have h2 := SplM.split_len c z.cps.toList
    rw [List.length_map] at h1
    simp only [Array.length_toList] at h2
    omega
  have hpl : (Builtin.Str.partsBetween z (Builtin.Str.occurrences z ⟨#[c]⟩ 0 z.length (z.length + 1)) (⟨#[c]⟩ : Str).length).length ≤ sizeLine := by
    have h1 := PySem.StrLaws.occ_length_le z ⟨#[c]⟩ 0 z.length (z.length + 1)
    rw [PySem.StrLaws.partsBetween_eq]
    have h3 : ∀ (cuts : List Nat) (a : Nat), (PySem.StrLaws.partsFrom z (⟨#[c]⟩ : Str).length a cuts).length = cuts.length + 1 := by
      intro cuts
      induction cuts with
      | nil => intro a; rfl
      | cons d cuts ih => intro a; show (_ :: _).length = _; rw [List.length_cons, ih]; rfl
    rw [h3]
    have h4 := PySem.StrLaws.occ_length_le_len z ⟨#[c]⟩ 0 z.length (z.length + 1)
    have e : z.length = z.cps.size := rfl
    omega
  refine split_new rfl (show z.cps.size ≤ sizeLine by omega) hpl fun l k e => ?_
  refine ⟨.ref s.heap.objs.size, _, I.lnew (t' := k) (ys := (l.map (·.1)).map V.str) (vals_of_strs l) (by rw [List.length_map, e]; exact hs), rfl, q _ _ (I.hok.fresh (Nat.le_refl _)) ?_⟩
  rw [e]
  exact SplM.codes_split z c

/-! fields of an f-string -/
variable {o e : Expr} {es : List Expr} {to : TE} {t : TA} {apos cpos : Pos}
theorem pe_m.join (ho : PE X o to) (ha : PA X (e :: es) t) (hbase : attributeBase o "join" X.env (eval o X.env) = eval o X.env := by rfl)
    (hfew : ((backTo cpos (starEach (e :: es) X.env)).all (fun x => !x.1) && (backToKw cpos (keywordEach [] X.env)).all (fun x => x.1.isSome) && decide ((e :: es).length + ([] : List Keyword).length + (if ([] : List Keyword).isEmpty then 0 else 1) < 30)) = true := by rfl)
    (hline : (apos.endLine == cpos.line) = true := by rfl) (hs : starEach (e :: es) X.env = (false, eval e X.env) :: starEach es X.env := by rfl) (hplain : (backTo cpos (starEach es X.env)).any (·.1) = false := by rfl) :
    PE X (.Call (.Attribute o "join" apos) (e :: es) [] cpos) (tBM X.K "str" (rJoin X.K) to t) := pe_bm F.plainAttrs_str F.slot_str_join F.type_str_join mt_join ho ha hbase hfew hline hs hplain
theorem pe_m.split (ho : PE X o to) (ha : PA X (e :: es) t) (hbase : attributeBase o "split" X.env (eval o X.env) = eval o X.env := by rfl)
    (hfew : ((backTo cpos (starEach (e :: es) X.env)).all (fun x => !x.1) && (backToKw cpos (keywordEach [] X.env)).all (fun x => x.1.isSome) && decide ((e :: es).length + ([] : List Keyword).length + (if ([] : List Keyword).isEmpty then 0 else 1) < 30)) = true := by rfl)
    (hline : (apos.endLine == cpos.line) = true := by rfl) (hs : starEach (e :: es) X.env = (false, eval e X.env) :: starEach es X.env := by rfl) (hplain : (backTo cpos (starEach es X.env)).any (·.1) = false := by rfl) :
    PE X (.Call (.Attribute o "split" apos) (e :: es) [] cpos) (tBM X.K "str" rSplit to t) := pe_bm F.plainAttrs_str F.slot_str_split F.type_str_split mt_split ho ha hbase hfew hline hs hplain
theorem pe_m.append (ho : PE X o to) (ha : PA X (e :: es) t) (hbase : attributeBase o "append" X.env (eval o X.env) = eval o X.env := by rfl)
    (hfew : ((backTo cpos (starEach (e :: es) X.env)).all (fun x => !x.1) && (backToKw cpos (keywordEach [] X.env)).all (fun x => x.1.isSome) && decide ((e :: es).length + ([] : List Keyword).length + (if ([] : List Keyword).isEmpty then 0 else 1) < 30)) = true := by rfl)
    (hline : (apos.endLine == cpos.line) = true := by rfl) (hs : starEach (e :: es) X.env = (false, eval e X.env) :: starEach es X.env := by rfl) (hplain : (backTo cpos (starEach es X.env)).any (·.1) = false := by rfl) :
    PE X (.Call (.Attribute o "append" apos) (e :: es) [] cpos) (tBM X.K "list" rAppend to t) := pe_bm F.plainAttrs_list F.slot_list_append F.type_list_append mt_append ho ha hbase hfew hline hs hplain
theorem pe_m.popAt (ho : PE X o to) (ha : PA X (e :: es) t) (hbase : attributeBase o "pop" X.env (eval o X.env) = eval o X.env := by rfl)
    (hfew : ((backTo cpos (starEach (e :: es) X.env)).all (fun x => !x.1) && (backToKw cpos (keywordEach [] X.env)).all (fun x => x.1.isSome) && decide ((e :: es).length + ([] : List Keyword).length + (if ([] : List Keyword).isEmpty then 0 else 1) < 30)) = true := by rfl)
    (hline : (apos.endLine == cpos.line) = true := by rfl) (hs : starEach (e :: es) X.env = (false, eval e X.env) :: starEach es X.env := by rfl) (hplain : (backTo cpos (starEach es X.env)).any (·.1) = false := by rfl) :
    PE X (.Call (.Attribute o "pop" apos) (e :: es) [] cpos) (tBM X.K "list" rPopAt to t) := pe_bm F.plainAttrs_list F.slot_list_pop F.type_list_pop mt_popAt ho ha hbase hfew hline hs hplain
theorem pe_m.clear (ho : PE X o to) (hbase : attributeBase o "clear" X.env (eval o X.env) = eval o X.env := by rfl) (hline : (apos.endLine == cpos.line) = true := by rfl) :
    PE X (.Call (.Attribute o "clear" apos) [] [] cpos) (tBM0 X.K "list" rClear to) := pe_bm0 F.plainAttrs_list F.slot_list_clear F.type_list_clear mt_clear ho hbase hline
theorem pe_m.pop (ho : PE X o to) (hbase : attributeBase o "pop" X.env (eval o X.env) = eval o X.env := by rfl) (hline : (apos.endLine == cpos.line) = true := by rfl) :
    PE X (.Call (.Attribute o "pop" apos) [] [] cpos) (tBM0 X.K "list" rPop to) := pe_bm0 F.plainAttrs_list F.slot_list_pop F.type_list_pop mt_pop ho hbase hline
end
/-! ### tuples stay -/
noncomputable def TK (H H' : Hp) : Prop := ∀ b xs, H b = some (.tup xs) → H' b = some (.tup xs)
theorem TK.refl (H : Hp) : TK H H := fun _ _ h => h
theorem TK.trans {H H1 H2 : Hp} (a : TK H H1) (b : TK H1 H2) : TK H H2 := fun c o h => b c o (a c o h)
theorem Same.tk {H H' : Hp} (e : Same H H') : TK H H' := fun b xs h => e b _ h
theorem TK.lst {H : Hp} {l : Addr} {xs ys : List V} (h : H l = some (.lst xs)) : TK H (upd H l (.lst ys)) := fun b zs e => by
  rw [upd_ne (ne_of e h (by intro z; cases z))]; exact e
theorem Same.put {H H' : Hp} {D : Addr} {o : HO} (e : Same H H') (h : H D = none) : Same H (upd H' D o) := fun b u q => by
  rw [upd_ne (ne_of_none q h)]; exact e b u q
theorem atI_cons {α : Type} {xs : List α} {i : Int} {v : α} (k : Nat) (hk : (k : Int) = i) (h : xs[k]? = some v) : atI xs i = some v := by rw [← hk]; exact atI_nat h
noncomputable def nameB (t : Str) : Bool := madeB t "abcdefghijklmnopqrstuvwxyz" 8
end L2

set_option Elab.async false
set_option linter.all false
set_option maxRecDepth 100000
set_option maxHeartbeats 4000000
namespace L2
open PySem PySem.Spec PyProof.Rows
/-! ### units -/
structure U where
  name : Str
  value : Int
  size : Int
  path : List Str
noncomputable def uV (p : Addr) (u : U) : List V := [.str u.name, .int u.value, .int u.size, .ref p]
noncomputable def IsU (H : Hp) (u : U) (x : V) : Prop := ∃ a p, x = .ref a ∧ H a = some (.tup (uV p u)) ∧ H p = some (.tup (u.path.map V.str))
theorem IsU.tk {H H' : Hp} {u : U} {x : V} (k : TK H H') (h : IsU H u x) : IsU H' u x := let ⟨a, p, h1, h2, h3⟩ := h; ⟨a, p, h1, k a _ h2, k p _ h3⟩
noncomputable abbrev AllU (H : Hp) : List U → List V → Prop := Paired (IsU H)
theorem AllU.tk {H H' : Hp} (k : TK H H') : ∀ {us : List U} {xs : List V}, AllU H us xs → AllU H' us xs
  | _, _, .nil => .nil
  | _, _, .cons r t => .cons (r.tk k) (AllU.tk k t)
theorem AllU.len {H : Hp} {us : List U} {xs : List V} (h : AllU H us xs) : us.length = xs.length := Paired.length h
theorem AllU.get {H : Hp} : ∀ {us : List U} {xs : List V} {i : Nat} {x : V}, AllU H us xs → xs[i]? = some x → ∃ u, us[i]? = some u ∧ IsU H u x
  | _, _, _, _, .nil, h => by cases h
  | _, _, 0, _, .cons r _, h => ⟨_, rfl, by cases h; exact r⟩
  | _, _, i + 1, _, .cons _ t, h => AllU.get (i := i) t h
theorem AllU.take {H : Hp} : ∀ {us : List U} {xs : List V} (k : Nat), AllU H us xs → AllU H (us.take k) (xs.take k)
  | _, _, 0, _ => by rw [List.take_zero, List.take_zero]; exact .nil
  | _, _, _ + 1, .nil => .nil
  | _, _, k + 1, .cons r t => .cons r (AllU.take k t)
theorem AllU.snoc {H : Hp} {u : U} {x : V} (r : IsU H u x) : ∀ {us : List U} {xs : List V}, AllU H us xs → AllU H (us ++ [u]) (xs ++ [x])
  | _, _, .nil => .cons r .nil
  | _, _, .cons q t => .cons q (AllU.snoc r t)
structure GoodU (u : U) : Prop where
  nm : nameB u.name = true
  v0 : -1000000000 ≤ u.value
  v1 : u.value ≤ 1000000000
  s0 : 1 ≤ u.size
  s1 : u.size ≤ 1000000
  pl : u.path.length ≤ 3
  pn : ∀ n ∈ u.path, nameB n = true
structure GoodL (us : List U) : Prop where
  l1 : 1 ≤ us.length
  l2 : us.length ≤ 24
  each : ∀ u ∈ us, GoodU u
  nd : (us.map U.name).Nodup
  pth : ∀ u ∈ us, ∀ v ∈ us, u.path.length = v.path.length
/-! deep data of units -/
noncomputable def uD (u : U) : PyData := .tuple [.str u.name, .int u.value, .int u.size, .tuple (u.path.map PyData.str)]
theorem dvs_str {K : PySem.W.Frag} {H : Hp} : ∀ (l : List Str), DVs K H (l.map PyData.str) (l.map V.str)
  | [] => by simp [DVs]
  | c :: l => by
    rw [List.map_cons, List.map_cons, DVs]
    exact ⟨_, _, rfl, by simp [DV], dvs_str l⟩
theorem IsU.dv {K : PySem.W.Frag} {H : Hp} {u : U} {x : V} (h : IsU H u x) : DV K H (uD u) x := by
  obtain ⟨a, p, rfl, h2, h3⟩ := h
  rw [uD, DV]
  refine ⟨a, _, rfl, SqT.of h2, ?_⟩
  rw [uV, DVs]
  refine ⟨_, _, rfl, by simp [DV], ?_⟩
  rw [DVs]
  refine ⟨_, _, rfl, by simp [DV], ?_⟩
  rw [DVs]
  refine ⟨_, _, rfl, by simp [DV], ?_⟩
  rw [DVs]
  refine ⟨_, _, rfl, ?_, by simp [DVs]⟩
  rw [DV]
  exact ⟨p, _, rfl, SqT.of h3, dvs_str _⟩
theorem AllU.dvs {K : PySem.W.Frag} {H : Hp} : ∀ {us : List U} {xs : List V}, AllU H us xs → DVs K H (us.map uD) xs
  | _, _, .nil => by simp [DVs]
  | _, _, .cons r t => by
    rw [List.map_cons, DVs]
    exact ⟨_, _, rfl, r.dv, AllU.dvs t⟩
/-! the rules with the written part told apart (within a comprehension) -/
section
variable {X : Cx} {K : PySem.W.Frag}
theorem ix_seqK (h : X.K = K) : IxR X (rIx K) := h ▸ ix_seq
theorem pg_tupK (h : X.K = K) {es : List Expr} {k : Nat} {t : TGs} {n : Nat} {pos : Pos} (hc : X.calm = true) (hp : PGs X es t) (hn : (assignEach es X.env).length = n := by rfl) (hst : (assignEach es X.env).findIdx? (·.1) = none := by rfl) :
    PG X (.Tuple es k pos) (gTup K n t) := h ▸ pg_tup hc hp hn hst
end
end L2

set_option Elab.async false
set_option linter.all false
set_option maxRecDepth 100000
set_option maxHeartbeats 4000000
namespace L2
open PySem PySem.Spec PyProof.Rows

/-! ### an own exception's class, asked of an instance -/
structure XCls (K : PySem.W.Frag) (D : Addr) : Prop where
  ga : PySem.W.findIn K (.ref D) "__getattribute__" = some (some (.builtin "BaseException.__getattribute__"))
  gn : PySem.W.findIn K (.ref D) "__getattr__" = some none
  cl : PySem.W.findIn K (.ref D) "__class__" = some (some (.builtin "object.__class__"))
  mb : PySem.W.mroIn K D (.type "BaseException") = some true
  mo : PySem.W.mroIn K D (.type "object") = some true
  isc : (PySem.W.clsIn K D).isSome = true

section
variable {prog : Program} {w : World} {A : Around} {E : Value → Shared → Prop} {h : Heap} {g : Array GenState} {d : Drawn} {t : Nat} {os : OsState} {a D : Addr} {o : Obj} {K : PySem.W.Frag}
theorem xc_check {M : Model} {nameV : Value} {Q : Unit → Shared → Prop} (c : XCls K D) (X : K.In h) (hx : h.get? a = some o) (hc : o.cls = .ref D) (hq : Q () ⟨h, g, d, t, os⟩) :
    wpAny M A (checkBuiltinCall "BaseException.__getattribute__" ⟨[.ref a, nameV], []⟩) Q E ⟨h, g, d, t, os⟩ := by
  have hk : builtinKind "BaseException.__getattribute__" = some .slot := by decide +kernel
  have hsplit : splitId "BaseException.__getattribute__" = some ("BaseException", "__getattribute__") := by decide +kernel
  have ha := F.args_bexc_ga (.ref a) nameV
  simp only [checkBuiltinCall, hk, hsplit]
  refine wpAny_bind ?_
  unfold isInstance
  repeat (first | (with_reducible refine wpAny_loadPart_at hx ?_; rw [hc]) | with_reducible refine (PySem.W.looks_mroIn X c.mb).at ?_ | wp_step)
  exact hq
theorem xc_get {R : Result → Shared → Prop} (c : XCls K D) (X : K.In h) (hx : h.get? a = some o) (hc : o.cls = .ref D) (hq : R (.ok (.ret (.ref D))) ⟨h, g, d, t, os⟩) :
    codeAny (model prog w) A (.call (.builtin "getset_descriptor.__get__") ⟨[.builtin "object.__class__", .ref a, .ref D], []⟩) R ⟨h, g, d, t, os⟩ := by
  have hT5 : (⟨h, g, d, t, os⟩ : Shared).TypeIs (.builtin "object.__class__") "getset_descriptor" := F.typeOf_object_class
  have hO : PySem.W.Looks (model prog w) h (isSubtype (.ref D) (.type (".".intercalate ("object.__class__".cutAt '.').dropLast))) true := by
    rw [F.owner_object_class]; exact PySem.W.looks_mroIn X c.mo
  refine codeAny_call_builtin F.slot_gs_get.plain F.entry_gs_get (F.slot_gs_get.check _ _ _ _ _ _ _ _ hT5 (F.args_gs_get _ _ _) ?_)
  repeat (any_goals (first | assumption | (with_reducible refine wpAny_loadPart_at hx ?_; rw [hc]) | with_reducible refine hO.at ?_ | wp_step))
  refine ⟨Code.quiet_builtin _ (by decide +kernel), codeAny_builtin F.entry_object_class ?_⟩
  repeat (any_goals (first | assumption | (with_reducible refine wpAny_loadPart_at hx ?_; rw [hc]) | wp_step))
theorem xc_entry {tk : Tok} {Q : Fin → Shared → Prop} (c : XCls K D) (X : K.In h) (hx : h.get? a = some o) (hc : o.cls = .ref D) (hq : Q (.done (.ret (.ref D))) ⟨h, g, d, t, os⟩) :
    wpAny (model prog w) A (Builtin.«object.__getattribute__» ⟨[.ref a, .str "__class__" tk], []⟩) Q E ⟨h, g, d, t, os⟩ := by
  have hT5 : (⟨h, g, d, t, os⟩ : Shared).TypeIs (.builtin "object.__class__") "getset_descriptor" := F.typeOf_object_class
  have f5 := F.typeOf_object_class
  have f6 := F.slot_gs_get.lookup
  have f7 := F.slot_gs_set.lookup
  repeat (any_goals (first | assumption | (with_reducible refine wpAny_loadPart_at hx ?_; rw [hc]) | with_reducible refine (PySem.W.looks_findIn X c.cl).at ?_ | wp_step))
  refine xc_get c X hx hc ?_
  repeat (any_goals (first | assumption | wp_step))
theorem xc_by {tk : Tok} {fill expr : Bool} {Q : Value → Shared → Prop} (c : XCls K D) (X : K.In h) (hx : h.get? a = some o) (hc : o.cls = .ref D) (hq : Q (.ref D) ⟨h, g, d, t, os⟩) :
    wpAny (model prog w) A (getAttrBy (.ref a) (.str "__class__" tk) fill expr) Q E ⟨h, g, d, t, os⟩ := by
  have f3 := PySem.F.attrBase_ValueError.ga.bind (.ref a)
  have hx0 : (expr && onTheHeap (Value.builtin "BaseException.__getattribute__")) = false := by cases expr <;> rfl
  have hx2 : (Value.builtin "BaseException.__getattribute__" == Value.builtin "object.__getattribute__") = false := by decide +kernel
  have hx1 : (onTheHeap (Value.ref D) && Value.builtin "BaseException.__getattribute__" == Value.builtin "object.__getattribute__") = false := by rw [hx2]; rfl
  repeat (any_goals (first | assumption | (with_reducible refine wpAny_loadPart_at hx ?_; rw [hc]) | with_reducible refine (PySem.W.looks_findIn X c.ga).at ?_ | with_reducible refine (PySem.W.looks_findIn X c.gn).at ?_ | wp_step))
  refine codeAny_call_builtin PySem.F.attrBase_ValueError.ga.plain F.entry_bexc_ga (xc_check c X hx hc (xc_entry c X hx hc ?_))
  repeat (any_goals (first | assumption | wp_step))
theorem xc_attr {Q : Option Value → Shared → Prop} (c : XCls K D) (X : K.In h) (hx : h.get? a = some o) (hc : o.cls = .ref D) (hq : Q (some (.ref D)) ⟨h, g, d, t + 1, os⟩) :
    wpAny (model prog w) A (getAttr? (.ref a) "__class__") Q E ⟨h, g, d, t, os⟩ := by
  unfold getAttr? getAttrBy?
  repeat (any_goals (first | assumption | with_reducible apply xc_by c X hx hc | wp_step))
end
noncomputable def XAt (a D : Addr) (h : Heap) : Prop := ∃ o, h.get? a = some o ∧ o.cls = .ref D
theorem kitx_exc {K : PySem.W.Frag} {a D : Addr} (c : XCls K D) : PySem.W.KitX K (.ref a) (.ref D) (XAt a D) where
  ty := fun M h _ p => by
    obtain ⟨o, h1, h2⟩ := p
    exact h2 ▸ (PySem.W.Looks.ld h1).andThen .now
  it := fun _ _ X _ => by
    obtain ⟨cdD, hcD⟩ := Option.isSome_iff_exists.mp c.isc
    unfold PySem.W.clsIn at hcD
    split at hcD
    · rename_i c' d' cd' sl' ho
      intro A' Q' E' s' k q
      unfold isType loadHead
      exact wpAny_bind (wpAny_loadPart (k _ _ (X _ _ ho)) (wpAny_pure q))
    · cases hcD
  ne := fun h tp dd its n sl X htp => by
    obtain ⟨cdD, hcD⟩ := Option.isSome_iff_exists.mp c.isc
    refine Bool.eq_false_iff.mpr fun q => ?_
    have e : D = tp := Value.ref.inj (beq_iff_eq.mp q)
    subst e
    unfold PySem.W.clsIn at hcD
    split at hcD
    · rename_i c' d' cd' sl' ho
      have z := (X _ _ ho).symm.trans htp
      cases z
    · cases hcD
  ca := fun {_ _ _ _ _ s} X p k => by
    obtain ⟨h, g, d, t, os⟩ := s
    obtain ⟨o, h1, h2⟩ := p
    exact xc_attr c X h1 h2 k
end L2

set_option Elab.async false
set_option linter.all false
set_option maxRecDepth 100000
set_option maxHeartbeats 4000000
namespace L2
open PySem PySem.Spec PyProof.Rows

/-! ### an own exception leaves -/
theorem un_more {fs : List Addr} {H0 H : Hp} {h0 h h2 : Heap} (u : Un fs [] H0 H h0 h) (k : ∀ b o, (∃ o', h0.get? b = some o') → b ∉ fs → h.get? b = some o → h2.get? b = some o)
    (sl : ∀ b o, b ∈ fs → h.get? b = some o → ∃ l, h2.get? b = some { o with slots := l }) : Un fs [] H0 H h0 h2 where
  keep := fun b o q n hf hx => k b o ⟨o, q⟩ hf (u.keep b o q n hf hx)
  slot := fun b o q n hf hx => by
    obtain ⟨l, e⟩ := u.slot b o q n hf hx
    obtain ⟨l', e'⟩ := sl b _ hf e
    exact ⟨l', e'⟩
  free := u.free
  there := fun b o q hx => by
    obtain ⟨o', e⟩ := u.there b o q hx
    by_cases hf : b ∈ fs
    · obtain ⟨l, e'⟩ := sl b o' hf e
      exact ⟨_, e'⟩
    · exact ⟨o', k b o' ⟨o, q⟩ hf e⟩
  tups := u.tups
  frzs := u.frzs
  tbls := u.tbls
theorem hok_more {P : Program} {w : World} {H : Hp} {h h2 : Heap} (x : HOk P w H h) (k : ∀ b o u, H b = some u → h.get? b = some o → h2.get? b = some o) : HOk P w H h2 := fun a o e =>
  (x a o e).stay (fun b u hb q => by
    rcases hb with z | z
    · rw [z] at q ⊢
      exact k a u o e q
    · exact k b u _ z q) (fun _ q => q) fun _ _ q => q
theorem ObjOk.isObj {P : Program} {w : World} {H : Hp} {h : Heap} {a : Addr} {o : HO} (x : ObjOk P w H h a o) : ∃ u, h.get? a = some u := by
  cases o with
  | lst xs => obtain ⟨_, _, _, _, e⟩ := x; exact ⟨_, e⟩
  | tup xs => obtain ⟨_, _, _, _, e, _⟩ := x; exact ⟨_, e⟩
  | dK kvs => obtain ⟨_, _, _, _, o, _, _, e, _⟩ := x; exact ⟨_, e⟩
  | dT kvs => obtain ⟨_, _, _, _, o, _, _, e, _⟩ := x; exact ⟨_, e⟩
  | set S n => obtain ⟨o, _, _, _, e, _⟩ := x; exact ⟨_, e⟩
  | ins C dx fs => obtain ⟨_, _, _, e, _⟩ := x; exact ⟨_, e⟩
  | own y => exact x
  | xd fs => obtain ⟨_, ⟨_, _, _, e, _⟩, _⟩ := x; exact ⟨_, e⟩
  | rng lo hi => obtain ⟨_, _, _, e⟩ := x; exact ⟨_, e⟩
  | frz ob u => exact ⟨_, x.1⟩
  | tbl ps => exact ⟨_, x⟩
  | met f y => exact ⟨_, x⟩
  | ext φ => exact x.2.1

/-- the exception at x, of the class at D, flies: B holds all of before (but the callers' frames) and all that is tracked -/
structure XF (P : Program) (w : World) (outer : List Env) (H : Hp) (s : Shared) (x D : Addr) (a0 : Value) (B : Heap) (H' : Hp) (s' : Shared) : Prop where
  os : s'.os = s.os
  bare : AllBare s'.gens
  un : Un (frs outer) [] H H' s.heap s'.heap
  hok : HOk P w H' s'.heap
  fly : Heap.FlyingW B outer x (.ref D) a0 s'.heap
  cov : ∀ b o, s'.heap.get? b = some o → ((∃ o', s.heap.get? b = some o') ∨ (∃ u, H' b = some u)) → b ∉ frs outer → B.get? b = some o
section
variable {P : Program} {w : World} {outer : List Env} {H H' : Hp} {s s' : Shared} {x D : Addr} {a0 : Value} {B : Heap}
theorem fly_out {h : Heap} (f : Heap.FlyingW B outer x (.ref D) a0 h) : x ∉ frs outer := fun hm => by
  obtain ⟨_, _, f3, oe, vs, T, oT, ts, he, _, hd, _⟩ := f
  obtain ⟨_, o, ho, hn⟩ := f3.mem hm
  rw [he] at ho
  cases ho
  exact hn vs hd
theorem XF.new (F : XF P w outer H s x D a0 B H' s') : ∀ o, s.heap.get? x ≠ some o := fun o e => by
  obtain ⟨o', e'⟩ := F.un.there x o e (by simp)
  have := F.cov x o' e' (.inl ⟨o, e⟩) (fly_out F.fly)
  rw [F.fly.2.1] at this
  cases this
theorem XF.free (F : XF P w outer H s x D a0 B H' s') : H' x = none := by
  cases q : H' x with
  | none => rfl
  | some u =>
    obtain ⟨o, e⟩ := (F.hok x u q).isObj
    have := F.cov x o e (.inr ⟨u, q⟩) (fly_out F.fly)
    rw [F.fly.2.1] at this
    cases this
end
section
variable {X : Cx} {pins : List (Addr × Obj)} {σ : St} {H H' : Hp} {s s' : Shared} {x D : Addr} {a0 : Value} {B h2 : Heap}
end
section
variable {P : Program} {w : World} {K : PySem.W.Frag} {mg : Str → Option Value} {base : Heap} {N : List Str} {qual : Str} {scope : Scope} {f : Addr} {cdv : Value} {A : Around} {outer : List Env} {s0 : Shared} {H0 : Hp} {E : XK}
end
section
variable {P : Program} {w : World} {K : PySem.W.Frag} {mg : Str → Option Value} {base : Heap}
end
end L2

set_option Elab.async false
set_option linter.all false
set_option maxRecDepth 100000
set_option maxHeartbeats 4000000
namespace L2
open PySem PySem.Spec PyProof.Rows

/-! ### an own exception is caught -/
/-- what a class must have to be named behind except -/
structure XHd (K : PySem.W.Frag) (C : Addr) : Prop where
  isc : (PySem.W.clsIn K C).isSome = true
  ty : PySem.W.typeIn K (.ref C) = some (.type "type")
  mb : PySem.W.mroIn K C (.type "BaseException") = some true
/-- within the except suite that holds the exception at x -/
noncomputable def Cx.inX (X : Cx) (x : Addr) : Cx := { X with A := X.A.mark (some (.ref x)), calm := false, xe := fun _ _ => False }
section
variable {X : Cx} {pins : List (Addr × Obj)} {σ : St} {H H' H1 : Hp} {s s' s1 : Shared} {x D C : Addr} {a0 : Value} {B h2 : Heap}
theorem Inv.inX (I : Inv X pins σ H s) (x : Addr) : Inv (X.inX x) pins σ H s :=
  ⟨⟨I.ok.mod, I.ok.kind, I.ok.glob, I.ok.blt, I.ok.above, I.ok.inj, I.ok.has, I.ok.cab, fun z => absurd (show false = true from z) Bool.false_ne_true, I.ok.frames, I.ok.stk, I.ok.exf, I.ok.bs, I.ok.bsz, I.ok.noex, I.ok.exfs, I.ok.funs, I.ok.frf⟩,
    I.os, I.bare, I.base, I.loc, I.cell, I.free, I.freeC, I.pin, I.hok, I.len⟩
end
end L2

set_option Elab.async false
set_option linter.all false
set_option maxRecDepth 100000
set_option maxHeartbeats 4000000
namespace L2
open PySem PySem.Spec PyProof.Rows

section
variable {X : Cx} {pins : List (Addr × Obj)} {σ : St} {H H' H1 : Hp} {s s' s1 : Shared} {x D C : Addr} {a0 : Value} {B h2 : Heap} {cn en : Str} {ie : Nat} {b₀ : Stmt} {suite : List Stmt} {cp hp : Pos} {ts : TS} {DE : Ends}
end
section
variable {X : Cx} {k ie : Nat} {f C : Addr} {fd : FuncData} {ps : List Str} {sp : Sp} {dvs : List V} {ds : List Value} {fx cn en : Str} {p pos p2 cp hp tp : Pos} {e : Expr} {es : List Expr} {t : TA} {b₀ : Stmt} {suite : List Stmt} {ts : TS}
end

/-! ### isinstance of such a one -/
noncomputable def TyX (K : PySem.W.Frag) (H : Hp) (x : V) (t : Value) : Prop := TyOf K H x t ∨ ∃ a D φ, x = .ref a ∧ t = .ref D ∧ XCls K D ∧ H a = some (.ext φ) ∧ ∀ h, φ h → XAt a D h
section
variable {X : Cx}
open PySem.W in
theorem kit_ofX {pins : List (Addr × Obj)} {σ : St} {H : Hp} {s : Shared} {x : V} {u t : Value} (I : Inv X pins σ H s) (rx : RelV x u) (ty : TyX X.K H x t) :
    ∃ Hh : Heap → Prop, KitX X.K u t Hh ∧ Hh s.heap ∧ u ≠ .builtin "__main__.__loader__#opaque" := by
  rcases ty with ty | ⟨a, D, φ, rfl, rfl, c, e, hφ⟩
  · exact kit_of I rx ty
  · cases (show u = Value.ref a from rx)
    exact ⟨_, kitx_exc c, hφ _ (I.hok a _ e).1, fun z => nomatch z⟩
end
end L2

set_option Elab.async false
set_option linter.all false
set_option maxRecDepth 100000
set_option maxHeartbeats 4000000
namespace L2
open PySem PySem.Spec PyProof.Rows
section
variable {prog : Program} {w : World} {A : Around} {E : Value → Shared → Prop} {h : Heap} {g : Array GenState} {d : Drawn} {t : Nat} {os : OsState} {a D dx : Addr} {o : Obj} {vs : Array Value} {cd : ClassData} {K : PySem.W.Frag} {name : Str} {mA : Str → Option Value} {v : Value}
/-! setting -/
noncomputable abbrev bmV : List Value := [.type "ValueError", .type "Exception", .type "BaseException", .type "object"]
noncomputable def isRf : Value → Bool
  | .ref _ => true
  | _ => false
noncomputable def vTail (l : List Value) : Bool := l.dropWhile isRf == bmV
/-- what a class must have that its instances take the attribute name -/
structure XSet (K : PySem.W.Frag) (D : Addr) (name : Str) (cd : ClassData) : Prop where
  k : PySem.W.clsIn K D = some cd
  dct : cd.hasDict = true
  mro : vTail cd.mro = true
  mo : PySem.W.mroIn K D (.type "object") = some true
  sa : PySem.W.findIn K (.ref D) "__setattr__" = some (some (.builtin "object.__setattr__"))
  na : PySem.W.findIn K (.ref D) name = some none
end

/-! making one whose class has its own __init__ -/
section
variable {prog : Program} {w : World} {A : Around} {E : Value → Shared → Prop} {h : Heap} {g : Array GenState} {d : Drawn} {t : Nat} {os : OsState}
variable {nm q : Str} {C N fI : Addr} {bs bm bmB : List Value} {hdct : Bool} {sn : List Str} {sub : List Value} {ab : Bool} {col : Option Bool} {dd : Option Addr} {k0 k1 k2 k3 k5 : Option Value} {B newId initId : String} {mN : Str → Option Value} {rest : List Value} {oI : Obj}
end
end L2

set_option Elab.async false
set_option linter.all false
set_option maxRecDepth 100000
set_option maxHeartbeats 4000000
namespace L2
open PySem PySem.Spec PyProof.Rows

/-! ### exceptions as values: made, their attributes -/
noncomputable def XD0 (a D : Addr) : Heap → Prop := fun h => ∃ o vs, h.get? a = some o ∧ o.cls = .ref D ∧ o.data = .fields vs ∧ o.dict = none ∧ vs[1]? = some .none
noncomputable def XD1 (a D dx : Addr) : Heap → Prop := fun h => ∃ o vs, h.get? a = some o ∧ o.cls = .ref D ∧ o.data = .fields vs ∧ o.dict = some dx ∧ vs[1]? = some .none
noncomputable def XDct (dx : Addr) (fs : List (Str × V)) : Heap → Prop := fun h => ∃ mA, h.Ns1 dx mA ∧ ∀ f, RelO (fs.lookup f) (mA f)
theorem XD0.at {a D : Addr} {h : Heap} (x : XD0 a D h) : XAt a D h := let ⟨o, _, e, c, _⟩ := x; ⟨o, e, c⟩
theorem XD1.at {a D dx : Addr} {h : Heap} (x : XD1 a D dx h) : XAt a D h := let ⟨o, _, e, c, _⟩ := x; ⟨o, e, c⟩
section
variable {P : Program} {w : World} {H : Hp} {h : Heap} {a D dx : Addr} {fs : List (Str × V)}
theorem XD0.ok (x : XD0 a D h) : ObjOk P w H h a (.ext (XD0 a D)) := ⟨x, let ⟨o, _, e, _⟩ := x; ⟨o, e⟩, fun _ _ ⟨o, vs, e, r⟩ k => ⟨o, vs, k o e, r⟩⟩
theorem XD1.ok (x : XD1 a D dx h) : ObjOk P w H h a (.ext (XD1 a D dx)) := ⟨x, let ⟨o, _, e, _⟩ := x; ⟨o, e⟩, fun _ _ ⟨o, vs, e, r⟩ k => ⟨o, vs, k o e, r⟩⟩
theorem XDct.ok (x : XDct dx fs h) : ObjOk P w H h dx (.ext (XDct dx fs)) := ⟨x, let ⟨_, ⟨o, _, _, e, _⟩, _⟩ := x; ⟨o, e⟩, fun _ _ ⟨mA, n, r⟩ k => ⟨mA, n.at k, r⟩⟩
end
section
variable {X : Cx} {pins : List (Addr × Obj)} {σ : St} {H : Hp} {s : Shared} {h' : Heap} {x dx D : Addr} {φ : Heap → Prop} {ox od : HO}
/-- a new object, tracked -/
theorem Inv.tracked {t' : Nat} (I : Inv X pins σ H s) (k : ∀ b u, s.heap.get? b = some u → h'.get? b = some u) (hn : s.heap.get? x = none) (new : ObjOk X.prog X.w (upd H x ox) h' x ox) : Inv X pins σ (upd H x ox) { s with heap := h', toks := t' } := by
  have hx : H x = none := by
    cases q : H x with
    | none => rfl
    | some u =>
      obtain ⟨o, e⟩ := (I.hok x u q).isObj
      rw [hn] at e
      cases e
  have ne : ∀ b o, s.heap.get? b = some o → b ≠ x := fun b o e z => by rw [z, hn] at e; cases e
  have nh : ∀ b u, H b = some u → b ≠ x := fun b u e z => by rw [z, hx] at e; cases e
  refine I.un ⟨fun b o e _ _ _ => k b o e, fun b o e _ _ _ => ⟨o.slots, k b o e⟩, fun b o e n _ => ?_, fun b o e _ => ⟨o, k b o e⟩, fun b xs e => ?_, fun b o u e => ?_, fun b ps e => ⟨#[], ?_⟩⟩ fun b u e => ?_
  · rw [upd_ne (ne b o e)]; exact n
  · rw [upd_ne (nh b _ e)]; exact e
  · rw [upd_ne (nh b _ e)]; exact e
  · rw [upd_ne (nh b _ e), e]; simp
  · by_cases hb : b = x
    · subst hb
      rw [upd_same] at e
      cases e
      exact new
    · rw [upd_ne hb] at e
      exact (I.hok b u e).stay (fun c v _ q => k c v q) (fun c q => by rw [upd_ne (nh c _ q)]; exact q) fun c xs q => by rw [upd_ne (nh c _ q)]; exact q
end
section
variable {X : Cx} {o e value : Expr} {f : Str} {pos pos' tpos : Pos} {ta tv : TE}
end
end L2

set_option Elab.async false
set_option linter.all false
set_option maxRecDepth 100000
set_option maxHeartbeats 4000000
namespace L2
open PySem PySem.Spec PyProof.Rows

/-! ### own exception classes, read off the text -/
structure XObj (h : Heap) (C : Addr) (fI : Option Value) : Prop where
  obj : ∃ bm N nm q bs hdct sn sub ab col dd k0 k1 k2 k3 k5 mN, h.get? C = some (excClassObj nm q C N bs bm hdct sn sub ab col dd k0 k1 k2 k3 k5 "ValueError.__new__") ∧ h.Ns N mN ∧ mN "__init__" = fI ∧ OwnTail h bmV bm
section
variable {P : Program} {w : World} {K : PySem.W.Frag} {mg : Str → Option Value} {base : Heap} {N : List Str} {qual : Str} {scope : Scope} {f : Addr} {cdv : Value} {A : Around} {outer : List Env} {s0 : Shared} {H0 : Hp} {E : XK}
end

/-! ### C() and C(e, ..) -/
section
variable {X : Cx} {k : Nat} {f C : Addr} {fd : FuncData} {ps : List Str} {sp : Sp} {x : Str} {p pos : Pos} {e : Expr} {es : List Expr} {t : TA}
end
end L2

set_option Elab.async false
set_option linter.all false
set_option maxRecDepth 100000
set_option maxHeartbeats 4000000
namespace L2
open PySem PySem.Spec PyProof.Rows

/-! ### d.setdefault(k, v), in the order of coming -/
section
variable {prog : Program} {w : World} {KT : Type} [DecidableEq KT] {knd : KeyKind prog w KT} {A : Around} {E : Value → Shared → Prop} {s : Shared} {d : Addr} {kvs : List (KT × Value)} {k : KT} {key dflt : Value}
theorem sd_new {Q : Value → Shared → Prop} (hkey : knd.is k key = true) (hm : s.heap.DictOf knd d kvs) (hz : kvs.length ≤ sizeLine) (hno : valueAt kvs k = none)
    (h : ∀ h', h'.DictOf knd d (kvs ++ [(k, dflt)]) → Heap.SameBut d s.heap h' → Q dflt { s with heap := h', toks := s.toks + 1 }) : wpAny (model prog w) A (dictSetDefault d key dflt) Q E s := by
  obtain ⟨ob, en, ep, gob, xob, dob, kob, pob, nob⟩ := hm
  have ez : en.size ≤ sizeLine := by
    have l1 := pob.length
    have l2 : en.toList.length = en.size := by simp
    omega
  have hall : ∀ q ∈ kvs, q.1 ≠ k := fun q hq hqk => by
    unfold valueAt at hno
    rw [Option.map_eq_none_iff, List.find?_eq_none] at hno
    exact hno q hq (by simpa using hqk)
  have fnd : (en.findIdx? fun e => knd.is k e.key) = none := by
    have e1 : (en.findIdx? fun e => knd.is k e.key) = kvs.findIdx? fun q => decide (q.1 = k) := by
      rw [← pob.findIdx k]
      obtain ⟨l⟩ := en
      simp
    rw [e1, List.findIdx?_eq_none_iff]
    intro q hq
    simpa using hall q hq
  unfold dictSetDefault
  refine wpAny_holding (wpAny_bind (knd.pyHash hkey (wpAny_bind (wpAny_dictFind_of (s := { s with toks := s.toks + 1 }) hkey gob dob kob ?_))))
  rw [fnd]
  refine wpAny_bind (wpAny_rule (wpAny_bind (wpAny_updateDictKeys (hz := ez) (s := { s with toks := s.toks + 1 }) gob dob (wpAny_pure (h _ ⟨_, _, ep + 1, Heap.get?_update_self _ gob (Obj.isFreed_of_dict (Obj.data_mapDictKeys dob _)),
    xob.mapDictKeys _, Obj.data_mapDictKeys dob _, kob.push hkey _, ?_, ?_⟩ (Heap.SameBut.update ..))))))
  · have ap := pob.append hkey (knd.hash k) dflt
    obtain ⟨l⟩ := en
    simpa using ap
  · rw [List.map_append, List.nodup_append]
    refine ⟨nob, by simp, fun a ha b hb => ?_⟩
    obtain ⟨q, hq, rfl⟩ := List.mem_map.mp ha
    have hb' : b = k := by simpa using hb
    rw [hb']
    exact hall q hq
theorem sd_meets (hkey : knd.is k key = true) (hd : (d == sysModules) = false) (dflt : Value) : MeetsIn prog w (Builtin.«dict.setdefault» ⟨[.ref d, key, dflt], []⟩) (fun _ R s => ∃ kvs, s.heap.DictOf knd d kvs ∧ kvs.length ≤ sizeLine ∧
    (∀ v, valueAt kvs k = some v → R (.ok (.ret v)) { s with toks := s.toks + 1 }) ∧ (valueAt kvs k = none → ∀ h', h'.DictOf knd d (kvs ++ [(k, dflt)]) → Heap.SameBut d s.heap h' → R (.ok (.ret dflt)) { s with heap := h', toks := s.toks + 1 })) :=
  .of_wp fun A R s ⟨kvs, hm, hz, h1, h2⟩ => by
    have le : s.heap.DictLe d sizeLine := by
      obtain ⟨ob, en, ep, gob, xob, dob, kob, pob, nob⟩ := id hm
      intro o2 e2 p2 g2 d2
      rw [gob] at g2
      cases g2
      rw [dob] at d2
      cases d2
      have l1 := pob.length
      have l2 : en.toList.length = en.size := by simp
      omega
    unfold Builtin.«dict.setdefault»
    refine wpAny_bind ?_
    unfold Builtin.Dict.keyAndDefault
    refine wpAny_bind (wpAny_notOrdered_dict hm.typeIs (show wpAny _ _ (pure (d, key, some dflt)) _ _ s from wpAny_pure ?_))
    show wpAny _ _ (if (d == sysModules) = true then _ else (dictSetDefault d key dflt >>= _)) _ _ s
    rw [if_neg (by rw [hd]; exact Bool.false_ne_true)]
    cases hv : valueAt kvs k with
    | some v => exact wpAny_bind (wpAny_dictSetDefault_of (hz := le) hkey hm.mapOf (fun v' hv' => wpAny_pure ⟨v', rfl, h1 v' hv'⟩) fun hn => absurd hn (by rw [hv]; exact fun z => nomatch z))
    | none => exact wpAny_bind (sd_new hkey hm hz hv fun h' m' s' => wpAny_pure ⟨dflt, rfl, h2 hv h' m' s'⟩)
end
noncomputable def rSetD : V → List V → Hp → VK → Prop := fun x vs H Q => ∃ (a : Addr) (kvs : List (Key × V)) (k : Key) (v : V), x = .ref a ∧ vs = [kV k, v] ∧ H a = some (.dK kvs) ∧ kvs.length < sizeLine ∧
  (∀ y, valV kvs k = some y → Q y H) ∧ (valV kvs k = none → Q v (upd H a (.dK (kvs ++ [(k, v)]))))
section
variable {X : Cx}
theorem mt_setD : MtR X "dict.setdefault" rSetD := by
  intro pins s σ H x vs v us Q I rx rv h
  obtain ⟨a, kvs, k, y, rfl, rfl, e, l, h1, h2⟩ := h
  cases rx
  obtain ⟨u1, u2, rfl, r1, r2⟩ := vals2 rv
  obtain ⟨z, hd, vs, rel, dd⟩ := dk_of I.hok e
  have hz : vs.length ≤ sizeLine := by rw [← rel.length]; exact z
  refine call_meetsIn PySem.F.slot_dict_setdefault dd.typeIs PySem.F.entry_dict_setdefault (PySem.F.args_dict_setdefault_3 _ _ _) (sd_meets (knd := mixKind X.prog X.w) (kV_is r1) hd u2) ⟨vs, dd, hz, fun v' hv' => ?_, fun hn h' m' s' => ?_⟩
  · have := rel.val k
    rw [hv'] at this
    cases q : valV kvs k with
    | none => rw [q] at this; exact False.elim this
    | some y' =>
      rw [q] at this
      exact ⟨y', H, I.tok _, this, h1 y' q⟩
  · have := rel.val k
    rw [hn] at this
    have q : valV kvs k = none := by
      cases q : valV kvs k with
      | none => rfl
      | some y' => rw [q] at this; exact False.elim this
    have e2 : KV (kvs ++ [(k, y)]) (vs ++ [(k, u2)]) := by
      have p := rel.put k r2
      have s1 : stored vs k u2 = vs ++ [(k, u2)] := by
        unfold stored
        rw [if_neg]
        intro w
        have w' := (rel.any k).trans w
        rw [valV_any, q] at w'
        cases w'
      rw [putK_new y q, s1] at p
      exact p
    have hl : (kvs ++ [(k, y)]).length ≤ sizeLine := by rw [List.length_append]; exact l
    have he : ∃ ob, h'.get? a = some ob := let ⟨ob, _, _, hq, _⟩ := m'; ⟨ob, hq⟩
    exact ⟨y, _, d_write I (by rw [e]; exact True.intro) s' he (dk_new hl hd e2 m'), r2, h2 q⟩
end
end L2

set_option Elab.async false
set_option linter.all false
set_option maxRecDepth 100000
set_option maxHeartbeats 4000000
namespace L2
open PySem PySem.Spec PyProof.Rows

/-! ### list(d.items()) -/
noncomputable def IV (v d : Addr) : Heap → Prop := fun h => h.IsItemsView v d
noncomputable def rItems : V → List V → Hp → VK → Prop := fun x vs H Q => ∃ (d : Addr) (kvs : List (Key × V)), x = .ref d ∧ vs = [] ∧ H d = some (.dK kvs) ∧ ∀ v, H v = none → Q (.ref v) (upd H v (.ext (IV v d)))
section
variable {X : Cx} {o e : Expr} {es : List Expr} {to : TE} {t : TA} {apos cpos : Pos}
theorem mt_items : MtR X "dict.items" rItems := by
  intro pins s σ H x vs v us Q I rx rv h
  obtain ⟨d, kvs, rfl, rfl, e, q⟩ := h
  cases rx
  cases rv
  obtain ⟨z, hd, ws, rel, dd⟩ := dk_of I.hok e
  refine call_meetsIn PySem.F.slot_dict_items dd.typeIs PySem.F.entry_dict_items (PySem.F.args_dict_items_1 _) (meets_dict_items (mixKind X.prog X.w) d hd) ⟨⟨ws, dd⟩, ?_⟩
  refine ⟨.ref s.heap.objs.size, _, I.laid (t' := s.toks) (a := s.heap.objs.size) (o := .ext (IV s.heap.objs.size d)) (fun b u e => Heap.get?_push_of_some _ e) (Nat.le_refl _) ?_, rfl, q _ (I.hok.fresh (Nat.le_refl _))⟩
  have g : (s.heap.push { cls := .type "dict_items", data := .fields #[.ref d] }).get? s.heap.objs.size = some { cls := .type "dict_items", data := .fields #[.ref d] } := Heap.get?_push_size _ rfl
  exact ⟨⟨_, g, rfl, rfl⟩, ⟨_, g⟩, fun h1 h2 ⟨ob, e1, r⟩ k => ⟨ob, k ob e1, r⟩⟩
end
section
variable {X : Cx} {o e : Expr} {es : List Expr} {to : TE} {t : TA} {apos cpos : Pos}
theorem pe_m.setdefault (ho : PE X o to) (ha : PA X (e :: es) t) (hbase : attributeBase o "setdefault" X.env (eval o X.env) = eval o X.env := by rfl)
    (hfew : ((backTo cpos (starEach (e :: es) X.env)).all (fun x => !x.1) && (backToKw cpos (keywordEach [] X.env)).all (fun x => x.1.isSome) && decide ((e :: es).length + ([] : List Keyword).length + (if ([] : List Keyword).isEmpty then 0 else 1) < 30)) = true := by rfl)
    (hline : (apos.endLine == cpos.line) = true := by rfl) (hs : starEach (e :: es) X.env = (false, eval e X.env) :: starEach es X.env := by rfl) (hplain : (backTo cpos (starEach es X.env)).any (·.1) = false := by rfl) :
    PE X (.Call (.Attribute o "setdefault" apos) (e :: es) [] cpos) (tBM X.K "dict" rSetD to t) := pe_bm F.plainAttrs_dict F.slot_dict_setdefault F.type_dict_setdefault mt_setD ho ha hbase hfew hline hs hplain
theorem pe_m.items (ho : PE X o to) (hbase : attributeBase o "items" X.env (eval o X.env) = eval o X.env := by rfl) (hline : (apos.endLine == cpos.line) = true := by rfl) :
    PE X (.Call (.Attribute o "items" apos) [] [] cpos) (tBM0 X.K "dict" rItems to) := pe_bm0 F.plainAttrs_dict F.slot_dict_items F.type_dict_items mt_items ho hbase hline
end
end L2

set_option Elab.async false
set_option linter.all false
set_option maxRecDepth 100000
set_option maxHeartbeats 4000000
namespace L2
open PySem PySem.Spec PyProof.Rows
theorem vals_at : ∀ {xs : List V} {us : List Value}, xs.length = us.length → (∀ (i : Nat) x u, xs[i]? = some x → us[i]? = some u → RelV x u) → Vals xs us
  | [], [], _, _ => .nil
  | x :: xs, u :: us, h, r => .cons (r 0 x u rfl rfl) (vals_at (by simpa using h) fun i y w h1 h2 => r (i + 1) y w (by simpa using h1) (by simpa using h2))
  | [], _ :: _, h, _ => by cases h
  | _ :: _, [], h, _ => by cases h
section
variable {X : Cx}
theorem call_rng1 : CallR X (.type "range") (fun xs H Q => ∃ b, xs = [.int b] ∧ ∀ p, H p = none → Q (.ref p) (upd H p (.rng 0 b))) := by
  intro pins s σ H xs us Q I r h
  obtain ⟨b, rfl, q⟩ := h
  obtain ⟨u, rfl, ⟨t, rfl⟩⟩ := vals1 r
  refine call_range_1 ?_
  exact ⟨.ref s.heap.objs.size, _, I.laid (o := .rng 0 b) (fun b o e => Heap.get?_push_of_some _ e) (Nat.le_refl _) ⟨_, _, _, Heap.get?_push_size _ rfl⟩, rfl, q _ (I.hok.fresh (Nat.le_refl _))⟩
end
end L2

set_option Elab.async false
set_option linter.all false
set_option maxRecDepth 100000
set_option maxHeartbeats 4000000
namespace L2
open PySem PySem.Spec PyProof.Rows
section
variable {M : Model} {A : Around} {E : Value → Shared → Prop} {s : Shared} {env : Env} {K : PySem.W.Frag} {D : Addr}
end
end L2

set_option Elab.async false
set_option linter.all false
set_option maxRecDepth 100000
set_option maxHeartbeats 4000000
namespace L2
open PySem PySem.Spec PyProof.Rows

/-! ### an exception in flight, its dict kept in view -/
/-- the exception at e, its class, its dict, its newest trace at T, that trace's mark -/
noncomputable def Fx (h : Heap) (e : Addr) (cls : Value) (dct : Option Addr) (fl : Value) (T : Addr) : Prop :=
  ∃ ob fs oT ts, h.get? e = some ob ∧ ob.cls = cls ∧ ob.dict = dct ∧ ob.data = .fields fs ∧ fs[1]? = some (.ref T) ∧ T ≠ e ∧ h.get? T = some oT ∧ oT.data = .fields ts ∧ ts[3]? = some fl
section
variable {M : Model} {A : Around} {E : Value → Shared → Prop} {s : Shared} {base : Heap} {env : Env} {outer : List Env} {L e : Addr} {ob : Obj} {fs : Array Value} {head : Value} {more : Bool}
end
end L2

set_option Elab.async false
set_option linter.all false
set_option maxRecDepth 100000
set_option maxHeartbeats 4000000
namespace L2
open PySem PySem.Spec PyProof.Rows
section
variable {M : Model} {A : Around} {E : Value → Shared → Prop} {s : Shared} {base : Heap} {env : Env} {outer : List Env} {L e T : Addr} {ob : Obj} {fs : Array Value} {cls fl : Value} {dct : Option Addr}
/-- what a walk of the traces leaves: of all but the things at xs the objects, of the frames up to slots -/
noncomputable def KeptBut (xs fr : List Addr) (h h' : Heap) : Prop :=
  (∀ b o, b ∉ xs → b ∉ fr → h.get? b = some o → h'.get? b = some o) ∧ ∀ b o, b ∉ xs → h.get? b = some o → ∃ sl, h'.get? b = some { o with slots := sl }
theorem KeptBut.trans {xs ys fr : List Addr} {h h1 h2 : Heap} (a : KeptBut xs fr h h1) (b : KeptBut ys fr h1 h2) : KeptBut (xs ++ ys) fr h h2 :=
  ⟨fun c o n f g => b.1 c o (fun z => n (List.mem_append_right _ z)) f (a.1 c o (fun z => n (List.mem_append_left _ z)) f g), fun c o n g => by
    obtain ⟨s1, g1⟩ := a.2 c o (fun z => n (List.mem_append_left _ z)) g
    obtain ⟨s2, g2⟩ := b.2 c _ (fun z => n (List.mem_append_right _ z)) g1
    exact ⟨s2, g2⟩⟩
end
end L2

set_option Elab.async false
set_option linter.all false
set_option maxRecDepth 100000
set_option maxHeartbeats 4000000
namespace L2
open PySem PySem.Spec PyProof.Rows
/-! ### an own exception with attributes leaves -/
/-- the exception at x, of the class at D, with the dict dct, flies; it and its newest trace are new and untracked -/
structure XG (P : Program) (w : World) (outer : List Env) (H : Hp) (s : Shared) (x D : Addr) (dct : Option Addr) (T : Addr) (H' : Hp) (s' : Shared) : Prop where
  os : s'.os = s.os
  bare : AllBare s'.gens
  un : Un (frs outer) [] H H' s.heap s'.heap
  hok : HOk P w H' s'.heap
  fx : Fx s'.heap x (.ref D) dct .none T
  nx : s.heap.get? x = none
  nT : s.heap.get? T = none
  ux : H' x = none
  uT : H' T = none
noncomputable def CXG (P : Program) (w : World) : CXT := fun outer H s E e s' => ∃ x D dct T H', e = .ref x ∧ XG P w outer H s x D dct T H' s' ∧ E (.ref D) dct H'
section
variable {P : Program} {w : World} {K : PySem.W.Frag} {mg : Str → Option Value} {base : Heap} {N : List Str} {qual : Str} {scope : Scope} {f : Addr} {cdv : Value} {A : Around} {outer : List Env} {s0 : Shared} {H0 : Hp} {E : XK}
end
section
variable {P : Program} {w : World} {K : PySem.W.Frag} {mg : Str → Option Value} {base : Heap}
end
end L2

set_option Elab.async false
set_option linter.all false
set_option maxRecDepth 100000
set_option maxHeartbeats 4000000
namespace L2
open PySem PySem.Spec PyProof.Rows
/-! ### an own exception with attributes is raised -/
/-- the abstract heap without what stands at x -/
noncomputable def untr (H : Hp) (x : Addr) : Hp := fun b => if b = x then none else H b
theorem untr_ne {H : Hp} {x b : Addr} (h : b ≠ x) : untr H x b = H b := by unfold untr; rw [if_neg h]
theorem untr_same {H : Hp} {x : Addr} : untr H x x = none := by unfold untr; rw [if_pos rfl]
theorem Inv.untr {X : Cx} {pins : List (Addr × Obj)} {σ : St} {H : Hp} {s : Shared} {x : Addr} {φ : Heap → Prop} (I : Inv X pins σ H s) (hx : H x = some (.ext φ)) : Inv X pins σ (untr H x) s := by
  have nt : ∀ b u, H b = some u → (∀ ψ, u ≠ .ext ψ) → b ≠ x := fun b u e n z => by
    rw [z, hx] at e
    cases e
    exact n φ rfl
  have fr : ∀ b, H b = none → L2.untr H x b = none := fun b e => by
    by_cases z : b = x
    · rw [z]; exact untr_same
    · rw [untr_ne z]; exact e
  have hok : HOk X.prog X.w (L2.untr H x) s.heap := fun b u e => by
    by_cases z : b = x
    · rw [z, untr_same] at e
      cases e
    · rw [untr_ne z] at e
      refine (I.hok b u e).stay (fun _ _ _ q => q) (fun c q => ?_) fun c xs q => ?_
      · rw [untr_ne (nt c _ q fun _ z => nomatch z)]; exact q
      · rw [untr_ne (nt c _ q fun _ z => nomatch z)]; exact q
  exact I.un (t' := s.toks) (h' := s.heap) ⟨fun b o e _ _ _ => e, fun b o e _ _ _ => ⟨o.slots, e⟩, fun b o e n _ => fr b n, fun b o e _ => ⟨o, e⟩, fun b xs e => by rw [untr_ne (nt b _ e fun _ z => nomatch z)]; exact e,
    fun b o u e => by rw [untr_ne (nt b _ e fun _ z => nomatch z)]; exact e, fun b ps e => ⟨#[], by rw [untr_ne (nt b _ e fun _ z => nomatch z), e]; simp⟩⟩ hok
section
variable {P : Program} {w : World} {K : PySem.W.Frag} {mg : Str → Option Value} {base : Heap} {N : List Str} {qual : Str} {scope : Scope} {f : Addr} {cdv : Value} {A : Around} {outer : List Env} {s0 : Shared} {H0 : Hp} {E : XK}
end
end L2

set_option Elab.async false
set_option linter.all false
set_option maxRecDepth 100000
set_option maxHeartbeats 4000000
namespace L2
open PySem PySem.Spec PyProof.Rows
/-! ### an own exception with attributes is caught -/
noncomputable def XCt (a D : Addr) (dct : Option Addr) : Heap → Prop := fun h => ∃ o vs, h.get? a = some o ∧ o.cls = .ref D ∧ o.data = .fields vs ∧ o.dict = dct
theorem XCt.at {a D : Addr} {dct : Option Addr} {h : Heap} (x : XCt a D dct h) : XAt a D h := let ⟨o, _, e, c, _⟩ := x; ⟨o, e, c⟩
section
variable {X : Cx} {pins : List (Addr × Obj)} {σ : St} {H H' : Hp} {s s' : Shared} {x D C T T2 : Addr} {dct : Option Addr} {fl : Value} {h2 : Heap} {xs : List Addr}
theorem landG (I : Inv X pins σ H s) (G : XG X.prog X.w X.stack H s x D dct T H' s') (k : KeptBut xs (frs X.stack) s'.heap h2) (hxs : ∀ b ∈ xs, s.heap.get? b = none ∧ H' b = none ∧ b ∉ frs X.stack) (fx : Fx h2 x (.ref D) dct fl T2) :
    Inv X pins σ (upd H' x (.ext (XCt x D dct))) { s' with heap := h2 } := by
  have hnx : ∀ b u, H' b = some u → b ≠ x := fun b u e z => by rw [z, G.ux] at e; cases e
  have trk : ∀ b u, H' b = some u → b ∉ frs X.stack := fun b u e hb => by
    obtain ⟨_, o, ho, _⟩ := I.stack.mem hb
    rw [G.un.free b o ho (I.stkFree b hb) (by simp)] at e
    cases e
  have u2 : Un (frs X.stack) [] H H' s.heap h2 := un_more G.un (fun b o h0 hf e => k.1 b o (fun z => by obtain ⟨o0, e0⟩ := h0; rw [(hxs b z).1] at e0; cases e0) hf e) (fun b o hf e => k.2 b o (fun z => (hxs b z).2.2 hf) e)
  have hk2 : HOk X.prog X.w H' h2 := hok_more G.hok (fun b o u hu e => k.1 b o (fun z => by rw [(hxs b z).2.1] at hu; cases hu) (trk b u hu) e)
  obtain ⟨ob, fs, _, _, gx, gc, gd, gf, _⟩ := fx
  refine I.call' (ch := []) (s' := { s' with heap := h2 }) G.os ⟨u2.keep, u2.slot, fun b o e n hx' => ?_, u2.there, fun b xs e => ?_, fun b o u e => ?_, fun b ps e => ?_⟩ (fun a o e => ?_) G.bare (by simp)
  · have : b ≠ x := fun z => by rw [z, G.nx] at e; cases e
    rw [upd_ne this]
    exact u2.free b o e n hx'
  · have e' := u2.tups b xs e
    rw [upd_ne (hnx b _ e')]
    exact e'
  · have e' := u2.frzs b o u e
    rw [upd_ne (hnx b _ e')]
    exact e'
  · obtain ⟨more, e'⟩ := u2.tbls b ps e
    exact ⟨more, by rw [upd_ne (hnx b _ e')]; exact e'⟩
  · by_cases ha : a = x
    · subst ha
      rw [upd_same] at e
      cases e
      exact ⟨⟨ob, fs, gx, gc, gf, gd⟩, ⟨ob, gx⟩, fun h1 h3 ⟨o, vs, e1, r⟩ kk => ⟨o, vs, kk o e1, r⟩⟩
    · rw [upd_ne ha] at e
      exact (hk2 a o e).stay (fun _ _ _ q => q) (fun b q => by rw [upd_ne (hnx b _ q)]; exact q) fun b xs q => by rw [upd_ne (hnx b _ q)]; exact q
end
section
variable {X : Cx} {pins : List (Addr × Obj)} {σ : St} {H H' : Hp} {s s' : Shared} {x D C T : Addr} {dct : Option Addr} {cn en : Str} {ie : Nat} {b₀ : Stmt} {suite : List Stmt} {cp hp : Pos} {ts : TS} {DE : Ends}
end
end L2

set_option Elab.async false
set_option linter.all false
set_option maxRecDepth 100000
set_option maxHeartbeats 4000000
namespace L2
open PySem PySem.Spec PyProof.Rows
section
variable {X : Cx} {k ie : Nat} {f C : Addr} {fd : FuncData} {ps : List Str} {sp : Sp} {dvs : List V} {ds : List Value} {fx cn en : Str} {p pos p2 cp hp tp : Pos} {e : Expr} {es : List Expr} {t : TA} {b₀ : Stmt} {suite : List Stmt} {ts : TS}
end
end L2

set_option linter.all false
namespace FrM
theorem gcd_step (x y : Int) : Int.gcd y (x % y) = Int.gcd x y := by
  have e : x = x % y + y * (x / y) := (Int.emod_add_mul_ediv x y).symm
  rw [Int.gcd_comm x y]
  conv => rhs; rw [e]
  rw [Int.gcd_add_mul_left_right]
noncomputable def Bt (n : Nat) (i : Int) : Prop := i.natAbs < 2 ^ n
theorem Bt.mono {m n : Nat} {i : Int} (h : Bt m i) (l : m ≤ n) : Bt n i := Nat.lt_of_lt_of_le h (Nat.pow_le_pow_right (by decide) l)
theorem Bt.le {n : Nat} {i j : Int} (h : Bt n i) (l : j.natAbs ≤ i.natAbs) : Bt n j := Nat.lt_of_le_of_lt l h
theorem Bt.mul {m n : Nat} {i j : Int} (h : Bt m i) (h' : Bt n j) : Bt (m + n) (i * j) := by
  unfold Bt at *
  rw [Int.natAbs_mul, Nat.pow_add]
  exact Nat.mul_lt_mul_of_le_of_lt (Nat.le_of_lt h) h' (Nat.lt_of_le_of_lt (Nat.zero_le _) h)
theorem Bt.add {n : Nat} {i j : Int} (h : Bt n i) (h' : Bt n j) : Bt (n + 1) (i + j) := by
  unfold Bt at *
  rw [Nat.pow_succ]
  omega
theorem Bt.sub {n : Nat} {i j : Int} (h : Bt n i) (h' : Bt n j) : Bt (n + 1) (i - j) := by
  unfold Bt at *
  rw [Nat.pow_succ]
  omega
theorem Bt.neg {n : Nat} {i : Int} (h : Bt n i) : Bt n (-i) := by
  unfold Bt at *
  omega
/-- what is told of a fraction -/
structure Low (T B t b : Int) : Prop where
  pos : 1 ≤ b
  cop : Int.gcd t b = 1
  eq : t * B = T * b
theorem low (t b : Int) (hb : 0 < b) : 0 < (Int.gcd t b : Int) ∧ (Int.gcd t b : Int) ≤ b ∧ Low t b (t / (Int.gcd t b : Int)) (b / (Int.gcd t b : Int)) ∧ (t / (Int.gcd t b : Int)).natAbs ≤ t.natAbs ∧ (b / (Int.gcd t b : Int)).natAbs ≤ b.natAbs := by
  have hg : 0 < Int.gcd t b := Int.gcd_pos_iff.mpr (.inr (by omega))
  have hgi : 0 < (Int.gcd t b : Int) := by omega
  have d1 := Int.gcd_dvd_left t b
  have d2 := Int.gcd_dvd_right t b
  have e1 := Int.ediv_mul_cancel d1
  have e2 := Int.ediv_mul_cancel d2
  have hle : (Int.gcd t b : Int) ≤ b := Int.le_of_dvd hb d2
  refine ⟨hgi, hle, ⟨?_, Int.gcd_ediv_gcd_ediv_gcd hg, ?_⟩, ?_, ?_⟩
  · have := Int.ediv_pos_of_pos_of_dvd hb (by omega) d2
    omega
  · rw [← Int.mul_ediv_assoc _ d2, Int.mul_comm, ← Int.mul_ediv_assoc _ d1, Int.mul_comm]
  · have := congrArg Int.natAbs e1
    rw [Int.natAbs_mul] at this
    rw [← this]
    exact Nat.le_mul_of_pos_right _ (by simpa using hg)
  · have := congrArg Int.natAbs e2
    rw [Int.natAbs_mul] at this
    rw [← this]
    exact Nat.le_mul_of_pos_right _ (by simpa using hg)
theorem Low.neg {T B t b : Int} (h : Low (-T) (-B) t b) : Low T B t b := ⟨h.pos, h.cop, by have := h.eq; rw [Int.mul_neg, Int.neg_mul] at this; omega⟩
end FrM

set_option linter.all false
set_option maxRecDepth 100000
namespace L2
open PySem PySem.Spec PyProof.Rows FrM
section
variable {X : Cx}
/-! ### products and quotients of great numbers -/
noncomputable def CMulB (i j : Int) : Prop := (Bt 8000 i ∧ Bt 8000 j) ∨ CMul i j
theorem CMulB.ok {i j : Int} (h : CMulB i j) : IntMulOk i j := by
  rcases h with ⟨h1, h2⟩ | h
  · exact IntMulOk.of_le (m := 8000) (n := 8000) (intBits_le_iff.mpr h1) (intBits_le_iff.mpr h2) (by decide)
  · exact h.ok
noncomputable def CDivB (i j : Int) : Prop := 0 < j ∧ Bt 8000 j
theorem CDivB.no {i j : Int} (h : CDivB i j) : Builtin.divisionGoesByPylong i j = false := by
  refine PyProof.noPylong_of_log2 ?_
  have h2 : j.natAbs < 2 ^ 8000 := h.2
  by_cases h0 : j.natAbs = 0
  · rw [h0]; decide +kernel
  · have : j.natAbs.log2 < 8000 := (Nat.log2_lt h0).mpr h2
    omega
theorem op_mulB : OpR X (binaryOp .Mult) (rI CMulB fun i j => .int (i * j)) := opI fun _ _ _ _ _ _ _ hc q => mul_int q hc.ok
theorem op_fdivB : OpR X (binaryOp .FloorDiv) (rI CDivB fun i j => .int (i / j)) := opI fun i j _ _ _ _ _ hc q => by
  have h1 : (0 : Int) < j := hc.1
  exact floordiv_int (by omega) (by rw [Int.fdiv_eq_ediv_of_nonneg i (by omega)]; exact q) (.inl hc.no)
theorem o_mulB : OpR X (binaryOp .Mult) (rIC CMulB fun i j => .int (i * j)) := op_mulB.ic
theorem o_fdivB : OpR X (binaryOp .FloorDiv) (rIC CDivB fun i j => .int (i / j)) := op_fdivB.ic
theorem cmB {i j : Int} {m n : Nat} (h : Bt m i) (h' : Bt n j) (hm : m ≤ 8000 := by decide) (hn : n ≤ 8000 := by decide) : CMulB i j := .inl ⟨h.mono hm, h'.mono hn⟩
theorem clB {i j : Int} (h : -(2 ^ 64) < i := by decide) (h2 : i < 2 ^ 64 := by decide) : CMulB i j := .inr (cl h h2)
theorem crB {i j : Int} (h : -(2 ^ 64) < j := by decide) (h2 : j < 2 ^ 64 := by decide) : CMulB i j := .inr (cr h h2)
theorem cdB {i j : Int} {n : Nat} (h : 0 < j) (h' : Bt n j) (hn : n ≤ 8000 := by decide) : CDivB i j := ⟨h, h'.mono hn⟩
theorem bt_abs : bootBuiltins "abs" = some (.builtin "abs") := by decide +kernel
end
end L2

set_option Elab.async false
set_option linter.all false
set_option maxRecDepth 100000
set_option maxHeartbeats 4000000
namespace L2
open PySem PySem.Spec PyProof.Rows
/-! ### long rows of arguments (the layer's own rule is slow for them) -/
/-- a text's last return of one of twelve told things; the judgment is kept whole (unfolding it is slow) -/
@[irreducible] def PSq (X : Cx) (sts : List Stmt) (t : TS) : Prop := PSs X sts t
theorem pss_consI {X : Cx} {st : Stmt} {sts : List Stmt} {t u : TS} (h1 : PS X st t) (h2 : PSq X sts u) : PSs X (st :: sts) (tSeq t u) := by
  unfold PSq at h2
  exact pss_cons h1 h2
/-- two promises of one def -/
theorem FnOk.or {P : Program} {w : World} {K : PySem.W.Frag} {mg : Str → Option Value} {base : Heap} {CX : CXT} {k : Nat} {f : Addr} {fd : FuncData} {ps : List Str} {sp sp' : Sp} (F : FnOk P w K mg base CX k f fd ps sp) (F' : FnOk P w K mg base CX k f fd ps sp') :
    FnOk P w K mg base CX k f fd ps (fun vs H Q E => sp vs H Q E ∨ sp' vs H Q E) :=
  ⟨fun vs H Q E h => h.elim (F.len vs H Q E) (F'.len vs H Q E), fun A outer s H args us vs Q E hr he hb hv hs => hs.elim (F.run A outer s H args us vs Q E hr he hb hv) (F'.run A outer s H args us vs Q E hr he hb hv)⟩
section
variable {X : Cx} {k ie ir : Nat} {f C : Addr} {fd : FuncData} {ps : List Str} {sp : Sp} {dvs : List V} {ds : List Value} {fx cn en rn : Str} {p pos p2 p3 cp hp tp : Pos} {e : Expr} {es : List Expr} {t : TA} {b₀ : Stmt} {suite : List Stmt} {ts : TS}
end
end L2

set_option Elab.async false
set_option linter.all false
set_option maxRecDepth 100000
set_option maxHeartbeats 4000000
namespace HT
open PySem PySem.Spec PyProof.Rows
section
variable {prog : Program} {w : World} {A : Around} {E : Value → Shared → Prop} {s : Shared}
end
end HT
namespace L2
open PySem PySem.Spec PyProof.Rows
section
variable {X : Cx}
/-! ### () + t is t itself -/
/-! ### long rows, kept whole (unfolding the judgment is slow) -/
@[irreducible] def PAq (X : Cx) (es : List Expr) (t : TA) : Prop := PA X es t
theorem paq_nil : PAq X [] tNil := by unfold PAq; exact pa_nil
end
end L2

set_option Elab.async false
set_option linter.all false
set_option maxRecDepth 100000
set_option maxHeartbeats 4000000
namespace L2
open PySem PySem.Spec PyProof.Rows
/-! ### judgments kept whole, for rows of rows (unfolding them is slow) -/
section
variable {X : Cx}
@[irreducible] def PEq (X : Cx) (e : Expr) (t : TE) : Prop := PE X e t
@[irreducible] def PSt (X : Cx) (st : Stmt) (t : TS) : Prop := PS X st t
theorem peq_of {e : Expr} {t : TE} (h : PE X e t) : PEq X e t := by unfold PEq; exact h
end
end L2

set_option Elab.async false
set_option linter.all false
set_option maxRecDepth 100000
set_option maxHeartbeats 4000000
namespace L2
open PySem PySem.Spec PyProof.Rows
/-! ### lambdas: a function object, its cells, its code, the table of the code that it stands in -/
structure LamD where
  qual : Str
  params : Arguments
  body : Expr
  scope : Scope
noncomputable def LamX (f : Addr) (d : LamD) (clos : List (Str × Addr)) (c : Addr) : Heap → Prop := fun h => ∃ pm ctv, h.get? f = some (PySem.W.kla_obj "<lambda>" d.qual d.params d.body d.scope clos pm c ctv)
noncomputable def CellX (c : Addr) (v : V) : Heap → Prop := fun h => ∃ o u, h.get? c = some o ∧ o.data = .cell (some u) ∧ RelV v u
noncomputable def CodeX (c : Addr) (q : Str) : Heap → Prop := fun h => ∃ o vs t, h.get? c = some o ∧ o.data = .fields vs ∧ vs[1]? = some (.str q t)
section
variable {P : Program} {w : World} {H : Hp} {h : Heap}
theorem lamX_ok {f : Addr} {d : LamD} {clos : List (Str × Addr)} {c : Addr} {pm ctv : Value} (e : h.get? f = some (PySem.W.kla_obj "<lambda>" d.qual d.params d.body d.scope clos pm c ctv)) : ObjOk P w H h f (.ext (LamX f d clos c)) :=
  ⟨⟨pm, ctv, e⟩, ⟨_, e⟩, fun h1 h2 ⟨pm, ctv, e1⟩ k => ⟨pm, ctv, k _ e1⟩⟩
theorem cellX_ok {c : Addr} {v : V} (x : CellX c v h) : ObjOk P w H h c (.ext (CellX c v)) :=
  ⟨x, let ⟨o, _, e, _⟩ := x; ⟨o, e⟩, fun h1 h2 ⟨o, u, e1, r⟩ k => ⟨o, u, k _ e1, r⟩⟩
theorem codeX_ok {c : Addr} {q : Str} (x : CodeX c q h) : ObjOk P w H h c (.ext (CodeX c q)) :=
  ⟨x, let ⟨o, _, _, e, _⟩ := x; ⟨o, e⟩, fun h1 h2 ⟨o, vs, t, e1, r⟩ k => ⟨o, vs, t, k _ e1, r⟩⟩
end
/-! ### kept, but that tables grow -/
noncomputable def notT : HO → Bool
  | .tbl _ => false
  | _ => true
noncomputable def SameT (H H' : Hp) : Prop := ∀ b o, H b = some o → (notT o = true → H' b = some o) ∧ ∃ o', H' b = some o'
theorem SameT.refl {H : Hp} : SameT H H := fun b o e => ⟨fun _ => e, o, e⟩
theorem SameT.trans {H H1 H2 : Hp} (a : SameT H H1) (b : SameT H1 H2) : SameT H H2 := fun c o e => by
  obtain ⟨f, o', e'⟩ := a c o e
  obtain ⟨g, o2, e2⟩ := b c o' e'
  exact ⟨fun n => (b c o (f n)).1 n, o2, e2⟩
theorem Same.t {H H' : Hp} (s : Same H H') : SameT H H' := fun b o e => ⟨fun _ => s b o e, o, s b o e⟩
theorem SameT.at {H H' : Hp} (s : SameT H H') {a : Addr} {o : HO} (e : H a = some o) (n : notT o = true := by rfl) : H' a = some o := (s a o e).1 n
theorem SameT.free {H H' : Hp} (s : SameT H H') {a : Addr} (e : H' a = none) : H a = none := by
  cases q : H a with
  | none => rfl
  | some o => obtain ⟨_, o', e'⟩ := s a o q; rw [e] at e'; cases e'
theorem SameT.put {H H' : Hp} (s : SameT H H') {a : Addr} {o : HO} (e : H a = none) : SameT H (upd H' a o) := fun b u q => by
  have n : b ≠ a := fun z => by rw [z, e] at q; cases q
  rw [upd_ne n]
  exact s b u q
/-- a table of codes, in which the lambdas ls of its code may stand -/
noncomputable def TabOk (H : Hp) (P : Addr) (ls : List (Pos × Str)) : Prop := ∃ ps, H P = some (.tbl ps) ∧ TriplesOk ps.toList ∧ ∀ l ∈ ls, codeAmong l.1 ps.toList = none ∨ ∃ c, codeAmong l.1 ps.toList = some (.ref c) ∧ H c = some (.ext (CodeX c l.2))
noncomputable abbrev Tabs := List (Addr × List (Pos × Str))
noncomputable def TabsOk (tabs : Tabs) (H : Hp) : Prop := ∀ q ∈ tabs, TabOk H q.1 q.2
theorem TabsOk.same {tabs : Tabs} {H H' : Hp} (t : TabsOk tabs H) (s : Same H H') : TabsOk tabs H' := fun q hq => by
  obtain ⟨ps, e1, e2, e3⟩ := t q hq
  exact ⟨ps, s _ _ e1, e2, fun l hl => (e3 l hl).imp id fun ⟨c, a, b⟩ => ⟨c, a, s _ _ b⟩⟩
theorem TabsOk.put {tabs : Tabs} {H : Hp} {r : Addr} {o : HO} (t : TabsOk tabs H) (h1 : ∀ ps, H r ≠ some (.tbl ps)) (h2 : ∀ φ, H r ≠ some (.ext φ)) : TabsOk tabs (upd H r o) := fun q hq => by
  obtain ⟨ps, e1, e2, e3⟩ := t q hq
  refine ⟨ps, ?_, e2, fun l hl => (e3 l hl).imp id fun ⟨c, a, b⟩ => ⟨c, a, ?_⟩⟩
  · rw [upd_ne fun z => h1 ps (by rw [← z]; exact e1)]; exact e1
  · rw [upd_ne fun z => h2 _ (by rw [← z]; exact b)]; exact b
theorem among_other {p p' : Pos} {c : Value} (l : List Value) (h : TriplesOk l) (hn : ¬ (p.line = p'.line ∧ p.col = p'.col)) : codeAmong p' (l ++ [rawInt p.line, rawInt p.col, c]) = codeAmong p' l := by
  fun_induction TriplesOk l with
  | case1 =>
    simp only [List.nil_append, codeAmong, rawInt]
    rw [if_neg]
    intro z
    rw [Bool.and_eq_true, beq_iff_eq, beq_iff_eq] at z
    exact hn ⟨by omega, by omega⟩
  | case2 a t b u x rest ih =>
    simp only [List.cons_append, codeAmong]
    rw [ih h]
  | case3 => exact h.elim
theorem triples_snoc {p : Pos} {c : Value} (l : List Value) (h : TriplesOk l) : TriplesOk (l ++ [rawInt p.line, rawInt p.col, c]) := by
  fun_induction TriplesOk l with
  | case1 => simp [TriplesOk, rawInt]
  | case2 a t b u x rest ih => exact ih h
  | case3 => exact h.elim
/-- the module of the built-ins, at its place -/
noncomputable def Bm (mg : Str → Option Value) (base : Heap) : Prop := ∃ bm ob, mg "__builtins__" = some (.ref bm) ∧ base.get? bm = some ob ∧ ob.cls = .type "module" ∧ ob.dict = some builtinsNs ∧ ob.data = .plain
noncomputable def tLam (tabs : Tabs) (d : LamD) (clos : List (Str × Addr)) : TE := fun σ H Q => TabsOk tabs H ∧ ∀ f c H1, SameT H H1 → TabsOk tabs H1 → H f = none → H1 f = some (.ext (LamX f d clos c)) → H1 c = some (.ext (CodeX c d.qual)) → Q (.ref f) H1
end L2

set_option Elab.async false
set_option linter.all false
set_option maxRecDepth 100000
set_option maxHeartbeats 4000000
namespace L2
open PySem PySem.Spec PyProof.Rows
theorem fst_inj {α β : Type} : ∀ {l : List (α × β)}, (l.map (·.1)).Nodup → ∀ x ∈ l, ∀ y ∈ l, x.1 = y.1 → x = y
  | [], _, x, hx, _, _, _ => by cases hx
  | a :: r, nd, x, hx, y, hy, e => by
    rw [List.map_cons, List.nodup_cons] at nd
    rcases List.mem_cons.mp hx with rfl | hx' <;> rcases List.mem_cons.mp hy with rfl | hy'
    · rfl
    · exact absurd (List.mem_map.mpr ⟨y, hy', e.symm⟩) nd.1
    · exact absurd (List.mem_map.mpr ⟨x, hx', e⟩) nd.1
    · exact fst_inj nd.2 x hx' y hy' e
theorem pos_inj : ∀ {l : List (Pos × Str)}, (l.Pairwise fun x y => ¬ (x.1.line = y.1.line ∧ x.1.col = y.1.col)) → ∀ x ∈ l, ∀ y ∈ l, (x.1.line = y.1.line ∧ x.1.col = y.1.col) → x = y
  | [], _, x, hx, _, _, _ => by cases hx
  | a :: r, nd, x, hx, y, hy, e => by
    rw [List.pairwise_cons] at nd
    rcases List.mem_cons.mp hx with rfl | hx' <;> rcases List.mem_cons.mp hy with rfl | hy'
    · rfl
    · exact absurd e (nd.1 y hy')
    · exact absurd ⟨e.1.symm, e.2.symm⟩ (nd.1 x hx')
    · exact pos_inj nd.2 x hx' y hy' e
section
variable {X : Cx} {tabs : Tabs} {P c : Addr} {ls : List (Pos × Str)} {d : LamD} {clos : List (Str × Addr)} {pos : Pos}
theorem pe_lam (hcd : X.env.code = .ref c) (hC : PySem.W.codeHdIn X.K c P = true) (hB : Bm X.mg X.base) (hq : X.env.qual ++ "<lambda>" = d.qual) (hcl : closureFor d.scope X.env = pure clos) (hdef : defaultsOf d.params X.env = ([], []))
    (hm : (P, ls) ∈ tabs) (hl : (pos, d.qual) ∈ ls) (hnd : (tabs.map (·.1)).Nodup) (hps : ls.Pairwise fun x y => ¬ (x.1.line = y.1.line ∧ x.1.col = y.1.col)) : PE X (.Lambda d.params d.body d.scope pos) (tLam tabs d clos) := by
  intro pins s σ H Q I h
  obtain ⟨hT, hQ⟩ := h
  refine PySem.W.kla_eval hdef ?_
  rw [hq]
  obtain ⟨ps, hP, htr, hls⟩ := hT _ hm
  have hgs : s.heap.Ns mainGlobals X.mg := I.mod.glob.keeps I.bk
  have C : PySem.W.CodeHd s.heap c P := PySem.W.codeHd_of_K I.kIn hC
  have hPo : s.heap.get? P = some (PySem.W.tabObj ps) := I.hok P _ hP
  have hgP : mainGlobals ≠ P := fun q => by
    obtain ⟨o, es, ep, e, hd, _⟩ := hgs
    rw [q, hPo] at e; cases e; cases hd
  obtain ⟨bm, ob, b1, b2, b3, b4, b5⟩ := hB
  have bo := I.bk _ _ b2
  have hbP : bm ≠ P := fun q => by
    rw [q, hPo] at bo; cases bo; cases b3
  have hbG : bm ≠ mainGlobals := fun q => by
    obtain ⟨o, es, ep, e, hd, _⟩ := hgs
    rw [q, e] at bo; cases bo; rw [hd] at b5; cases b5
  have hbB : bm ≠ builtinsNs := fun q => by
    obtain ⟨mb, ⟨o, es, ep, e, hd, _⟩, _⟩ := I.mod.blt
    rw [q, e] at b2; cases b2; rw [hd] at b5; cases b5
  have BA : s.heap.BuiltinsAt X.mg P := ⟨bm, ob, b1, hbB, hbG, hbP, bo, b3, b4, b5⟩
  rcases hls _ hl with hn | ⟨c', hc, hHc⟩
  · refine PySem.W.kla_makeFunction (mg := X.mg) hcl I.ok.glob hgs hcd C hPo htr hn hgP BA fun c' ctv h' tk hx hge hlt hrec htb => ?_
    have hc0 : H c' = none := I.hok.fresh hge
    have hf0 : H h'.objs.size = none := I.hok.fresh (Nat.le_trans hge (Nat.le_of_lt hlt))
    have ncf : c' ≠ h'.objs.size := Nat.ne_of_lt hlt
    have nPc : P ≠ c' := ne_of_none hP hc0
    have nPf : P ≠ h'.objs.size := ne_of_none hP hf0
    obtain ⟨f, hf⟩ : ∃ f, f = h'.objs.size := ⟨_, rfl⟩
    obtain ⟨ob', hob⟩ : ∃ o, o = PySem.W.kla_obj "<lambda>" d.qual d.params d.body d.scope clos ((X.mg "__name__").getD .none) c' ctv := ⟨_, rfl⟩
    have hfo : (h'.push ob').get? f = some ob' := by rw [hf, hob]; exact Heap.get?_push_size _ rfl
    have keep : ∀ b o, b ≠ P → s.heap.get? b = some o → (h'.push ob').get? b = some o := fun b o n e => Heap.get?_push_of_some _ (hx b o n e)
    have htb' : (h'.push ob').get? P = some (PySem.W.tabObj (ps ++ #[rawInt pos.line, rawInt pos.col, .ref c'])) := Heap.get?_push_of_some _ htb
    have hcx : CodeX c' d.qual (h'.push ob') := by
      obtain ⟨c2, oc, vs, t, e2, hoc, hdt, hv⟩ := hrec
      cases e2
      exact ⟨oc, vs, t, Heap.get?_push_of_some _ hoc, hdt, hv⟩
    rw [← hf] at hf0 ncf nPf ⊢
    rw [← hob]
    obtain ⟨H1, hH1⟩ : ∃ H1, H1 = upd (upd (upd H P (.tbl (ps ++ #[rawInt pos.line, rawInt pos.col, .ref c']))) c' (.ext (CodeX c' d.qual))) f (.ext (LamX f d clos c')) := ⟨_, rfl⟩
    have gf : H1 f = some (.ext (LamX f d clos c')) := by rw [hH1]; exact upd_same
    have gc : H1 c' = some (.ext (CodeX c' d.qual)) := by rw [hH1, upd_ne ncf]; exact upd_same
    have gP : H1 P = some (.tbl (ps ++ #[rawInt pos.line, rawInt pos.col, .ref c'])) := by rw [hH1, upd_ne nPf, upd_ne nPc]; exact upd_same
    have go : ∀ b, b ≠ P → b ≠ c' → b ≠ f → H1 b = H b := fun b h1 h2 h3 => by rw [hH1, upd_ne h3, upd_ne h2, upd_ne h1]
    have same : ∀ b o, b ≠ P → H b = some o → H1 b = some o := fun b o n e => by rw [go b n (ne_of_none e hc0) (ne_of_none e hf0)]; exact e
    have nt : ∀ b o, H b = some o → (∀ qs, o ≠ .tbl qs) → b ≠ P := fun b o e n z => by rw [z, hP] at e; cases e; exact n ps rfl
    have un : Un X.fs [] H H1 s.heap (h'.push ob') := by
      refine ⟨fun b o e n _ _ => keep b o (fun z => by rw [z, hP] at n; cases n) e, fun b o e n _ _ => ⟨o.slots, keep b o (fun z => by rw [z, hP] at n; cases n) e⟩, fun b o e n _ => ?_, fun b o e _ => ?_, fun b xs e => same b _ (nt b _ e fun _ z => nomatch z) e, fun b o u e => same b _ (nt b _ e fun _ z => nomatch z) e, fun b qs e => ?_⟩
      · have hb : b < s.heap.objs.size := Heap.lt_size e
        rw [go b (fun z => by rw [z, hP] at n; cases n) (Nat.ne_of_lt (Nat.lt_of_lt_of_le hb hge)) (by rw [hf]; exact Nat.ne_of_lt (Nat.lt_of_lt_of_le hb (Nat.le_trans hge (Nat.le_of_lt hlt))))]
        exact n
      · by_cases hb : b = P
        · rw [hb]; exact ⟨_, htb'⟩
        · exact ⟨o, keep b o hb e⟩
      · by_cases hb : b = P
        · rw [hb, hP] at e
          cases e
          rw [hb]
          exact ⟨_, gP⟩
        · exact ⟨#[], by rw [same b _ hb e]; simp⟩
    have hok : HOk X.prog X.w H1 (h'.push ob') := fun a o e => by
      by_cases h1 : a = f
      · subst h1; rw [gf] at e; cases e; exact lamX_ok (by rw [hfo, hob])
      by_cases h2 : a = c'
      · subst h2; rw [gc] at e; cases e; exact codeX_ok hcx
      by_cases h3 : a = P
      · subst h3; rw [gP] at e; cases e; exact htb'
      rw [go a h3 h2 h1] at e
      refine (I.hok a o e).stay (fun b u hb q => keep b u ?_ q) (fun b q => same b _ (nt b _ q fun _ z => nomatch z) q) fun b xs q => same b _ (nt b _ q fun _ z => nomatch z) q
      rcases hb with rfl | hb
      · exact h3
      · exact nt b _ hb fun _ z => nomatch z
    refine ⟨.ref f, H1, I.un (h' := h'.push ob') (t' := tk) un hok, rfl, hQ f c' H1 (fun b o e => ?_) (fun q hq' => ?_) hf0 gf gc⟩
    · by_cases hb : b = P
      · subst hb
        rw [hP] at e
        cases e
        exact ⟨fun z => (Bool.false_ne_true z).elim, _, gP⟩
      · exact ⟨fun _ => same b o hb e, o, same b o hb e⟩
    · by_cases hqP : q.1 = P
      · have hqe : q = (P, ls) := fst_inj hnd q hq' (P, ls) hm hqP
        subst hqe
        refine ⟨_, gP, by rw [Array.toList_append]; exact triples_snoc _ htr, fun l' hl' => ?_⟩
        rw [Array.toList_append]
        by_cases hp : pos.line = l'.1.line ∧ pos.col = l'.1.col
        · have := pos_inj hps (pos, d.qual) hl l' hl' hp
          subst this
          exact .inr ⟨c', codeAmong_snoc _ htr hn, gc⟩
        · have eo := among_other (c := .ref c') ps.toList htr hp
          rcases hls l' hl' with z | ⟨c2, z1, z2⟩
          · exact .inl (eo.trans z)
          · exact .inr ⟨c2, eo.trans z1, same c2 _ (nt c2 _ z2 fun _ z => nomatch z) z2⟩
      · obtain ⟨qs, e1, e2, e3⟩ := hT q hq'
        exact ⟨qs, same _ _ hqP e1, e2, fun l' hl' => (e3 l' hl').imp id fun ⟨c2, z1, z2⟩ => ⟨c2, z1, same c2 _ (nt c2 _ z2 fun _ z => nomatch z) z2⟩⟩
  · refine PySem.W.kla_makeFunctionHit (mg := X.mg) hcl I.ok.glob hgs hcd C hPo htr hc BA fun ctv h' tk hk hsz => ?_
    have hf0 : H h'.objs.size = none := I.hok.fresh hsz
    have sm : Same H (upd H h'.objs.size (.ext (LamX h'.objs.size d clos c'))) := Same.new hf0
    refine ⟨.ref h'.objs.size, _, I.laid (a := h'.objs.size) (o := .ext (LamX h'.objs.size d clos c')) (t' := tk) (fun b u e => Heap.get?_push_of_some _ (hk b u e)) hsz (lamX_ok (Heap.get?_push_size _ rfl)), rfl, hQ _ c' _ sm.t (hT.same sm) hf0 upd_same (sm _ _ hHc)⟩
end
end L2

set_option Elab.async false
set_option linter.all false
set_option maxRecDepth 100000
set_option maxHeartbeats 4000000
namespace L2
open PySem PySem.Spec PyProof.Rows
/-! ### a lambda called -/
noncomputable def untrs (H : Hp) (cs : List Addr) : Hp := fun b => if b ∈ cs then none else H b
theorem untrs_in {H : Hp} {cs : List Addr} {b : Addr} (h : b ∈ cs) : untrs H cs b = none := by unfold untrs; rw [if_pos h]
theorem untrs_out {H : Hp} {cs : List Addr} {b : Addr} (h : b ∉ cs) : untrs H cs b = H b := by unfold untrs; rw [if_neg h]
theorem untrs_none {H : Hp} {cs : List Addr} {b : Addr} (h : H b = none) : untrs H cs b = none := by unfold untrs; split <;> first | rfl | exact h
noncomputable abbrev CellsAt (H : Hp) : List (Str × Addr) → List V → Prop := Paired fun (p : Str × Addr) (v : V) => H p.2 = some (.ext (CellX p.2 v))
theorem CellsAt.mem {H : Hp} : ∀ {clos : List (Str × Addr)} {vals : List V}, CellsAt H clos vals → ∀ p ∈ clos, ∃ v, H p.2 = some (.ext (CellX p.2 v))
  | _, _, .nil, p, h => by cases h
  | _, _, .cons r t, p, h => by
    rcases List.mem_cons.mp h with rfl | h
    · exact ⟨_, r⟩
    · exact CellsAt.mem t p h
theorem CellsAt.get {H : Hp} : ∀ {clos : List (Str × Addr)} {vals : List V} {i : Nat} {v : V}, CellsAt H clos vals → vals[i]? = some v → ∃ p, clos[i]? = some p ∧ H p.2 = some (.ext (CellX p.2 v))
  | _, _, _, _, .nil, h => by cases h
  | _, _, 0, _, .cons r t, h => by cases h; exact ⟨_, rfl, r⟩
  | _, _, i + 1, _, .cons r t, h => CellsAt.get (i := i) t h
theorem CellsAt.at {H : Hp} {clos : List (Str × Addr)} {vals : List V} (ca : CellsAt H clos vals) {b : Addr} (hb : b ∈ clos.map (·.2)) : ∃ v, H b = some (.ext (CellX b v)) := by
  obtain ⟨p, hp, rfl⟩ := List.mem_map.mp hb
  exact ca.mem p hp
theorem untrs_of {H : Hp} {clos : List (Str × Addr)} {vals : List V} {b : Addr} {o : HO} (ca : CellsAt H clos vals) (h : H b = some o) (n : ∀ v, o ≠ .ext (CellX b v)) : untrs H (clos.map (·.2)) b = some o := by
  rw [untrs_out fun z => ?_]
  · exact h
  · obtain ⟨v, e⟩ := ca.at z
    rw [h] at e
    exact n v (Option.some.inj e)
theorem lookup_of_mem {α : Type} : ∀ {l : List (Str × α)} {x : Str} {u : α}, (l.map (·.1)).Nodup → (x, u) ∈ l → l.lookup x = some u
  | [], _, _, _, h => by cases h
  | (y, w) :: r, x, u, nd, h => by
    rw [List.map_cons, List.nodup_cons] at nd
    rcases List.mem_cons.mp h with e | h
    · cases e; simp [List.lookup]
    · have : x ≠ y := fun z => nd.1 (List.mem_map.mpr ⟨(x, u), h, z⟩)
      rw [List.lookup_cons, beq_eq_false_iff_ne.mpr this]
      exact lookup_of_mem nd.2 h
theorem nodup_rev {α : Type} {l : List α} (h : l.Nodup) : l.reverse.Nodup := by
  unfold List.Nodup at h ⊢
  rw [List.pairwise_reverse]
  exact h.imp fun n z => n z.symm
noncomputable def lamEnv (d : LamD) (L f c : Addr) (clos : List (Str × Addr)) : Env := { scope := d.scope, locals := L, globals := mainGlobals, cells := clos, qual := d.qual ++ ".<locals>.", func := some f, code := .ref c, frame := some L, builtins := builtinsNs }
noncomputable def cxL (P : Program) (w : World) (K : PySem.W.Frag) (mg : Str → Option Value) (base : Heap) (N : List Str) (d : LamD) (clos : List (Str × Addr)) (f c : Addr) (A : Around) (outer : List Env) (s : Shared) (H : Hp) : Cx where
  prog := P
  w := w
  K := K
  mg := mg
  base := base
  A := A.deeper (lamEnv d s.heap.objs.size f c clos)
  N := N
  s₀ := s
  H₀ := untrs H (clos.map (·.2))
  env := lamEnv d s.heap.objs.size f c clos
  outer := outer
  stack := lamEnv d s.heap.objs.size f c clos :: outer
  ex := []
  calm := true
  fn := fun _ => false
  pn := []
  xe := fun _ _ => False
noncomputable def LamOk (P : Program) (w : World) (K : PySem.W.Frag) (mg : Str → Option Value) (base : Heap) (k : Nat) (d : LamD) (fv ps : List Str) (sp : List V → Sp) : Prop :=
  ∀ (A : Around) (outer : List Env) (s : Shared) (H : Hp) (f c : Addr) (clos : List (Str × Addr)) (us : List Value) (vs vals : List V) (Q : VK) (E : XK), Room k A → Env0 P w K mg base A outer s H → H f = some (.ext (LamX f d clos c)) → H c = some (.ext (CodeX c d.qual)) →
    clos.map (·.1) = fv → (clos.map (·.2)).Nodup → CellsAt H clos vals → Vals vs us → sp vals vs H Q E → codeAny (model P w) A (.call (.ref f) ⟨us, []⟩) (CR CX0 outer P w H s Q E) s
structure LamScope (d : LamD) (fv ps : List Str) : Prop where
  kind : d.scope.kind = .function
  co : d.scope.isCoroutine = false
  gen : d.scope.isGenerator = false
  nocell : ∀ x ∈ d.scope.names, x.2 ≠ .cell
  par : ∀ x ∈ ps, d.scope.names.lookup x = some .local
  free : ∀ x ∈ d.scope.names, x.2 = .free → x.1 ∈ fv
  fr : ∀ x ∈ fv, d.scope.names.lookup x = some .free
  nd : (ps ++ fv).Nodup
theorem mem_of_look {α β : Type} [BEq α] [LawfulBEq α] : ∀ {l : List (α × β)} {x : α} {u : β}, l.lookup x = some u → (x, u) ∈ l
  | [], _, _, h => by cases h
  | (y, w) :: r, x, u, h => by
    rw [List.lookup_cons] at h
    cases e : x == y with
    | true => rw [e] at h; cases h; rw [eq_of_beq e]; exact List.mem_cons_self ..
    | false => rw [e] at h; exact List.mem_cons_of_mem _ (mem_of_look h)
theorem inv_startL {P : Program} {w : World} {K : PySem.W.Frag} {mg : Str → Option Value} {base : Heap} {d : LamD} {fv ps : List Str} {clos : List (Str × Addr)} {f c : Addr} {A : Around} {outer : List Env} {s : Shared} {H : Hp} {us : List Value} {vs vals : List V} {h1 : Heap} {tk : Nat}
    (S : LamScope d fv ps) (hd : A.handled = none) (e0 : Env0 P w K mg base A outer s H) (hl : vs.length = ps.length) (r : Vals vs us) (hfv : clos.map (·.1) = fv) (hnd : (clos.map (·.2)).Nodup) (ca : CellsAt H clos vals)
    (hns : h1.Ns s.heap.objs.size (fun x => (ps.zip us).reverse.lookup x)) (hk : ∀ b o, s.heap.get? b = some o → h1.get? b = some o) :
    Inv (cxL P w K mg base (ps ++ fv) d clos f c A outer s H) [] ((vs ++ vals).map some) (untrs H (clos.map (·.2))) { s with heap := h1, toks := tk } := by
  have ndf : (clos.map (·.1)).Nodup := by rw [hfv]; exact (List.nodup_append.mp S.nd).2.1
  have ndp : ps.Nodup := (List.nodup_append.mp S.nd).1
  have lus : us.length = ps.length := by rw [← r.length]; exact hl
  have hin : ∀ x c', clos.lookup x = some c' → c' ∈ clos.map (·.2) := fun x c' e => List.mem_map.mpr ⟨(x, c'), mem_of_look e, rfl⟩
  have cellOf : ∀ b v, H b = some (.ext (CellX b v)) → ∃ u, RelV v u ∧ h1.IsCell b (some u) := fun b v e => by
    obtain ⟨⟨o, u, g1, g2, g3⟩, _⟩ := e0.hok b _ e
    exact ⟨u, g3, o, hk _ _ g1, g2⟩
  have noA : ∀ b : Addr, b ∉ (cxL P w K mg base (ps ++ fv) d clos f c A outer s H).ex := fun b z => absurd (show b ∈ ([] : List Addr) from z) (by simp)
  have lcl : clos.length = fv.length := by rw [← hfv, List.length_map]
  have lva : vals.length = clos.length := (Paired.length ca).symm
  refine ⟨⟨e0.mod, S.kind, rfl, rfl, Nat.le_refl _, fun y z c' h1 h2 => ?_, fun y hy => ?_, fun y c' h => (Bool.false_ne_true h).elim, fun _ => hd, Around.frames_deeper e0.frames, .inr ⟨rfl, rfl⟩, fun b z => absurd z (noA b), fun b o e => ⟨(e0.bs b o e).1, untrs_none (e0.bs b o e).2⟩, e0.bsz, fun b _ _ => noA b, fun b z => absurd z (noA b), e0.funs, fun b hb => untrs_none (e0.frf b hb)⟩,
    rfl, e0.bare, Un.kept hk, ⟨_, hns, fun i y v g1 g2 g3 => ?_⟩, fun y c' h => ?_, untrs_none (e0.hok.fresh (Nat.le_refl _)), fun y c' h => untrs_in (hin y c' h), fun p hp => absurd (show p ∈ ([] : List (Addr × Obj)) from hp) (by simp), fun b u e => ?_, ?_⟩
  · have h1 : clos.lookup y = some c' := h1
    have h2 : clos.lookup z = some c' := h2
    have e1 := mem_of_look h1
    have e2 := mem_of_look h2
    have nd2 : ((clos.map fun p => (p.2, p.1)).map (·.1)).Nodup := by rw [List.map_map]; exact hnd
    have := fst_inj nd2 (c', y) (List.mem_map.mpr ⟨_, e1, rfl⟩) (c', z) (List.mem_map.mpr ⟨_, e2, rfl⟩) rfl
    exact congrArg Prod.snd this
  · have hy : d.scope.names.lookup y = some .cell ∨ d.scope.names.lookup y = some .free := hy
    rcases hy with hy | hy
    · exact absurd rfl (S.nocell _ (mem_of_look hy))
    · have := S.free _ (mem_of_look hy) rfl
      rw [← hfv] at this
      obtain ⟨p, hp, e⟩ := List.mem_map.mp this
      have e' : p.1 = y := e
      exact ⟨p.2, lookup_of_mem ndf (by show (y, p.2) ∈ clos; rw [← e']; exact hp)⟩
  · have g1 : (ps ++ fv)[i]? = some y := g1
    by_cases hi : i < ps.length
    · rw [List.getElem?_append_left hi] at g1
      rw [List.getElem?_map, List.getElem?_append_left (by omega)] at g2
      have g2' : vs[i]? = some v := by
        cases q : vs[i]? with
        | none => rw [q] at g2; cases g2
        | some x => rw [q] at g2; cases g2; rfl
      obtain ⟨u, hu, rv⟩ := r.get g2'
      refine ⟨u, rv, .inl ⟨S.par y (List.mem_of_getElem? g1), ?_⟩⟩
      have mem : (y, u) ∈ ps.zip us := List.mem_of_getElem? (i := i) (by rw [List.getElem?_zip_eq_some]; exact ⟨g1, hu⟩)
      refine lookup_of_mem ?_ (List.mem_reverse.mpr mem)
      rw [List.map_reverse]
      refine nodup_rev ?_
      have : (ps.zip us).map (·.1) = ps := by rw [List.map_fst_zip]; omega
      rw [this]
      exact ndp
    · rw [List.getElem?_append_right (by omega)] at g1
      rw [List.getElem?_map, List.getElem?_append_right (by omega)] at g2
      have g2' : vals[i - ps.length]? = some v := by
        rw [hl] at g2
        cases q : vals[i - ps.length]? with
        | none => rw [q] at g2; cases g2
        | some x => rw [q] at g2; cases g2; rfl
      obtain ⟨p, hp, e⟩ := ca.get g2'
      rw [← hfv, List.getElem?_map, hp] at g1
      cases g1
      obtain ⟨u, rv, ic⟩ := cellOf _ _ e
      have hmem := List.mem_of_getElem? hp
      refine ⟨u, rv, .inr ⟨.inr (S.fr p.1 ?_), p.2, lookup_of_mem ndf hmem, ic⟩⟩
      rw [← hfv]
      exact List.mem_map.mpr ⟨p, hmem, rfl⟩
  · obtain ⟨v, e⟩ := ca.at (hin y c' h)
    obtain ⟨u, _, ic⟩ := cellOf _ _ e
    exact ⟨_, ic⟩
  · by_cases hb : b ∈ clos.map (·.2)
    · rw [untrs_in hb] at e; cases e
    · rw [untrs_out hb] at e
      refine (e0.hok b u e).stay (fun b' u' _ q => hk b' u' q) (fun b' q => ?_) fun b' xs q => ?_
      · exact untrs_of ca q fun v z => nomatch z
      · exact untrs_of ca q fun v z => nomatch z
  · show ((vs ++ vals).map some).length = (ps ++ fv).length
    rw [List.length_map, List.length_append, List.length_append]
    omega
end L2

set_option Elab.async false
set_option linter.all false
set_option maxRecDepth 100000
set_option maxHeartbeats 4000000
namespace L2
open PySem PySem.Spec PyProof.Rows
section
variable {P : Program} {w : World} {K : PySem.W.Frag} {mg : Str → Option Value} {base : Heap}
/-- THE RULE for a lambda: its body as a term of rules, and the reading of that term -/
theorem lam_of {d : LamD} {fv ps : List Str} {k : Nat} {sp : List V → Sp} (S : LamScope d fv ps)
    (hbind : ∀ (pm ctv : Value) (clos : List (Str × Addr)) (c : Addr) (us : List Value), us.length = ps.length → bindArgs (PySem.W.kla_fn "<lambda>" d.qual d.params d.body d.scope clos pm (.ref c) ctv) ⟨us, []⟩ = pure (ps.zip us))
    (len : ∀ vals vs H Q E, sp vals vs H Q E → vs.length = ps.length)
    (hbody : ∀ (A : Around) (outer : List Env) (s : Shared) (H : Hp) (f c : Addr) (clos : List (Str × Addr)) (vals vs : List V) (Q : VK) (E : XK), Room k (A.deeper (lamEnv d s.heap.objs.size f c clos)) → clos.map (·.1) = fv → CellsAt H clos vals → sp vals vs H Q E →
      ∃ t, PE (cxL P w K mg base (ps ++ fv) d clos f c A outer s H) d.body t ∧ t ((vs ++ vals).map some) (untrs H (clos.map (·.2))) (fun v H' => ∀ H3, Same H' H3 → (∀ p ∈ clos, H3 p.2 = H p.2) → Q v H3)) :
    LamOk P w K mg base (k + 1) d fv ps sp := by
  intro A outer s H f c clos us vs vals Q E hr e0 hf hc hfv hnd ca r hsp
  have hl := len _ _ _ _ _ hsp
  have lus : us.length = ps.length := by rw [← r.length]; exact hl
  obtain ⟨⟨pm, ctv, ef⟩, _, _⟩ := e0.hok f _ hf
  obtain ⟨⟨oc, cvs, ct, ec, ed, ev⟩, _, _⟩ := e0.hok c _ hc
  have lim : s.heap.NoLimit := e0.mod.nolimit.keeps fun b o e => (e0.bs b o e).1
  obtain ⟨t, ht, hq⟩ := hbody A outer s H f c clos vals vs Q E (hr.deeper _) hfv ca hsp
  refine PySem.W.kla_callFunE (body := d.body) hr.depth ef rfl S.co S.gen rfl ⟨c, oc, cvs, ct, rfl, ec, ed, ev⟩ ?_
  rw [hbind pm ctv clos c us lus]
  refine wpAny_pure (wpAny_newFunctionEnv S.nocell (fun y hy => S.par y.1 (List.of_mem_zip hy).1) (fun h1 hns hsb => ?_) S.kind)
  have hk : ∀ b o, s.heap.get? b = some o → h1.get? b = some o := fun b o e => hsb.extBut b o (Nat.ne_of_lt (Heap.lt_size e)) (Heap.get?_push_of_some _ e)
  refine ⟨lim.fresh _ hsb, ?_⟩
  show codeAny _ _ (.expr d.body (lamEnv d s.heap.objs.size f c clos)) _ _
  have I := inv_startL (f := f) (c := c) (tk := s.toks + (ps.zip us).length) S hr.hd e0 hl r hfv hnd ca hns hk
  refine PySem.W.kla_codeExpr (wpAny_mono (ht [] _ _ _ _ I hq) (fun u s' hs => ?_) fun e s' z => False.elim z)
  obtain ⟨v, H', J, rv, q⟩ := hs
  obtain ⟨cs, hcs⟩ : ∃ cs, cs = clos.map (·.2) := ⟨_, rfl⟩
  have ub : Un (frs outer) [] (untrs H (clos.map (·.2))) H' s.heap s'.heap := J.base
  have hat : ∀ b, b ∈ clos.map (·.2) → ∃ o v, s.heap.get? b = some o ∧ H b = some (.ext (CellX b v)) := fun b hb => by
    obtain ⟨v, e⟩ := ca.at hb
    obtain ⟨⟨o, _, g, _⟩, _⟩ := e0.hok b _ e
    exact ⟨o, v, g, e⟩
  have hfr : ∀ b ∈ clos.map (·.2), H' b = none := fun b hb => by
    obtain ⟨o, v, g, _⟩ := hat b hb
    exact ub.free b o g (untrs_in hb) (by simp)
  let H3 : Hp := fun b => if b ∈ clos.map (·.2) then H b else H' b
  have g1 : ∀ b, b ∈ clos.map (·.2) → H3 b = H b := fun b hb => if_pos hb
  have g2 : ∀ b, b ∉ clos.map (·.2) → H3 b = H' b := fun b hb => if_neg hb
  have sm : Same H' H3 := fun b o e => by
    rw [g2 b fun z => by rw [hfr b z] at e; cases e]
    exact e
  have up : ∀ b o, H b = some o → (∀ v, o ≠ .ext (CellX b v)) → b ∉ clos.map (·.2) := fun b o e n z => by
    obtain ⟨v, e'⟩ := ca.at z
    rw [e] at e'
    exact n v (Option.some.inj e')
  refine ⟨v, H3, J.os, J.bare, ⟨fun b o e n hb hx => ub.keep b o e (untrs_none n) hb hx, fun b o e n hb hx => ub.slot b o e (untrs_none n) hb hx, fun b o e n hx => ?_, ub.there, fun b xs e => ?_, fun b o u e => ?_, fun b ps' e => ?_⟩, fun b o e => ?_, rv, q H3 sm fun p hp => g1 p.2 (List.mem_map.mpr ⟨p, hp, rfl⟩)⟩
  · rw [g2 b fun z => by obtain ⟨_, v, _, e'⟩ := hat b z; rw [n] at e'; cases e']
    exact ub.free b o e (untrs_none n) hx
  · exact sm _ _ (ub.tups b xs (untrs_of ca e fun v z => nomatch z))
  · exact sm _ _ (ub.frzs b o u (untrs_of ca e fun v z => nomatch z))
  · obtain ⟨more, z⟩ := ub.tbls b ps' (untrs_of ca e fun v z => nomatch z)
    exact ⟨more, sm _ _ z⟩
  · by_cases hb : b ∈ clos.map (·.2)
    · rw [g1 b hb] at e
      obtain ⟨o', v', g, e'⟩ := hat b hb
      rw [e] at e'
      cases e'
      obtain ⟨⟨o2, u2, k1, k2, k3⟩, _⟩ := e0.hok b _ e
      refine cellX_ok ⟨o2, u2, ub.keep b o2 k1 (untrs_in hb) (fun z => ?_) (by simp), k2, k3⟩
      rw [e0.frf b z] at e
      cases e
    · rw [g2 b hb] at e
      refine (J.hok b o e).stay (fun b' u' _ q => q) (fun b' q => sm _ _ q) fun b' xs q => sm _ _ q
end
/-- two readings of one expression -/
theorem PE.or {X : Cx} {e : Expr} {t t' : TE} (h : PE X e t) (h' : PE X e t') : PE X e (fun σ H Q => t σ H Q ∨ t' σ H Q) := fun pins s σ H Q I q => q.elim (h pins s σ H Q I) (h' pins s σ H Q I)
/-- what a call of a function value asks: it is the lambda d -/
noncomputable def rLam (d : LamD) (fv : List Str) (sp : List V → Sp) : V → List V → Hp → VK → Prop := fun v vs H Q => ∃ f c clos vals, v = .ref f ∧ H f = some (.ext (LamX f d clos c)) ∧ H c = some (.ext (CodeX c d.qual)) ∧ clos.map (·.1) = fv ∧ (clos.map (·.2)).Nodup ∧ CellsAt H clos vals ∧ sp vals vs H Q fun _ _ _ => False
noncomputable def tCallL (d : LamD) (fv : List Str) (sp : List V → Sp) (tf : TE) (t : TA) : TE := fun σ H Q => tf σ H fun v H1 => (∃ f d' clos c, v = .ref f ∧ H1 f = some (.ext (LamX f d' clos c))) ∧ t σ H1 fun vs H2 => (∀ f d' clos c, v = .ref f → H1 f = some (.ext (LamX f d' clos c)) → H2 f = some (.ext (LamX f d' clos c))) ∧ rLam d fv sp v vs H2 Q
section
variable {X : Cx} {d : LamD} {fv ps : List Str} {k : Nat} {sp : List V → Sp} {x : Str} {p pos : Pos} {tf : TE} {t : TA} {e : Expr} {es : List Expr}
theorem run_lam {pins : List (Addr × Obj)} {σ : St} {H : Hp} {s : Shared} {Q : VK} {us : List Value} {vs : List V} {v : V} {u : Value} (L : LamOk X.prog X.w X.K X.mg X.base k d fv ps sp) (hr : Room k X.A) (I : Inv X pins σ H s) (rv : RelV v u) (r : Vals vs us) (h : rLam d fv sp v vs H Q) :
    wpAny (model X.prog X.w) X.A (call u us) (EP X pins σ Q) X.xe s := by
  obtain ⟨f, c, clos, vals, rfl, hf, hc, h1, h2, h3, h4⟩ := h
  obtain rfl : u = Value.ref f := rv
  refine wpAny_call (codeAny_mono (L X.A X.stack s H f c clos us vs vals Q _ hr I.env0 hf hc h1 h2 h3 r h4) fun r s' hq => ?_)
  cases r with
  | error e => exact False.elim hq
  | ok fl =>
    cases fl with
    | ret u => exact I.after hq
    | next => exact False.elim hq
    | brk => exact False.elim hq
    | cont => exact False.elim hq
theorem fnAt_of {H : Hp} {s : Shared} {P : Program} {w : World} {f c : Addr} {d : LamD} {clos : List (Str × Addr)} (ok : HOk P w H s.heap) (hf : H f = some (.ext (LamX f d clos c))) : PySem.W.FnAt f s.heap := by
  obtain ⟨⟨pm, ctv, ef⟩, _, _⟩ := ok f _ hf
  exact ⟨_, _, _, _, ef⟩
theorem pe_callL (hn : PE X (.Name x p) tf) (L : LamOk X.prog X.w X.K X.mg X.base k d fv ps sp) (hr : Room k X.A) (ha : PA X (e :: es) t)
    (he : starEach (e :: es) X.env = (false, eval e X.env) :: starEach es X.env := by rfl) (hpl : (backTo pos (starEach es X.env)).any (·.1) = false := by rfl) : PE X (.Call (.Name x p) (e :: es) [] pos) (tCallL d fv sp tf t) := by
  intro pins s σ H Q I h
  refine wpAny_Call_Name_kw (thn (hn pins s σ H _ I h) fun u s1 ⟨v, H1, I1, rv, ⟨f, d', clos, c, ef, hf⟩, q⟩ => ?_)
  subst ef
  obtain rfl : u = Value.ref f := rv
  refine PySem.W.callWith_F (fnAt_of I1.hok hf) (thn (ha pos pins s1 σ H1 _ I1 q) fun us s2 ⟨vs, H2, I2, r, q2⟩ => ⟨fnAt_of I2.hok (q2.1 _ _ _ _ rfl hf), ?_⟩) he hpl
  exact run_lam L hr I2 (v := .ref f) rfl r q2.2
end
end L2

set_option Elab.async false
set_option linter.all false
set_option maxRecDepth 100000
set_option maxHeartbeats 4000000
namespace L2
open PySem PySem.Spec PyProof.Rows
/-! ### a def whose last statement tells a value, and whose cells live on -/
noncomputable abbrev TR := VK → (V → St → Hp → Prop) → St → Hp → Prop
noncomputable def PR (X : Cx) (sts : List Stmt) (t : TR) : Prop :=
  ∀ (pins : List (Addr × Obj)) (s : Shared) (σ : St) (H : Hp) (R : VK) (Z : V → St → Hp → Prop), Inv X pins σ H s → t R Z σ H →
    wpAny (model X.prog X.w) X.A (execs sts X.env) (fun f s' => ∃ u, f = .ret u ∧ ((∃ v σ' H', Inv X pins σ' H' s' ∧ RelV v u ∧ (R v H' ∨ Z v σ' H')) ∨ ∃ v H', s'.os = X.s₀.os ∧ AllBare s'.gens ∧ Un X.fs X.ex X.H₀ H' X.s₀.heap s'.heap ∧ HOk X.prog X.w H' s'.heap ∧ RelV v u ∧ R v H')) X.xe s
section
variable {X : Cx} {e : Expr} {te : TE} {pos : Pos} {st : Stmt} {rest : List Stmt} {t : TS} {u : TR}
theorem pr_cons (h1 : PS X st t) (h2 : PR X rest u) : PR X (st :: rest) (fun R Z σ H => t { nx := u R Z, rt := R } σ H) := by
  intro pins s σ H R Z I h
  refine wpAny_execs_cons (thn (h1 pins s σ H { nx := u R Z, rt := R } I h) fun f s1 q => ?_)
  cases f with
  | next =>
    obtain ⟨σ', H', I', q⟩ := q
    exact h2 pins s1 σ' H' R Z I' q
  | ret v =>
    obtain ⟨v', σ', H', I', r, q⟩ := q
    exact ⟨v, rfl, .inl ⟨v', σ', H', I', r, .inl q⟩⟩
  | brk => obtain ⟨_, _, _, q⟩ := q; exact False.elim q
  | cont => obtain ⟨_, _, _, q⟩ := q; exact False.elim q
end
/-- the cells of the names whose values are known -/
noncomputable def CellsOf (cells : List (Str × Addr)) (N : List Str) (σ : St) (H3 : Hp) : Prop := ∀ (i : Nat) (y : Str) (v : V) (c : Addr), N[i]? = some y → σ[i]? = some (some v) → cells.lookup y = some c → H3 c = some (.ext (CellX c v))
theorem cells_mem {y : Str} {c : Addr} : ∀ (names : List (Str × NameKind)) (n : Nat) (acc : List (Str × Addr)), (y, c) ∈ cellsFrom n names acc → (y, c) ∈ acc ∨ (y, NameKind.cell) ∈ names
  | [], n, acc, h => .inl h
  | (x, k) :: r, n, acc, h => by
    unfold cellsFrom at h
    split at h
    · rename_i hk
      rcases cells_mem r (n + 1) ((x, n) :: acc) h with z | z
      · rcases List.mem_cons.mp z with e | z
        · cases e
          rw [eq_of_beq hk]
          exact .inr (List.mem_cons_self ..)
        · exact .inl z
      · exact .inr (List.mem_cons_of_mem _ z)
    · rcases cells_mem r n acc h with z | z
      · exact .inl z
      · exact .inr (List.mem_cons_of_mem _ z)
section
variable {P : Program} {w : World} {K : PySem.W.Frag} {mg : Str → Option Value} {base : Heap}
theorem track {CX : CXT} {N : List Str} {qual : Str} {scope : Scope} {f : Addr} {cd : Value} {A : Around} {outer : List Env} {s s' : Shared} {H H' : Hp} {E : XK} {σ : St} (hN : N.Nodup) (hck : ∀ p ∈ scope.names, p.2 = .cell → scope.names.lookup p.1 = some .cell)
    {pins : List (Addr × Obj)} (J : Inv (cxOf CX P w K mg base N qual scope f cd A outer s H E) pins σ H' s') :
    ∃ H3, Same H' H3 ∧ CellsOf (cellsFrom (s.heap.objs.size + 1) scope.names []) N σ H3 ∧ (∀ b, H' b = none → H3 b ≠ none → ∃ y, (cellsFrom (s.heap.objs.size + 1) scope.names []).lookup y = some b) ∧ Un (frs outer) [] H H3 s.heap s'.heap ∧ HOk P w H3 s'.heap := by
  have hvis : ∀ y c, (cellsFrom (s.heap.objs.size + 1) scope.names []).lookup y = some c → scope.names.lookup y = some .cell := fun y c e => by
    rcases cells_mem _ _ _ (mem_of_look e) with z | z
    · cases z
    · exact hck _ z rfl
  obtain ⟨cells, hcells⟩ : ∃ l, l = cellsFrom (s.heap.objs.size + 1) scope.names [] := ⟨_, rfl⟩
  rw [← hcells] at hvis ⊢
  have henv : (cxOf CX P w K mg base N qual scope f cd A outer s H E).env.cells = cells := hcells.symm
  let G : Addr → V → Prop := fun b v => ∃ (i : Nat) (y : Str), N[i]? = some y ∧ σ[i]? = some (some v) ∧ cells.lookup y = some b
  have G1 : ∀ b v v', G b v → G b v' → v = v' := by
    rintro b v v' ⟨i, y, a1, a2, a3⟩ ⟨j, z, b1, b2, b3⟩
    have : y = z := J.ok.inj y z b (by rw [henv]; exact a3) (by rw [henv]; exact b3)
    subst this
    have : i = j := nodup_ix hN a1 b1
    subst this
    rw [a2] at b2
    cases b2
    rfl
  have G2 : ∀ b v, G b v → H' b = none ∧ s.heap.objs.size ≤ b ∧ CellX b v s'.heap := by
    rintro b v ⟨i, y, a1, a2, a3⟩
    refine ⟨J.freeC y b (by rw [henv]; exact a3), J.ok.cab y b rfl (by rw [henv]; exact a3), ?_⟩
    obtain ⟨m, hn, hl⟩ := J.loc
    obtain ⟨u, r, l⟩ := hl i y v a1 a2 (.inr (.inl (hvis y b a3)))
    rcases l with ⟨k, _⟩ | ⟨k, c, e, o, ho, hd⟩
    · exfalso
      have k : scope.names.lookup y = some .local := k
      rw [hvis y b a3] at k
      cases k
    · have e : cells.lookup y = some c := by rw [← henv]; exact e
      rw [a3] at e
      cases e
      exact ⟨o, u, ho, hd, r⟩
  classical
  let H3 : Hp := fun b => if h : ∃ v, G b v then some (.ext (CellX b (Classical.choose h))) else H' b
  have g1 : ∀ b v, G b v → H3 b = some (.ext (CellX b v)) := fun b v h => by
    have hx : ∃ v, G b v := ⟨v, h⟩
    show (if h : ∃ v, G b v then some (.ext (CellX b (Classical.choose h))) else H' b) = _
    rw [dif_pos hx, G1 b _ v (Classical.choose_spec hx) h]
  have g2 : ∀ b, (¬ ∃ v, G b v) → H3 b = H' b := fun b h => dif_neg h
  have sm : Same H' H3 := fun b o e => by
    rw [g2 b fun ⟨v, z⟩ => by rw [(G2 b v z).1] at e; cases e]
    exact e
  have jb : Un (frs outer) [] H H' s.heap s'.heap := J.base
  refine ⟨H3, sm, fun i y v c a1 a2 a3 => g1 c v ⟨i, y, a1, a2, a3⟩, (fun b n1 n2 => ?_), ⟨jb.keep, jb.slot, fun b o e n hx => ?_, jb.there, fun b xs e => sm _ _ (jb.tups b xs e), fun b o u e => sm _ _ (jb.frzs b o u e), fun b ps e => ?_⟩, fun b o e => ?_⟩
  · by_cases h : ∃ v, G b v
    · obtain ⟨v, i, y, _, _, a3⟩ := h
      exact ⟨y, a3⟩
    · rw [g2 b h] at n2
      exact absurd n1 n2
  · rw [g2 b fun ⟨v, z⟩ => absurd (Nat.lt_of_lt_of_le (Heap.lt_size e) (G2 b v z).2.1) (Nat.lt_irrefl _)]
    exact jb.free b o e n hx
  · obtain ⟨more, z⟩ := jb.tbls b ps e
    exact ⟨more, sm _ _ z⟩
  · by_cases h : ∃ v, G b v
    · obtain ⟨v, h⟩ := h
      rw [g1 b v h] at e
      cases e
      exact cellX_ok (G2 b v h).2.2
    · rw [g2 b h] at e
      exact (J.hok b o e).stay (fun b' u' _ q => q) (fun b' q => sm _ _ q) fun b' xs q => sm _ _ q
/-- return f(e, ..), f a def; the cells are handed over for the call -/
theorem pr_retC {N : List Str} {qual : Str} {scope : Scope} {f : Addr} {cd : Value} {A : Around} {outer : List Env} {s : Shared} {H : Hp} {E : XK} {k : Nat} {g : Addr} {fd : FuncData} {ps : List Str} {sp : Sp} {ds : List Value} {dvs : List V} {x : Str} {p pos rp : Pos} {e : Expr} {es : List Expr} {t : TA}
    (hN : N.Nodup) (hck : ∀ p ∈ scope.names, p.2 = .cell → scope.names.lookup p.1 = some .cell)
    (F : FnOk P w K mg base CX0 k g fd ps sp) (hr : Room k (cxOf CX0 P w K mg base N qual scope f cd A outer s H E).nox.A) (hg : Gl (cxOf CX0 P w K mg base N qual scope f cd A outer s H E).nox x) (hm : mg x = some (.ref g)) (hk : PySem.W.keepIn K (.ref g) = true) (hb : Binds K fd ps ds) (hd : Vals dvs ds)
    (ha : PA (cxOf CX0 P w K mg base N qual scope f cd A outer s H E).nox (e :: es) t) (hdb : (x == ("__debug__" : Str)) = false := by decide)
    (he : starEach (e :: es) (cxOf CX0 P w K mg base N qual scope f cd A outer s H E).nox.env = (false, eval e (cxOf CX0 P w K mg base N qual scope f cd A outer s H E).nox.env) :: starEach es (cxOf CX0 P w K mg base N qual scope f cd A outer s H E).nox.env := by rfl)
    (hpl : (backTo pos (starEach es (cxOf CX0 P w K mg base N qual scope f cd A outer s H E).nox.env)).any (·.1) = false := by rfl) :
    PR (cxOf CX0 P w K mg base N qual scope f cd A outer s H E).nox [.Return (some (.Call (.Name x p) (e :: es) [] pos)) rp]
      (fun R _ σ H' => t σ H' fun vs H1 => ∀ H3, Same H1 H3 → CellsOf (cellsFrom (s.heap.objs.size + 1) scope.names []) N σ H3 → sp (vs ++ dvs) H3 R fun _ _ _ => False) := by
  intro pins s1 σ H1 R Z I h
  refine wpAny_execs_cons (wpAny_Return_some ?_)
  refine wpAny_Call_Name_kw (ld_glob I hg hm ?_ hdb)
  refine PySem.W.callWith_K (h₀ := base) I.ok.mod.kin hk (thn (ha pos pins s1 σ H1 _ I h) fun us s2 ⟨vs, H2, I2, r, q⟩ => ⟨I2.kIn, ?_⟩) he hpl
  have J : Inv (cxOf CX0 P w K mg base N qual scope f cd A outer s H E) pins σ H2 s2 := I2.unwish
  obtain ⟨H3, sm, hc, hnew, un, hok⟩ := track hN hck J
  have r2 : Vals (vs ++ dvs) (us ++ ds) := r.append hd
  have q' := q H3 sm hc
  have hl : (us ++ ds).length = ps.length := by rw [← r2.length]; exact F.len _ _ _ _ q'
  have hL : ∀ b ∈ frs (envOfC qual scope s.heap.objs.size f cd :: outer), b = s.heap.objs.size ∨ b ∈ frs outer := fun b hb => by
    have : b ∈ s.heap.objs.size :: frs outer := hb
    exact List.mem_cons.mp this
  have e0 : Env0 P w K mg base (cxOf CX0 P w K mg base N qual scope f cd A outer s H E).A (envOfC qual scope s.heap.objs.size f cd :: outer) s2 H3 := by
    have z := J.env0
    refine ⟨z.frames, z.mod, fun b o e => ⟨(z.bs b o e).1, un.free b o (J.ok.bs b o e).1 (J.ok.bs b o e).2 (by simp)⟩, z.bsz, z.funs, fun b hb => ?_, hok, z.bare⟩
    cases q3 : H3 b with
    | none => rfl
    | some o =>
      obtain ⟨y, hy⟩ := hnew b (z.frf b hb) (by rw [q3]; simp)
      rcases hL b hb with rfl | hb'
      · exact absurd rfl (J.cne y _ hy)
      · obtain ⟨_, o', ho', _⟩ := J.ok.funs.mem hb'
        have := J.ok.cab y b rfl hy
        exact absurd (Nat.lt_of_lt_of_le (Heap.lt_size ho') this) (Nat.lt_irrefl _)
  refine wpAny_call (codeAny_mono (F.run _ _ s2 H3 ⟨us, []⟩ (us ++ ds) (vs ++ dvs) R _ hr e0 (hb s2 us J.kIn hl) r2 q') fun rr s' hq => ?_)
  cases rr with
  | error e => exact False.elim hq
  | ok fl =>
    cases fl with
    | ret u =>
      obtain ⟨v, H4, os, bare, un2, hok4, rv, qq⟩ := hq
      have hout : ∀ b o, s.heap.get? b = some o → b ∉ frs outer → b ∉ frs (envOfC qual scope s.heap.objs.size f cd :: outer) := fun b o e n z => by
        rcases hL b z with rfl | z
        · exact absurd (Heap.lt_size e) (Nat.lt_irrefl _)
        · exact n z
      have hin : ∀ b, b ∈ frs outer → b ∈ frs (envOfC qual scope s.heap.objs.size f cd :: outer) := fun b z => by
        show b ∈ s.heap.objs.size :: frs outer
        exact List.mem_cons_of_mem _ z
      refine ⟨u, rfl, .inr ⟨v, H4, os.trans J.os, bare, ⟨fun b o e n hb hx => un2.keep b o (un.keep b o e n hb hx) (un.free b o e n hx) (hout b o e hb) hx, fun b o e n hb hx => ?_, fun b o e n hx => ?_, fun b o e hx => ?_, fun b xs e => un2.tups b xs (un.tups b xs e), fun b o u e => un2.frzs b o u (un.frzs b o u e), fun b qs e => ?_⟩, hok4, rv, qq⟩⟩
      · obtain ⟨sl, e1⟩ := un.slot b o e n hb hx
        obtain ⟨sl', e2⟩ := un2.slot b _ e1 (un.free b o e n hx) (hin b hb) hx
        exact ⟨sl', e2⟩
      · obtain ⟨o', e1⟩ := un.there b o e hx
        exact un2.free b o' e1 (un.free b o e n hx) hx
      · obtain ⟨o', e1⟩ := un.there b o e hx
        exact un2.there b o' e1 hx
      · obtain ⟨m1, e1⟩ := un.tbls b qs e
        obtain ⟨m2, e2⟩ := un2.tbls b _ e1
        exact ⟨m1 ++ m2, by rw [e2, Array.append_assoc]⟩
    | next => exact False.elim hq
    | brk => exact False.elim hq
    | cont => exact False.elim hq
/-- THE RULE for a def that makes lambdas: c its code, in which the table P stands -/
theorem Fun.okL {x qual : Str} {st : Stmt} {f c : Addr} {fd : FuncData} {N ps : List Str} {k : Nat} {sp : Sp} (F : Fun K x qual st f fd) (hc : fd.code = .ref c) (S : FnScope N ps (defScope st)) (hck : ∀ p ∈ (defScope st).names, p.2 = .cell → (defScope st).names.lookup p.1 = some .cell)
    (len : ∀ vs H Q E, sp vs H Q E → vs.length = ps.length)
    (hbody : ∀ (A : Around) (outer : List Env) (s : Shared) (H : Hp) (vs : List V) (Q : VK) (E : XK), Room k (A.deeper (envOfC qual (defScope st) s.heap.objs.size f (.ref c))) → sp vs H Q E →
      ∃ t, PR (cxOf CX0 P w K mg base N qual (defScope st) f (.ref c) A outer s H E).nox (defBody st) t ∧ t Q (fun v σ H' => ∀ H3, Same H' H3 → CellsOf (cellsFrom (s.heap.objs.size + 1) (defScope st).names []) N σ H3 → Q v H3) (start N vs) H) : FnOk P w K mg base CX0 (k + 1) f fd ps sp := by
  obtain ⟨oc, od, kV, doc, pm, an, cdv, ct, osl, rfl, lk, hcd⟩ := F.ex
  obtain rfl : cdv = .ref c := hc
  refine ⟨len, fun A outer s H args us vs Q E hr e0 hb r hsp => ?_⟩
  have hl := len _ _ _ _ hsp
  have KX : K.In s.heap := e0.mod.kin.keeps fun b o e => (e0.bs b o e).1
  have lim : s.heap.NoLimit := e0.mod.nolimit.keeps fun b o e => (e0.bs b o e).1
  have hkind : ∀ y ∈ ps.zip us, (defScope st).names.lookup y.1 = some .local ∨ ((defScope st).names.lookup y.1 = some .cell ∧ ((cellsFrom (s.heap.objs.size + 1) (defScope st).names []).lookup y.1).isSome = true) := fun ⟨n, v⟩ hy => by
    rcases S.par n (List.of_mem_zip hy).1 with q | q
    · exact .inl q
    · exact .inr ⟨q, PySem.W.cellsFrom_some _ _ _ (.inl q)⟩
  refine codeAny_call_function hr.depth (KX _ _ lk) rfl S.co S.gen rfl (PySem.W.codeRec_of KX hcd) (hb _ _ _ _ ?_)
  refine wpAny_newFunctionEnv_cells S.kind hkind fun env he s1 x => ?_
  subst he
  refine ⟨lim.keeps x.toInCall.keep, codeAny_func ?_⟩
  obtain ⟨t, ht, hq⟩ := hbody A outer s H vs Q E (hr.deeper _) hsp
  have I : Inv (cxOf CX0 P w K mg base N qual (defScope st) f (.ref c) A outer s H E) [] (start N vs) H s1 := inv_start S hr.hd e0 hl r x
  refine wpAny_mono (ht [] s1 (start N vs) H Q _ (I.wish _) hq) (fun fl s' hs => ?_) fun e s' hs => False.elim hs
  obtain ⟨u, rfl, ⟨v, σ', H', J, rv, q⟩ | ⟨v, H', g1, g2, g3, g4, rv, q⟩⟩ := hs
  · have J := J.unwish
    rcases q with q | q
    · exact ⟨v, H', J.os, J.bare, J.base, J.hok, rv, q⟩
    · obtain ⟨H3, h1, h2, _, h3, h4⟩ := track S.nd hck J
      exact ⟨v, H3, J.os, J.bare, h3, h4, rv, q H3 h1 h2⟩
  · exact ⟨v, H', g1, g2, g3, g4, rv, q⟩
end
end L2

set_option Elab.async false
set_option linter.all false
set_option maxRecDepth 100000
set_option maxHeartbeats 4000000
namespace L2
open PySem PySem.Spec PyProof.Rows
/-- THE HEAD of a law that comes to lambdas: the tables at ts are empty and tracked -/
theorem law_callT {P : Program} {w : World} {K : PySem.W.Frag} {mg mb : Str → Option Value} {CX : CXT} {k : Nat} {fa a : Addr} {fd : FuncData} {x : Str} {sp : Sp} {s₁ : Shared} {vs : List Value} {ns : List Int} {ts : List Addr}
    (KX : K.In s₁.heap) (hns : s₁.heap.Ns mainGlobals mg) (hb : s₁.heap.Ns builtinsNs mb) (hbb : ∀ x : Str, x ≠ "__name__" → mb x = bootBuiltins x) (hlim : s₁.heap.NoLimit) (hg : s₁.gens = #[])
    (ha : s₁.heap.get? a = some { cls := .type "list", data := .seq vs.toArray }) (hi : IntsAre vs ns) (hl : ns.length ≤ sizeLine) (hr : Room k callerA) (hbm : Bm mg s₁.heap)
    (htab : ∀ P ∈ ts, s₁.heap.get? P = some (PySem.W.tabObj #[])) (htc : ∀ P ∈ ts, ∃ c, PySem.W.codeHdIn K c P = true) (htK : ∀ P ∈ ts, K.lookup P = none)
    (F : ∀ base : Heap, K.In base → base.Ns mainGlobals mg → Bm mg base → FnOk P w K mg base CX k fa fd [x] sp) (hbind : ∀ (s : Shared) (u : Value), BindsTo s fd ⟨[u], []⟩ [(x, u)])
    (hsp : ∀ H : Hp, (∀ P ∈ ts, H P = some (.tbl #[])) → SqL K H a (ns.map V.int) → sp [.ref a] H (fun v _ => v = .bl true) fun _ _ _ => False)
    (hCX : ∀ H e s', CX [] H s₁ (fun _ _ _ => False) e s' → False) :
    codeAny (model P w) callerA (.call (.ref fa) ⟨[.ref a], []⟩) (fun r s' => r = .ok (.ret (.bool true)) ∧ OldK s₁.heap s'.heap ∧ s'.os = s₁.os ∧ AllBare s'.gens) s₁ := by
  have rv := vals_ints hi
  have lenV := hi.length
  have nat : a ∉ ts := fun z => by have := htab a z; rw [ha] at this; cases this
  have core : ∀ H : Hp, (∀ P ∈ ts, H P = some (.tbl #[])) → SqL K H a (ns.map V.int) → HOk P w H s₁.heap → (∀ b u, H b = some u → (b = a ∧ ∃ o xs, u = .frz o (.lst xs)) ∨ (b ∈ ts ∧ u = .tbl #[])) → (H a ≠ none → K.lookup a = none) →
      codeAny (model P w) callerA (.call (.ref fa) ⟨[.ref a], []⟩) (fun r s' => r = .ok (.ret (.bool true)) ∧ OldK s₁.heap s'.heap ∧ s'.os = s₁.os ∧ AllBare s'.gens) s₁ := by
    intro H hT hS hok hA hK
    have base_of : ∀ {b : Addr} {o : Obj}, s₁.heap.get? b = some o → H b = none → (hidT s₁.heap H).get? b = some o := fun e n => hidT_get e n
    have noA : ∀ {b : Addr} {o : Obj}, s₁.heap.get? b = some o → o.cls ≠ .none → (∀ its n, o.data ≠ .seq its n) → H b = none := fun {b o} e d1 d2 => by
      cases q : H b with
      | none => rfl
      | some u =>
        rcases hA b u q with ⟨rfl, _⟩ | ⟨hb, _⟩
        · rw [ha] at e; cases e; exact (d2 _ _ rfl).elim
        · rw [htab b hb] at e; cases e; exact (d1 rfl).elim
    have noD : ∀ {b : Addr} {o : Obj} {es : Array DictEntry} {ep : Nat}, s₁.heap.get? b = some o → o.data = .dict es ep → H b = none := fun {b o es ep} e d => by
      cases q : H b with
      | none => rfl
      | some u =>
        rcases hA b u q with ⟨rfl, _⟩ | ⟨hb, _⟩
        · rw [ha] at e; cases e
          have d' : Data.seq vs.toArray _ = Data.dict es ep := d
          cases d'
        · rw [htab b hb] at e; cases e; cases d
    have nsK : ∀ {b : Addr} {m : Str → Option Value}, s₁.heap.Ns b m → (hidT s₁.heap H).Ns b m := fun {b m} ⟨o, es, ep, e, d, r⟩ => ⟨o, es, ep, base_of e (noD e d), d, r⟩
    have hKb : K.In (hidT s₁.heap H) := fun b o e => base_of (KX b o e) (by
      cases q : H b with
      | none => rfl
      | some u =>
        rcases hA b u q with ⟨rfl, _⟩ | ⟨hb, _⟩
        · rw [hK (by rw [q]; simp)] at e; cases e
        · rw [htK b hb] at e; cases e)
    have hM : Mod K mg (hidT s₁.heap H) := ⟨hKb, nsK hns, ⟨mb, nsK hb, hbb⟩, let ⟨mc, h1, h2⟩ := hlim; ⟨mc, nsK h1, h2⟩⟩
    have hB : Bm mg (hidT s₁.heap H) := by
      obtain ⟨bm, ob, b1, b2, b3, b4, b5⟩ := hbm
      exact ⟨bm, ob, b1, base_of b2 (noA b2 (by rw [b3]; simp) (fun its n => by rw [b5]; intro z; cases z)), b3, b4, b5⟩
    have e0 : Env0 P w K mg (hidT s₁.heap H) callerA [] s₁ H := ⟨rfl, hM, fun b o e => of_hidT e, Nat.le_of_eq (hidT_size _ _), trivial, fun b hb => absurd (show b ∈ ([] : List Addr) from hb) (by simp), hok, .of_eq hg⟩
    refine codeAny_mono ((F _ hKb (nsK hns) hB).run callerA [] s₁ H ⟨[.ref a], []⟩ [.ref a] [.ref a] _ _ hr e0 (hbind s₁ (.ref a)) (.cons rfl .nil) (hsp H hT hS)) fun r s' h => ?_
    cases r with
    | error e => exact (hCX H e s' h).elim
    | ok fl =>
      cases fl with
      | next => exact False.elim h
      | brk => exact False.elim h
      | cont => exact False.elim h
      | ret u =>
        obtain ⟨v, H', os, bare, un, hok', r', q⟩ := h
        have q' : v = .bl true := q
        subst q'
        obtain rfl : u = Value.bool true := r'
        refine ⟨rfl, ⟨fun b o e => ?_, fun b o e => un.there b o e (by simp)⟩, os, bare⟩
        cases q : H b with
        | none => exact .inl (un.keep b o e q (by intro z; exact absurd (show b ∈ ([] : List Addr) from z) (by simp)) (by simp))
        | some u =>
          rcases hA b u q with ⟨_, ob, xs, rfl⟩ | ⟨hb, rfl⟩
          · have z2 := un.frzs b ob _ q
            obtain ⟨e1, _⟩ := hok b _ q
            obtain ⟨e2, _⟩ := hok' b _ z2
            rw [e] at e1; cases e1
            exact .inl e2
          · obtain ⟨c, hc⟩ := htc b hb
            have C := PySem.W.codeHd_of_K KX hc
            obtain ⟨more, z⟩ := un.tbls b _ q
            have z2 : s'.heap.get? b = some (PySem.W.tabObj (#[] ++ more)) := hok' b _ z
            rw [htab b hb] at e
            cases e
            exact .inr (.inl ⟨(C.tab (htab b hb)).isCodeTable, rfl, #[], more, rfl, z2⟩)
  let T : Hp := fun b => if b ∈ ts then some (.tbl #[]) else none
  cases hk : K.lookup a with
  | some o =>
    have e := KX a o hk
    rw [ha] at e
    cases e
    refine core T (fun P hP => if_pos hP) (.inr ⟨_, vs.toArray, _, hk, rfl, rfl, rfl, by rw [List.size_toArray, lenV]; exact hl, by simpa using rv⟩) (fun b u z => ?_) (fun b u z => ?_) fun z => absurd (if_neg nat) z
    · by_cases hb : b ∈ ts
      · have z' := (if_pos hb).symm.trans z
        cases z'
        exact htab b hb
      · have z' := (if_neg hb).symm.trans z
        cases z'
    · by_cases hb : b ∈ ts
      · have z' := (if_pos hb).symm.trans z
        cases z'
        exact .inr ⟨hb, rfl⟩
      · have z' := (if_neg hb).symm.trans z
        cases z'
  | none =>
    refine core (fun b => if b = a then some (.frz { cls := .type "list", data := .seq vs.toArray } (.lst (ns.map V.int))) else T b) (fun P hP => ?_) (.inl (.inr ⟨{ cls := .type "list", data := .seq vs.toArray }, if_pos rfl⟩)) (fun b u z => ?_) (fun b u z => ?_) fun _ => hk
    · have hne : P ≠ a := fun z => nat (by rw [← z]; exact hP)
      exact (if_neg hne).trans (if_pos hP)
    · by_cases hb : b = a
      · have z' := (if_pos hb).symm.trans z
        cases z'
        subst hb
        exact ⟨ha, by rw [List.length_map]; exact hl, vs, _, rv, ha⟩
      · have z' := (if_neg hb).symm.trans z
        by_cases hb : b ∈ ts
        · have z' := (if_pos hb).symm.trans z'
          cases z'
          exact htab b hb
        · have z' := (if_neg hb).symm.trans z'
          cases z'
    · by_cases hb : b = a
      · have z' := (if_pos hb).symm.trans z
        cases z'
        exact .inl ⟨hb, _, _, rfl⟩
      · have z' := (if_neg hb).symm.trans z
        by_cases hb : b ∈ ts
        · have z' := (if_pos hb).symm.trans z'
          cases z'
          exact .inr ⟨hb, rfl⟩
        · have z' := (if_neg hb).symm.trans z'
          cases z'
theorem walk_ofT {l : PySem.W.OpenLaw} {n k : Nat} {q : Program} {loose : List Str} {XP : (Str → Option Value) → Heap → Prop} {YP : World → Heap → Prop} {d : DefRec} {K : Params → PySem.W.Frag} {CX : CXT} {sp : PySem.W.Frag → List Addr → Sp} {x : Str} {ts : List Addr}
    (hn : l.most = some n) (hn2 : n ≤ sizeLine) (hdf : d.params.defaults = []) (hr : Room k callerA)
    (hY : ∀ (w : World) (h : Heap), YP w h → (K w.params).In h ∧ ∀ P ∈ ts, h.get? P = some (PySem.W.tabObj #[]))
    (F : ∀ (ts' : List Addr), ts' = ts → ∀ (w : World) (mg : Str → Option Value) (fa : Addr) (h : Heap), (K w.params).In h → h.Ns mainGlobals mg → mg d.name = some (.ref fa) →
      ∃ fd : FuncData, (∀ (s : Shared) (u : Value), BindsTo s fd ⟨[u], []⟩ [(x, u)]) ∧ (∀ P ∈ ts, ∃ c, PySem.W.codeHdIn (K w.params) c P = true) ∧ (∀ P ∈ ts, (K w.params).lookup P = none) ∧
        ∀ base : Heap, (K w.params).In base → base.Ns mainGlobals mg → Bm mg base → FnOk l.prog w (K w.params) mg base CX k fa fd [x] (sp (K w.params) ts))
    (hsp : ∀ (K : PySem.W.Frag) (H : Hp) (a : Addr) (ns : List Int), ns.length ≤ n → (∀ P ∈ ts, H P = some (.tbl #[])) → SqL K H a (ns.map V.int) → sp K ts [.ref a] H (fun v _ => v = .bl true) fun _ _ _ => False)
    (hCX : ∀ (H : Hp) (s : Shared) (e : Value) (s' : Shared), CX [] H s (fun _ _ _ => False) e s' → False) :
    PySem.W.WalkO q loose XP YP l.row.toRowW d [] (fun f vs => PySem.call f vs) := by
  refine Att.attach_call hn hdf fun w s₀ s₁ mg mb fa o pm cd doc a vs ns G Y ho hd hcd hmg hobj hints hlen hg => ?_
  obtain ⟨KX, hT⟩ := hY w _ Y
  obtain ⟨fd, hb, htc, htK, hF⟩ := F ts rfl w mg fa _ KX G.T.g hmg
  have hbm : Bm mg s₁.heap := let ⟨bm, ob, b1, _, b3, b4, b5, b6⟩ := G.T.bmain; ⟨bm, ob, b1, b3, b4, b5, b6⟩
  exact law_callT KX G.T.g G.T.b G.T.builtins G.T.nolimit hg hobj hints (Nat.le_trans hlen hn2) hr hbm hT htc htK hF hb (fun H hO hS => hsp (K w.params) H a ns hlen hO hS) fun H e s' => hCX H s₁ e s'
end L2

set_option linter.all false
namespace FrM
noncomputable def lowP (t b : Int) : Int × Int := (t / (Int.gcd t b : Int), b / (Int.gcd t b : Int))
noncomputable def sz (z : List Int) (k : Nat) : Int := z.getD k 0
noncomputable def sumL (z : List Int) (l : List Nat) : Int := (l.map (sz z)).sum
noncomputable def stay (z : List Int) (l : List Nat) (w : Int) : List Nat := l.filter fun k => decide (sz z k * w < sumL z l)
theorem stay_le (z : List Int) (l : List Nat) (w : Int) : (stay z l w).length ≤ l.length := List.length_filter_le _ _
noncomputable def fin (z : List Int) (l : List Nat) (w : Int) : List Nat × Int :=
  if (stay z l w).length = l.length then (l, w) else fin z (stay z l w) (w - ((l.length : Int) - ((stay z l w).length : Int)))
termination_by l.length
decreasing_by
  have := stay_le z l w
  lia
theorem fin_stop {z : List Int} {l : List Nat} {w : Int} (h : (stay z l w).length = l.length) : fin z l w = (l, w) := by
  rw [fin, if_pos h]
theorem fin_go {z : List Int} {l : List Nat} {w : Int} (h : (stay z l w).length ≠ l.length) : fin z l w = fin z (stay z l w) (w - ((l.length : Int) - ((stay z l w).length : Int))) := by
  rw [fin, if_neg h]
theorem sumL_ge (z : List Int) : ∀ (l : List Nat), (∀ k ∈ l, 1 ≤ sz z k) → (l.length : Int) ≤ sumL z l
  | [], _ => by simp [sumL]
  | a :: l, h => by
    have := sumL_ge z l (fun k hk => h k (List.mem_cons_of_mem _ hk))
    have h1 := h a List.mem_cons_self
    unfold sumL at *
    rw [List.map_cons, List.sum_cons, List.length_cons]
    lia
theorem sum_ge_mul (z : List Int) (w S : Int) : ∀ (l : List Nat), (∀ k ∈ l, S ≤ sz z k * w) → (l.length : Int) * S ≤ sumL z l * w
  | [], _ => by simp [sumL]
  | a :: l, h => by
    have := sum_ge_mul z w S l (fun k hk => h k (List.mem_cons_of_mem _ hk))
    have h1 := h a List.mem_cons_self
    unfold sumL at *
    rw [List.map_cons, List.sum_cons, List.length_cons, Int.add_mul]
    have e : ((l.length + 1 : Nat) : Int) * S = (l.length : Int) * S + S := by rw [Int.natCast_add, Int.add_mul]; simp
    rw [e]
    lia
theorem stay_pos {z : List Int} {l : List Nat} {w : Int} (hz : ∀ k ∈ l, 1 ≤ sz z k) (hw : w < l.length) (hl : 0 < l.length) : 0 < (stay z l w).length := by
  by_cases h : 0 < (stay z l w).length
  · exact h
  · exfalso
    have e : stay z l w = [] := List.length_eq_zero_iff.mp (by lia)
    have hall : ∀ k ∈ l, sumL z l ≤ sz z k * w := fun k hk => by
      have := (List.filter_eq_nil_iff.mp e) k hk
      simp at this
      exact this
    have h1 := sum_ge_mul z w (sumL z l) l hall
    have h2 := sumL_ge z l hz
    have h3 : 0 < sumL z l := by lia
    rw [Int.mul_comm (sumL z l) w] at h1
    have := Int.le_of_mul_le_mul_right h1 h3
    lia
/-- what is kept round by round -/
structure Rnd (z : List Int) (n : Nat) (m : Int) (l : List Nat) (w : Int) : Prop where
  pos : 0 < l.length
  sub : ∀ k ∈ l, k < n
  lt : w < l.length
  dif : w - l.length = m - n
  fil : l = (List.range n).filter fun k => decide (k ∈ l)
theorem Rnd.len {z : List Int} {n : Nat} {m : Int} {l : List Nat} {w : Int} (h : Rnd z n m l w) : l.length ≤ n := by
  have e := congrArg List.length h.fil
  have := List.length_filter_le (fun k => decide (k ∈ l)) (List.range n)
  rw [List.length_range] at this
  lia
theorem Rnd.start {z : List Int} {n : Nat} {m : Int} (h0 : 0 < n) (hm : m < n) : Rnd z n m (List.range n) m := by
  refine ⟨by rw [List.length_range]; exact h0, fun k hk => List.mem_range.mp hk, by rw [List.length_range]; exact hm, by rw [List.length_range], ?_⟩
  rw [List.filter_eq_self.mpr]
  intro k hk
  exact decide_eq_true hk
theorem Rnd.step {z : List Int} {n : Nat} {m : Int} {l : List Nat} {w : Int} (hz : ∀ k, k < n → 1 ≤ sz z k) (h : Rnd z n m l w) : Rnd z n m (stay z l w) (w - ((l.length : Int) - ((stay z l w).length : Int))) := by
  have hp := stay_pos (fun k hk => hz k (h.sub k hk)) h.lt h.pos
  refine ⟨hp, fun k hk => h.sub k (List.mem_filter.mp hk).1, by have := h.lt; lia, by have := h.dif; lia, ?_⟩
  have e : (List.range n).filter (fun k => decide (k ∈ stay z l w)) = ((List.range n).filter fun k => decide (k ∈ l)).filter fun k => decide (sz z k * w < sumL z l) := by
    rw [List.filter_filter]
    refine List.filter_congr fun k _ => ?_
    rw [Bool.eq_iff_iff]
    simp [stay]
    exact And.comm
  rw [e, ← h.fil]
  rfl
theorem Rnd.fin {z : List Int} {n : Nat} {m : Int} (hz : ∀ k, k < n → 1 ≤ sz z k) : ∀ (c : Nat) (l : List Nat) (w : Int), l.length ≤ c → Rnd z n m l w → Rnd z n m (fin z l w).1 (fin z l w).2
  | 0, l, w, hc, h => absurd h.pos (by lia)
  | c + 1, l, w, hc, h => by
    by_cases e : (stay z l w).length = l.length
    · rw [fin_stop e]; exact h
    · rw [fin_go e]
      have := stay_le z l w
      exact Rnd.fin hz c _ _ (by lia) (h.step hz)
/-- the shares over one bottom -/
structure Top (m : Int) (n : Nat) (S : Int) (N : Nat → Int) : Prop where
  pos : 0 < S
  all : ((List.range n).map N).sum = m * S
/-- what is due -/
noncomputable def due (z : List Int) (m : Int) : List (Int × Int) :=
  if (z.length : Int) ≤ m then z.map fun _ => (1, 1) else if m = 0 then z.map fun _ => (0, 1)
  else (List.range z.length).map fun k => if decide (k ∈ (fin z (List.range z.length) m).1) = true then lowP (sz z k * (fin z (List.range z.length) m).2) (sumL z (fin z (List.range z.length) m).1) else (1, 1)
end FrM

set_option Elab.async false
set_option linter.all false
set_option maxRecDepth 100000
set_option maxHeartbeats 4000000
namespace L2
open PySem PySem.Spec PyProof.Rows
/-! ### tuples of ints that the text holds -/
noncomputable def intsIn : List V → List Value → Bool
  | [], [] => true
  | .int i :: xs, .int j _ :: us => decide (i = j) && intsIn xs us
  | _, _ => false
theorem intsIn_vals : ∀ {xs : List V} {us : List Value}, intsIn xs us = true → Vals xs us
  | [], [], _ => .nil
  | .int i :: xs, .int j t :: us, h => by
    rw [intsIn, Bool.and_eq_true] at h
    have e := of_decide_eq_true h.1
    exact .cons ⟨t, by rw [e]⟩ (intsIn_vals h.2)
noncomputable def tupIn (K : PySem.W.Frag) (a : Addr) (xs : List V) : Bool :=
  match K.lookup a with
  | some o =>
    (match o.cls with
    | .type t => t == "tuple"
    | _ => false) &&
    (match o.data with
    | .seq its _ => decide (its.size ≤ 1000) && intsIn xs its.toList
    | _ => false)
  | none => false
theorem tup_in {K : PySem.W.Frag} {H : Hp} {a : Addr} {xs : List V} (h : tupIn K a xs = true) : SqT K H a xs := by
  unfold tupIn at h
  split at h
  · rename_i o e
    rw [Bool.and_eq_true] at h
    obtain ⟨h1, h2⟩ := h
    split at h1
    · rename_i t ec
      split at h2
      · rename_i its n ed
        rw [Bool.and_eq_true] at h2
        refine .inr ⟨o, its, n, e, by rw [ec, beq_iff_eq.mp h1], ed, ?_, intsIn_vals h2.2⟩
        have := of_decide_eq_true h2.1
        have : sizeLine = 16777216 := sizeLine_eq
        omega
      · cases h2
    · cases h1
  · cases h
theorem Same.seqT {K : PySem.W.Frag} {H H' : Hp} {a : Addr} {xs : List V} (e : Same H H') (h : SqT K H a xs) : SqT K H' a xs := by
  rcases h with (h | ⟨o, h⟩) | h
  · exact .inl (.inl (e _ _ h))
  · exact .inl (.inr ⟨o, e _ _ h⟩)
  · exact .inr h
/-! ### isinstance of these, too -/
noncomputable def TyS (K : PySem.W.Frag) (H : Hp) (x : V) (t : Value) : Prop := TyOf K H x t ∨ ∃ a xs, x = .ref a ∧ t = .type "tuple" ∧ SqT K H a xs
section
variable {X : Cx}
open PySem.W in
theorem kit_ofS {pins : List (Addr × Obj)} {σ : St} {H : Hp} {s : Shared} {x : V} {u t : Value} (I : Inv X pins σ H s) (rx : RelV x u) (ty : TyS X.K H x t) :
    ∃ Hh : Heap → Prop, KitX X.K u t Hh ∧ Hh s.heap ∧ u ≠ .builtin "__main__.__loader__#opaque" := by
  rcases ty with ty | ⟨a, xs, rfl, rfl, hq⟩
  · exact kit_of I rx ty
  · cases (show u = Value.ref a from rx)
    obtain ⟨its, rv, p, hz⟩ := I.tuple hq
    exact ⟨_, PySem.W.kitx_tuple, let ⟨o, e, c, _⟩ := p; ⟨o, e, c⟩, fun z => nomatch z⟩
noncomputable def rIsS (K : PySem.W.Frag) : List V → Hp → VK → Prop := fun xs H Q => ∃ x c t b, xs = [x, c] ∧ isCls c = true ∧ TyS K H x t ∧ PySem.W.kitOne K t (cVal c) = some b ∧ Q (.bl b) H
theorem call_iss : CallR X (.builtin "isinstance") (rIsS X.K) := by
  intro pins s σ H xs us Q I r h
  obtain ⟨x, c, t, b, rfl, hc, ty, e, q⟩ := h
  obtain ⟨u, w', rfl, rx, rc⟩ := vals2 r
  cases cVal_of hc rc
  obtain ⟨Hh, Z, p, hx⟩ := kit_ofS I rx ty
  exact PySem.W.kia_one Z I.kIn p e hx fun tk => ⟨.bl b, H, I.tok tk, rfl, q⟩
/-! ### sum of ints -/
inductive rSumI (K : PySem.W.Frag) (xs : List V) (H : Hp) (Q : VK) : Prop
  | mk (p : Addr) (ns : List Int) (h0 : xs = [.ref p]) (h1 : SqL K H p (ns.map V.int)) (h2 : Q (.int ns.sum) H) : rSumI K xs H Q
/-! ### list(range(n)) -/
theorem call_lstRngN (hc : X.calm = true) : CallR X (.type "list") (fun xs H Q => ∃ (p : Addr) (n : Nat), xs = [.ref p] ∧ n ≤ 1000 ∧ H p = some (.rng 0 (n : Int)) ∧ ∀ l, H l = none → Q (.ref l) (upd H l (.lst ((List.range n).map fun (i : Nat) => V.int (i : Int))))) := by
  intro pins s σ H xs us Q I r h
  obtain ⟨p, n, rfl, hn, e, q⟩ := h
  obtain ⟨u, rfl, ru⟩ := vals1 r
  cases ru
  obtain ⟨t, t2, t3, ho⟩ := (show ObjOk X.prog X.w H s.heap p (.rng 0 (n : Int)) from I.hok p _ e)
  refine call_list_range (n := n) (I.ok.hd hc) ho (small_one (by decide) (by decide) (by omega) (by omega)) (by rw [rangeSize_one]; split <;> omega) (by omega) fun h' tk acc c hk hS hI => ?_
  refine ⟨.ref s.heap.objs.size, _, I.laid (t' := tk) (o := .lst ((List.range n).map fun (i : Nat) => V.int (i : Int))) hk (Nat.le_refl _) ?_, rfl, q _ (I.hok.fresh (Nat.le_refl _))⟩
  obtain ⟨z1, z2⟩ := hI
  refine ⟨by rw [List.length_map, List.length_range, sizeLine_eq]; omega, acc.toList, c, vals_at (by rw [List.length_map, List.length_range]; simpa using z1.symm) fun i x u hx hu => ?_, hS⟩
  rw [List.getElem?_map] at hx
  have hi : i < n := by
    by_cases hi : i < n
    · exact hi
    · rw [List.getElem?_eq_none (by rw [List.length_range]; omega)] at hx
      cases hx
  rw [List.getElem?_range hi] at hx
  cases hx
  obtain ⟨tt, hv⟩ := z2 i u (by simpa using hu)
  refine (show ∃ t', u = Value.int (i : Int) t' from ⟨tt, ?_⟩)
  rw [hv]
  congr 1
  omega
/-! ### for k in range(a, b, c), c from 1 on -/
end
end L2

set_option Elab.async false
set_option linter.all false
set_option maxRecDepth 100000
set_option maxHeartbeats 4000000
namespace L2
open PySem PySem.Spec PyProof.Rows
/-! ### a lambda's place in the text -/
noncomputable def dE : Expr := .Name "" ⟨0, 0, 0, 0⟩
noncomputable def stAt (st : Stmt) (i : Nat) : Stmt := (defBody st).getD i (.Pass ⟨0, 0, 0, 0⟩)
noncomputable def retE : Stmt → Expr
  | .Return (some e) _ => e
  | _ => dE
noncomputable def argE : Expr → Nat → Expr
  | .Call _ es _ _, i => es.getD i dE
  | _, _ => dE
noncomputable def lamOf (q : Str) : Expr → LamD
  | .Lambda p b s _ => ⟨q, p, b, s⟩
  | _ => ⟨q, default, dE, default⟩
noncomputable def lamP : Expr → Pos
  | .Lambda _ _ _ p => p
  | _ => ⟨0, 0, 0, 0⟩
/-! ### sorted ints -/
end L2

set_option Elab.async false
set_option linter.all false
set_option maxRecDepth 100000
set_option maxHeartbeats 4000000
namespace L2
open PySem PySem.Spec PyProof.Rows
/-! ### try, with any body of ifs and calls, and several clauses -/
/-- an exception has come to this frame's try -/
structure Lnd (X : Cx) (pins : List (Addr × Obj)) (σ : St) (H : Hp) (s : Shared) (x D : Addr) (dct : Option Addr) (T : Addr) (H' : Hp) (s' : Shared) (T4 : Addr) (h5 : Heap) : Prop where
  I : Inv X pins σ H s
  G : XG X.prog X.w X.stack H s x D dct T H' s'
  k : KeptBut ([T, x] ++ [T4]) (frs X.stack) s'.heap h5
  hxs : ∀ b, b = T ∨ b = x ∨ b = T4 → s.heap.get? b = none ∧ H' b = none ∧ b ∉ frs X.stack
  fx : Fx h5 x (.ref D) dct .none T4
noncomputable abbrev TH := Addr → Option Addr → Addr → Ends → St → Hp → Prop
section
variable {X : Cx} {C : Addr} {cn en : Str} {ie : Nat} {b₀ : Stmt} {suite : List Stmt} {cp hp : Pos} {ts : TS} {rest : List ExceptHandler} {tr : TH}
theorem Lnd.J {pins : List (Addr × Obj)} {σ : St} {H : Hp} {s : Shared} {x D : Addr} {dct : Option Addr} {T : Addr} {H' : Hp} {s' : Shared} {T4 : Addr} {h5 : Heap} (L : Lnd X pins σ H s x D dct T H' s' T4 h5) : Inv X pins σ (upd H' x (.ext (XCt x D dct))) { s' with heap := h5 } :=
  landG (h2 := h5) L.I L.G L.k (fun b hb => L.hxs b (by simpa using hb)) L.fx
end
/-- where an exception comes from, within a try's body -/
noncomputable def HX (X : Cx) (pins : List (Addr × Obj)) (hr : Value → Option Addr → St → Hp → Prop) (e : Value) (s' : Shared) : Prop := ∃ σ H s, Inv X pins σ H s ∧ CXG X.prog X.w X.stack H s (fun c d H' => hr c d σ H') e s'
noncomputable abbrev TB := (St → Hp → Prop) → VK → (Value → Option Addr → St → Hp → Prop) → St → Hp → Prop
noncomputable def PB (X : Cx) (sts : List Stmt) (t : TB) : Prop :=
  ∀ (pins : List (Addr × Obj)) (s : Shared) (σ : St) (H : Hp) (nx : St → Hp → Prop) (rt : VK) (hr : Value → Option Addr → St → Hp → Prop), Inv X pins σ H s → t nx rt hr σ H → wpAny (model X.prog X.w) X.A (execs sts X.env) (SP X pins { nx := nx, rt := rt }) (HX X pins hr) s
section
variable {X : Cx}
/-- an expression that may raise: a call of a def, of a class, of a method -/
noncomputable def PX (X : Cx) (e : Expr) (t : VK → XK → St → Hp → Prop) : Prop :=
  ∀ (pins : List (Addr × Obj)) (s : Shared) (σ : St) (H : Hp) (Q : VK) (E : XK), Inv X pins σ H s → t Q E σ H →
    wpAny (model X.prog X.w) X.A (eval e X.env) (EP X pins σ Q) (fun e s' => ∃ H1 s1, Inv X pins σ H1 s1 ∧ CXG X.prog X.w X.stack H1 s1 E e s') s
end
section
variable {X : Cx} {k : Nat} {f C : Addr} {fd : FuncData} {ps : List Str} {sp : Sp} {dvs : List V} {ds : List Value} {x m : Str} {p pos apos : Pos} {e o : Expr} {es : List Expr} {ta : TE} {t : TA}
theorem PX.or {t t' : VK → XK → St → Hp → Prop} {ex : Expr} (h : PX X ex t) (h' : PX X ex t') : PX X ex (fun Q E σ H => t Q E σ H ∨ t' Q E σ H) := fun pins s σ H Q E I q => q.elim (h pins s σ H Q E I) (h' pins s σ H Q E I)
end
end L2

set_option Elab.async false
set_option linter.all false
namespace L2
open PySem PySem.Spec PyProof.Rows
section
variable {X : Cx} {e : Expr} {es : List Expr} {pos : Pos}
end
end L2

set_option Elab.async false
set_option linter.all false
set_option maxRecDepth 100000
namespace L2
open PySem PySem.Spec PyProof.Rows
/-! ### (a, b, ..) = a list of that length -/
section
variable {X : Cx} {pos : Pos}
end
end L2

set_option Elab.async false
set_option linter.all false
set_option maxRecDepth 100000
namespace L2
open PySem PySem.Spec PyProof.Rows
section
variable {X : Cx}
/-! ### o[i] op= e over a list -/
/-! ### lists of the same objects -/
end
end L2

set_option Elab.async false
set_option linter.all false
set_option maxRecDepth 100000
set_option maxHeartbeats 4000000
namespace L2
open PySem PySem.Spec PyProof.Rows PySem.W
/-! ### a dict by its entries, whatever its keys are: walked, listed, sorted -/
noncomputable def DE (h : Heap) (d : Addr) (es : Array DictEntry) (ep : Nat) : Prop := ∃ o, h.get? d = some o ∧ o.ExactDict ∧ o.data = .dict es ep
theorem DE.on {h h' : Heap} {d : Addr} {es : Array DictEntry} {ep : Nat} (x : DE h d es ep) (k : ∀ o, h.get? d = some o → h'.get? d = some o) : DE h' d es ep := let ⟨o, e, r⟩ := x; ⟨o, k o e, r⟩
theorem DE.lt {h : Heap} {d : Addr} {es : Array DictEntry} {ep : Nat} (x : DE h d es ep) : d < h.objs.size := let ⟨_, e, _⟩ := x; Heap.lt_size e
theorem DE.ty {s : Shared} {d : Addr} {es : Array DictEntry} {ep : Nat} (x : DE s.heap d es ep) : s.TypeIs (.ref d) "dict" := let ⟨o, e, c, _⟩ := x; ⟨o, e, c.1⟩
section
variable {prog : Program} {w : World} {A : Around} {E : Value → Shared → Prop} {s : Shared} {d I : Addr} {es : Array DictEntry} {ep i : Nat}
end
section
variable {X : Cx}
theorem KT.at {H : Hp} : ∀ {kvs : List (List Key × V)} {xs : List (List Key × Addr × Value)} {i : Nat} {kv : List Key × V}, KT H kvs xs → kvs[i]? = some kv → ∃ x, xs[i]? = some x ∧ H x.2.1 = some (.tup (kv.1.map kV))
  | _, _, _, _, .nil, h => by cases h
  | _, _, 0, _, .cons r t, h => by cases h; exact ⟨_, rfl, r.2.1⟩
  | _, _, i + 1, _, .cons r t, h => KT.at (i := i) t h
end
end L2

set_option Elab.async false
set_option linter.all false
set_option maxRecDepth 100000
set_option maxHeartbeats 4000000
namespace L2
open PySem PySem.Spec PyProof.Rows PySem.W
section
variable {X : Cx} {K : PySem.W.Frag}
end
end L2

set_option Elab.async false
set_option linter.all false
set_option maxRecDepth 100000
set_option maxHeartbeats 4000000
namespace L2
open PySem PySem.Spec PyProof.Rows PySem.W
/-! ### a dict whose keys are tuples, frozen while it is walked -/
section
variable {X : Cx} {pins : List (Addr × Obj)} {σ : St} {H : Hp} {s : Shared} {a : Addr} {kvs : List (List Key × V)} {o : Obj}
theorem Inv.freeze (I : Inv X pins σ H s) (h : Rd H a (.dT kvs)) (ho : s.heap.get? a = some o) : Inv X pins σ (upd H a (.frz o (.dT kvs))) s := by
  have hok := h.ok I.hok
  have hs : ∃ u, H a = some u := by rcases h with e | ⟨_, e⟩ <;> exact ⟨_, e⟩
  have nn : ∀ {b}, H b = none → b ≠ a := fun {b} e z => by subst z; obtain ⟨u, q⟩ := hs; rw [e] at q; cases q
  have nt : ∀ {b xs}, H b = some (.tup xs) → b ≠ a := fun {b xs} e z => by subst z; rcases h with q | ⟨_, q⟩ <;> (rw [e] at q; cases q)
  have no : ∀ {b y}, H b = some (.own y) → b ≠ a := fun {b y} e z => by subst z; rcases h with q | ⟨_, q⟩ <;> (rw [e] at q; cases q)
  have nb : ∀ {b ps}, H b = some (.tbl ps) → b ≠ a := fun {b ps} e z => by subst z; rcases h with q | ⟨_, q⟩ <;> (rw [e] at q; cases q)
  have fz : ∀ b u v, H b = some (.frz u v) → (upd H a (.frz o (.dT kvs))) b = some (.frz u v) := fun b u v e => by
    by_cases c : b = a
    · subst c
      rcases h with q | ⟨o', q⟩
      · rw [e] at q; cases q
      · rw [e] at q
        cases q
        obtain ⟨g, _⟩ := (show ObjOk X.prog X.w H s.heap b (.frz u (.dT kvs)) from I.hok b _ e)
        rw [ho] at g
        cases g
        exact upd_same
    · rw [upd_ne c]; exact e
  refine ⟨I.ok, I.os, I.bare, ⟨I.base.keep, I.base.slot, fun b u e n hx => ?_, I.base.there, fun b xs e => ?_, fun b u v e => fz b u v (I.base.frzs b u v e), fun b ps e => ?_⟩, I.loc, I.cell, ?_, fun x c e => ?_, fun p hp => ?_, fun b u e => ?_, I.len⟩
  · have := I.base.free b u e n hx; rw [upd_ne (nn this)]; exact this
  · have := I.base.tups b xs e; rw [upd_ne (nt this)]; exact this
  · obtain ⟨more, z⟩ := I.base.tbls b ps e; exact ⟨more, by rw [upd_ne (nb z)]; exact z⟩
  · rw [upd_ne (nn I.free)]; exact I.free
  · rw [upd_ne (nn (I.freeC x c e))]; exact I.freeC x c e
  · obtain ⟨g1, g2, g3⟩ := I.pin p hp; exact ⟨g1, by rw [upd_ne (nn g2)]; exact g2, g3⟩
  · by_cases hb : b = a
    · subst hb
      rw [upd_same] at e
      cases e
      exact ⟨ho, hok.stay (fun _ _ _ q => q) (fun c q => by rw [upd_ne (no q)]; exact q) fun c xs q => by rw [upd_ne (nt q)]; exact q⟩
    · rw [upd_ne hb] at e
      exact (I.hok b u e).stay (fun _ _ _ q => q) (fun c q => by rw [upd_ne (no q)]; exact q) fun c xs q => by rw [upd_ne (nt q)]; exact q
end
theorem frz_de {P : Program} {w : World} {H : Hp} {h : Heap} {d : Addr} {o : Obj} {kvs : List (List Key × V)} (ok : HOk P w H h) (e : H d = some (.frz o (.dT kvs))) : ∃ xs es ep, KT H kvs xs ∧ h.get? d = some o ∧ o.ExactDict ∧ o.data = .dict es ep ∧ es.toList = xs.map (entryOfKey (tupleKind (mixKind P w))) ∧ (d == sysModules) = false := by
  obtain ⟨g, z, y, xs, r, o', es, ep, h1, h2, h3, h4, h5⟩ := (show ObjOk P w H h d (.frz o (.dT kvs)) from ok d _ e)
  rw [g] at h1
  cases h1
  exact ⟨xs, es, ep, r, g, h2, h3, h4, y⟩
end L2

set_option Elab.async false
set_option linter.all false
set_option maxRecDepth 100000
set_option maxHeartbeats 4000000
namespace L2
open PySem PySem.Spec PyProof.Rows PySem.W
section
variable {prog : Program} {w : World} {A : Around} {E : Value → Shared → Prop} {s : Shared} {d : Addr} {es : Array DictEntry} {ep : Nat}
/-! ### if d, d a dict by its entries -/
end
section
variable {X : Cx}
/-! ### min of a list of ints -/
/-! ### l.insert(0, x) -/
variable {o e : Expr} {es : List Expr} {to : TE} {t : TA} {apos cpos : Pos}
end
end L2

set_option Elab.async false
set_option linter.all false
set_option maxRecDepth 100000
set_option maxHeartbeats 4000000
namespace L2
open PySem PySem.Spec PyProof.Rows
/-! ### a def that hands a lambda to a def, tests what it tells, and ends -/
section
variable {P : Program} {w : World} {K : PySem.W.Frag} {mg : Str → Option Value} {base : Heap}
end
end L2

set_option Elab.async false
set_option linter.all false
set_option maxRecDepth 100000
namespace L2
open PySem PySem.Spec PyProof.Rows
end L2

set_option Elab.async false
set_option linter.all false
set_option maxRecDepth 100000
namespace L2
open PySem PySem.Spec PyProof.Rows
/-! ### x is not True -/
theorem call_list_ofK {X : Cx} {K : PySem.W.Frag} (h : X.K = K) : CallR X (.type "list") (rListOf K) := h ▸ call_list_of
end L2

set_option Elab.async false
set_option linter.all false
set_option maxRecDepth 100000
set_option maxHeartbeats 4000000
namespace L2
open PySem PySem.Spec PyProof.Rows PySem.W
/-! ### d.items() of a dict whose keys are tuples, walked -/
section
variable {prog : Program} {w : World} {A : Around} {E : Value → Shared → Prop} {s : Shared} {d I v : Addr} {es : Array DictEntry} {ep i : Nat} {k0 v0 : Value}
theorem de_view (nm : (d == sysModules) = false) : MeetsIn prog w (Builtin.«dict.items» ⟨[.ref d], []⟩) (fun _ R s => DE s.heap d es ep ∧
    R (.ok (.ret (.ref s.heap.objs.size))) { s with heap := s.heap.push { cls := .type "dict_items", data := .fields #[.ref d] } }) := .of_wp fun A R s ⟨x, h⟩ => by
  unfold Builtin.«dict.items»; refine wpAny_bind ?_
  unfold Builtin.Dict.noArgs; refine wpAny_bind (wpAny_notOrdered_dict x.ty ?_)
  show wpAny _ _ (pure d) _ _ s; refine wpAny_pure ?_
  show wpAny _ _ (Builtin.Dict.showsAll d >>= _) _ _ s; unfold Builtin.Dict.showsAll
  rw [if_neg (fun z => by rw [nm] at z; cases z)]; refine wpAny_bind (wpAny_pure ?_); exact wpAny_bind (wpAny_newObj_type (wpAny_pure ⟨_, rfl, h⟩))
theorem di_iter {Q : Value → Shared → Prop} (hv : s.heap.IsItemsView v d) (x : DE s.heap d es ep)
    (q : Q (.ref s.heap.objs.size) { s with heap := s.heap.push { cls := .type "dict_itemiterator", data := .fields #[.none, .bool false, .ref d, .int 0 0, .int es.size 0, .int ep 0, .none, .none] } }) : wpAny (model prog w) A (pyIter (.ref v)) Q E s := by
  obtain ⟨ov, v1, v2, v3⟩ := id hv; obtain ⟨ob, g1, g2, g3⟩ := id x
  refine wpAny_pyIter_slot hv.typeIs F.slot_dict_items_iter (wpAny_call_entry F.slot_dict_items_iter hv.typeIs F.entry_dict_items_iter ?_ (F.args_dict_items_iter_1 _))
  unfold Builtin.«dict_items.__iter__»; refine wpAny_bind (wpAny_pure (wpAny_bind ?_))
  unfold Builtin.Dict_items.dictOf; refine wpAny_bind (wpAny_field v1 v3 (x := .ref d) rfl (wpAny_pure (wpAny_bind ?_)))
  unfold Builtin.Dict_items.newIterator; refine wpAny_bind (wpAny_dictEntries g1 g3 (wpAny_bind (wpAny_dictEpoch g1 g3 ?_)))
  have own : Builtin.Dict_items.ownsTuple "dict_itemiterator" = true := by decide
  simp only [own, if_true]; refine wpAny_newObj_type (wpAny_pure ⟨_, rfl, "dict_itemiterator", _, ⟨_, Heap.get?_push_size _ rfl, rfl⟩, F.slot_dict_itemiterator_next.lookup, ?_⟩) (by simp only [sizeOk, Builtin.Dict_items.ownedTupleFields, List.size_toArray, List.length_append, List.length_cons, List.length_nil, sizeLine_eq]; omega)
  simpa [rawInt, Builtin.Dict_items.ownedTupleFields] using q
theorem di_item {Q : Option Value → Shared → Prop} {e : DictEntry} (ki : IsItemIter s.heap I d i es.size ep k0 v0) (x : DE s.heap d es ep) (hx : es[i]? = some e)
    (q : ∀ h', IsItemIterOut h' I d (i + 1) es.size ep e.key e.val s.heap.objs.size → h'.get? s.heap.objs.size = some { cls := .type "tuple", data := .seq #[e.key, e.val] } → h'.objs.size = s.heap.objs.size + 1 →
      (∀ b o, b ≠ I → s.heap.get? b = some o → h'.get? b = some o) → Q (some (.ref s.heap.objs.size)) { s with heap := h' }) : wpAny (model prog w) A (pyNext (.ref I)) Q E s := by
  obtain ⟨hp, g, dr, tk, os⟩ := s; obtain ⟨ob, g1, g2, g3⟩ := id x
  have ty : Shared.TypeIs ⟨hp, g, dr, tk, os⟩ (.ref I) "dict_itemiterator" := ⟨_, ki, rfl⟩
  unfold pyNext; refine wpAny_bind (wpAny_attempt (wpAny_callSpecial?_slot (name := Str.ofString "__next__") ty F.slot_dict_itemiterator_next (wpAny_call_entry F.slot_dict_itemiterator_next ty F.entry_dict_itemiterator_next ?_ (F.args_dict_itemiterator_next_1 _))))
  refine wpAny_bind (wpAny_pure (wpAny_bind (wpAny_bind ?_)))
  first | refine wpAny_bind (wpAny_typeNameOfWhole_itemiter ty (wpAny_pure ?_)) | refine wpAny_bind (wpAny_typeNameOf_itemiter ty (wpAny_pure ?_))
  refine wpAny_bind (wpAny_fieldsOf ki rfl ?_); have own : Builtin.Dict_items.ownsTuple "dict_itemiterator" = true := by decide
  simp only [own, if_true]; show wpAny _ _ (if (Value.ref d == Value.none) = true then _ else _) _ _ _
  rw [if_neg (fun z : (Value.ref d == Value.none) = true => Bool.false_ne_true z)]; refine wpAny_bind (wpAny_pure (wpAny_bind (wpAny_dictEntries g1 g3 ?_)))
  rw [if_neg (by simp)]; refine wpAny_bind (wpAny_pure (wpAny_bind (wpAny_dictEpoch g1 g3 ?_)))
  rw [if_neg (by simp)]; refine wpAny_pure ?_
  obtain ⟨hlt, rfl⟩ := Array.getElem?_eq_some_iff.mp hx
  simp only [show ¬ ((i : Int) < 0) from by omega, if_false, Int.toNat_natCast, Array.getElem?_eq_getElem hlt]; refine wpAny_bind ?_
  first | refine wpAny_bind (wpAny_typeNameOfWhole_itemiter ty (wpAny_pure ?_)) | refine wpAny_bind (wpAny_typeNameOf_itemiter ty (wpAny_pure ?_))
  refine wpAny_bind (wpAny_isOneOf_itemiter ty ?_); show wpAny _ _ (setField (.ref I) 3 (rawInt ((i : Int) + 1)) >>= _) _ _ ⟨hp, g, dr, tk, os⟩
  refine wpAny_bind (wpAny_setField_rec ki (by simp) fun h1 e1 b1 => ?_); replace b1 : Heap.SameBut I hp h1 := b1
  replace e1 : IsItemIter h1 I d (i + 1) es.size ep k0 v0 := by
    have z : ((i + 1 : Nat) : Int) = (i : Int) + 1 := by omega
    unfold IsItemIter; rw [z]; simpa [rawInt] using e1
  have ty1 : Shared.TypeIs ⟨h1, g, dr, tk, os⟩ (.ref I) "dict_itemiterator" := ⟨_, e1, rfl⟩
  refine wpAny_bind (wpAny_holding (wpAny_bind (wpAny_isOneOf_itemiter ty1 (wpAny_bind (wpAny_isOneOf_itemiter ty1 ?_)))))
  show wpAny _ _ (Builtin.Dict_items.pairFromOwner (.ref I) 6 es[i].key es[i].val) _ _ ⟨h1, g, dr, tk, os⟩; unfold Builtin.Dict_items.pairFromOwner
  refine wpAny_bind (wpAny_newTuple ?_)
  have e2 : IsItemIter (h1.push { cls := .type "tuple", data := .seq #[es[i].key, es[i].val] }) I d (i + 1) es.size ep k0 v0 := Heap.get?_push_of_some _ e1
  generalize hh : h1.push { cls := .type "tuple", data := .seq #[es[i].key, es[i].val] } = h2 at e2
  have z1 : h1.objs.size = hp.objs.size := b1.1
  have lt : I < hp.objs.size := Heap.lt_size ki
  have t2 : h2.get? hp.objs.size = some { cls := .type "tuple", data := .seq #[es[i].key, es[i].val] } := by rw [← hh, ← z1]; exact Heap.get?_push_size _ rfl
  have z2 : h2.objs.size = hp.objs.size + 1 := by rw [← hh, Heap.size_push, z1]
  have k2 : ∀ b o, b ≠ I → hp.get? b = some o → h2.get? b = some o := fun b o hb e => by rw [← hh]; exact Heap.get?_push_of_some _ (b1.extBut b o hb e)
  show wpAny _ _ (Builtin.Dict_items.ownedTupleIsFree (.ref I) >>= _) _ _ ⟨h2, g, dr, tk, os⟩; rw [z1]
  clear hh e1 b1 ty1 z1 h1
  refine wpAny_bind ?_; unfold Builtin.Dict_items.ownedTupleIsFree
  refine wpAny_bind (wpAny_field e2 rfl (x := .none) rfl (wpAny_pure ?_)); simp only [if_true]
  refine wpAny_bind (wpAny_field e2 rfl (x := k0) rfl (wpAny_bind (wpAny_field e2 rfl (x := v0) rfl ?_)))
  refine wpAny_bind (wpAny_setField_rec e2 (by simp) fun h3 e3 b3 => ?_); replace b3 : Heap.SameBut I h2 h3 := b3; replace e3 : IsItemIter h3 I d (i + 1) es.size ep es[i].key v0 := e3
  refine wpAny_bind (wpAny_setField_rec e3 (by simp) fun h4 e4 b4 => ?_); replace b4 : Heap.SameBut I h3 h4 := b4; replace e4 : IsItemIter h4 I d (i + 1) es.size ep es[i].key es[i].val := e4
  refine wpAny_bind (wpAny_setField_rec e4 (by simp) fun h5 e5 b5 => ?_); replace b5 : Heap.SameBut I h4 h5 := b5; replace e5 : IsItemIterOut h5 I d (i + 1) es.size ep es[i].key es[i].val hp.objs.size := e5
  refine wpAny_bind (wpAny_setField_rec e5 (by simp) fun h6 e6 b6 => ?_); replace b6 : Heap.SameBut I h5 h6 := b6; replace e6 : IsItemIterOut h6 I d (i + 1) es.size ep es[i].key es[i].val hp.objs.size := e6
  have up : ∀ b o, b ≠ I → h2.get? b = some o → h6.get? b = some o := fun b o hb e => b6.extBut b o hb (b5.extBut b o hb (b4.extBut b o hb (b3.extBut b o hb e)))
  refine wpAny_bind (wpAny_letGo (wpAny_pure (wpAny_pure ⟨_, rfl, wpAny_pure (q h6 e6 (up _ _ (Nat.ne_of_gt lt) t2) ?_ fun b o hb e => up b o hb (k2 b o hb e))⟩)))
  show h6.objs.size = hp.objs.size + 1; rw [b6.1, b5.1, b4.1, b3.1, z2]
theorem di_end {Q : Option Value → Shared → Prop} (hh : A.handled = none) (ki : IsItemIter s.heap I d i es.size ep k0 v0) (x : DE s.heap d es ep) (hx : es.size ≤ i)
    (q : ∀ h', Heap.ExtBut I s.heap h' → Q none { s with heap := h' }) : wpAny (model prog w) A (pyNext (.ref I)) Q E s := by
  obtain ⟨ob, g1, g2, g3⟩ := id x
  have ty : s.TypeIs (.ref I) "dict_itemiterator" := ⟨_, ki, rfl⟩
  unfold pyNext; refine wpAny_bind (wpAny_attempt (wpAny_callSpecial?_slot (name := Str.ofString "__next__") ty F.slot_dict_itemiterator_next (wpAny_call_entry F.slot_dict_itemiterator_next ty F.entry_dict_itemiterator_next ?_ (F.args_dict_itemiterator_next_1 _))))
  refine wpAny_bind (wpAny_pure (wpAny_bind (wpAny_bind ?_)))
  first | refine wpAny_bind (wpAny_typeNameOfWhole_itemiter ty (wpAny_pure ?_)) | refine wpAny_bind (wpAny_typeNameOf_itemiter ty (wpAny_pure ?_))
  refine wpAny_bind (wpAny_fieldsOf ki rfl ?_); have own : Builtin.Dict_items.ownsTuple "dict_itemiterator" = true := by decide
  simp only [own, if_true]; show wpAny _ _ (if (Value.ref d == Value.none) = true then _ else _) _ _ _
  rw [if_neg (fun z : (Value.ref d == Value.none) = true => Bool.false_ne_true z)]; refine wpAny_bind (wpAny_pure (wpAny_bind (wpAny_dictEntries g1 g3 ?_)))
  rw [if_neg (by simp)]; refine wpAny_bind (wpAny_pure (wpAny_bind (wpAny_dictEpoch g1 g3 ?_)))
  rw [if_neg (by simp)]; refine wpAny_pure ?_
  simp only [show ¬ ((i : Int) < 0) from by omega, if_false, Int.toNat_natCast, Array.getElem?_eq_none hx]; refine wpAny_bind ?_
  first | refine wpAny_bind (wpAny_typeNameOfWhole_itemiter ty (wpAny_pure ?_)) | refine wpAny_bind (wpAny_typeNameOf_itemiter ty (wpAny_pure ?_))
  show wpAny _ _ (setField (.ref I) 2 .none >>= _) _ _ s; refine wpAny_bind (wpAny_setField ki rfl (by simp) ?_)
  show wpAny _ _ (newExc (.type "StopIteration") [] >>= _) _ _ _; refine wpAny_bind ?_
  simp only [newExc, newTuple]; refine wpAny_bind (wpAny_newObj_type ?_ (by size_fits))
  refine wpAny_bind (m := firstArgMember _ _) (wpAny_of_eq (a := Value.none) (by first | rfl | (simp only [firstArgMember]; rfl)) (wpAny_newObj_type ?_ (by size_fits)))
  simp only [raiseNew]; refine wpAny_bind (wpAny_handled ?_)
  rw [show A.in1.handled = none from hh]; refine wpAny_bind (wpAny_pure (wpAny_throw ?_))
  exact wpAny_bind (wpAny_isInstance (T := "StopIteration") (b := true) ⟨_, Heap.get?_push_size _ rfl, rfl⟩ isSubtype_stop (wpAny_pure (q _ (((Heap.SameBut.update ..).extBut.push _).push _))))
end
end L2

set_option Elab.async false
set_option linter.all false
set_option maxRecDepth 100000
set_option maxHeartbeats 4000000
namespace L2
open PySem PySem.Spec PyProof.Rows PySem.W
/-- the items of a frozen dict -/
noncomputable def Iti (d : Addr) (o : Obj) (kvs : List (List Key × V)) : It :=
  ⟨fun i H => H d = some (.frz o (.dT kvs)) ∧ i < kvs.length, fun i H x H' => ∃ p b kv, H p = none ∧ kvs[i]? = some kv ∧ x = .ref p ∧ H b = some (.tup (kv.1.map kV)) ∧ H' = upd H p (.tup [.ref b, kv.2]), fun i H => H d = some (.frz o (.dT kvs)) ∧ kvs.length ≤ i⟩
theorem KT.at2 {H : Hp} : ∀ {kvs : List (List Key × V)} {xs : List (List Key × Addr × Value)} {i : Nat} {kv : List Key × V}, KT H kvs xs → kvs[i]? = some kv → ∃ x, xs[i]? = some x ∧ H x.2.1 = some (.tup (kv.1.map kV)) ∧ RelV kv.2 x.2.2
  | _, _, 0, _, .cons r _, h => by cases h; exact ⟨_, rfl, r.2.1, r.2.2⟩
  | _, _, i + 1, _, .cons _ t, h => by obtain ⟨x, e, q⟩ := KT.at2 (i := i) t h; exact ⟨x, e, q⟩
theorem di_self {prog : Program} {w : World} {A : Around} {E : Value → Shared → Prop} {s : Shared} {it d : Addr} {i n ep : Nat} {k0 v0 : Value} {Q : Value → Shared → Prop} (ki : IsItemIter s.heap it d i n ep k0 v0) (h : Q (.ref it) s) : wpAny (model prog w) A (pyIter (.ref it)) Q E s := by
  have ty : s.TypeIs (.ref it) "dict_itemiterator" := ⟨_, ki, rfl⟩
  have en : entryFor table "dict_itemiterator.__iter__" = some Builtin.«dict_keyiterator.__iter__» := entryFor_alias (id' := "dict_keyiterator.__iter__") (by kernel_rfl) rfl (by decide +kernel) (by kernel_rfl)
  refine wpAny_pyIter_slot ty F.slot_dict_itemiterator_iter (wpAny_call_entry F.slot_dict_itemiterator_iter ty en ?_ (F.args_dict_itemiterator_iter_1 _))
  show wpAny _ _ (ret (.ref it)) _ _ s; exact wpAny_pure ⟨_, rfl, "dict_itemiterator", _, ty, F.slot_dict_itemiterator_next.lookup, h⟩
theorem turn_items {P : Program} {w : World} {K : PySem.W.Frag} {el : List Expr} {kk : Nat} {pos : Pos} {d it : Addr} {o : Obj} {kvs : List (List Key × V)} {es : Array DictEntry} {ep : Nat} (hdat : o.data = .dict es ep) (hsz : es.size = kvs.length) : Turn P w K (.Tuple el kk pos) (Iti d o kvs) [it] it (fun i h => ∃ k0 v0, IsItemIter h it d i es.size ep k0 v0) where
  mem := List.mem_cons_self ..
  obj := fun i h st b hb => by
    rw [List.mem_singleton.mp hb]
    obtain ⟨k0, v0, e⟩ := st
    exact ⟨_, e, fun v z => by cases z⟩
  keep := fun i h h' st kp => by
    obtain ⟨k0, v0, e⟩ := st
    exact ⟨k0, v0, kp it (List.mem_cons_self ..) _ e⟩
  item := by
    intro X hP hw hK hc i pins s σ H E I hf st hg
    subst hP hw hK
    obtain ⟨hd, hi⟩ := hg
    obtain ⟨k0, v0, st⟩ := st
    obtain ⟨xs, es', ep', rel, g1, g2, g3, g4, g5⟩ := frz_de I.hok hd
    have e0 := hdat.symm.trans g3
    cases e0
    obtain ⟨kv, hkv⟩ : ∃ kv, kvs[i]? = some kv := ⟨_, List.getElem?_eq_getElem hi⟩
    obtain ⟨x, hx, hH, rv⟩ := rel.at2 hkv
    have he : es[i]? = some (entryOfKey (tupleKind (mixKind X.prog X.w)) x) := by rw [entry_at g4, hx]; rfl
    refine di_item st ⟨o, g1, g2, g3⟩ he fun h1 e1 e2 e3 e4 => ?_
    refine ⟨_, rfl, wpAny_letOwnedTupleGo_items e1 fun h2 e5 sb => ?_⟩
    have hps : s.heap.objs.size ≠ it := fun q => absurd (Heap.lt_size st) (by rw [← q]; exact Nat.lt_irrefl _)
    have hn : H s.heap.objs.size = none := I.hok.fresh (Nat.le_refl _)
    have e2' : h2.get? s.heap.objs.size = some { cls := .type "tuple", data := .seq #[.ref x.2.1, x.2.2] } := (sb.2 _ hps).trans e2
    have J : Inv X pins σ (upd H s.heap.objs.size (.tup [.ref x.2.1, kv.2])) { s with heap := h2, toks := s.toks } := by
      refine I.turnedNew (ch := [it]) (fun b o hb q => ?_) hf (Nat.le_refl _) ⟨by rw [sizeLine_eq]; show 2 ≤ 16777216; decide, [.ref x.2.1, x.2.2], .cons rfl (.cons rv .nil), _, e2', rfl, 0, rfl⟩
      have b1 : b ≠ it := fun z => hb (by simp [z])
      exact (sb.2 b b1).trans (e4 b o b1 q)
    refine ⟨.ref s.heap.objs.size, _, J, rfl, ⟨s.heap.objs.size, x.2.1, kv, hn, hkv, rfl, hH, rfl⟩, ⟨_, _, e5⟩, fun b hb => ?_⟩
    rw [List.mem_singleton.mp hb, upd_ne hps.symm]
    exact (hf it (List.mem_cons_self ..)).1
  done := by
    intro X hP hw hK hc i pins s σ H E I hf st hg
    subst hP hw hK
    obtain ⟨hd, hi⟩ := hg
    obtain ⟨k0, v0, st⟩ := st
    obtain ⟨xs, es', ep', rel, g1, g2, g3, g4, g5⟩ := frz_de I.hok hd
    have e0 := hdat.symm.trans g3
    cases e0
    exact di_end (I.ok.hd hc) st ⟨o, g1, g2, g3⟩ (by omega) fun h1 eb => ⟨rfl, I.turnedN (ch := [it]) (t' := s.toks) (fun b o hb q => eb b o (fun z => hb (by simp [z])) q) hf⟩
  self := fun _ _ _ _ _ st h => by
    obtain ⟨k0, v0, e⟩ := st
    exact di_self e h
noncomputable def rItemsT : V → List V → Hp → VK → Prop := fun x vs H Q => ∃ (d : Addr) (kvs : List (List Key × V)), x = .ref d ∧ vs = [] ∧ Rd H d (.dT kvs) ∧ ∀ v, H v = none → Q (.ref v) (upd H v (.ext (IV v d)))
section
variable {X : Cx} {o e : Expr} {es : List Expr} {to : TE} {t : TA} {apos cpos : Pos}
theorem mt_itemsT : MtR X "dict.items" rItemsT := by
  intro pins s σ H x vs v us Q I rx rv h
  obtain ⟨d, kvs, rfl, rfl, e, q⟩ := h
  cases rx
  cases rv
  obtain ⟨z, y, xs, r, o, es, ep, h1, h2, h3, h4, h5⟩ := (show ObjOk X.prog X.w H s.heap d (.dT kvs) from e.ok I.hok)
  have x : DE s.heap d es ep := ⟨o, h1, h2, h3⟩
  refine call_meetsIn PySem.F.slot_dict_items x.ty PySem.F.entry_dict_items (PySem.F.args_dict_items_1 _) (de_view y) ⟨x, ?_⟩
  refine ⟨.ref s.heap.objs.size, _, I.laid (t' := s.toks) (a := s.heap.objs.size) (o := .ext (IV s.heap.objs.size d)) (fun b u e => Heap.get?_push_of_some _ e) (Nat.le_refl _) ?_, rfl, q _ (I.hok.fresh (Nat.le_refl _))⟩
  have g : (s.heap.push { cls := .type "dict_items", data := .fields #[.ref d] }).get? s.heap.objs.size = some { cls := .type "dict_items", data := .fields #[.ref d] } := Heap.get?_push_size _ rfl
  exact ⟨⟨_, g, rfl, rfl⟩, ⟨_, g⟩, fun h1 h2 ⟨ob, e1, r⟩ k => ⟨ob, k ob e1, r⟩⟩
theorem pe_m.itemsT (ho : PE X o to) (hbase : attributeBase o "items" X.env (eval o X.env) = eval o X.env := by rfl) (hline : (apos.endLine == cpos.line) = true := by rfl) :
    PE X (.Call (.Attribute o "items" apos) [] [] cpos) (tBM0 X.K "dict" rItemsT to) := pe_bm0 F.plainAttrs_dict F.slot_dict_items F.type_dict_items mt_itemsT ho hbase hline
/-- for k, v in (what tells a view): the dict is frozen -/
theorem pi_items {el : List Expr} {kk : Nat} {tpos : Pos} {te : TE} (he : PE X e te) : PI X (.Tuple el kk tpos) e (fun σ H R => te σ H fun x H1 => ∃ v d kvs, x = .ref v ∧ H1 v = some (.ext (IV v d)) ∧ Rd H1 d (.dT kvs) ∧ ∀ o, R (Iti d o kvs) (upd H1 d (.frz o (.dT kvs)))) := by
  intro pins s σ H R I h
  refine thn (he pins s σ H _ I h) fun u s1 ⟨x, H1, I1, r1, v, d, kvs, ex, hv, hd, q⟩ => ?_
  subst ex
  obtain rfl : u = Value.ref v := r1
  obtain ⟨o, ho⟩ : ∃ o, s1.heap.get? d = some o := by
    obtain ⟨_, _, xs, _, o, _, _, g, _⟩ := (show ObjOk X.prog X.w H1 s1.heap d (.dT kvs) from hd.ok I1.hok)
    exact ⟨o, g⟩
  have iv : s1.heap.IsItemsView v d := (show ObjOk X.prog X.w H1 s1.heap v (.ext (IV v d)) from I1.hok v _ hv).1
  have I2 := I1.freeze hd ho
  obtain ⟨xs, es, ep, rel, g1, g2, g3, g4, g5⟩ := frz_de I2.hok upd_same
  have hsz : es.size = kvs.length := by rw [size_of_entries g4, Paired.length rel]
  refine di_iter iv ⟨o, g1, g2, g3⟩ ?_
  refine ⟨s1.heap.objs.size, [s1.heap.objs.size], _, _, _, rfl, I2.kept (t' := s1.toks) fun b o e => Heap.get?_push_of_some _ e, turn_items g3 hsz, ⟨_, _, Heap.get?_push_size _ rfl⟩, fun b hb => ?_, q o⟩
  have e : b = s1.heap.objs.size := List.mem_singleton.mp hb
  subst e
  exact I2.fpOk (Nat.le_refl _) (I2.hok.fresh (Nat.le_refl _))
end
theorem for_items {d : Addr} {o : Obj} {kvs : List (List Key × V)} {g : TG} {tb : TS} {D : Ends} {σ : St} {H : Hp} (Pv : Nat → St → Hp → Prop) (h0 : Pv 0 σ H) (hl : ∀ i σ H, Pv i σ H → H d = some (.frz o (.dT kvs)))
    (hs : ∀ (i : Nat) kv b σ H p, kvs[i]? = some kv → H b = some (.tup (kv.1.map kV)) → Pv i σ H → H p = none → g (.ref p) σ (upd H p (.tup [.ref b, kv.2])) fun σ2 H2 => tb { D with nx := Pv (i + 1), ct := Pv (i + 1), bk := D.nx } σ2 H2) (hd : ∀ σ H, Pv kvs.length σ H → D.nx σ H) :
    ∃ W : Nat → Nat → St → Hp → Prop, (∃ m, W 0 m σ H) ∧ ∀ i m σ H, W i m σ H →
      ((Iti d o kvs).stop i H ∧ D.nx σ H) ∨ ((Iti d o kvs).go i H ∧ ∃ N : St → Hp → Prop, (∀ σ' H', N σ' H' → ∃ m', m' < m ∧ W (i + 1) m' σ' H') ∧ ∀ x H', (Iti d o kvs).yld i H x H' → g x σ H' fun σ2 H2 => tb { D with nx := N, ct := N, bk := D.nx } σ2 H2) := by
  refine ⟨fun i m σ H => m = kvs.length - i ∧ i ≤ kvs.length ∧ Pv i σ H, ⟨_, rfl, Nat.zero_le _, h0⟩, ?_⟩
  rintro i m σ H ⟨rfl, hi, p⟩
  have q := hl i σ H p
  by_cases hlt : i < kvs.length
  · refine .inr ⟨⟨q, hlt⟩, Pv (i + 1), fun σ' H' p' => ⟨_, by omega, rfl, hlt, p'⟩, fun x H' y => ?_⟩
    obtain ⟨b, b', kv, hb, hkv, rfl, hb', rfl⟩ := y
    exact hs i kv b' σ H b hkv hb' p hb
  · have e : i = kvs.length := by omega
    subst e
    exact .inl ⟨⟨q, Nat.le_refl _⟩, hd σ H p⟩
theorem comp_items {D : Addr} {σb : St} {g : TG} {tt : TT} {te : TE} {Q : Hp → List V → Prop} {H : Hp} {d : Addr} {o : Obj} {kvs : List (List Key × V)} (Pv : Nat → List V → Hp → Prop) (h0 : Pv 0 [] H) (hq : ∀ i ys H, Pv i ys H → H d = some (.frz o (.dT kvs))) (hl : ∀ i ys H, Pv i ys H → H D = some (.lst ys))
    (hs : ∀ (i : Nat) kv b ys H p P, kvs[i]? = some kv → H b = some (.tup (kv.1.map kV)) → Pv i ys H → H p = none → (∀ a b, Pv (i + 1) a b → P a b) → CompT D σb g tt te (.ref p) ys (upd H p (.tup [.ref b, kv.2])) P) (hd : ∀ ys H, Pv kvs.length ys H → Q H ys) : ∃ W, (∃ m, W 0 m [] H) ∧ CompW (Iti d o kvs) D σb g tt te Q W := by
  refine ⟨fun i m ys H => m = kvs.length - i ∧ i ≤ kvs.length ∧ Pv i ys H, ⟨_, rfl, Nat.zero_le _, h0⟩, ?_⟩
  rintro i m ys H ⟨rfl, hi, p⟩
  refine ⟨hl i ys H p, ?_⟩
  have q := hq i ys H p
  by_cases hlt : i < kvs.length
  · refine .inr ⟨⟨q, hlt⟩, fun x H3 y => ?_⟩
    obtain ⟨b, b', kv, hb, hkv, rfl, hb', rfl⟩ := y
    exact hs i kv b' ys H b (fun a b => ∃ m', m' < kvs.length - i ∧ m' = kvs.length - (i + 1) ∧ i + 1 ≤ kvs.length ∧ Pv (i + 1) a b) hkv hb' p hb fun a b r => ⟨_, by omega, rfl, hlt, r⟩
  · have e : i = kvs.length := by omega
    subst e
    exact .inl ⟨⟨q, Nat.le_refl _⟩, hd ys H p⟩
end L2

set_option Elab.async false
set_option linter.all false
set_option maxRecDepth 100000
set_option maxHeartbeats 4000000
namespace L2
open PySem PySem.Spec PyProof.Rows
section
variable {X : Cx} {pins : List (Addr × Obj)} {σ : St} {H : Hp} {s : Shared} {a b : Addr} {A : Around} {E : Value → Shared → Prop} {kvs : List (List Key × V)} {k : List Key} {v : V} {r : Value}
/-- the store beneath d[y] = v -/
theorem d_dset {Q : Unit → Shared → Prop} (hu : A.units < cLine) (I : Inv X pins σ H s) (e : H a = some (.dT kvs)) (eb : H b = some (.tup (k.map kV))) (l : kvs.length < sizeLine) (rv : RelV v r) (h : ∀ s', Inv X pins σ (upd H a (.dT (putK kvs k v))) s' → Q () s') :
    wpAny (model X.prog X.w) A (dictSet a (.ref b) r) Q E s := by
  obtain ⟨z, hd, xs, rel, dd⟩ := dt_of I.hok e
  have hz : xs.length ≤ sizeLine := by rw [← Paired.length rel]; exact z
  have hl : (putK kvs k v).length ≤ sizeLine := by have := length_putK kvs k v; omega
  refine wpAny_dictSet_heap (hsz := hz) (knd := tupleKind (mixKind X.prog X.w)) hu (key_of I.hok eb) dd fun h' dd' hs => h _ ?_
  obtain ⟨q, es, ep, hq, h2, h3, h4, _, h5⟩ := dd'
  refine d_write I (by rw [e]; exact True.intro) hs ⟨q, hq⟩ ⟨hl, hd, _, (rel.put k eb rv).keeps fun c ys ec => ?_, q, es, ep, hq, h2, h3, h4, h5⟩
  rw [upd_ne (ne_of ec e (fun z => nomatch z))]
  exact ec
end
/-- {k: v}, the key a tuple; the new dict stands empty while both are made -/
noncomputable def tDispT (tk tv : TE) : TE := fun σ H Q => ∀ p, H p = none → tk σ (upd H p (.dT [])) fun x H1 => tv σ H1 fun y H2 => H2 p = some (.dT []) ∧ ∃ (b : Addr) (k : List Key), x = .ref b ∧ H2 b = some (.tup (k.map kV)) ∧ Q (.ref p) (upd H2 p (.dT (putK [] k y)))
theorem pe_dispT {X : Cx} {pos : Pos} {k v : Expr} {tk tv : TE} (hu : X.A.units + 1 < cLine) (hk : PE X k tk) (hv : PE X v tv) : PE X (.Dict [some k] [v] pos) (tDispT tk tv) := by
  intro pins s σ H Q I q
  have hn := I.hok.fresh (Nat.le_refl s.heap.objs.size)
  have I1 := I.laid (a := s.heap.objs.size) (o := .dT []) (h' := s.heap.push { cls := .type "dict", data := .dict #[] }) (t' := s.toks) (fun _ _ q => Heap.get?_push_of_some _ q) (Nat.le_refl _) (dt_empty s.heap I.big)
  have small : sizeLine = 16777216 := sizeLine_eq
  have hshape := zip_pairTrees [some k] [v] X.env pos rfl rfl
  rw [arm_eval_Dict, hshape, dictDisplay_pairs _ (by simp [pairTrees]) (by simp [pairTrees])]
  refine wpAny_bind (wpAny_standAt (wpAny_bind ?_))
  unfold subDict
  refine wpAny_bind (wpAny_alloc ?_)
  refine wpAny_bind (wpAny_holding ?_)
  rw [if_pos (by simp [pairTrees])]
  refine wpAny_bind (pairTrees_cons_walk (thn (hk pins _ σ _ _ I1 (q _ hn)) fun u s1 ⟨x, H1, I1, rx, q1⟩ => thn (hv pins s1 σ H1 _ I1 q1) fun w2 s2 ⟨y, H2, I2, ry, e, b, kk, ex, eb, q2⟩ => pairTrees_nil_walk ?_))
  subst ex
  cases rx
  refine wpAny_holding ?_
  rw [List.forIn_cons]
  refine wpAny_bind (wpAny_bind (wpAny_bind (d_dset (Nat.lt_of_succ_lt hu) I2 e eb (by rw [small]; decide) ry fun s' I3 => wpAny_pure ?_)))
  show wpAny _ _ (forIn ([] : List (Value × Value)) PUnit.unit _) _ _ _
  rw [List.forIn_nil]
  exact wpAny_pure (wpAny_pure (wpAny_pure (wpAny_pure ⟨.ref s.heap.objs.size, _, I3, rfl, q2⟩)))
/-! ### dict(list of pairs) -/
theorem keys_miss : typeLookup (.type "list") "keys" = pure none := by rw [typeLookup_type, builtinLookup_eq_fast]; kernel_rfl
theorem keys_no {prog : Program} {w : World} {A : Around} {E : Value → Shared → Prop} {s : Shared} {a : Addr} {o : Obj} {xs : Array Value} {k : Nat} {Q : Option Value → Shared → Prop}
    (hx : s.heap.get? a = some o) (hc : o.cls = .type "list") (hdat : o.data = .seq xs k) (hd : o.dict = none) (hA : A.handled = none)
    (h : ∀ h' tk, (∀ b o, s.heap.get? b = some o → h'.get? b = some o) → Q none { s with heap := h', toks := tk }) :
    wpAny (model prog w) A (getAttr? (.ref a) "keys") Q E s := by
  obtain ⟨c, dct, dat, sl⟩ := o
  simp only at hc hdat hd
  subst hc hdat hd
  obtain ⟨hp, g, d, tk, os⟩ := s
  have hT : ∀ tk', (⟨hp, g, d, tk', os⟩ : Shared).TypeIs (.ref a) "list" := fun _ => ⟨_, hx, rfl⟩
  have f1 := sub_AttributeError
  have f3 := F.slot_list_getattribute.lookup
  have f4 := F.slot_list_getattribute.bind (.ref a)
  have f5 := am_list_getattr_none
  have hm := keys_miss
  unfold getAttr? getAttrBy? getAttrBy
  repeat (any_goals (first | assumption | exact hT _ | ((with_reducible show wpAny _ _ (call (Value.builtin "list.__getattribute__") _ _) _ _ _); refine call_meets F.slot_list_getattribute (hT _) am_entry_list_getattribute (F.args_list_getattribute_2 _ _) (meets_getattribute_miss_list a xs k sl "keys" _ hm (by decide +kernel) (by rw [sizeLine_eq]; decide +kernel)) ⟨hx, by simpa using hA, fun h' tk' e hx' => ?_⟩) | wp_step))
  obtain ⟨t', u', he⟩ := hx'.there
  show wpAny _ _ (getattributeRaised _ _ _ _ _ _ _) _ _ _
  unfold getattributeRaised
  repeat (any_goals (first | assumption | wp_step))
  exact h _ _ hx'.keeps
end L2

set_option Elab.async false
set_option linter.all false
set_option maxRecDepth 100000
set_option maxHeartbeats 4000000
namespace L2
open PySem PySem.Spec PyProof.Rows
theorem entry_dul : entryFor table "dict.update.loop" = some Builtin.«dict.update.loop» := entryFor_of_tree (by kernel_rfl)
theorem plain_dul : plainId "dict.update.loop" = true := by decide +kernel
noncomputable abbrev Tr3 := List Key × Addr × Value
noncomputable def mergedT (xs L : List Tr3) : List Tr3 := L.foldl (fun xs z => storedH xs z.1 z.2.1 z.2.2) xs
theorem storedH_len (xs : List Tr3) (k : List Key) (a : Addr) (v : Value) : (storedH xs k a v).length ≤ xs.length + 1 := by
  unfold storedH; split <;> simp
theorem mergedT_snoc (xs L : List Tr3) (z : Tr3) : mergedT xs (L ++ [z]) = storedH (mergedT xs L) z.1 z.2.1 z.2.2 := by unfold mergedT; rw [List.foldl_append]; rfl
theorem mergedT_len : ∀ (L xs : List Tr3), (mergedT xs L).length ≤ xs.length + L.length
  | [], xs => by show xs.length ≤ xs.length + 0; omega
  | z :: L, xs => by
    have h1 := mergedT_len L (storedH xs z.1 z.2.1 z.2.2)
    have h2 := storedH_len xs z.1 z.2.1 z.2.2
    show (mergedT (storedH xs z.1 z.2.1 z.2.2) L).length ≤ _
    rw [List.length_cons]; omega
section
variable {prog : Program} {w : World} {A : Around} {R : Result → Shared → Prop} {I : Addr} {fp wr : List Addr} {G : Array GenState → Array GenState → Prop} {n : Nat} {P : Nat → Value → Prop} {St : Nat → Shared → Prop}
theorem key_on {h h' : Heap} {k : List Key} {a : Addr} (x : (tupleKind (mixKind prog w)).is h k a) (e : ∀ o, h.get? a = some o → h'.get? a = some o) : (tupleKind (mixKind prog w)).is h' k a := by
  obtain ⟨o, its, n, h1, h2, h3, h4⟩ := x
  exact ⟨o, its, n, e _ h1, h2, h3, h4⟩
theorem dict_on {h h' : Heap} {d : Addr} {xs : List Tr3} (x : h.DictOfH (tupleKind (mixKind prog w)) d xs) (e : ∀ o, h.get? d = some o → h'.get? d = some o) (ek : ∀ y ∈ xs, ∀ o, h.get? y.2.1 = some o → h'.get? y.2.1 = some o) : h'.DictOfH (tupleKind (mixKind prog w)) d xs := by
  obtain ⟨o, es, ep, h1, h2, h3, h4, h5, h6⟩ := x
  exact ⟨o, es, ep, e _ h1, h2, h3, h4, fun y hy => key_on (h5 y hy) (ek y hy), h6⟩
/-- a pair that is handed in -/
structure PairAt (prog : Program) (w : World) (h : Heap) (d : Addr) (wr : List Addr) (t : Addr) (z : Tr3) : Prop where
  tup : ∃ o m, h.get? t = some o ∧ o.cls = .type "tuple" ∧ o.data = .seq #[.ref z.2.1, z.2.2] m
  key : (tupleKind (mixKind prog w)).is h z.1 z.2.1
  nt : t ≠ d ∧ t ∉ wr
  nk : z.2.1 ≠ d ∧ z.2.1 ∉ wr
theorem PairAt.on {h h' : Heap} {d : Addr} {t : Addr} {z : Tr3} (x : PairAt prog w h d wr t z) (k : ∀ b o, b ≠ d → b ∉ wr → h.get? b = some o → h'.get? b = some o) : PairAt prog w h' d wr t z := by
  obtain ⟨⟨o, m, e, r⟩, x2, x3, x4⟩ := x
  exact ⟨⟨o, m, k _ _ x3.1 x3.2 e, r⟩, key_on x2 (fun o e => k _ _ x4.1 x4.2 e), x3, x4⟩
theorem mem_merged : ∀ (L xs : List Tr3) (y : Tr3), y ∈ mergedT xs L → (∃ x ∈ xs, x.2.1 = y.2.1) ∨ ∃ z ∈ L, z.2.1 = y.2.1
  | [], xs, y, h => .inl ⟨y, h, rfl⟩
  | z :: L, xs, y, h => by
    rcases mem_merged L _ y h with ⟨x, hx, e⟩ | ⟨z', hz, e⟩
    · have hx : x ∈ storedH xs z.1 z.2.1 z.2.2 := hx
      unfold storedH at hx
      split at hx
      · obtain ⟨x0, h0, rfl⟩ := List.mem_map.mp hx
        refine .inl ⟨x0, h0, ?_⟩
        rw [← e]
        unfold putAt
        split <;> rfl
      · rcases List.mem_append.mp hx with h1 | h1
        · exact .inl ⟨x, h1, e⟩
        · cases List.mem_singleton.mp h1
          exact .inr ⟨z, List.mem_cons_self .., e⟩
    · exact .inr ⟨z', List.mem_cons_of_mem _ hz, e⟩
theorem dl_loop (W : WalksS prog w A.in1 I fp wr G n P St) (d : Addr) (hdf : d ∉ fp) (hu : A.in1.units < cLine) (L : List Tr3) (ts : List Addr) (hn : n = L.length) (hL : L.length ≤ 1000) (hit : ∀ i v, P i v → ∃ t, ts[i]? = some t ∧ v = .ref t) (htl : ts.length = L.length) :
    ∀ (k i : Nat) (s : Shared) (j : Int) (tk : Tok), n - i = k → i ≤ n → St i s → s.heap.DictOfH (tupleKind (mixKind prog w)) d (mergedT [] (L.take i)) → (∀ (i : Nat) t z, ts[i]? = some t → L[i]? = some z → PairAt prog w s.heap d wr t z) →
      (∀ s', Moved (d :: wr) G s s' → s'.heap.DictOfH (tupleKind (mixKind prog w)) d (mergedT [] L) → R (.ok (.ret .none)) s') →
      codeAny (model prog w) A (.builtin "dict.update.loop" ⟨[.ref d, .ref I, .int j tk, .none], []⟩) R s := by
  have hdw : d ∉ wr := fun h => hdf (W.sub _ h)
  have hsub : ∀ b ∈ wr, b ∈ d :: wr := fun b hb => List.mem_cons_of_mem _ hb
  have small : sizeLine = 16777216 := sizeLine_eq
  have keep : ∀ {s s' : Shared} (i : Nat), (∀ (i : Nat) t z, ts[i]? = some t → L[i]? = some z → PairAt prog w s.heap d wr t z) → Moved wr G s s' → s.heap.DictOfH (tupleKind (mixKind prog w)) d (mergedT [] (L.take i)) → s'.heap.DictOfH (tupleKind (mixKind prog w)) d (mergedT [] (L.take i)) := fun {s s'} i hp hm hd =>
    dict_on hd (fun o e => hm.heap d _ hdw e) fun y hy o e => by
      rcases mem_merged _ _ y hy with ⟨x, hx, _⟩ | ⟨z, hz, e1⟩
      · cases hx
      · obtain ⟨m, hm'⟩ := List.getElem?_of_mem (List.mem_of_mem_take hz)
        have hlt : m < ts.length := by rw [htl]; exact (List.getElem?_eq_some_iff.mp hm').1
        have x := hp m _ z (List.getElem?_eq_getElem hlt) hm'
        rw [← e1] at e ⊢
        exact hm.heap _ _ x.nk.2 e
  intro k; induction k with
  | zero =>
    intro i s j tk hk hi hst hd hp hR; have hin : i = n := by omega
    subst hin; refine codeAny_builtin entry_dul ?_; rw [Around.under_plainId plain_dul _]
    show wpAny _ A.in1 (pyNext (.ref I) >>= _) _ _ s; refine wpAny_bind (W.done s _ _ hst fun s' hm => ?_)
    show wpAny _ A.in1 (Builtin.Dict.addKeywords d [] >>= fun _ => ret Value.none) _ _ s'
    have hd' := keep i hp hm hd
    rw [hn, List.take_length] at hd'
    exact wpAny_bind (wpAny_pure (wpAny_pure (hR s' (hm.mono hsub) hd')))
  | succ k ih =>
    intro i s j tk hk hi hst hd hp hR; have hlt : i < n := by omega
    refine codeAny_builtin entry_dul ?_; rw [Around.under_plainId plain_dul _]
    show wpAny _ A.in1 (pyNext (.ref I) >>= _) _ _ s; refine wpAny_bind (W.item i s _ _ hlt hst fun v s' hP hst' hm => ?_)
    obtain ⟨t, ht, rfl⟩ := hit i v hP
    have hd' := keep i hp hm hd
    have hiL : i < L.length := by omega
    have hp' : ∀ (i : Nat) t z, ts[i]? = some t → L[i]? = some z → PairAt prog w s'.heap d wr t z := fun i t z h1 h2 => (hp i t z h1 h2).on fun b o nb nw e => hm.heap _ _ nw e
    have x := hp' i t L[i] ht (List.getElem?_eq_getElem hiL)
    obtain ⟨o, m, ho, hc, hdat⟩ := x.tup
    have hT : s'.TypeIs (.ref t) "tuple" := ⟨_, ho, hc⟩
    show wpAny _ A.in1 (holding [Value.ref t] _ >>= _) _ _ s'
    refine wpAny_bind (wpAny_holding ?_)
    refine wpAny_bind (wpAny_tryCatch ?_)
    unfold Builtin.Dict.pairItems
    refine wpAny_bind (wpAny_typeOf hT ?_)
    rw [if_pos (by decide)]
    refine wpAny_bind (wpAny_seqItems ho hdat (wpAny_pure ?_))
    show wpAny _ A.in1 (holding [Value.ref L[i].2.1, L[i].2.2] (dictSet d (.ref L[i].2.1) L[i].2.2)) _ _ s'
    refine wpAny_holding ?_
    have hz : (mergedT [] (L.take i)).length ≤ sizeLine := by have := mergedT_len (L.take i) []; rw [List.length_take, List.length_nil] at this; omega
    refine wpAny_dictSet_heap (hsz := hz) (knd := tupleKind (mixKind prog w)) hu x.key hd' fun h' dd' hs' => ?_
    have e1 : L.take (i + 1) = L.take i ++ [L[i]] := by rw [List.take_add_one, List.getElem?_eq_getElem hiL]; rfl
    rw [← mergedT_snoc, ← e1] at dd'
    refine wpAny_pure ⟨plainId_quiet plain_dul _, ih (i + 1) _ _ _ (by omega) hlt (W.frame _ s' _ _ hst' (Nat.le_add_right _ _) fun b hb o e => ?_) dd' (fun i t z h1 h2 => (hp' i t z h1 h2).on fun b o nb nw e => ?_) fun s'' hm'' hd'' => ?_⟩
    · have e0 := hs'.2 b (fun h : b = d => hdf (by rw [← h]; exact hb)); rw [e0]; exact e
    · have e0 := hs'.2 b nb; rw [e0]; exact e
    · refine hR s'' (Moved.trans W.gtrans ((hm.mono hsub).then_heap (Nat.le_add_right _ _) fun b o hb e => ?_) hm'') hd''; have e0 := hs'.2 b (fun h : b = d => hb (by rw [h]; exact List.mem_cons_self)); rw [e0]; exact e
end
section
variable {prog : Program} {w : World} {A : Around} {E : Value → Shared → Prop} {s : Shared}
theorem dl_make {l : Addr} {items : List Value} {L : List Tr3} {ts : List Addr} {Q : Value → Shared → Prop} (hh : A.handled = none) (hu : A.in1.in1.units < cLine) (hl : PlainL s.heap l items.toArray) (hL : L.length ≤ 1000) (hts : items = ts.map Value.ref) (htl : ts.length = L.length)
    (hp : ∀ (i : Nat) t z, ts[i]? = some t → L[i]? = some z → (∃ o m, s.heap.get? t = some o ∧ o.cls = .type "tuple" ∧ o.data = .seq #[.ref z.2.1, z.2.2] m) ∧ (tupleKind (mixKind prog w)).is s.heap z.1 z.2.1)
    (h : ∀ (h' : Heap) (tk : Nat), h'.DictOfH (tupleKind (mixKind prog w)) s.heap.objs.size (mergedT [] L) → (∀ b o, b < s.heap.objs.size → s.heap.get? b = some o → h'.get? b = some o) → Q (.ref s.heap.objs.size) { s with heap := h', toks := tk }) :
    wpAny (model prog w) A (call (.type "dict") [.ref l]) Q E s := by
  refine callType_codes (Q₁ := fun obj s₁ => obj = .ref s.heap.objs.size ∧ s₁ = { s with heap := s.heap.push { cls := .type "dict", data := .dict #[] } }) F.kt_called_dict (F.kt_typeCall_dict_1 _) F.entry_dict_init (kt_code_dict_new _ ⟨rfl, rfl⟩) ?_
  rintro obj s₁ ⟨rfl, rfl⟩
  obtain ⟨d, hd⟩ : ∃ d, d = s.heap.objs.size := ⟨_, rfl⟩
  have hnew : (s.heap.push { cls := .type "dict", data := .dict #[] }).DictOfH (tupleKind (mixKind prog w)) s.heap.objs.size [] := Heap.DictOfH.new s.heap
  obtain ⟨ol, nl, hol, hcl, hdl, hsl⟩ := hl
  have hll : l < s.heap.objs.size := Heap.lt_size hol
  have hol1 : (s.heap.push { cls := .type "dict", data := .dict #[] }).get? l = some ol := Heap.get?_push_of_some _ hol
  have hT : Shared.TypeIs { s with heap := s.heap.push { cls := .type "dict", data := .dict #[] } } (.ref l) "list" := ⟨_, hol1, hcl⟩
  refine ⟨hnew.typeIs, F.args_dict_init_2 _ _, ?_⟩
  unfold Builtin.«dict.__init__»
  refine wpAny_bind ?_
  unfold Builtin.Dict.selfAndRest
  refine wpAny_bind (wpAny_notOrdered_dict hnew.typeIs ?_)
  show wpAny _ _ (pure (s.heap.objs.size, [Value.ref l])) _ _ _
  refine wpAny_pure ?_
  show wpAny _ _ (Builtin.Dict.updateFrom "dict.__init__" s.heap.objs.size (.ref l) [] .none) _ _ _
  unfold Builtin.Dict.updateFrom
  refine wpAny_bind (wpAny_typeOf hT ?_)
  rw [if_pos (by decide)]
  refine wpAny_bind (keys_no hol1 hcl hsl hdl (by simpa using hh) fun h2 tk hk => ?_)
  rw [if_pos (show (none : Option Value).isNone = true from rfl)]
  refine wpAny_bind (wpAny_rule ?_)
  have hl2 : h2.IsList l items.toArray := ⟨ol, hk _ _ hol1, hcl, nl, hsl⟩
  refine wpAny_bind (wpAny_pyIter_list (s := { s with heap := h2, toks := tk }) hl2 ?_)
  have hneI : l ≠ h2.objs.size := Nat.ne_of_lt (Heap.lt_size (hk _ _ hol1))
  have hd2 : h2.DictOfH (tupleKind (mixKind prog w)) s.heap.objs.size [] := dict_on hnew (fun o e => hk _ _ e) (fun y hy => by cases hy)
  have dlt : s.heap.objs.size < h2.objs.size := by obtain ⟨o, _, _, e, _⟩ := hd2; exact Heap.lt_size e
  have hdf : s.heap.objs.size ∉ [h2.objs.size, l] := by simp only [List.mem_cons, List.mem_singleton, List.not_mem_nil, or_false, not_or]; exact ⟨Nat.ne_of_lt dlt, Nat.ne_of_gt hll⟩
  have hh3 : A.in1.in1.handled = none := by simp [hh]
  refine wpAny_pure ⟨plainId_quiet plain_dul _, ?_⟩
  refine dl_loop (A := A.in1) ((Walks.list hh3 _ l hneI items.toArray).toS) s.heap.objs.size hdf hu L ts (by rw [List.size_toArray, hts, List.length_map, htl]) hL (fun i v hv => ?_) htl (items.toArray.size - 0) 0 _ _ _ (by omega) (Nat.zero_le _) ⟨⟨_, Heap.get?_push_size _ rfl, rfl, rfl⟩, (hl2.push _)⟩ ?_ ?_ ?_
  · rw [List.getElem?_toArray, hts, List.getElem?_map] at hv
    cases hti : ts[i]? with
    | none => rw [hti] at hv; cases hv
    | some t => rw [hti] at hv; cases hv; exact ⟨t, rfl, rfl⟩
  · exact dict_on hd2 (fun o e => Heap.get?_push_of_some _ e) (fun y hy => by cases hy)
  · intro i t z h1 h2'
    obtain ⟨⟨o, m, e, r⟩, k⟩ := hp i t z h1 h2'
    have up : ∀ b o, s.heap.get? b = some o → (h2.push { cls := .type "list_iterator", data := .fields #[.ref l, .int 0 0] }).get? b = some o := fun b o e => Heap.get?_push_of_some _ (hk _ _ (Heap.get?_push_of_some _ e))
    have lt1 := Heap.lt_size e
    have lt2 : z.2.1 < s.heap.objs.size := by obtain ⟨o, _, _, e, _⟩ := k; exact Heap.lt_size e
    refine ⟨⟨o, m, ?_, r⟩, key_on k (fun o e => ?_), ⟨Nat.ne_of_lt lt1, ?_⟩, ⟨Nat.ne_of_lt lt2, ?_⟩⟩
    · exact Heap.get?_push_of_some _ (hk _ _ (Heap.get?_push_of_some _ e))
    · exact Heap.get?_push_of_some _ (hk _ _ (Heap.get?_push_of_some _ e))
    · exact fun z => absurd (List.mem_singleton.mp z) (Nat.ne_of_lt (Nat.lt_trans lt1 dlt))
    · exact fun z => absurd (List.mem_singleton.mp z) (Nat.ne_of_lt (Nat.lt_trans lt2 dlt))
  · intro s' hm hd'
    obtain ⟨h', g', d', tk', os'⟩ := s'
    have eg : g' = s.gens := hm.gens; have ed : d' = s.drawn := hm.drawn; have eo : os' = s.os := hm.os
    subst eg; subst ed; subst eo
    refine ⟨rfl, h h' tk' hd' fun b o hb e => ?_⟩
    refine hm.heap b o ?_ (Heap.get?_push_of_some _ (hk _ _ (Heap.get?_push_of_some _ e)))
    simp only [List.mem_cons, List.mem_singleton, List.not_mem_nil, or_false, not_or]
    exact ⟨Nat.ne_of_lt hb, Nat.ne_of_lt (Nat.lt_trans hb dlt)⟩
end
noncomputable def mergeKT (kvs more : List (List Key × V)) : List (List Key × V) := more.foldl (fun acc kv => putK acc kv.1 kv.2) kvs
/-- a pair (key, value), the key a tuple -/
noncomputable def PrT (H : Hp) (kv : List Key × V) (x : V) : Prop := ∃ (t b : Addr), x = .ref t ∧ H t = some (.tup [.ref b, kv.2]) ∧ H b = some (.tup (kv.1.map kV))
theorem KT.merge {H : Hp} : ∀ {more : List (List Key × V)} {L : List Tr3} {kvs : List (List Key × V)} {xs : List Tr3}, Paired (fun kv (z : Tr3) => kv.1 = z.1 ∧ H z.2.1 = some (.tup (kv.1.map kV)) ∧ RelV kv.2 z.2.2) more L → KT H kvs xs → KT H (mergeKT kvs more) (mergedT xs L)
  | _, _, _, _, .nil, r => r
  | p :: more, z :: L, kvs, xs, .cons ⟨h1, h2, h3⟩ t, r => by
    have e : KT H (putK kvs p.1 p.2) (storedH xs z.1 z.2.1 z.2.2) := by
      have := r.put p.1 h2 h3
      rw [← h1]; exact this
    show KT H (mergeKT (putK kvs p.1 p.2) more) (mergedT (storedH xs z.1 z.2.1 z.2.2) L)
    exact KT.merge t e
theorem length_mergeKT : ∀ (more kvs : List (List Key × V)), (mergeKT kvs more).length ≤ kvs.length + more.length
  | [], kvs => by show kvs.length ≤ kvs.length + 0; omega
  | p :: r, kvs => by
    have h1 := length_mergeKT r (putK kvs p.1 p.2)
    have h2 := length_putK kvs p.1 p.2
    show (mergeKT (putK kvs p.1 p.2) r).length ≤ _
    rw [List.length_cons]; omega
theorem pairs_of {X : Cx} {pins : List (Addr × Obj)} {σ : St} {H : Hp} {s : Shared} (I : Inv X pins σ H s) : ∀ {kvs : List (List Key × V)} {ps : List V} {us : List Value}, Paired (PrT H) kvs ps → Vals ps us → ∃ (L : List Tr3) (ts : List Addr), us = ts.map Value.ref ∧ ts.length = L.length ∧ kvs.length = L.length ∧ Paired (fun kv (z : Tr3) => kv.1 = z.1 ∧ H z.2.1 = some (.tup (kv.1.map kV)) ∧ RelV kv.2 z.2.2) kvs L ∧
    ∀ (i : Nat) t z, ts[i]? = some t → L[i]? = some z → (∃ o m, s.heap.get? t = some o ∧ o.cls = .type "tuple" ∧ o.data = .seq #[.ref z.2.1, z.2.2] m) ∧ (tupleKind (mixKind X.prog X.w)).is s.heap z.1 z.2.1
  | _, _, _, .nil, r => by cases r; exact ⟨[], [], rfl, rfl, rfl, .nil, fun i t z h => by cases h⟩
  | kv :: kvs, _, _, .cons ⟨t, b, e, ht, hb⟩ tl, r => by
    subst e
    cases r with
    | cons r1 r2 =>
      cases r1
      obtain ⟨L, ts, h1, h2, h3, h4, h5⟩ := pairs_of I tl r2
      obtain ⟨its, rv, ⟨o, ho, hc, n, hd⟩, _⟩ := I.tuple (SqT.of ht)
      cases rv with
      | cons q1 q2 =>
        cases q1
        cases q2 with
        | @cons a u as us q3 q4 =>
          cases q4
          refine ⟨(kv.1, b, u) :: L, t :: ts, by rw [h1]; rfl, by simp [h2], by simp [h3], .cons ⟨rfl, hb, q3⟩ h4, fun i t' z e1 e2 => ?_⟩
          cases i with
          | zero => cases e1; cases e2; exact ⟨⟨o, n, ho, hc, hd⟩, key_of I.hok hb⟩
          | succ i => exact h5 i t' z e1 e2
theorem call_dictL {X : Cx} (hc : X.calm = true) (hu : X.A.units + 3 < cLine) : CallR X (.type "dict") (fun xs H Q => ∃ (p : Addr) (ps : List V) (kvs : List (List Key × V)), xs = [.ref p] ∧ SqL X.K H p ps ∧ Paired (PrT H) kvs ps ∧ kvs.length ≤ 1000 ∧ ∀ d, H d = none → Q (.ref d) (upd H d (.dT (mergeKT [] kvs)))) := by
  intro pins s σ H xs us Q I r h
  obtain ⟨p, ps, kvs, rfl, hq, hP, hz, q⟩ := h
  obtain ⟨u, rfl, rx⟩ := vals1 r
  cases rx
  obtain ⟨its, rv, pl, _⟩ := I.list hq
  obtain ⟨L, ts, h1, h2, h3, h4, h5⟩ := pairs_of I hP rv
  have small : sizeLine = 16777216 := sizeLine_eq
  refine dl_make (I.ok.hd hc) (by show X.A.units + 1 + 1 < cLine; omega) pl (by omega) h1 h2 h5 fun h' tk dd hk => ?_
  have hn : H s.heap.objs.size = none := I.hok.fresh (Nat.le_refl _)
  obtain ⟨o, es, ep, g1, g2, g3, g4, _, g5⟩ := dd
  have hl : (mergeKT [] kvs).length ≤ sizeLine := by have := length_mergeKT kvs []; rw [List.length_nil] at this; omega
  refine ⟨.ref s.heap.objs.size, _, I.laid (a := s.heap.objs.size) (o := .dT (mergeKT [] kvs)) (t' := tk) (fun b u z => hk b u (Heap.lt_size z) z) (Nat.le_refl _) ⟨hl, ?_, mergedT [] L, (KT.merge h4 .nil).keeps fun c ys ec => ?_, o, es, ep, g1, g2, g3, g4, g5⟩, rfl, q _ hn⟩
  · have := I.big
    simp only [beq_eq_false_iff_ne]
    exact Nat.ne_of_gt this
  · rw [upd_ne (ne_of_none ec hn)]; exact ec
end L2
namespace L2
open PySem PySem.Spec PyProof.Rows
theorem hu3 {A : PySem.Around} {k : Nat} (hr : Room k A) : A.units + 3 < cLine := Nat.lt_of_le_of_lt (Nat.add_le_add_left (by decide : 3 ≤ 64) _) hr.units
theorem o_or {X : Cx} : OpR X (PySem.binaryOp .BitOr) (rI2 fun i j => .int (PySem.Builtin.bitOr i j)) := op_or.i2
end L2

set_option linter.all false
namespace Du
noncomputable abbrev Sts := List ((Nat × Nat) × Rat)
noncomputable def Sf (st : Sts) (f : Nat × Nat → Rat) : Rat := (st.map fun x => x.2 * f x.1).sum
theorem Sf_nil (f : Nat × Nat → Rat) : Sf [] f = 0 := rfl
theorem Sf_cons (x : (Nat × Nat) × Rat) (st : Sts) (f : Nat × Nat → Rat) : Sf (x :: st) f = x.2 * f x.1 + Sf st f := by
  unfold Sf; rw [List.map_cons, List.sum_cons]
/-- what is added at a key -/
noncomputable def addS (k : Nat × Nat) (m : Rat) : Sts → Sts
  | [] => [(k, m)]
  | x :: r => if x.1 = k then (k, x.2 + m) :: r else x :: addS k m r
noncomputable def putS (st : Sts) (k : Nat × Nat) (m : Rat) : Sts := if 0 < m then addS k m st else st
theorem Sf_add (k : Nat × Nat) (m : Rat) (f : Nat × Nat → Rat) : ∀ st : Sts, Sf (addS k m st) f = Sf st f + m * f k
  | [] => by rw [addS, Sf_cons, Sf_nil]; grind
  | x :: r => by
    rw [addS]
    by_cases c : x.1 = k
    · rw [if_pos c, Sf_cons, Sf_cons, c]; grind
    · rw [if_neg c, Sf_cons, Sf_cons, Sf_add k m f r]; grind
theorem Sf_put {st : Sts} {k : Nat × Nat} {m : Rat} (h : 0 ≤ m) (f : Nat × Nat → Rat) : Sf (putS st k m) f = Sf st f + m * f k := by
  unfold putS
  by_cases c : 0 < m
  · rw [if_pos c, Sf_add]
  · have : m = 0 := by grind
    rw [if_neg c, this]; grind
noncomputable def sig (h c : Rat) : Nat := if h + c = 1 then 0 else 1
noncomputable def stepS (h c : Rat) (mk : Nat) (acc : Sts) (x : (Nat × Nat) × Rat) : Sts :=
  if h + c < 1 then putS (putS acc x.1 (x.2 * (h / (h + c)))) (mk, x.1.2) (x.2 * (c / (h + c)))
  else putS (putS acc (mk * sig h c, x.1.2 ||| x.1.1) (x.2 * ((1 - c) / (2 - (h + c))))) (x.1.1 * sig h c, x.1.2 ||| mk) (x.2 * ((1 - h) / (2 - (h + c))))
noncomputable def comeS (h c : Rat) (mk : Nat) (st : Sts) : Sts := st.foldl (stepS h c mk) []
/-- what a worth becomes, looked at from before the coming -/
noncomputable def Tf (h c : Rat) (mk : Nat) (f : Nat × Nat → Rat) : Nat × Nat → Rat := fun k =>
  if h + c < 1 then h / (h + c) * f k + c / (h + c) * f (mk, k.2)
  else (1 - c) / (2 - (h + c)) * f (mk * sig h c, k.2 ||| k.1) + (1 - h) / (2 - (h + c)) * f (k.1 * sig h c, k.2 ||| mk)
noncomputable def Psv (st : Sts) : Prop := ∀ x ∈ st, 0 < x.2
theorem div_nn {a b : Rat} (ha : 0 ≤ a) (hb : 0 < b) : 0 ≤ a / b := by
  rw [Rat.div_def]
  exact Rat.mul_nonneg ha (Rat.le_of_lt (Rat.inv_pos.mpr hb))
theorem Sf_step {h c : Rat} {mk : Nat} {acc : Sts} {x : (Nat × Nat) × Rat} (h0 : 0 ≤ h) (h1 : h < 1) (c0 : 0 < c) (c1 : c < 1) (hx : 0 < x.2) (f : Nat × Nat → Rat) : Sf (stepS h c mk acc x) f = Sf acc f + x.2 * Tf h c mk f x.1 := by
  unfold stepS Tf
  have hx' := Rat.le_of_lt hx
  by_cases e : h + c < 1
  · rw [if_pos e, if_pos e]
    have p : 0 < h + c := by grind
    rw [Sf_put (Rat.mul_nonneg hx' (div_nn (by grind) p)), Sf_put (Rat.mul_nonneg hx' (div_nn h0 p))]
    grind
  · rw [if_neg e, if_neg e]
    have p : 0 < 2 - (h + c) := by grind
    rw [Sf_put (Rat.mul_nonneg hx' (div_nn (by grind) p)), Sf_put (Rat.mul_nonneg hx' (div_nn (by grind) p))]
    grind
theorem Sf_fold {h c : Rat} {mk : Nat} (h0 : 0 ≤ h) (h1 : h < 1) (c0 : 0 < c) (c1 : c < 1) (f : Nat × Nat → Rat) : ∀ (st acc : Sts), Psv st → Sf (st.foldl (stepS h c mk) acc) f = Sf acc f + Sf st (Tf h c mk f)
  | [], acc, _ => by rw [List.foldl_nil, Sf_nil]; grind
  | x :: r, acc, p => by
    rw [List.foldl_cons, Sf_fold h0 h1 c0 c1 f r _ (fun y hy => p y (List.mem_cons_of_mem _ hy)), Sf_step h0 h1 c0 c1 (p x (List.mem_cons_self ..)), Sf_cons]
    grind
theorem Sf_come {h c : Rat} {mk : Nat} {st : Sts} (h0 : 0 ≤ h) (h1 : h < 1) (c0 : 0 < c) (c1 : c < 1) (p : Psv st) (f : Nat × Nat → Rat) : Sf (comeS h c mk st) f = Sf st (Tf h c mk f) := by
  unfold comeS
  rw [Sf_fold h0 h1 c0 c1 f st [] p, Sf_nil]
  grind
theorem pos_add {k : Nat × Nat} {m : Rat} (hm : 0 < m) : ∀ {st : Sts}, Psv st → Psv (addS k m st)
  | [], _ => fun x hx => by rw [addS] at hx; cases List.mem_singleton.mp hx; exact hm
  | y :: r, p => fun x hx => by
    rw [addS] at hx
    have py := p y (List.mem_cons_self ..)
    have pr : Psv r := fun z hz => p z (List.mem_cons_of_mem _ hz)
    by_cases c : y.1 = k
    · rw [if_pos c] at hx
      rcases List.mem_cons.mp hx with e | e
      · rw [e]; show 0 < y.2 + m; grind
      · exact pr x e
    · rw [if_neg c] at hx
      rcases List.mem_cons.mp hx with e | e
      · rw [e]; exact py
      · exact pos_add hm pr x e
theorem pos_put {st : Sts} {k : Nat × Nat} {m : Rat} (p : Psv st) : Psv (putS st k m) := by
  unfold putS
  by_cases c : 0 < m
  · rw [if_pos c]; exact pos_add c p
  · rw [if_neg c]; exact p
theorem pos_come {h c : Rat} {mk : Nat} {st : Sts} : Psv (comeS h c mk st) := by
  unfold comeS
  have : ∀ (st acc : Sts), Psv acc → Psv (st.foldl (stepS h c mk) acc) := by
    intro st
    induction st with
    | nil => intro acc p; exact p
    | cons x r ih =>
      intro acc p
      rw [List.foldl_cons]
      refine ih _ ?_
      unfold stepS
      split
      · exact pos_put (pos_put p)
      · exact pos_put (pos_put p)
  exact this st [] (fun x hx => by cases hx)
/-- what is held behind -/
noncomputable def hb (h c : Rat) : Rat := if h + c < 1 then h + c else h + c - 1
/-- the worth of a state -/
noncomputable def Vf (h : Rat) (k : Nat × Nat) : Rat := if k.2 = 3 then 1 else if k.2 ||| k.1 = 3 then h else 0
theorem hb_ok {h c : Rat} (h0 : 0 ≤ h) (h1 : h < 1) (c0 : 0 < c) (c1 : c < 1) : 0 ≤ hb h c ∧ hb h c < 1 := by
  unfold hb; split <;> grind
theorem sig_hb {h c : Rat} (e : ¬ h + c < 1) : sig h c = 1 ∨ (sig h c = 0 ∧ hb h c = 0) := by
  unfold sig hb
  rw [if_neg e]
  by_cases z : h + c = 1
  · rw [if_pos z]; right; exact ⟨rfl, by grind⟩
  · rw [if_neg z]; exact .inl rfl
/-- one of neither mark comes: the worth stays -/
theorem Tf_zero {h c : Rat} (h0 : 0 ≤ h) (h1 : h < 1) (c0 : 0 < c) (c1 : c < 1) (k : Nat × Nat) (hk : k.1 < 4 ∧ k.2 < 4) : Tf h c 0 (Vf (hb h c)) k = Vf h k := by
  obtain ⟨u, s⟩ := k
  unfold Tf
  by_cases e : h + c < 1
  · rw [if_pos e]
    have p : h + c ≠ 0 := by grind
    have eb : hb h c = h + c := by unfold hb; rw [if_pos e]
    unfold Vf
    simp only [Nat.or_zero]
    rw [eb]
    split
    · grind
    · split
      · grind
      · grind
  · rw [if_neg e]
    have p : 2 - (h + c) ≠ 0 := by grind
    have eb : hb h c = h + c - 1 := by unfold hb; rw [if_neg e]
    rcases sig_hb e with z | ⟨z, z2⟩
    · unfold Vf
      simp only [Nat.or_zero, z, Nat.mul_one, Nat.zero_mul]
      rw [eb]
      by_cases q : s = 3
      · subst q
        have : 3 ||| u = 3 := by
          have := hk.1
          match u with
          | 0 => rfl
          | 1 => rfl
          | 2 => rfl
          | 3 => rfl
          | n + 4 => exact absurd this (by omega)
        simp only [this, if_true]
        grind
      · simp only [q, if_false]
        by_cases r : s ||| u = 3
        · simp only [r, if_true]; grind
        · simp only [r, if_false]; grind
    · unfold Vf
      simp only [Nat.or_zero, z, Nat.mul_zero]
      by_cases q : s = 3
      · subst q
        have : 3 ||| u = 3 := by
          have := hk.1
          match u with
          | 0 => rfl
          | 1 => rfl
          | 2 => rfl
          | 3 => rfl
          | n + 4 => exact absurd this (by omega)
        simp only [this, if_true]
        grind
      · simp only [q, if_false]
        by_cases r : s ||| u = 3
        · simp only [r, if_true]; grind
        · simp only [r, if_false]; grind
end Du

set_option linter.all false
set_option maxHeartbeats 1000000
namespace Du
theorem Sf_congr {st : Sts} {f g : Nat × Nat → Rat} (h : ∀ x ∈ st, f x.1 = g x.1) : Sf st f = Sf st g := by
  induction st with
  | nil => rfl
  | cons x r ih =>
    rw [Sf_cons, Sf_cons, h x (List.mem_cons_self ..), ih fun y hy => h y (List.mem_cons_of_mem _ hy)]
theorem Sf_lin {st : Sts} {f g : Nat × Nat → Rat} {a b : Rat} : Sf st (fun k => a * f k + b * g k) = a * Sf st f + b * Sf st g := by
  induction st with
  | nil => rw [Sf_nil, Sf_nil, Sf_nil]; grind
  | cons x r ih => rw [Sf_cons, Sf_cons, Sf_cons, ih]; grind
theorem key_add {k : Nat × Nat} {m : Rat} {x : (Nat × Nat) × Rat} : ∀ {st : Sts}, x ∈ addS k m st → x.1 = k ∨ ∃ y ∈ st, x.1 = y.1
  | [], hx => by rw [addS] at hx; cases List.mem_singleton.mp hx; exact .inl rfl
  | y :: r, hx => by
    rw [addS] at hx
    by_cases c : y.1 = k
    · rw [if_pos c] at hx
      rcases List.mem_cons.mp hx with e | e
      · rw [e]; exact .inl rfl
      · exact .inr ⟨x, List.mem_cons_of_mem _ e, rfl⟩
    · rw [if_neg c] at hx
      rcases List.mem_cons.mp hx with e | e
      · rw [e]; exact .inr ⟨y, List.mem_cons_self .., rfl⟩
      · rcases key_add e with z | ⟨w, hw, z⟩
        · exact .inl z
        · exact .inr ⟨w, List.mem_cons_of_mem _ hw, z⟩
theorem key_put {k : Nat × Nat} {m : Rat} {x : (Nat × Nat) × Rat} {st : Sts} (hx : x ∈ putS st k m) : x.1 = k ∨ ∃ y ∈ st, x.1 = y.1 := by
  unfold putS at hx
  by_cases c : 0 < m
  · rw [if_pos c] at hx; exact key_add hx
  · rw [if_neg c] at hx; exact .inr ⟨x, hx, rfl⟩
/-- where a key goes -/
noncomputable def Goes (h c : Rat) (mk : Nat) (k k' : Nat × Nat) : Prop := k' = k ∨ k' = (mk, k.2) ∨ k' = (mk * sig h c, k.2 ||| k.1) ∨ k' = (k.1 * sig h c, k.2 ||| mk)
theorem key_come {h c : Rat} {mk : Nat} {st : Sts} {x : (Nat × Nat) × Rat} (hx : x ∈ comeS h c mk st) : ∃ y ∈ st, Goes h c mk y.1 x.1 := by
  unfold comeS at hx
  have : ∀ (l acc : Sts), x ∈ l.foldl (stepS h c mk) acc → (∃ y ∈ acc, x.1 = y.1) ∨ ∃ y ∈ l, Goes h c mk y.1 x.1 := by
    intro l
    induction l with
    | nil => intro acc hx; exact .inl ⟨x, hx, rfl⟩
    | cons z r ih =>
      intro acc hx
      rw [List.foldl_cons] at hx
      rcases ih _ hx with ⟨y, hy, e⟩ | ⟨y, hy, e⟩
      · unfold stepS at hy
        split at hy
        · rcases key_put hy with e2 | ⟨w, hw, e2⟩
          · exact .inr ⟨z, List.mem_cons_self .., .inr (.inl (e.trans e2))⟩
          · rcases key_put hw with e3 | ⟨v, hv, e3⟩
            · exact .inr ⟨z, List.mem_cons_self .., .inl (e.trans (e2.trans e3))⟩
            · exact .inl ⟨v, hv, e.trans (e2.trans e3)⟩
        · rcases key_put hy with e2 | ⟨w, hw, e2⟩
          · exact .inr ⟨z, List.mem_cons_self .., .inr (.inr (.inr (e.trans e2)))⟩
          · rcases key_put hw with e3 | ⟨v, hv, e3⟩
            · exact .inr ⟨z, List.mem_cons_self .., .inr (.inr (.inl (e.trans (e2.trans e3))))⟩
            · exact .inl ⟨v, hv, e.trans (e2.trans e3)⟩
      · exact .inr ⟨y, List.mem_cons_of_mem _ hy, e⟩
  rcases this st [] hx with ⟨y, hy, _⟩ | z
  · cases hy
  · exact z
theorem sig01 (h c : Rat) : sig h c = 0 ∨ sig h c = 1 := by unfold sig; split <;> simp
/-- the law's step -/
noncomputable def dStep (hs : Rat × Sts) (x : Rat × Nat) : Rat × Sts :=
  if x.1 = 1 then (hs.1, hs.2.map fun y => ((y.1.1, y.1.2 ||| x.2), y.2))
  else if 0 < x.1 then (hb hs.1 x.1, comeS hs.1 x.1 x.2 hs.2) else hs
noncomputable def dueR (L : List (Rat × Nat)) : Rat := Sf (L.foldl dStep (0, [((0, 0), 1)])).2 (Vf (L.foldl dStep (0, [((0, 0), 1)])).1)
noncomputable def In1 (c : Rat) : Prop := 0 ≤ c ∧ c ≤ 1
noncomputable def Uns (c : Rat) : Prop := 0 < c ∧ c < 1
noncomputable def Small (st : Sts) : Prop := ∀ x ∈ st, x.1.1 < 4 ∧ x.1.2 < 4
theorem or4 {a b : Nat} (ha : a < 4) (hb : b < 4) : a ||| b < 4 := Nat.or_lt_two_pow (n := 2) ha hb
theorem small_come {h c : Rat} {mk : Nat} {st : Sts} (hm : mk < 4) (s : Small st) : Small (comeS h c mk st) := fun x hx => by
  obtain ⟨y, hy, g⟩ := key_come hx
  obtain ⟨a, b⟩ := s y hy
  rcases g with g | g | g | g
  · rw [g]; exact ⟨a, b⟩
  · rw [g]; exact ⟨hm, b⟩
  · rw [g]
    refine ⟨?_, or4 b a⟩
    rcases sig01 h c with e | e <;> rw [e]
    · exact Nat.zero_lt_succ _
    · rw [Nat.mul_one]; exact hm
  · rw [g]
    refine ⟨?_, or4 b hm⟩
    rcases sig01 h c with e | e <;> rw [e]
    · exact Nat.zero_lt_succ _
    · rw [Nat.mul_one]; exact a
theorem map_zero (st : Sts) : (st.map fun y => ((y.1.1, y.1.2 ||| 0), y.2)) = st := by
  induction st with
  | nil => rfl
  | cons y r ih => rw [List.map_cons, ih, Nat.or_zero]
structure Hs (hs : Rat × Sts) : Prop where
  h0 : 0 ≤ hs.1
  h1 : hs.1 < 1
  pos : Psv hs.2
theorem Hs.step {hs : Rat × Sts} {x : Rat × Nat} (H : Hs hs) (hx : In1 x.1) : Hs (dStep hs x) := by
  unfold dStep
  by_cases e : x.1 = 1
  · rw [if_pos e]
    refine ⟨H.h0, H.h1, fun z hz => ?_⟩
    obtain ⟨y, hy, rfl⟩ := List.mem_map.mp hz
    exact H.pos y hy
  · rw [if_neg e]
    by_cases p : 0 < x.1
    · rw [if_pos p]
      have b := hb_ok H.h0 H.h1 p (by have := hx.2; grind)
      exact ⟨b.1, b.2, pos_come⟩
    · rw [if_neg p]; exact H
theorem stays {hs : Rat × Sts} {c : Rat} (H : Hs hs) (s : Small hs.2) (hc : In1 c) : Sf (dStep hs (c, 0)).2 (Vf (dStep hs (c, 0)).1) = Sf hs.2 (Vf hs.1) ∧ Small (dStep hs (c, 0)).2 := by
  unfold dStep
  by_cases e : c = 1
  · rw [if_pos e]
    show Sf (hs.2.map fun y => ((y.1.1, y.1.2 ||| 0), y.2)) _ = _ ∧ Small (hs.2.map fun y => ((y.1.1, y.1.2 ||| 0), y.2))
    rw [map_zero]
    exact ⟨rfl, s⟩
  · rw [if_neg e]
    by_cases p : 0 < c
    · rw [if_pos p]
      have c1 : c < 1 := by have := hc.2; grind
      refine ⟨?_, small_come (show (0 : Nat) < 4 by decide) s⟩
      rw [Sf_come H.h0 H.h1 p c1 H.pos]
      exact Sf_congr fun x hx => Tf_zero H.h0 H.h1 p c1 x.1 (s x hx)
    · rw [if_neg p]; exact ⟨rfl, s⟩
theorem stays_all : ∀ {C : List (Rat × Nat)} {hs : Rat × Sts}, Hs hs → Small hs.2 → (∀ x ∈ C, x.2 = 0 ∧ In1 x.1) → Sf (C.foldl dStep hs).2 (Vf (C.foldl dStep hs).1) = Sf hs.2 (Vf hs.1)
  | [], _, _, _, _ => rfl
  | (c, k) :: C, hs, H, s, hC => by
    obtain ⟨e, hc⟩ := hC (c, k) (List.mem_cons_self ..)
    have e : k = 0 := e
    subst e
    obtain ⟨a, b⟩ := stays H s hc
    rw [List.foldl_cons, stays_all (H.step hc) b (fun x hx => hC x (List.mem_cons_of_mem _ hx)), a]
/-- phase 0: neither has come -/
structure P0 (hs : Rat × Sts) : Prop extends Hs hs where
  key : ∀ x ∈ hs.2, x.1 = (0, 0)
  one : Sf hs.2 (fun _ => 1) = 1
theorem Tf_one {h c : Rat} {mk : Nat} (h0 : 0 ≤ h) (h1 : h < 1) (c0 : 0 < c) (c1 : c < 1) (k : Nat × Nat) : Tf h c mk (fun _ => 1) k = 1 := by
  unfold Tf
  by_cases e : h + c < 1
  · rw [if_pos e]
    have p : h + c ≠ 0 := by grind
    grind
  · rw [if_neg e]
    have p : 2 - (h + c) ≠ 0 := by grind
    grind
theorem P0.step {hs : Rat × Sts} {c : Rat} (P : P0 hs) (hc : In1 c) : P0 (dStep hs (c, 0)) := by
  refine { toHs := P.toHs.step hc, key := ?_, one := ?_ }
  · intro x hx
    unfold dStep at hx
    by_cases e : c = 1
    · rw [if_pos e] at hx
      rw [map_zero] at hx
      exact P.key x hx
    · rw [if_neg e] at hx
      by_cases p : 0 < c
      · rw [if_pos p] at hx
        obtain ⟨y, hy, g⟩ := key_come hx
        have ky := P.key y hy
        rw [ky] at g
        rcases g with g | g | g | g <;> rw [g] <;> simp
      · rw [if_neg p] at hx; exact P.key x hx
  · unfold dStep
    by_cases e : c = 1
    · rw [if_pos e]
      show Sf (hs.2.map fun y => ((y.1.1, y.1.2 ||| 0), y.2)) _ = _
      rw [map_zero]; exact P.one
    · rw [if_neg e]
      by_cases p : 0 < c
      · rw [if_pos p]
        have c1 : c < 1 := by have := hc.2; grind
        rw [Sf_come P.h0 P.h1 p c1 P.pos]
        exact (Sf_congr fun x hx => Tf_one P.h0 P.h1 p c1 x.1).trans P.one
      · rw [if_neg p]; exact P.one
theorem P0.all : ∀ {A : List (Rat × Nat)} {hs : Rat × Sts}, P0 hs → (∀ x ∈ A, x.2 = 0 ∧ In1 x.1) → P0 (A.foldl dStep hs)
  | [], _, P, _ => P
  | (c, k) :: A, hs, P, hA => by
    obtain ⟨e, hc⟩ := hA (c, k) (List.mem_cons_self ..)
    have e : k = 0 := e
    subst e
    show P0 (A.foldl dStep (dStep hs (c, 0)))
    exact P0.all (P.step hc) fun x hx => hA x (List.mem_cons_of_mem _ hx)
theorem P0.start : P0 (0, [((0, 0), 1)]) := by
  refine { h0 := by grind, h1 := by grind, pos := ?_, key := ?_, one := ?_ }
  · intro x hx; cases List.mem_singleton.mp hx; show (0 : Rat) < 1; grind
  · intro x hx; cases List.mem_singleton.mp hx; rfl
  · rw [Sf_cons, Sf_nil]; grind
theorem P0.at {hs : Rat × Sts} (P : P0 hs) (g : Nat × Nat → Rat) : Sf hs.2 g = g (0, 0) := by
  have : Sf hs.2 g = Sf hs.2 (fun k => g (0, 0) * (fun _ => (1 : Rat)) k + 0 * (fun _ => (1 : Rat)) k) := Sf_congr fun x hx => by rw [P.key x hx]; grind
  rw [this, Sf_lin, P.one]
  grind
/-- the program's steps -/
noncomputable def us0 (h c : Rat) : Rat × Rat := if h + c < 1 then (c / (h + c), 0) else ((1 - c) / (2 - (h + c)), (1 - h) / (2 - (h + c)))
noncomputable def usStep (h : Rat) (us : Rat × Rat) (c : Rat) : Rat × Rat := if h + c < 1 then (us.1 * (h / (h + c)), us.2) else (us.1 * ((1 - h) / (2 - (h + c))), us.2 + us.1 * ((1 - c) / (2 - (h + c))))
noncomputable def pStep (x : Rat × (Rat × Rat)) (c : Rat) : Rat × (Rat × Rat) := (hb x.1 c, usStep x.1 x.2 c)
noncomputable def bk (us : Rat × Rat) (h c : Rat) : Rat := if 0 < h + c - 1 then us.2 * c + us.1 * (h + c - 1) else us.2 * c
/-- is it that key -/
noncomputable def At (k : Nat × Nat) (k' : Nat × Nat) : Rat := if k' = k then 1 else 0
noncomputable def Ks (m : Nat) (k : Nat × Nat) : Prop := k = (0, 0) ∨ k = (m, 0) ∨ k = (0, m)
/-- phase 1: one of both has come -/
structure P1 (m : Nat) (c1 : Rat) (hs : Rat × Sts) (us : Rat × Rat) : Prop extends Hs hs where
  key : ∀ x ∈ hs.2, Ks m x.1
  sure : Uns c1 → Sf hs.2 (At (0, m)) = us.2
  up : Uns c1 → Sf hs.2 (At (m, 0)) = us.1 ∨ hs.1 = 0
  cons : Sf hs.2 (At (0, m)) + Sf hs.2 (At (m, 0)) * hs.1 = c1
  nup : ¬ Uns c1 → Sf hs.2 (At (m, 0)) = 0
theorem Ks.or_zero {m : Nat} (hm : m = 1 ∨ m = 2) {h c : Rat} {k k' : Nat × Nat} (hk : Ks m k) (g : Goes h c 0 k k') : Ks m k' := by
  unfold Ks
  rcases sig01 h c with e | e <;> rcases hm with rfl | rfl <;> rcases hk with rfl | rfl | rfl <;> rcases g with g | g | g | g <;> rw [g] <;> simp [e]
theorem Ks.first {m : Nat} (hm : m = 1 ∨ m = 2) {h c : Rat} {k' : Nat × Nat} (g : Goes h c m (0, 0) k') : Ks m k' := by
  unfold Ks
  rcases sig01 h c with e | e <;> rcases hm with rfl | rfl <;> rcases g with g | g | g | g <;> rw [g] <;> simp [e]
theorem At_self (k : Nat × Nat) : At k k = 1 := by unfold At; rw [if_pos rfl]
theorem At_ne {k k' : Nat × Nat} (h : k' ≠ k) : At k k' = 0 := by unfold At; rw [if_neg h]
theorem Tf_up {m : Nat} (hm : m = 1 ∨ m = 2) {h c : Rat} {k : Nat × Nat} (hk : Ks m k) : Tf h c 0 (At (m, 0)) k = (if h + c < 1 then h / (h + c) else (1 - h) / (2 - (h + c)) * (sig h c : Rat)) * At (m, 0) k + 0 * At (0, m) k := by
  unfold Tf
  by_cases e : h + c < 1
  · rw [if_pos e, if_pos e]
    rcases hm with rfl | rfl <;> rcases hk with rfl | rfl | rfl <;> simp [At] <;> grind
  · rw [if_neg e, if_neg e]
    rcases sig01 h c with z | z <;> rcases hm with rfl | rfl <;> rcases hk with rfl | rfl | rfl <;> simp [At, z] <;> grind
theorem Tf_sure {m : Nat} (hm : m = 1 ∨ m = 2) {h c : Rat} (h0 : 0 ≤ h) (h1 : h < 1) (c0 : 0 < c) (c1 : c < 1) {k : Nat × Nat} (hk : Ks m k) : Tf h c 0 (At (0, m)) k = (if h + c < 1 then 0 else (1 - c) / (2 - (h + c))) * At (m, 0) k + 1 * At (0, m) k := by
  unfold Tf
  by_cases e : h + c < 1
  · rw [if_pos e, if_pos e]
    have p : h + c ≠ 0 := by grind
    rcases hm with rfl | rfl <;> rcases hk with rfl | rfl | rfl <;> simp [At] <;> grind
  · rw [if_neg e, if_neg e]
    have p : 2 - (h + c) ≠ 0 := by grind
    rcases sig01 h c with z | z <;> rcases hm with rfl | rfl <;> rcases hk with rfl | rfl | rfl <;> simp [At, z] <;> grind
/-- what the second one's coming is worth -/
theorem Tf_both {m m' : Nat} (hm : m = 1 ∧ m' = 2 ∨ m = 2 ∧ m' = 1) {h c : Rat} (h0 : 0 ≤ h) (h1 : h < 1) (c0 : 0 < c) (c1 : c < 1) {k : Nat × Nat} (hk : Ks m k) : Tf h c m' (Vf (hb h c)) k = (if h + c < 1 then 0 else h + c - 1) * At (m, 0) k + c * At (0, m) k := by
  unfold Tf
  by_cases e : h + c < 1
  · rw [if_pos e, if_pos e]
    have p : h + c ≠ 0 := by grind
    have eb : hb h c = h + c := by unfold hb; rw [if_pos e]
    rw [eb]
    rcases hm with ⟨rfl, rfl⟩ | ⟨rfl, rfl⟩ <;> rcases hk with rfl | rfl | rfl <;> simp [At, Vf] <;> grind
  · rw [if_neg e, if_neg e]
    have p : 2 - (h + c) ≠ 0 := by grind
    have eb : hb h c = h + c - 1 := by unfold hb; rw [if_neg e]
    rw [eb]
    rcases sig_hb e with z | ⟨z, z2⟩
    · rcases hm with ⟨rfl, rfl⟩ | ⟨rfl, rfl⟩ <;> rcases hk with rfl | rfl | rfl <;> simp [At, Vf, z] <;> grind
    · rw [eb] at z2
      rcases hm with ⟨rfl, rfl⟩ | ⟨rfl, rfl⟩ <;> rcases hk with rfl | rfl | rfl <;> simp [At, Vf, z] <;> grind
end Du

set_option linter.all false
set_option maxHeartbeats 1000000
namespace Du
theorem not_uns1 : ¬ Uns (1 : Rat) := fun h => by have := h.2; grind
theorem uns_of {c : Rat} (h : In1 c) (h1 : c ≠ 1) (h0 : 0 < c) : Uns c := ⟨h0, by have := h.2; grind⟩
theorem P1.start {m : Nat} (hm : m = 1 ∨ m = 2) {hs : Rat × Sts} {c : Rat} (P : P0 hs) (hc : In1 c) : P1 m c (dStep hs (c, m)) (us0 hs.1 c) := by
  have H := P.toHs.step (x := (c, m)) hc
  by_cases e : c = 1
  · have ed : dStep hs (c, m) = (hs.1, hs.2.map fun y => ((y.1.1, y.1.2 ||| m), y.2)) := by unfold dStep; rw [if_pos e]
    rw [ed] at H ⊢
    have keys : ∀ x ∈ (hs.2.map fun y => ((y.1.1, y.1.2 ||| m), y.2)), x.1 = (0, m) := fun x hx => by
      obtain ⟨y, hy, rfl⟩ := List.mem_map.mp hx
      show (y.1.1, y.1.2 ||| m) = _
      rw [P.key y hy, Nat.zero_or]
    have e1 : ∀ g : Nat × Nat → Rat, Sf (hs.2.map fun y => ((y.1.1, y.1.2 ||| m), y.2)) g = g (0, m) := fun g => by
      have : Sf (hs.2.map fun y => ((y.1.1, y.1.2 ||| m), y.2)) g = Sf hs.2 (fun _ => g (0, m)) := by
        unfold Sf
        rw [List.map_map]
        congr 1
        refine List.map_congr_left fun x hx => ?_
        show x.2 * g (x.1.1, x.1.2 ||| m) = _
        rw [P.key x hx, Nat.zero_or]
      rw [this, P.at]
    have nm : (0, m) ≠ (m, 0) := by rcases hm with rfl | rfl <;> decide
    refine { toHs := H, key := fun x hx => .inr (.inr (keys x hx)), sure := ?_, up := ?_, cons := ?_, nup := ?_ }
    · intro u; rw [e] at u; exact absurd u not_uns1
    · intro u; rw [e] at u; exact absurd u not_uns1
    · show Sf (hs.2.map fun y => ((y.1.1, y.1.2 ||| m), y.2)) _ + Sf (hs.2.map fun y => ((y.1.1, y.1.2 ||| m), y.2)) _ * _ = _
      rw [e1, e1, At_self, At_ne nm, e]; grind
    · intro _
      show Sf (hs.2.map fun y => ((y.1.1, y.1.2 ||| m), y.2)) _ = _
      rw [e1, At_ne nm]
  · by_cases p : 0 < c
    · have u := uns_of hc e p
      have ed : dStep hs (c, m) = (hb hs.1 c, comeS hs.1 c m hs.2) := by unfold dStep; rw [if_neg e, if_pos p]
      rw [ed] at H ⊢
      have e1 : ∀ g : Nat × Nat → Rat, Sf (comeS hs.1 c m hs.2) g = Tf hs.1 c m g (0, 0) := fun g => by rw [Sf_come P.h0 P.h1 p u.2 P.pos, P.at]
      have q0 := P.h0
      have q1 := P.h1
      have c1 := u.2
      have a1 : Sf (comeS hs.1 c m hs.2) (At (0, m)) = (us0 hs.1 c).2 := by
        rw [e1]; unfold Tf us0
        by_cases z : hs.1 + c < 1
        · rw [if_pos z, if_pos z]; rcases hm with rfl | rfl <;> simp [At] <;> grind
        · rw [if_neg z, if_neg z]; rcases sig01 hs.1 c with y | y <;> rcases hm with rfl | rfl <;> simp [At, y] <;> grind
      have a2 : Sf (comeS hs.1 c m hs.2) (At (m, 0)) = (if hs.1 + c < 1 then c / (hs.1 + c) else (1 - c) / (2 - (hs.1 + c)) * (sig hs.1 c : Rat)) := by
        rw [e1]; unfold Tf
        by_cases z : hs.1 + c < 1
        · rw [if_pos z, if_pos z]; rcases hm with rfl | rfl <;> simp [At] <;> grind
        · rw [if_neg z, if_neg z]; rcases sig01 hs.1 c with y | y <;> rcases hm with rfl | rfl <;> simp [At, y] <;> grind
      refine { toHs := H, key := ?_, sure := fun _ => a1, up := ?_, cons := ?_, nup := fun z => absurd u z }
      · intro x hx
        obtain ⟨y, hy, g⟩ := key_come hx
        rw [P.key y hy] at g
        exact Ks.first hm g
      · intro _
        show Sf (comeS hs.1 c m hs.2) _ = _ ∨ hb hs.1 c = 0
        rw [a2]
        unfold us0
        by_cases z : hs.1 + c < 1
        · rw [if_pos z, if_pos z]; exact .inl rfl
        · rw [if_neg z, if_neg z]
          rcases sig_hb z with y | ⟨y, y2⟩
          · rw [y]; left; show _ = (1 - c) / (2 - (hs.1 + c)); grind
          · exact .inr y2
      · show Sf (comeS hs.1 c m hs.2) _ + Sf (comeS hs.1 c m hs.2) _ * hb hs.1 c = c
        rw [a1, a2]
        unfold us0
        by_cases z : hs.1 + c < 1
        · have eb : hb hs.1 c = hs.1 + c := by unfold hb; rw [if_pos z]
          have p' : hs.1 + c ≠ 0 := by grind
          rw [if_pos z, if_pos z, eb]; grind
        · have eb : hb hs.1 c = hs.1 + c - 1 := by unfold hb; rw [if_neg z]
          have p' : 2 - (hs.1 + c) ≠ 0 := by grind
          rw [if_neg z, if_neg z]
          rcases sig_hb z with y | ⟨y, y2⟩
          · rw [y, eb]; simp; grind
          · rw [y, y2]; rw [eb] at y2; simp; grind
    · have c0 : c = 0 := by have := hc.1; grind
      have ed : dStep hs (c, m) = hs := by unfold dStep; rw [if_neg e, if_neg p]
      rw [ed]
      have n1 : (0, 0) ≠ (0, m) := by rcases hm with rfl | rfl <;> decide
      have n2 : (0, 0) ≠ (m, 0) := by rcases hm with rfl | rfl <;> decide
      have nu : ¬ Uns c := fun u => p u.1
      refine { toHs := P.toHs, key := fun x hx => .inl (P.key x hx), sure := fun u => absurd u nu, up := fun u => absurd u nu, cons := ?_, nup := ?_ }
      · rw [P.at, P.at, At_ne n1, At_ne n2, c0]; grind
      · intro _; rw [P.at, At_ne n2]
noncomputable def usAll (hs : Rat) (us : Rat × Rat) (c : Rat) : Rat × Rat := if c = 1 then us else if 0 < c then usStep hs us c else us
theorem P1.step {m : Nat} (hm : m = 1 ∨ m = 2) {c1 : Rat} {hs : Rat × Sts} {us : Rat × Rat} {c : Rat} (P : P1 m c1 hs us) (hc : In1 c) : P1 m c1 (dStep hs (c, 0)) (usAll hs.1 us c) := by
  have H := P.toHs.step (x := (c, 0)) hc
  unfold usAll
  by_cases e : c = 1
  · have ed : dStep hs (c, 0) = hs := by
      unfold dStep; rw [if_pos e]
      show (hs.1, hs.2.map fun y => ((y.1.1, y.1.2 ||| 0), y.2)) = hs
      rw [map_zero]
    rw [ed, if_pos e]; exact P
  · rw [if_neg e]
    by_cases p : 0 < c
    · rw [if_pos p]
      have u := uns_of hc e p
      have ed : dStep hs (c, 0) = (hb hs.1 c, comeS hs.1 c 0 hs.2) := by unfold dStep; rw [if_neg e, if_pos p]
      rw [ed] at H ⊢
      have q0 := P.h0
      have q1 := P.h1
      have b1 := u.2
      have a1 : Sf (comeS hs.1 c 0 hs.2) (At (0, m)) = (if hs.1 + c < 1 then 0 else (1 - c) / (2 - (hs.1 + c))) * Sf hs.2 (At (m, 0)) + 1 * Sf hs.2 (At (0, m)) := by
        rw [Sf_come q0 q1 p b1 P.pos, Sf_congr (g := fun k => (if hs.1 + c < 1 then 0 else (1 - c) / (2 - (hs.1 + c))) * At (m, 0) k + 1 * At (0, m) k) fun x hx => Tf_sure hm q0 q1 p b1 (P.key x hx), Sf_lin]
      have a2 : Sf (comeS hs.1 c 0 hs.2) (At (m, 0)) = (if hs.1 + c < 1 then hs.1 / (hs.1 + c) else (1 - hs.1) / (2 - (hs.1 + c)) * (sig hs.1 c : Rat)) * Sf hs.2 (At (m, 0)) + 0 * Sf hs.2 (At (0, m)) := by
        rw [Sf_come q0 q1 p b1 P.pos, Sf_congr (g := fun k => (if hs.1 + c < 1 then hs.1 / (hs.1 + c) else (1 - hs.1) / (2 - (hs.1 + c)) * (sig hs.1 c : Rat)) * At (m, 0) k + 0 * At (0, m) k) fun x hx => Tf_up hm (P.key x hx), Sf_lin]
      have hcons := P.cons
      refine { toHs := H, key := ?_, sure := ?_, up := ?_, cons := ?_, nup := ?_ }
      · intro x hx
        obtain ⟨y, hy, g⟩ := key_come hx
        exact Ks.or_zero hm (P.key y hy) g
      · intro u1
        show Sf (comeS hs.1 c 0 hs.2) _ = _
        have k1 := P.sure u1
        have k2 := P.up u1
        rw [a1, k1]
        unfold usStep
        by_cases z : hs.1 + c < 1
        · rw [if_pos z, if_pos z]; grind
        · rw [if_neg z, if_neg z]
          rcases k2 with k2 | k2
          · rw [k2]; grind
          · exfalso; rw [k2] at z; grind
      · intro u1
        show Sf (comeS hs.1 c 0 hs.2) _ = _ ∨ hb hs.1 c = 0
        have k2 := P.up u1
        rw [a2]
        unfold usStep
        by_cases z : hs.1 + c < 1
        · rw [if_pos z, if_pos z]
          left
          rcases k2 with k2 | k2
          · rw [k2]; grind
          · rw [k2]
            show (0 : Rat) / (0 + c) * _ + 0 * _ = us.1 * (0 / (0 + c))
            have : (0 : Rat) / (0 + c) = 0 := by rw [Rat.div_def, Rat.zero_mul]
            rw [this]; grind
        · rw [if_neg z, if_neg z]
          rcases sig_hb z with y | ⟨y, y2⟩
          · rcases k2 with k2 | k2
            · rw [k2, y]; left; simp; grind
            · exfalso; rw [k2] at z; grind
          · exact .inr y2
      · show Sf (comeS hs.1 c 0 hs.2) _ + Sf (comeS hs.1 c 0 hs.2) _ * hb hs.1 c = c1
        rw [a1, a2, ← hcons]
        by_cases z : hs.1 + c < 1
        · have eb : hb hs.1 c = hs.1 + c := by unfold hb; rw [if_pos z]
          have p' : hs.1 + c ≠ 0 := by grind
          rw [if_pos z, if_pos z, eb]; grind
        · have eb : hb hs.1 c = hs.1 + c - 1 := by unfold hb; rw [if_neg z]
          have p' : 2 - (hs.1 + c) ≠ 0 := by grind
          rw [if_neg z, if_neg z]
          rcases sig_hb z with y | ⟨y, y2⟩
          · rw [y, eb]; simp; grind
          · rw [y, y2]; rw [eb] at y2
            have e3 : hs.1 = 1 - c := by grind
            have e4 : 2 - (hs.1 + c) = 1 := by grind
            rw [e4, e3]; simp; grind
      · intro nu
        show Sf (comeS hs.1 c 0 hs.2) _ = _
        rw [a2, P.nup nu]; grind
    · have ed : dStep hs (c, 0) = hs := by unfold dStep; rw [if_neg e, if_neg p]
      rw [ed, if_neg p]; exact P
/-- held, and the shares of the one that has come, over chances of any kind -/
noncomputable def rAll (x : Rat × (Rat × Rat)) (c : Rat) : Rat × (Rat × Rat) := if c = 1 then x else if 0 < c then pStep x c else x
theorem dStep_held (hs : Rat × Sts) (c : Rat) (mk : Nat) : (dStep hs (c, mk)).1 = (if c = 1 then hs.1 else if 0 < c then hb hs.1 c else hs.1) := by
  unfold dStep
  by_cases e : c = 1
  · rw [if_pos e, if_pos e]
  · rw [if_neg e, if_neg e]
    by_cases p : 0 < c
    · rw [if_pos p, if_pos p]
    · rw [if_neg p, if_neg p]
theorem P1.all {m : Nat} (hm : m = 1 ∨ m = 2) {c1 : Rat} : ∀ {B : List (Rat × Nat)} {hs : Rat × Sts} {us : Rat × Rat}, P1 m c1 hs us → (∀ x ∈ B, x.2 = 0 ∧ In1 x.1) → P1 m c1 (B.foldl dStep hs) ((B.map (·.1)).foldl rAll (hs.1, us)).2 ∧ (B.foldl dStep hs).1 = ((B.map (·.1)).foldl rAll (hs.1, us)).1
  | [], hs, us, P, _ => ⟨P, rfl⟩
  | (c, k) :: B, hs, us, P, hB => by
    obtain ⟨e, hc⟩ := hB (c, k) (List.mem_cons_self ..)
    have e : k = 0 := e
    subst e
    have ih := P1.all hm (P.step hm hc) (fun x hx => hB x (List.mem_cons_of_mem _ hx))
    have er : ((dStep hs (c, 0)).1, usAll hs.1 us c) = rAll (hs.1, us) c := by
      rw [dStep_held]
      unfold usAll rAll
      by_cases e : c = 1
      · rw [if_pos e, if_pos e, if_pos e]
      · rw [if_neg e, if_neg e, if_neg e]
        by_cases p : 0 < c
        · rw [if_pos p, if_pos p, if_pos p]; rfl
        · rw [if_neg p, if_neg p, if_neg p]
    rw [er] at ih
    exact ih
theorem Sf_two {st : Sts} {m : Nat} {a b : Rat} {f : Nat × Nat → Rat} (h : ∀ x ∈ st, f x.1 = a * At (m, 0) x.1 + b * At (0, m) x.1) : Sf st f = a * Sf st (At (m, 0)) + b * Sf st (At (0, m)) := by
  rw [Sf_congr (g := fun k => a * At (m, 0) k + b * At (0, m) k) h, Sf_lin]
/-- the second one comes -/
theorem P1.end {m m' : Nat} (hm : m = 1 ∧ m' = 2 ∨ m = 2 ∧ m' = 1) {c1 : Rat} {hs : Rat × Sts} {us : Rat × Rat} {c : Rat} (P : P1 m c1 hs us) (h1 : In1 c1) (hc : In1 c) : (Uns c1 → Uns c → Sf (dStep hs (c, m')).2 (Vf (dStep hs (c, m')).1) = bk us hs.1 c) ∧ (¬ (Uns c1 ∧ Uns c) → Sf (dStep hs (c, m')).2 (Vf (dStep hs (c, m')).1) = c1 * c) := by
  have q0 := P.h0
  have q1 := P.h1
  have hcons := P.cons
  by_cases e : c = 1
  · have ed : dStep hs (c, m') = (hs.1, hs.2.map fun y => ((y.1.1, y.1.2 ||| m'), y.2)) := by unfold dStep; rw [if_pos e]
    rw [ed]
    refine ⟨fun _ u => by rw [e] at u; exact absurd u not_uns1, fun _ => ?_⟩
    have : Sf (hs.2.map fun y => ((y.1.1, y.1.2 ||| m'), y.2)) (Vf hs.1) = Sf hs.2 (fun k => Vf hs.1 (k.1, k.2 ||| m')) := by
      unfold Sf
      rw [List.map_map]
      rfl
    show Sf (hs.2.map fun y => ((y.1.1, y.1.2 ||| m'), y.2)) (Vf hs.1) = _
    rw [this, Sf_two (m := m) (a := hs.1) (b := 1) fun x hx => ?_]
    · rw [e]; grind
    · rcases hm with ⟨rfl, rfl⟩ | ⟨rfl, rfl⟩ <;> rcases P.key x hx with z | z | z <;> rw [z] <;> simp [At, Vf] <;> grind
  · by_cases p : 0 < c
    · have u := uns_of hc e p
      have ed : dStep hs (c, m') = (hb hs.1 c, comeS hs.1 c m' hs.2) := by unfold dStep; rw [if_neg e, if_pos p]
      rw [ed]
      have w : Sf (comeS hs.1 c m' hs.2) (Vf (hb hs.1 c)) = (if hs.1 + c < 1 then 0 else hs.1 + c - 1) * Sf hs.2 (At (m, 0)) + c * Sf hs.2 (At (0, m)) := by
        rw [Sf_come q0 q1 p u.2 P.pos, Sf_two (m := m) fun x hx => Tf_both hm q0 q1 p u.2 (P.key x hx)]
      refine ⟨fun u1 _ => ?_, fun nu => ?_⟩
      · show Sf (comeS hs.1 c m' hs.2) (Vf (hb hs.1 c)) = _
        rw [w, P.sure u1]
        unfold bk
        by_cases z : 0 < hs.1 + c - 1
        · have nz : ¬ hs.1 + c < 1 := by grind
          rw [if_pos z, if_neg nz]
          rcases P.up u1 with k | k
          · rw [k]; grind
          · exfalso; have := u.2; grind
        · rw [if_neg z]
          by_cases y : hs.1 + c < 1
          · rw [if_pos y]; grind
          · have : hs.1 + c - 1 = 0 := by grind
            rw [if_neg y, this]; grind
      · show Sf (comeS hs.1 c m' hs.2) (Vf (hb hs.1 c)) = _
        have n1 : ¬ Uns c1 := fun z => nu ⟨z, u⟩
        have z := P.nup n1
        rw [z] at hcons
        rw [w, z]
        grind
    · have c0 : c = 0 := by have := hc.1; grind
      have ed : dStep hs (c, m') = hs := by unfold dStep; rw [if_neg e, if_neg p]
      rw [ed]
      refine ⟨fun _ u => absurd u.1 p, fun _ => ?_⟩
      rw [Sf_two (m := m) (a := 0) (b := 0) fun x hx => ?_]
      · rw [c0]; grind
      · rcases hm with ⟨rfl, rfl⟩ | ⟨rfl, rfl⟩ <;> rcases P.key x hx with z | z | z <;> rw [z] <;> simp [At, Vf] <;> grind
theorem P1.small {m m' : Nat} (hm : m = 1 ∧ m' = 2 ∨ m = 2 ∧ m' = 1) {c1 : Rat} {hs : Rat × Sts} {us : Rat × Rat} {c : Rat} (P : P1 m c1 hs us) : Small (dStep hs (c, m')).2 := by
  have m4 : m' < 4 := by rcases hm with ⟨_, rfl⟩ | ⟨_, rfl⟩ <;> decide
  have s : Small hs.2 := fun x hx => by
    rcases hm with ⟨rfl, rfl⟩ | ⟨rfl, rfl⟩ <;> rcases P.key x hx with z | z | z <;> rw [z] <;> exact ⟨by decide, by decide⟩
  unfold dStep
  by_cases e : c = 1
  · rw [if_pos e]
    intro x hx
    obtain ⟨y, hy, rfl⟩ := List.mem_map.mp hx
    exact ⟨(s y hy).1, or4 (s y hy).2 m4⟩
  · rw [if_neg e]
    by_cases p : 0 < c
    · rw [if_pos p]; exact small_come m4 s
    · rw [if_neg p]; exact s
/-- held, behind chances of any kind -/
noncomputable def hAll (h c : Rat) : Rat := if c = 1 then h else if 0 < c then hb h c else h
theorem held_all : ∀ {A : List (Rat × Nat)} {hs : Rat × Sts}, (A.foldl dStep hs).1 = (A.map (·.1)).foldl hAll hs.1
  | [], hs => rfl
  | (c, k) :: A, hs => by
    rw [List.foldl_cons, held_all (A := A), dStep_held]
    rfl
/-- what the law's table comes to -/
theorem due_eq {m m' : Nat} (hm : m = 1 ∧ m' = 2 ∨ m = 2 ∧ m' = 1) {A B C : List (Rat × Nat)} {c1 c2 : Rat} (h1 : In1 c1) (h2 : In1 c2) (hA : ∀ x ∈ A, x.2 = 0 ∧ In1 x.1) (hB : ∀ x ∈ B, x.2 = 0 ∧ In1 x.1) (hC : ∀ x ∈ C, x.2 = 0 ∧ In1 x.1) :
    (Uns c1 → Uns c2 → dueR (A ++ (c1, m) :: (B ++ (c2, m') :: C)) = bk ((B.map (·.1)).foldl rAll (hb ((A.map (·.1)).foldl hAll 0) c1, us0 ((A.map (·.1)).foldl hAll 0) c1)).2 ((B.map (·.1)).foldl rAll (hb ((A.map (·.1)).foldl hAll 0) c1, us0 ((A.map (·.1)).foldl hAll 0) c1)).1 c2) ∧ (¬ (Uns c1 ∧ Uns c2) → dueR (A ++ (c1, m) :: (B ++ (c2, m') :: C)) = c1 * c2) := by
  have hm1 : m = 1 ∨ m = 2 := hm.imp (·.1) (·.1)
  have PA := P0.start.all hA
  have PB := P1.start hm1 PA h1
  obtain ⟨PE, eh⟩ := PB.all hm1 hB
  have e : dueR (A ++ (c1, m) :: (B ++ (c2, m') :: C)) = Sf (dStep (B.foldl dStep (dStep (A.foldl dStep (0, [((0, 0), 1)])) (c1, m))) (c2, m')).2 (Vf (dStep (B.foldl dStep (dStep (A.foldl dStep (0, [((0, 0), 1)])) (c1, m))) (c2, m')).1) := by
    unfold dueR
    rw [List.foldl_append, List.foldl_cons, List.foldl_append, List.foldl_cons]
    exact stays_all (PE.toHs.step h2) (PE.small hm) hC
  rw [e]
  obtain ⟨r1, r2⟩ := PE.end hm h1 h2
  refine ⟨fun u1 u2 => ?_, r2⟩
  rw [r1 u1 u2, eh]
  have ed : (dStep (A.foldl dStep (0, [((0, 0), 1)])) (c1, m)).1 = hb ((A.map (·.1)).foldl hAll 0) c1 := by
    rw [dStep_held, if_neg (fun z => by rw [z] at u1; exact not_uns1 u1), if_pos u1.1, held_all]
  rw [ed, held_all]
end Du

set_option linter.all false
namespace Du
open FrM
noncomputable def fr (q : Rat) : Int × Int := (q.num, (q.den : Int))
theorem fr_inj {p q : Rat} (h : fr p = fr q) : p = q := by
  unfold fr at h
  injection h with h1 h2
  exact Rat.ext h1 (by omega)
theorem low_mkRat (n : Int) {d : Nat} (hd : d ≠ 0) : lowP n (d : Int) = fr (mkRat n d) := by
  unfold lowP fr
  rw [Rat.num_mkRat, Rat.den_mkRat, if_neg hd, if_neg hd]
  have e : Int.gcd n (d : Int) = d.gcd n.natAbs := by rw [Int.gcd, Nat.gcd_comm]; rfl
  rw [e]
  rfl
theorem low_div (t : Int) {b : Int} (hb : 0 < b) : lowP t b = fr ((t : Rat) / (b : Rat)) := by
  obtain ⟨d, rfl⟩ := Int.eq_ofNat_of_zero_le (Int.le_of_lt hb)
  rw [low_mkRat t (by omega), ← Rat.divInt_eq_div, ← Rat.divInt_ofNat]
theorem low_add (p q : Rat) : lowP (p.num * (q.den : Int) + q.num * (p.den : Int)) ((p.den : Int) * (q.den : Int)) = fr (p + q) := by
  rw [Rat.add_def', ← low_mkRat _ (Nat.mul_ne_zero p.den_nz q.den_nz)]
  simp
theorem low_sub (p q : Rat) : lowP (p.num * (q.den : Int) - q.num * (p.den : Int)) ((p.den : Int) * (q.den : Int)) = fr (p - q) := by
  rw [Rat.sub_def', ← low_mkRat _ (Nat.mul_ne_zero p.den_nz q.den_nz)]
  simp
theorem low_mul (p q : Rat) : lowP (p.num * q.num) ((p.den : Int) * (q.den : Int)) = fr (p * q) := by
  rw [Rat.mul_def', ← low_mkRat _ (Nat.mul_ne_zero p.den_nz q.den_nz)]
  simp
theorem num_pos {q : Rat} : 0 < q.num ↔ 0 < q := by
  rw [Rat.lt_iff]; simp
theorem low_quo (p q : Rat) (h : 0 < q) : lowP (p.num * (q.den : Int)) ((p.den : Int) * q.num) = fr (p / q) := by
  have hn := num_pos.mpr h
  have hp : (0 : Int) < p.den := by have := p.den_pos; omega
  rw [low_div _ (Int.mul_pos hp hn)]
  congr 1
  have e1 : p = (p.num : Rat) / (p.den : Rat) := by
    have := Rat.num_divInt_den p
    rw [Rat.divInt_eq_div] at this
    exact this.symm
  have e2 : q = (q.num : Rat) / (q.den : Rat) := by
    have := Rat.num_divInt_den q
    rw [Rat.divInt_eq_div] at this
    exact this.symm
  have d1 : (p.den : Rat) ≠ 0 := by have := p.den_nz; exact_mod_cast this
  have d2 : (q.den : Rat) ≠ 0 := by have := q.den_nz; exact_mod_cast this
  have d3 : (q.num : Rat) ≠ 0 := by have : q.num ≠ 0 := by omega
                                    exact_mod_cast this
  conv => rhs; rw [e1, e2]
  push_cast
  grind

noncomputable def Bb (q : Rat) : Prop := Bt 1000 q.num ∧ Bt 1000 (q.den : Int)
noncomputable def Bq (D : Nat) (q : Rat) : Prop := 0 ≤ q ∧ q ≤ 1 ∧ ∃ n : Nat, q * (D : Rat) = (n : Rat)
noncomputable def Bz (D : Nat) (q : Rat) : Prop := ∃ n : Int, q * (D : Rat) = (n : Rat) ∧ n.natAbs ≤ 4 * D
theorem cast_pos {D : Nat} (h : 0 < D) : (0 : Rat) < (D : Rat) := by exact_mod_cast h
theorem eq_mk {D : Nat} {q : Rat} {n : Int} (hD : 0 < D) (e : q * (D : Rat) = (n : Rat)) : q = mkRat n D := by
  have hp := cast_pos hD
  have : q = (n : Rat) / (D : Rat) := by grind
  rw [this, ← Rat.divInt_ofNat, Rat.divInt_eq_div]
  rfl
theorem Bz.bb {D : Nat} {q : Rat} (hD : 0 < D) (hl : D < 2 ^ 980) (h : Bz D q) : Bb q := by
  obtain ⟨n, e, hn⟩ := h
  have eq := eq_mk hD e
  have l := low_mkRat n (show D ≠ 0 by omega)
  rw [← eq] at l
  have hd : (0 : Int) < (D : Int) := by omega
  obtain ⟨_, _, _, l4, l5⟩ := low n (D : Int) hd
  have e1 : (lowP n (D : Int)).1 = q.num := by rw [l]; rfl
  have e2 : (lowP n (D : Int)).2 = (q.den : Int) := by rw [l]; rfl
  have e1' : n / (Int.gcd n (D : Int) : Int) = q.num := e1
  have e2' : (D : Int) / (Int.gcd n (D : Int) : Int) = (q.den : Int) := e2
  rw [e1'] at l4
  rw [e2'] at l5
  have p1 : (2 : Nat) ^ 1000 = 2 ^ 980 * 1048576 := by decide +kernel
  unfold Bb Bt
  rw [p1]
  constructor <;> omega
theorem nn_nat {n : Nat} : (0 : Rat) ≤ (n : Rat) := by exact_mod_cast Nat.zero_le n
theorem le_nat {n m : Nat} (h : (n : Rat) ≤ (m : Rat)) : n ≤ m := by exact_mod_cast h
theorem cast_sub {n m : Nat} (h : m ≤ n) : ((n - m : Nat) : Rat) = (n : Rat) - (m : Rat) := by
  obtain ⟨k, rfl⟩ := Nat.exists_eq_add_of_le h
  rw [Nat.add_sub_cancel_left]
  push_cast
  grind
theorem mul_nn {a b : Rat} (ha : 0 ≤ a) (hb : 0 ≤ b) : 0 ≤ a * b := Rat.mul_nonneg ha hb
theorem Bq.nat {D : Nat} {q : Rat} (h : Bq D q) : ∃ n : Nat, q * (D : Rat) = (n : Rat) ∧ n ≤ D := by
  obtain ⟨h0, h1, n, e⟩ := h
  refine ⟨n, e, le_nat ?_⟩
  have := mul_nn (show 0 ≤ 1 - q by grind) (nn_nat (n := D))
  grind
theorem Bq.z {D : Nat} {q : Rat} (h : Bq D q) : Bz D q := by
  obtain ⟨n, e, hn⟩ := h.nat
  exact ⟨(n : Int), by rw [e]; rfl, by omega⟩
theorem Bq.bb {D : Nat} {q : Rat} (hD : 0 < D) (hl : D < 2 ^ 980) (h : Bq D q) : Bb q := h.z.bb hD hl
theorem Bq.mul {D E : Nat} {q r : Rat} (h : Bq D q) (h' : Bq E r) : Bq (D * E) (q * r) := by
  obtain ⟨h0, h1, n, e⟩ := h
  obtain ⟨g0, g1, m, f⟩ := h'
  refine ⟨mul_nn h0 g0, ?_, n * m, ?_⟩
  · have := mul_nn h0 (show 0 ≤ 1 - r by grind)
    grind
  · push_cast
    grind
theorem Bq.up {D : Nat} (E : Nat) {q : Rat} (h : Bq D q) : Bq (D * E) q := by
  obtain ⟨h0, h1, n, e⟩ := h
  refine ⟨h0, h1, n * E, ?_⟩
  push_cast
  grind
theorem Bq.up' {D : Nat} (E : Nat) {q : Rat} (h : Bq D q) : Bq (E * D) q := by rw [Nat.mul_comm]; exact h.up E
theorem Bq.add {D : Nat} {q r : Rat} (h : Bq D q) (h' : Bq D r) (l : q + r ≤ 1) : Bq D (q + r) := by
  obtain ⟨h0, h1, n, e⟩ := h
  obtain ⟨g0, g1, m, f⟩ := h'
  refine ⟨by grind, l, n + m, ?_⟩
  push_cast
  grind
theorem Bq.zero {D : Nat} : Bq D 0 := ⟨by grind, by grind, 0, by grind⟩
theorem Bq.one {D : Nat} : Bq D 1 := ⟨by grind, by grind, D, by grind⟩
theorem bz_of {B : Nat} {q : Rat} (a b c : Int) {h k : Rat} {n m : Nat} (e : h * (B : Rat) = (n : Rat)) (f : k * (B : Rat) = (m : Rat)) (hn : n ≤ B) (hm : m ≤ B) (hq : q = (a : Rat) * h + (b : Rat) * k + (c : Rat)) (ha : a.natAbs ≤ 1) (hb : b.natAbs ≤ 1) (hc : c.natAbs ≤ 2) : Bz B q := by
  refine ⟨a * n + b * m + c * B, ?_, ?_⟩
  · push_cast
    rw [hq]
    grind
  · have h1 : (a * (n : Int)).natAbs ≤ B := by rw [Int.natAbs_mul]; have := Nat.mul_le_mul ha hn; simp at this ⊢; exact this
    have h2 : (b * (m : Int)).natAbs ≤ B := by rw [Int.natAbs_mul]; have := Nat.mul_le_mul hb hm; simp at this ⊢; exact this
    have h3 : (c * (B : Int)).natAbs ≤ 2 * B := by rw [Int.natAbs_mul]; have := Nat.mul_le_mul hc (Nat.le_refl B); simp at this ⊢; exact this
    omega
section
variable {B : Nat} {h c : Rat}
theorem bz_add (H : Bq B h) (C : Bq B c) : Bz B (h + c) := by
  obtain ⟨n, e, hn⟩ := H.nat
  obtain ⟨m, f, hm⟩ := C.nat
  exact bz_of 1 1 0 e f hn hm (by push_cast; grind) (by decide) (by decide) (by decide)
theorem bz_add1 (H : Bq B h) (C : Bq B c) : Bz B (h + c - 1) := by
  obtain ⟨n, e, hn⟩ := H.nat
  obtain ⟨m, f, hm⟩ := C.nat
  exact bz_of 1 1 (-1) e f hn hm (by push_cast; grind) (by decide) (by decide) (by decide)
theorem bz_sub2 (H : Bq B h) (C : Bq B c) : Bz B (2 - (h + c)) := by
  obtain ⟨n, e, hn⟩ := H.nat
  obtain ⟨m, f, hm⟩ := C.nat
  exact bz_of (-1) (-1) 2 e f hn hm (by push_cast; grind) (by decide) (by decide) (by decide)
theorem bq_sub (C : Bq B c) : Bq B (1 - c) := by
  obtain ⟨m, f, hm⟩ := C.nat
  obtain ⟨c0, c1, _⟩ := C
  refine ⟨by grind, by grind, B - m, ?_⟩
  rw [cast_sub hm]
  grind
theorem bq_hb (H : Bq B h) (C : Bq B c) (h1 : h < 1) (c1 : c < 1) : Bq B (hb h c) := by
  obtain ⟨h0, _, n, e⟩ := H
  obtain ⟨c0, _, m, f⟩ := C
  unfold hb
  split
  · exact ⟨by grind, by grind, n + m, by push_cast; grind⟩
  · refine ⟨by grind, by grind, n + m - B, ?_⟩
    have : (B : Rat) ≤ ((n + m : Nat) : Rat) := by
      push_cast
      have := mul_nn (show 0 ≤ h + c - 1 by grind) (nn_nat (n := B))
      grind
    rw [cast_sub (le_nat this)]
    push_cast
    grind
/-- a ratio of two multiples of one through B -/
theorem bq_ratio {a b : Rat} (A : ∃ n : Nat, a * (B : Rat) = (n : Rat)) (hB : ∃ n : Nat, b * (B : Rat) = (n : Rat)) (a0 : 0 ≤ a) (b0 : 0 < b) (l : a ≤ b) (hp : 0 < B) (T : Nat) (eT : b * (B : Rat) = (T : Rat)) : Bq T (a / b) := by
  obtain ⟨n, e⟩ := A
  refine ⟨div_nn a0 b0, ?_, n, ?_⟩
  · have : a / b = 1 - (b - a) / b := by grind
    have := div_nn (show 0 ≤ b - a by grind) b0
    grind
  · rw [← eT, ← e]
    grind
end
/-- the denominators of one coming -/
theorem step_den {B : Nat} {h c : Rat} (hp : 0 < B) (H : Bq B h) (C : Bq B c) (h1 : h < 1) (c0 : 0 < c) (c1 : c < 1) : ∃ T : Nat, 0 < T ∧ T ≤ 2 * B ∧
    (h + c < 1 → Bq T (h / (h + c)) ∧ Bq T (c / (h + c))) ∧ (¬ h + c < 1 → Bq T ((1 - c) / (2 - (h + c))) ∧ Bq T ((1 - h) / (2 - (h + c)))) := by
  obtain ⟨n, e, hn⟩ := H.nat
  obtain ⟨m, f, hm⟩ := C.nat
  obtain ⟨h0, _, _⟩ := H
  have hpB := cast_pos hp
  by_cases k : h + c < 1
  · have eT : (h + c) * (B : Rat) = ((n + m : Nat) : Rat) := by push_cast; grind
    refine ⟨n + m, ?_, by omega, fun _ => ⟨bq_ratio ⟨n, e⟩ ⟨_, eT⟩ h0 (by grind) (by grind) hp _ eT, bq_ratio ⟨m, f⟩ ⟨_, eT⟩ (by grind) (by grind) (by grind) hp _ eT⟩, fun z => absurd k z⟩
    have : (0 : Rat) < (m : Rat) := by rw [← f]; exact Rat.mul_pos c0 hpB
    have : 0 < m := by exact_mod_cast this
    omega
  · have eT : (2 - (h + c)) * (B : Rat) = ((2 * B - (n + m) : Nat) : Rat) := by rw [cast_sub (by omega)]; push_cast; grind
    have e1 : (1 - c) * (B : Rat) = ((B - m : Nat) : Rat) := by rw [cast_sub (by omega)]; grind
    have e2 : (1 - h) * (B : Rat) = ((B - n : Nat) : Rat) := by rw [cast_sub (by omega)]; grind
    refine ⟨2 * B - (n + m), ?_, by omega, fun z => absurd z k, fun _ => ⟨bq_ratio ⟨_, e1⟩ ⟨_, eT⟩ (by grind) (by grind) (by grind) hp _ eT, bq_ratio ⟨_, e2⟩ ⟨_, eT⟩ (by grind) (by grind) (by grind) hp _ eT⟩⟩
    have : (0 : Rat) < ((2 * B - (n + m) : Nat) : Rat) := by rw [← eT]; exact Rat.mul_pos (by grind) hpB
    exact_mod_cast this
noncomputable def Pu (D : Nat) (us : Rat × Rat) : Prop := Bq D us.1 ∧ Bq D us.2 ∧ us.1 + us.2 ≤ 1
theorem Pu.step {B D T : Nat} {h c : Rat} {us : Rat × Rat} (P : Pu D us) (h0 : 0 ≤ h) (h1 : h < 1) (c0 : 0 < c) (c1 : c < 1) (hT : (h + c < 1 → Bq T (h / (h + c)) ∧ Bq T (c / (h + c))) ∧ (¬ h + c < 1 → Bq T ((1 - c) / (2 - (h + c))) ∧ Bq T ((1 - h) / (2 - (h + c))))) : Pu (D * T) (usStep h us c) := by
  obtain ⟨p1, p2, p3⟩ := P
  unfold usStep
  split
  · rename_i k
    obtain ⟨t1, t2⟩ := hT.1 k
    refine ⟨p1.mul t1, p2.up T, ?_⟩
    have := mul_nn p1.1 (show 0 ≤ 1 - h / (h + c) by have := t1.2.1; grind)
    grind
  · rename_i k
    obtain ⟨t1, t2⟩ := hT.2 k
    have s1 : (1 - c) / (2 - (h + c)) + (1 - h) / (2 - (h + c)) = 1 := by grind
    have e : us.1 * ((1 - h) / (2 - (h + c))) + (us.2 + us.1 * ((1 - c) / (2 - (h + c)))) = us.1 + us.2 := by
      have : us.1 * ((1 - h) / (2 - (h + c))) + us.1 * ((1 - c) / (2 - (h + c))) = us.1 := by
        rw [← Rat.mul_add, Rat.add_comm ((1 - h) / (2 - (h + c))), s1]; grind
      grind
    refine ⟨p1.mul t2, (p2.up T).add (p1.mul t1) ?_, by rw [e]; exact p3⟩
    have := (p1.mul t2).1
    grind
theorem Pu.new {T : Nat} {h c : Rat} (h0 : 0 ≤ h) (h1 : h < 1) (c0 : 0 < c) (c1 : c < 1) (hT : (h + c < 1 → Bq T (h / (h + c)) ∧ Bq T (c / (h + c))) ∧ (¬ h + c < 1 → Bq T ((1 - c) / (2 - (h + c))) ∧ Bq T ((1 - h) / (2 - (h + c))))) : Pu T (us0 h c) := by
  unfold us0
  split
  · rename_i k
    obtain ⟨t1, t2⟩ := hT.1 k
    exact ⟨t2, Bq.zero, by have := t2.2.1; grind⟩
  · rename_i k
    obtain ⟨t1, t2⟩ := hT.2 k
    exact ⟨t1, t2, by grind⟩
theorem Pu.up {D : Nat} {us : Rat × Rat} (P : Pu D us) (E : Nat) : Pu (E * D) us := ⟨P.1.up' E, P.2.1.up' E, P.2.2⟩
/-- what both_kept comes to, and on the way -/
theorem Pu.bk {B D : Nat} {h c : Rat} {us : Rat × Rat} (P : Pu D us) (C : Bq B c) (H : Bq B h) (h1 : h < 1) (c1 : c < 1) : Bq (D * B) (us.2 * c) ∧ (0 < h + c - 1 → Bq B (h + c - 1) ∧ Bq (D * B) (us.1 * (h + c - 1))) ∧ Bq (D * B) (bk us h c) := by
  obtain ⟨p1, p2, p3⟩ := P
  have q1 := p2.mul C
  have q2 : 0 < h + c - 1 → Bq B (h + c - 1) := fun z => by
    have := bq_hb H C h1 c1
    unfold hb at this
    rw [if_neg (by grind)] at this
    exact this
  refine ⟨q1, fun z => ⟨q2 z, p1.mul (q2 z)⟩, ?_⟩
  unfold Du.bk
  split
  · rename_i z
    refine q1.add (p1.mul (q2 z)) ?_
    have a1 := mul_nn p2.1 (show 0 ≤ 1 - c by grind)
    have a2 := mul_nn p1.1 (show 0 ≤ 1 - (h + c - 1) by grind)
    grind
  · exact q1
end Du

set_option linter.all false
namespace Du
noncomputable abbrev Fn := Nat → Nat → Option Rat
noncomputable def setF (f : Fn) (x y : Nat) (v : Rat) : Fn := fun a b => if a = x ∧ b = y then some v else f a b
noncomputable abbrev Er := List (Nat × (Rat × Rat))
noncomputable def innF (p : Nat) (h c : Rat) (e : Er) (f : Fn) : Fn := e.foldl (fun f z => setF (setF f z.1 p (bk z.2 h c)) p z.1 (bk z.2 h c)) f
noncomputable def kStep (S : Fn × Er × Rat) (x : Nat × Rat) : Fn × Er × Rat := (innF x.1 S.2.2 x.2 S.2.1 S.1, S.2.1.map (fun z => (z.1, usStep S.2.2 z.2 x.2)) ++ [(x.1, us0 S.2.2 x.2)], hb S.2.2 x.2)
noncomputable def k0 : Fn × Er × Rat := (fun _ _ => none, [], 0)
noncomputable def keptF (L : List (Nat × Rat)) : Fn := (L.foldl kStep k0).1
theorem setF_eq {f : Fn} {x y : Nat} {v : Rat} : setF f x y v x y = some v := if_pos ⟨rfl, rfl⟩
theorem setF_ne {f : Fn} {x y a b : Nat} {v : Rat} (h : ¬ (a = x ∧ b = y)) : setF f x y v a b = f a b := if_neg h
theorem inn_cons {p : Nat} {h c : Rat} {f : Fn} {z : Nat × (Rat × Rat)} {e : Er} : innF p h c (z :: e) f = innF p h c e (setF (setF f z.1 p (bk z.2 h c)) p z.1 (bk z.2 h c)) := rfl
theorem inn_out {p : Nat} {h c : Rat} {a b : Nat} (ha : a ≠ p) (hb : b ≠ p) : ∀ {e : Er} {f : Fn}, innF p h c e f a b = f a b
  | [], _ => rfl
  | z :: e, f => by
    rw [inn_cons, inn_out ha hb, setF_ne (fun q => ha q.1), setF_ne (fun q => hb q.2)]
theorem inn_other {p : Nat} {h c : Rat} {x : Nat} (hx : x ≠ p) : ∀ {e : Er} {f : Fn}, x ∉ e.map (·.1) → innF p h c e f x p = f x p
  | [], _, _ => rfl
  | z :: e, f, n => by
    rw [List.map_cons, List.mem_cons, not_or] at n
    rw [inn_cons, inn_other hx n.2, setF_ne (fun q => hx q.1), setF_ne (fun q => n.1 q.1)]
theorem inn_get {p : Nat} {h c : Rat} {x : Nat} {us : Rat × Rat} (hx : x ≠ p) : ∀ {e : Er} {f : Fn}, (e.map (·.1)).Nodup → (x, us) ∈ e → innF p h c e f x p = some (bk us h c)
  | [], _, _, m => by cases m
  | z :: e, f, nd, m => by
    rw [List.map_cons, List.nodup_cons] at nd
    rw [inn_cons]
    rcases List.mem_cons.mp m with e1 | e1
    · rw [← e1] at nd ⊢
      rw [inn_other hx nd.1, setF_ne (fun q => hx q.1), setF_eq]
    · exact inn_get hx nd.2 e1
theorem inn_sym {p : Nat} {h c : Rat} : ∀ {e : Er} {f : Fn}, (∀ a b, f a b = f b a) → ∀ a b, innF p h c e f a b = innF p h c e f b a
  | [], _, s => s
  | z :: e, f, s => by
    rw [inn_cons]
    refine inn_sym fun a b => ?_
    unfold setF
    have := s a b
    grind
theorem fold_sym : ∀ {L : List (Nat × Rat)} {S : Fn × Er × Rat}, (∀ a b, S.1 a b = S.1 b a) → ∀ a b, (L.foldl kStep S).1 a b = (L.foldl kStep S).1 b a
  | [], _, s => s
  | x :: L, S, s => by
    rw [List.foldl_cons]
    exact fold_sym (inn_sym s)
theorem kept_sym (L : List (Nat × Rat)) (a b : Nat) : keptF L a b = keptF L b a := fold_sym (fun _ _ => rfl) a b
theorem kept_pl : ∀ {L : List (Nat × Rat)} {S : Fn × Er × Rat}, (L.foldl kStep S).2.1.map (·.1) = S.2.1.map (·.1) ++ L.map (·.1)
  | [], S => by simp
  | x :: L, S => by
    rw [List.foldl_cons, kept_pl]
    unfold kStep
    simp [Function.comp_def]
theorem kept_held : ∀ {L : List (Nat × Rat)} {S : Fn × Er × Rat}, (L.foldl kStep S).2.2 = (L.map (·.2)).foldl hb S.2.2
  | [], _ => rfl
  | x :: L, S => by rw [List.foldl_cons, kept_held, List.map_cons, List.foldl_cons]; rfl
theorem kept_entry {x : Nat} : ∀ {L : List (Nat × Rat)} {S : Fn × Er × Rat} {us : Rat × Rat}, (x, us) ∈ S.2.1 → (x, ((L.map (·.2)).foldl pStep (S.2.2, us)).2) ∈ (L.foldl kStep S).2.1 ∧ (L.foldl kStep S).2.2 = ((L.map (·.2)).foldl pStep (S.2.2, us)).1
  | [], _, _, m => ⟨m, rfl⟩
  | y :: L, S, us, m => by
    rw [List.foldl_cons, List.map_cons, List.foldl_cons]
    have m' : (x, usStep S.2.2 us y.2) ∈ (kStep S y).2.1 := List.mem_append_left _ (List.mem_map.mpr ⟨_, m, rfl⟩)
    exact kept_entry (S := kStep S y) m'
theorem kept_out {a b : Nat} : ∀ {L : List (Nat × Rat)} {S : Fn × Er × Rat}, a ∉ L.map (·.1) → b ∉ L.map (·.1) → (L.foldl kStep S).1 a b = S.1 a b
  | [], _, _, _ => rfl
  | y :: L, S, ha, hb => by
    rw [List.map_cons, List.mem_cons, not_or] at ha hb
    rw [List.foldl_cons, kept_out ha.2 hb.2]
    exact inn_out ha.1 hb.1
theorem kept_two {x y : Nat} {c1 c2 : Rat} {A B C : List (Nat × Rat)} (nd : ((A ++ (x, c1) :: (B ++ (y, c2) :: C)).map (·.1)).Nodup) :
    keptF (A ++ (x, c1) :: (B ++ (y, c2) :: C)) x y = some (bk ((B.map (·.2)).foldl pStep (hb ((A.map (·.2)).foldl hb 0) c1, us0 ((A.map (·.2)).foldl hb 0) c1)).2 ((B.map (·.2)).foldl pStep (hb ((A.map (·.2)).foldl hb 0) c1, us0 ((A.map (·.2)).foldl hb 0) c1)).1 c2) := by
  unfold keptF
  rw [List.foldl_append, List.foldl_cons, List.foldl_append, List.foldl_cons]
  have hh : (A.foldl kStep k0).2.2 = (A.map (·.2)).foldl hb 0 := kept_held
  have pl : (A.foldl kStep k0).2.1.map (·.1) = A.map (·.1) := by rw [kept_pl]; rfl
  obtain ⟨S, hS⟩ : ∃ S, S = A.foldl kStep k0 := ⟨_, rfl⟩
  rw [← hS] at hh pl ⊢
  have m1 : (x, us0 S.2.2 c1) ∈ (kStep S (x, c1)).2.1 := List.mem_append_right _ (List.mem_singleton.mpr rfl)
  obtain ⟨m2, e2⟩ := kept_entry (L := B) m1
  have pl2 : (B.foldl kStep (kStep S (x, c1))).2.1.map (·.1) = A.map (·.1) ++ x :: B.map (·.1) := by
    rw [kept_pl]
    unfold kStep
    simp [Function.comp_def]
    rw [← pl]
  have e3 : (kStep S (x, c1)).2.2 = hb S.2.2 c1 := rfl
  rw [e3, hh] at m2 e2
  simp only [List.map_append, List.map_cons] at nd
  have nxy : x ≠ y := by
    rintro rfl
    have := List.nodup_append.mp nd
    simp at this
  have nd2 : ((B.foldl kStep (kStep S (x, c1))).2.1.map (·.1)).Nodup := by
    rw [pl2]
    have e : (A.map (·.1) ++ x :: (B.map (·.1) ++ y :: C.map (·.1))) = (A.map (·.1) ++ x :: B.map (·.1)) ++ y :: C.map (·.1) := by simp
    rw [e] at nd
    exact (List.nodup_append.mp nd).1
  have nC : x ∉ C.map (·.1) ∧ y ∉ C.map (·.1) := by
    have h1 := (List.nodup_append.mp nd).2.1
    rw [List.nodup_cons] at h1
    have h2 := (List.nodup_append.mp h1.2).2.1
    rw [List.nodup_cons] at h2
    exact ⟨fun z => h1.1 (List.mem_append_right _ (List.mem_cons_of_mem _ z)), h2.1⟩
  rw [kept_out nC.1 nC.2]
  show innF y (B.foldl kStep (kStep S (x, c1))).2.2 c2 (B.foldl kStep (kStep S (x, c1))).2.1 (B.foldl kStep (kStep S (x, c1))).1 x y = _
  rw [inn_get nxy nd2 m2, e2]
theorem inn_none {p : Nat} {h c : Rat} {a b : Nat} : ∀ {e : Er} {f : Fn}, f a b = none → ¬ (a = p ∧ b ∈ e.map (·.1)) → ¬ (b = p ∧ a ∈ e.map (·.1)) → innF p h c e f a b = none
  | [], _, n, _, _ => n
  | z :: e, f, n, h1, h2 => by
    rw [List.map_cons, List.mem_cons] at h1 h2
    rw [inn_cons]
    refine inn_none ?_ (fun q => h1 ⟨q.1, .inr q.2⟩) (fun q => h2 ⟨q.1, .inr q.2⟩)
    rw [setF_ne (fun q => h1 ⟨q.1, .inl q.2⟩), setF_ne (fun q => h2 ⟨q.2, .inl q.1⟩)]
    exact n
theorem kept_none {a b : Nat} : ∀ {L : List (Nat × Rat)} {S : Fn × Er × Rat}, S.1 a b = none → ¬ (a ∈ S.2.1.map (·.1) ++ L.map (·.1) ∧ b ∈ S.2.1.map (·.1) ++ L.map (·.1)) → (L.foldl kStep S).1 a b = none
  | [], _, n, _ => n
  | y :: L, S, n, h => by
    rw [List.foldl_cons]
    have pl : (kStep S y).2.1.map (·.1) = S.2.1.map (·.1) ++ [y.1] := by unfold kStep; simp [Function.comp_def]
    refine kept_none (inn_none n (fun q => h ⟨?_, ?_⟩) (fun q => h ⟨?_, ?_⟩)) ?_
    · rw [q.1]; simp
    · exact List.mem_append_left _ q.2
    · exact List.mem_append_left _ q.2
    · rw [q.1]; simp
    · rw [pl]; simpa [List.append_assoc] using h
theorem keptF_none {L : List (Nat × Rat)} {a b : Nat} (h : ¬ (a ∈ L.map (·.1) ∧ b ∈ L.map (·.1))) : keptF L a b = none := kept_none rfl (by simpa [k0] using h)
/-! ### filtered folds -/
noncomputable def unsQ (c : Rat) : Bool := decide (0 < c ∧ c < 1)
theorem unsQ_iff {c : Rat} : unsQ c = true ↔ Uns c := decide_eq_true_iff
theorem hAll_filter : ∀ (cs : List Rat) (h : Rat), (∀ c ∈ cs, In1 c) → cs.foldl hAll h = (cs.filter unsQ).foldl hb h
  | [], _, _ => rfl
  | c :: cs, h, H => by
    have hc := H c (List.mem_cons_self ..)
    have ih := fun h => hAll_filter cs h (fun z hz => H z (List.mem_cons_of_mem _ hz))
    rw [List.foldl_cons, ih]
    by_cases u : Uns c
    · rw [List.filter_cons_of_pos (unsQ_iff.mpr u), List.foldl_cons]
      congr 1
      unfold hAll
      rw [if_neg (by have := u.2; grind), if_pos u.1]
    · rw [List.filter_cons_of_neg (fun z => u (unsQ_iff.mp z))]
      congr 1
      unfold hAll
      unfold Uns at u
      have := hc.1; have := hc.2
      by_cases e : c = 1
      · rw [if_pos e]
      · rw [if_neg e, if_neg (by grind)]
theorem rAll_filter : ∀ (cs : List Rat) (x : Rat × (Rat × Rat)), (∀ c ∈ cs, In1 c) → cs.foldl rAll x = (cs.filter unsQ).foldl pStep x
  | [], _, _ => rfl
  | c :: cs, x, H => by
    have hc := H c (List.mem_cons_self ..)
    have ih := fun x => rAll_filter cs x (fun z hz => H z (List.mem_cons_of_mem _ hz))
    rw [List.foldl_cons, ih]
    by_cases u : Uns c
    · rw [List.filter_cons_of_pos (unsQ_iff.mpr u), List.foldl_cons]
      congr 1
      unfold rAll
      rw [if_neg (by have := u.2; grind), if_pos u.1]
    · rw [List.filter_cons_of_neg (fun z => u (unsQ_iff.mp z))]
      congr 1
      unfold rAll
      unfold Uns at u
      have := hc.1; have := hc.2
      by_cases e : c = 1
      · rw [if_pos e]
      · rw [if_neg e, if_neg (by grind)]
/-- the law's table and the program's own are one -/
theorem due_kept {ord : List (Nat × Rat)} {x y : Nat} {cx cy : Rat} {mk : Nat → Nat} (nd : (ord.map (·.1)).Nodup) (hi : ∀ z ∈ ord, In1 z.2) (hx : (x, cx) ∈ ord) (hy : (y, cy) ∈ ord) (hxy : x ≠ y) (h1 : mk x = 1) (h2 : mk y = 2) (h0 : ∀ z, z ≠ x → z ≠ y → mk z = 0) :
    (Uns cx → Uns cy → keptF (ord.filter fun z => unsQ z.2) x y = some (dueR (ord.map fun z => (z.2, mk z.1)))) ∧ (¬ (Uns cx ∧ Uns cy) → dueR (ord.map fun z => (z.2, mk z.1)) = cx * cy) := by
  have key : ∀ {x y : Nat} {cx cy : Rat} {m m' : Nat} {A B C : List (Nat × Rat)}, (m = 1 ∧ m' = 2 ∨ m = 2 ∧ m' = 1) → ord = A ++ (x, cx) :: (B ++ (y, cy) :: C) → mk x = m → mk y = m' → (∀ z, z ≠ x → z ≠ y → mk z = 0) →
      (Uns cx → Uns cy → keptF (ord.filter fun z => unsQ z.2) x y = some (dueR (ord.map fun z => (z.2, mk z.1)))) ∧ (¬ (Uns cx ∧ Uns cy) → dueR (ord.map fun z => (z.2, mk z.1)) = cx * cy) := by
    intro x y cx cy m m' A B C hm e e1 e2 e0
    subst e
    have ne : ∀ z ∈ A ++ (B ++ C), z.1 ≠ x ∧ z.1 ≠ y := by
      intro z hz
      simp only [List.map_append, List.map_cons] at nd
      have d1 := List.nodup_append.mp nd
      have d2 := d1.2.1
      rw [List.nodup_cons] at d2
      have d3 := List.nodup_append.mp d2.2
      have d4 := d3.2.1
      rw [List.nodup_cons] at d4
      have zx : ∀ {l : List (Nat × Rat)}, z ∈ l → z.1 ∈ l.map (·.1) := fun h => List.mem_map.mpr ⟨z, h, rfl⟩
      rcases List.mem_append.mp hz with h | h
      · refine ⟨fun q => d1.2.2 _ (zx h) _ (List.mem_cons_self ..) q, fun q => d1.2.2 _ (zx h) _ (List.mem_cons_of_mem _ (List.mem_append_right _ (List.mem_cons_self ..))) q⟩
      · rcases List.mem_append.mp h with h | h
        · exact ⟨fun q => d2.1 (List.mem_append_left _ (q ▸ zx h)), fun q => d3.2.2 _ (zx h) _ (List.mem_cons_self ..) q⟩
        · exact ⟨fun q => d2.1 (List.mem_append_right _ (List.mem_cons_of_mem _ (q ▸ zx h))), fun q => d4.1 (q ▸ zx h)⟩
    have zero : ∀ {l : List (Nat × Rat)}, (∀ z ∈ l, z ∈ A ++ (B ++ C)) → ∀ w ∈ l.map (fun z => (z.2, mk z.1)), w.2 = 0 ∧ In1 w.1 := by
      intro l hl w hw
      obtain ⟨z, hz, rfl⟩ := List.mem_map.mp hw
      obtain ⟨n1, n2⟩ := ne z (hl z hz)
      refine ⟨e0 _ n1 n2, hi z ?_⟩
      have := hl z hz
      simp only [List.mem_append, List.mem_cons] at this ⊢
      rcases this with h | h | h
      · exact .inl h
      · exact .inr (.inr (.inl h))
      · exact .inr (.inr (.inr (.inr h)))
    have ix : In1 cx := hi (x, cx) (by simp)
    have iy : In1 cy := hi (y, cy) (by simp)
    have ma : ∀ (l : List (Nat × Rat)), (l.map fun z => (z.2, mk z.1)).map (·.1) = l.map (·.2) := fun l => by rw [List.map_map]; rfl
    have D := due_eq hm (c1 := cx) (c2 := cy) ix iy (zero (l := A) (fun z h => List.mem_append_left _ h)) (zero (l := B) (fun z h => List.mem_append_right _ (List.mem_append_left _ h))) (zero (l := C) (fun z h => List.mem_append_right _ (List.mem_append_right _ h)))
    have em : ((A ++ (x, cx) :: (B ++ (y, cy) :: C)).map fun z => (z.2, mk z.1)) = A.map (fun z => (z.2, mk z.1)) ++ (cx, m) :: (B.map (fun z => (z.2, mk z.1)) ++ (cy, m') :: C.map (fun z => (z.2, mk z.1))) := by
      simp [e1, e2]
    rw [em]
    refine ⟨fun ux uy => ?_, D.2⟩
    rw [D.1 ux uy, ma, ma]
    have fm : ∀ (l : List (Nat × Rat)), (l.filter fun z => unsQ z.2).map (·.2) = (l.map (·.2)).filter unsQ := fun l => by rw [List.filter_map]; rfl
    have ia : ∀ {l : List (Nat × Rat)}, (∀ z ∈ l, z ∈ A ++ (x, cx) :: (B ++ (y, cy) :: C)) → ∀ c ∈ l.map (·.2), In1 c := fun hl c hc => by
      obtain ⟨z, hz, rfl⟩ := List.mem_map.mp hc
      exact hi z (hl z hz)
    rw [hAll_filter _ _ (ia (l := A) (fun z h => List.mem_append_left _ h)), rAll_filter _ _ (ia (l := B) (fun z h => List.mem_append_right _ (List.mem_cons_of_mem _ (List.mem_append_left _ h))))]
    rw [← fm, ← fm]
    have ef : (A ++ (x, cx) :: (B ++ (y, cy) :: C)).filter (fun z => unsQ z.2) = A.filter (fun z => unsQ z.2) ++ (x, cx) :: (B.filter (fun z => unsQ z.2) ++ (y, cy) :: C.filter (fun z => unsQ z.2)) := by
      rw [List.filter_append, List.filter_cons_of_pos (p := fun z => unsQ z.2) (a := (x, cx)) (unsQ_iff.mpr ux), List.filter_append, List.filter_cons_of_pos (p := fun z => unsQ z.2) (a := (y, cy)) (unsQ_iff.mpr uy)]
    rw [ef]
    refine kept_two ?_
    rw [← ef]
    exact (List.Sublist.map _ List.filter_sublist).nodup nd
  obtain ⟨A, R, e⟩ := List.append_of_mem hx
  have hy' : (y, cy) ∈ A ++ (x, cx) :: R := e ▸ hy
  rcases List.mem_append.mp hy' with m | m
  · obtain ⟨A1, A2, e2⟩ := List.append_of_mem m
    have eo : ord = A1 ++ (y, cy) :: (A2 ++ (x, cx) :: R) := by rw [e, e2]; simp
    obtain ⟨r1, r2⟩ := key (.inr ⟨rfl, rfl⟩) eo h2 h1 (fun z a b => h0 z b a)
    refine ⟨fun a b => ?_, fun n => ?_⟩
    · rw [kept_sym]; exact r1 b a
    · rw [r2 (fun q => n ⟨q.2, q.1⟩), Rat.mul_comm]
  · rcases List.mem_cons.mp m with q | q
    · cases q; exact absurd rfl hxy
    obtain ⟨R1, R2, e2⟩ := List.append_of_mem q
    exact key (.inl ⟨rfl, rfl⟩) (by rw [e, e2]) h1 h2 h0
end Du

set_option linter.all false
namespace Du
/-! ### the keys of the law's states -/
noncomputable abbrev one1 : Nat × Nat → Rat := fun _ => 1
noncomputable def NdK (st : Sts) : Prop := (st.map (·.1)).Nodup
theorem keys_add (k : Nat × Nat) (m : Rat) : ∀ st : Sts, (addS k m st).map (·.1) = if k ∈ st.map (·.1) then st.map (·.1) else st.map (·.1) ++ [k]
  | [] => by simp [addS]
  | x :: r => by
    rw [addS]
    by_cases c : x.1 = k
    · rw [if_pos c]; simp [c]
    · rw [if_neg c, List.map_cons, keys_add k m r, List.map_cons]
      have c' : ¬ k = x.1 := fun z => c z.symm
      by_cases h : k ∈ r.map (·.1)
      · rw [if_pos h, if_pos (List.mem_cons_of_mem _ h)]
      · rw [if_neg h, if_neg (fun z => (List.mem_cons.mp z).elim c' h)]; rfl
theorem NdK.add {k : Nat × Nat} {m : Rat} {st : Sts} (h : NdK st) : NdK (addS k m st) := by
  unfold NdK
  rw [keys_add]
  split
  · exact h
  · rename_i n
    exact List.nodup_append.mpr ⟨h, by simp, fun a ha b hb => by simp at hb; rw [hb]; exact fun z => n (z ▸ ha)⟩
theorem NdK.put {k : Nat × Nat} {m : Rat} {st : Sts} (h : NdK st) : NdK (putS st k m) := by
  unfold putS; split
  · exact h.add
  · exact h
theorem NdK.step {h c : Rat} {mk : Nat} {acc : Sts} {x : (Nat × Nat) × Rat} (n : NdK acc) : NdK (stepS h c mk acc x) := by
  unfold stepS; split
  · exact n.put.put
  · exact n.put.put
theorem NdK.fold {h c : Rat} {mk : Nat} : ∀ {st acc : Sts}, NdK acc → NdK (st.foldl (stepS h c mk) acc)
  | [], _, n => n
  | x :: r, acc, n => NdK.fold (st := r) (acc := stepS h c mk acc x) n.step
theorem NdK.come {h c : Rat} {mk : Nat} {st : Sts} : NdK (comeS h c mk st) := NdK.fold List.nodup_nil
/-- every key is of the marks in S -/
noncomputable def Al (S : Nat) (st : Sts) : Prop := ∀ x ∈ st, x.1.1 ||| S = S ∧ x.1.2 ||| S = S
theorem or_sub {a S mk : Nat} (h : a ||| S = S) : a ||| (S ||| mk) = S ||| mk := by rw [← Nat.or_assoc, h]
theorem or_sub2 {a b S : Nat} (h : a ||| S = S) (h' : b ||| S = S) : (a ||| b) ||| S = S := by rw [Nat.or_assoc, h', h]
theorem mul_sub {a S : Nat} (h : a ||| S = S) {n : Nat} (hn : n = 0 ∨ n = 1) : (a * n) ||| S = S := by
  rcases hn with e | e <;> rw [e]
  · simp
  · rw [Nat.mul_one]; exact h
theorem Al.step {S mk : Nat} {hs : Rat × Sts} {c : Rat} (h : Al S hs.2) : Al (S ||| mk) (dStep hs (c, mk)).2 := by
  have mS : mk ||| (S ||| mk) = S ||| mk := by rw [Nat.or_comm S mk, ← Nat.or_assoc, Nat.or_self]
  have up : ∀ x ∈ hs.2, x.1.1 ||| (S ||| mk) = S ||| mk ∧ x.1.2 ||| (S ||| mk) = S ||| mk := fun x hx => ⟨or_sub (h x hx).1, or_sub (h x hx).2⟩
  intro x hx
  unfold dStep at hx
  by_cases e : c = 1
  · rw [if_pos e] at hx
    obtain ⟨y, hy, rfl⟩ := List.mem_map.mp hx
    exact ⟨(up y hy).1, or_sub2 (up y hy).2 mS⟩
  · rw [if_neg e] at hx
    by_cases p : 0 < c
    · rw [if_pos p] at hx
      obtain ⟨y, hy, g⟩ := key_come hx
      have s01 := sig01 hs.1 c
      obtain ⟨u1, u2⟩ := up y hy
      rcases g with g | g | g | g <;> rw [g]
      · exact ⟨u1, u2⟩
      · exact ⟨mS, u2⟩
      · exact ⟨mul_sub mS s01, or_sub2 u2 u1⟩
      · exact ⟨mul_sub u1 s01, or_sub2 u2 mS⟩
    · rw [if_neg p] at hx
      exact up x hx
/-- the marks that come, each once -/
noncomputable def Mk : Nat → List (Rat × Nat) → Prop
  | _, [] => True
  | S, x :: r => (x.2 = 0 ∨ x.2 &&& S = 0) ∧ x.2 < 4 ∧ S < 4 ∧ Mk (S ||| x.2) r
theorem or_inj (mk S : Nat) (hm : mk < 4) (hS : S < 4) (h : mk = 0 ∨ mk &&& S = 0) (a b : Nat) (ha : a ||| S = S) (hb : b ||| S = S) (e : a ||| mk = b ||| mk) : a = b := by
  have la : a < 4 := by have := Nat.left_le_or (n := a) (m := S); omega
  have lb : b < 4 := by have := Nat.left_le_or (n := b) (m := S); omega
  have all : ∀ mk S a b : Fin 4, (mk.1 = 0 ∨ mk.1 &&& S.1 = 0) → a.1 ||| S.1 = S.1 → b.1 ||| S.1 = S.1 → a.1 ||| mk.1 = b.1 ||| mk.1 → a.1 = b.1 := by decide +kernel
  exact all ⟨mk, hm⟩ ⟨S, hS⟩ ⟨a, la⟩ ⟨b, lb⟩ h ha hb e
theorem NdK.map {S mk : Nat} {st : Sts} (n : NdK st) (al : Al S st) (hm : mk < 4) (hS : S < 4) (h : mk = 0 ∨ mk &&& S = 0) : NdK (st.map fun y => ((y.1.1, y.1.2 ||| mk), y.2)) := by
  unfold NdK at *
  rw [List.map_map]
  have : ∀ st : Sts, (∀ x ∈ st, x.1.1 ||| S = S ∧ x.1.2 ||| S = S) → (st.map (·.1)).Nodup → (st.map ((fun x => x.1) ∘ fun y => ((y.1.1, y.1.2 ||| mk), y.2))).Nodup := by
    intro st
    induction st with
    | nil => intro _ _; exact List.nodup_nil
    | cons x r ih =>
      intro al nd
      rw [List.map_cons, List.nodup_cons] at nd
      rw [List.map_cons, List.nodup_cons]
      refine ⟨fun z => ?_, ih (fun y hy => al y (List.mem_cons_of_mem _ hy)) nd.2⟩
      obtain ⟨y, hy, e⟩ := List.mem_map.mp z
      have e : (y.1.1, y.1.2 ||| mk) = (x.1.1, x.1.2 ||| mk) := e
      injection e with e1 e2
      have a1 := al x (List.mem_cons_self ..)
      have a2 := al y (List.mem_cons_of_mem _ hy)
      have e3 := or_inj mk S hm hS h _ _ a2.2 a1.2 e2
      exact nd.1 (List.mem_map.mpr ⟨y, hy, Prod.ext e1 e3⟩)
  exact this st al n
theorem NdK.dstep {S : Nat} {hs : Rat × Sts} {x : Rat × Nat} {r : List (Rat × Nat)} (n : NdK hs.2) (al : Al S hs.2) (m : Mk S (x :: r)) : NdK (dStep hs x).2 := by
  unfold dStep
  split
  · exact n.map al m.2.1 m.2.2.1 m.1
  · split
    · exact NdK.come
    · exact n
/-! ### bounds -/
noncomputable def AllB (D : Nat) (st : Sts) : Prop := ∀ x ∈ st, Bq D x.2
theorem Sf_nn {st : Sts} (p : Psv st) : 0 ≤ Sf st one1 := by
  induction st with
  | nil => rw [Sf_nil]; grind
  | cons x r ih =>
    rw [Sf_cons]
    have h1 := p x (List.mem_cons_self ..)
    have h2 := ih (fun y hy => p y (List.mem_cons_of_mem _ hy))
    show 0 ≤ x.2 * 1 + Sf r one1
    grind
theorem le_Sf {st : Sts} (p : Psv st) : ∀ x ∈ st, x.2 ≤ Sf st one1 := by
  induction st with
  | nil => intro x hx; cases hx
  | cons y r ih =>
    intro x hx
    rw [Sf_cons]
    have h1 := p y (List.mem_cons_self ..)
    have pr : Psv r := fun z hz => p z (List.mem_cons_of_mem _ hz)
    show x.2 ≤ y.2 * 1 + Sf r one1
    rcases List.mem_cons.mp hx with e | e
    · rw [e]; have := Sf_nn pr; grind
    · have := ih pr x e; grind
noncomputable def getS (st : Sts) (k : Nat × Nat) : Rat := match st with
  | [] => 0
  | x :: r => if x.1 = k then x.2 else getS r k
theorem get_mem {k : Nat × Nat} : ∀ {st : Sts}, getS st k = 0 ∨ (k, getS st k) ∈ st
  | [] => .inl rfl
  | x :: r => by
    rw [getS]
    by_cases c : x.1 = k
    · rw [if_pos c]; exact .inr (by rw [← c]; exact List.mem_cons_self ..)
    · rw [if_neg c]; exact get_mem.imp id (List.mem_cons_of_mem _)
theorem mem_add {k : Nat × Nat} {m : Rat} : ∀ {st : Sts} {x : (Nat × Nat) × Rat}, x ∈ addS k m st → x ∈ st ∨ x = (k, getS st k + m)
  | [], x, h => by rw [addS] at h; cases List.mem_singleton.mp h; right; rw [getS]; grind
  | y :: r, x, h => by
    rw [addS] at h
    rw [getS]
    by_cases c : y.1 = k
    · rw [if_pos c] at h ⊢
      rcases List.mem_cons.mp h with e | e
      · exact .inr e
      · exact .inl (List.mem_cons_of_mem _ e)
    · rw [if_neg c] at h ⊢
      rcases List.mem_cons.mp h with e | e
      · exact .inl (by rw [e]; exact List.mem_cons_self ..)
      · exact (mem_add e).imp (List.mem_cons_of_mem _) id
theorem AllB.get {D : Nat} {st : Sts} (b : AllB D st) (k : Nat × Nat) : Bq D (getS st k) := by
  rcases get_mem (st := st) (k := k) with e | e
  · rw [e]; exact Bq.zero
  · exact b _ e
theorem AllB.put {D : Nat} {st : Sts} {k : Nat × Nat} {m : Rat} (b : AllB D st) (p : Psv st) (hm : Bq D m) (l : Sf st one1 + m ≤ 1) : AllB D (putS st k m) := by
  unfold putS
  split
  · rename_i z
    intro x hx
    rcases mem_add hx with e | e
    · exact b x e
    · rw [e]
      refine (b.get k).add hm ?_
      rcases get_mem (st := st) (k := k) with e | e
      · rw [e]; have := hm.2.1; grind
      · have := le_Sf p _ e; grind
  · exact b
/-- in the midst of a coming: behind i states, the first of the two puts done or not -/
structure Mid (D : Nat) (acc : Sts) (s : Rat) : Prop where
  pos : Psv acc
  nd : NdK acc
  b : AllB D acc
  sum : Sf acc one1 = s
theorem Mid.put {D : Nat} {acc : Sts} {s m : Rat} {k : Nat × Nat} (M : Mid D acc s) (hm : Bq D m) (l : s + m ≤ 1) : Mid D (putS acc k m) (s + m) := by
  refine ⟨pos_put M.pos, M.nd.put, M.b.put M.pos hm (by rw [M.sum]; exact l), ?_⟩
  rw [Sf_put hm.1, M.sum]
  show s + m * 1 = s + m
  grind
theorem Mid.nil {D : Nat} : Mid D [] 0 := ⟨(fun x hx => by cases hx), List.nodup_nil, (fun x hx => by cases hx), Sf_nil _⟩
/-- the whole state of the law -/
structure Law (B D S : Nat) (hs : Rat × Sts) : Prop where
  H : Hs hs
  hB : Bq B hs.1
  nd : NdK hs.2
  b : AllB D hs.2
  one : Sf hs.2 one1 = 1
  al : Al S hs.2
theorem Sf_take {st : Sts} (p : Psv st) : ∀ {i : Nat} {x : (Nat × Nat) × Rat}, st[i]? = some x → Sf (st.take i) one1 + x.2 = Sf (st.take (i + 1)) one1 ∧ Sf (st.take (i + 1)) one1 ≤ Sf st one1 := by
  induction st with
  | nil => intro i x h; cases h
  | cons y r ih =>
    intro i x h
    have pr : Psv r := fun z hz => p z (List.mem_cons_of_mem _ hz)
    cases i with
    | zero =>
      cases h
      rw [List.take_zero, Sf_nil, List.take_succ_cons, List.take_zero, Sf_cons, Sf_nil, Sf_cons]
      have := Sf_nn pr
      show 0 + y.2 = y.2 * 1 + 0 ∧ y.2 * 1 + 0 ≤ y.2 * 1 + Sf r one1
      grind
    | succ i =>
      have := ih pr (i := i) (x := x) h
      rw [List.take_succ_cons, List.take_succ_cons, Sf_cons, Sf_cons, Sf_cons]
      grind
theorem Law.come {B D S T : Nat} {hs : Rat × Sts} {c : Rat} {mk : Nat} (L : Law B D S hs) (C : Bq B c) (c0 : 0 < c) (c1 : c < 1) (e : Mid (D * T) (comeS hs.1 c mk hs.2) 1) : Law B (D * T) (S ||| mk) (dStep hs (c, mk)) := by
  have ed : dStep hs (c, mk) = (hb hs.1 c, comeS hs.1 c mk hs.2) := by
    unfold dStep
    rw [if_neg (show ¬ (c, mk).1 = 1 by show ¬ c = 1; grind), if_pos (show 0 < (c, mk).1 from c0)]
  have al := Al.step (mk := mk) (c := c) L.al
  have hh := L.H.step (x := (c, mk)) ⟨by show 0 ≤ c; grind, by show c ≤ 1; grind⟩
  rw [ed] at al hh ⊢
  exact ⟨hh, bq_hb L.hB C L.H.h1 c1, e.nd, e.b, e.sum, al⟩
theorem Law.sure {B D S : Nat} {hs : Rat × Sts} {mk : Nat} {r : List (Rat × Nat)} (L : Law B D S hs) (m : Mk S ((1, mk) :: r)) : Law B D (S ||| mk) (dStep hs (1, mk)) := by
  have ed : dStep hs (1, mk) = (hs.1, hs.2.map fun y => ((y.1.1, y.1.2 ||| mk), y.2)) := by
    unfold dStep
    rw [if_pos rfl]
  have al := Al.step (mk := mk) (c := 1) L.al
  have nd := L.nd.dstep L.al m
  have hh := L.H.step (x := (1, mk)) ⟨by show (0 : Rat) ≤ 1; grind, by show (1 : Rat) ≤ 1; grind⟩
  rw [ed] at al nd hh ⊢
  refine ⟨hh, L.hB, nd, fun x hx => ?_, ?_, al⟩
  · obtain ⟨y, hy, rfl⟩ := List.mem_map.mp hx
    exact L.b y hy
  · have : ∀ st : Sts, Sf (st.map fun y => ((y.1.1, y.1.2 ||| mk), y.2)) one1 = Sf st one1 := fun st => by
      induction st with
      | nil => rfl
      | cons x r ih => rw [List.map_cons, Sf_cons, Sf_cons, ih]
    exact (this hs.2).trans L.one
theorem Law.none {B D S : Nat} {hs : Rat × Sts} {mk : Nat} (L : Law B D S hs) : Law B D (S ||| mk) (dStep hs (0, mk)) := by
  have ed : dStep hs (0, mk) = hs := by
    unfold dStep
    rw [if_neg (show ¬ (0 : Rat) = 1 by grind), if_neg (show ¬ (0 : Rat) < 0 by grind)]
  have al := Al.step (mk := mk) (c := 0) L.al
  rw [ed] at al ⊢
  exact ⟨L.H, L.hB, L.nd, L.b, L.one, al⟩
theorem Law.start {B : Nat} : Law B 1 0 (0, [((0, 0), 1)]) := by
  refine ⟨⟨by grind, by grind, fun x hx => ?_⟩, Bq.zero, ?_, fun x hx => ?_, ?_, fun x hx => ?_⟩
  · cases List.mem_singleton.mp hx; show (0 : Rat) < 1; grind
  · simp [NdK]
  · cases List.mem_singleton.mp hx; exact Bq.one
  · rw [Sf_cons, Sf_nil]; show (1 : Rat) * 1 + 0 = 1; grind
  · cases List.mem_singleton.mp hx; simp
/-- the sum over the states, one after the other -/
theorem tot_ok {B D S : Nat} {hs : Rat × Sts} (L : Law B D S hs) (f : Nat × Nat → Rat) (hf : ∀ k, Bq B (f k)) : ∀ i, Bq (D * B) (Sf (hs.2.take i) f) := by
  have main : ∀ st : Sts, Psv st → AllB D st → Sf st one1 ≤ 1 → 0 ≤ Sf st f ∧ Sf st f ≤ Sf st one1 ∧ ∃ n : Nat, Sf st f * ((D * B : Nat) : Rat) = (n : Rat) := by
    intro st
    induction st with
    | nil => intro _ _ _; rw [Sf_nil, Sf_nil]; exact ⟨by grind, by grind, 0, by grind⟩
    | cons x r ih =>
      intro p b l
      rw [Sf_cons] at l ⊢
      rw [Sf_cons]
      have pr : Psv r := fun z hz => p z (List.mem_cons_of_mem _ hz)
      have px := p x (List.mem_cons_self ..)
      have l : x.2 * 1 + Sf r one1 ≤ 1 := l
      obtain ⟨i1, i2, n, i3⟩ := ih pr (fun z hz => b z (List.mem_cons_of_mem _ hz)) (by grind)
      obtain ⟨q1, q2, m, q3⟩ := (b x (List.mem_cons_self ..)).mul (hf x.1)
      have := mul_nn (Rat.le_of_lt px) (show 0 ≤ 1 - f x.1 by have := (hf x.1).2.1; grind)
      refine ⟨by grind, by show x.2 * f x.1 + Sf r f ≤ x.2 * 1 + Sf r one1; grind, m + n, ?_⟩
      rw [Rat.add_mul, q3, i3]
      push_cast
      rfl
  intro i
  have pt : Psv (hs.2.take i) := fun x hx => L.H.pos x (List.mem_of_mem_take hx)
  have lt : Sf (hs.2.take i) one1 ≤ 1 := by
    by_cases c : i < hs.2.length
    · have h := Sf_take L.H.pos (i := i) (List.getElem?_eq_getElem c)
      have := L.H.pos _ (List.getElem_mem c)
      rw [L.one] at h
      grind
    · rw [List.take_of_length_le (by omega), L.one]; grind
  obtain ⟨a, b, n, e⟩ := main _ pt (fun x hx => L.b x (List.mem_of_mem_take hx)) lt
  exact ⟨a, by grind, n, e⟩
theorem Vf_bq {B : Nat} {h : Rat} (H : Bq B h) (k : Nat × Nat) : Bq B (Vf h k) := by
  unfold Vf
  split
  · exact Bq.one
  · split
    · exact H
    · exact Bq.zero
end Du

set_option linter.all false
namespace FrM
/-! duels: the reckoning -/
noncomputable def Fr (B : Int) (f : Int × Int) : Prop := 0 ≤ f.1 ∧ f.1 ≤ f.2 ∧ 0 < f.2 ∧ f.2 ∣ B
noncomputable def uns (f : Int × Int) : Bool := decide (0 < f.1 ∧ f.1 < f.2)
noncomputable def lcmD (a b : Int) : Int := a / (Int.gcd a b : Int) * b
noncomputable def duA (c e : Int × Int) : Int := c.1 * (lcmD c.2 e.2 / c.2)
noncomputable def duB (c e : Int × Int) : Int := e.1 * (lcmD c.2 e.2 / e.2)
noncomputable def duL (c e : Int × Int) : Bool := decide (duA c e + duB c e < lcmD c.2 e.2)
noncomputable def duR (c e : Int × Int) : Int × Int := if duL c e = true then lowP (duA c e + duB c e) (lcmD c.2 e.2) else lowP (duA c e + duB c e - lcmD c.2 e.2) (lcmD c.2 e.2)
noncomputable def duE (c e : Int × Int) : Int × Int := if duL c e = true then (0, 1) else (1, 1)
/-! the states -/
noncomputable abbrev Tl := List (Int × (Int × Int))
noncomputable def whl (f : Int × Int) : Bool := decide (f = (1, 1))
noncomputable def sett (tl : Tl) (tk : List Int) : Tl × List Int := (tl.filter (fun x => uns x.2), tk ++ (tl.filter fun x => whl x.2).map (·.1))
noncomputable def par (b : Bool) (c e : Int × Int) : (Int × Int) × (Int × Int) := if b = duL c e then (duR c e, duE c e) else (duE c e, duR c e)
noncomputable def nx (b : Bool) : Tl → List Int → Tl × List Int
  | (p, c) :: (o, e) :: r, tk => sett ((p, (par b c e).1) :: (o, (par b c e).2) :: r) tk
  | [(p, _)], tk => ([], if b = true then tk ++ [p] else tk)
  | [], tk => ([], tk)
end FrM

set_option Elab.async false
set_option linter.all false
set_option maxRecDepth 100000
set_option maxHeartbeats 4000000
namespace My
open PySem L2 FrM Du
noncomputable def top (i : Nat) : Stmt := PySem.Challenge.pw_fewspeak_k33_whole_matrix_of_duels.main.body.getD i (.Pass ⟨0, 0, 0, 0⟩)
noncomputable abbrev s_greatest_divisor : Stmt := top 1
noncomputable abbrev s_share : Stmt := top 2
noncomputable abbrev s_plus : Stmt := top 3
noncomputable abbrev s_minus : Stmt := top 4
noncomputable abbrev s_times : Stmt := top 5
noncomputable abbrev s_over : Stmt := top 6
noncomputable abbrev s_below : Stmt := top 7
noncomputable abbrev s_matrix_by : Stmt := top 11
noncomputable abbrev s_matrix_row : Stmt := top 12
noncomputable abbrev s_is_unsure : Stmt := top 13
noncomputable abbrev s_duel_matrix : Stmt := top 16
noncomputable abbrev s_pair_chance : Stmt := top 17
noncomputable abbrev s_kept_together : Stmt := top 18
noncomputable abbrev s_both_kept : Stmt := top 19
noncomputable abbrev s_held_behind : Stmt := top 20
noncomputable abbrev s_behind_duel : Stmt := top 21
noncomputable abbrev s_L_cell : Stmt := top 23
noncomputable abbrev s_L_mix : Stmt := top 24
noncomputable abbrev s_L_row : Stmt := top 25
noncomputable abbrev s_L_whole : Stmt := top 26
noncomputable abbrev s_L_low : Stmt := top 27
noncomputable abbrev s_L_plus : Stmt := top 28
noncomputable abbrev s_L_times : Stmt := top 29
noncomputable abbrev s_L_fraction : Stmt := top 30
noncomputable abbrev s_L_matrix : Stmt := top 31
noncomputable abbrev s_L_shares : Stmt := top 32
noncomputable abbrev s_L_order : Stmt := top 33
noncomputable abbrev s_L_put : Stmt := top 34
noncomputable abbrev s_L_ratio : Stmt := top 35
noncomputable abbrev s_L_less : Stmt := top 36
noncomputable abbrev s_L_come : Stmt := top 37
noncomputable abbrev s_L_due : Stmt := top 38
noncomputable abbrev s_law : Stmt := top 39
theorem sc_greatest_divisor : FnScope ["one", "other"] ["one", "other"] (defScope s_greatest_divisor) := ⟨rfl, rfl, rfl, by decide +kernel, rfl, by decide +kernel, by decide +kernel⟩
theorem sc_share : FnScope ["top", "bottom", "divisor"] ["top", "bottom"] (defScope s_share) := ⟨rfl, rfl, rfl, by decide +kernel, rfl, by decide +kernel, by decide +kernel⟩
theorem sc_plus : FnScope ["one", "other"] ["one", "other"] (defScope s_plus) := ⟨rfl, rfl, rfl, by decide +kernel, rfl, by decide +kernel, by decide +kernel⟩
theorem sc_minus : FnScope ["one", "other"] ["one", "other"] (defScope s_minus) := ⟨rfl, rfl, rfl, by decide +kernel, rfl, by decide +kernel, by decide +kernel⟩
theorem sc_times : FnScope ["one", "other"] ["one", "other"] (defScope s_times) := ⟨rfl, rfl, rfl, by decide +kernel, rfl, by decide +kernel, by decide +kernel⟩
theorem sc_over : FnScope ["one", "other"] ["one", "other"] (defScope s_over) := ⟨rfl, rfl, rfl, by decide +kernel, rfl, by decide +kernel, by decide +kernel⟩
theorem sc_below : FnScope ["one", "other"] ["one", "other"] (defScope s_below) := ⟨rfl, rfl, rfl, by decide +kernel, rfl, by decide +kernel, by decide +kernel⟩
theorem sc_matrix_by : FnScope ["many", "tell"] ["many", "tell"] (defScope s_matrix_by) := ⟨rfl, rfl, rfl, by decide +kernel, rfl, by decide +kernel, by decide +kernel⟩
theorem sc_matrix_row : FnScope ["one", "many", "tell"] ["one", "many", "tell"] (defScope s_matrix_row) := ⟨rfl, rfl, rfl, by decide +kernel, rfl, by decide +kernel, by decide +kernel⟩
theorem sc_is_unsure : FnScope ["chance"] ["chance"] (defScope s_is_unsure) := ⟨rfl, rfl, rfl, by decide +kernel, rfl, by decide +kernel, by decide +kernel⟩
noncomputable abbrev le_duel_matrix_1 : Expr := (argE (retE (stAt s_duel_matrix 2)) 1)
noncomputable def ld_duel_matrix_1 : LamD := lamOf ((("duel_matrix" : Str) ++ ".<locals>.") ++ "<lambda>") le_duel_matrix_1
theorem sc_duel_matrix : FnScope ["shares", "order", "told", "found"] ["shares", "order"] (defScope s_duel_matrix) := ⟨rfl, rfl, rfl, by decide +kernel, rfl, by decide +kernel, by decide +kernel⟩
theorem sc_pair_chance : FnScope ["told", "found", "one", "other"] ["told", "found", "one", "other"] (defScope s_pair_chance) := ⟨rfl, rfl, rfl, by decide +kernel, rfl, by decide +kernel, by decide +kernel⟩
theorem sc_kept_together : FnScope ["told", "found", "earlier", "held", "place", "chance", "one", "up", "sure"] ["told"] (defScope s_kept_together) := ⟨rfl, rfl, rfl, by decide +kernel, rfl, by decide +kernel, by decide +kernel⟩
theorem sc_both_kept : FnScope ["up", "sure", "held", "chance", "spare", "when_sure"] ["up", "sure", "held", "chance"] (defScope s_both_kept) := ⟨rfl, rfl, rfl, by decide +kernel, rfl, by decide +kernel, by decide +kernel⟩
theorem sc_held_behind : FnScope ["held", "chance", "reached"] ["held", "chance"] (defScope s_held_behind) := ⟨rfl, rfl, rfl, by decide +kernel, rfl, by decide +kernel, by decide +kernel⟩
theorem sc_behind_duel : FnScope ["earlier", "held", "place", "chance", "reached", "stays", "lasting", "lacking", "ahead", "back"] ["earlier", "held", "place", "chance"] (defScope s_behind_duel) := ⟨rfl, rfl, rfl, by decide +kernel, rfl, by decide +kernel, by decide +kernel⟩
theorem sc_L_cell : FnScope ["_law_script", "_law_k"] ["_law_script", "_law_k"] (defScope s_L_cell) := ⟨rfl, rfl, rfl, by decide +kernel, rfl, by decide +kernel, by decide +kernel⟩
theorem sc_L_mix : FnScope ["_law_cell_here", "_law_k", "_law_number"] ["_law_cell_here", "_law_k"] (defScope s_L_mix) := ⟨rfl, rfl, rfl, by decide +kernel, rfl, by decide +kernel, by decide +kernel⟩
theorem sc_L_row : FnScope ["_law_cell_here", "_law_bit", "_law_many", "_law_most", "_law_row_here", "_law_k"] ["_law_cell_here", "_law_bit", "_law_many", "_law_most"] (defScope s_L_row) := ⟨rfl, rfl, rfl, by decide +kernel, rfl, by decide +kernel, by decide +kernel⟩
theorem sc_L_whole : FnScope ["_law_found"] ["_law_found"] (defScope s_L_whole) := ⟨rfl, rfl, rfl, by decide +kernel, rfl, by decide +kernel, by decide +kernel⟩
theorem sc_L_low : FnScope ["_law_top", "_law_bottom", "_law_one", "_law_other"] ["_law_top", "_law_bottom"] (defScope s_L_low) := ⟨rfl, rfl, rfl, by decide +kernel, rfl, by decide +kernel, by decide +kernel⟩
theorem sc_L_plus : FnScope ["_law_one", "_law_other"] ["_law_one", "_law_other"] (defScope s_L_plus) := ⟨rfl, rfl, rfl, by decide +kernel, rfl, by decide +kernel, by decide +kernel⟩
theorem sc_L_times : FnScope ["_law_one", "_law_other"] ["_law_one", "_law_other"] (defScope s_L_times) := ⟨rfl, rfl, rfl, by decide +kernel, rfl, by decide +kernel, by decide +kernel⟩
theorem sc_L_fraction : FnScope ["_law_found", "_law_due_here"] ["_law_found", "_law_due_here"] (defScope s_L_fraction) := ⟨rfl, rfl, rfl, by decide +kernel, rfl, by decide +kernel, by decide +kernel⟩
theorem sc_L_matrix : FnScope ["_law_found", "_law_due_here", "_law_row_here", "_law_others", "_law_one", "_law_other"] ["_law_found", "_law_due_here"] (defScope s_L_matrix) := ⟨rfl, rfl, rfl, by decide +kernel, rfl, by decide +kernel, by decide +kernel⟩
theorem sc_L_shares : FnScope ["_law_script", "_law_start", "_law_most", "_law_many", "_law_bit", "_law_bottom", "_law_tops"] ["_law_script", "_law_start", "_law_most"] (defScope s_L_shares) := ⟨rfl, rfl, rfl, by decide +kernel, rfl, by decide +kernel, by decide +kernel⟩
theorem sc_L_order : FnScope ["_law_cell_here", "_law_bit", "_law_many", "_law_left", "_law_order_here", "_law_pick"] ["_law_cell_here", "_law_bit", "_law_many"] (defScope s_L_order) := ⟨rfl, rfl, rfl, by decide +kernel, rfl, by decide +kernel, by decide +kernel⟩
theorem sc_L_put : FnScope ["_law_states", "_law_key", "_law_much"] ["_law_states", "_law_key", "_law_much"] (defScope s_L_put) := ⟨rfl, rfl, rfl, by decide +kernel, rfl, by decide +kernel, by decide +kernel⟩
theorem sc_L_ratio : FnScope ["_law_one", "_law_other"] ["_law_one", "_law_other"] (defScope s_L_ratio) := ⟨rfl, rfl, rfl, by decide +kernel, rfl, by decide +kernel, by decide +kernel⟩
theorem sc_L_less : FnScope ["_law_one", "_law_other"] ["_law_one", "_law_other"] (defScope s_L_less) := ⟨rfl, rfl, rfl, by decide +kernel, rfl, by decide +kernel, by decide +kernel⟩
theorem sc_L_come : FnScope ["_law_states", "_law_have", "_law_much", "_law_mark", "_law_found", "_law_total", "_law_up", "_law_inside", "_law_part", "_law_odds", "_law_first", "_law_second"] ["_law_states", "_law_have", "_law_much", "_law_mark"] (defScope s_L_come) := ⟨rfl, rfl, rfl, by decide +kernel, rfl, by decide +kernel, by decide +kernel⟩
theorem sc_L_due : FnScope ["_law_shares_here", "_law_order_here", "_law_marks", "_law_states", "_law_have", "_law_at", "_law_much", "_law_mark", "_law_total", "_law_up", "_law_inside", "_law_part"] ["_law_shares_here", "_law_order_here", "_law_marks"] (defScope s_L_due) := ⟨rfl, rfl, rfl, by decide +kernel, rfl, by decide +kernel, by decide +kernel⟩
theorem sc_law : FnScope ["_law_script", "_law_shares_here", "_law_many", "_law_order_here", "_law_handed", "_law_found", "_law_one", "_law_other", "_law_due_here", "_law_told", "_law_row_here", "_law_others"] ["_law_script"] (defScope s_law) := ⟨rfl, rfl, rfl, by decide +kernel, rfl, by decide +kernel, by decide +kernel⟩
set_option genInjectivity false in
set_option genSizeOf false in
structure Ad where
  f_greatest_divisor : Addr
  d_greatest_divisor : FuncData
  f_share : Addr
  d_share : FuncData
  f_plus : Addr
  d_plus : FuncData
  f_minus : Addr
  d_minus : FuncData
  f_times : Addr
  d_times : FuncData
  f_over : Addr
  d_over : FuncData
  f_below : Addr
  d_below : FuncData
  f_matrix_by : Addr
  d_matrix_by : FuncData
  f_matrix_row : Addr
  d_matrix_row : FuncData
  f_is_unsure : Addr
  d_is_unsure : FuncData
  f_duel_matrix : Addr
  d_duel_matrix : FuncData
  f_pair_chance : Addr
  d_pair_chance : FuncData
  f_kept_together : Addr
  d_kept_together : FuncData
  f_both_kept : Addr
  d_both_kept : FuncData
  f_held_behind : Addr
  d_held_behind : FuncData
  f_behind_duel : Addr
  d_behind_duel : FuncData
  f_L_cell : Addr
  d_L_cell : FuncData
  f_L_mix : Addr
  d_L_mix : FuncData
  f_L_row : Addr
  d_L_row : FuncData
  f_L_whole : Addr
  d_L_whole : FuncData
  f_L_low : Addr
  d_L_low : FuncData
  f_L_plus : Addr
  d_L_plus : FuncData
  f_L_times : Addr
  d_L_times : FuncData
  f_L_fraction : Addr
  d_L_fraction : FuncData
  f_L_matrix : Addr
  d_L_matrix : FuncData
  f_L_shares : Addr
  d_L_shares : FuncData
  f_L_order : Addr
  d_L_order : FuncData
  f_L_put : Addr
  d_L_put : FuncData
  f_L_ratio : Addr
  d_L_ratio : FuncData
  f_L_less : Addr
  d_L_less : FuncData
  f_L_come : Addr
  d_L_come : FuncData
  f_L_due : Addr
  d_L_due : FuncData
  f_law : Addr
  d_law : FuncData
  k_NOUGHT : Addr
  k_WHOLE : Addr
  k_TWICE : Addr
  lc_duel_matrix : Addr
  lp_duel_matrix : Addr
noncomputable abbrev ll_duel_matrix : List (Pos × Str) := [(lamP le_duel_matrix_1, ((("duel_matrix" : Str) ++ ".<locals>.") ++ "<lambda>"))]
theorem tp_duel_matrix : (ll_duel_matrix).Pairwise fun x y => ¬ (x.1.line = y.1.line ∧ x.1.col = y.1.col) := by decide +kernel
noncomputable def tabs (a : Ad) : Tabs := [(a.lp_duel_matrix, ll_duel_matrix)]
theorem tb_duel_matrix (a : Ad) : (a.lp_duel_matrix, ll_duel_matrix) ∈ tabs a := (.head _)
structure Txt (K : PySem.W.Frag) (mg : Str → Option Value) (a : Ad) : Prop where
  lcd_duel_matrix : a.d_duel_matrix.code = .ref a.lc_duel_matrix
  lch_duel_matrix : PySem.W.codeHdIn K a.lc_duel_matrix a.lp_duel_matrix = true
  tnd : ((tabs a).map (·.1)).Nodup
  F_greatest_divisor : Fun K "greatest_divisor" "greatest_divisor" s_greatest_divisor a.f_greatest_divisor a.d_greatest_divisor
  B_greatest_divisor : Binds K a.d_greatest_divisor ["one", "other"] []
  m_greatest_divisor : mg "greatest_divisor" = some (.ref a.f_greatest_divisor)
  F_share : Fun K "share" "share" s_share a.f_share a.d_share
  B_share : Binds K a.d_share ["top", "bottom"] []
  m_share : mg "share" = some (.ref a.f_share)
  F_plus : Fun K "plus" "plus" s_plus a.f_plus a.d_plus
  B_plus : Binds K a.d_plus ["one", "other"] []
  m_plus : mg "plus" = some (.ref a.f_plus)
  F_minus : Fun K "minus" "minus" s_minus a.f_minus a.d_minus
  B_minus : Binds K a.d_minus ["one", "other"] []
  m_minus : mg "minus" = some (.ref a.f_minus)
  F_times : Fun K "times" "times" s_times a.f_times a.d_times
  B_times : Binds K a.d_times ["one", "other"] []
  m_times : mg "times" = some (.ref a.f_times)
  F_over : Fun K "over" "over" s_over a.f_over a.d_over
  B_over : Binds K a.d_over ["one", "other"] []
  m_over : mg "over" = some (.ref a.f_over)
  F_below : Fun K "below" "below" s_below a.f_below a.d_below
  B_below : Binds K a.d_below ["one", "other"] []
  m_below : mg "below" = some (.ref a.f_below)
  F_matrix_by : Fun K "matrix_by" "matrix_by" s_matrix_by a.f_matrix_by a.d_matrix_by
  B_matrix_by : Binds K a.d_matrix_by ["many", "tell"] []
  m_matrix_by : mg "matrix_by" = some (.ref a.f_matrix_by)
  F_matrix_row : Fun K "matrix_row" "matrix_row" s_matrix_row a.f_matrix_row a.d_matrix_row
  B_matrix_row : Binds K a.d_matrix_row ["one", "many", "tell"] []
  m_matrix_row : mg "matrix_row" = some (.ref a.f_matrix_row)
  F_is_unsure : Fun K "is_unsure" "is_unsure" s_is_unsure a.f_is_unsure a.d_is_unsure
  B_is_unsure : Binds K a.d_is_unsure ["chance"] []
  m_is_unsure : mg "is_unsure" = some (.ref a.f_is_unsure)
  F_duel_matrix : Fun K "duel_matrix" "duel_matrix" s_duel_matrix a.f_duel_matrix a.d_duel_matrix
  B_duel_matrix : Binds K a.d_duel_matrix ["shares", "order"] []
  m_duel_matrix : mg "duel_matrix" = some (.ref a.f_duel_matrix)
  F_pair_chance : Fun K "pair_chance" "pair_chance" s_pair_chance a.f_pair_chance a.d_pair_chance
  B_pair_chance : Binds K a.d_pair_chance ["told", "found", "one", "other"] []
  m_pair_chance : mg "pair_chance" = some (.ref a.f_pair_chance)
  F_kept_together : Fun K "kept_together" "kept_together" s_kept_together a.f_kept_together a.d_kept_together
  B_kept_together : Binds K a.d_kept_together ["told"] []
  m_kept_together : mg "kept_together" = some (.ref a.f_kept_together)
  F_both_kept : Fun K "both_kept" "both_kept" s_both_kept a.f_both_kept a.d_both_kept
  B_both_kept : Binds K a.d_both_kept ["up", "sure", "held", "chance"] []
  m_both_kept : mg "both_kept" = some (.ref a.f_both_kept)
  F_held_behind : Fun K "held_behind" "held_behind" s_held_behind a.f_held_behind a.d_held_behind
  B_held_behind : Binds K a.d_held_behind ["held", "chance"] []
  m_held_behind : mg "held_behind" = some (.ref a.f_held_behind)
  F_behind_duel : Fun K "behind_duel" "behind_duel" s_behind_duel a.f_behind_duel a.d_behind_duel
  B_behind_duel : Binds K a.d_behind_duel ["earlier", "held", "place", "chance"] []
  m_behind_duel : mg "behind_duel" = some (.ref a.f_behind_duel)
  F_L_cell : Fun K "_law_cell" "_law_cell" s_L_cell a.f_L_cell a.d_L_cell
  B_L_cell : Binds K a.d_L_cell ["_law_script", "_law_k"] []
  m_L_cell : mg "_law_cell" = some (.ref a.f_L_cell)
  F_L_mix : Fun K "_law_mix" "_law_mix" s_L_mix a.f_L_mix a.d_L_mix
  B_L_mix : Binds K a.d_L_mix ["_law_cell_here", "_law_k"] []
  m_L_mix : mg "_law_mix" = some (.ref a.f_L_mix)
  F_L_row : Fun K "_law_row" "_law_row" s_L_row a.f_L_row a.d_L_row
  B_L_row : Binds K a.d_L_row ["_law_cell_here", "_law_bit", "_law_many", "_law_most"] []
  m_L_row : mg "_law_row" = some (.ref a.f_L_row)
  F_L_whole : Fun K "_law_whole" "_law_whole" s_L_whole a.f_L_whole a.d_L_whole
  B_L_whole : Binds K a.d_L_whole ["_law_found"] []
  m_L_whole : mg "_law_whole" = some (.ref a.f_L_whole)
  F_L_low : Fun K "_law_low" "_law_low" s_L_low a.f_L_low a.d_L_low
  B_L_low : Binds K a.d_L_low ["_law_top", "_law_bottom"] []
  m_L_low : mg "_law_low" = some (.ref a.f_L_low)
  F_L_plus : Fun K "_law_plus" "_law_plus" s_L_plus a.f_L_plus a.d_L_plus
  B_L_plus : Binds K a.d_L_plus ["_law_one", "_law_other"] []
  m_L_plus : mg "_law_plus" = some (.ref a.f_L_plus)
  F_L_times : Fun K "_law_times" "_law_times" s_L_times a.f_L_times a.d_L_times
  B_L_times : Binds K a.d_L_times ["_law_one", "_law_other"] []
  m_L_times : mg "_law_times" = some (.ref a.f_L_times)
  F_L_fraction : Fun K "_law_fraction" "_law_fraction" s_L_fraction a.f_L_fraction a.d_L_fraction
  B_L_fraction : Binds K a.d_L_fraction ["_law_found", "_law_due_here"] []
  m_L_fraction : mg "_law_fraction" = some (.ref a.f_L_fraction)
  F_L_matrix : Fun K "_law_matrix" "_law_matrix" s_L_matrix a.f_L_matrix a.d_L_matrix
  B_L_matrix : Binds K a.d_L_matrix ["_law_found", "_law_due_here"] []
  m_L_matrix : mg "_law_matrix" = some (.ref a.f_L_matrix)
  F_L_shares : Fun K "_law_shares" "_law_shares" s_L_shares a.f_L_shares a.d_L_shares
  B_L_shares : Binds K a.d_L_shares ["_law_script", "_law_start", "_law_most"] []
  m_L_shares : mg "_law_shares" = some (.ref a.f_L_shares)
  F_L_order : Fun K "_law_order" "_law_order" s_L_order a.f_L_order a.d_L_order
  B_L_order : Binds K a.d_L_order ["_law_cell_here", "_law_bit", "_law_many"] []
  m_L_order : mg "_law_order" = some (.ref a.f_L_order)
  F_L_put : Fun K "_law_put" "_law_put" s_L_put a.f_L_put a.d_L_put
  B_L_put : Binds K a.d_L_put ["_law_states", "_law_key", "_law_much"] []
  m_L_put : mg "_law_put" = some (.ref a.f_L_put)
  F_L_ratio : Fun K "_law_ratio" "_law_ratio" s_L_ratio a.f_L_ratio a.d_L_ratio
  B_L_ratio : Binds K a.d_L_ratio ["_law_one", "_law_other"] []
  m_L_ratio : mg "_law_ratio" = some (.ref a.f_L_ratio)
  F_L_less : Fun K "_law_less" "_law_less" s_L_less a.f_L_less a.d_L_less
  B_L_less : Binds K a.d_L_less ["_law_one", "_law_other"] []
  m_L_less : mg "_law_less" = some (.ref a.f_L_less)
  F_L_come : Fun K "_law_come" "_law_come" s_L_come a.f_L_come a.d_L_come
  B_L_come : Binds K a.d_L_come ["_law_states", "_law_have", "_law_much", "_law_mark"] []
  m_L_come : mg "_law_come" = some (.ref a.f_L_come)
  F_L_due : Fun K "_law_due" "_law_due" s_L_due a.f_L_due a.d_L_due
  B_L_due : Binds K a.d_L_due ["_law_shares_here", "_law_order_here", "_law_marks"] []
  m_L_due : mg "_law_due" = some (.ref a.f_L_due)
  F_law : Fun K "law" "law" s_law a.f_law a.d_law
  B_law : Binds K a.d_law ["_law_script"] []
  m_law : mg "law" = some (.ref a.f_law)
  g_NOUGHT : ∃ u, mg "NOUGHT" = some u ∧ RelV (.ref a.k_NOUGHT) u
  t_NOUGHT : tupIn K a.k_NOUGHT [(.int 0), (.int 1)] = true
  g_WHOLE : ∃ u, mg "WHOLE" = some u ∧ RelV (.ref a.k_WHOLE) u
  t_WHOLE : tupIn K a.k_WHOLE [(.int 1), (.int 1)] = true
  g_TWICE : ∃ u, mg "TWICE" = some u ∧ RelV (.ref a.k_TWICE) u
  t_TWICE : tupIn K a.k_TWICE [(.int 2), (.int 1)] = true
  z_abs : mg "abs" = none
  z_bool : mg "bool" = none
  z_dict : mg "dict" = none
  z_int : mg "int" = none
  z_isinstance : mg "isinstance" = none
  z_len : mg "len" = none
  z_list : mg "list" = none
  z_max : mg "max" = none
  z_min : mg "min" = none
  z_range : mg "range" = none
  z_tuple : mg "tuple" = none
  z_zip : mg "zip" = none
  bl : ∀ (s : Shared) (u : Value), BindsTo s a.d_law ⟨[u], []⟩ [("_law_script", u)]
noncomputable def spLaw (K : PySem.W.Frag) (ts : List Addr) : Sp := fun vs H Q _ => ∃ (p : Addr) (ns : List Int), vs = [.ref p] ∧ SqL K H p (ns.map V.int) ∧ ns.length ≤ 63 ∧ (∀ P ∈ ts, H P = some (.tbl #[])) ∧ ∀ H', Q (.bl true) H'
theorem law_start {K : PySem.W.Frag} {ts : List Addr} {H : Hp} {a : Addr} {ns : List Int} (hl : ns.length ≤ 63) (hT : ∀ P ∈ ts, H P = some (.tbl #[])) (hS : SqL K H a (ns.map V.int)) : spLaw K ts [.ref a] H (fun v _ => v = .bl true) fun _ _ _ => False := ⟨a, ns, rfl, hS, hl, hT, fun _ => rfl⟩
noncomputable def cellC (ns : List Int) (k : Int) : Int := if k < (ns.length : Int) then ns.getD k.toNat 0 else 7919 * k + 13
noncomputable def spCell (K : PySem.W.Frag) : Sp := fun vs H Q _ => ∃ (p : Addr) (ns : List Int) (k : Int), vs = [.ref p, .int k] ∧ SqL K H p (ns.map V.int) ∧ ns.length ≤ 63 ∧ 0 ≤ k ∧ k ≤ 1000 ∧ Q (.int (cellC ns k)) H
noncomputable def spMix : Sp := fun vs H Q _ => ∃ (c k : Int), vs = [.int c, .int k] ∧ 0 ≤ k ∧ k ≤ 1000 ∧ ∀ r : Int, 0 ≤ r → Q (.int r) H
noncomputable def spRow : Sp := fun vs H Q _ => ∃ (c b n m : Int), vs = [.int c, .int b, .int n, .int m] ∧ 0 ≤ n ∧ n ≤ 25 ∧ 1 ≤ m ∧ m ≤ 1000000000000 ∧ ∀ H' p (ns : List Int), Same H H' → H p = none → H' p = some (.lst (ns.map V.int)) → (ns.length : Int) = n → (∀ x ∈ ns, 0 ≤ x ∧ x < m) → Q (.ref p) H'
noncomputable def spGcd : Sp := fun vs H Q _ => ∃ (x y : Int), vs = [.int x, .int y] ∧ 0 ≤ x ∧ 0 ≤ y ∧ Q (.int (Int.gcd x y)) H
noncomputable def Tell (H : Hp) (Q : VK) (T B : Int) : Prop := ∀ H' p, Same H H' → H' p = some (.tup [.int (lowP T B).1, .int (lowP T B).2]) → Q (.ref p) H'
noncomputable def spLow : Sp := fun vs H Q _ => ∃ (T B : Int), vs = [.int T, .int B] ∧ 0 < B ∧ Bt 3000 T ∧ Bt 3000 B ∧ Tell H Q T B
noncomputable def spNo : Sp := fun _ _ _ _ => False
noncomputable def PT (K : PySem.W.Frag) (H : Hp) (p : Addr) (f : Int × Int) : Prop := H p = some (.tup [.int f.1, .int f.2]) ∨ tupIn K p [.int f.1, .int f.2] = true
theorem PT.sq {K : PySem.W.Frag} {H : Hp} {p : Addr} {f : Int × Int} (h : PT K H p f) : SqT K H p [.int f.1, .int f.2] := h.elim SqT.of tup_in
noncomputable def IsF (K : PySem.W.Frag) (H : Hp) (f : Int × Int) (x : V) : Prop := ∃ p, x = .ref p ∧ PT K H p f
theorem IsF.tk {K : PySem.W.Frag} {H H' : Hp} {f : Int × Int} {x : V} (k : TK H H') (h : IsF K H f x) : IsF K H' f x := let ⟨p, e, q⟩ := h; ⟨p, e, q.imp (fun z => k _ _ z) id⟩
noncomputable abbrev AllF (K : PySem.W.Frag) (H : Hp) : List (Int × Int) → List V → Prop := PySem.Paired (IsF K H)
theorem IsF.same {K : PySem.W.Frag} {H H' : Hp} {f : Int × Int} {x : V} (s : Same H H') (h : IsF K H f x) : IsF K H' f x := h.tk s.tk
theorem AllF.same {K : PySem.W.Frag} {H H' : Hp} (s : Same H H') : ∀ {fs : List (Int × Int)} {xs : List V}, AllF K H fs xs → AllF K H' fs xs
  | _, _, .nil => .nil
  | _, _, .cons r t => .cons (r.same s) (AllF.same s t)
theorem AllF.tk {K : PySem.W.Frag} {H H' : Hp} (k : TK H H') : ∀ {fs : List (Int × Int)} {xs : List V}, AllF K H fs xs → AllF K H' fs xs
  | _, _, .nil => .nil
  | _, _, .cons r t => .cons (r.tk k) (AllF.tk k t)
theorem AllF.get {K : PySem.W.Frag} {H : Hp} : ∀ {fs : List (Int × Int)} {xs : List V} {i : Nat} {x : V}, AllF K H fs xs → xs[i]? = some x → ∃ f, fs[i]? = some f ∧ IsF K H f x
  | _, _, _, _, .nil, h => by cases h
  | _, _, 0, _, .cons r _, h => ⟨_, rfl, by cases h; exact r⟩
  | _, _, i + 1, _, .cons _ t, h => AllF.get (i := i) t h
theorem AllF.snoc {K : PySem.W.Frag} {H : Hp} {f : Int × Int} {x : V} (r : IsF K H f x) : ∀ {fs : List (Int × Int)} {xs : List V}, AllF K H fs xs → AllF K H (fs ++ [f]) (xs ++ [x])
  | _, _, .nil => .cons r .nil
  | _, _, .cons q t => .cons q (AllF.snoc r t)
theorem AllF.len {K : PySem.W.Frag} {H : Hp} {fs : List (Int × Int)} {xs : List V} (h : AllF K H fs xs) : fs.length = xs.length := Paired.length h
theorem abs_gcd (T B : Int) : Int.gcd (if T < 0 then -T else T) B = Int.gcd T B := by
  split
  · exact Int.neg_gcd
  · rfl
theorem px0 {K : PySem.W.Frag} {H : Hp} {p : Addr} {x y : V} {Q : VK} (h : SqT K H p [x, y]) (q : Q x H) : rIx K (.ref p) (.int 0) H Q := .inr (.inl ⟨p, _, _, x, rfl, rfl, h, atI_nat (j := 0) rfl, q⟩)
theorem px1 {K : PySem.W.Frag} {H : Hp} {p : Addr} {x y : V} {Q : VK} (h : SqT K H p [x, y]) (q : Q y H) : rIx K (.ref p) (.int 1) H Q := .inr (.inl ⟨p, _, _, y, rfl, rfl, h, atI_nat (j := 1) rfl, q⟩)
theorem two_le (x y : V) : [x, y].length ≤ sizeLine := by show 2 ≤ sizeLine; decide
noncomputable def spUns (K : PySem.W.Frag) : Sp := fun vs H Q _ => ∃ (x : V) (f : Int × Int), vs = [x] ∧ IsF K H f x ∧ Q (.bl (uns f)) H
noncomputable def spWhole : Sp := fun vs H Q _ => ∃ (x : Int), vs = [.int x] ∧ Q (.bl true) H
noncomputable def spFraction (K : PySem.W.Frag) : Sp := fun vs H Q _ => ∃ (p q : Addr) (t b : Int), vs = [.ref p, .ref q] ∧ SqT K H p [.int t, .int b] ∧ SqT K H q [.int t, .int b] ∧ Q (.bl true) H
noncomputable abbrev IsQ (K : PySem.W.Frag) (H : Hp) (q : Rat) (x : V) : Prop := IsF K H (fr q) x
/-- a function of two fractions that tells a fraction -/
noncomputable def spAri (op : Rat → Rat → Rat) (c : Rat → Prop) (K : PySem.W.Frag) : Sp := fun vs H Q _ => ∃ (x y : V) (p q : Rat), vs = [x, y] ∧ IsQ K H p x ∧ IsQ K H q y ∧ Bb p ∧ Bb q ∧ c q ∧ ∀ H' z, Same H H' → IsQ K H' (op p q) z → Q z H'
noncomputable def spBel (K : PySem.W.Frag) : Sp := fun vs H Q _ => ∃ (x y : V) (p q : Rat), vs = [x, y] ∧ IsQ K H p x ∧ IsQ K H q y ∧ Bb p ∧ Bb q ∧ Q (.bl (decide (p < q))) H
theorem uns_fr (q : Rat) : uns (fr q) = unsQ q := by
  unfold uns unsQ fr
  refine decide_eq_decide.mpr ?_
  rw [← num_pos]
  have : q < 1 ↔ q.num < (q.den : Int) := by rw [Rat.lt_iff]; simp
  rw [this]
section
variable {P : Program} {w : World} {K : PySem.W.Frag} {mg : Str → Option Value} {base : Heap} {a : Ad}
theorem ok_no {k : Nat} {f : Addr} {fd : FuncData} {ps : List Str} : FnOk P w K mg base CX0 k f fd ps spNo := ⟨fun _ _ _ _ h => h.elim, fun _ _ _ _ _ _ _ _ _ _ _ _ _ h => h.elim⟩
theorem ok_cell (T : Txt K mg a) : FnOk P w K mg base CX0 1 a.f_L_cell a.d_L_cell ["_law_script", "_law_k"] (spCell K) := by
  refine T.F_L_cell.ok sc_L_cell (fun vs H Q E h => ?_) (fun cdv A outer s H vs Q E hr h => ?_)
  · obtain ⟨p, ns, k, rfl, _⟩ := h; rfl
  · obtain ⟨p, ns, k, rfl, hS, hl, h0, h1, q⟩ := h
    refine ⟨_, (pss_cons (ps_if (t_cmp o_lt (vr 1) (pe_callB call_lenM rfl T.z_len bt_len (pa_cons (vr 0) pa_nil)) (nomark _)) (pss_one (ps_ret (pe_ix ix_seq (vr 0) (vr 1) (fun _ _ => rfl)))) pss_nil) (pss_one (ps_ret (pe_op o_add (pe_op o_mulB pe_int (vr 1)) pe_int)))), ?_⟩
    refine ⟨ns.map V.int, .inl hS, ?_⟩
    rw [List.length_map]
    unfold cellC at q
    refine ite2 (fun c => ?_) (fun c => ?_)
    · have c' : k < (ns.length : Int) := of_decide_eq_true c
      rw [if_pos c'] at q
      refine .inl ⟨p, _, k, .int (ns.getD k.toNat 0), rfl, rfl, hS, ?_, q⟩
      have e : ((k.toNat : Nat) : Int) = k := by omega
      rw [← e]
      refine atI_nat ?_
      have hk : k.toNat < ns.length := by omega
      rw [e]
      simp [List.getElem?_map, List.getD, hk]
    · have c' : ¬ k < (ns.length : Int) := fun z => c (decide_eq_true z)
      rw [if_neg c'] at q
      exact ⟨clB, q⟩
theorem ok_mix (T : Txt K mg a) : FnOk P w K mg base CX0 1 a.f_L_mix a.d_L_mix ["_law_cell_here", "_law_k"] spMix := by
  refine T.F_L_mix.ok sc_L_mix (fun vs H Q E h => ?_) (fun cdv A outer s H vs Q E hr h => ?_)
  · obtain ⟨c, k, rfl, _⟩ := h; rfl
  · obtain ⟨c, k, rfl, h0, h1, q⟩ := h
    refine ⟨_, (pss_cons (ps_set (i := 2) sc_L_mix.nd rfl (Or.inl rfl) (pe_op o_mod (pe_op o_mulB (pe_op o_add (pe_op o_add (pe_op o_mod (vr 0) pe_int) (pe_op o_mulB pe_int (vr 1))) pe_int) pe_int) pe_int)) (pss_cons (ps_set (i := 2) sc_L_mix.nd rfl (Or.inl rfl) (pe_op o_mod (pe_op o_add (pe_op o_mulB (vr 2) (vr 2)) (pe_op o_mulB pe_int (vr 1))) pe_int)) (pss_one (ps_ret (pe_op o_mod (pe_op o_mulB (vr 2) (pe_op o_add (vr 2) pe_int)) pe_int))))), ?_⟩
    exact ⟨cp, clB, crB, cp, clB (by omega) (by omega), clB, cp, clB (by omega) (by omega), cp, q _ (by omega)⟩
theorem ok_gcd (T : Txt K mg a) : FnOk P w K mg base CX0 1 a.f_greatest_divisor a.d_greatest_divisor ["one", "other"] spGcd := by
  refine T.F_greatest_divisor.ok sc_greatest_divisor (fun vs H Q E h => ?_) (fun cdv A outer s H vs Q E hr h => ?_)
  · obtain ⟨x, y, rfl, _⟩ := h; rfl
  · obtain ⟨x0, y0, rfl, h0, h1, q⟩ := h
    refine ⟨_, (pss_cons (ps_while PassesOwn.never (pt_truth (vr 1) (fun _ => rfl)) (pss_one (ps_par rfl sc_greatest_divisor.nd (i := 0) (j := 1) rfl rfl (by decide) rfl rfl (pa_cons (vr 1) (pa_cons (pe_op o_mod (vr 0) (vr 1)) pa_nil)) rfl))) (pss_one (ps_ret (vr 0)))), ?_⟩
    refine ⟨fun m σ H' => H' = H ∧ ∃ x y : Int, 0 ≤ x ∧ 0 ≤ y ∧ m = y.toNat ∧ Int.gcd x y = Int.gcd x0 y0 ∧ σ = [some (.int x), some (.int y)], ⟨_, rfl, x0, y0, h0, h1, rfl, rfl, rfl⟩, ?_⟩
    rintro m σ H' ⟨rfl, x, y, hx, hy, rfl, hg, rfl⟩
    refine ⟨_, rfl, ?_⟩
    refine ifB (fun c => ?_) (fun c => ?_)
    · have c' : y ≠ 0 := by simpa using c
      refine ⟨fun σ' H'' => H'' = H' ∧ σ' = [some (.int y), some (.int (x % y))], ?_, ?_⟩
      · rintro σ' H'' ⟨rfl, rfl⟩
        exact ⟨(x % y).toNat, by have := Int.emod_lt_of_pos x (show 0 < y by omega); have := Int.emod_nonneg x c'; omega, rfl, y, x % y, hy, Int.emod_nonneg x c', rfl, by rw [gcd_step, hg], rfl⟩
      · exact ⟨cp (by omega), _, _, rfl, rfl, rfl⟩
    · have c' : y = 0 := by simpa using c
      subst c'
      rw [Int.gcd_zero_right] at hg
      have : x = (Int.gcd x0 y0 : Int) := by omega
      rw [← this] at q
      exact q
theorem ok_share (T : Txt K mg a) : FnOk P w K mg base CX0 2 a.f_share a.d_share ["top", "bottom"] spLow := by
  have G_share : FnOk P w K mg base CX0 1 a.f_share a.d_share ["top", "bottom"] spNo := ok_no
  have G_greatest_divisor : FnOk P w K mg base CX0 1 _ _ _ spGcd := ok_gcd T
  refine T.F_share.ok sc_share (fun vs H Q E h => ?_) (fun cdv A outer s H vs Q E hr h => ?_)
  · obtain ⟨x, y, rfl, _⟩ := h; rfl
  · obtain ⟨t, b, rfl, hb, b1, b2, q⟩ := h
    refine ⟨_, (pss_cons (ps_if (t_cmp o_lt (vr 1) pe_int (nomark _)) (pss_one (ps_ret (pe_call G_share hr rfl T.m_share T.F_share.kp T.B_share .nil pass0 (pa_cons (pe_un u_neg (vr 0)) (pa_cons (pe_un u_neg (vr 1)) pa_nil))))) pss_nil) (pss_cons (ps_set (i := 2) sc_share.nd rfl (Or.inl rfl) (pe_call G_greatest_divisor hr rfl T.m_greatest_divisor T.F_greatest_divisor.kp T.B_greatest_divisor .nil pass0 (pa_cons (pe_callB call_abs rfl T.z_abs bt_abs (pa_cons (vr 0) pa_nil)) (pa_cons (vr 1) pa_nil)))) (pss_one (ps_ret (pe_tup (pa_cons (pe_op o_fdivB (vr 0) (vr 2)) (pa_cons (pe_op o_fdivB (vr 1) (vr 2)) pa_nil))))))), ?_⟩
    obtain ⟨l1, l2, l3, l4, l5⟩ := low t b hb
    refine ifC (fun c => absurd c (by omega)) (fun _ => ?_)
    refine ⟨t, rfl, ⟨_, _, rfl, by split <;> omega, by omega, ?_⟩⟩
    rw [abs_gcd]
    have hd : Bt 3000 (Int.gcd t b : Int) := b2.le (by omega)
    refine ⟨cdB l1 hd, cdB l1 hd, two_le _ _, fun p hp => ?_⟩
    exact q _ p (Same.new hp) upd_same
theorem ok_low (T : Txt K mg a) : FnOk P w K mg base CX0 1 a.f_L_low a.d_L_low ["_law_top", "_law_bottom"] spLow := by
  refine T.F_L_low.ok sc_L_low (fun vs H Q E h => ?_) (fun cdv A outer s H vs Q E hr h => ?_)
  · obtain ⟨x, y, rfl, _⟩ := h; rfl
  · obtain ⟨t, b, rfl, hb, b1, b2, q⟩ := h
    refine ⟨_, (pss_cons (ps_set (i := 2) sc_L_low.nd rfl (Or.inl rfl) (pe_callB call_abs rfl T.z_abs bt_abs (pa_cons (vr 0) pa_nil))) (pss_cons (ps_set (i := 3) sc_L_low.nd rfl (Or.inl rfl) (vr 1)) (pss_cons (ps_while PassesOwn.never (t_cmp o_gt (vr 3) pe_int (nomark _)) (pss_one (ps_par rfl sc_L_low.nd (i := 2) (j := 3) rfl rfl (by decide) rfl rfl (pa_cons (vr 3) (pa_cons (pe_op o_mod (vr 2) (vr 3)) pa_nil)) rfl))) (pss_one (ps_ret (pe_tup (pa_cons (pe_op o_fdivB (vr 0) (vr 2)) (pa_cons (pe_op o_fdivB (vr 1) (vr 2)) pa_nil)))))))), ?_⟩
    obtain ⟨l1, l2, l3, l4, l5⟩ := low t b hb
    have hd : Bt 3000 (Int.gcd t b : Int) := b2.le (by omega)
    refine ⟨t, rfl, ?_⟩
    refine ⟨fun m σ H' => H' = H ∧ ∃ x y : Int, 0 ≤ x ∧ 0 ≤ y ∧ m = y.toNat ∧ Int.gcd x y = Int.gcd t b ∧ σ = [some (.int t), some (.int b), some (.int x), some (.int y)], ⟨_, rfl, _, b, by split <;> omega, by omega, rfl, abs_gcd t b, rfl⟩, ?_⟩
    rintro m σ H' ⟨rfl, x, y, hx, hy, rfl, hg, rfl⟩
    refine ifC (fun c => ?_) (fun c => ?_)
    · have c' : y ≠ 0 := by have z : 0 < y := c; omega
      refine ⟨fun σ' H'' => H'' = H' ∧ σ' = [some (.int t), some (.int b), some (.int y), some (.int (x % y))], ?_, ?_⟩
      · rintro σ' H'' ⟨rfl, rfl⟩
        exact ⟨(x % y).toNat, by have := Int.emod_lt_of_pos x (show 0 < y by omega); have := Int.emod_nonneg x c'; omega, rfl, y, x % y, hy, Int.emod_nonneg x c', rfl, by rw [gcd_step, hg], rfl⟩
      · exact ⟨cp (by omega), _, _, rfl, rfl, rfl⟩
    · have c' : y = 0 := by have z : ¬ 0 < y := c; omega
      subst c'
      rw [Int.gcd_zero_right] at hg
      have e : x = (Int.gcd t b : Int) := by omega
      subst e
      refine ⟨cdB l1 hd, cdB l1 hd, two_le _ _, fun p hp => ?_⟩
      exact q _ p (Same.new hp) upd_same
theorem ok_row (T : Txt K mg a) : FnOk P w K mg base CX0 2 a.f_L_row a.d_L_row ["_law_cell_here", "_law_bit", "_law_many", "_law_most"] spRow := by
  have G_L_mix : FnOk P w K mg base CX0 1 _ _ _ spMix := ok_mix T
  refine T.F_L_row.ok sc_L_row (fun vs H Q E h => ?_) (fun cdv A outer s H vs Q E hr h => ?_)
  · obtain ⟨c, b, n, m, rfl, _⟩ := h; rfl
  · obtain ⟨c, b, n, m, rfl, n0, n1, m0, m1, q⟩ := h
    refine ⟨_, (pss_cons (ps_set (i := 4) sc_L_row.nd rfl (Or.inl rfl) (pe_lst pa_nil)) (pss_cons (ps_for PassesOwn.never rfl (pi_range1 rfl T.z_range (pa_cons (vr 2) pa_nil)) (pg_name (i := 5) sc_L_row.nd rfl (Or.inl rfl)) (pss_one (ps_if (t_cmp o_eq (pe_op o_mod (vr 1) pe_int) pe_int (nomark _)) (pss_cons (ps_expr (pe_m.append (vr 4) (pa_cons (pe_op o_mod (vr 0) (vr 3)) pa_nil))) (pss_one (ps_set (i := 0) sc_L_row.nd rfl (Or.inl rfl) (pe_op o_fdivB (vr 0) (vr 3))))) (pss_one (ps_expr (pe_m.append (vr 4) (pa_cons (pe_op o_mod (pe_call G_L_mix hr rfl T.m_L_mix T.F_L_mix.kp T.B_L_mix .nil pass0 (pa_cons (vr 0) (pa_cons (vr 5) pa_nil))) (vr 3)) pa_nil))))))) (pss_one (ps_ret (vr 4))))), ?_⟩
    have sl : sizeLine = 16777216 := sizeLine_eq
    refine ⟨Nat.zero_le _, fun p hp => ?_⟩
    refine ⟨n, rfl, by omega, by omega, ?_⟩
    refine for_range (fun i σ H' => ∃ (c' : Int) (ns : List Int) (x : Option V), H' = upd H p (.lst (ns.map V.int)) ∧ ns.length = i ∧ (∀ y ∈ ns, 0 ≤ y ∧ y < m) ∧ σ = [some (.int c'), some (.int b), some (.int n), some (.int m), some (.ref p), x]) ⟨c, [], none, rfl, rfl, (fun y hy => by cases hy), rfl⟩ ?_ ?_
    · rintro i σ H' hi ⟨c', ns, x, rfl, hl, hb, rfl⟩
      have sn : ∀ v : Int, 0 ≤ v → v < m → ∀ y ∈ ns ++ [v], 0 ≤ y ∧ y < m := fun v h0 h1 y hy => by
        rcases List.mem_append.mp hy with hy | hy
        · exact hb y hy
        · rw [List.mem_singleton.mp hy]; exact ⟨h0, h1⟩
      have em : ∀ v : Int, (ns.map V.int) ++ [V.int v] = (ns ++ [v]).map V.int := fun v => by rw [List.map_append]; rfl
      have lz : (ns.map V.int).length < sizeLine := by rw [List.length_map]; omega
      refine ⟨cp, ifC (fun _ => ?_) (fun _ => ?_)⟩
      · refine ⟨.inl ⟨rfl, _, SqL.of upd_same⟩, ⟨cp (by omega), ⟨p, _, _, rfl, rfl, upd_same, lz, ?_⟩⟩⟩
        refine ⟨cdB (by omega) (show Bt 40 m by unfold Bt; omega), ?_⟩
        rw [upd_upd, em]
        exact ⟨_, _, _, rfl, by rw [List.length_append, hl]; rfl, sn _ (Int.emod_nonneg _ (by omega)) (Int.emod_lt_of_pos _ (by omega)), rfl⟩
      · refine ⟨.inl ⟨rfl, _, SqL.of upd_same⟩, ⟨c', _, rfl, by omega, by omega, fun r r0 => ⟨cp (by omega), ⟨p, _, _, rfl, rfl, upd_same, lz, ?_⟩⟩⟩⟩
        rw [upd_upd, em]
        exact ⟨_, _, _, rfl, by rw [List.length_append, hl]; rfl, sn _ (Int.emod_nonneg _ (by omega)) (Int.emod_lt_of_pos _ (by omega)), rfl⟩
    · rintro σ H' ⟨c', ns, x, rfl, hl, hb, rfl⟩
      exact q _ p ns (Same.new hp) hp upd_same (by omega) hb
theorem ok_uns (T : Txt K mg a) : FnOk P w K mg base CX0 1 a.f_is_unsure a.d_is_unsure ["chance"] (spUns K) := by
  refine T.F_is_unsure.ok sc_is_unsure (fun vs H Q E h => ?_) (fun cdv A outer s H vs Q E hr h => ?_)
  · obtain ⟨x, f, rfl, _⟩ := h; rfl
  · obtain ⟨x, f, rfl, ⟨p, rfl, hp⟩, q⟩ := h
    refine ⟨_, (pss_one (ps_ret (m_chain o_lt o_lt pe_int (pe_ix ix_seq (vr 0) pe_int (fun _ _ => rfl)) (pe_ix ix_seq (vr 0) pe_int (fun _ _ => rfl))))), ?_⟩
    refine px0 hp.sq ?_
    refine ifC (fun c => px1 hp.sq ?_) (fun c => ?_)
    · have c : 0 < f.1 := c
      have e : uns f = decide (f.1 < f.2) := by unfold uns; simp [c]
      rw [e] at q
      exact q
    · have c : ¬ 0 < f.1 := c
      have e : uns f = false := by unfold uns; simp [c]
      rw [e] at q
      exact q
theorem ok_whole (T : Txt K mg a) : FnOk P w K mg base CX0 1 a.f_L_whole a.d_L_whole ["_law_found"] spWhole := by
  refine T.F_L_whole.ok sc_L_whole (fun vs H Q E h => ?_) (fun cdv A outer s H vs Q E hr h => ?_)
  · obtain ⟨x, rfl, _⟩ := h; rfl
  · obtain ⟨x, rfl, q⟩ := h
    refine ⟨_, (pss_one (ps_ret (m_and (pe_callB call_isi rfl T.z_isinstance bt_isinstance (pa_cons (vr 0) (pa_cons (pe_bltn (v := .ty "int") rfl T.z_int bt_int rfl) pa_nil))) (pe_one (m_not (pe_callB call_isi rfl T.z_isinstance bt_isinstance (pa_cons (vr 0) (pa_cons (pe_bltn (v := .ty "bool") rfl T.z_bool bt_bool rfl) pa_nil)))))))), ?_⟩
    exact ⟨_, _, _, true, rfl, rfl, .int x, rfl, ⟨_, _, _, false, rfl, rfl, .int x, rfl, q⟩⟩
theorem dv_pair {H : Hp} {p : Addr} {t b : Int} (h : SqT K H p [.int t, .int b]) : DV K H (.tuple [.int t, .int b]) (.ref p) := by
  rw [DV]
  refine ⟨p, _, rfl, h, ?_⟩
  rw [DVs]
  refine ⟨_, _, rfl, by simp [DV], ?_⟩
  rw [DVs]
  exact ⟨_, _, rfl, by simp [DV], by simp [DVs]⟩
theorem shaped_pair (t b : Int) : SeqAt.shaped (.tuple [.int t, .int b]) = true := rfl
theorem ok_fraction (T : Txt K mg a) : FnOk P w K mg base CX0 2 a.f_L_fraction a.d_L_fraction ["_law_found", "_law_due_here"] (spFraction K) := by
  have G_L_whole : FnOk P w K mg base CX0 1 _ _ _ spWhole := ok_whole T
  refine T.F_L_fraction.ok sc_L_fraction (fun vs H Q E h => ?_) (fun cdv A outer s H vs Q E hr h => ?_)
  · obtain ⟨p, q, t, b, rfl, _⟩ := h; rfl
  · obtain ⟨p, r, t, b, rfl, hp, hr', q⟩ := h
    refine ⟨_, (pss_cons (ps_if (PW.pt (pw_or (pt_not (t_val (pe_callB call_iss rfl T.z_isinstance bt_isinstance (pa_cons (vr 0) (pa_cons (pe_bltn (v := .ty "tuple") rfl T.z_tuple bt_tuple rfl) pa_nil))))) (pw_or (t_cmp o_ne (pe_callB call_lenM rfl T.z_len bt_len (pa_cons (vr 0) pa_nil)) pe_int (nomark _)) (pw_or (pt_not (t_val (pe_call G_L_whole hr rfl T.m_L_whole T.F_L_whole.kp T.B_L_whole .nil pass0 (pa_cons (pe_ix ix_seq (vr 0) pe_int (fun _ _ => rfl)) pa_nil)))) (pw_or1 (pt_not (t_val (pe_call G_L_whole hr rfl T.m_L_whole T.F_L_whole.kp T.B_L_whole .nil pass0 (pa_cons (pe_ix ix_seq (vr 0) pe_int (fun _ _ => rfl)) pa_nil))))))))) (pss_one (ps_ret pe_bl)) pss_nil) (pss_one (ps_ret (pe_cmpR (o_eqD hr.units) (vr 0) (vr 1) (nomark _))))), ?_⟩
    refine ⟨_, _, _, true, rfl, rfl, .inr ⟨p, _, rfl, rfl, hp⟩, rfl, ?_⟩
    refine ⟨_, .inr hp, ?_⟩
    refine px0 hp ⟨t, rfl, px1 hp ⟨b, rfl, ?_⟩⟩
    refine ⟨.tuple [.int t, .int b], .tuple [.int t, .int b], dv_pair hp, dv_pair hr', shaped_pair t b, shaped_pair t b, ?_⟩
    rw [SeqAt.eqv_refl _ (SeqAt.canLay_of_shaped (shaped_pair t b))]
    exact q
theorem ok_plus (T : Txt K mg a) : FnOk P w K mg base CX0 3 a.f_plus a.d_plus ["one", "other"] (spAri (· + ·) (fun _ => True) K) := by
  have G_share : FnOk P w K mg base CX0 2 _ _ _ spLow := ok_share T
  refine T.F_plus.ok sc_plus (fun vs H Q E h => ?_) (fun cdv A outer s H vs Q E hr h => ?_)
  · obtain ⟨x, y, p, q, rfl, _⟩ := h; rfl
  · obtain ⟨x, y, p, q, rfl, ⟨x, rfl, hx⟩, ⟨y, rfl, hy⟩, ⟨z1, z2⟩, ⟨z3, z4⟩, hc, Qq⟩ := h
    have hp := hx.sq
    have hr' := hy.sq
    have d1 : (0 : Int) < (p.den : Int) := by have := p.den_pos; omega
    have d2 : (0 : Int) < (q.den : Int) := by have := q.den_pos; omega
    refine ⟨_, (pss_one (ps_ret (pe_call G_share hr rfl T.m_share T.F_share.kp T.B_share .nil pass0 (pa_cons (pe_op o_add (pe_op o_mulB (pe_ix ix_seq (vr 0) pe_int (fun _ _ => rfl)) (pe_ix ix_seq (vr 1) pe_int (fun _ _ => rfl))) (pe_op o_mulB (pe_ix ix_seq (vr 1) pe_int (fun _ _ => rfl)) (pe_ix ix_seq (vr 0) pe_int (fun _ _ => rfl)))) (pa_cons (pe_op o_mulB (pe_ix ix_seq (vr 0) pe_int (fun _ _ => rfl)) (pe_ix ix_seq (vr 1) pe_int (fun _ _ => rfl))) pa_nil))))), ?_⟩
    refine px0 hp (px1 hr' ⟨cmB z1 z4, px0 hr' (px1 hp ⟨cmB z3 z2, px1 hp (px1 hr' ⟨cmB z2 z4, ?_⟩)⟩)⟩)
    exact ⟨_, _, rfl, Int.mul_pos d1 d2, ((z1.mul z4).add (z3.mul z2)).mono (by decide), (z2.mul z4).mono (by decide), fun H' r s hr2 => Qq _ _ s ⟨r, rfl, .inl (by rw [← low_add p q]; exact hr2)⟩⟩
theorem ok_L_plus (T : Txt K mg a) : FnOk P w K mg base CX0 2 a.f_L_plus a.d_L_plus ["_law_one", "_law_other"] (spAri (· + ·) (fun _ => True) K) := by
  have G_L_low : FnOk P w K mg base CX0 1 _ _ _ spLow := ok_low T
  refine T.F_L_plus.ok sc_L_plus (fun vs H Q E h => ?_) (fun cdv A outer s H vs Q E hr h => ?_)
  · obtain ⟨x, y, p, q, rfl, _⟩ := h; rfl
  · obtain ⟨x, y, p, q, rfl, ⟨x, rfl, hx⟩, ⟨y, rfl, hy⟩, ⟨z1, z2⟩, ⟨z3, z4⟩, hc, Qq⟩ := h
    have hp := hx.sq
    have hr' := hy.sq
    have d1 : (0 : Int) < (p.den : Int) := by have := p.den_pos; omega
    have d2 : (0 : Int) < (q.den : Int) := by have := q.den_pos; omega
    refine ⟨_, (pss_one (ps_ret (pe_call G_L_low hr rfl T.m_L_low T.F_L_low.kp T.B_L_low .nil pass0 (pa_cons (pe_op o_add (pe_op o_mulB (pe_ix ix_seq (vr 0) pe_int (fun _ _ => rfl)) (pe_ix ix_seq (vr 1) pe_int (fun _ _ => rfl))) (pe_op o_mulB (pe_ix ix_seq (vr 1) pe_int (fun _ _ => rfl)) (pe_ix ix_seq (vr 0) pe_int (fun _ _ => rfl)))) (pa_cons (pe_op o_mulB (pe_ix ix_seq (vr 0) pe_int (fun _ _ => rfl)) (pe_ix ix_seq (vr 1) pe_int (fun _ _ => rfl))) pa_nil))))), ?_⟩
    refine px0 hp (px1 hr' ⟨cmB z1 z4, px0 hr' (px1 hp ⟨cmB z3 z2, px1 hp (px1 hr' ⟨cmB z2 z4, ?_⟩)⟩)⟩)
    exact ⟨_, _, rfl, Int.mul_pos d1 d2, ((z1.mul z4).add (z3.mul z2)).mono (by decide), (z2.mul z4).mono (by decide), fun H' r s hr2 => Qq _ _ s ⟨r, rfl, .inl (by rw [← low_add p q]; exact hr2)⟩⟩
theorem ok_minus (T : Txt K mg a) : FnOk P w K mg base CX0 3 a.f_minus a.d_minus ["one", "other"] (spAri (· - ·) (fun _ => True) K) := by
  have G_share : FnOk P w K mg base CX0 2 _ _ _ spLow := ok_share T
  refine T.F_minus.ok sc_minus (fun vs H Q E h => ?_) (fun cdv A outer s H vs Q E hr h => ?_)
  · obtain ⟨x, y, p, q, rfl, _⟩ := h; rfl
  · obtain ⟨x, y, p, q, rfl, ⟨x, rfl, hx⟩, ⟨y, rfl, hy⟩, ⟨z1, z2⟩, ⟨z3, z4⟩, hc, Qq⟩ := h
    have hp := hx.sq
    have hr' := hy.sq
    have d1 : (0 : Int) < (p.den : Int) := by have := p.den_pos; omega
    have d2 : (0 : Int) < (q.den : Int) := by have := q.den_pos; omega
    refine ⟨_, (pss_one (ps_ret (pe_call G_share hr rfl T.m_share T.F_share.kp T.B_share .nil pass0 (pa_cons (pe_op o_sub (pe_op o_mulB (pe_ix ix_seq (vr 0) pe_int (fun _ _ => rfl)) (pe_ix ix_seq (vr 1) pe_int (fun _ _ => rfl))) (pe_op o_mulB (pe_ix ix_seq (vr 1) pe_int (fun _ _ => rfl)) (pe_ix ix_seq (vr 0) pe_int (fun _ _ => rfl)))) (pa_cons (pe_op o_mulB (pe_ix ix_seq (vr 0) pe_int (fun _ _ => rfl)) (pe_ix ix_seq (vr 1) pe_int (fun _ _ => rfl))) pa_nil))))), ?_⟩
    refine px0 hp (px1 hr' ⟨cmB z1 z4, px0 hr' (px1 hp ⟨cmB z3 z2, px1 hp (px1 hr' ⟨cmB z2 z4, ?_⟩)⟩)⟩)
    exact ⟨_, _, rfl, Int.mul_pos d1 d2, ((z1.mul z4).sub (z3.mul z2)).mono (by decide), (z2.mul z4).mono (by decide), fun H' r s hr2 => Qq _ _ s ⟨r, rfl, .inl (by rw [← low_sub p q]; exact hr2)⟩⟩
theorem ok_L_less (T : Txt K mg a) : FnOk P w K mg base CX0 2 a.f_L_less a.d_L_less ["_law_one", "_law_other"] (spAri (· - ·) (fun _ => True) K) := by
  have G_L_low : FnOk P w K mg base CX0 1 _ _ _ spLow := ok_low T
  refine T.F_L_less.ok sc_L_less (fun vs H Q E h => ?_) (fun cdv A outer s H vs Q E hr h => ?_)
  · obtain ⟨x, y, p, q, rfl, _⟩ := h; rfl
  · obtain ⟨x, y, p, q, rfl, ⟨x, rfl, hx⟩, ⟨y, rfl, hy⟩, ⟨z1, z2⟩, ⟨z3, z4⟩, hc, Qq⟩ := h
    have hp := hx.sq
    have hr' := hy.sq
    have d1 : (0 : Int) < (p.den : Int) := by have := p.den_pos; omega
    have d2 : (0 : Int) < (q.den : Int) := by have := q.den_pos; omega
    refine ⟨_, (pss_one (ps_ret (pe_call G_L_low hr rfl T.m_L_low T.F_L_low.kp T.B_L_low .nil pass0 (pa_cons (pe_op o_sub (pe_op o_mulB (pe_ix ix_seq (vr 0) pe_int (fun _ _ => rfl)) (pe_ix ix_seq (vr 1) pe_int (fun _ _ => rfl))) (pe_op o_mulB (pe_ix ix_seq (vr 1) pe_int (fun _ _ => rfl)) (pe_ix ix_seq (vr 0) pe_int (fun _ _ => rfl)))) (pa_cons (pe_op o_mulB (pe_ix ix_seq (vr 0) pe_int (fun _ _ => rfl)) (pe_ix ix_seq (vr 1) pe_int (fun _ _ => rfl))) pa_nil))))), ?_⟩
    refine px0 hp (px1 hr' ⟨cmB z1 z4, px0 hr' (px1 hp ⟨cmB z3 z2, px1 hp (px1 hr' ⟨cmB z2 z4, ?_⟩)⟩)⟩)
    exact ⟨_, _, rfl, Int.mul_pos d1 d2, ((z1.mul z4).sub (z3.mul z2)).mono (by decide), (z2.mul z4).mono (by decide), fun H' r s hr2 => Qq _ _ s ⟨r, rfl, .inl (by rw [← low_sub p q]; exact hr2)⟩⟩
theorem ok_times (T : Txt K mg a) : FnOk P w K mg base CX0 3 a.f_times a.d_times ["one", "other"] (spAri (· * ·) (fun _ => True) K) := by
  have G_share : FnOk P w K mg base CX0 2 _ _ _ spLow := ok_share T
  refine T.F_times.ok sc_times (fun vs H Q E h => ?_) (fun cdv A outer s H vs Q E hr h => ?_)
  · obtain ⟨x, y, p, q, rfl, _⟩ := h; rfl
  · obtain ⟨x, y, p, q, rfl, ⟨x, rfl, hx⟩, ⟨y, rfl, hy⟩, ⟨z1, z2⟩, ⟨z3, z4⟩, hc, Qq⟩ := h
    have hp := hx.sq
    have hr' := hy.sq
    have d1 : (0 : Int) < (p.den : Int) := by have := p.den_pos; omega
    have d2 : (0 : Int) < (q.den : Int) := by have := q.den_pos; omega
    refine ⟨_, (pss_one (ps_ret (pe_call G_share hr rfl T.m_share T.F_share.kp T.B_share .nil pass0 (pa_cons (pe_op o_mulB (pe_ix ix_seq (vr 0) pe_int (fun _ _ => rfl)) (pe_ix ix_seq (vr 1) pe_int (fun _ _ => rfl))) (pa_cons (pe_op o_mulB (pe_ix ix_seq (vr 0) pe_int (fun _ _ => rfl)) (pe_ix ix_seq (vr 1) pe_int (fun _ _ => rfl))) pa_nil))))), ?_⟩
    refine px0 hp (px0 hr' ⟨cmB z1 z3, px1 hp (px1 hr' ⟨cmB z2 z4, ?_⟩)⟩)
    exact ⟨_, _, rfl, Int.mul_pos d1 d2, (z1.mul z3).mono (by decide), (z2.mul z4).mono (by decide), fun H' r s hr2 => Qq _ _ s ⟨r, rfl, .inl (by rw [← low_mul p q]; exact hr2)⟩⟩
theorem ok_L_times (T : Txt K mg a) : FnOk P w K mg base CX0 2 a.f_L_times a.d_L_times ["_law_one", "_law_other"] (spAri (· * ·) (fun _ => True) K) := by
  have G_L_low : FnOk P w K mg base CX0 1 _ _ _ spLow := ok_low T
  refine T.F_L_times.ok sc_L_times (fun vs H Q E h => ?_) (fun cdv A outer s H vs Q E hr h => ?_)
  · obtain ⟨x, y, p, q, rfl, _⟩ := h; rfl
  · obtain ⟨x, y, p, q, rfl, ⟨x, rfl, hx⟩, ⟨y, rfl, hy⟩, ⟨z1, z2⟩, ⟨z3, z4⟩, hc, Qq⟩ := h
    have hp := hx.sq
    have hr' := hy.sq
    have d1 : (0 : Int) < (p.den : Int) := by have := p.den_pos; omega
    have d2 : (0 : Int) < (q.den : Int) := by have := q.den_pos; omega
    refine ⟨_, (pss_one (ps_ret (pe_call G_L_low hr rfl T.m_L_low T.F_L_low.kp T.B_L_low .nil pass0 (pa_cons (pe_op o_mulB (pe_ix ix_seq (vr 0) pe_int (fun _ _ => rfl)) (pe_ix ix_seq (vr 1) pe_int (fun _ _ => rfl))) (pa_cons (pe_op o_mulB (pe_ix ix_seq (vr 0) pe_int (fun _ _ => rfl)) (pe_ix ix_seq (vr 1) pe_int (fun _ _ => rfl))) pa_nil))))), ?_⟩
    refine px0 hp (px0 hr' ⟨cmB z1 z3, px1 hp (px1 hr' ⟨cmB z2 z4, ?_⟩)⟩)
    exact ⟨_, _, rfl, Int.mul_pos d1 d2, (z1.mul z3).mono (by decide), (z2.mul z4).mono (by decide), fun H' r s hr2 => Qq _ _ s ⟨r, rfl, .inl (by rw [← low_mul p q]; exact hr2)⟩⟩
theorem ok_over (T : Txt K mg a) : FnOk P w K mg base CX0 3 a.f_over a.d_over ["one", "other"] (spAri (· / ·) (fun q => 0 < q) K) := by
  have G_share : FnOk P w K mg base CX0 2 _ _ _ spLow := ok_share T
  refine T.F_over.ok sc_over (fun vs H Q E h => ?_) (fun cdv A outer s H vs Q E hr h => ?_)
  · obtain ⟨x, y, p, q, rfl, _⟩ := h; rfl
  · obtain ⟨x, y, p, q, rfl, ⟨x, rfl, hx⟩, ⟨y, rfl, hy⟩, ⟨z1, z2⟩, ⟨z3, z4⟩, hc, Qq⟩ := h
    have hp := hx.sq
    have hr' := hy.sq
    have d1 : (0 : Int) < (p.den : Int) := by have := p.den_pos; omega
    have d2 : (0 : Int) < (q.den : Int) := by have := q.den_pos; omega
    refine ⟨_, (pss_one (ps_ret (pe_call G_share hr rfl T.m_share T.F_share.kp T.B_share .nil pass0 (pa_cons (pe_op o_mulB (pe_ix ix_seq (vr 0) pe_int (fun _ _ => rfl)) (pe_ix ix_seq (vr 1) pe_int (fun _ _ => rfl))) (pa_cons (pe_op o_mulB (pe_ix ix_seq (vr 0) pe_int (fun _ _ => rfl)) (pe_ix ix_seq (vr 1) pe_int (fun _ _ => rfl))) pa_nil))))), ?_⟩
    refine px0 hp (px1 hr' ⟨cmB z1 z4, px1 hp (px0 hr' ⟨cmB z2 z3, ?_⟩)⟩)
    exact ⟨_, _, rfl, Int.mul_pos d1 (num_pos.mpr hc), (z1.mul z4).mono (by decide), (z2.mul z3).mono (by decide), fun H' r s hr2 => Qq _ _ s ⟨r, rfl, .inl (by rw [← low_quo p q hc]; exact hr2)⟩⟩
theorem ok_L_ratio (T : Txt K mg a) : FnOk P w K mg base CX0 2 a.f_L_ratio a.d_L_ratio ["_law_one", "_law_other"] (spAri (· / ·) (fun q => 0 < q) K) := by
  have G_L_low : FnOk P w K mg base CX0 1 _ _ _ spLow := ok_low T
  refine T.F_L_ratio.ok sc_L_ratio (fun vs H Q E h => ?_) (fun cdv A outer s H vs Q E hr h => ?_)
  · obtain ⟨x, y, p, q, rfl, _⟩ := h; rfl
  · obtain ⟨x, y, p, q, rfl, ⟨x, rfl, hx⟩, ⟨y, rfl, hy⟩, ⟨z1, z2⟩, ⟨z3, z4⟩, hc, Qq⟩ := h
    have hp := hx.sq
    have hr' := hy.sq
    have d1 : (0 : Int) < (p.den : Int) := by have := p.den_pos; omega
    have d2 : (0 : Int) < (q.den : Int) := by have := q.den_pos; omega
    refine ⟨_, (pss_one (ps_ret (pe_call G_L_low hr rfl T.m_L_low T.F_L_low.kp T.B_L_low .nil pass0 (pa_cons (pe_op o_mulB (pe_ix ix_seq (vr 0) pe_int (fun _ _ => rfl)) (pe_ix ix_seq (vr 1) pe_int (fun _ _ => rfl))) (pa_cons (pe_op o_mulB (pe_ix ix_seq (vr 0) pe_int (fun _ _ => rfl)) (pe_ix ix_seq (vr 1) pe_int (fun _ _ => rfl))) pa_nil))))), ?_⟩
    refine px0 hp (px1 hr' ⟨cmB z1 z4, px1 hp (px0 hr' ⟨cmB z2 z3, ?_⟩)⟩)
    exact ⟨_, _, rfl, Int.mul_pos d1 (num_pos.mpr hc), (z1.mul z4).mono (by decide), (z2.mul z3).mono (by decide), fun H' r s hr2 => Qq _ _ s ⟨r, rfl, .inl (by rw [← low_quo p q hc]; exact hr2)⟩⟩
theorem ok_below (T : Txt K mg a) : FnOk P w K mg base CX0 1 a.f_below a.d_below ["one", "other"] (spBel K) := by
  refine T.F_below.ok sc_below (fun vs H Q E h => ?_) (fun cdv A outer s H vs Q E hr h => ?_)
  · obtain ⟨x, y, p, q, rfl, _⟩ := h; rfl
  · obtain ⟨x, y, p, q, rfl, ⟨x, rfl, hx⟩, ⟨y, rfl, hy⟩, ⟨z1, z2⟩, ⟨z3, z4⟩, Qq⟩ := h
    have hp := hx.sq
    have hr' := hy.sq
    refine ⟨_, (pss_one (ps_ret (pe_cmpR o_lt (pe_op o_mulB (pe_ix ix_seq (vr 0) pe_int (fun _ _ => rfl)) (pe_ix ix_seq (vr 1) pe_int (fun _ _ => rfl))) (pe_op o_mulB (pe_ix ix_seq (vr 1) pe_int (fun _ _ => rfl)) (pe_ix ix_seq (vr 0) pe_int (fun _ _ => rfl))) (nomark _)))), ?_⟩
    refine px0 hp (px1 hr' ⟨cmB z1 z4, px0 hr' (px1 hp ⟨cmB z3 z2, ?_⟩)⟩)
    have e : decide (p < q) = decide (p.num * (q.den : Int) < q.num * (p.den : Int)) := decide_eq_decide.mpr (Rat.lt_iff p q)
    rw [e] at Qq
    exact Qq
end
end My

set_option Elab.async false
set_option linter.all false
set_option maxRecDepth 100000
set_option maxHeartbeats 4000000
namespace My
open PySem L2 FrM Du
noncomputable def spShares (K : PySem.W.Frag) : Sp := fun vs H Q _ => ∃ (p : Addr) (ns : List Int), vs = [.ref p, .int 0, .int 24] ∧ SqL K H p (ns.map V.int) ∧ ns.length ≤ 63 ∧ ∀ H' l xs (qs : List Rat) (B : Nat), Same H H' → H l = none → H' l = some (.lst xs) → AllF K H' (qs.map fr) xs → 1 ≤ qs.length → qs.length ≤ 24 → 0 < B → B ≤ 1000000000 → (∀ q ∈ qs, Bq B q) → Q (.ref l) H'
theorem bt40 {i : Int} (h0 : 0 ≤ i) (h1 : i ≤ 4000000000) : Bt 3000 i := (show Bt 40 i by unfold Bt; omega).mono (by decide)
theorem bq_low {u b : Int} (h0 : 0 ≤ u) (h1 : u ≤ b) (hb : 0 < b) : Bq b.toNat ((u : Rat) / (b : Rat)) := by
  have e : ((b.toNat : Nat) : Rat) = (b : Rat) := by
    have : ((b.toNat : Nat) : Int) = b := by omega
    rw [← this]
    rfl
  have e' : ((u.toNat : Nat) : Rat) = (u : Rat) := by
    have : ((u.toNat : Nat) : Int) = u := by omega
    rw [← this]
    rfl
  have hb' : (0 : Rat) < (b : Rat) := by exact_mod_cast hb
  have hu' : (0 : Rat) ≤ (u : Rat) := by exact_mod_cast h0
  have hub : (u : Rat) ≤ (b : Rat) := by exact_mod_cast h1
  refine ⟨div_nn hu' hb', ?_, u.toNat, ?_⟩
  · have := div_nn (show (0 : Rat) ≤ (b : Rat) - (u : Rat) by grind) hb'
    grind
  · rw [e, e']
    grind
noncomputable def spOrder : Sp := fun vs H Q _ => ∃ (c b : Int) (n : Nat), vs = [.int c, .int b, .int (n : Nat)] ∧ n ≤ 24 ∧ ∀ H' l (ord : List Nat), Same H H' → H l = none → H' l = some (.lst (ord.map fun (o : Nat) => V.int (o : Int))) → ord.Perm (List.range n) → Q (.ref l) H'
theorem seqIx {k n : Nat} (h : k < n) : seqIndex? (k : Int) n = some k := by
  have h0 : ¬ ((k : Int) < 0) := by omega
  unfold seqIndex?
  simp only [if_neg h0]
  rw [if_pos (by simp; omega)]
  simp
theorem eraseIdx_map (L : List Nat) (k : Nat) : (L.map fun (i : Nat) => V.int (i : Int)).eraseIdx k = (L.eraseIdx k).map fun (i : Nat) => V.int (i : Int) := by
  rw [List.eraseIdx_eq_take_drop_succ, List.eraseIdx_eq_take_drop_succ, List.map_append, List.map_take, List.map_drop]
theorem erase_perm {L : List Nat} {k : Nat} (h : k < L.length) : ([L[k]] ++ L.eraseIdx k).Perm L := by
  rw [List.eraseIdx_eq_take_drop_succ]
  have e : L = L.take k ++ L[k] :: L.drop (k + 1) := by rw [← List.drop_eq_getElem_cons h, List.take_append_drop]
  exact ((List.perm_middle (a := L[k]) (l₁ := L.take k) (l₂ := L.drop (k + 1))).symm).trans (List.Perm.of_eq e.symm)
section
variable {P : Program} {w : World} {K : PySem.W.Frag} {mg : Str → Option Value} {base : Heap} {a : Ad}
theorem ok_shares (T : Txt K mg a) : FnOk P w K mg base CX0 3 a.f_L_shares a.d_L_shares ["_law_script", "_law_start", "_law_most"] (spShares K) := by
  have G_L_cell : FnOk P w K mg base CX0 2 _ _ _ (spCell K) := (ok_cell T).mono (by decide)
  have G_L_row : FnOk P w K mg base CX0 2 _ _ _ spRow := ok_row T
  have G_L_low : FnOk P w K mg base CX0 2 _ _ _ spLow := (ok_low T).mono (by decide)
  refine T.F_L_shares.ok sc_L_shares (fun vs H Q E h => ?_) (fun cdv A outer s H vs Q E hr h => ?_)
  · obtain ⟨p, ns, rfl, _⟩ := h; rfl
  · obtain ⟨p, ns, rfl, hS, hlen, q⟩ := h
    have small : sizeLine = 16777216 := sizeLine_eq
    refine ⟨_, (pss_cons (ps_set (i := 3) sc_L_shares.nd rfl (Or.inl rfl) (pe_op o_add pe_int (pe_op o_mod (pe_call G_L_cell hr rfl T.m_L_cell T.F_L_cell.kp T.B_L_cell .nil pass0 (pa_cons (vr 0) (pa_cons (vr 1) pa_nil))) (vr 2)))) (pss_cons (ps_set (i := 4) sc_L_shares.nd rfl (Or.inl rfl) (pe_call G_L_cell hr rfl T.m_L_cell T.F_L_cell.kp T.B_L_cell .nil pass0 (pa_cons (vr 0) (pa_cons (pe_op o_add (vr 1) pe_int) pa_nil)))) (pss_cons (ps_set (i := 5) sc_L_shares.nd rfl (Or.inr rfl) (pe_op o_add pe_int (pe_op o_mod (pe_call G_L_cell hr rfl T.m_L_cell T.F_L_cell.kp T.B_L_cell .nil pass0 (pa_cons (vr 0) (pa_cons (pe_op o_add (vr 1) pe_int) pa_nil))) (pe_ix ix_seq (pe_lst (pa_cons pe_int (pa_cons pe_int (pa_cons pe_int (pa_cons (pe_ix ix_seq (pe_lst (pa_cons pe_int (pa_cons (pe_op o_pow pe_int pe_int) pa_nil))) (pe_callTy call_int1 rfl T.z_int bt_int (pa_cons (pe_cmpR o_lt (vr 3) pe_int (nomark _)) pa_nil)) (fun _ _ => rfl)) pa_nil))))) (pe_op o_mod (pe_op o_fdivB (vr 4) pe_int) pe_int) (fun _ _ => rfl))))) (pss_cons (ps_set (i := 6) sc_L_shares.nd rfl (Or.inl rfl) (pe_call G_L_row hr rfl T.m_L_row T.F_L_row.kp T.B_L_row .nil pass0 (pa_cons (pe_call G_L_cell hr rfl T.m_L_cell T.F_L_cell.kp T.B_L_cell .nil pass0 (pa_cons (vr 0) (pa_cons (pe_op o_add (vr 1) pe_int) pa_nil))) (pa_cons (vr 4) (pa_cons (vr 3) (pa_cons (pe_op o_add (pe_op o_add (vr 5) pe_int) (pe_op o_fdivB (vr 5) pe_int)) pa_nil)))))) (pss_one (ps_ret (pe_comp rfl (N := ["_law_top", "_law_bottom"]) (ix := [none, some 5]) ⟨rfl, rfl, rfl, rfl, ⟨rfl, rfl, rfl, trivial⟩⟩ (pi_any (vr 6)) ⟨fun C s H fp => pg_name (i := 0) (show List.Nodup (["_law_top", "_law_bottom"] : List Str) by decide +kernel) rfl (Or.inl rfl), fun C s H fp => pts_nil, fun C s H fp => (pe_call G_L_low hr rfl T.m_L_low T.F_L_low.kp T.B_L_low .nil pass0 (pa_cons (pe_callB (call_min2 rfl) rfl T.z_min bt_min (pa_cons (vr 0) (pa_cons (vr 1) pa_nil))) (pa_cons (vr 1) pa_nil)))⟩))))))), ?_⟩
    refine ⟨p, ns, 0, rfl, hS, hlen, by decide, by decide, cp, ?_⟩
    refine ⟨p, ns, 1, rfl, hS, hlen, by decide, by decide, ?_⟩
    refine ⟨p, ns, 2, rfl, hS, hlen, by decide, by decide, ?_⟩
    refine ⟨cw, two_le _ _, fun l2 f2 => ?_⟩
    have s0 : Same H (upd H l2 (.lst [.int 1000, .int ((10 : Int) ^ (9 : Int).toNat)])) := Same.new f2
    have hl2 := upd_same (H := H) (a := l2) (o := .lst [.int 1000, .int ((10 : Int) ^ (9 : Int).toNat)])
    generalize upd H l2 (.lst [.int 1000, .int ((10 : Int) ^ (9 : Int).toNat)]) = H1 at s0 hl2
    have e9 : (10 : Int) ^ (9 : Int).toNat = 1000000000 := by decide
    rw [e9] at hl2
    obtain ⟨m9, hm9, am9⟩ : ∃ m9 : Int, (m9 = 1000 ∨ m9 = 1000000000) ∧ atI [V.int 1000, V.int 1000000000] (if decide (1 + cellC ns 0 % 24 < 9) = true then 1 else 0) = some (.int m9) := by
      by_cases c : (1 + cellC ns 0 % 24 < 9)
      · rw [if_pos (decide_eq_true c)]; exact ⟨1000000000, .inr rfl, atI_nat (j := 1) rfl⟩
      · rw [if_neg (by simpa using c)]; exact ⟨1000, .inl rfl, atI_nat (j := 0) rfl⟩
    refine .inr ⟨_, rfl, .inl ⟨l2, _, _, .int m9, rfl, rfl, SqL.of hl2, am9, ?_⟩⟩
    refine ⟨by show 4 ≤ sizeLine; decide, fun l4 f4 => ?_⟩
    have s1 : Same H (upd H1 l4 (.lst [.int 4, .int 12, .int 1000, .int m9])) := s0.trans (Same.new f4)
    refine ⟨cdB (by decide) (show Bt 40 2 by unfold Bt; decide), cp, ?_⟩
    obtain ⟨v, hv, ev⟩ := atI_ex (xs := ([4, 12, 1000, m9] : List Int).map V.int) (i := cellC ns 1 / 2 % 4) (Int.emod_nonneg _ (by decide)) (by have := Int.emod_lt_of_pos (cellC ns 1 / 2) (show (0 : Int) < 4 by decide); simpa using this)
    obtain ⟨st, hst, rfl⟩ := List.mem_map.mp hv
    have hst' : 4 ≤ st ∧ st ≤ 1000000000 := by
      simp only [List.mem_cons, List.not_mem_nil, or_false] at hst
      omega
    refine .inl ⟨l4, ([4, 12, 1000, m9] : List Int).map V.int, _, .int st, rfl, rfl, SqL.of upd_same, ev, cp (by omega), ?_⟩
    have hb0 := Int.emod_nonneg (cellC ns 2) (show st ≠ 0 by omega)
    have hb1 := Int.emod_lt_of_pos (cellC ns 2) (show 0 < st by omega)
    have hm0 := Int.emod_nonneg (cellC ns 0) (show (24 : Int) ≠ 0 by decide)
    have hm1 := Int.emod_lt_of_pos (cellC ns 0) (show (0 : Int) < 24 by decide)
    refine ⟨p, ns, 3, rfl, s1.seq hS, hlen, by decide, by decide, ?_⟩
    refine ⟨cdB (by decide) (show Bt 40 8 by unfold Bt; decide), ?_⟩
    have hbb : 0 ≤ (1 + cellC ns 2 % st) / 8 ∧ (1 + cellC ns 2 % st) / 8 ≤ 1 + cellC ns 2 % st := ⟨Int.ediv_nonneg (by omega) (by decide), Int.ediv_le_self _ (by omega)⟩
    refine ⟨_, _, _, _, rfl, by omega, by omega, by omega, by omega, fun H2 pr tops s2 fpr hpr hlt htb => ?_⟩
    refine .inl ⟨⟨_, SqL.of hpr⟩, fun D hD => ?_⟩
    generalize hbt : 1 + cellC ns 2 % st = bt at *
    have s12 := s1.trans s2
    refine comp_list (K := K) (a := pr) (xs := tops.map V.int) (fun i zs H' => Same H2 H' ∧ H' D = some (.lst zs) ∧ i ≤ tops.length ∧ AllF K H' (((tops.take i).map fun t => (((if bt < t then bt else t : Int) : Rat) / (bt : Rat))).map fr) zs) ⟨Same.new hD, upd_same, Nat.zero_le _, .nil⟩ (fun i ys H' h => SqL.of (h.1 _ _ hpr)) (fun i ys H' h => h.2.1) ?_ ?_
    · rintro i y zs H' P' hy ⟨s3, hD3, hi, hzs⟩ hP'
      rw [List.getElem?_map] at hy
      cases hoi : tops[i]? with
      | none => rw [hoi] at hy; cases hy
      | some t =>
        rw [hoi] at hy
        cases hy
        have ilt : i < tops.length := (List.getElem?_eq_some_iff.mp hoi).1
        have tb := htb t (List.mem_of_getElem? hoi)
        have zl : zs.length ≤ 24 := by rw [← hzs.len, List.length_map, List.length_map, List.length_take]; omega
        refine ⟨⟨rfl, trivial⟩, t, bt, rfl, _, bt, rfl, by omega, bt40 (by split <;> omega) (by split <;> omega), bt40 (by omega) (by omega), fun H4 pf s4 hpf => ?_⟩
        have hD4 := s4 _ _ hD3
        have np : pf ≠ D := fun z => by rw [z, hD4] at hpf; cases hpf
        refine ⟨hD4, by omega, hP' _ _ ⟨(s3.trans s4).put hD, upd_same, ilt, ?_⟩⟩
        rw [List.take_add_one, hoi, List.map_append, List.map_append]
        exact AllF.snoc ⟨pf, rfl, .inl (by rw [upd_ne np, ← low_div _ (show 0 < bt by omega)]; exact hpf)⟩ ((hzs.same s4).tk (TK.lst hD4))
    · rintro zs H' ⟨s3, hD3, _, hzs⟩
      rw [List.length_map, List.take_length] at hzs
      have fD : H D = none := s12.free hD
      refine q _ D zs _ bt.toNat (s12.trans s3) fD hD3 hzs (by rw [List.length_map]; omega) (by rw [List.length_map]; omega) (by omega) (by omega) fun f hf => ?_
      obtain ⟨t, ht, rfl⟩ := List.mem_map.mp hf
      have := htb t ht
      exact bq_low (by split <;> omega) (by split <;> omega) (by omega)
theorem ok_order (T : Txt K mg a) : FnOk P w K mg base CX0 3 a.f_L_order a.d_L_order ["_law_cell_here", "_law_bit", "_law_many"] spOrder := by
  have G_L_row : FnOk P w K mg base CX0 2 _ _ _ spRow := ok_row T
  refine T.F_L_order.ok sc_L_order (fun vs H Q E h => ?_) (fun cdv A outer s H vs Q E hr h => ?_)
  · obtain ⟨c, b, n, rfl, _⟩ := h; rfl
  · obtain ⟨c, b, n, rfl, hn, q⟩ := h
    have small : sizeLine = 16777216 := sizeLine_eq
    refine ⟨_, (pss_cons (ps_set (i := 3) sc_L_order.nd rfl (Or.inl rfl) (pe_callTy (call_lstRngN rfl) rfl T.z_list bt_list (pa_cons (pe_callTy call_rng1 rfl T.z_range bt_range (pa_cons (vr 2) pa_nil)) pa_nil))) (pss_cons (ps_set (i := 4) sc_L_order.nd rfl (Or.inl rfl) (pe_lst pa_nil)) (pss_cons (ps_for PassesOwn.never rfl (pi_any (pe_call G_L_row hr rfl T.m_L_row T.F_L_row.kp T.B_L_row .nil pass0 (pa_cons (vr 0) (pa_cons (vr 1) (pa_cons (vr 2) (pa_cons pe_int pa_nil)))))) (pg_name (i := 5) sc_L_order.nd rfl (Or.inl rfl)) (pss_one (ps_expr (pe_m.append (vr 4) (pa_cons (pe_m.popAt (vr 3) (pa_cons (pe_op o_mod (vr 5) (pe_callB call_lenM rfl T.z_len bt_len (pa_cons (vr 3) pa_nil))) pa_nil)) pa_nil))))) (pss_one (ps_ret (vr 4)))))), ?_⟩
    refine ⟨_, rfl, fun rg frg => ⟨rg, n, rfl, by omega, upd_same, fun lf flf => ?_⟩⟩
    have s1 := Same.new (o := .rng 0 (n : Int)) frg
    have s2 := s1.trans (Same.new (o := .lst ((List.range n).map fun (i : Nat) => V.int (i : Int))) flf)
    have hlf : (upd (upd H rg (.rng 0 (n : Int))) lf (.lst ((List.range n).map fun (i : Nat) => V.int (i : Int)))) lf = some (.lst ((List.range n).map fun (i : Nat) => V.int (i : Int))) := upd_same
    have flf0 : H lf = none := by
      cases hh : H lf with
      | none => rfl
      | some o => rw [s1 _ _ hh] at flf; cases flf
    generalize upd (upd H rg (.rng 0 (n : Int))) lf (.lst ((List.range n).map fun (i : Nat) => V.int (i : Int))) = H2 at s2 hlf
    refine ⟨Nat.zero_le _, fun od fod => ?_⟩
    have s3 := s2.trans (Same.new (o := .lst []) fod)
    have hod : (upd H2 od (.lst [])) od = some (.lst []) := upd_same
    have hlf3 := Same.new (o := .lst []) fod _ _ hlf
    have nod : od ≠ lf := fun z => by rw [z, hlf] at fod; cases fod
    have fod0 : H od = none := by
      cases hh : H od with
      | none => rfl
      | some o => rw [s2 _ _ hh] at fod; cases fod
    generalize upd H2 od (.lst []) = H3 at s3 hod hlf3
    refine ⟨c, b, (n : Int), 24, rfl, by omega, by omega, by decide, by decide, fun H4 pr picks s4 fpr hpr hpl hpb => ?_⟩
    refine .inl ⟨⟨_, SqL.of hpr⟩, ?_⟩
    have npl : pr ≠ lf := fun z => by rw [z, hlf3] at fpr; cases fpr
    have npo : pr ≠ od := fun z => by rw [z, hod] at fpr; cases fpr
    refine for_list (K := K) (a := pr) (xs := picks.map V.int) (fun i σ H' => ∃ (L O : List Nat) (x5 : Option V), H' pr = some (.lst (picks.map V.int)) ∧ Same H H' ∧ H' lf = some (.lst (L.map fun (i : Nat) => V.int (i : Int))) ∧ H' od = some (.lst (O.map fun (i : Nat) => V.int (i : Int))) ∧ (O ++ L).Perm (List.range n) ∧ O.length = i ∧ σ = [some (.int c), some (.int b), some (.int (n : Int)), some (.ref lf), some (.ref od), x5]) ⟨List.range n, [], none, hpr, s3.trans s4, s4 _ _ hlf3, s4 _ _ hod, List.Perm.refl _, rfl, rfl⟩ (fun i σ H' _ h => by obtain ⟨L, O, x5, h, _⟩ := h; exact SqL.of h) ?_ ?_
    · rintro i x σ H' hx ⟨L, O, x5, hp', s5, hL, hO, hperm, hol, rfl⟩
      rw [List.getElem?_map] at hx
      cases hpi : picks[i]? with
      | none => rw [hpi] at hx; cases hx
      | some pk =>
        rw [hpi] at hx
        cases hx
        have ilt : i < picks.length := (List.getElem?_eq_some_iff.mp hpi).1
        have hll : O.length + L.length = n := by rw [← List.length_append, hperm.length_eq, List.length_range]
        have hLp : 0 < L.length := by omega
        have m0 := Int.emod_nonneg pk (show (L.length : Int) ≠ 0 by omega)
        have m1 := Int.emod_lt_of_pos pk (show (0 : Int) < (L.length : Int) by omega)
        refine ⟨.inl ⟨rfl, _, SqL.of hO⟩, ?_⟩
        refine ⟨.inl ⟨rfl, _, SqL.of hL⟩, ?_⟩
        refine ⟨_, .inl (SqL.of hL), ?_⟩
        rw [List.length_map]
        refine ⟨cp (by omega), ?_⟩
        generalize hk : pk % (L.length : Int) = kk at *
        obtain ⟨k, rfl⟩ : ∃ k : Nat, kk = (k : Int) := ⟨kk.toNat, by omega⟩
        have hkl : k < L.length := by omega
        refine ⟨lf, _, (k : Int), k, .int (L[k] : Nat), rfl, (by show [V.int (pk % (L.length : Int))] = [V.int (k : Int)]; rw [hk]), hL, by omega, by omega, seqIx (by rw [List.length_map]; exact hkl), by rw [List.getElem?_map, List.getElem?_eq_getElem hkl]; rfl, ?_⟩
        have hO2 : (upd H' lf (.lst ((L.map fun (i : Nat) => V.int (i : Int)).eraseIdx k))) od = some (.lst (O.map fun (i : Nat) => V.int (i : Int))) := by rw [upd_ne nod]; exact hO
        refine ⟨od, _, _, rfl, rfl, hO2, by rw [List.length_map]; omega, ?_⟩
        refine ⟨L.eraseIdx k, O ++ [L[k]], _, ?_, ?_, ?_, ?_, ?_, by rw [List.length_append, hol]; rfl, rfl⟩
        · rw [upd_ne npo, upd_ne npl]; exact hp'
        · intro b o e
          rw [upd_ne (ne_of_none e fod0), upd_ne (ne_of_none e flf0)]
          exact s5 _ _ e
        · rw [upd_ne (Ne.symm nod), upd_same, eraseIdx_map]
        · rw [upd_same, List.map_append]; rfl
        · rw [List.append_assoc]
          refine List.Perm.trans (List.Perm.append_left O ?_) hperm
          exact erase_perm hkl
    · rintro σ H' ⟨L, O, x5, hp', s5, hL, hO, hperm, hol, rfl⟩
      rw [List.length_map] at hol
      have hll : O.length + L.length = n := by rw [← List.length_append, hperm.length_eq, List.length_range]
      have : L = [] := List.length_eq_zero_iff.mp (by omega)
      rw [this, List.append_nil] at hperm
      exact q _ od O s5 fod0 hO hperm
end
end My

set_option Elab.async false
set_option linter.all false
set_option maxRecDepth 100000
set_option maxHeartbeats 4000000
namespace My
open PySem L2 FrM Du
noncomputable abbrev Lm : Nat := 2 ^ 980
theorem lt_mul {D B : Nat} (hB : 0 < B) (h : D * B < Lm) : D < Lm := Nat.lt_of_le_of_lt (Nat.le_mul_of_pos_right D hB) h
theorem B_lm {B : Nat} (h : B ≤ 1000000000) : B < Lm := Nat.lt_of_le_of_lt h (by decide +kernel)
theorem B2_lm {B : Nat} (h : B ≤ 1000000000) : 2 * B < Lm := Nat.lt_of_le_of_lt (show 2 * B ≤ 2000000000 by omega) (by decide +kernel)
/-- (place, chance) -/
noncomputable def PQ (K : PySem.W.Frag) (H : Hp) (z : Nat × Rat) (x : V) : Prop := ∃ p v, x = .ref p ∧ H p = some (.tup [.int (z.1 : Nat), v]) ∧ IsQ K H z.2 v
/-- (place, up, sure) -/
noncomputable def EQ (K : PySem.W.Frag) (H : Hp) (z : Nat × (Rat × Rat)) (x : V) : Prop := ∃ p u s, x = .ref p ∧ H p = some (.tup [.int (z.1 : Nat), u, s]) ∧ IsQ K H z.2.1 u ∧ IsQ K H z.2.2 s
theorem PQ.tk {K : PySem.W.Frag} {H H' : Hp} {z : Nat × Rat} {x : V} (k : TK H H') (h : PQ K H z x) : PQ K H' z x := let ⟨p, v, e, h1, h2⟩ := h; ⟨p, v, e, k _ _ h1, h2.tk k⟩
theorem EQ.tk {K : PySem.W.Frag} {H H' : Hp} {z : Nat × (Rat × Rat)} {x : V} (k : TK H H') (h : EQ K H z x) : EQ K H' z x := let ⟨p, u, s, e, h1, h2, h3⟩ := h; ⟨p, u, s, e, k _ _ h1, h2.tk k, h3.tk k⟩
theorem paired_imp {α β : Type} {R R' : α → β → Prop} (f : ∀ x y, R x y → R' x y) : ∀ {xs : List α} {ys : List β}, Paired R xs ys → Paired R' xs ys
  | _, _, .nil => .nil
  | _, _, .cons r t => .cons (f _ _ r) (paired_imp f t)
theorem paired_get {α β : Type} {R : α → β → Prop} : ∀ {xs : List α} {ys : List β} {i : Nat} {y : β}, Paired R xs ys → ys[i]? = some y → ∃ x, xs[i]? = some x ∧ R x y
  | _, _, _, _, .nil, h => by cases h
  | _, _, 0, _, .cons r _, h => ⟨_, rfl, by cases h; exact r⟩
  | _, _, i + 1, _, .cons _ t, h => paired_get (i := i) t h
theorem paired_snoc {α β : Type} {R : α → β → Prop} {x : α} {y : β} (h : R x y) : ∀ {xs : List α} {ys : List β}, Paired R xs ys → Paired R (xs ++ [x]) (ys ++ [y])
  | _, _, .nil => .cons h .nil
  | _, _, .cons a b => .cons a (paired_snoc h b)
theorem usStep_lt {h c : Rat} {us : Rat × Rat} (z : h + c < 1) : usStep h us c = (us.1 * (h / (h + c)), us.2) := by unfold usStep; rw [if_pos z]
theorem usStep_ge {h c : Rat} {us : Rat × Rat} (z : ¬ h + c < 1) : usStep h us c = (us.1 * ((1 - h) / (2 - (h + c))), us.2 + us.1 * ((1 - c) / (2 - (h + c)))) := by unfold usStep; rw [if_neg z]
theorem us0_lt {h c : Rat} (z : h + c < 1) : us0 h c = (c / (h + c), 0) := by unfold us0; rw [if_pos z]
theorem us0_ge {h c : Rat} (z : ¬ h + c < 1) : us0 h c = ((1 - c) / (2 - (h + c)), (1 - h) / (2 - (h + c))) := by unfold us0; rw [if_neg z]
structure Hc (B : Nat) (h c : Rat) : Prop where
  B0 : 0 < B
  B1 : B ≤ 1000000000
  hB : Bq B h
  cB : Bq B c
  h1 : h < 1
  c0 : 0 < c
  c1 : c < 1
theorem Hc.bh {B : Nat} {h c : Rat} (H : Hc B h c) : Bb h := H.hB.bb H.B0 (B_lm H.B1)
theorem Hc.bc {B : Nat} {h c : Rat} (H : Hc B h c) : Bb c := H.cB.bb H.B0 (B_lm H.B1)
theorem Hc.bs {B : Nat} {h c : Rat} (H : Hc B h c) : Bb (h + c) := (bz_add H.hB H.cB).bb H.B0 (B_lm H.B1)
theorem Hc.bs1 {B : Nat} {h c : Rat} (H : Hc B h c) : Bb (h + c - 1) := (bz_add1 H.hB H.cB).bb H.B0 (B_lm H.B1)
theorem Hc.bs2 {B : Nat} {h c : Rat} (H : Hc B h c) : Bb (2 - (h + c)) := (bz_sub2 H.hB H.cB).bb H.B0 (B_lm H.B1)
theorem Hc.b1c {B : Nat} {h c : Rat} (H : Hc B h c) : Bb (1 - c) := (bq_sub H.cB).bb H.B0 (B_lm H.B1)
theorem Hc.b1h {B : Nat} {h c : Rat} (H : Hc B h c) : Bb (1 - h) := (bq_sub H.hB).bb H.B0 (B_lm H.B1)
theorem Hc.step {B : Nat} {h c : Rat} (H : Hc B h c) : ∃ T : Nat, 0 < T ∧ T ≤ 2 * B ∧ (h + c < 1 → Bq T (h / (h + c)) ∧ Bq T (c / (h + c))) ∧ (¬ h + c < 1 → Bq T ((1 - c) / (2 - (h + c))) ∧ Bq T ((1 - h) / (2 - (h + c)))) := step_den H.B0 H.hB H.cB H.h1 H.c0 H.c1
theorem bb0 : Bb 0 := ⟨by show Bt 1000 0; unfold Bt; decide, by show Bt 1000 1; unfold Bt; decide⟩
theorem bb1 : Bb 1 := ⟨by show Bt 1000 1; unfold Bt; decide, by show Bt 1000 1; unfold Bt; decide⟩
theorem bb2 : Bb 2 := ⟨by show Bt 1000 2; unfold Bt; decide, by show Bt 1000 1; unfold Bt; decide⟩
noncomputable def spBoth (K : PySem.W.Frag) : Sp := fun vs H Q _ => ∃ (xu xs xh xc : V) (us : Rat × Rat) (h c : Rat) (D B : Nat), vs = [xu, xs, xh, xc] ∧ IsQ K H us.1 xu ∧ IsQ K H us.2 xs ∧ IsQ K H h xh ∧ IsQ K H c xc ∧ Hc B h c ∧ Pu D us ∧ 0 < D ∧ D * B < Lm ∧ ∀ H' z, Same H H' → IsQ K H' (bk us h c) z → Q z H'
noncomputable def spHeld (K : PySem.W.Frag) : Sp := fun vs H Q _ => ∃ (xh xc : V) (h c : Rat) (B : Nat), vs = [xh, xc] ∧ IsQ K H h xh ∧ IsQ K H c xc ∧ Hc B h c ∧ ∀ H' z, Same H H' → IsQ K H' (hb h c) z → Q z H'
noncomputable def spBeh (K : PySem.W.Frag) : Sp := fun vs H Q _ => ∃ (le : Addr) (xh xc : V) (p : Nat) (h c : Rat) (es : Er) (xs : List V) (D B : Nat), vs = [.ref le, xh, .int (p : Nat), xc] ∧ H le = some (.lst xs) ∧ Paired (EQ K H) es xs ∧ es.length ≤ 24 ∧ IsQ K H h xh ∧ IsQ K H c xc ∧ Hc B h c ∧ (∀ z ∈ es, Pu D z.2) ∧ 0 < D ∧ D * (2 * B) < Lm ∧
  ∀ H' l ys, Same H H' → H l = none → H' l = some (.lst ys) → Paired (EQ K H') (es.map (fun z => (z.1, usStep h z.2 c)) ++ [(p, us0 h c)]) ys → Q (.ref l) H'
section
variable {P : Program} {w : World} {K : PySem.W.Frag} {mg : Str → Option Value} {base : Heap} {a : Ad}
theorem q_whole (T : Txt K mg a) {H : Hp} : IsQ K H 1 (.ref a.k_WHOLE) := ⟨_, rfl, .inr T.t_WHOLE⟩
theorem q_nought (T : Txt K mg a) {H : Hp} : IsQ K H 0 (.ref a.k_NOUGHT) := ⟨_, rfl, .inr T.t_NOUGHT⟩
theorem q_twice (T : Txt K mg a) {H : Hp} : IsQ K H 2 (.ref a.k_TWICE) := ⟨_, rfl, .inr T.t_TWICE⟩
theorem ok_both (T : Txt K mg a) : FnOk P w K mg base CX0 4 a.f_both_kept a.d_both_kept ["up", "sure", "held", "chance"] (spBoth K) := by
  have G_plus : FnOk P w K mg base CX0 3 _ _ _ (spAri (· + ·) (fun _ => True) K) := ok_plus T
  have G_minus : FnOk P w K mg base CX0 3 _ _ _ (spAri (· - ·) (fun _ => True) K) := ok_minus T
  have G_times : FnOk P w K mg base CX0 3 _ _ _ (spAri (· * ·) (fun _ => True) K) := ok_times T
  have G_below : FnOk P w K mg base CX0 3 _ _ _ (spBel K) := (ok_below T).mono (by decide)
  refine T.F_both_kept.ok sc_both_kept (fun vs H Q E h => ?_) (fun cdv A outer s H vs Q E hr h => ?_)
  · obtain ⟨xu, xs, xh, xc, us, h, c, D, B, rfl, _⟩ := h; rfl
  · obtain ⟨xu, xs, xh, xc, us, h, c, D, B, rfl, hu, hs, hh, hc, hcB, hP, hD, hl, q⟩ := h
    refine ⟨_, (pss_cons (ps_set (i := 4) sc_both_kept.nd rfl (Or.inl rfl) (pe_call G_minus hr rfl T.m_minus T.F_minus.kp T.B_minus .nil pass0 (pa_cons (pe_call G_plus hr rfl T.m_plus T.F_plus.kp T.B_plus .nil pass0 (pa_cons (vr 2) (pa_cons (vr 3) pa_nil))) (pa_cons (pe_gl rfl T.g_WHOLE) pa_nil)))) (pss_cons (ps_set (i := 5) sc_both_kept.nd rfl (Or.inl rfl) (pe_call G_times hr rfl T.m_times T.F_times.kp T.B_times .nil pass0 (pa_cons (vr 1) (pa_cons (vr 3) pa_nil)))) (pss_one (ps_ret (pe_ifExp (t_val (pe_call G_below hr rfl T.m_below T.F_below.kp T.B_below .nil pass0 (pa_cons (pe_gl rfl T.g_NOUGHT) (pa_cons (vr 4) pa_nil)))) (pe_call G_plus hr rfl T.m_plus T.F_plus.kp T.B_plus .nil pass0 (pa_cons (vr 5) (pa_cons (pe_call G_times hr rfl T.m_times T.F_times.kp T.B_times .nil pass0 (pa_cons (vr 0) (pa_cons (vr 4) pa_nil))) pa_nil))) (vr 5)))))), ?_⟩
    obtain ⟨k1, k2, k3⟩ := hP.bk hcB.cB hcB.hB hcB.h1 hcB.c1
    have lD := lt_mul hcB.B0 hl
    have DB : 0 < D * B := Nat.mul_pos hD hcB.B0
    refine ⟨_, _, h, c, rfl, hh, hc, hcB.bh, hcB.bc, trivial, fun H1 z1 s1 q1 => ?_⟩
    refine ⟨_, _, h + c, 1, rfl, q1, q_whole T, hcB.bs, bb1, trivial, fun H2 z2 s2 q2 => ?_⟩
    have s12 := s1.trans s2
    refine ⟨_, _, us.2, c, rfl, hs.same s12, hc.same s12, hP.2.1.bb hD lD, hcB.bc, trivial, fun H3 z3 s3 q3 => ?_⟩
    have s13 := s12.trans s3
    refine ⟨_, _, 0, h + c - 1, rfl, q_nought T, q2.same s3, bb0, hcB.bs1, ?_⟩
    refine ifC (fun z => ?_) (fun z => ?_)
    · have z : 0 < h + c - 1 := z
      refine ⟨_, _, us.1, h + c - 1, rfl, hu.same s13, q2.same s3, hP.1.bb hD lD, hcB.bs1, trivial, fun H4 z4 s4 q4 => ?_⟩
      refine ⟨_, _, us.2 * c, us.1 * (h + c - 1), rfl, q3.same s4, q4, k1.bb DB hl, (k2 z).2.bb DB hl, trivial, fun H5 z5 s5 q5 => ?_⟩
      refine q _ _ (s13.trans (s4.trans s5)) ?_
      unfold bk
      rw [if_pos z]
      exact q5
    · have z : ¬ 0 < h + c - 1 := z
      refine q _ _ s13 ?_
      unfold bk
      rw [if_neg z]
      exact q3
theorem ok_held (T : Txt K mg a) : FnOk P w K mg base CX0 4 a.f_held_behind a.d_held_behind ["held", "chance"] (spHeld K) := by
  have G_plus : FnOk P w K mg base CX0 3 _ _ _ (spAri (· + ·) (fun _ => True) K) := ok_plus T
  have G_minus : FnOk P w K mg base CX0 3 _ _ _ (spAri (· - ·) (fun _ => True) K) := ok_minus T
  have G_below : FnOk P w K mg base CX0 3 _ _ _ (spBel K) := (ok_below T).mono (by decide)
  refine T.F_held_behind.ok sc_held_behind (fun vs H Q E h => ?_) (fun cdv A outer s H vs Q E hr h => ?_)
  · obtain ⟨xh, xc, h, c, B, rfl, _⟩ := h; rfl
  · obtain ⟨xh, xc, h, c, B, rfl, hh, hc, hcB, q⟩ := h
    refine ⟨_, (pss_cons (ps_set (i := 2) sc_held_behind.nd rfl (Or.inl rfl) (pe_call G_plus hr rfl T.m_plus T.F_plus.kp T.B_plus .nil pass0 (pa_cons (vr 0) (pa_cons (vr 1) pa_nil)))) (pss_one (ps_ret (pe_ifExp (t_val (pe_call G_below hr rfl T.m_below T.F_below.kp T.B_below .nil pass0 (pa_cons (vr 2) (pa_cons (pe_gl rfl T.g_WHOLE) pa_nil)))) (vr 2) (pe_call G_minus hr rfl T.m_minus T.F_minus.kp T.B_minus .nil pass0 (pa_cons (vr 2) (pa_cons (pe_gl rfl T.g_WHOLE) pa_nil))))))), ?_⟩
    refine ⟨_, _, h, c, rfl, hh, hc, hcB.bh, hcB.bc, trivial, fun H1 z1 s1 q1 => ?_⟩
    refine ⟨_, _, h + c, 1, rfl, q1, q_whole T, hcB.bs, bb1, ?_⟩
    refine ifC (fun z => ?_) (fun z => ?_)
    · have z : h + c < 1 := z
      refine q _ _ s1 ?_
      unfold hb
      rw [if_pos z]
      exact q1
    · have z : ¬ h + c < 1 := z
      refine ⟨_, _, h + c, 1, rfl, q1, q_whole T, hcB.bs, bb1, trivial, fun H2 z2 s2 q2 => ?_⟩
      refine q _ _ (s1.trans s2) ?_
      unfold hb
      rw [if_neg z]
      exact q2
theorem ok_beh (T : Txt K mg a) : FnOk P w K mg base CX0 4 a.f_behind_duel a.d_behind_duel ["earlier", "held", "place", "chance"] (spBeh K) := by
  have G_plus : FnOk P w K mg base CX0 3 _ _ _ (spAri (· + ·) (fun _ => True) K) := ok_plus T
  have G_minus : FnOk P w K mg base CX0 3 _ _ _ (spAri (· - ·) (fun _ => True) K) := ok_minus T
  have G_times : FnOk P w K mg base CX0 3 _ _ _ (spAri (· * ·) (fun _ => True) K) := ok_times T
  have G_over : FnOk P w K mg base CX0 3 _ _ _ (spAri (· / ·) (fun q => 0 < q) K) := ok_over T
  have G_below : FnOk P w K mg base CX0 3 _ _ _ (spBel K) := (ok_below T).mono (by decide)
  refine T.F_behind_duel.ok sc_behind_duel (fun vs H Q E h => ?_) (fun cdv A outer s H vs Q E hr h => ?_)
  · obtain ⟨le, xh, xc, p, h, c, es, xs, D, B, rfl, _⟩ := h; rfl
  · obtain ⟨le, xh, xc, p, h, c, es, xs, D, B, rfl, hle, hE, hl24, hh, hc, hcB, hP, hD, hlm, q⟩ := h
    have small : sizeLine = 16777216 := sizeLine_eq
    refine ⟨_, (pss_cons (ps_set (i := 4) sc_behind_duel.nd rfl (Or.inl rfl) (pe_call G_plus hr rfl T.m_plus T.F_plus.kp T.B_plus .nil pass0 (pa_cons (vr 1) (pa_cons (vr 3) pa_nil)))) (pss_cons (ps_if (t_val (pe_call G_below hr rfl T.m_below T.F_below.kp T.B_below .nil pass0 (pa_cons (vr 4) (pa_cons (pe_gl rfl T.g_WHOLE) pa_nil)))) (pss_cons (ps_set (i := 5) sc_behind_duel.nd rfl (Or.inr rfl) (pe_call G_over hr rfl T.m_over T.F_over.kp T.B_over .nil pass0 (pa_cons (vr 1) (pa_cons (vr 4) pa_nil)))) (pss_cons (ps_setC rfl (i := 6) sc_behind_duel.nd rfl rfl (by with_unfolding_all rfl) (N := ["one", "up", "sure", "stays"]) (ix := [none, none, none, some 5]) ⟨rfl, rfl, rfl, rfl, ⟨rfl, rfl, rfl, trivial⟩⟩ (pi_any (vr 0)) ⟨fun C s H fp => (pg_tupK (K := K) (n := 3) rfl rfl (pgs_cons (pg_name (i := 0) (show List.Nodup (["one", "up", "sure", "stays"] : List Str) by decide +kernel) rfl (Or.inl rfl)) (pgs_cons (pg_name (i := 1) (show List.Nodup (["one", "up", "sure", "stays"] : List Str) by decide +kernel) rfl (Or.inl rfl)) (pgs_cons (pg_name (i := 2) (show List.Nodup (["one", "up", "sure", "stays"] : List Str) by decide +kernel) rfl (Or.inl rfl)) pgs_nil)))), fun C s H fp => pts_nil, fun C s H fp => (pe_tup (pa_cons (vr 0) (pa_cons (pe_call G_times hr rfl T.m_times T.F_times.kp T.B_times .nil pass0 (pa_cons (vr 1) (pa_cons (vr 3) pa_nil))) (pa_cons (vr 2) pa_nil))))⟩) (pss_one (ps_ret (pe_op op_cat (vr 6) (pe_lst (pa_cons (pe_tup (pa_cons (vr 2) (pa_cons (pe_call G_over hr rfl T.m_over T.F_over.kp T.B_over .nil pass0 (pa_cons (vr 3) (pa_cons (vr 4) pa_nil))) (pa_cons (pe_gl rfl T.g_NOUGHT) pa_nil)))) pa_nil))))))) pss_nil) (pss_cons (ps_set (i := 7) sc_behind_duel.nd rfl (Or.inl rfl) (pe_call G_minus hr rfl T.m_minus T.F_minus.kp T.B_minus .nil pass0 (pa_cons (pe_gl rfl T.g_TWICE) (pa_cons (vr 4) pa_nil)))) (pss_cons (ps_set (i := 8) sc_behind_duel.nd rfl (Or.inr rfl) (pe_call G_over hr rfl T.m_over T.F_over.kp T.B_over .nil pass0 (pa_cons (pe_call G_minus hr rfl T.m_minus T.F_minus.kp T.B_minus .nil pass0 (pa_cons (pe_gl rfl T.g_WHOLE) (pa_cons (vr 3) pa_nil))) (pa_cons (vr 7) pa_nil)))) (pss_cons (ps_set (i := 9) sc_behind_duel.nd rfl (Or.inr rfl) (pe_call G_over hr rfl T.m_over T.F_over.kp T.B_over .nil pass0 (pa_cons (pe_call G_minus hr rfl T.m_minus T.F_minus.kp T.B_minus .nil pass0 (pa_cons (pe_gl rfl T.g_WHOLE) (pa_cons (vr 1) pa_nil))) (pa_cons (vr 7) pa_nil)))) (pss_cons (ps_setC rfl (i := 6) sc_behind_duel.nd rfl rfl (by with_unfolding_all rfl) (N := ["one", "up", "sure", "back", "ahead"]) (ix := [none, none, none, some 9, some 8]) ⟨rfl, rfl, rfl, rfl, ⟨rfl, rfl, rfl, ⟨rfl, rfl, rfl, trivial⟩⟩⟩ (pi_any (vr 0)) ⟨fun C s H fp => (pg_tupK (K := K) (n := 3) rfl rfl (pgs_cons (pg_name (i := 0) (show List.Nodup (["one", "up", "sure", "back", "ahead"] : List Str) by decide +kernel) rfl (Or.inl rfl)) (pgs_cons (pg_name (i := 1) (show List.Nodup (["one", "up", "sure", "back", "ahead"] : List Str) by decide +kernel) rfl (Or.inl rfl)) (pgs_cons (pg_name (i := 2) (show List.Nodup (["one", "up", "sure", "back", "ahead"] : List Str) by decide +kernel) rfl (Or.inl rfl)) pgs_nil)))), fun C s H fp => pts_nil, fun C s H fp => (pe_tup (pa_cons (vr 0) (pa_cons (pe_call G_times hr rfl T.m_times T.F_times.kp T.B_times .nil pass0 (pa_cons (vr 1) (pa_cons (vr 3) pa_nil))) (pa_cons (pe_call G_plus hr rfl T.m_plus T.F_plus.kp T.B_plus .nil pass0 (pa_cons (vr 2) (pa_cons (pe_call G_times hr rfl T.m_times T.F_times.kp T.B_times .nil pass0 (pa_cons (vr 1) (pa_cons (vr 4) pa_nil))) pa_nil))) pa_nil))))⟩) (pss_one (ps_ret (pe_op op_cat (vr 6) (pe_lst (pa_cons (pe_tup (pa_cons (vr 2) (pa_cons (vr 8) (pa_cons (vr 9) pa_nil)))) pa_nil))))))))))), ?_⟩
    obtain ⟨TT, t0, t1, hT⟩ := hcB.step
    have h0 := hcB.hB.1
    have lD : D < Lm := lt_mul (show 0 < 2 * B by have := hcB.B0; omega) hlm
    have lT : TT < Lm := Nat.lt_of_le_of_lt t1 (B2_lm hcB.B1)
    have lDT : D * TT < Lm := Nat.lt_of_le_of_lt (Nat.mul_le_mul_left D t1) hlm
    have DT0 : 0 < D * TT := Nat.mul_pos hD t0
    have hxl : xs.length = es.length := (Paired.length hE).symm
    refine ⟨_, _, h, c, rfl, hh, hc, hcB.bh, hcB.bc, trivial, fun H1 z1 s1 q1 => ?_⟩
    refine ⟨_, _, h + c, 1, rfl, q1, q_whole T, hcB.bs, bb1, ?_⟩
    have sp : 0 < h + c := by have := hcB.c0; grind
    refine ifC (fun z => ?_) (fun z => ?_)
    · have z : h + c < 1 := z
      obtain ⟨t2, t3⟩ := hT.1 z
      refine ⟨_, _, h, h + c, rfl, hh.same s1, q1, hcB.bh, hcB.bs, sp, fun H2 z2 s2 q2 => ?_⟩
      have s02 := s1.trans s2
      have hle2 := s02 _ _ hle
      have hE2 := paired_imp (fun z x (h : EQ K H z x) => h.tk s02.tk) hE
      refine .inl ⟨⟨_, SqL.of hle2⟩, fun E0 hE0 => ?_⟩
      refine comp_list (K := K) (a := le) (xs := xs) (fun i ys H' => i ≤ xs.length ∧ Same H2 H' ∧ H' E0 = some (.lst ys) ∧ Paired (EQ K H') ((es.take i).map fun z => (z.1, usStep h z.2 c)) ys) ⟨Nat.zero_le _, Same.new hE0, upd_same, .nil⟩ (fun i ys H' h => SqL.of (h.2.1 _ _ hle2)) (fun i ys H' h => h.2.2.1) ?_ ?_
      · rintro i y ys H' P' hy ⟨hi, s3, hD3, hys⟩ hP'
        obtain ⟨⟨o, us⟩, hei, pp, u, sv, rfl, g1, g2, g3⟩ := paired_get (paired_imp (fun z x (h : EQ K H2 z x) => h.tk s3.tk) hE2) hy
        have ilt : i < xs.length := (List.getElem?_eq_some_iff.mp hy).1
        have hPi := hP _ (List.mem_of_getElem? hei)
        have yl : ys.length ≤ 24 := by rw [← Paired.length hys, List.length_map, List.length_take]; omega
        refine ⟨pp, _, rfl, SqT.of g1, rfl, _, _, rfl, _, _, rfl, _, _, rfl, rfl, ⟨rfl, trivial⟩, ?_⟩
        refine ⟨_, _, us.1, h / (h + c), rfl, g2, q2.same s3, hPi.1.bb hD lD, t2.bb t0 lT, trivial, fun H4 z4 s4 q4 => ?_⟩
        refine ⟨(by show 3 ≤ sizeLine; decide), fun np fnp => ?_⟩
        have s5 := Same.new (o := .tup [.int (o : Nat), z4, sv]) fnp
        have hD5 := s5 _ _ (s4 _ _ hD3)
        have ne : np ≠ E0 := fun z => by rw [z, s4 _ _ hD3] at fnp; cases fnp
        have tk5 : TK H4 (upd (upd H4 np (.tup [.int (o : Nat), z4, sv])) E0 (.lst (ys ++ [.ref np]))) := s5.tk.trans (TK.lst hD5)
        refine ⟨hD5, by omega, hP' _ _ ⟨ilt, ((s3.trans s4).trans s5).put hE0, upd_same, ?_⟩⟩
        rw [List.take_add_one, hei, List.map_append]
        refine paired_snoc ⟨np, z4, sv, rfl, by rw [upd_ne ne]; exact upd_same, ?_, ?_⟩ (paired_imp (fun z x (h : EQ K H' z x) => (h.tk s4.tk).tk tk5) hys)
        · show IsQ K _ (usStep h us c).1 z4; rw [usStep_lt z]; exact q4.tk tk5
        · show IsQ K _ (usStep h us c).2 sv; rw [usStep_lt z]; exact (g3.same s4).tk tk5
      · rintro ys H' ⟨_, s3, hD3, hys⟩
        rw [hxl, List.take_length] at hys
        have s03 := s02.trans s3
        refine ⟨_, _, c, h + c, rfl, hc.same s03, q1.same (s2.trans s3), hcB.bc, hcB.bs, sp, fun H4 z4 s4 q4 => ?_⟩
        refine ⟨(by show 3 ≤ sizeLine; decide), fun np fnp => ?_⟩
        have s5 := Same.new (o := .tup [.int (p : Nat), z4, .ref a.k_NOUGHT]) fnp
        refine ⟨(by show 1 ≤ sizeLine; decide), fun l1 fl1 => ?_⟩
        have s6 := Same.new (o := .lst [.ref np]) fl1
        have s46 := s4.trans (s5.trans s6)
        have yl : ys.length ≤ 24 := by rw [← Paired.length hys, List.length_map]; omega
        refine ⟨E0, l1, _, _, rfl, rfl, s46 _ _ hD3, upd_same, by simp; omega, fun l2 fl2 => ?_⟩
        have s7 := Same.new (o := .lst (ys ++ [.ref np])) fl2
        have s47 := s46.trans s7
        refine q _ l2 _ (s03.trans s47) ((s03.trans s46).free fl2) upd_same ?_
        refine paired_snoc ⟨np, z4, _, rfl, (s6.trans s7) _ _ upd_same, ?_, ?_⟩ (paired_imp (fun z x (h : EQ K H' z x) => h.tk s47.tk) hys)
        · show IsQ K _ (us0 h c).1 z4; rw [us0_lt z]; exact q4.same (s5.trans (s6.trans s7))
        · show IsQ K _ (us0 h c).2 _; rw [us0_lt z]; exact q_nought T
    · have z : ¬ h + c < 1 := z
      obtain ⟨t2, t3⟩ := hT.2 z
      have sp2 : 0 < 2 - (h + c) := by have := hcB.h1; have := hcB.c1; grind
      refine ⟨_, _, 2, h + c, rfl, q_twice T, q1, bb2, hcB.bs, trivial, fun H2 z2 s2 q2 => ?_⟩
      have s02 := s1.trans s2
      refine ⟨_, _, 1, c, rfl, q_whole T, hc.same s02, bb1, hcB.bc, trivial, fun H3 z3 s3 q3 => ?_⟩
      refine ⟨_, _, 1 - c, 2 - (h + c), rfl, q3, q2.same s3, hcB.b1c, hcB.bs2, sp2, fun H4 z4 s4 q4 => ?_⟩
      have s04 := s02.trans (s3.trans s4)
      refine ⟨_, _, 1, h, rfl, q_whole T, hh.same s04, bb1, hcB.bh, trivial, fun H5 z5 s5 q5 => ?_⟩
      refine ⟨_, _, 1 - h, 2 - (h + c), rfl, q5, q2.same (s3.trans (s4.trans s5)), hcB.b1h, hcB.bs2, sp2, fun H6 z6 s6 q6 => ?_⟩
      have s46 := s5.trans s6
      have s06 := s04.trans s46
      have qa := q4.same s46
      have hle6 := s06 _ _ hle
      have hE6 := paired_imp (fun z x (h : EQ K H z x) => h.tk s06.tk) hE
      refine .inl ⟨⟨_, SqL.of hle6⟩, fun E0 hE0 => ?_⟩
      refine comp_list (K := K) (a := le) (xs := xs) (fun i ys H' => i ≤ xs.length ∧ Same H6 H' ∧ H' E0 = some (.lst ys) ∧ Paired (EQ K H') ((es.take i).map fun z => (z.1, usStep h z.2 c)) ys) ⟨Nat.zero_le _, Same.new hE0, upd_same, .nil⟩ (fun i ys H' h => SqL.of (h.2.1 _ _ hle6)) (fun i ys H' h => h.2.2.1) ?_ ?_
      · rintro i y ys H' P' hy ⟨hi, s7, hD7, hys⟩ hP'
        obtain ⟨⟨o, us⟩, hei, pp, u, sv, rfl, g1, g2, g3⟩ := paired_get (paired_imp (fun z x (h : EQ K H6 z x) => h.tk s7.tk) hE6) hy
        have ilt : i < xs.length := (List.getElem?_eq_some_iff.mp hy).1
        have hPi := hP _ (List.mem_of_getElem? hei)
        have yl : ys.length ≤ 24 := by rw [← Paired.length hys, List.length_map, List.length_take]; omega
        refine ⟨pp, _, rfl, SqT.of g1, rfl, _, _, rfl, _, _, rfl, _, _, rfl, rfl, ⟨rfl, rfl, trivial⟩, ?_⟩
        refine ⟨_, _, us.1, (1 - h) / (2 - (h + c)), rfl, g2, q6.same s7, hPi.1.bb hD lD, t3.bb t0 lT, trivial, fun H8 z8 s8 q8 => ?_⟩
        refine ⟨_, _, us.1, (1 - c) / (2 - (h + c)), rfl, g2.same s8, qa.same (s7.trans s8), hPi.1.bb hD lD, t2.bb t0 lT, trivial, fun H9 z9 s9 q9 => ?_⟩
        refine ⟨_, _, us.2, us.1 * ((1 - c) / (2 - (h + c))), rfl, g3.same (s8.trans s9), q9, hPi.2.1.bb hD lD, (hPi.1.mul t2).bb DT0 lDT, trivial, fun HA zA sA qA => ?_⟩
        refine ⟨(by show 3 ≤ sizeLine; decide), fun np fnp => ?_⟩
        have s8A := s8.trans (s9.trans sA)
        have sB := Same.new (o := .tup [.int (o : Nat), z8, zA]) fnp
        have hDB := sB _ _ (s8A _ _ hD7)
        have ne : np ≠ E0 := fun z => by rw [z, s8A _ _ hD7] at fnp; cases fnp
        have tkB : TK HA (upd (upd HA np (.tup [.int (o : Nat), z8, zA])) E0 (.lst (ys ++ [.ref np]))) := sB.tk.trans (TK.lst hDB)
        refine ⟨hDB, by omega, hP' _ _ ⟨ilt, ((s7.trans s8A).trans sB).put hE0, upd_same, ?_⟩⟩
        rw [List.take_add_one, hei, List.map_append]
        refine paired_snoc ⟨np, z8, zA, rfl, by rw [upd_ne ne]; exact upd_same, ?_, ?_⟩ (paired_imp (fun z x (h : EQ K H' z x) => (h.tk s8A.tk).tk tkB) hys)
        · show IsQ K _ (usStep h us c).1 z8; rw [usStep_ge z]; exact (q8.same (s9.trans sA)).tk tkB
        · show IsQ K _ (usStep h us c).2 zA; rw [usStep_ge z]; exact qA.tk tkB
      · rintro ys H' ⟨_, s7, hD7, hys⟩
        rw [hxl, List.take_length] at hys
        have s07 := s06.trans s7
        refine ⟨(by show 3 ≤ sizeLine; decide), fun np fnp => ?_⟩
        have s8 := Same.new (o := .tup [.int (p : Nat), z4, z6]) fnp
        refine ⟨(by show 1 ≤ sizeLine; decide), fun l1 fl1 => ?_⟩
        have s9 := Same.new (o := .lst [.ref np]) fl1
        have s89 := s8.trans s9
        have yl : ys.length ≤ 24 := by rw [← Paired.length hys, List.length_map]; omega
        refine ⟨E0, l1, _, _, rfl, rfl, s89 _ _ hD7, upd_same, by simp; omega, fun l2 fl2 => ?_⟩
        have sA := Same.new (o := .lst (ys ++ [.ref np])) fl2
        have s8A := s89.trans sA
        refine q _ l2 _ (s07.trans s8A) ((s07.trans s89).free fl2) upd_same ?_
        refine paired_snoc ⟨np, z4, z6, rfl, (s9.trans sA) _ _ upd_same, ?_, ?_⟩ (paired_imp (fun z x (h : EQ K H' z x) => h.tk s8A.tk) hys)
        · show IsQ K _ (us0 h c).1 z4; rw [us0_ge z]; exact qa.same (s7.trans s8A)
        · show IsQ K _ (us0 h c).2 z6; rw [us0_ge z]; exact q6.same (s7.trans s8A)
end
end My

set_option Elab.async false
set_option linter.all false
set_option maxRecDepth 100000
set_option maxHeartbeats 4000000
namespace My
open PySem L2 FrM Du
/-- the key (a, b) -/
noncomputable def ky (x y : Nat) : List Key := [.inl (x : Int), .inl (y : Int)]
theorem ky_inj {x y x' y' : Nat} (h : ky x y = ky x' y') : x = x' ∧ y = y' := by
  unfold ky at h
  simp at h
  omega
/-- what a dict tells of pairs -/
noncomputable def DF (K : PySem.W.Frag) (H : Hp) (kvs : List (List Key × V)) (f : Fn) : Prop := ∀ x y : Nat, (∀ v, f x y = some v → ∃ z, valV kvs (ky x y) = some z ∧ IsQ K H v z) ∧ (f x y = none → valV kvs (ky x y) = none)
theorem DF.tk {K : PySem.W.Frag} {H H' : Hp} {kvs : List (List Key × V)} {f : Fn} (k : TK H H') (h : DF K H kvs f) : DF K H' kvs f := fun x y => ⟨fun v e => let ⟨z, h1, h2⟩ := (h x y).1 v e; ⟨z, h1, h2.tk k⟩, (h x y).2⟩
theorem DF.put {K : PySem.W.Frag} {H : Hp} {kvs : List (List Key × V)} {f : Fn} {x y : Nat} {v : Rat} {z : V} (h : DF K H kvs f) (hz : IsQ K H v z) : DF K H (putK kvs (ky x y) z) (setF f x y v) := fun a b => by
  rw [valV_put]
  by_cases c : a = x ∧ b = y
  · obtain ⟨rfl, rfl⟩ := c
    rw [if_pos rfl, setF_eq]
    exact ⟨(fun v e => by cases e; exact ⟨z, rfl, hz⟩), (fun e => by cases e)⟩
  · rw [if_neg (fun e => c (ky_inj e)), setF_ne c]
    exact h a b
theorem TK.dT {H : Hp} {d : Addr} {kvs : List (List Key × V)} {o : HO} (h : H d = some (.dT kvs)) : TK H (upd H d o) := fun b xs e => by rw [upd_ne (fun z => by rw [z, h] at e; cases e)]; exact e
theorem Dn_lm {B i : Nat} (hB : B ≤ 1000000000) (hi : i ≤ 24) : (2 * B) ^ i * (2 * B) < Lm := by
  have h1 : 2 * B ≤ 2 ^ 31 := by omega
  have h2 : (2 * B) ^ i ≤ (2 ^ 31) ^ i := Nat.pow_le_pow_left h1 i
  have h3 : (2 ^ 31) ^ i ≤ (2 ^ 31) ^ 24 := Nat.pow_le_pow_right (by decide) hi
  have h4 : (2 * B) ^ i * (2 * B) ≤ (2 ^ 31) ^ 24 * 2 ^ 31 := Nat.mul_le_mul (Nat.le_trans h2 h3) h1
  exact Nat.lt_of_le_of_lt h4 (by decide +kernel)
/-- the state of kept_together behind i of the list -/
structure KtS (B : Nat) (L : List (Nat × Rat)) (i : Nat) (S : Fn × Er × Rat) : Prop where
  eq : S = (L.take i).foldl kStep k0
  hB : Bq B S.2.2
  h1 : S.2.2 < 1
  len : S.2.1.length = i
  D : ∃ D, 0 < D ∧ D ≤ (2 * B) ^ i ∧ ∀ z ∈ S.2.1, Pu D z.2
theorem KtS.start {B : Nat} {L : List (Nat × Rat)} : KtS B L 0 k0 := ⟨rfl, Bq.zero, by show (0 : Rat) < 1; grind, rfl, 1, by decide, by simp, fun z hz => by cases hz⟩
theorem KtS.step {B : Nat} {L : List (Nat × Rat)} {i : Nat} {S : Fn × Er × Rat} {z : Nat × Rat} (k : KtS B L i S) (B0 : 0 < B) (B1 : B ≤ 1000000000) (hz : L[i]? = some z) (hq : Bq B z.2) (hu : Uns z.2) : Hc B S.2.2 z.2 ∧ KtS B L (i + 1) (kStep S z) := by
  have hc : Hc B S.2.2 z.2 := ⟨B0, B1, k.hB, hq, k.h1, hu.1, hu.2⟩
  refine ⟨hc, ?_, bq_hb k.hB hq k.h1 hu.2, (hb_ok k.hB.1 k.h1 hu.1 hu.2).2, ?_, ?_⟩
  · rw [List.take_add_one, hz, List.foldl_append, ← k.eq]; rfl
  · show (S.2.1.map _ ++ [_]).length = i + 1
    rw [List.length_append, List.length_map, k.len]; rfl
  · obtain ⟨D, d0, d1, hP⟩ := k.D
    obtain ⟨T, t0, t1, hT⟩ := hc.step
    refine ⟨D * T, Nat.mul_pos d0 t0, ?_, fun y hy => ?_⟩
    · rw [Nat.pow_succ]; exact Nat.mul_le_mul d1 t1
    · have hy : y ∈ S.2.1.map (fun w => (w.1, usStep S.2.2 w.2 z.2)) ++ [(z.1, us0 S.2.2 z.2)] := hy
      rcases List.mem_append.mp hy with m | m
      · obtain ⟨w, hw, rfl⟩ := List.mem_map.mp m
        exact (hP w hw).step (B := B) k.hB.1 k.h1 hu.1 hu.2 hT
      · cases List.mem_singleton.mp m
        exact (Pu.new k.hB.1 k.h1 hu.1 hu.2 hT).up D
noncomputable def spKept (K : PySem.W.Frag) : Sp := fun vs H Q _ => ∃ (lt : Addr) (xs : List V) (L : List (Nat × Rat)) (B : Nat), vs = [.ref lt] ∧ H lt = some (.lst xs) ∧ Paired (PQ K H) L xs ∧ L.length ≤ 24 ∧ 0 < B ∧ B ≤ 1000000000 ∧ (∀ z ∈ L, Bq B z.2 ∧ Uns z.2) ∧
  ∀ H' d kvs, Same H H' → H d = none → H' d = some (.dT kvs) → DF K H' kvs (keptF L) → Q (.ref d) H'
section
variable {P : Program} {w : World} {K : PySem.W.Frag} {mg : Str → Option Value} {base : Heap} {a : Ad}
theorem ok_kept (T : Txt K mg a) : FnOk P w K mg base CX0 5 a.f_kept_together a.d_kept_together ["told"] (spKept K) := by
  have G_both_kept : FnOk P w K mg base CX0 4 _ _ _ (spBoth K) := ok_both T
  have G_behind_duel : FnOk P w K mg base CX0 4 _ _ _ (spBeh K) := ok_beh T
  have G_held_behind : FnOk P w K mg base CX0 4 _ _ _ (spHeld K) := ok_held T
  refine T.F_kept_together.ok sc_kept_together (fun vs H Q E h => ?_) (fun cdv A outer s H vs Q E hr h => ?_)
  · obtain ⟨lt, xs, L, B, rfl, _⟩ := h; rfl
  · obtain ⟨lt, xs, L, B, rfl, hlt, hL, hl24, B0, B1, hq, q⟩ := h
    have small : sizeLine = 16777216 := sizeLine_eq
    have hxl : xs.length = L.length := (Paired.length hL).symm
    refine ⟨_, (pss_cons (ps_set (i := 1) sc_kept_together.nd rfl (Or.inl rfl) pe_dnewT) (pss_cons (ps_set (i := 2) sc_kept_together.nd rfl (Or.inl rfl) (pe_lst pa_nil)) (pss_cons (ps_set (i := 3) sc_kept_together.nd rfl (Or.inl rfl) (pe_gl rfl T.g_NOUGHT)) (pss_cons (ps_for PassesOwn.never rfl (pi_any (vr 0)) (pg_tup rfl (pgs_cons (pg_name (i := 4) sc_kept_together.nd rfl (Or.inl rfl)) (pgs_cons (pg_name (i := 5) sc_kept_together.nd rfl (Or.inl rfl)) pgs_nil))) (pss_cons (ps_for PassesOwn.never rfl (pi_any (vr 2)) (pg_tup rfl (pgs_cons (pg_name (i := 6) sc_kept_together.nd rfl (Or.inl rfl)) (pgs_cons (pg_name (i := 7) sc_kept_together.nd rfl (Or.inl rfl)) (pgs_cons (pg_name (i := 8) sc_kept_together.nd rfl (Or.inl rfl)) pgs_nil)))) (pss_cons (ps_dput (hu_of hr) (vr 1) (pe_tup (pa_cons (vr 6) (pa_cons (vr 4) pa_nil))) (pe_call G_both_kept hr rfl T.m_both_kept T.F_both_kept.kp T.B_both_kept .nil pass0 (pa_cons (vr 7) (pa_cons (vr 8) (pa_cons (vr 3) (pa_cons (vr 5) pa_nil))))) rfl) (pss_one (ps_dput (hu_of hr) (vr 1) (pe_tup (pa_cons (vr 4) (pa_cons (vr 6) pa_nil))) (pe_dget (hu_of hr) (vr 1) (pe_tup (pa_cons (vr 6) (pa_cons (vr 4) pa_nil))) (fun _ _ => rfl)) rfl)))) (pss_cons (ps_set (i := 2) sc_kept_together.nd rfl (Or.inl rfl) (pe_call G_behind_duel hr rfl T.m_behind_duel T.F_behind_duel.kp T.B_behind_duel .nil pass0 (pa_cons (vr 2) (pa_cons (vr 3) (pa_cons (vr 4) (pa_cons (vr 5) pa_nil)))))) (pss_one (ps_set (i := 3) sc_kept_together.nd rfl (Or.inl rfl) (pe_call G_held_behind hr rfl T.m_held_behind T.F_held_behind.kp T.B_held_behind .nil pass0 (pa_cons (vr 3) (pa_cons (vr 5) pa_nil)))))))) (pss_one (ps_ret (vr 1))))))), ?_⟩
    intro d fd
    have s1 := Same.new (o := .dT []) fd
    have hd1 := upd_same (H := H) (a := d) (o := .dT [])
    generalize upd H d (.dT []) = H1 at s1 hd1
    refine ⟨Nat.zero_le _, fun le0 fle0 => ?_⟩
    have s2 := Same.new (o := .lst []) fle0
    have s12 := s1.trans s2
    have hd2 := s2 _ _ hd1
    have hle2 := upd_same (H := H1) (a := le0) (o := .lst [])
    have nl0 : H le0 = none := s1.free fle0
    generalize upd H1 le0 (.lst []) = H2 at s2 s12 hd2 hle2
    refine .inl ⟨⟨_, SqL.of (s12 _ _ hlt)⟩, for_list (K := K) (a := lt) (xs := xs) (fun i σ H' => ∃ (S : Fn × Er × Rat) (kvs : List (List Key × V)) (le : Addr) (es : List V) (xh : V) (x4 x5 x6 x7 x8 : Option V), KtS B L i S ∧ Same H H' ∧ H' d = some (.dT kvs) ∧ kvs.length ≤ 48 * i ∧ DF K H' kvs S.1 ∧ H' le = some (.lst es) ∧ Paired (EQ K H') S.2.1 es ∧ IsQ K H' S.2.2 xh ∧ σ = [some (.ref lt), some (.ref d), some (.ref le), some xh, x4, x5, x6, x7, x8])
      ⟨k0, [], le0, [], _, none, none, none, none, none, KtS.start, s12, hd2, Nat.zero_le _, (fun x y => ⟨(fun v e => by cases e), fun _ => rfl⟩), hle2, .nil, q_nought T, rfl⟩ (fun i σ H' _ h => ?_) ?_ ?_⟩
    · obtain ⟨S, kvs, le, es, xh, x4, x5, x6, x7, x8, k, sH, _⟩ := h
      exact SqL.of (sH _ _ hlt)
    · rintro i x σ H' hx ⟨S, kvs, le, es, xh, x4, x5, x6, x7, x8, k, sH, hd, hkl, hF, hle, hE, hh, rfl⟩
      obtain ⟨⟨pl, c⟩, hzi, pp, vc, rfl, g1, g2⟩ := paired_get (paired_imp (fun z x (h : PQ K H z x) => h.tk sH.tk) hL) hx
      have ilt : i < L.length := (List.getElem?_eq_some_iff.mp hzi).1
      obtain ⟨hqz, huz⟩ := hq _ (List.mem_of_getElem? hzi)
      obtain ⟨hc, kn⟩ := k.step B0 B1 hzi hqz huz
      obtain ⟨D, d0, d1, hP⟩ := k.D
      have lDB2 : D * (2 * B) < Lm := Nat.lt_of_le_of_lt (Nat.mul_le_mul_right _ d1) (Dn_lm B1 (by omega))
      have lDB : D * B < Lm := Nat.lt_of_le_of_lt (Nat.mul_le_mul_left D (by omega)) lDB2
      have hel : es.length = i := by rw [← Paired.length hE]; exact k.len
      refine ⟨pp, _, rfl, SqT.of g1, rfl, _, _, rfl, _, _, rfl, rfl, ?_⟩
      refine .inl ⟨⟨_, SqL.of hle⟩, for_list (K := K) (a := le) (xs := es) (fun j σ H2 => ∃ (kvs2 : List (List Key × V)) (x6 x7 x8 : Option V), (∀ b o, b ≠ d → H' b = some o → H2 b = some o) ∧ H2 d = some (.dT kvs2) ∧ kvs2.length ≤ 48 * i + 2 * j ∧ DF K H2 kvs2 (innF pl S.2.2 c (S.2.1.take j) S.1) ∧ σ = [some (.ref lt), some (.ref d), some (.ref le), some xh, some (.int (pl : Nat)), some vc, x6, x7, x8])
        ⟨kvs, _, _, _, (fun b o _ e => e), hd, by omega, by rw [List.take_zero]; exact hF, rfl⟩ (fun j σ H2 _ h => ?_) ?_ ?_⟩
      · obtain ⟨kvs2, x6, x7, x8, kp, _⟩ := h
        exact SqL.of (kp _ _ (fun z => by rw [z, hd] at hle; cases hle) hle)
      · rintro j y σ H2 hy ⟨kvs2, x6, x7, x8, kp, hd2, hk2, hF2, rfl⟩
        have tk2 : TK H' H2 := fun b us e => kp _ _ (fun z => by rw [z, hd] at e; cases e) e
        obtain ⟨⟨o, us⟩, hej, pe, u, sv, rfl, e1, e2, e3⟩ := paired_get (paired_imp (fun z x (h : EQ K H' z x) => h.tk tk2) hE) hy
        have jlt : j < es.length := (List.getElem?_eq_some_iff.mp hy).1
        refine ⟨pe, _, rfl, SqT.of e1, rfl, _, _, rfl, _, _, rfl, _, _, rfl, rfl, ?_⟩
        refine ⟨_, _, _, _, us, S.2.2, c, D, B, rfl, e2, e3, hh.tk tk2, g2.tk tk2, hc, hP _ (List.mem_of_getElem? hej), d0, lDB, fun H3 zb s3 qb => ?_⟩
        refine ⟨two_le _ _, fun k1 fk1 => ?_⟩
        have s4 := Same.new (o := .tup [.int (o : Nat), .int (pl : Nat)]) fk1
        have hd4 := (s3.trans s4) _ _ hd2
        have hk1 := upd_same (H := H3) (a := k1) (o := .tup [.int (o : Nat), .int (pl : Nat)])
        generalize upd H3 k1 (.tup [.int (o : Nat), .int (pl : Nat)]) = H4 at s4 hd4 hk1
        refine ⟨d, _, rfl, .inr ⟨kvs2, ky o pl, k1, hd4, rfl, hk1, by omega, rfl⟩, ?_⟩
        have hF5 := ((hF2.tk (s3.trans s4).tk).put (x := o) (y := pl) (qb.same s4)).tk (TK.dT (o := .dT (putK kvs2 (ky o pl) zb)) hd4)
        have qb5 : IsQ K (upd H4 d (.dT (putK kvs2 (ky o pl) zb))) (bk us S.2.2 c) zb := (qb.same s4).tk (TK.dT hd4)
        have hd5 := upd_same (H := H4) (a := d) (o := .dT (putK kvs2 (ky o pl) zb))
        have k5 : ∀ b o', b ≠ d → H' b = some o' → (upd H4 d (.dT (putK kvs2 (ky o pl) zb))) b = some o' := fun b o' n e => by rw [upd_ne n]; exact (s3.trans s4) _ _ (kp _ _ n e)
        generalize upd H4 d (.dT (putK kvs2 (ky o pl) zb)) = H5 at hF5 qb5 hd5 k5
        have hl5 := length_putK kvs2 (ky o pl) zb
        refine ⟨two_le _ _, fun k2 fk2 => ?_⟩
        have s6 := Same.new (o := .tup [.int (o : Nat), .int (pl : Nat)]) fk2
        have hk2' := upd_same (H := H5) (a := k2) (o := .tup [.int (o : Nat), .int (pl : Nat)])
        have hd6 := s6 _ _ hd5
        generalize upd H5 k2 (.tup [.int (o : Nat), .int (pl : Nat)]) = H6 at s6 hk2' hd6
        refine ⟨d, zb, rfl, .inr ⟨_, ky o pl, k2, .inl hd6, rfl, hk2', by rw [valV_put, if_pos rfl]⟩, ?_⟩
        refine ⟨two_le _ _, fun k3 fk3 => ?_⟩
        have s7 := Same.new (o := .tup [.int (pl : Nat), .int (o : Nat)]) fk3
        have hk3 := upd_same (H := H6) (a := k3) (o := .tup [.int (pl : Nat), .int (o : Nat)])
        have hd7 := s7 _ _ hd6
        have s67 := s6.trans s7
        generalize upd H6 k3 (.tup [.int (pl : Nat), .int (o : Nat)]) = H7 at s7 hk3 hd7 s67
        refine ⟨d, _, rfl, .inr ⟨_, ky pl o, k3, hd7, rfl, hk3, by omega, rfl⟩, ?_⟩
        have hl7 := length_putK (putK kvs2 (ky o pl) zb) (ky pl o) zb
        refine ⟨_, _, _, _, (fun b o' n e => by rw [upd_ne n]; exact s67 _ _ (k5 _ _ n e)), upd_same, by omega, ?_, rfl⟩
        have e1' : innF pl S.2.2 c (S.2.1.take (j + 1)) S.1 = setF (setF (innF pl S.2.2 c (S.2.1.take j) S.1) o pl (bk us S.2.2 c)) pl o (bk us S.2.2 c) := by
          rw [List.take_add_one, hej]
          unfold innF
          rw [List.foldl_append]
          rfl
        rw [e1']
        exact ((hF5.tk s67.tk).put (x := pl) (y := o) (qb5.same s67)).tk (TK.dT hd7)
      · rintro σ H2 ⟨kvs2, x6, x7, x8, kp, hd2, hk2, hF2, rfl⟩
        have eT : S.2.1.take es.length = S.2.1 := by rw [hel, ← k.len, List.take_length]
        rw [eT] at hF2
        have tk2 : TK H' H2 := fun b us e => kp _ _ (fun z => by rw [z, hd] at e; cases e) e
        have nle : le ≠ d := fun z => by rw [z, hd] at hle; cases hle
        have hH2 : Same H H2 := fun b o e => kp _ _ (ne_of_none e fd) (sH _ _ e)
        refine ⟨le, _, _, pl, S.2.2, c, S.2.1, es, D, B, rfl, kp _ _ nle hle, paired_imp (fun z x (h : EQ K H' z x) => h.tk tk2) hE, by rw [k.len]; omega, hh.tk tk2, g2.tk tk2, hc, hP, d0, lDB2, fun H3 l3 es3 s3 f3 h3 hE3 => ?_⟩
        refine ⟨_, _, S.2.2, c, B, rfl, (hh.tk tk2).same s3, (g2.tk tk2).same s3, hc, fun H4 z4 s4 q4 => ?_⟩
        have s34 := s3.trans s4
        exact ⟨kStep S (pl, c), kvs2, l3, es3, z4, _, _, _, _, _, kn, hH2.trans s34, s34 _ _ hd2, by omega, hF2.tk s34.tk, s4 _ _ h3, paired_imp (fun z x (h : EQ K H3 z x) => h.tk s4.tk) hE3, q4, rfl⟩
    · rintro σ H' ⟨S, kvs, le, es, xh, x4, x5, x6, x7, x8, k, sH, hd, hkl, hF, hle, hE, hh, rfl⟩
      have eS := k.eq
      rw [hxl, List.take_length] at eS
      rw [eS] at hF
      exact q _ d kvs sH fd hd hF
end
end My

set_option Elab.async false
set_option linter.all false
set_option maxRecDepth 100000
set_option maxHeartbeats 4000000
namespace My
open PySem L2 FrM Du
theorem SameT.tk {H H' : Hp} (s : SameT H H') : TK H H' := fun a xs h => s.at h
noncomputable def IsLam (H : Hp) (d : LamD) (fv : List Str) (v : V) (vals : List V) : Prop := ∃ f c clos, v = .ref f ∧ H f = some (.ext (LamX f d clos c)) ∧ H c = some (.ext (CodeX c d.qual)) ∧ clos.map (·.1) = fv ∧ (clos.map (·.2)).Nodup ∧ CellsAt H clos vals
theorem cells_t {H H' : Hp} (s : SameT H H') : ∀ {clos : List (Str × Addr)} {vals : List V}, CellsAt H clos vals → CellsAt H' clos vals
  | _, _, .nil => .nil
  | _, _, .cons r t => .cons (s.at r) (cells_t s t)
theorem IsLam.t {H H' : Hp} {d : LamD} {fv : List Str} {v : V} {vals : List V} (s : SameT H H') (h : IsLam H d fv v vals) : IsLam H' d fv v vals := by
  obtain ⟨f, c, clos, h1, h2, h3, h4, h5, h6⟩ := h
  exact ⟨f, c, clos, h1, s.at h2, s.at h3, h4, h5, cells_t s h6⟩
theorem nd2 (n : Nat) : ([n + 1 + 1, n + 1] : List Nat).Nodup := by
  simp only [List.nodup_cons, List.mem_cons, List.not_mem_nil, or_false, not_or, not_false_eq_true, List.nodup_nil, and_true]
  omega
theorem backS {H H' H3 : Hp} {clos : List (Str × Addr)} (s : Same (untrs H (clos.map (·.2))) H') (s3 : Same H' H3) (hc : ∀ p ∈ clos, H3 p.2 = H p.2) : Same H H3 := fun b o e => by
  by_cases hb : b ∈ clos.map (·.2)
  · obtain ⟨p, hp, rfl⟩ := List.mem_map.mp hb
    rw [hc p hp, e]
  · exact (s.trans s3) b o (by rw [untrs_out hb]; exact e)
/-- a matrix, each row a list by itself, none of them the one at D -/
noncomputable def MRow (K : PySem.W.Frag) (D : Addr) (H : Hp) (fs : List (Int × Int)) (x : V) : Prop := ∃ q ys, x = .ref q ∧ q ≠ D ∧ H q = some (.lst ys) ∧ AllF K H fs ys
noncomputable abbrev MatAt (K : PySem.W.Frag) (D : Addr) (H : Hp) : List (List (Int × Int)) → List V → Prop := Paired (MRow K D H)
theorem MRow.same {K : PySem.W.Frag} {D : Addr} {H H' : Hp} {fs : List (Int × Int)} {x : V} (s : SameT H H') (h : MRow K D H fs x) : MRow K D H' fs x :=
  let ⟨q, ys, h1, h2, h3, h4⟩ := h; ⟨q, ys, h1, h2, s.at h3, h4.tk (SameT.tk s)⟩
theorem MatAt.same {K : PySem.W.Frag} {D : Addr} {H H' : Hp} (s : SameT H H') : ∀ {fss : List (List (Int × Int))} {xs : List V}, MatAt K D H fss xs → MatAt K D H' fss xs
  | _, _, .nil => .nil
  | _, _, .cons r t => .cons (r.same s) (MatAt.same s t)
theorem MRow.put {K : PySem.W.Frag} {D : Addr} {H : Hp} {fs : List (Int × Int)} {x : V} {zs zs' : List V} (hD : H D = some (.lst zs)) (h : MRow K D H fs x) : MRow K D (upd H D (.lst zs')) fs x :=
  let ⟨q, ys, h1, h2, h3, h4⟩ := h; ⟨q, ys, h1, h2, by rw [upd_ne h2]; exact h3, h4.tk (TK.lst hD)⟩
theorem MatAt.put {K : PySem.W.Frag} {D : Addr} {H : Hp} {zs zs' : List V} (hD : H D = some (.lst zs)) : ∀ {fss : List (List (Int × Int))} {xs : List V}, MatAt K D H fss xs → MatAt K D (upd H D (.lst zs')) fss xs
  | _, _, .nil => .nil
  | _, _, .cons r t => .cons (r.put hD) (MatAt.put hD t)
theorem MatAt.snoc {K : PySem.W.Frag} {D : Addr} {H : Hp} {fs : List (Int × Int)} {x : V} (h : MRow K D H fs x) : ∀ {fss : List (List (Int × Int))} {xs : List V}, MatAt K D H fss xs → MatAt K D H (fss ++ [fs]) (xs ++ [x])
  | _, _, .nil => .cons h .nil
  | _, _, .cons a b => .cons a (MatAt.snoc h b)
theorem MatAt.get {K : PySem.W.Frag} {D : Addr} {H : Hp} : ∀ {fss : List (List (Int × Int))} {xs : List V} {i : Nat} {x : V}, MatAt K D H fss xs → xs[i]? = some x → ∃ r, fss[i]? = some r ∧ MRow K D H r x
  | _, _, _, _, .nil, h => by cases h
  | _, _, 0, _, .cons r _, h => ⟨_, rfl, by cases h; exact r⟩
  | _, _, i + 1, _, .cons _ t, h => MatAt.get (i := i) t h
theorem MatAt.len {K : PySem.W.Frag} {D : Addr} {H : Hp} {fss : List (List (Int × Int))} {xs : List V} (h : MatAt K D H fss xs) : fss.length = xs.length := Paired.length h
noncomputable abbrev fvM : List Str := ["told", "found"]
theorem lsM : LamScope ld_duel_matrix_1 fvM ["one", "other"] := ⟨rfl, rfl, rfl, by decide +kernel, by decide +kernel, by decide +kernel, by decide +kernel, by decide +kernel⟩
/-- what is told of two positions -/
noncomputable def ent (qs : List Rat) (f : Fn) (i j : Nat) : Rat := if i = j then qs.getD i 0 else (f i j).getD (qs.getD i 0 * qs.getD j 0)
noncomputable def rowQ (qs : List Rat) (f : Fn) (i : Nat) : List (Int × Int) := (List.range qs.length).map fun j => fr (ent qs f i j)
noncomputable def matQ (qs : List Rat) (f : Fn) : List (List (Int × Int)) := (List.range qs.length).map (rowQ qs f)
/-- what the lambda looks at -/
structure Mx (K : PySem.W.Frag) (H : Hp) (lt d : Addr) (qs : List Rat) (f : Fn) (B : Nat) : Prop where
  l : ∃ xs, H lt = some (.lst xs) ∧ AllF K H (qs.map fr) xs
  t : ∃ kvs, H d = some (.dT kvs) ∧ DF K H kvs f
  n : qs.length ≤ 24
  B0 : 0 < B
  B1 : B ≤ 1000000000
  q : ∀ q ∈ qs, Bq B q
theorem Mx.on {K : PySem.W.Frag} {H H' : Hp} {lt d : Addr} {qs : List Rat} {f : Fn} {B : Nat} (M : Mx K H lt d qs f B) (k : TK H H') (h1 : ∀ xs, H lt = some (.lst xs) → H' lt = some (.lst xs)) (h2 : ∀ kvs, H d = some (.dT kvs) → H' d = some (.dT kvs)) : Mx K H' lt d qs f B :=
  let ⟨xs, a1, a2⟩ := M.l
  let ⟨kvs, b1, b2⟩ := M.t
  ⟨⟨xs, h1 _ a1, a2.tk k⟩, ⟨kvs, h2 _ b1, b2.tk k⟩, M.n, M.B0, M.B1, M.q⟩
theorem Mx.same {K : PySem.W.Frag} {H H' : Hp} {lt d : Addr} {qs : List Rat} {f : Fn} {B : Nat} (M : Mx K H lt d qs f B) (s : Same H H') : Mx K H' lt d qs f B := M.on s.tk (fun xs e => s _ _ e) (fun xs e => s _ _ e)
theorem Mx.st {K : PySem.W.Frag} {H H' : Hp} {lt d : Addr} {qs : List Rat} {f : Fn} {B : Nat} (M : Mx K H lt d qs f B) (s : SameT H H') : Mx K H' lt d qs f B := M.on (SameT.tk s) (fun xs e => s.at e) (fun xs e => s.at e)
noncomputable def spPair (K : PySem.W.Frag) : Sp := fun vs H Q _ => ∃ (lt d : Addr) (qs : List Rat) (f : Fn) (B i j : Nat), vs = [.ref lt, .ref d, .int (i : Nat), .int (j : Nat)] ∧ Mx K H lt d qs f B ∧ i < qs.length ∧ j < qs.length ∧ ∀ H' z, Same H H' → IsQ K H' (ent qs f i j) z → Q z H'
noncomputable def spLM (K : PySem.W.Frag) : List V → Sp := fun vals vs H Q _ => ∃ (lt d : Addr) (qs : List Rat) (f : Fn) (B i j : Nat), vals = [.ref lt, .ref d] ∧ vs = [.int (i : Nat), .int (j : Nat)] ∧ Mx K H lt d qs f B ∧ i < qs.length ∧ j < qs.length ∧ ∀ H' z, Same H H' → IsQ K H' (ent qs f i j) z → Q z H'
noncomputable def spMRow (K : PySem.W.Frag) : Sp := fun vs H Q _ => ∃ (lt d : Addr) (qs : List Rat) (f : Fn) (B i : Nat) (v : V), vs = [.int (i : Nat), .int (qs.length : Nat), v] ∧ Mx K H lt d qs f B ∧ i < qs.length ∧ IsLam H ld_duel_matrix_1 fvM v [.ref lt, .ref d] ∧
  ∀ H' r ys, Same H H' → H r = none → H' r = some (.lst ys) → AllF K H' (rowQ qs f i) ys → Q (.ref r) H'
noncomputable def spMBy (K : PySem.W.Frag) : Sp := fun vs H Q _ => ∃ (lt d : Addr) (qs : List Rat) (f : Fn) (B : Nat) (v : V), vs = [.int (qs.length : Nat), v] ∧ Mx K H lt d qs f B ∧ IsLam H ld_duel_matrix_1 fvM v [.ref lt, .ref d] ∧
  ∀ H' r xs, Same H H' → H r = none → H' r = some (.lst xs) → MatAt K r H' (matQ qs f) xs → xs.Nodup → (∀ q, V.ref q ∈ xs → H q = none) → Q (.ref r) H'
/-- those that are unsure, in the order -/
noncomputable def ordQ (qs : List Rat) (ord : List Nat) : List (Nat × Rat) := ord.map fun o => (o, qs.getD o 0)
noncomputable def unsL (qs : List Rat) (ord : List Nat) : List (Nat × Rat) := (ordQ qs ord).filter fun z => unsQ z.2
noncomputable def spDM (K : PySem.W.Frag) (a : Ad) : Sp := fun vs H Q _ => ∃ (ls lo : Addr) (xs : List V) (qs : List Rat) (ord : List Nat) (B : Nat), vs = [.ref ls, .ref lo] ∧ H ls = some (.lst xs) ∧ AllF K H (qs.map fr) xs ∧ H lo = some (.lst (ord.map fun (o : Nat) => V.int (o : Int))) ∧ qs.length ≤ 24 ∧ ord.length ≤ 24 ∧ (∀ o ∈ ord, o < qs.length) ∧ 0 < B ∧ B ≤ 1000000000 ∧ (∀ q ∈ qs, Bq B q) ∧ TabsOk (tabs a) H ∧
  ∀ H' r xs, SameT H H' → TabsOk (tabs a) H' → H r = none → H' r = some (.lst xs) → MatAt K r H' (matQ qs (keptF (unsL qs ord))) xs → xs.Nodup → (∀ q, V.ref q ∈ xs → H q = none) → Q (.ref r) H'
section
variable {P : Program} {w : World} {K : PySem.W.Frag} {mg : Str → Option Value} {base : Heap} {a : Ad}
theorem at_q {H : Hp} {qs : List Rat} {xs : List V} (hF : AllF K H (qs.map fr) xs) {i : Nat} (hi : i < qs.length) : ∃ x, xs[i]? = some x ∧ IsQ K H (qs.getD i 0) x := by
  have hl : xs.length = qs.length := by rw [← hF.len, List.length_map]
  have hx : i < xs.length := by omega
  obtain ⟨f, hf, isf⟩ := hF.get (List.getElem?_eq_getElem hx)
  rw [List.getElem?_map, List.getElem?_eq_getElem hi] at hf
  cases hf
  refine ⟨xs[i], List.getElem?_eq_getElem hx, ?_⟩
  rw [List.getD, List.getElem?_eq_getElem hi]
  exact isf
theorem ok_pair (T : Txt K mg a) : FnOk P w K mg base CX0 4 a.f_pair_chance a.d_pair_chance ["told", "found", "one", "other"] (spPair K) := by
  have G_times : FnOk P w K mg base CX0 3 _ _ _ (spAri (· * ·) (fun _ => True) K) := ok_times T
  refine T.F_pair_chance.ok sc_pair_chance (fun vs H Q E h => ?_) (fun cdv A outer s H vs Q E hr h => ?_)
  · obtain ⟨lt, d, qs, f, B, i, j, rfl, _⟩ := h; rfl
  · obtain ⟨lt, d, qs, f, B, i, j, rfl, M, hi, hj, q⟩ := h
    obtain ⟨xs, hlt, hF⟩ := M.l
    obtain ⟨kvs, hd, hD⟩ := M.t
    obtain ⟨xi, exi, qi⟩ := at_q hF hi
    obtain ⟨xj, exj, qj⟩ := at_q hF hj
    have bb : ∀ {i}, i < qs.length → Bb (qs.getD i 0) := fun {i} h => (M.q _ (by rw [List.getD, List.getElem?_eq_getElem h]; exact List.getElem_mem h)).bb M.B0 (B_lm M.B1)
    refine ⟨_, (pss_cons (ps_if (t_cmp o_eq (vr 2) (vr 3) (nomark _)) (pss_one (ps_ret (pe_ix ix_seq (vr 0) (vr 2) (fun _ _ => rfl)))) pss_nil) (pss_one (ps_ret (pe_dget2 (hu_of hr) (vr 1) (pe_tup (pa_cons (vr 2) (pa_cons (vr 3) pa_nil))) (pe_call G_times hr rfl T.m_times T.F_times.kp T.B_times .nil pass0 (pa_cons (pe_ix ix_seq (vr 0) (vr 2) (fun _ _ => rfl)) (pa_cons (pe_ix ix_seq (vr 0) (vr 3) (fun _ _ => rfl)) pa_nil))) ⟨rfl, rfl, rfl, rfl⟩)))), ?_⟩
    refine ifC (fun c => ?_) (fun c => ?_)
    · have c : i = j := by omega
      refine .inl ⟨lt, _, _, xi, rfl, rfl, SqL.of hlt, atI_nat exi, q _ _ (Same.refl _) ?_⟩
      unfold ent
      rw [if_pos c]
      exact qi
    · have c : ¬ i = j := by omega
      refine ⟨d, rfl, .inr ⟨kvs, .inl hd⟩, two_le _ _, fun k fk => ?_⟩
      have s1 := Same.new (o := .tup [.int (i : Nat), .int (j : Nat)]) fk
      have hk := upd_same (H := H) (a := k) (o := .tup [.int (i : Nat), .int (j : Nat)])
      generalize upd H k (.tup [.int (i : Nat), .int (j : Nat)]) = H1 at s1 hk
      refine .inl ⟨lt, _, _, xi, rfl, rfl, SqL.of (s1 _ _ hlt), atI_nat exi, .inl ⟨lt, _, _, xj, rfl, rfl, SqL.of (s1 _ _ hlt), atI_nat exj, ?_⟩⟩
      refine ⟨_, _, _, _, rfl, qi.same s1, qj.same s1, bb hi, bb hj, trivial, fun H2 z2 s2 q2 => ?_⟩
      have s12 := s1.trans s2
      refine ⟨_, .inr ⟨kvs, ky i j, k, .inl (s12 _ _ hd), rfl, s2 _ _ hk, rfl⟩, q _ _ s12 ?_⟩
      unfold ent
      rw [if_neg c]
      cases hf : f i j with
      | none => rw [(hD i j).2 hf]; exact q2
      | some v =>
        obtain ⟨z, h1, h2⟩ := (hD i j).1 v hf
        rw [h1]
        exact h2.same s12
theorem tk_untrs {H : Hp} {clos : List (Str × Addr)} {vals : List V} (ca : CellsAt H clos vals) : TK H (untrs H (clos.map (·.2))) := fun b xs e => untrs_of ca e fun v z => nomatch z
theorem ok_lm (T : Txt K mg a) : LamOk P w K mg base 5 ld_duel_matrix_1 fvM ["one", "other"] (spLM K) := by
  have G_pair_chance : FnOk P w K mg base CX0 4 _ _ _ (spPair K) := ok_pair T
  refine lam_of lsM (fun pm ctv clos c us hl => match us, hl with | [_, _], _ => rfl) (fun vals vs H Q E h => ?_) (fun A outer s H f c clos vals vs Q E hr hfv ca h => ?_)
  · obtain ⟨lt, d, qs, f, B, i, j, rfl, rfl, _⟩ := h; rfl
  · obtain ⟨lt, d, qs, ff, B, i, j, rfl, rfl, M, hi, hj, q⟩ := h
    refine ⟨_, (pe_call G_pair_chance hr rfl T.m_pair_chance T.F_pair_chance.kp T.B_pair_chance .nil pass0 (pa_cons (vr 2) (pa_cons (vr 3) (pa_cons (vr 0) (pa_cons (vr 1) pa_nil))))), ?_⟩
    exact ⟨lt, d, qs, ff, B, i, j, rfl, M.on (tk_untrs ca) (fun xs e => untrs_of ca e fun v z => nomatch z) (fun xs e => untrs_of ca e fun v z => nomatch z), hi, hj, fun H' z s1 hz => fun H3 s3 hc => q _ z (backS s1 s3 hc) (hz.same s3)⟩
theorem ok_mrow (T : Txt K mg a) : FnOk P w K mg base CX0 6 a.f_matrix_row a.d_matrix_row ["one", "many", "tell"] (spMRow K) := by
  have L_mat : LamOk P w K mg base 5 ld_duel_matrix_1 fvM ["one", "other"] (spLM K) := ok_lm T
  refine T.F_matrix_row.ok sc_matrix_row (fun vs H Q E h => ?_) (fun cdv A outer s H vs Q E hr h => ?_)
  · obtain ⟨lt, d, qs, ff, B, i, v, rfl, _⟩ := h; rfl
  · obtain ⟨lt, d, qs, ff, B, i, v, rfl, M, hi, hL, q⟩ := h
    have small : sizeLine = 16777216 := sizeLine_eq
    have n24 := M.n
    refine ⟨_, (pss_one (ps_ret (pe_comp rfl (N := ["other", "tell", "one"]) (ix := [none, some 2, some 0]) ⟨rfl, rfl, rfl, rfl, ⟨rfl, rfl, rfl, ⟨rfl, rfl, rfl, trivial⟩⟩⟩ (pi_range1 rfl T.z_range (pa_cons (vr 1) pa_nil)) ⟨fun C s H fp => pg_name (i := 0) (show List.Nodup (["other", "tell", "one"] : List Str) by decide +kernel) rfl (Or.inl rfl), fun C s H fp => pts_nil, fun C s H fp => (pe_callL (vr 1) L_mat hr (pa_cons (vr 2) (pa_cons (vr 0) pa_nil)))⟩))), ?_⟩
    refine ⟨(qs.length : Int), rfl, by omega, by omega, fun D hD => ?_⟩
    refine comp_rng (lo := 0) (n := qs.length) (fun j ys H' => j ≤ qs.length ∧ Same H H' ∧ H' D = some (.lst ys) ∧ AllF K H' ((List.range j).map fun j => fr (ent qs ff i j)) ys) ⟨Nat.zero_le _, Same.new hD, upd_same, .nil⟩ (fun j ys H' h => h.2.2.1) ?_ ?_
    · rintro j ys H' P' hj ⟨_, s1, hD1, hF⟩ hP
      obtain ⟨f, c, clos, rfl, e1, e2, e3, e4, e5⟩ := hL.t s1.t
      have hyl : ys.length = j := by rw [← hF.len, List.length_map, List.length_range]
      refine ⟨⟨rfl, rfl, trivial⟩, ⟨f, _, _, _, rfl, e1⟩, ?_⟩
      refine ⟨fun f' d' cl' c' _ z => z, f, c, clos, _, rfl, e1, e2, e3, e4, e5, lt, d, qs, ff, B, i, j, rfl, ?_, M.same s1, hi, hj, fun H2 z s2 hz => ?_⟩
      · show [V.int (i : Int), V.int (0 + (j : Int))] = _
        rw [Int.zero_add]
      have hD2 := s2 _ _ hD1
      refine ⟨hD2, by omega, hP _ _ ⟨hj, (s1.trans s2).put hD, upd_same, ?_⟩⟩
      rw [List.range_succ, List.map_append]
      exact AllF.snoc (hz.tk (TK.lst hD2)) ((hF.same s2).tk (TK.lst hD2))
    · rintro ys H' ⟨_, s1, hD1, hF⟩
      exact q _ D ys s1 hD hD1 hF
theorem ok_mby (T : Txt K mg a) : FnOk P w K mg base CX0 7 a.f_matrix_by a.d_matrix_by ["many", "tell"] (spMBy K) := by
  have G_matrix_row : FnOk P w K mg base CX0 6 _ _ _ (spMRow K) := ok_mrow T
  refine T.F_matrix_by.ok sc_matrix_by (fun vs H Q E h => ?_) (fun cdv A outer s H vs Q E hr h => ?_)
  · obtain ⟨lt, d, qs, ff, B, v, rfl, _⟩ := h; rfl
  · obtain ⟨lt, d, qs, ff, B, v, rfl, M, hL, q⟩ := h
    have small : sizeLine = 16777216 := sizeLine_eq
    have n24 := M.n
    refine ⟨_, (pss_one (ps_ret (pe_comp rfl (N := ["one", "many", "tell"]) (ix := [none, some 0, some 1]) ⟨rfl, rfl, rfl, rfl, ⟨rfl, rfl, rfl, ⟨rfl, rfl, rfl, trivial⟩⟩⟩ (pi_range1 rfl T.z_range (pa_cons (vr 0) pa_nil)) ⟨fun C s H fp => pg_name (i := 0) (show List.Nodup (["one", "many", "tell"] : List Str) by decide +kernel) rfl (Or.inl rfl), fun C s H fp => pts_nil, fun C s H fp => (pe_call G_matrix_row hr rfl T.m_matrix_row T.F_matrix_row.kp T.B_matrix_row .nil pass0 (pa_cons (vr 0) (pa_cons (vr 1) (pa_cons (vr 2) pa_nil))))⟩))), ?_⟩
    refine ⟨(qs.length : Int), rfl, by omega, by omega, fun D hD => ?_⟩
    refine comp_rng (lo := 0) (n := qs.length) (fun j ys H' => j ≤ qs.length ∧ Same H H' ∧ H' D = some (.lst ys) ∧ MatAt K D H' ((List.range j).map (rowQ qs ff)) ys ∧ ys.Nodup ∧ ∀ q, V.ref q ∈ ys → H q = none) ⟨Nat.zero_le _, Same.new hD, upd_same, .nil, List.nodup_nil, fun q hq => by cases hq⟩ (fun j ys H' h => h.2.2.1) ?_ ?_
    · rintro j ys H' P' hj ⟨_, s1, hD1, hM, hnd, hnew⟩ hP
      have hyl : ys.length = j := by rw [← hM.len, List.length_map, List.length_range]
      refine ⟨⟨rfl, rfl, trivial⟩, lt, d, qs, ff, B, j, v, ?_, M.same s1, hj, hL.t s1.t, fun H2 r ys2 s2 hr0 hr2 hF => ?_⟩
      · show [V.int (0 + (j : Int)), V.int (qs.length : Int), v] = _
        rw [Int.zero_add]
      have hD2 := s2 _ _ hD1
      have nr : r ≠ D := fun z => by rw [z, hD1] at hr0; cases hr0
      refine ⟨hD2, by omega, hP _ _ ⟨hj, (s1.trans s2).put hD, upd_same, ?_, ?_, fun q hq => ?_⟩⟩
      · rw [List.range_succ, List.map_append]
        exact MatAt.snoc ⟨r, ys2, rfl, nr, by rw [upd_ne nr]; exact hr2, hF.tk (TK.lst hD2)⟩ (MatAt.put hD2 (MatAt.same s2.t hM))
      · rw [List.nodup_append]
        refine ⟨hnd, by simp, fun x hx y hy z => ?_⟩
        rw [List.mem_singleton] at hy
        subst hy
        subst z
        obtain ⟨i, hi⟩ := List.getElem?_of_mem hx
        obtain ⟨_, _, q1, _, e, _, h3, _⟩ := hM.get hi
        cases e
        rw [h3] at hr0
        cases hr0
      · rcases List.mem_append.mp hq with z | z
        · exact hnew q z
        · cases List.mem_singleton.mp z
          exact s1.free hr0
    · rintro ys H' ⟨_, s1, hD1, hM, hnd, hnew⟩
      exact q _ D ys s1 hD hD1 hM hnd hnew
theorem ok_dm (T : Txt K mg a) (hB : Bm mg base) : FnOk P w K mg base CX0 8 a.f_duel_matrix a.d_duel_matrix ["shares", "order"] (spDM K a) := by
  have G_matrix_by : FnOk P w K mg base CX0 7 _ _ _ (spMBy K) := ok_mby T
  have G_kept_together : FnOk P w K mg base CX0 7 _ _ _ (spKept K) := (ok_kept T).mono (by decide)
  have G_is_unsure : FnOk P w K mg base CX0 7 _ _ _ (spUns K) := (ok_uns T).mono (by decide)
  refine T.F_duel_matrix.okL T.lcd_duel_matrix sc_duel_matrix (by decide +kernel) (fun vs H Q E h => ?_) (fun A outer s H vs Q E hr h => ?_)
  · obtain ⟨ls, lo, xs, qs, ord, B, rfl, _⟩ := h; rfl
  · obtain ⟨ls, lo, xs, qs, ord, B, rfl, hls, hF, hlo, hq24, ho24, hord, B0, B1, hq, hT, q⟩ := h
    have small : sizeLine = 16777216 := sizeLine_eq
    refine ⟨_, (pr_cons (ps_set (i := 2) sc_duel_matrix.nd rfl (Or.inr rfl) (pe_callTy call_list_of rfl T.z_list bt_list (pa_cons (vr 0) pa_nil))) (pr_cons (ps_set (i := 3) sc_duel_matrix.nd rfl (Or.inr rfl) (pe_call G_kept_together hr rfl T.m_kept_together T.F_kept_together.kp T.B_kept_together .nil pass0 (pa_cons (pe_comp rfl (N := ["place", "told"]) (ix := [none, some 2]) ⟨rfl, rfl, rfl, rfl, ⟨rfl, rfl, rfl, trivial⟩⟩ (pi_any (vr 1)) ⟨fun C s H fp => pg_name (i := 0) (show List.Nodup (["place", "told"] : List Str) by decide +kernel) rfl (Or.inl rfl), fun C s H fp => pts_one (t_val (pe_call G_is_unsure hr rfl T.m_is_unsure T.F_is_unsure.kp T.B_is_unsure .nil pass0 (pa_cons (pe_ix (ix_seqK (K := K) rfl) (vr 1) (vr 0) (fun _ _ => rfl)) pa_nil))), fun C s H fp => (pe_tup (pa_cons (vr 0) (pa_cons (pe_ix (ix_seqK (K := K) rfl) (vr 1) (vr 0) (fun _ _ => rfl)) pa_nil)))⟩) pa_nil))) (pr_retC sc_duel_matrix.nd (by decide +kernel) G_matrix_by hr rfl T.m_matrix_by T.F_matrix_by.kp T.B_matrix_by .nil (pa_cons (pe_callB call_lenM rfl T.z_len bt_len (pa_cons (vr 2) pa_nil)) (pa_cons (pe_lam (d := ld_duel_matrix_1) rfl T.lch_duel_matrix hB rfl (by with_unfolding_all rfl) rfl (tb_duel_matrix a) (.head _) T.tnd tp_duel_matrix) pa_nil))))), ?_⟩
    refine ⟨ls, xs, rfl, .inl (SqL.of hls), fun lt flt => ?_⟩
    have s1 := Same.new (o := .lst xs) flt
    have hlt := upd_same (H := H) (a := lt) (o := .lst xs)
    generalize upd H lt (.lst xs) = H1 at s1 hlt
    have hF1 := hF.same s1
    have hxl : xs.length = qs.length := by rw [← hF.len, List.length_map]
    have hlo1 := s1 _ _ hlo
    refine .inl ⟨⟨_, SqL.of hlo1⟩, fun D hD => ?_⟩
    refine comp_list (K := K) (a := lo) (xs := ord.map fun (o : Nat) => V.int (o : Int)) (fun i ys H' => i ≤ ord.length ∧ Same H1 H' ∧ H' D = some (.lst ys) ∧ ys.length ≤ i ∧ Paired (PQ K H') (unsL qs (ord.take i)) ys) ⟨Nat.zero_le _, Same.new hD, upd_same, Nat.zero_le _, .nil⟩ (fun i ys H' h => SqL.of (h.2.1 _ _ hlo1)) (fun i ys H' h => h.2.2.1) ?_ ?_
    · rintro i y ys H' P' hy ⟨hi, s2, hD2, hyl, hys⟩ hP'
      rw [List.getElem?_map] at hy
      cases hoi : ord[i]? with
      | none => rw [hoi] at hy; cases hy
      | some o =>
        rw [hoi] at hy
        cases hy
        have ilt : i < ord.length := (List.getElem?_eq_some_iff.mp hoi).1
        have ho := hord o (List.mem_of_getElem? hoi)
        obtain ⟨xo, exo, qo⟩ := at_q (hF1.same s2) ho
        have e1 : unsL qs (ord.take (i + 1)) = unsL qs (ord.take i) ++ (if unsQ (qs.getD o 0) then [(o, qs.getD o 0)] else []) := by
          unfold unsL ordQ
          rw [List.take_add_one, hoi, List.map_append, List.filter_append]
          congr 1
          show List.filter _ [(o, qs.getD o 0)] = _
          by_cases c : unsQ (qs.getD o 0) = true
          · rw [if_pos c, List.filter_cons_of_pos (p := fun z : Nat × Rat => unsQ z.2) (a := (o, qs.getD o 0)) c]; rfl
          · rw [if_neg c, List.filter_cons_of_neg (p := fun z : Nat × Rat => unsQ z.2) (a := (o, qs.getD o 0)) c]; rfl
        refine ⟨⟨rfl, trivial⟩, .inl ⟨lt, _, _, xo, rfl, rfl, SqL.of (s2 _ _ hlt), atI_nat exo, xo, _, rfl, qo, ?_⟩⟩
        rw [uns_fr]
        refine ifB (fun c => ?_) (fun c => ?_)
        · refine .inl ⟨lt, _, _, xo, rfl, rfl, SqL.of (s2 _ _ hlt), atI_nat exo, ?_⟩
          refine ⟨two_le _ _, fun np fnp => ?_⟩
          have s3 := Same.new (o := .tup [.int (o : Nat), xo]) fnp
          have hD3 := s3 _ _ hD2
          have ne : np ≠ D := fun z => by rw [z, hD2] at fnp; cases fnp
          have tk3 : TK H' (upd (upd H' np (.tup [.int (o : Nat), xo])) D (.lst (ys ++ [.ref np]))) := s3.tk.trans (TK.lst hD3)
          refine ⟨hD3, by omega, hP' _ _ ⟨ilt, (s2.trans s3).put hD, upd_same, by rw [List.length_append]; show ys.length + 1 ≤ i + 1; omega, ?_⟩⟩
          rw [e1, if_pos c]
          exact paired_snoc ⟨np, xo, rfl, by rw [upd_ne ne]; exact upd_same, qo.tk tk3⟩ (paired_imp (fun z x (h : PQ K H' z x) => h.tk tk3) hys)
        · refine hP' _ _ ⟨ilt, s2, hD2, by omega, ?_⟩
          rw [e1, if_neg (by rw [c]; decide), List.append_nil]
          exact hys
    · rintro ys H' ⟨_, s2, hD2, hyl, hys⟩
      rw [List.length_map] at hyl hys
      rw [List.take_length] at hys
      have hul : (unsL qs ord).length ≤ 24 := by rw [Paired.length hys]; omega
      refine ⟨D, ys, unsL qs ord, B, rfl, hD2, hys, hul, B0, B1, fun z hz => ?_, fun H3 d kvs s3 fd hd hDF => ?_⟩
      · obtain ⟨z1, z2⟩ := List.mem_filter.mp hz
        obtain ⟨o, ho, rfl⟩ := List.mem_map.mp z1
        have := hord o ho
        exact ⟨hq _ (by show qs.getD o 0 ∈ qs; rw [List.getD, List.getElem?_eq_getElem this]; exact List.getElem_mem this), unsQ_iff.mp z2⟩
      have s23 := s2.trans s3
      refine ⟨_, .inl (SqL.of (s23 _ _ hlt)), ?_⟩
      have hT3 := hT.same (s1.trans s23)
      refine ⟨hT3, fun f c H4 t4 hT4 hf0 ef ec => ?_⟩
      intro H5 s5 hc
      have cT := hc 2 _ _ _ rfl rfl (by with_unfolding_all rfl)
      have cW := hc 3 _ _ _ rfl rfl (by with_unfolding_all rfl)
      have t45 := t4.trans s5.t
      have M3 : Mx K H3 lt d qs (keptF (unsL qs ord)) B := ⟨⟨xs, s23 _ _ hlt, hF1.same s23⟩, ⟨kvs, hd, hDF⟩, hq24, B0, B1, hq⟩
      have t05 := (s1.trans s23).t.trans t45
      refine ⟨lt, d, qs, _, B, .ref f, by show [V.int (xs.length : Int), V.ref f] = _; rw [hxl], M3.st t45, ⟨f, c, _, rfl, s5 _ _ ef, s5 _ _ ec, rfl, nd2 _, .cons cT (.cons cW .nil)⟩, fun H6 r xs6 s6 hr0 hr1 hM hnd hnew => ?_⟩
      exact q _ r xs6 (t05.trans s6.t) ((hT4.same s5).same s6) (t05.free hr0) hr1 hM hnd fun q hq => t05.free (hnew q hq)
end
end My

set_option Elab.async false
set_option linter.all false
set_option maxRecDepth 100000
set_option maxHeartbeats 4000000
namespace My
open PySem L2 FrM Du
theorem eqv2 (a b c d : Int) : PyData.eqv (.tuple [.int a, .int b]) (.tuple [.int c, .int d]) = (decide (a = c) && decide (b = d)) := by
  simp [PyData.eqv, PyData.eqvAll]
  rfl
theorem bor4 {a b : Nat} (ha : a < 4) (hb : b < 4) : Builtin.bitOr (a : Int) (b : Int) = ((a ||| b : Nat) : Int) := by
  have all : ∀ a b : Fin 4, Builtin.bitOr ((a.1 : Nat) : Int) ((b.1 : Nat) : Int) = ((a.1 ||| b.1 : Nat) : Int) := by decide +kernel
  exact all ⟨a, ha⟩ ⟨b, hb⟩
noncomputable def kk (k : Nat × Nat) : List Key := ky k.1 k.2
theorem kk_inj {k k' : Nat × Nat} (h : kk k = kk k') : k = k' := Prod.ext (ky_inj h).1 (ky_inj h).2
noncomputable def StR (K : PySem.W.Frag) (H : Hp) (x : (Nat × Nat) × Rat) (kv : List Key × V) : Prop := kv.1 = kk x.1 ∧ IsQ K H x.2 kv.2
/-- the law's states, in a dict -/
noncomputable abbrev StAt (K : PySem.W.Frag) (H : Hp) : Sts → List (List Key × V) → Prop := Paired (StR K H)
theorem StAt.tk {K : PySem.W.Frag} {H H' : Hp} (k : TK H H') {st : Sts} {kvs : List (List Key × V)} (h : StAt K H st kvs) : StAt K H' st kvs := paired_imp (fun x kv (r : StR K H x kv) => ⟨r.1, r.2.tk k⟩) h
theorem StAt.get {K : PySem.W.Frag} {H : Hp} {k : Nat × Nat} : ∀ {st : Sts} {kvs : List (List Key × V)}, StAt K H st kvs → (valV kvs (kk k) = none ∧ getS st k = 0) ∨ ∃ z, valV kvs (kk k) = some z ∧ IsQ K H (getS st k) z
  | _, _, .nil => .inl ⟨rfl, rfl⟩
  | x :: st, kv :: kvs, .cons r t => by
    rw [getS]
    by_cases c : x.1 = k
    · rw [if_pos c, valV_pos (by rw [r.1, c])]
      exact .inr ⟨_, rfl, r.2⟩
    · rw [if_neg c, valV_neg (fun z => c (kk_inj (r.1.symm.trans z)))]
      exact StAt.get t
theorem putK_ne {p : List Key × V} {r : List (List Key × V)} {k : List Key} {v : V} (h : ¬ p.1 = k) : putK (p :: r) k v = p :: putK r k v := by
  unfold putK
  rw [List.any_cons, decide_eq_false h, Bool.false_or]
  split
  · rw [List.map_cons, if_neg h]
  · rfl
theorem putK_eq {p : List Key × V} {r : List (List Key × V)} {k : List Key} {v : V} (h : p.1 = k) (n : ∀ q ∈ r, ¬ q.1 = k) : putK (p :: r) k v = (p.1, v) :: r := by
  unfold putK
  rw [List.any_cons, decide_eq_true h, Bool.true_or, if_pos rfl, List.map_cons, if_pos h]
  congr 1
  have : ∀ q ∈ r, (if q.1 = k then (q.1, v) else q) = q := fun q hq => if_neg (n q hq)
  rw [List.map_congr_left this, List.map_id']
theorem StAt.keys {K : PySem.W.Frag} {H : Hp} : ∀ {st : Sts} {kvs : List (List Key × V)}, StAt K H st kvs → ∀ q ∈ kvs, ∃ x ∈ st, q.1 = kk x.1
  | _, _, .nil, q, h => by cases h
  | x :: st, kv :: kvs, .cons r t, q, h => by
    rcases List.mem_cons.mp h with e | e
    · rw [e]; exact ⟨x, List.mem_cons_self .., r.1⟩
    · obtain ⟨y, hy, e'⟩ := StAt.keys t q e
      exact ⟨y, List.mem_cons_of_mem _ hy, e'⟩
theorem StAt.put {K : PySem.W.Frag} {H : Hp} {k : Nat × Nat} {m : Rat} {z : V} : ∀ {st : Sts} {kvs : List (List Key × V)}, StAt K H st kvs → NdK st → IsQ K H (getS st k + m) z → StAt K H (addS k m st) (putK kvs (kk k) z)
  | _, _, .nil, _, hz => by
    rw [getS] at hz
    have : (0 : Rat) + m = m := by grind
    rw [this] at hz
    exact .cons ⟨rfl, hz⟩ .nil
  | x :: st, kv :: kvs, .cons r t, nd, hz => by
    rw [addS]
    rw [getS] at hz
    unfold NdK at nd
    rw [List.map_cons, List.nodup_cons] at nd
    by_cases c : x.1 = k
    · rw [if_pos c] at hz ⊢
      rw [putK_eq (by rw [r.1, c]) (fun q hq e => by
        obtain ⟨y, hy, e'⟩ := StAt.keys t q hq
        have := kk_inj (e'.symm.trans e)
        exact nd.1 (by rw [c, ← this]; exact List.mem_map.mpr ⟨y, hy, rfl⟩))]
      exact .cons ⟨by show kv.1 = kk k; rw [r.1, c], hz⟩ t
    · rw [if_neg c] at hz ⊢
      rw [putK_ne (fun e => c (kk_inj (r.1.symm.trans e)))]
      exact .cons r (StAt.put t nd.2 hz)
theorem StAt.len {K : PySem.W.Frag} {H : Hp} {st : Sts} {kvs : List (List Key × V)} (h : StAt K H st kvs) : st.length = kvs.length := Paired.length h
/-- there are few states -/
theorem st16 {S : Nat} {st : Sts} (hS : S < 4) (nd : NdK st) (al : Al S st) : st.length ≤ 16 := by
  have lt : ∀ x ∈ st, x.1.1 < 4 ∧ x.1.2 < 4 := fun x hx => by
    obtain ⟨a1, a2⟩ := al x hx
    have h1 := Nat.left_le_or (n := x.1.1) (m := S)
    have h2 := Nat.left_le_or (n := x.1.2) (m := S)
    omega
  have nd2 : (st.map fun x => x.1.1 * 4 + x.1.2).Nodup := by
    have e : (st.map fun x => x.1.1 * 4 + x.1.2) = (st.map (·.1)).map fun k => k.1 * 4 + k.2 := by rw [List.map_map]; rfl
    rw [e]
    refine List.pairwise_map.mpr (List.Pairwise.imp_of_mem (fun {a b} ha hb h z => h ?_) nd)
    obtain ⟨x, hx, rfl⟩ := List.mem_map.mp ha
    obtain ⟨y, hy, rfl⟩ := List.mem_map.mp hb
    have l1 := lt x hx
    have l2 := lt y hy
    exact Prod.ext (by omega) (by omega)
  have sub : (st.map fun x => x.1.1 * 4 + x.1.2) ⊆ List.range 16 := fun n hn => by
    obtain ⟨x, hx, rfl⟩ := List.mem_map.mp hn
    have l1 := lt x hx
    exact List.mem_range.mpr (by omega)
  have := List.Nodup.length_le_of_subset nd2 sub
  rw [List.length_map, List.length_range] at this
  exact this
noncomputable def Bt2 (H : Hp) (b : Addr) (k : Nat × Nat) : Prop := H b = some (.tup [.int (k.1 : Nat), .int (k.2 : Nat)])
noncomputable def spPut (K : PySem.W.Frag) : Sp := fun vs H Q _ => ∃ (d b : Addr) (z : V) (kvs : List (List Key × V)) (st : Sts) (k : Nat × Nat) (m : Rat), vs = [.ref d, .ref b, z] ∧ H d = some (.dT kvs) ∧ Bt2 H b k ∧ StAt K H st kvs ∧ NdK st ∧ kvs.length ≤ 1000 ∧ IsQ K H m z ∧ Bb m ∧ Bb (getS st k) ∧
  ∀ H' kvs', (∀ b o, b ≠ d → H b = some o → H' b = some o) → H' d = some (.dT kvs') → StAt K H' (putS st k m) kvs' → kvs'.length ≤ kvs.length + 1 → Q .non H'
noncomputable def spCome (K : PySem.W.Frag) : Sp := fun vs H Q _ => ∃ (ds : Addr) (xh xc : V) (mk : Nat) (kvs : List (List Key × V)) (hs : Rat × Sts) (c : Rat) (B D S : Nat), vs = [.ref ds, xh, xc, .int (mk : Nat)] ∧ H ds = some (.dT kvs) ∧ StAt K H hs.2 kvs ∧ Law B D S hs ∧ S < 4 ∧ mk < 4 ∧ IsQ K H hs.1 xh ∧ IsQ K H c xc ∧ Hc B hs.1 c ∧ 0 < D ∧ D * (2 * B) < Lm ∧
  ∀ H' d2 kvs2 TT, (∀ b o, b ≠ ds → H b = some o → H' b = some o) → H d2 = none → H' d2 = some (.dT kvs2) → StAt K H' (comeS hs.1 c mk hs.2) kvs2 → 0 < TT → TT ≤ 2 * B → Mid (D * TT) (comeS hs.1 c mk hs.2) 1 → Q (.ref d2) H'
section
variable {P : Program} {w : World} {K : PySem.W.Frag} {mg : Str → Option Value} {base : Heap} {a : Ad}
theorem ok_put (T : Txt K mg a) : FnOk P w K mg base CX0 3 a.f_L_put a.d_L_put ["_law_states", "_law_key", "_law_much"] (spPut K) := by
  have G_L_plus : FnOk P w K mg base CX0 2 _ _ _ (spAri (· + ·) (fun _ => True) K) := ok_L_plus T
  refine T.F_L_put.ok sc_L_put (fun vs H Q E h => ?_) (fun cdv A outer s H vs Q E hr h => ?_)
  · obtain ⟨d, b, z, kvs, st, k, m, rfl, _⟩ := h; rfl
  · obtain ⟨d, b, z, kvs, st, k, m, rfl, hd, hb, hS, nd, hl, hm, bm, bg, q⟩ := h
    have small : sizeLine = 16777216 := sizeLine_eq
    obtain ⟨pz, rfl, hpz⟩ := id hm
    refine ⟨_, (pss_one (ps_if (t_cmp o_gt (pe_ix ix_seq (vr 2) pe_int (fun _ _ => rfl)) pe_int (nomark _)) (pss_one (ps_dput (hu_of hr) (vr 0) (vr 1) (pe_call G_L_plus hr rfl T.m_L_plus T.F_L_plus.kp T.B_L_plus .nil pass0 (pa_cons (pe_dget2 (hu_of hr) (vr 0) (vr 1) (pe_tup (pa_cons pe_int (pa_cons pe_int pa_nil))) ⟨rfl, rfl, rfl, rfl⟩) (pa_cons (vr 2) pa_nil))) rfl)) pss_nil)), ?_⟩
    refine px0 hpz.sq ?_
    refine ifC (fun c => ?_) (fun c => ?_)
    · have c : 0 < m := num_pos.mp c
      have ep : putS st k m = addS k m st := by unfold putS; rw [if_pos c]
      rw [ep] at q
      refine ⟨d, rfl, .inr ⟨kvs, .inl hd⟩, two_le _ _, fun t ft => ?_⟩
      have s1 := Same.new (o := .tup [.int 0, .int 1]) ft
      have ht := upd_same (H := H) (a := t) (o := .tup [.int 0, .int 1])
      generalize upd H t (.tup [.int 0, .int 1]) = H1 at s1 ht
      refine ⟨_, .inr ⟨kvs, kk k, b, .inl (s1 _ _ hd), rfl, s1 _ _ hb, rfl⟩, ?_⟩
      have old : IsQ K H1 (getS st k) ((valV kvs (kk k)).getD (.ref t)) := by
        rcases hS.get (k := k) with ⟨e1, e2⟩ | ⟨z, e1, e2⟩
        · rw [e1, e2]; exact ⟨t, rfl, .inl ht⟩
        · rw [e1]; exact e2.same s1
      refine ⟨_, _, _, _, rfl, old, hm.same s1, bg, bm, trivial, fun H2 z2 s2 q2 => ?_⟩
      have s12 := s1.trans s2
      have hd2 := s12 _ _ hd
      refine ⟨d, _, rfl, .inr ⟨kvs, kk k, b, hd2, rfl, s12 _ _ hb, by omega, rfl⟩, ?_⟩
      refine q _ _ (fun b o n e => by rw [upd_ne n]; exact s12 _ _ e) upd_same ?_ (length_putK _ _ _)
      exact ((hS.tk s12.tk).put nd q2).tk (TK.dT hd2)
    · have c : ¬ 0 < m := fun z => c (num_pos.mpr z)
      have ep : putS st k m = st := by unfold putS; rw [if_neg c]
      rw [ep] at q
      exact q _ kvs (fun b o _ e => e) hd hS (by omega)
theorem q_lt1 (q : Rat) : decide (q.num < (q.den : Int)) = decide (q < 1) := decide_eq_decide.mpr (by rw [Rat.lt_iff]; simp)
/-- total != (1, 1) -/
theorem ne_one {H : Hp} {x y : Addr} {p : Rat} {Q : VK} (hx : PT K H x (fr p)) (hy : H y = some (.tup [.int 1, .int 1])) (q : Q (.bl (!decide (p = 1))) H) : rEqD K true (.ref x) (.ref y) H Q := by
  refine ⟨.tuple [.int p.num, .int p.den], .tuple [.int 1, .int 1], dv_pair hx.sq, dv_pair (SqT.of hy), shaped_pair _ _, shaped_pair _ _, ?_⟩
  have e : PyData.eqv (.tuple [.int p.num, .int (p.den : Int)]) (.tuple [.int 1, .int 1]) = decide (p = 1) := by
    rw [eqv2, ← Bool.decide_and]
    refine decide_eq_decide.mpr ⟨fun h => fr_inj (by show (p.num, (p.den : Int)) = (1, 1); rw [h.1, h.2]), fun h => by rw [h]; exact ⟨rfl, rfl⟩⟩
  rw [e]
  exact q
theorem sig_int (h c : Rat) (n : Nat) : (n : Int) * (if (!decide (h + c = 1)) = true then 1 else 0) = ((n * sig h c : Nat) : Int) := by
  unfold sig
  by_cases e : h + c = 1
  · rw [if_pos e, decide_eq_true e]; simp
  · rw [if_neg e, decide_eq_false e]; simp
theorem ok_come (T : Txt K mg a) : FnOk P w K mg base CX0 4 a.f_L_come a.d_L_come ["_law_states", "_law_have", "_law_much", "_law_mark"] (spCome K) := by
  have G_L_plus : FnOk P w K mg base CX0 3 _ _ _ (spAri (· + ·) (fun _ => True) K) := (ok_L_plus T).mono (by decide)
  have G_L_less : FnOk P w K mg base CX0 3 _ _ _ (spAri (· - ·) (fun _ => True) K) := (ok_L_less T).mono (by decide)
  have G_L_times : FnOk P w K mg base CX0 3 _ _ _ (spAri (· * ·) (fun _ => True) K) := (ok_L_times T).mono (by decide)
  have G_L_ratio : FnOk P w K mg base CX0 3 _ _ _ (spAri (· / ·) (fun q => 0 < q) K) := (ok_L_ratio T).mono (by decide)
  have G_L_put : FnOk P w K mg base CX0 3 _ _ _ (spPut K) := ok_put T
  refine T.F_L_come.ok sc_L_come (fun vs H Q E h => ?_) (fun cdv A outer s H vs Q E hr h => ?_)
  · obtain ⟨ds, xh, xc, mk, kvs, hs, c, B, D, S, rfl, _⟩ := h; rfl
  · obtain ⟨ds, xh, xc, mk, kvs, hs, c, B, D, S, rfl, hds, hS, L, hS4, hm4, hh, hc, hcB, hD, hlm, q⟩ := h
    have small : sizeLine = 16777216 := sizeLine_eq
    obtain ⟨TT, t0, t1, hT⟩ := hcB.step
    have lD : D < Lm := lt_mul (show 0 < 2 * B by have := hcB.B0; omega) hlm
    have lT : TT < Lm := Nat.lt_of_le_of_lt t1 (B2_lm hcB.B1)
    have lDT : D * TT < Lm := Nat.lt_of_le_of_lt (Nat.mul_le_mul_left D t1) hlm
    have DT0 : 0 < D * TT := Nat.mul_pos hD t0
    have sp : 0 < hs.1 + c := by have := hcB.c0; have := L.H.h0; grind
    have sp2 : 0 < 2 - (hs.1 + c) := by have := hcB.h1; have := hcB.c1; grind
    have s16 := st16 hS4 L.nd L.al
    have hkl := hS.len
    refine ⟨_, (pss_cons (ps_set (i := 4) sc_L_come.nd rfl (Or.inl rfl) pe_dnewT) (pss_cons (ps_set (i := 5) sc_L_come.nd rfl (Or.inl rfl) (pe_call G_L_plus hr rfl T.m_L_plus T.F_L_plus.kp T.B_L_plus .nil pass0 (pa_cons (vr 1) (pa_cons (vr 2) pa_nil)))) (pss_cons (ps_for PassesOwn.never rfl (pi_items (pe_m.itemsT (vr 0))) (pg_tup rfl (pgs_cons (pg_tup rfl (pgs_cons (pg_name (i := 6) sc_L_come.nd rfl (Or.inl rfl)) (pgs_cons (pg_name (i := 7) sc_L_come.nd rfl (Or.inl rfl)) pgs_nil))) (pgs_cons (pg_name (i := 8) sc_L_come.nd rfl (Or.inl rfl)) pgs_nil))) (pss_one (ps_if (t_cmp o_lt (pe_ix ix_seq (vr 5) pe_int (fun _ _ => rfl)) (pe_ix ix_seq (vr 5) pe_int (fun _ _ => rfl)) (nomark _)) (pss_cons (ps_expr (pe_call G_L_put hr rfl T.m_L_put T.F_L_put.kp T.B_L_put .nil pass0 (pa_cons (vr 4) (pa_cons (pe_tup (pa_cons (vr 6) (pa_cons (vr 7) pa_nil))) (pa_cons (pe_call G_L_times hr rfl T.m_L_times T.F_L_times.kp T.B_L_times .nil pass0 (pa_cons (vr 8) (pa_cons (pe_call G_L_ratio hr rfl T.m_L_ratio T.F_L_ratio.kp T.B_L_ratio .nil pass0 (pa_cons (vr 1) (pa_cons (vr 5) pa_nil))) pa_nil))) pa_nil))))) (pss_one (ps_expr (pe_call G_L_put hr rfl T.m_L_put T.F_L_put.kp T.B_L_put .nil pass0 (pa_cons (vr 4) (pa_cons (pe_tup (pa_cons (vr 3) (pa_cons (vr 7) pa_nil))) (pa_cons (pe_call G_L_times hr rfl T.m_L_times T.F_L_times.kp T.B_L_times .nil pass0 (pa_cons (vr 8) (pa_cons (pe_call G_L_ratio hr rfl T.m_L_ratio T.F_L_ratio.kp T.B_L_ratio .nil pass0 (pa_cons (vr 2) (pa_cons (vr 5) pa_nil))) pa_nil))) pa_nil))))))) (pss_cons (ps_set (i := 9) sc_L_come.nd rfl (Or.inl rfl) (pe_call G_L_less hr rfl T.m_L_less T.F_L_less.kp T.B_L_less .nil pass0 (pa_cons (pe_tup (pa_cons pe_int (pa_cons pe_int pa_nil))) (pa_cons (vr 5) pa_nil)))) (pss_cons (ps_set (i := 10) sc_L_come.nd rfl (Or.inl rfl) (pe_call G_L_times hr rfl T.m_L_times T.F_L_times.kp T.B_L_times .nil pass0 (pa_cons (vr 8) (pa_cons (pe_call G_L_ratio hr rfl T.m_L_ratio T.F_L_ratio.kp T.B_L_ratio .nil pass0 (pa_cons (pe_call G_L_less hr rfl T.m_L_less T.F_L_less.kp T.B_L_less .nil pass0 (pa_cons (pe_tup (pa_cons pe_int (pa_cons pe_int pa_nil))) (pa_cons (vr 2) pa_nil))) (pa_cons (vr 9) pa_nil))) pa_nil)))) (pss_cons (ps_set (i := 11) sc_L_come.nd rfl (Or.inl rfl) (pe_call G_L_times hr rfl T.m_L_times T.F_L_times.kp T.B_L_times .nil pass0 (pa_cons (vr 8) (pa_cons (pe_call G_L_ratio hr rfl T.m_L_ratio T.F_L_ratio.kp T.B_L_ratio .nil pass0 (pa_cons (pe_call G_L_less hr rfl T.m_L_less T.F_L_less.kp T.B_L_less .nil pass0 (pa_cons (pe_tup (pa_cons pe_int (pa_cons pe_int pa_nil))) (pa_cons (vr 1) pa_nil))) (pa_cons (vr 9) pa_nil))) pa_nil)))) (pss_cons (ps_expr (pe_call G_L_put hr rfl T.m_L_put T.F_L_put.kp T.B_L_put .nil pass0 (pa_cons (vr 4) (pa_cons (pe_tup (pa_cons (pe_op o_mulB (vr 3) (pe_callTy call_int1 rfl T.z_int bt_int (pa_cons (pe_cmpR (o_neD hr.units) (vr 5) (pe_tup (pa_cons pe_int (pa_cons pe_int pa_nil))) (nomark _)) pa_nil))) (pa_cons (pe_op o_or (vr 7) (vr 6)) pa_nil))) (pa_cons (vr 10) pa_nil))))) (pss_one (ps_expr (pe_call G_L_put hr rfl T.m_L_put T.F_L_put.kp T.B_L_put .nil pass0 (pa_cons (vr 4) (pa_cons (pe_tup (pa_cons (pe_op o_mulB (vr 6) (pe_callTy call_int1 rfl T.z_int bt_int (pa_cons (pe_cmpR (o_neD hr.units) (vr 5) (pe_tup (pa_cons pe_int (pa_cons pe_int pa_nil))) (nomark _)) pa_nil))) (pa_cons (pe_op o_or (vr 7) (vr 3)) pa_nil))) (pa_cons (vr 11) pa_nil))))))))))))) (pss_one (ps_ret (vr 4)))))), ?_⟩
    intro df fdf
    have s1 := Same.new (o := .dT []) fdf
    have hdf1 := upd_same (H := H) (a := df) (o := .dT [])
    generalize upd H df (.dT []) = H1 at s1 hdf1
    refine ⟨_, _, hs.1, c, rfl, hh.same s1, hc.same s1, hcB.bh, hcB.bc, trivial, fun H2 zt s2 qt => ?_⟩
    have s12 := s1.trans s2
    obtain ⟨pt, rfl, hpt⟩ := id qt
    have hds2 := s12 _ _ hds
    refine ⟨.inr (.inr (.inl ⟨rfl, .inr ⟨kvs, hds2⟩⟩)), ds, kvs, rfl, rfl, .inl hds2, fun v fv => ?_⟩
    have s3 := Same.new (o := .ext (IV v ds)) fv
    have hv3 := upd_same (H := H2) (a := v) (o := .ext (IV v ds))
    have hds3 := s3 _ _ hds2
    generalize upd H2 v (.ext (IV v ds)) = H3 at s3 hv3 hds3
    refine ⟨v, ds, kvs, rfl, hv3, .inl hds3, fun o => ?_⟩
    have ndf : df ≠ ds := fun z => by rw [z, hds] at fdf; cases fdf
    have k4 : ∀ b u, b ≠ ds → H b = some u → (upd H3 ds (.frz o (.dT kvs))) b = some u := fun b u n e => by rw [upd_ne n]; exact (s12.trans s3) _ _ e
    have tk4 : TK H2 (upd H3 ds (.frz o (.dT kvs))) := s3.tk.trans (TK.dT hds3)
    have hdf4 : (upd H3 ds (.frz o (.dT kvs))) df = some (.dT []) := by rw [upd_ne ndf]; exact (s2.trans s3) _ _ hdf1
    have hds4 := upd_same (H := H3) (a := ds) (o := .frz o (.dT kvs))
    generalize upd H3 ds (.frz o (.dT kvs)) = H4 at k4 tk4 hdf4 hds4
    have tkH4 : TK H H4 := fun b us e => k4 _ _ (fun z => by rw [z, hds] at e; cases e) e
    refine for_items (Pv := fun i σ H' => ∃ (kvs2 : List (List Key × V)) (x6 x7 x8 x9 x10 x11 : Option V), (∀ b u, b ≠ df → H4 b = some u → H' b = some u) ∧ H' df = some (.dT kvs2) ∧ kvs2.length ≤ 2 * i ∧ StAt K H' ((hs.2.take i).foldl (stepS hs.1 c mk) []) kvs2 ∧ Mid (D * TT) ((hs.2.take i).foldl (stepS hs.1 c mk) []) (Sf (hs.2.take i) one1) ∧ σ = [some (.ref ds), some xh, some xc, some (.int (mk : Nat)), some (.ref df), some (.ref pt), x6, x7, x8, x9, x10, x11]) ⟨[], none, none, none, none, none, none, (fun b u _ e => e), hdf4, Nat.zero_le _, .nil, by rw [List.take_zero, Sf_nil]; exact Mid.nil, rfl⟩ (fun i σ H' h => ?_) ?_ ?_
    · obtain ⟨kvs2, x6, x7, x8, x9, x10, x11, kp, _⟩ := h
      exact kp _ _ (Ne.symm ndf) hds4
    · rintro i kv b σ H' p hkv hb ⟨kvs2, x6, x7, x8, x9, x10, x11, kp, hdf, hl2, hS2, M, rfl⟩ fp
      obtain ⟨⟨⟨up, ins⟩, part⟩, hxi, ek, hpart⟩ := paired_get hS hkv
      have ilt : i < hs.2.length := (List.getElem?_eq_some_iff.mp hxi).1
      have hmem := List.mem_of_getElem? hxi
      have bp := L.b _ hmem
      have pp := L.H.pos _ hmem
      obtain ⟨al1, al2⟩ := L.al _ hmem
      have al1 : up ||| S = S := al1
      have al2 : ins ||| S = S := al2
      have up4 : up < 4 := by have := Nat.left_le_or (n := up) (m := S); omega
      have in4 : ins < 4 := by have := Nat.left_le_or (n := ins) (m := S); omega
      obtain ⟨sm1, sm2⟩ := Sf_take L.H.pos hxi
      rw [L.one] at sm2
      have sm1 : Sf (hs.2.take i) one1 + part = Sf (hs.2.take (i + 1)) one1 := sm1
      have ef : (hs.2.take (i + 1)).foldl (stepS hs.1 c mk) [] = stepS hs.1 c mk ((hs.2.take i).foldl (stepS hs.1 c mk) []) ((up, ins), part) := by
        rw [List.take_add_one, hxi, List.foldl_append]; rfl
      rw [ef, ← sm1] at *
      generalize (hs.2.take i).foldl (stepS hs.1 c mk) [] = acc at *
      generalize Sf (hs.2.take i) one1 = sm at *
      have ek : kv.1 = kk (up, ins) := ek
      rw [ek] at hb
      have hb : H' b = some (.tup [.int (up : Nat), .int (ins : Nat)]) := hb
      have sN := Same.new (o := .tup [.ref b, kv.2]) fp
      have tkN : TK H4 (upd H' p (.tup [.ref b, kv.2])) := fun b' us e => sN _ _ (kp _ _ (fun z => by rw [z, hdf4] at e; cases e) e)
      have kN : ∀ b' u, b' ≠ df → H4 b' = some u → (upd H' p (.tup [.ref b, kv.2])) b' = some u := fun b' u n e => sN _ _ (kp _ _ n e)
      have hdfN := sN _ _ hdf
      have hSN := hS2.tk sN.tk
      have hbN := sN _ _ hb
      have hpN := upd_same (H := H') (a := p) (o := .tup [.ref b, kv.2])
      generalize upd H' p (.tup [.ref b, kv.2]) = HN at sN tkN kN hdfN hSN hbN hpN
      have qp : IsQ K HN part kv.2 := (hpart.tk tkH4).tk tkN
      have qh : IsQ K HN hs.1 xh := (hh.tk tkH4).tk tkN
      have qc : IsQ K HN c xc := (hc.tk tkH4).tk tkN
      have qT : IsQ K HN (hs.1 + c) (.ref pt) := (qt.tk tk4).tk tkN
      have bbp := bp.bb hD lD
      have bg := fun k => (M.b.get k).bb DT0 lDT
      refine ⟨p, _, rfl, SqT.of hpN, rfl, _, _, rfl, b, _, rfl, SqT.of hbN, rfl, _, _, rfl, _, _, rfl, rfl, _, _, rfl, rfl, ?_⟩
      obtain ⟨_, zz, hptN⟩ := id qT
      cases zz
      refine px0 hptN.sq (px1 hptN.sq ?_)
      show if decide ((hs.1 + c).num < ((hs.1 + c).den : Int)) = true then _ else _
      rw [q_lt1]
      refine ifC (fun z => ?_) (fun z => ?_)
      · obtain ⟨t2, t3⟩ := hT.1 z
        have es : stepS hs.1 c mk acc ((up, ins), part) = putS (putS acc (up, ins) (part * (hs.1 / (hs.1 + c)))) (mk, ins) (part * (c / (hs.1 + c))) := by unfold stepS; rw [if_pos z]
        have b1 := bp.mul t2
        have b2 := bp.mul t3
        have e12 : part * (hs.1 / (hs.1 + c)) + part * (c / (hs.1 + c)) = part := by
          have : hs.1 / (hs.1 + c) + c / (hs.1 + c) = 1 := by grind
          rw [← Rat.mul_add, this]; grind
        have M1 := M.put (k := (up, ins)) b1 (by have := b2.1; grind)
        have M2 := M1.put (k := (mk, ins)) b2 (by grind)
        rw [← es] at M2
        have esum : sm + part * (hs.1 / (hs.1 + c)) + part * (c / (hs.1 + c)) = sm + part := by grind
        rw [esum] at M2
        refine ⟨two_le _ _, fun k1 fk1 => ?_⟩
        have s5 := Same.new (o := .tup [.int (up : Nat), .int (ins : Nat)]) fk1
        have hk1 := upd_same (H := HN) (a := k1) (o := .tup [.int (up : Nat), .int (ins : Nat)])
        generalize upd HN k1 (.tup [.int (up : Nat), .int (ins : Nat)]) = H5 at s5 hk1
        refine ⟨_, _, hs.1, hs.1 + c, rfl, qh.same s5, qT.same s5, hcB.bh, hcB.bs, sp, fun H6 z6 s6 q6 => ?_⟩
        refine ⟨_, _, part, hs.1 / (hs.1 + c), rfl, qp.same (s5.trans s6), q6, bbp, t2.bb t0 lT, trivial, fun H7 z7 s7 q7 => ?_⟩
        have s57 := s5.trans (s6.trans s7)
        refine ⟨df, k1, _, kvs2, acc, (up, ins), _, rfl, s57 _ _ hdfN, (s6.trans s7) _ _ hk1, hSN.tk s57.tk, M.nd, by omega, q7, b1.bb DT0 lDT, bg _, fun H8 kvs8 kp8 hdf8 hS8 hl8 => ?_⟩
        have tk8 : TK HN H8 := fun b' us e => kp8 _ _ (fun z => by rw [z, hdfN] at e; cases e) (s57 _ _ e)
        refine ⟨two_le _ _, fun k2 fk2 => ?_⟩
        have s9 := Same.new (o := .tup [.int (mk : Nat), .int (ins : Nat)]) fk2
        have hk2 := upd_same (H := H8) (a := k2) (o := .tup [.int (mk : Nat), .int (ins : Nat)])
        generalize upd H8 k2 (.tup [.int (mk : Nat), .int (ins : Nat)]) = H9 at s9 hk2
        refine ⟨_, _, c, hs.1 + c, rfl, (qc.tk tk8).same s9, (qT.tk tk8).same s9, hcB.bc, hcB.bs, sp, fun HA zA sA qA => ?_⟩
        refine ⟨_, _, part, c / (hs.1 + c), rfl, (qp.tk tk8).same (s9.trans sA), qA, bbp, t3.bb t0 lT, trivial, fun HB zB sB qB => ?_⟩
        have s9B := s9.trans (sA.trans sB)
        refine ⟨df, k2, _, kvs8, _, (mk, ins), _, rfl, s9B _ _ hdf8, (sA.trans sB) _ _ hk2, hS8.tk s9B.tk, M1.nd, by omega, qB, b2.bb DT0 lDT, (M1.b.get _).bb DT0 lDT, fun HC kvsC kpC hdfC hSC hlC => ?_⟩
        refine ⟨kvsC, _, _, _, _, _, _, (fun b' u n e => kpC _ _ n (s9B _ _ (kp8 _ _ n (s57 _ _ (kN _ _ n e))))), hdfC, by omega, by rw [es]; exact hSC, M2, rfl⟩
      · obtain ⟨t2, t3⟩ := hT.2 z
        have es : stepS hs.1 c mk acc ((up, ins), part) = putS (putS acc (mk * sig hs.1 c, ins ||| up) (part * ((1 - c) / (2 - (hs.1 + c))))) (up * sig hs.1 c, ins ||| mk) (part * ((1 - hs.1) / (2 - (hs.1 + c)))) := by unfold stepS; rw [if_neg z]
        have b1 := bp.mul t2
        have b2 := bp.mul t3
        have e12 : part * ((1 - c) / (2 - (hs.1 + c))) + part * ((1 - hs.1) / (2 - (hs.1 + c))) = part := by
          have : (1 - c) / (2 - (hs.1 + c)) + (1 - hs.1) / (2 - (hs.1 + c)) = 1 := by grind
          rw [← Rat.mul_add, this]; grind
        have M1 := M.put (k := (mk * sig hs.1 c, ins ||| up)) b1 (by have := b2.1; grind)
        have M2 := M1.put (k := (up * sig hs.1 c, ins ||| mk)) b2 (by grind)
        rw [← es] at M2
        have esum : sm + part * ((1 - c) / (2 - (hs.1 + c))) + part * ((1 - hs.1) / (2 - (hs.1 + c))) = sm + part := by grind
        rw [esum] at M2
        refine ⟨two_le _ _, fun u1 fu1 => ?_⟩
        have s5 := Same.new (o := .tup [.int 2, .int 1]) fu1
        have hu1 := upd_same (H := HN) (a := u1) (o := .tup [.int 2, .int 1])
        generalize upd HN u1 (.tup [.int 2, .int 1]) = H5 at s5 hu1
        refine ⟨_, _, 2, hs.1 + c, rfl, ⟨u1, rfl, .inl hu1⟩, qT.same s5, bb2, hcB.bs, trivial, fun H6 z6 s6 q6 => ?_⟩
        refine ⟨two_le _ _, fun u2 fu2 => ?_⟩
        have s7 := Same.new (o := .tup [.int 1, .int 1]) fu2
        have hu2 := upd_same (H := H6) (a := u2) (o := .tup [.int 1, .int 1])
        generalize upd H6 u2 (.tup [.int 1, .int 1]) = H7 at s7 hu2
        have s57 := s5.trans (s6.trans s7)
        refine ⟨_, _, 1, c, rfl, ⟨u2, rfl, .inl hu2⟩, qc.same s57, bb1, hcB.bc, trivial, fun H8 z8 s8 q8 => ?_⟩
        refine ⟨_, _, 1 - c, 2 - (hs.1 + c), rfl, q8, q6.same (s7.trans s8), hcB.b1c, hcB.bs2, sp2, fun H9 z9 s9 q9 => ?_⟩
        have s59 := s57.trans (s8.trans s9)
        refine ⟨_, _, part, (1 - c) / (2 - (hs.1 + c)), rfl, qp.same s59, q9, bbp, t2.bb t0 lT, trivial, fun HA zA sA qA => ?_⟩
        refine ⟨two_le _ _, fun u3 fu3 => ?_⟩
        have sB := Same.new (o := .tup [.int 1, .int 1]) fu3
        have hu3 := upd_same (H := HA) (a := u3) (o := .tup [.int 1, .int 1])
        generalize upd HA u3 (.tup [.int 1, .int 1]) = HB at sB hu3
        have s5B := s59.trans (sA.trans sB)
        refine ⟨_, _, 1, hs.1, rfl, ⟨u3, rfl, .inl hu3⟩, qh.same s5B, bb1, hcB.bh, trivial, fun HC zC sC qC => ?_⟩
        have s6C := (s7.trans (s8.trans s9)).trans ((sA.trans sB).trans sC)
        refine ⟨_, _, 1 - hs.1, 2 - (hs.1 + c), rfl, qC, q6.same s6C, hcB.b1h, hcB.bs2, sp2, fun HD zD sD qD => ?_⟩
        have s5D := s5B.trans (sC.trans sD)
        refine ⟨_, _, part, (1 - hs.1) / (2 - (hs.1 + c)), rfl, qp.same s5D, qD, bbp, t3.bb t0 lT, trivial, fun HE zE sE qE => ?_⟩
        have s5E := s5D.trans sE
        have qA' := qA.same (((sB.trans sC).trans sD).trans sE)
        refine ⟨two_le _ _, fun u4 fu4 => ?_⟩
        have sF := Same.new (o := .tup [.int 1, .int 1]) fu4
        have hu4 := upd_same (H := HE) (a := u4) (o := .tup [.int 1, .int 1])
        generalize upd HE u4 (.tup [.int 1, .int 1]) = HF at sF hu4
        have s5F := s5E.trans sF
        have hptF : PT K HF pt (fr (hs.1 + c)) := by obtain ⟨_, zz, h⟩ := qT.same s5F; cases zz; exact h
        refine ne_one hptF hu4 (.inr ⟨_, rfl, clB (by omega) (by omega), ?_⟩)
        refine ⟨two_le _ _, fun k1 fk1 => ?_⟩
        have sG := Same.new (o := .tup [.int ((mk : Int) * (if (!decide (hs.1 + c = 1)) = true then 1 else 0)), .int (Builtin.bitOr (ins : Int) (up : Int))]) fk1
        have hk1 : (upd HF k1 (.tup [.int ((mk : Int) * (if (!decide (hs.1 + c = 1)) = true then 1 else 0)), .int (Builtin.bitOr (ins : Int) (up : Int))])) k1 = some (.tup [.int ((mk * sig hs.1 c : Nat) : Int), .int ((ins ||| up : Nat) : Int)]) := by rw [upd_same, sig_int, bor4 in4 up4]
        have s5G := s5F.trans sG
        refine ⟨df, k1, _, kvs2, acc, (mk * sig hs.1 c, ins ||| up), _, rfl, s5G _ _ hdfN, hk1, hSN.tk s5G.tk, M.nd, by omega, qA'.same (sF.trans sG), b1.bb DT0 lDT, bg _, fun HH kvsH kpH hdfH hSH hlH => ?_⟩
        have tkH : TK HN HH := fun b' us e => kpH _ _ (fun z => by rw [z, hdfN] at e; cases e) (s5G _ _ e)
        have tkE : TK HE HH := fun b' us e => kpH _ _ (fun z => by rw [z, s5E _ _ hdfN] at e; cases e) ((sF.trans sG) _ _ e)
        refine ⟨two_le _ _, fun u5 fu5 => ?_⟩
        have sI := Same.new (o := .tup [.int 1, .int 1]) fu5
        have hu5 := upd_same (H := HH) (a := u5) (o := .tup [.int 1, .int 1])
        generalize upd HH u5 (.tup [.int 1, .int 1]) = HI at sI hu5
        have hptI : PT K HI pt (fr (hs.1 + c)) := by obtain ⟨_, zz, h⟩ := (qT.tk tkH).same sI; cases zz; exact h
        refine ne_one hptI hu5 (.inr ⟨_, rfl, clB (by omega) (by omega), ?_⟩)
        refine ⟨two_le _ _, fun k2 fk2 => ?_⟩
        have sJ := Same.new (o := .tup [.int ((up : Int) * (if (!decide (hs.1 + c = 1)) = true then 1 else 0)), .int (Builtin.bitOr (ins : Int) (mk : Int))]) fk2
        have hk2 : (upd HI k2 (.tup [.int ((up : Int) * (if (!decide (hs.1 + c = 1)) = true then 1 else 0)), .int (Builtin.bitOr (ins : Int) (mk : Int))])) k2 = some (.tup [.int ((up * sig hs.1 c : Nat) : Int), .int ((ins ||| mk : Nat) : Int)]) := by rw [upd_same, sig_int, bor4 in4 hm4]
        have sIJ := sI.trans sJ
        refine ⟨df, k2, _, kvsH, _, (up * sig hs.1 c, ins ||| mk), _, rfl, sIJ _ _ hdfH, hk2, hSH.tk sIJ.tk, M1.nd, by omega, (qE.tk tkE).same sIJ, b2.bb DT0 lDT, (M1.b.get _).bb DT0 lDT, fun HK kvsK kpK hdfK hSK hlK => ?_⟩
        refine ⟨kvsK, _, _, _, _, _, _, (fun b' u n e => kpK _ _ n (sIJ _ _ (kpH _ _ n (s5G _ _ (kN _ _ n e))))), hdfK, by omega, by rw [es]; exact hSK, M2, rfl⟩
    · rintro σ H' ⟨kvs2, x6, x7, x8, x9, x10, x11, kp, hdf, hl2, hS2, M, rfl⟩
      rw [← hkl, List.take_length] at hS2 M
      rw [L.one] at M
      exact q _ df kvs2 TT (fun b u n e => kp _ _ (ne_of_none e fdf) (k4 _ _ n e)) fdf hdf hS2 t0 t1 M
end
end My

set_option Elab.async false
set_option linter.all false
set_option maxRecDepth 100000
set_option maxHeartbeats 4000000
namespace My
open PySem L2 FrM Du
noncomputable def spLMat (K : PySem.W.Frag) : Sp := fun vs H Q _ => ∃ (r d : Addr) (xs ys : List V) (fss : List (List (Int × Int))), vs = [.ref r, .ref d] ∧ H r = some (.lst xs) ∧ H d = some (.lst ys) ∧ MatAt K r H fss xs ∧ MatAt K d H fss ys ∧ ∀ H', Same H H' → Q (.bl true) H'
theorem Sf_take_f {f : Nat × Nat → Rat} : ∀ {st : Sts} {i : Nat} {x : (Nat × Nat) × Rat}, st[i]? = some x → Sf (st.take (i + 1)) f = Sf (st.take i) f + x.2 * f x.1
  | [], _, _, h => by cases h
  | y :: r, 0, x, h => by
    cases h
    rw [List.take_zero, Sf_nil, List.take_succ_cons, List.take_zero, Sf_cons, Sf_nil]
    grind
  | y :: r, i + 1, x, h => by
    rw [List.take_succ_cons, List.take_succ_cons, Sf_cons, Sf_cons, Sf_take_f (st := r) (i := i) h]
    grind
theorem merge_nodup : ∀ {kvs acc : List (List Key × V)}, ((acc ++ kvs).map (·.1)).Nodup → mergeKT acc kvs = acc ++ kvs
  | [], acc, _ => by rw [List.append_nil]; rfl
  | p :: r, acc, h => by
    have hn : valV acc p.1 = none := by
      have : ∀ q ∈ acc, ¬ q.1 = p.1 := fun q hq e => by
        rw [List.map_append, List.map_cons] at h
        exact (List.nodup_append.mp h).2.2 _ (List.mem_map.mpr ⟨q, hq, rfl⟩) _ (List.mem_cons_self ..) e
      clear h
      induction acc with
      | nil => rfl
      | cons q acc ih =>
        rw [valV_neg (this q (List.mem_cons_self ..))]
        exact ih (fun q hq => this q (List.mem_cons_of_mem _ hq))
    show mergeKT (putK acc p.1 p.2) r = _
    rw [putK_new _ hn]
    have e : acc ++ p :: r = (acc ++ [(p.1, p.2)]) ++ r := by simp
    rw [e] at h ⊢
    exact merge_nodup h
/-- what the marks tell -/
noncomputable def MkAt (H : Hp) (dm : Addr) (mk : Nat → Nat) : Prop := ∃ kvs, H dm = some (.dK kvs) ∧ ∀ o : Nat, (valV kvs (.inl (o : Int))).getD (.int 0) = .int (mk o : Nat)
noncomputable def mkL (qs : List Rat) (ord : List Nat) (mk : Nat → Nat) : List (Rat × Nat) := ord.map fun o => (qs.getD o 0, mk o)
noncomputable def spDue (K : PySem.W.Frag) : Sp := fun vs H Q _ => ∃ (ls lo dm : Addr) (xs : List V) (qs : List Rat) (ord : List Nat) (mk : Nat → Nat) (B : Nat), vs = [.ref ls, .ref lo, .ref dm] ∧ H ls = some (.lst xs) ∧ AllF K H (qs.map fr) xs ∧ H lo = some (.lst (ord.map fun (o : Nat) => V.int (o : Int))) ∧ MkAt H dm mk ∧ ord.length ≤ 24 ∧ (∀ o ∈ ord, o < qs.length) ∧ 0 < B ∧ B ≤ 1000000000 ∧ (∀ q ∈ qs, Bq B q) ∧ Mk 0 (mkL qs ord mk) ∧
  ∀ H' z, Same H H' → IsQ K H' (dueR (mkL qs ord mk)) z → Q z H'
/-- the state of the law behind i of the order -/
structure DuS (B : Nat) (L : List (Rat × Nat)) (i : Nat) (hs : Rat × Sts) (S : Nat) : Prop where
  eq : hs = (L.take i).foldl dStep (0, [((0, 0), 1)])
  law : ∃ D, 0 < D ∧ D ≤ (2 * B) ^ i ∧ Law B D S hs
  mks : Mk S (L.drop i)
  s4 : S < 4
theorem DuS.start {B : Nat} {L : List (Rat × Nat)} (h : Mk 0 L) : DuS B L 0 (0, [((0, 0), 1)]) 0 := ⟨rfl, ⟨1, by decide, by simp, Law.start⟩, h, by decide⟩
theorem DuS.eqn {B : Nat} {L : List (Rat × Nat)} {i : Nat} {hs : Rat × Sts} {S : Nat} {x : Rat × Nat} (k : DuS B L i hs S) (hx : L[i]? = some x) : dStep hs x = (L.take (i + 1)).foldl dStep (0, [((0, 0), 1)]) := by
  rw [List.take_add_one, hx, List.foldl_append, ← k.eq]; rfl
theorem DuS.mkn {B : Nat} {L : List (Rat × Nat)} {i : Nat} {hs : Rat × Sts} {S : Nat} {x : Rat × Nat} (k : DuS B L i hs S) (hx : L[i]? = some x) : Mk S (x :: L.drop (i + 1)) := by
  have := k.mks
  obtain ⟨hi, e⟩ := List.getElem?_eq_some_iff.mp hx
  rw [List.drop_eq_getElem_cons hi, e] at this
  exact this
section
variable {P : Program} {w : World} {K : PySem.W.Frag} {mg : Str → Option Value} {base : Heap} {a : Ad}
/-- much == (1, 1) -/
theorem eq_one {H : Hp} {x y : Addr} {p : Rat} {Q : VK} (hx : PT K H x (fr p)) (hy : H y = some (.tup [.int 1, .int 1])) (q : Q (.bl (decide (p = 1))) H) : rEqD K false (.ref x) (.ref y) H Q := by
  refine ⟨.tuple [.int p.num, .int p.den], .tuple [.int 1, .int 1], dv_pair hx.sq, dv_pair (SqT.of hy), shaped_pair _ _, shaped_pair _ _, ?_⟩
  have e : PyData.eqv (.tuple [.int p.num, .int (p.den : Int)]) (.tuple [.int 1, .int 1]) = decide (p = 1) := by
    rw [eqv2, ← Bool.decide_and]
    refine decide_eq_decide.mpr ⟨fun h => fr_inj (by show (p.num, (p.den : Int)) = (1, 1); rw [h.1, h.2]), fun h => by rw [h]; exact ⟨rfl, rfl⟩⟩
  rw [e]
  exact q
theorem ok_lmat (T : Txt K mg a) : FnOk P w K mg base CX0 3 a.f_L_matrix a.d_L_matrix ["_law_found", "_law_due_here"] (spLMat K) := by
  have G_L_fraction : FnOk P w K mg base CX0 2 _ _ _ (spFraction K) := ok_fraction T
  refine T.F_L_matrix.ok sc_L_matrix (fun vs H Q E h => ?_) (fun cdv A outer s H vs Q E hr h => ?_)
  · obtain ⟨r, d, xs, ys, fss, rfl, _⟩ := h; rfl
  · obtain ⟨r, d, xs, ys, fss, rfl, hl, hr', fx, fy, q⟩ := h
    refine ⟨_, (pss_cons (ps_if (PW.pt (pw_or (pt_not (t_val (pe_callB call_isi rfl T.z_isinstance bt_isinstance (pa_cons (vr 0) (pa_cons (pe_bltn (v := .ty "list") rfl T.z_list bt_list rfl) pa_nil))))) (pw_or1 (t_cmp o_ne (pe_callB call_lenM rfl T.z_len bt_len (pa_cons (vr 0) pa_nil)) (pe_callB call_lenM rfl T.z_len bt_len (pa_cons (vr 1) pa_nil)) (nomark _))))) (pss_one (ps_ret pe_bl)) pss_nil) (pss_cons (ps_for PassesOwn.never rfl (pi_zip rfl T.z_zip (pa_cons (vr 0) (pa_cons (vr 1) pa_nil))) (pg_tup rfl (pgs_cons (pg_name (i := 2) sc_L_matrix.nd rfl (Or.inl rfl)) (pgs_cons (pg_name (i := 3) sc_L_matrix.nd rfl (Or.inl rfl)) pgs_nil))) (pss_cons (ps_if (PW.pt (pw_or (pt_not (t_val (pe_callB call_isi rfl T.z_isinstance bt_isinstance (pa_cons (vr 2) (pa_cons (pe_bltn (v := .ty "list") rfl T.z_list bt_list rfl) pa_nil))))) (pw_or1 (t_cmp o_ne (pe_callB call_lenM rfl T.z_len bt_len (pa_cons (vr 2) pa_nil)) (pe_callB call_lenM rfl T.z_len bt_len (pa_cons (vr 3) pa_nil)) (nomark _))))) (pss_one (ps_ret pe_bl)) pss_nil) (pss_one (ps_for PassesOwn.never rfl (pi_zip rfl T.z_zip (pa_cons (vr 2) (pa_cons (vr 3) pa_nil))) (pg_tup rfl (pgs_cons (pg_name (i := 4) sc_L_matrix.nd rfl (Or.inl rfl)) (pgs_cons (pg_name (i := 5) sc_L_matrix.nd rfl (Or.inl rfl)) pgs_nil))) (pss_one (ps_if (pt_not (t_val (pe_call G_L_fraction hr rfl T.m_L_fraction T.F_L_fraction.kp T.B_L_fraction .nil pass0 (pa_cons (vr 4) (pa_cons (vr 5) pa_nil))))) (pss_one (ps_ret pe_bl)) pss_nil)))))) (pss_one (ps_ret pe_bl)))), ?_⟩
    have e1 := fx.len
    have e2 := fy.len
    refine ⟨_, _, _, true, rfl, rfl, .lst hl, rfl, ?_⟩
    refine ⟨_, .inl (SqL.of hl), ⟨_, .inl (SqL.of hr'), ?_⟩⟩
    refine iteNS (by rw [← e1, ← e2]) ?_
    refine ⟨r, d, xs, ys, rfl, hl, hr', for_zip (a := r) (b := d) (xs := xs) (ys := ys) (by rw [← e1, ← e2]) (fun i σ H' => Same H H' ∧ ∃ (x2 x3 x4 x5 : Option V), σ = [some (.ref r), some (.ref d), x2, x3, x4, x5]) ⟨Same.refl H, none, none, none, none, rfl⟩ (fun i σ H' h => ⟨h.1 _ _ hl, h.1 _ _ hr'⟩) ?_ ?_⟩
    · rintro i x y σ H' p hxi hyi ⟨s1, x2, x3, x4, x5, rfl⟩ hp
      have s2 : Same H (upd H' p (.tup [x, y])) := s1.trans (Same.new hp)
      obtain ⟨fs, hu1, q1, zs, rfl, _, g1, hF⟩ := fx.get hxi
      obtain ⟨fs', hu2, q2, zs', rfl, _, g2, hF'⟩ := fy.get hyi
      rw [hu1] at hu2
      cases hu2
      refine ⟨p, _, rfl, SqT.of upd_same, rfl, _, _, rfl, _, _, rfl, rfl, ?_⟩
      generalize upd H' p (.tup [.ref q1, .ref q2]) = H2 at s2
      have k1 := s2 _ _ g1
      have k2 := s2 _ _ g2
      have l1 := hF.len
      have l2 := hF'.len
      refine ⟨_, _, _, true, rfl, rfl, .lst k1, rfl, ?_⟩
      refine ⟨_, .inl (SqL.of k1), ⟨_, .inl (SqL.of k2), ?_⟩⟩
      refine iteNS (by rw [← l1, ← l2]) ?_
      refine ⟨q1, q2, zs, zs', rfl, k1, k2, for_zip (a := q1) (b := q2) (xs := zs) (ys := zs') (by rw [← l1, ← l2]) (fun i σ H' => Same H H' ∧ ∃ (x4 x5 : Option V), σ = [some (.ref r), some (.ref d), some (.ref q1), some (.ref q2), x4, x5]) ⟨s2, _, _, rfl⟩ (fun i σ H' h => ⟨h.1 _ _ g1, h.1 _ _ g2⟩) ?_ ?_⟩
      · rintro i x y σ H' p hxi hyi ⟨s1, x4, x5, rfl⟩ hp
        have s2 : Same H (upd H' p (.tup [x, y])) := s1.trans (Same.new hp)
        obtain ⟨u, hu1, hU⟩ := hF.get hxi
        obtain ⟨u', hu2, hU'⟩ := hF'.get hyi
        rw [hu1] at hu2
        cases hu2
        obtain ⟨a1, rfl, h1⟩ := hU.same s2
        obtain ⟨a2, rfl, h2⟩ := hU'.same s2
        refine ⟨p, _, rfl, SqT.of upd_same, rfl, _, _, rfl, _, _, rfl, rfl, ?_⟩
        exact ⟨a1, a2, u.1, u.2, rfl, h1.sq, h2.sq, ⟨s2, _, _, rfl⟩⟩
      · rintro σ H' ⟨s1, x4, x5, rfl⟩
        exact ⟨s1, _, _, _, _, rfl⟩
    · rintro σ H' ⟨s1, x2, x3, x4, x5, rfl⟩
      exact q _ s1
theorem ok_due (T : Txt K mg a) : FnOk P w K mg base CX0 5 a.f_L_due a.d_L_due ["_law_shares_here", "_law_order_here", "_law_marks"] (spDue K) := by
  have G_L_plus : FnOk P w K mg base CX0 4 _ _ _ (spAri (· + ·) (fun _ => True) K) := (ok_L_plus T).mono (by decide)
  have G_L_less : FnOk P w K mg base CX0 4 _ _ _ (spAri (· - ·) (fun _ => True) K) := (ok_L_less T).mono (by decide)
  have G_L_times : FnOk P w K mg base CX0 4 _ _ _ (spAri (· * ·) (fun _ => True) K) := (ok_L_times T).mono (by decide)
  have G_L_come : FnOk P w K mg base CX0 4 _ _ _ (spCome K) := ok_come T
  refine T.F_L_due.ok sc_L_due (fun vs H Q E h => ?_) (fun cdv A outer s H vs Q E hr h => ?_)
  · obtain ⟨ls, lo, dm, xs, qs, ord, mk, B, rfl, _⟩ := h; rfl
  · obtain ⟨ls, lo, dm, xs, qs, ord, mk, B, rfl, hls, hF, hlo, hmk, ho24, hord, B0, B1, hq, hMk, q⟩ := h
    have small : sizeLine = 16777216 := sizeLine_eq
    obtain ⟨L, hL⟩ : ∃ L, L = mkL qs ord mk := ⟨_, rfl⟩
    rw [← hL] at hMk q
    have hLl : L.length = ord.length := by rw [hL]; unfold mkL; rw [List.length_map]
    refine ⟨_, (pss_cons (ps_set (i := 3) sc_L_due.nd rfl (Or.inl rfl) (pe_dispT (hu_of hr) (pe_tup (pa_cons pe_int (pa_cons pe_int pa_nil))) (pe_tup (pa_cons pe_int (pa_cons pe_int pa_nil))))) (pss_cons (ps_set (i := 4) sc_L_due.nd rfl (Or.inl rfl) (pe_tup (pa_cons pe_int (pa_cons pe_int pa_nil)))) (pss_cons (ps_for PassesOwn.never rfl (pi_any (vr 1)) (pg_name (i := 5) sc_L_due.nd rfl (Or.inl rfl)) (pss_cons (ps_set (i := 6) sc_L_due.nd rfl (Or.inl rfl) (pe_ix ix_seq (vr 0) (vr 5) (fun _ _ => rfl))) (pss_cons (ps_set (i := 7) sc_L_due.nd rfl (Or.inr rfl) (pe_dget2 (hu_of hr) (vr 2) (vr 5) pe_int ⟨rfl, rfl, rfl, rfl⟩)) (pss_one (ps_if (t_cmp (o_eqD hr.units) (vr 6) (pe_tup (pa_cons pe_int (pa_cons pe_int pa_nil))) (nomark _)) (pss_one (ps_set (i := 3) sc_L_due.nd rfl (Or.inl rfl) (pe_callTy (call_dictL rfl (hu3 hr)) rfl T.z_dict bt_dict (pa_cons (pe_comp rfl (N := ["_law_up", "_law_inside", "_law_part", "_law_mark"]) (ix := [none, none, none, some 7]) ⟨rfl, rfl, rfl, rfl, ⟨rfl, rfl, rfl, trivial⟩⟩ (pi_items (pe_m.itemsT (vr 3))) ⟨fun C s H fp => (pg_tupK (K := K) (n := 2) rfl rfl (pgs_cons (pg_tupK (K := K) (n := 2) rfl rfl (pgs_cons (pg_name (i := 0) (show List.Nodup (["_law_up", "_law_inside", "_law_part", "_law_mark"] : List Str) by decide +kernel) rfl (Or.inl rfl)) (pgs_cons (pg_name (i := 1) (show List.Nodup (["_law_up", "_law_inside", "_law_part", "_law_mark"] : List Str) by decide +kernel) rfl (Or.inl rfl)) pgs_nil))) (pgs_cons (pg_name (i := 2) (show List.Nodup (["_law_up", "_law_inside", "_law_part", "_law_mark"] : List Str) by decide +kernel) rfl (Or.inl rfl)) pgs_nil))), fun C s H fp => pts_nil, fun C s H fp => (pe_tup (pa_cons (pe_tup (pa_cons (vr 0) (pa_cons (pe_op o_or (vr 1) (vr 3)) pa_nil))) (pa_cons (vr 2) pa_nil)))⟩) pa_nil)))) (pss_one (ps_if (t_cmp o_gt (pe_ix ix_seq (vr 6) pe_int (fun _ _ => rfl)) pe_int (nomark _)) (pss_cons (ps_set (i := 3) sc_L_due.nd rfl (Or.inl rfl) (pe_call G_L_come hr rfl T.m_L_come T.F_L_come.kp T.B_L_come .nil pass0 (pa_cons (vr 3) (pa_cons (vr 4) (pa_cons (vr 6) (pa_cons (vr 7) pa_nil)))))) (pss_cons (ps_set (i := 4) sc_L_due.nd rfl (Or.inl rfl) (pe_call G_L_plus hr rfl T.m_L_plus T.F_L_plus.kp T.B_L_plus .nil pass0 (pa_cons (vr 4) (pa_cons (vr 6) pa_nil)))) (pss_one (ps_if (t_cmp o_ge (pe_ix ix_seq (vr 4) pe_int (fun _ _ => rfl)) (pe_ix ix_seq (vr 4) pe_int (fun _ _ => rfl)) (nomark _)) (pss_one (ps_set (i := 4) sc_L_due.nd rfl (Or.inl rfl) (pe_call G_L_less hr rfl T.m_L_less T.F_L_less.kp T.B_L_less .nil pass0 (pa_cons (vr 4) (pa_cons (pe_tup (pa_cons pe_int (pa_cons pe_int pa_nil))) pa_nil))))) pss_nil)))) pss_nil))))))) (pss_cons (ps_set (i := 8) sc_L_due.nd rfl (Or.inl rfl) (pe_tup (pa_cons pe_int (pa_cons pe_int pa_nil)))) (pss_cons (ps_for PassesOwn.never rfl (pi_items (pe_m.itemsT (vr 3))) (pg_tup rfl (pgs_cons (pg_tup rfl (pgs_cons (pg_name (i := 9) sc_L_due.nd rfl (Or.inl rfl)) (pgs_cons (pg_name (i := 10) sc_L_due.nd rfl (Or.inl rfl)) pgs_nil))) (pgs_cons (pg_name (i := 11) sc_L_due.nd rfl (Or.inl rfl)) pgs_nil))) (pss_one (ps_if (t_cmp o_eq (vr 10) pe_int (nomark _)) (pss_one (ps_set (i := 8) sc_L_due.nd rfl (Or.inl rfl) (pe_call G_L_plus hr rfl T.m_L_plus T.F_L_plus.kp T.B_L_plus .nil pass0 (pa_cons (vr 8) (pa_cons (vr 11) pa_nil))))) (pss_one (ps_if (t_cmp o_eq (pe_op o_or (vr 10) (vr 9)) pe_int (nomark _)) (pss_one (ps_set (i := 8) sc_L_due.nd rfl (Or.inl rfl) (pe_call G_L_plus hr rfl T.m_L_plus T.F_L_plus.kp T.B_L_plus .nil pass0 (pa_cons (vr 8) (pa_cons (pe_call G_L_times hr rfl T.m_L_times T.F_L_times.kp T.B_L_times .nil pass0 (pa_cons (vr 11) (pa_cons (vr 4) pa_nil))) pa_nil))))) pss_nil))))) (pss_one (ps_ret (vr 8)))))))), ?_⟩
    intro d0 fd0
    have s1 := Same.new (o := .dT []) fd0
    refine ⟨two_le _ _, fun t1 ft1 => ?_⟩
    have s2 := Same.new (o := .tup [.int 0, .int 0]) ft1
    have ht1 := upd_same (H := upd H d0 (.dT [])) (a := t1) (o := .tup [.int 0, .int 0])
    have hd2 := s2 _ _ (upd_same (H := H) (a := d0) (o := .dT []))
    have s12 := s1.trans s2
    generalize upd (upd H d0 (.dT [])) t1 (.tup [.int 0, .int 0]) = H2 at s2 ht1 hd2 s12
    refine ⟨two_le _ _, fun t2 ft2 => ?_⟩
    have s3 := Same.new (o := .tup [.int 1, .int 1]) ft2
    have ht2 := upd_same (H := H2) (a := t2) (o := .tup [.int 1, .int 1])
    have hd3 := s3 _ _ hd2
    have s13 := s12.trans s3
    generalize upd H2 t2 (.tup [.int 1, .int 1]) = H3 at s3 ht2 hd3 s13
    refine ⟨hd3, t1, kk (0, 0), rfl, s3 _ _ ht1, ?_⟩
    have hS4 : StAt K (upd H3 d0 (.dT (putK [] (kk (0, 0)) (.ref t2)))) [((0, 0), 1)] (putK [] (kk (0, 0)) (.ref t2)) := .cons ⟨rfl, ⟨t2, rfl, .inl (TK.dT hd3 _ _ ht2)⟩⟩ .nil
    have hd4 := upd_same (H := H3) (a := d0) (o := .dT (putK [] (kk (0, 0)) (.ref t2)))
    have s14 : Same H (upd H3 d0 (.dT (putK [] (kk (0, 0)) (.ref t2)))) := s13.put fd0
    generalize upd H3 d0 (.dT (putK [] (kk (0, 0)) (.ref t2))) = H4 at hS4 hd4 s14
    generalize putK [] (kk (0, 0)) (V.ref t2) = kvs0 at hS4 hd4
    refine ⟨two_le _ _, fun t3 ft3 => ?_⟩
    have s5 := Same.new (o := .tup [.int 0, .int 1]) ft3
    have ht3 := upd_same (H := H4) (a := t3) (o := .tup [.int 0, .int 1])
    have s15 := s14.trans s5
    have hd5 := s5 _ _ hd4
    have hS5 := hS4.tk s5.tk
    generalize upd H4 t3 (.tup [.int 0, .int 1]) = H5 at s5 ht3 s15 hd5 hS5
    refine .inl ⟨⟨_, SqL.of (s15 _ _ hlo)⟩, for_list (K := K) (a := lo) (xs := ord.map fun (o : Nat) => V.int (o : Int)) (fun i σ H' => ∃ (hs : Rat × Sts) (S : Nat) (dst : Addr) (kvs : List (List Key × V)) (xh : V) (x5 x6 x7 x8 x9 x10 x11 : Option V), DuS B L i hs S ∧ Same H H' ∧ H dst = none ∧ H' dst = some (.dT kvs) ∧ StAt K H' hs.2 kvs ∧ IsQ K H' hs.1 xh ∧ σ = [some (.ref ls), some (.ref lo), some (.ref dm), some (.ref dst), some xh, x5, x6, x7, x8, x9, x10, x11])
      ⟨(0, [((0, 0), 1)]), 0, d0, kvs0, _, none, none, none, none, none, none, none, DuS.start hMk, s15, fd0, hd5, hS5, ⟨t3, rfl, .inl ht3⟩, rfl⟩ (fun i σ H' _ h => ?_) ?_ ?_⟩
    · obtain ⟨hs, S, dst, kvs, xh, x5, x6, x7, x8, x9, x10, x11, k, sH, _⟩ := h
      exact SqL.of (sH _ _ hlo)
    · rintro i x σ H' hx ⟨hs, S, dst, kvs, xh, x5, x6, x7, x8, x9, x10, x11, k, sH, fdst, hdst, hSt, hh, rfl⟩
      rw [List.getElem?_map] at hx
      cases hoi : ord[i]? with
      | none => rw [hoi] at hx; cases hx
      | some o =>
      rw [hoi] at hx
      cases hx
      have ilt : i < ord.length := (List.getElem?_eq_some_iff.mp hoi).1
      have ho := hord o (List.mem_of_getElem? hoi)
      have hLi : L[i]? = some (qs.getD o 0, mk o) := by rw [hL]; unfold mkL; rw [List.getElem?_map, hoi]; rfl
      obtain ⟨xo, exo, qo⟩ := at_q (hF.same sH) ho
      have hqo : Bq B (qs.getD o 0) := hq _ (by rw [List.getD, List.getElem?_eq_getElem ho]; exact List.getElem_mem ho)
      have mkn := k.mkn hLi
      have m4 : mk o < 4 := mkn.2.1
      obtain ⟨D, D0, D1, W⟩ := k.law
      have ekn := k.eqn hLi
      have Dl : ∀ {T : Nat}, T ≤ 2 * B → D * T ≤ (2 * B) ^ (i + 1) := fun h => by rw [Nat.pow_succ]; exact Nat.mul_le_mul D1 h
      have D1' : D ≤ (2 * B) ^ (i + 1) := by rw [Nat.pow_succ]; exact Nat.le_trans D1 (Nat.le_mul_of_pos_right _ (by omega))
      obtain ⟨mkvs, hdm, hmv⟩ := hmk
      refine .inl ⟨ls, _, _, xo, rfl, rfl, SqL.of (sH _ _ hls), atI_nat exo, ?_⟩
      refine ⟨dm, rfl, .inl ⟨mkvs, .inl (sH _ _ hdm)⟩, _, .inl ⟨mkvs, .inl (o : Int), .inl (sH _ _ hdm), rfl, rfl⟩, ?_⟩
      rw [hmv o]
      refine ⟨two_le _ _, fun u1 fu1 => ?_⟩
      have sA := Same.new (o := .tup [.int 1, .int 1]) fu1
      have hu1 := upd_same (H := H') (a := u1) (o := .tup [.int 1, .int 1])
      have sHA := sH.trans sA
      have hdA := sA _ _ hdst
      have hSA := hSt.tk sA.tk
      have hhA := hh.same sA
      have qoA := qo.same sA
      generalize upd H' u1 (.tup [.int 1, .int 1]) = HA at sA hu1 sHA hdA hSA hhA qoA
      obtain ⟨po, rfl, hpo⟩ := id qoA
      refine eq_one hpo hu1 ?_
      refine ifC (fun c1 => ?_) (fun c1 => ?_)
      · rw [c1] at ekn mkn
        have WN := W.sure mkn
        have est : (dStep hs (1, mk o)) = (hs.1, hs.2.map fun y => ((y.1.1, y.1.2 ||| mk o), y.2)) := by unfold dStep; rw [if_pos rfl]
        refine ⟨.inr (.inr (.inl ⟨rfl, .inr ⟨kvs, hdA⟩⟩)), dst, kvs, rfl, rfl, .inl hdA, fun v fv => ?_⟩
        have sB := Same.new (o := .ext (IV v dst)) fv
        have hvB := upd_same (H := HA) (a := v) (o := .ext (IV v dst))
        have hdB := sB _ _ hdA
        generalize upd HA v (.ext (IV v dst)) = HB at sB hvB hdB
        refine ⟨v, dst, kvs, rfl, hvB, .inl hdB, fun ob => ?_⟩
        have sHC : Same H (upd HB dst (.frz ob (.dT kvs))) := (sHA.trans sB).put fdst
        have tkC : TK HA (upd HB dst (.frz ob (.dT kvs))) := sB.tk.trans (TK.dT hdB)
        have hdC := upd_same (H := HB) (a := dst) (o := .frz ob (.dT kvs))
        have hSC := hSA.tk tkC
        have hhC := hhA.tk tkC
        generalize upd HB dst (.frz ob (.dT kvs)) = HC at sHC tkC hdC hSC hhC
        intro DD hDD
        have nDD : DD ≠ dst := fun z => by rw [z, hdC] at hDD; cases hDD
        have hkl := hSA.len
        have s16 := st16 k.s4 W.nd W.al
        refine comp_items (d := dst) (o := ob) (kvs := kvs) (fun j ys H2 => j ≤ kvs.length ∧ Same HC H2 ∧ H2 DD = some (.lst ys) ∧ Paired (PrT H2) ((kvs.zip hs.2).map (fun z => (kk (z.2.1.1, z.2.1.2 ||| mk o), z.1.2)) |>.take j) ys) ⟨Nat.zero_le _, Same.new hDD, upd_same, .nil⟩ (fun j ys H2 h => h.2.1 _ _ hdC) (fun j ys H2 h => h.2.2.1) ?_ ?_
        · rintro j kv b ys H2 p P' hkv hb ⟨hj, sD, hD2, hys⟩ fp hP'
          obtain ⟨⟨⟨up, ins⟩, part⟩, hxi, ek, hpart⟩ := paired_get hSC hkv
          have jlt : j < kvs.length := (List.getElem?_eq_some_iff.mp hkv).1
          obtain ⟨al1, al2⟩ := W.al _ (List.mem_of_getElem? hxi)
          have al2 : ins ||| S = S := al2
          have in4 : ins < 4 := by have := Nat.left_le_or (n := ins) (m := S); have := k.s4; omega
          have ek : kv.1 = kk (up, ins) := ek
          rw [ek] at hb
          have hb : H2 b = some (.tup [.int (up : Nat), .int (ins : Nat)]) := hb
          have sN := Same.new (o := .tup [.ref b, kv.2]) fp
          have hbN := sN _ _ hb
          have hpN := upd_same (H := H2) (a := p) (o := .tup [.ref b, kv.2])
          have hD3 := sN _ _ hD2
          have yl : ys.length ≤ 16 := by rw [← Paired.length hys, List.length_take, List.length_map, List.length_zip]; omega
          generalize upd H2 p (.tup [.ref b, kv.2]) = HN at sN hbN hpN hD3
          refine ⟨p, _, rfl, SqT.of hpN, rfl, _, _, rfl, b, _, rfl, SqT.of hbN, rfl, _, _, rfl, _, _, rfl, rfl, _, _, rfl, rfl, ⟨rfl, trivial⟩, ?_⟩
          refine ⟨two_le _ _, fun k1 fk1 => ?_⟩
          have sO := Same.new (o := .tup [.int (up : Nat), .int (Builtin.bitOr (ins : Int) (mk o : Int))]) fk1
          have hk1 : (upd HN k1 (.tup [.int (up : Nat), .int (Builtin.bitOr (ins : Int) (mk o : Int))])) k1 = some (.tup [.int (up : Nat), .int ((ins ||| mk o : Nat) : Int)]) := by rw [upd_same, bor4 in4 m4]
          refine ⟨two_le _ _, fun k2 fk2 => ?_⟩
          have sP := Same.new (o := .tup [.ref k1, kv.2]) fk2
          have sNP := sO.trans sP
          have hDP := sNP _ _ hD3
          have tkP := (sNP.tk).trans (TK.lst (ys := ys ++ [.ref k2]) hDP)
          have n1 : k1 ≠ DD := fun z => by rw [z, hD3] at fk1; cases fk1
          have n2 : k2 ≠ DD := fun z => by rw [z, sO _ _ hD3] at fk2; cases fk2
          have hk1P := sP _ _ hk1
          refine ⟨hDP, by omega, hP' _ _ ⟨jlt, ((sD.trans sN).trans sNP).put hDD, upd_same, ?_⟩⟩
          rw [List.take_add_one]
          have ez : ((kvs.zip hs.2).map (fun z => (kk (z.2.1.1, z.2.1.2 ||| mk o), z.1.2)))[j]? = some (kk (up, ins ||| mk o), kv.2) := by
            rw [List.getElem?_map, List.getElem?_zip_eq_some (z := (kv, ((up, ins), part))) |>.mpr ⟨hkv, hxi⟩]; rfl
          rw [ez]
          refine paired_snoc ⟨k2, k1, rfl, by rw [upd_ne n2]; exact upd_same, by rw [upd_ne n1]; exact hk1P⟩ (paired_imp (fun z x (h : PrT H2 z x) => ?_) hys)
          obtain ⟨t, b', e1, e2, e3⟩ := h
          exact ⟨t, b', e1, tkP _ _ (sN _ _ e2), tkP _ _ (sN _ _ e3)⟩
        · rintro ys H2 ⟨_, sD, hD2, hys⟩
          have el : ((kvs.zip hs.2).map (fun z => (kk (z.2.1.1, z.2.1.2 ||| mk o), z.1.2))).length = kvs.length := by rw [List.length_map, List.length_zip]; omega
          rw [← el, List.take_length] at hys
          refine ⟨DD, ys, _, rfl, SqL.of hD2, hys, by rw [el]; omega, fun dn fdn => ?_⟩
          have pz : ∀ {st : Sts} {kv : List (List Key × V)}, StAt K H2 st kv → StAt K H2 (st.map fun y => ((y.1.1, y.1.2 ||| mk o), y.2)) ((kv.zip st).map (fun z => (kk (z.2.1.1, z.2.1.2 ||| mk o), z.1.2))) := by
            intro st kv h
            induction h with
            | nil => exact .nil
            | cons r t ih => exact .cons ⟨rfl, r.2⟩ ih
          have hS2 := pz (hSC.tk sD.tk)
          have ndk : (((kvs.zip hs.2).map (fun z => (kk (z.2.1.1, z.2.1.2 ||| mk o), z.1.2))).map (·.1)).Nodup := by
            have nd := WN.nd
            rw [est] at nd
            have e : ∀ {st : Sts} {kv : List (List Key × V)}, StAt K H2 st kv → kv.map (·.1) = (st.map (·.1)).map kk := by
              intro st kv h
              induction h with
              | nil => rfl
              | cons r t ih => rw [List.map_cons, List.map_cons, List.map_cons, ih, r.1]
            rw [e hS2]
            exact List.pairwise_map.mpr (List.Pairwise.imp (fun h z => h (kk_inj z)) nd)
          have em := merge_nodup (acc := []) (kvs := (kvs.zip hs.2).map (fun z => (kk (z.2.1.1, z.2.1.2 ||| mk o), z.1.2))) (by rw [List.nil_append]; exact ndk)
          rw [em, List.nil_append]
          have sE := Same.new (o := .dT ((kvs.zip hs.2).map (fun z => (kk (z.2.1.1, z.2.1.2 ||| mk o), z.1.2)))) fdn
          refine ⟨dStep hs (1, mk o), S ||| mk o, dn, _, _, _, _, _, _, _, _, _, ⟨ekn, ⟨D, D0, D1', WN⟩, mkn.2.2.2, or4 k.s4 m4⟩, (sHC.trans sD).trans sE, (sHC.trans sD).free fdn, upd_same, ?_, ?_, rfl⟩
          · rw [est]; exact hS2.tk sE.tk
          · rw [est]; exact (hhC.same sD).same sE
      · have c1 : ¬ qs.getD o 0 = 1 := c1
        refine px0 hpo.sq ?_
        refine ifC (fun c0 => ?_) (fun c0 => ?_)
        · have c0 : 0 < qs.getD o 0 := num_pos.mp c0
          have c1' : qs.getD o 0 < 1 := by have := hqo.2.1; grind
          have hcB : Hc B hs.1 (qs.getD o 0) := ⟨B0, B1, W.hB, hqo, W.H.h1, c0, c1'⟩
          have lDB2 : D * (2 * B) < Lm := Nat.lt_of_le_of_lt (Nat.mul_le_mul_right _ D1) (Dn_lm B1 (by omega))
          refine ⟨dst, _, _, mk o, kvs, hs, qs.getD o 0, B, D, S, rfl, hdA, hSA, W, k.s4, m4, hhA, qoA, hcB, D0, lDB2, fun HB d2 kvs2 TT kpB fd2 hd2 hSB t0 t1' M => ?_⟩
          have WN := W.come hqo c0 c1' M
          have sHB : Same H HB := fun b u e => kpB _ _ (ne_of_none e fdst) (sHA _ _ e)
          have fd2' : H d2 = none := sHA.free fd2
          have tkB : TK HA HB := fun b us e => kpB _ _ (fun z => by rw [z, hdA] at e; cases e) e
          have est : dStep hs (qs.getD o 0, mk o) = (hb hs.1 (qs.getD o 0), comeS hs.1 (qs.getD o 0) (mk o) hs.2) := by
            unfold dStep
            rw [if_neg (show ¬ (qs.getD o 0, mk o).1 = 1 from c1), if_pos (show 0 < (qs.getD o 0, mk o).1 from c0)]
          refine ⟨_, _, hs.1, qs.getD o 0, rfl, hhA.tk tkB, qoA.tk tkB, hcB.bh, hcB.bc, trivial, fun HC zC sC qC => ?_⟩
          obtain ⟨pC, rfl, hpC⟩ := id qC
          refine px0 hpC.sq (px1 hpC.sq ?_)
          have ge : ∀ {x y : Int}, decide (x ≥ y) = !decide (x < y) := fun {x y} => by
            by_cases h : x < y
            · rw [decide_eq_true h, decide_eq_false (by omega)]; rfl
            · rw [decide_eq_false h, decide_eq_true (by omega)]; rfl
          show if decide ((hs.1 + qs.getD o 0).num ≥ ((hs.1 + qs.getD o 0).den : Int)) = true then _ else _
          rw [ge, q_lt1]
          have fin : ∀ {HZ : Hp} {z : V}, Same HC HZ → IsQ K HZ (hb hs.1 (qs.getD o 0)) z → ∃ (hs' : Rat × Sts) (S' : Nat) (dst' : Addr) (kvs' : List (List Key × V)) (xh' : V) (y5 y6 y7 y8 y9 y10 y11 : Option V), DuS B L (i + 1) hs' S' ∧ Same H HZ ∧ H dst' = none ∧ HZ dst' = some (.dT kvs') ∧ StAt K HZ hs'.2 kvs' ∧ IsQ K HZ hs'.1 xh' ∧ [some (V.ref ls), some (.ref lo), some (.ref dm), some (.ref d2), some z, some (.int (o : Int)), some (.ref po), some (.int (mk o : Nat)), x8, x9, x10, x11] = [some (.ref ls), some (.ref lo), some (.ref dm), some (.ref dst'), some xh', y5, y6, y7, y8, y9, y10, y11] := fun {HZ z} sZ qz =>
            ⟨dStep hs (qs.getD o 0, mk o), S ||| mk o, d2, kvs2, z, _, _, _, _, _, _, _, ⟨ekn, ⟨D * TT, Nat.mul_pos D0 t0, Dl t1', WN⟩, mkn.2.2.2, or4 k.s4 m4⟩, sHB.trans (sC.trans sZ), fd2', (sC.trans sZ) _ _ hd2, by rw [est]; exact hSB.tk (sC.trans sZ).tk, by rw [est]; exact qz, rfl⟩
          refine ifB (fun g => ?_) (fun g => ?_)
          · have g : ¬ hs.1 + qs.getD o 0 < 1 := by simpa using g
            refine ⟨two_le _ _, fun u2 fu2 => ?_⟩
            have sD := Same.new (o := .tup [.int 1, .int 1]) fu2
            refine ⟨_, _, hs.1 + qs.getD o 0, 1, rfl, qC.same sD, ⟨u2, rfl, .inl upd_same⟩, hcB.bs, bb1, trivial, fun HE zE sE qE => ?_⟩
            refine fin (sD.trans sE) ?_
            unfold hb
            rw [if_neg g]
            exact qE
          · have g : hs.1 + qs.getD o 0 < 1 := by simpa using g
            refine fin (Same.refl _) ?_
            unfold hb
            rw [if_pos g]
            exact qC
        · have c0 : ¬ 0 < qs.getD o 0 := fun z => c0 (num_pos.mpr z)
          have c00 : qs.getD o 0 = 0 := by have := hqo.1; grind
          rw [c00] at ekn mkn
          have WN := W.none (mk := mk o)
          have est : dStep hs (0, mk o) = hs := by
            unfold dStep
            rw [if_neg (show ¬ (0 : Rat) = 1 by grind), if_neg (show ¬ (0 : Rat) < 0 by grind)]
          rw [est] at ekn WN
          exact ⟨hs, S ||| mk o, dst, kvs, xh, _, _, _, _, _, _, _, ⟨ekn, ⟨D, D0, D1', WN⟩, mkn.2.2.2, or4 k.s4 m4⟩, sHA, fdst, hdA, hSA, hhA, rfl⟩
    · rintro σ H' ⟨hs, S, dst, kvs, xh, x5, x6, x7, x8, x9, x10, x11, k, sH, fdst, hdst, hSt, hh, rfl⟩
      rw [List.length_map] at k
      have ekn := k.eq
      rw [← hLl, List.take_length] at ekn
      have edue : dueR L = Sf hs.2 (Vf hs.1) := by unfold dueR; rw [ekn]
      obtain ⟨D, D0, D1, W⟩ := k.law
      have lDB2 : D * (2 * B) < Lm := Nat.lt_of_le_of_lt (Nat.mul_le_mul_right _ D1) (Dn_lm B1 (by omega))
      have lDB : D * B < Lm := Nat.lt_of_le_of_lt (Nat.mul_le_mul_left D (by omega)) lDB2
      have lD : D < Lm := lt_mul B0 lDB
      have DB0 : 0 < D * B := Nat.mul_pos D0 B0
      have tot := tot_ok W (Vf hs.1) (Vf_bq W.hB)
      refine ⟨two_le _ _, fun u1 fu1 => ?_⟩
      have sA := Same.new (o := .tup [.int 0, .int 1]) fu1
      have hu1 := upd_same (H := H') (a := u1) (o := .tup [.int 0, .int 1])
      have sHA := sH.trans sA
      have hdA := sA _ _ hdst
      have hSA := hSt.tk sA.tk
      have hhA := hh.same sA
      generalize upd H' u1 (.tup [.int 0, .int 1]) = HA at sA hu1 sHA hdA hSA hhA
      refine ⟨.inr (.inr (.inl ⟨rfl, .inr ⟨kvs, hdA⟩⟩)), dst, kvs, rfl, rfl, .inl hdA, fun v fv => ?_⟩
      have sB := Same.new (o := .ext (IV v dst)) fv
      have hvB := upd_same (H := HA) (a := v) (o := .ext (IV v dst))
      have hdB := sB _ _ hdA
      generalize upd HA v (.ext (IV v dst)) = HB at sB hvB hdB
      refine ⟨v, dst, kvs, rfl, hvB, .inl hdB, fun ob => ?_⟩
      have sHC : Same H (upd HB dst (.frz ob (.dT kvs))) := (sHA.trans sB).put fdst
      have tkC : TK HA (upd HB dst (.frz ob (.dT kvs))) := sB.tk.trans (TK.dT hdB)
      have hdC := upd_same (H := HB) (a := dst) (o := .frz ob (.dT kvs))
      have hSC := hSA.tk tkC
      have hhC := hhA.tk tkC
      have hu1C := tkC _ _ hu1
      generalize upd HB dst (.frz ob (.dT kvs)) = HC at sHC tkC hdC hSC hhC hu1C
      have hkl := hSA.len
      refine for_items (Pv := fun i σ H2 => ∃ (zt : V) (y9 y10 y11 : Option V), Same HC H2 ∧ IsQ K H2 (Sf (hs.2.take i) (Vf hs.1)) zt ∧ σ = [some (.ref ls), some (.ref lo), some (.ref dm), some (.ref dst), some xh, x5, x6, x7, some zt, y9, y10, y11]) ⟨_, _, _, _, Same.refl _, ⟨u1, rfl, .inl (by rw [List.take_zero, Sf_nil]; exact hu1C)⟩, rfl⟩ (fun i σ H2 h => ?_) ?_ ?_
      · obtain ⟨zt, y9, y10, y11, s, _⟩ := h
        exact s _ _ hdC
      · rintro i kv b σ H2 p hkv hb ⟨zt, y9, y10, y11, sD, qz, rfl⟩ fp
        obtain ⟨⟨⟨up, ins⟩, part⟩, hxi, ek, hpart⟩ := paired_get (hSC.tk sD.tk) hkv
        have hmem := List.mem_of_getElem? hxi
        have bp := W.b _ hmem
        obtain ⟨al1, al2⟩ := W.al _ hmem
        have al1 : up ||| S = S := al1
        have al2 : ins ||| S = S := al2
        have s4 := k.s4
        have up4 : up < 4 := by have := Nat.left_le_or (n := up) (m := S); omega
        have in4 : ins < 4 := by have := Nat.left_le_or (n := ins) (m := S); omega
        have ek : kv.1 = kk (up, ins) := ek
        rw [ek] at hb
        have hb : H2 b = some (.tup [.int (up : Nat), .int (ins : Nat)]) := hb
        have sN := Same.new (o := .tup [.ref b, kv.2]) fp
        have hbN := sN _ _ hb
        have hpN := upd_same (H := H2) (a := p) (o := .tup [.ref b, kv.2])
        generalize upd H2 p (.tup [.ref b, kv.2]) = HN at sN hbN hpN
        have st : Sf (hs.2.take (i + 1)) (Vf hs.1) = Sf (hs.2.take i) (Vf hs.1) + part * Vf hs.1 (up, ins) := Sf_take_f hxi
        refine ⟨p, _, rfl, SqT.of hpN, rfl, _, _, rfl, b, _, rfl, SqT.of hbN, rfl, _, _, rfl, _, _, rfl, rfl, _, _, rfl, rfl, ?_⟩
        refine ifC (fun c3 => ?_) (fun c3 => ?_)
        · have c3 : ins = 3 := by omega
          refine ⟨_, _, Sf (hs.2.take i) (Vf hs.1), part, rfl, qz.same sN, hpart.same sN, (tot i).bb DB0 lDB, bp.bb D0 lD, trivial, fun HZ z sZ qZ => ?_⟩
          refine ⟨_, _, _, _, sD.trans (sN.trans sZ), ?_, rfl⟩
          rw [st]
          have : Vf hs.1 (up, ins) = 1 := by unfold Vf; rw [if_pos c3]
          rw [this, Rat.mul_one]
          exact qZ
        · have c3 : ¬ ins = 3 := by omega
          refine ifC (fun c4 => ?_) (fun c4 => ?_)
          · have c4 : ins ||| up = 3 := by
              have z : Builtin.bitOr (ins : Int) (up : Int) = 3 := c4
              rw [bor4 in4 up4] at z
              omega
            have vf : Vf hs.1 (up, ins) = hs.1 := by unfold Vf; rw [if_neg c3, if_pos c4]
            have bb' := (bp.mul W.hB).bb DB0 lDB
            refine ⟨_, _, part, hs.1, rfl, hpart.same sN, (hhC.same sD).same sN, bp.bb D0 lD, W.hB.bb B0 (B_lm B1), trivial, fun HY y sY qY => ?_⟩
            refine ⟨_, _, Sf (hs.2.take i) (Vf hs.1), part * hs.1, rfl, (qz.same sN).same sY, qY, (tot i).bb DB0 lDB, bb', trivial, fun HZ z sZ qZ => ?_⟩
            refine ⟨_, _, _, _, sD.trans (sN.trans (sY.trans sZ)), ?_, rfl⟩
            rw [st, vf]
            exact qZ
          · have c4 : ¬ ins ||| up = 3 := fun e => by
              have z : ¬ Builtin.bitOr (ins : Int) (up : Int) = 3 := c4
              rw [bor4 in4 up4] at z
              omega
            have vf : Vf hs.1 (up, ins) = 0 := by unfold Vf; rw [if_neg c3, if_neg c4]
            refine ⟨zt, _, _, _, sD.trans sN, ?_, rfl⟩
            rw [st, vf, Rat.mul_zero, Rat.add_zero]
            exact qz.same sN
      · rintro σ H2 ⟨zt, y9, y10, y11, sD, qz, rfl⟩
        rw [← hkl, List.take_length] at qz
        refine q _ zt (sHC.trans sD) ?_
        rw [edue]
        exact qz
end
end My

set_option Elab.async false
set_option linter.all false
set_option maxRecDepth 100000
set_option maxHeartbeats 4000000
namespace My
open PySem L2 FrM Du
theorem tabs_new {a : Ad} {ts : List Addr} {H : Hp} (hts : ∀ q ∈ tabs a, q.1 ∈ ts) (h : ∀ P ∈ ts, H P = some (.tbl #[])) : TabsOk (tabs a) H := fun q hq => ⟨#[], h _ (hts q hq), trivial, fun _ _ => .inl rfl⟩
theorem tabs_lst {tabs : Tabs} {H : Hp} {q : Addr} {zs zs' : List V} (hq : H q = some (.lst zs)) (hT : TabsOk tabs H) : TabsOk tabs (upd H q (.lst zs')) := hT.put (fun ps z => by rw [hq] at z; cases z) (fun φ z => by rw [hq] at z; cases z)
noncomputable def pD (fs : List (Int × Int)) : List PyData := fs.map fun f => .tuple [.int f.1, .int f.2]
noncomputable def mD (fss : List (List (Int × Int))) : List PyData := fss.map fun fs => .list (pD fs)
theorem MatAt.keep {K : PySem.W.Frag} {D : Addr} {H H' : Hp} (k : TK H H') : ∀ {fss : List (List (Int × Int))} {xs : List V}, (∀ q zs, V.ref q ∈ xs → H q = some (.lst zs) → H' q = some (.lst zs)) → MatAt K D H fss xs → MatAt K D H' fss xs
  | _, _, _, .nil => .nil
  | _, _, h, .cons ⟨q, ys, e, n, g, f⟩ t => .cons ⟨q, ys, e, n, h _ _ (by rw [e]; exact List.mem_cons_self ..) g, f.tk k⟩ (MatAt.keep k (fun q zs m => h q zs (List.mem_cons_of_mem _ m)) t)
theorem MatAt.mem {K : PySem.W.Frag} {D : Addr} {H : Hp} : ∀ {fss : List (List (Int × Int))} {xs : List V} {q : Addr}, MatAt K D H fss xs → V.ref q ∈ xs → q ≠ D ∧ ∃ ys, H q = some (.lst ys)
  | _, _, _, .nil, h => by cases h
  | _, _, _, .cons ⟨q, ys, e, n, g, f⟩ t, h => by
    rcases List.mem_cons.mp h with z | z
    · rw [← z] at e
      cases e
      exact ⟨n, ys, g⟩
    · exact MatAt.mem t z
theorem nodup_take : ∀ {xs : List V} {i : Nat} {x : V}, xs.Nodup → xs[i]? = some x → x ∉ xs.take i
  | [], _, _, _, h => by cases h
  | _ :: _, 0, _, _, _ => by simp
  | y :: xs, i + 1, x, hn, h => by
    rw [List.nodup_cons] at hn
    rw [List.take_succ_cons]
    intro z
    rcases List.mem_cons.mp z with e | e
    · rw [← e] at hn
      exact hn.1 (List.mem_of_getElem? h)
    · exact nodup_take hn.2 h e
theorem ent_sym (qs : List Rat) (L : List (Nat × Rat)) (i j : Nat) : ent qs (keptF L) i j = ent qs (keptF L) j i := by
  unfold ent
  by_cases c : i = j
  · rw [if_pos c, if_pos c.symm, c]
  · rw [if_neg c, if_neg (Ne.symm c), kept_sym, Rat.mul_comm]
theorem ent_diag (qs : List Rat) (f : Fn) (i : Nat) : ent qs f i i = qs.getD i 0 := by unfold ent; rw [if_pos rfl]
theorem row_len {qs : List Rat} {f : Fn} {i : Nat} : (rowQ qs f i).length = qs.length := by unfold rowQ; rw [List.length_map, List.length_range]
theorem mat_len {qs : List Rat} {f : Fn} : (matQ qs f).length = qs.length := by unfold matQ; rw [List.length_map, List.length_range]
theorem mat_get {qs : List Rat} {f : Fn} {i : Nat} (h : i < qs.length) : (matQ qs f)[i]? = some (rowQ qs f i) := by unfold matQ; rw [List.getElem?_map, List.getElem?_range h]; rfl
theorem row_get {qs : List Rat} {f : Fn} {i j : Nat} (h : j < qs.length) : (rowQ qs f i)[j]? = some (fr (ent qs f i j)) := by unfold rowQ; rw [List.getElem?_map, List.getElem?_range h]; rfl
/-- the marks -/
noncomputable def mkF (x y : Nat) : Nat → Nat := fun o => if o = y then 2 else if o = x then 1 else 0
theorem mk_at {x y o : Nat} : (valV (mergeK [] [((Sum.inl (x : Int) : Key), V.int 1), (Sum.inl (y : Int), .int 2)]) (Sum.inl (o : Int))).getD (.int 0) = .int (mkF x y o : Nat) := by
  show (valV (putK (putK [] (Sum.inl (x : Int) : Key) (V.int 1)) (Sum.inl (y : Int)) (.int 2)) (Sum.inl (o : Int))).getD (.int 0) = _
  rw [valV_put, valV_put]
  unfold mkF
  have e : ∀ {a b : Nat}, ((Sum.inl (a : Int) : Key) = Sum.inl (b : Int)) ↔ a = b := fun {a b} => ⟨fun h => by injection h with h; omega, fun h => by rw [h]⟩
  by_cases c : o = y
  · rw [if_pos (e.mpr c), if_pos c]; rfl
  · rw [if_neg (fun z => c (e.mp z)), if_neg c]
    by_cases c2 : o = x
    · rw [if_pos (e.mpr c2), if_pos c2]; rfl
    · rw [if_neg (fun z => c2 (e.mp z)), if_neg c2]; rfl
theorem mk_inj {x y o o' : Nat} (h : mkF x y o = mkF x y o') (n : mkF x y o ≠ 0) : o = o' := by
  unfold mkF at h n
  by_cases c : o = y
  · rw [if_pos c] at h
    by_cases c' : o' = y
    · omega
    · rw [if_neg c'] at h; split at h <;> omega
  · rw [if_neg c] at h n
    by_cases c2 : o = x
    · rw [if_pos c2] at h
      by_cases c' : o' = y
      · rw [if_pos c'] at h; omega
      · rw [if_neg c'] at h
        split at h
        · omega
        · omega
    · rw [if_neg c2] at n; exact absurd rfl n
theorem mk_lt (x y o : Nat) : mkF x y o < 3 := by unfold mkF; split <;> (try split) <;> omega
theorem mk_ok {qs : List Rat} {x y : Nat} : ∀ {ord : List Nat} {S : Nat}, ord.Nodup → S < 4 → (∀ o ∈ ord, mkF x y o &&& S = 0) → Mk S (mkL qs ord (mkF x y))
  | [], _, _, _, _ => trivial
  | o :: r, S, nd, hS, h => by
    rw [List.nodup_cons] at nd
    have l3 := mk_lt x y o
    refine ⟨.inr (h o (List.mem_cons_self ..)), by show mkF x y o < 4; omega, hS, mk_ok nd.2 (or4 hS (show mkF x y o < 4 by omega)) fun o' ho' => ?_⟩
    show mkF x y o' &&& (S ||| mkF x y o) = 0
    have h' := h o' (List.mem_cons_of_mem _ ho')
    have ne : o ≠ o' := fun z => nd.1 (z ▸ ho')
    have l3' := mk_lt x y o'
    have d : mkF x y o = 0 ∨ mkF x y o' = 0 ∨ mkF x y o ≠ mkF x y o' := by
      by_cases c : mkF x y o = 0
      · exact .inl c
      · exact .inr (.inr fun z => ne (mk_inj z c))
    generalize mkF x y o = m at *
    generalize mkF x y o' = m' at *
    have all : ∀ (S : Fin 4) (m m' : Fin 3), (m.1 = 0 ∨ m'.1 = 0 ∨ m.1 ≠ m'.1) → m'.1 &&& S.1 = 0 → m'.1 &&& (S.1 ||| m.1) = 0 := by decide +kernel
    exact all ⟨S, hS⟩ ⟨m, l3⟩ ⟨m', l3'⟩ d h'
theorem mem_uns {qs : List Rat} {ord : List Nat} {o : Nat} (h : o ∈ (unsL qs ord).map (·.1)) : Uns (qs.getD o 0) := by
  obtain ⟨z, hz, rfl⟩ := List.mem_map.mp h
  obtain ⟨z1, z2⟩ := List.mem_filter.mp hz
  obtain ⟨o', ho', rfl⟩ := List.mem_map.mp z1
  exact unsQ_iff.mp z2
/-- the share of both is the law's own -/
theorem ent_due {qs : List Rat} {ord : List Nat} {x y : Nat} (hp : ord.Perm (List.range qs.length)) (hq : ∀ q ∈ qs, In1 q) (hx : x < qs.length) (hy : y < qs.length) (hxy : x ≠ y) : ent qs (keptF (unsL qs ord)) x y = dueR (mkL qs ord (mkF x y)) := by
  have nd : ord.Nodup := hp.symm.nodup List.nodup_range
  have mem : ∀ {o}, o < qs.length → (o, qs.getD o 0) ∈ ordQ qs ord := fun {o} h => List.mem_map.mpr ⟨o, hp.mem_iff.mpr (List.mem_range.mpr h), rfl⟩
  have e1 : ((ordQ qs ord).map (·.1)) = ord := by unfold ordQ; rw [List.map_map]; exact List.map_id _
  have e2 : ((ordQ qs ord).map fun z => (z.2, mkF x y z.1)) = mkL qs ord (mkF x y) := by unfold ordQ mkL; rw [List.map_map]; rfl
  have m1 : mkF x y x = 1 := by unfold mkF; rw [if_neg hxy, if_pos rfl]
  have m2 : mkF x y y = 2 := by unfold mkF; rw [if_pos rfl]
  have m0 : ∀ z, z ≠ x → z ≠ y → mkF x y z = 0 := fun z a b => by unfold mkF; rw [if_neg b, if_neg a]
  obtain ⟨r1, r2⟩ := due_kept (ord := ordQ qs ord) (mk := mkF x y) (by rw [e1]; exact nd) (fun z hz => by
    obtain ⟨o, ho, rfl⟩ := List.mem_map.mp hz
    have ho := List.mem_range.mp (hp.mem_iff.mp ho)
    exact hq _ (by show qs.getD o 0 ∈ qs; rw [List.getD, List.getElem?_eq_getElem ho]; exact List.getElem_mem ho)) (mem hx) (mem hy) hxy m1 m2 m0
  rw [e2] at r1 r2
  unfold ent
  rw [if_neg hxy]
  by_cases u : Uns (qs.getD x 0) ∧ Uns (qs.getD y 0)
  · have := r1 u.1 u.2
    show (keptF (unsL qs ord) x y).getD _ = _
    unfold unsL
    rw [this]
    rfl
  · rw [keptF_none (fun h => u ⟨mem_uns h.1, mem_uns h.2⟩), r2 u]
    rfl
section
variable {P : Program} {w : World} {K : PySem.W.Frag} {mg : Str → Option Value} {base : Heap} {a : Ad}
theorem dvs_int {H : Hp} : ∀ (l : List Int), DVs K H (l.map PyData.int) (l.map V.int)
  | [] => by simp [DVs]
  | c :: l => by
    rw [List.map_cons, List.map_cons, DVs]
    exact ⟨_, _, rfl, by simp [DV], dvs_int l⟩
theorem lay_ints : ∀ (l : List Int), PyData.canLayAll0 (l.map PyData.int) = true ∧ PyData.depthAll (l.map PyData.int) ≤ 1
  | [] => by simp [PyData.canLayAll0, PyData.depthAll]
  | t :: l => by
    obtain ⟨h1, h2⟩ := lay_ints l
    rw [List.map_cons, PyData.canLayAll0, PyData.depthAll, h1, PyData.canLay0]
    refine ⟨rfl, ?_⟩
    simp only [PyData.depth]
    omega
theorem dvs_f {H : Hp} : ∀ {fs : List (Int × Int)} {xs : List V}, AllF K H fs xs → DVs K H (pD fs) xs
  | _, _, .nil => by simp [DVs, pD]
  | _, _, .cons ⟨p, e, r⟩ t => by
    unfold pD
    rw [List.map_cons, DVs]
    exact ⟨_, _, rfl, by rw [e]; exact dv_pair r.sq, dvs_f t⟩
theorem lay_f : ∀ (fs : List (Int × Int)), PyData.canLayAll0 (pD fs) = true ∧ PyData.depthAll (pD fs) ≤ 3
  | [] => by simp [PyData.canLayAll0, PyData.depthAll, pD]
  | t :: l => by
    obtain ⟨h1, h2⟩ := lay_f l
    unfold pD at *
    rw [List.map_cons, PyData.canLayAll0, PyData.depthAll, h1]
    refine ⟨by simp [PyData.canLay0, PyData.canLayAll0], ?_⟩
    simp only [PyData.depth, PyData.depthAll]
    omega
theorem ne_fr {H : Hp} {fs : List (Int × Int)} {l r : Addr} {xs ys : List V} {Q : VK} (h1 : H l = some (.lst xs)) (h2 : H r = some (.lst ys)) (f1 : AllF K H fs xs) (f2 : AllF K H fs ys) (q : Q (.bl false) H) : rEqD K true (.ref l) (.ref r) H Q := by
  have hs : SeqAt.shaped (.list (pD fs)) = true := by
    obtain ⟨k1, k2⟩ := lay_f fs
    unfold SeqAt.shaped
    rw [PyData.canLay0, k1, Bool.true_and]
    refine decide_eq_true ?_
    simp only [PyData.depth]
    omega
  refine ⟨.list (pD fs), .list (pD fs), by rw [DV]; exact ⟨l, _, rfl, SqL.of h1, dvs_f f1⟩, by rw [DV]; exact ⟨r, _, rfl, SqL.of h2, dvs_f f2⟩, hs, hs, ?_⟩
  rw [SeqAt.eqv_refl _ (SeqAt.canLay_of_shaped hs)]
  exact q
theorem ne_hand {H : Hp} {fs : List (Int × Int)} {ns : List Int} {l r l1 l2 r1 r2 : Addr} {xs : List V} {Q : VK} (h1 : H l = some (.lst [.ref l1, .ref l2])) (h2 : H r = some (.lst [.ref r1, .ref r2])) (a1 : H l1 = some (.lst xs)) (a2 : H r1 = some (.lst xs)) (hF : AllF K H fs xs)
    (b1 : H l2 = some (.lst (ns.map V.int))) (b2 : H r2 = some (.lst (ns.map V.int))) (q : Q (.bl false) H) : rEqD K true (.ref l) (.ref r) H Q := by
  have hs : SeqAt.shaped (.list [.list (pD fs), .list (ns.map PyData.int)]) = true := by
    obtain ⟨k1, k2⟩ := lay_f fs
    obtain ⟨k3, k4⟩ := lay_ints ns
    unfold SeqAt.shaped
    rw [PyData.canLay0, PyData.canLayAll0, PyData.canLayAll0, PyData.canLayAll0, PyData.canLay0, PyData.canLay0, k1, k3, Bool.true_and, Bool.true_and, Bool.true_and]
    refine decide_eq_true ?_
    simp only [PyData.depth, PyData.depthAll]
    omega
  have dv : ∀ {x y z : Addr}, H x = some (.lst [.ref y, .ref z]) → H y = some (.lst xs) → H z = some (.lst (ns.map V.int)) → DV K H (.list [.list (pD fs), .list (ns.map PyData.int)]) (.ref x) := fun {x y z} e1 e2 e3 => by
    rw [DV]
    refine ⟨x, _, rfl, SqL.of e1, ?_⟩
    rw [DVs]
    refine ⟨_, _, rfl, by rw [DV]; exact ⟨y, _, rfl, SqL.of e2, dvs_f hF⟩, ?_⟩
    rw [DVs]
    exact ⟨_, _, rfl, by rw [DV]; exact ⟨z, _, rfl, SqL.of e3, dvs_int _⟩, by simp [DVs]⟩
  refine ⟨_, _, dv h1 a1 b1, dv h2 a2 b2, hs, hs, ?_⟩
  rw [SeqAt.eqv_refl _ (SeqAt.canLay_of_shaped hs)]
  exact q
theorem seqT {H H' : Hp} {p : Addr} {xs : List V} (s : SameT H H') (h : SqL K H p xs) : SqL K H' p xs := by
  rcases h with (h | ⟨o, h⟩) | h
  · exact .inl (.inl (s.at h))
  · exact .inl (.inr ⟨o, s.at h⟩)
  · exact .inr h
theorem ifNe {c : Prop} [Decidable c] {A B : Prop} (h1 : ¬ c → A) (h2 : c → B) : if (!decide c) = true then A else B := by
  by_cases h : c
  · rw [decide_eq_true h]; exact h2 h
  · rw [decide_eq_false h]; exact h1 h
theorem ifNB {c : Prop} [Decidable c] {A B : Prop} (h1 : ¬ c → B → A) (hB : B) : if (!decide c) = true then A else B := ifNe (fun h => h1 h hB) fun _ => hB
theorem ne_q {H : Hp} {p : Rat} {x y : V} {Q : VK} (hx : IsQ K H p x) (hy : IsQ K H p y) (q : Q (.bl false) H) : rEqD K true x y H Q := by
  obtain ⟨x, rfl, hx⟩ := hx
  obtain ⟨y, rfl, hy⟩ := hy
  refine ⟨_, _, dv_pair hx.sq, dv_pair hy.sq, shaped_pair _ _, shaped_pair _ _, ?_⟩
  rw [SeqAt.eqv_refl _ (SeqAt.canLay_of_shaped (shaped_pair _ _))]
  exact q
theorem dvs_m {H : Hp} {D : Addr} : ∀ {fss : List (List (Int × Int))} {xs : List V}, MatAt K D H fss xs → DVs K H (mD fss) xs
  | _, _, .nil => by simp [DVs, mD]
  | _, _, .cons ⟨q, ys, e, _, g, f⟩ t => by
    unfold mD
    rw [List.map_cons, DVs]
    exact ⟨_, _, rfl, by rw [e, DV]; exact ⟨q, _, rfl, SqL.of g, dvs_f f⟩, dvs_m t⟩
theorem lay_m : ∀ (fss : List (List (Int × Int))), PyData.canLayAll0 (mD fss) = true ∧ PyData.depthAll (mD fss) ≤ 5
  | [] => by simp [PyData.canLayAll0, PyData.depthAll, mD]
  | t :: l => by
    obtain ⟨h1, h2⟩ := lay_m l
    obtain ⟨h3, h4⟩ := lay_f t
    unfold mD at *
    rw [List.map_cons, PyData.canLayAll0, PyData.depthAll, h1, PyData.canLay0, h3]
    refine ⟨rfl, ?_⟩
    simp only [PyData.depth]
    omega
theorem eq_mat {H : Hp} {fss : List (List (Int × Int))} {l r d e : Addr} {xs ys : List V} {Q : VK} (h1 : H l = some (.lst xs)) (h2 : H r = some (.lst ys)) (f1 : MatAt K d H fss xs) (f2 : MatAt K e H fss ys) (q : Q (.bl true) H) : rEqD K false (.ref l) (.ref r) H Q := by
  have hs : SeqAt.shaped (.list (mD fss)) = true := by
    obtain ⟨k1, k2⟩ := lay_m fss
    unfold SeqAt.shaped
    rw [PyData.canLay0, k1, Bool.true_and]
    refine decide_eq_true ?_
    simp only [PyData.depth]
    omega
  refine ⟨.list (mD fss), .list (mD fss), by rw [DV]; exact ⟨l, _, rfl, SqL.of h1, dvs_m f1⟩, by rw [DV]; exact ⟨r, _, rfl, SqL.of h2, dvs_m f2⟩, hs, hs, ?_⟩
  rw [SeqAt.eqv_refl _ (SeqAt.canLay_of_shaped hs)]
  exact q
/-- a row, by its number -/
theorem row_at {H : Hp} {r : Addr} {qs : List Rat} {f : Fn} {xs : List V} (hM : MatAt K r H (matQ qs f) xs) {i : Nat} (hi : i < qs.length) : ∃ q ys, xs[i]? = some (.ref q) ∧ H q = some (.lst ys) ∧ AllF K H (rowQ qs f i) ys ∧ ys.length = qs.length := by
  have hl : xs.length = qs.length := by rw [← hM.len, mat_len]
  have hx : i < xs.length := by omega
  obtain ⟨fs, hf, q, ys, e, _, g, F⟩ := hM.get (List.getElem?_eq_getElem hx)
  rw [mat_get hi] at hf
  cases hf
  exact ⟨q, ys, by rw [List.getElem?_eq_getElem hx, e], g, F, by rw [← F.len, row_len]⟩
theorem cell_at {H : Hp} {qs : List Rat} {f : Fn} {i j : Nat} {ys : List V} (F : AllF K H (rowQ qs f i) ys) (hj : j < qs.length) (hl : ys.length = qs.length) : ∃ y, ys[j]? = some y ∧ IsQ K H (ent qs f i j) y := by
  have hy : j < ys.length := by omega
  obtain ⟨g, hg, isf⟩ := F.get (List.getElem?_eq_getElem hy)
  rw [row_get hj] at hg
  cases hg
  exact ⟨ys[j], List.getElem?_eq_getElem hy, isf⟩
noncomputable abbrev lawK : Nat := 10
theorem ok_law {ts : List Addr} (T : Txt K mg a) (hB : Bm mg base) (hts : ∀ q ∈ tabs a, q.1 ∈ ts) : FnOk P w K mg base CX0 lawK a.f_law a.d_law ["_law_script"] (spLaw K ts) := by
  have G_L_cell : FnOk P w K mg base CX0 9 _ _ _ (spCell K) := (ok_cell T).mono (by decide)
  have G_L_shares : FnOk P w K mg base CX0 9 _ _ _ (spShares K) := (ok_shares T).mono (by decide)
  have G_L_order : FnOk P w K mg base CX0 9 _ _ _ spOrder := (ok_order T).mono (by decide)
  have G_duel_matrix : FnOk P w K mg base CX0 9 _ _ _ (spDM K a) := (ok_dm T hB).mono (by decide)
  have G_L_matrix : FnOk P w K mg base CX0 9 _ _ _ (spLMat K) := (ok_lmat T).mono (by decide)
  have G_L_due : FnOk P w K mg base CX0 9 _ _ _ (spDue K) := (ok_due T).mono (by decide)
  refine T.F_law.ok sc_law (fun vs H Q E h => ?_) (fun cdv A outer s H vs Q E hr h => ?_)
  · obtain ⟨p, ns, rfl, _⟩ := h; rfl
  · obtain ⟨p, ns, rfl, hS, hlen, hT0, q⟩ := h
    have small : sizeLine = 16777216 := sizeLine_eq
    have hT := tabs_new hts hT0
    refine ⟨_, (pss_cons (ps_set (i := 1) sc_law.nd rfl (Or.inl rfl) (pe_call G_L_shares hr rfl T.m_L_shares T.F_L_shares.kp T.B_L_shares .nil pass0 (pa_cons (vr 0) (pa_cons pe_int (pa_cons pe_int pa_nil))))) (pss_cons (ps_set (i := 2) sc_law.nd rfl (Or.inl rfl) (pe_callB call_lenM rfl T.z_len bt_len (pa_cons (vr 1) pa_nil))) (pss_cons (ps_set (i := 3) sc_law.nd rfl (Or.inl rfl) (pe_call G_L_order hr rfl T.m_L_order T.F_L_order.kp T.B_L_order .nil pass0 (pa_cons (pe_call G_L_cell hr rfl T.m_L_cell T.F_L_cell.kp T.B_L_cell .nil pass0 (pa_cons (vr 0) (pa_cons pe_int pa_nil))) (pa_cons (pe_call G_L_cell hr rfl T.m_L_cell T.F_L_cell.kp T.B_L_cell .nil pass0 (pa_cons (vr 0) (pa_cons pe_int pa_nil))) (pa_cons (vr 2) pa_nil))))) (pss_cons (ps_set (i := 4) sc_law.nd rfl (Or.inl rfl) (pe_lst (pa_cons (pe_callTy call_list_of rfl T.z_list bt_list (pa_cons (vr 1) pa_nil)) (pa_cons (pe_callTy call_list_of rfl T.z_list bt_list (pa_cons (vr 3) pa_nil)) pa_nil)))) (pss_cons (ps_set (i := 5) sc_law.nd rfl (Or.inr rfl) (pe_call G_duel_matrix hr rfl T.m_duel_matrix T.F_duel_matrix.kp T.B_duel_matrix .nil pass0 (pa_cons (pe_ix ix_seq (vr 4) pe_int (fun _ _ => rfl)) (pa_cons (pe_ix ix_seq (vr 4) pe_int (fun _ _ => rfl)) pa_nil)))) (pss_cons (ps_if (PW.pt (pw_or (t_cmp (o_neD hr.units) (vr 4) (pe_lst (pa_cons (vr 1) (pa_cons (vr 3) pa_nil))) (nomark _)) (pw_or (pt_not (t_val (pe_call G_L_matrix hr rfl T.m_L_matrix T.F_L_matrix.kp T.B_L_matrix .nil pass0 (pa_cons (vr 5) (pa_cons (pe_comp rfl (N := ["_law_row_here"]) (ix := [none]) ⟨rfl, rfl, rfl, rfl, trivial⟩ (pi_any (vr 5)) ⟨fun C s H fp => pg_name (i := 0) (show List.Nodup (["_law_row_here"] : List Str) by decide +kernel) rfl (Or.inl rfl), fun C s H fp => pts_nil, fun C s H fp => (pe_callTy (call_list_ofK (K := K) rfl) rfl T.z_list bt_list (pa_cons (vr 0) pa_nil))⟩) pa_nil))))) (pw_or1 (t_cmp o_ne (pe_callB call_lenM rfl T.z_len bt_len (pa_cons (vr 5) pa_nil)) (vr 2) (nomark _)))))) (pss_one (ps_ret pe_bl)) pss_nil) (pss_cons (ps_for PassesOwn.never rfl (pi_range1 rfl T.z_range (pa_cons (vr 2) pa_nil)) (pg_name (i := 6) sc_law.nd rfl (Or.inr rfl)) (pss_cons (ps_if (PW.pt (pw_or (t_cmp o_ne (pe_callB call_lenM rfl T.z_len bt_len (pa_cons (pe_ix ix_seq (vr 5) (vr 6) (fun _ _ => rfl)) pa_nil)) (vr 2) (nomark _)) (pw_or1 (t_cmp (o_neD hr.units) (pe_ix ix_seq (pe_ix ix_seq (vr 5) (vr 6) (fun _ _ => rfl)) (vr 6) (fun _ _ => rfl)) (pe_ix ix_seq (vr 1) (vr 6) (fun _ _ => rfl)) (nomark _))))) (pss_one (ps_ret pe_bl)) pss_nil) (pss_one (ps_if (t_cmp (o_neD hr.units) (pe_comp rfl (N := ["_law_other", "_law_found", "_law_one"]) (ix := [none, some 5, some 6]) ⟨rfl, rfl, rfl, rfl, ⟨rfl, rfl, rfl, ⟨rfl, rfl, rfl, trivial⟩⟩⟩ (pi_range1 rfl T.z_range (pa_cons (vr 2) pa_nil)) ⟨fun C s H fp => pg_name (i := 0) (show List.Nodup (["_law_other", "_law_found", "_law_one"] : List Str) by decide +kernel) rfl (Or.inl rfl), fun C s H fp => pts_nil, fun C s H fp => (pe_ix (ix_seqK (K := K) rfl) (pe_ix (ix_seqK (K := K) rfl) (vr 1) (vr 2) (fun _ _ => rfl)) (vr 0) (fun _ _ => rfl))⟩) (pe_comp rfl (N := ["_law_other", "_law_one", "_law_found"]) (ix := [none, some 6, some 5]) ⟨rfl, rfl, rfl, rfl, ⟨rfl, rfl, rfl, ⟨rfl, rfl, rfl, trivial⟩⟩⟩ (pi_range1 rfl T.z_range (pa_cons (vr 2) pa_nil)) ⟨fun C s H fp => pg_name (i := 0) (show List.Nodup (["_law_other", "_law_one", "_law_found"] : List Str) by decide +kernel) rfl (Or.inl rfl), fun C s H fp => pts_nil, fun C s H fp => (pe_ix (ix_seqK (K := K) rfl) (pe_ix (ix_seqK (K := K) rfl) (vr 2) (vr 0) (fun _ _ => rfl)) (vr 1) (fun _ _ => rfl))⟩) (nomark _)) (pss_one (ps_ret pe_bl)) pss_nil)))) (pss_cons (ps_set (i := 6) sc_law.nd rfl (Or.inr rfl) (pe_op o_mod (pe_call G_L_cell hr rfl T.m_L_cell T.F_L_cell.kp T.B_L_cell .nil pass0 (pa_cons (vr 0) (pa_cons pe_int pa_nil))) (vr 2))) (pss_cons (ps_set (i := 7) sc_law.nd rfl (Or.inl rfl) (pe_op o_mod (pe_op o_add (pe_op o_add (vr 6) pe_int) (pe_op o_mod (pe_call G_L_cell hr rfl T.m_L_cell T.F_L_cell.kp T.B_L_cell .nil pass0 (pa_cons (vr 0) (pa_cons pe_int pa_nil))) (pe_callB (call_max2 rfl) rfl T.z_max bt_max (pa_cons pe_int (pa_cons (pe_op o_sub (vr 2) pe_int) pa_nil))))) (vr 2))) (pss_cons (ps_set (i := 8) sc_law.nd rfl (Or.inl rfl) (pe_call G_L_due hr rfl T.m_L_due T.F_L_due.kp T.B_L_due .nil pass0 (pa_cons (vr 1) (pa_cons (vr 3) (pa_cons (pe_disp (pps_cons (vr 6) pe_int (pps_cons (vr 7) pe_int pps_nil)) rfl rfl (List.cons_ne_nil _ _) (by decide)) pa_nil))))) (pss_cons (ps_if (PW.pt (pw_and (t_cmp o_ne (vr 6) (vr 7) (nomark _)) (pw_and1 (t_cmp (o_neD hr.units) (pe_ix ix_seq (pe_ix ix_seq (vr 5) (vr 6) (fun _ _ => rfl)) (vr 7) (fun _ _ => rfl)) (vr 8) (nomark _))))) (pss_one (ps_ret pe_bl)) pss_nil) (pss_cons (ps_setC rfl (i := 9) sc_law.nd rfl rfl (by with_unfolding_all rfl) (N := ["_law_row_here"]) (ix := [none]) ⟨rfl, rfl, rfl, rfl, trivial⟩ (pi_any (vr 5)) ⟨fun C s H fp => pg_name (i := 0) (show List.Nodup (["_law_row_here"] : List Str) by decide +kernel) rfl (Or.inl rfl), fun C s H fp => pts_nil, fun C s H fp => (pe_callTy (call_list_ofK (K := K) rfl) rfl T.z_list bt_list (pa_cons (vr 0) pa_nil))⟩) (pss_cons (ps_for PassesOwn.never rfl (pi_zip rfl T.z_zip (pa_cons (vr 5) (pa_cons (vr 9) pa_nil))) (pg_tup rfl (pgs_cons (pg_name (i := 10) sc_law.nd rfl (Or.inl rfl)) (pgs_cons (pg_name (i := 11) sc_law.nd rfl (Or.inl rfl)) pgs_nil))) (pss_cons (ps_if (t_cmp (o_neD hr.units) (vr 10) (vr 11) (nomark _)) (pss_one (ps_ret pe_bl)) pss_nil) (pss_one (ps_expr (pe_m.clear (vr 10)))))) (pss_cons (ps_expr (pe_m.clear (vr 5))) (pss_one (ps_ret (pe_cmpR (o_eqD hr.units) (pe_call G_duel_matrix hr rfl T.m_duel_matrix T.F_duel_matrix.kp T.B_duel_matrix .nil pass0 (pa_cons (vr 1) (pa_cons (vr 3) pa_nil))) (vr 9) (nomark _)))))))))))))))))), ?_⟩
    refine ⟨p, ns, rfl, hS, hlen, fun H1 ls xs qs B s1 hls0 hls hF hq1 hq24 B0 B1 hqB => ?_⟩
    have hxl : xs.length = qs.length := by rw [← hF.len, List.length_map]
    refine ⟨xs, .inl (SqL.of hls), ?_⟩
    rw [hxl]
    refine ⟨p, ns, 4, rfl, s1.seq hS, hlen, by decide, by decide, ?_⟩
    refine ⟨p, ns, 5, rfl, s1.seq hS, hlen, by decide, by decide, ?_⟩
    refine ⟨_, _, qs.length, rfl, hq24, fun H2 lo ord s2 hlo0 hlo hord => ?_⟩
    have s12 := s1.trans s2
    have hls2 := s2 _ _ hls
    have hF2 := hF.same s2
    refine ⟨ls, xs, rfl, .inl (SqL.of hls2), fun la fla => ?_⟩
    have u1 := Same.new (o := .lst xs) fla
    refine ⟨lo, _, rfl, .inl (SqL.of (u1 _ _ hlo)), fun lb flb => ?_⟩
    have u2 := Same.new (o := .lst (ord.map fun (o : Nat) => V.int (o : Int))) flb
    refine ⟨two_le _ _, fun lh flh => ?_⟩
    have u3 := Same.new (o := .lst [.ref la, .ref lb]) flh
    have u13 := u1.trans (u2.trans u3)
    have hla3 := (u2.trans u3) _ _ (upd_same (H := H2) (a := la) (o := .lst xs))
    have hlb3 := u3 _ _ (upd_same (H := upd H2 la (.lst xs)) (a := lb) (o := .lst (ord.map fun (o : Nat) => V.int (o : Int))))
    have hlh3 := upd_same (H := upd (upd H2 la (.lst xs)) lb (.lst (ord.map fun (o : Nat) => V.int (o : Int)))) (a := lh) (o := .lst [.ref la, .ref lb])
    generalize upd (upd (upd H2 la (.lst xs)) lb (.lst (ord.map fun (o : Nat) => V.int (o : Int)))) lh (.lst [.ref la, .ref lb]) = H3 at u13 hla3 hlb3 hlh3
    have hT3 : TabsOk (tabs a) H3 := hT.same (s12.trans u13)
    have hordl : ∀ o ∈ ord, o < qs.length := fun o ho => List.mem_range.mp (hord.mem_iff.mp ho)
    have ordl : ord.length ≤ 24 := by rw [hord.length_eq, List.length_range]; exact hq24
    have hls3 := u13 _ _ hls2
    have hlo3 := u13 _ _ hlo
    have hF3 := hF2.same u13
    refine .inl ⟨lh, _, _, .ref la, rfl, rfl, SqL.of hlh3, atI_cons 0 rfl rfl, .inl ⟨lh, _, _, .ref lb, rfl, rfl, SqL.of hlh3, atI_cons 1 rfl rfl, ?_⟩⟩
    refine ⟨la, lb, xs, qs, ord, B, rfl, hla3, hF3, hlb3, hq24, ordl, hordl, B0, B1, hqB, hT3, fun H4 r xr t4 hT4 hr0 hr4 hM4 hnd hnew => ?_⟩
    obtain ⟨f, hf⟩ : ∃ f, f = keptF (unsL qs ord) := ⟨_, rfl⟩
    rw [← hf] at hM4
    have hxr : xr.length = qs.length := by rw [← hM4.len, mat_len]
    have eo : (ord.map fun (o : Nat) => V.int (o : Int)) = (ord.map fun (o : Nat) => (o : Int)).map V.int := by rw [List.map_map]; rfl
    refine ⟨two_le _ _, fun l9 fl9 => ?_⟩
    have u4 := Same.new (o := .lst [.ref ls, .ref lo]) fl9
    have hl9 := upd_same (H := H4) (a := l9) (o := .lst [.ref ls, .ref lo])
    have t5 := t4.trans u4.t
    have hr5 := u4 _ _ hr4
    have hM5 := hM4.same u4.t
    have hT5 := hT4.same u4
    generalize upd H4 l9 (.lst [.ref ls, .ref lo]) = H5 at u4 hl9 t5 hr5 hM5 hT5
    refine ne_hand (fs := qs.map fr) (ns := ord.map fun (o : Nat) => (o : Int)) (t5.at hlh3) hl9 (t5.at hla3) (t5.at hls3) (hF3.tk (SameT.tk t5)) (by rw [← eo]; exact t5.at hlb3) (by rw [← eo]; exact t5.at hlo3) ?_
    refine .inl ⟨⟨_, SqL.of hr5⟩, fun D hD => ?_⟩
    refine comp_list (K := K) (a := r) (xs := xr) (fun i ys H' => i ≤ xr.length ∧ Same H5 H' ∧ H' D = some (.lst ys) ∧ MatAt K D H' ((matQ qs f).take i) ys) ⟨Nat.zero_le _, Same.new hD, upd_same, .nil⟩ (fun i ys H' h => SqL.of (h.2.1 _ _ hr5)) (fun i ys H' h => h.2.2.1) ?_ ?_
    · rintro i y ys H' P' hy ⟨hi, s6, hD6, hM6⟩ hP'
      obtain ⟨fs, hfi, qi, zs, rfl, _, g, F⟩ := hM5.get hy
      have ilt : i < xr.length := (List.getElem?_eq_some_iff.mp hy).1
      have yl : ys.length ≤ 24 := by rw [← hM6.len, List.length_take]; omega
      refine ⟨trivial, qi, zs, rfl, .inl (SqL.of (s6 _ _ g)), fun ln fln => ?_⟩
      have s7 := Same.new (o := .lst zs) fln
      have hD7 := s7 _ _ hD6
      have ne : ln ≠ D := fun z => by rw [z, hD6] at fln; cases fln
      refine ⟨hD7, by omega, hP' _ _ ⟨ilt, (s6.trans s7).put hD, upd_same, ?_⟩⟩
      rw [List.take_add_one, hfi]
      exact MatAt.snoc ⟨ln, zs, rfl, ne, by rw [upd_ne ne]; exact upd_same, (F.tk (s6.trans s7).tk).tk (TK.lst hD7)⟩ (MatAt.put hD7 (MatAt.same s7.t hM6))
    rintro ys H6 ⟨_, s6, hD6, hM6⟩
    rw [hxr, ← mat_len (qs := qs) (f := f), List.take_length] at hM6
    refine ⟨r, D, xr, ys, _, rfl, s6 _ _ hr5, hD6, hM5.same s6.t, hM6, fun H7 s7 => ?_⟩
    have s57 := s6.trans s7
    have hr7 := s57 _ _ hr5
    have hM7 := hM5.same s57.t
    have t7 := t5.trans s57.t
    have hT7 := hT5.same s57
    refine ⟨xr, .inl (SqL.of hr7), ?_⟩
    refine iteNS (by rw [hxr]) ?_
    refine ⟨(qs.length : Int), rfl, by omega, by omega, for_range (fun i σ H' => i ≤ qs.length ∧ Same H7 H' ∧ ∃ x6, σ = [some (.ref p), some (.ref ls), some (.int (qs.length : Nat)), some (.ref lo), some (.ref lh), some (.ref r), x6, none, none, none, none, none]) ⟨Nat.zero_le _, Same.refl _, none, rfl⟩ ?_ ?_⟩
    · rintro i σ H' hi ⟨_, s8, x6, rfl⟩
      have hi' : i < qs.length := by omega
      have hr8 := s8 _ _ hr7
      obtain ⟨qi, zs, exi, g, F, zl⟩ := row_at (hM7.same s8.t) hi'
      obtain ⟨yi, eyi, qyi⟩ := cell_at F hi' zl
      obtain ⟨xi, exs, qxi⟩ := at_q (hF3.tk ((SameT.tk t7).trans s8.tk)) hi'
      rw [Int.zero_add]
      refine .inl ⟨r, _, _, _, rfl, rfl, SqL.of hr8, atI_nat exi, _, .inl (SqL.of g), ?_⟩
      refine iteNS (by rw [zl]) ?_
      refine .inl ⟨r, _, _, _, rfl, rfl, SqL.of hr8, atI_nat exi, .inl ⟨qi, _, _, _, rfl, rfl, SqL.of g, atI_nat eyi, .inl ⟨ls, _, _, _, rfl, rfl, SqL.of (s8 _ _ (t7.at hls3)), atI_nat exs, ?_⟩⟩⟩
      refine ne_q (p := qs.getD i 0) (by rw [← ent_diag qs f i]; exact qyi) qxi ?_
      refine ⟨(qs.length : Int), rfl, by omega, by omega, fun D1 hD1 => ?_⟩
      refine comp_rng (lo := 0) (n := qs.length) (fun j ys H2 => j ≤ qs.length ∧ Same H' H2 ∧ H2 D1 = some (.lst ys) ∧ AllF K H2 ((rowQ qs f i).take j) ys) ⟨Nat.zero_le _, Same.new hD1, upd_same, .nil⟩ (fun j ys H2 h => h.2.2.1) ?_ ?_
      · rintro j ys H2 P' hj ⟨_, s9, hD9, hF9⟩ hP'
        obtain ⟨y, ey, qy⟩ := cell_at (F.tk s9.tk) hj zl
        have yl : ys.length ≤ 24 := by rw [← hF9.len, List.length_take, row_len]; omega
        refine ⟨⟨rfl, rfl, trivial⟩, .inl ⟨r, _, _, _, rfl, rfl, SqL.of (s9 _ _ hr8), atI_nat exi, .inl ⟨qi, _, _, _, rfl, rfl, SqL.of (s9 _ _ g), by rw [Int.zero_add]; exact atI_nat ey, hD9, by omega, hP' _ _ ⟨hj, s9.put hD1, upd_same, ?_⟩⟩⟩⟩
        rw [List.take_add_one, row_get hj]
        exact AllF.snoc (qy.tk (TK.lst hD9)) (hF9.tk (TK.lst hD9))
      rintro ys1 H9 ⟨_, s9, hD9, hF9⟩
      rw [← row_len (qs := qs) (f := f) (i := i), List.take_length] at hF9
      have hr9 := s9 _ _ hr8
      refine ⟨(qs.length : Int), rfl, by omega, by omega, fun D2 hD2 => ?_⟩
      refine comp_rng (lo := 0) (n := qs.length) (fun j ys H2 => j ≤ qs.length ∧ Same H9 H2 ∧ H2 D2 = some (.lst ys) ∧ AllF K H2 ((rowQ qs f i).take j) ys) ⟨Nat.zero_le _, Same.new hD2, upd_same, .nil⟩ (fun j ys H2 h => h.2.2.1) ?_ ?_
      · rintro j ys H2 P' hj ⟨_, sA, hDA, hFA⟩ hP'
        obtain ⟨qj, zj, exj, gj, Fj, zlj⟩ := row_at (hM7.same (s8.trans (s9.trans sA)).t) hj
        obtain ⟨y, ey, qy⟩ := cell_at Fj hi' zlj
        have yl : ys.length ≤ 24 := by rw [← hFA.len, List.length_take, row_len]; omega
        refine ⟨⟨rfl, rfl, trivial⟩, .inl ⟨r, _, _, _, rfl, rfl, SqL.of (sA _ _ hr9), by rw [Int.zero_add]; exact atI_nat exj, .inl ⟨qj, _, _, _, rfl, rfl, SqL.of gj, atI_nat ey, hDA, by omega, hP' _ _ ⟨hj, sA.put hD2, upd_same, ?_⟩⟩⟩⟩
        rw [List.take_add_one, row_get hj]
        refine AllF.snoc ?_ (hFA.tk (TK.lst hDA))
        rw [hf, ent_sym, ← hf]
        exact qy.tk (TK.lst hDA)
      rintro ys2 HA ⟨_, sA, hDA, hFA⟩
      rw [← row_len (qs := qs) (f := f) (i := i), List.take_length] at hFA
      refine ne_fr (sA _ _ hD9) hDA (hF9.same sA) hFA ?_
      exact ⟨hi', s8.trans (s9.trans sA), _, rfl⟩
    rintro σ H8 ⟨_, s8, x6, rfl⟩
    have s58 := s57.trans s8
    have hr8 := s8 _ _ hr7
    have hM8 := hM7.same s8.t
    have t8 := t7.trans s8.t
    have hT8 := hT7.same s8
    have sS : SqL K H8 p (ns.map V.int) := seqT t8 ((s12.trans u13).seq hS)
    have n0 : (0 : Int) < (qs.length : Int) := by omega
    refine ⟨p, ns, 6, rfl, sS, hlen, by decide, by decide, cp n0, ?_⟩
    obtain ⟨o1, ho1, o1l⟩ : ∃ o1 : Nat, cellC ns 6 % (qs.length : Int) = (o1 : Int) ∧ o1 < qs.length := ⟨(cellC ns 6 % (qs.length : Int)).toNat, by have := Int.emod_nonneg (cellC ns 6) (show (qs.length : Int) ≠ 0 by omega); omega, by have := Int.emod_lt_of_pos (cellC ns 6) n0; have := Int.emod_nonneg (cellC ns 6) (show (qs.length : Int) ≠ 0 by omega); omega⟩
    refine ⟨p, ns, 7, rfl, sS, hlen, by decide, by decide, 1, (qs.length : Int) - 1, rfl, cp (by split <;> omega), cp n0, ?_⟩
    obtain ⟨o2, ho2, o2l⟩ : ∃ o2 : Nat, (cellC ns 6 % (qs.length : Int) + 1 + cellC ns 7 % (if (qs.length : Int) - 1 > 1 then (qs.length : Int) - 1 else 1)) % (qs.length : Int) = (o2 : Int) ∧ o2 < qs.length := by
      generalize cellC ns 6 % (qs.length : Int) + 1 + cellC ns 7 % (if (qs.length : Int) - 1 > 1 then (qs.length : Int) - 1 else 1) = z
      exact ⟨(z % (qs.length : Int)).toNat, by have := Int.emod_nonneg z (show (qs.length : Int) ≠ 0 by omega); omega, by have := Int.emod_lt_of_pos z n0; have := Int.emod_nonneg z (show (qs.length : Int) ≠ 0 by omega); omega⟩
    intro pd fpd
    have v1 := Same.new (o := .dK []) fpd
    refine ⟨upd_same, [(Sum.inl (o1 : Int), .int 1), (Sum.inl (o2 : Int), .int 2)], ?_, (show 2 ≤ 15 by decide), ?_⟩
    · show [(V.int (cellC ns 6 % (qs.length : Int)), V.int 1), (V.int ((cellC ns 6 % (qs.length : Int) + 1 + cellC ns 7 % (if (qs.length : Int) - 1 > 1 then (qs.length : Int) - 1 else 1)) % (qs.length : Int)), V.int 2)] = _
      rw [ho2, ho1]
      rfl
    rw [upd_upd]
    have v2 := Same.new (o := .dK (mergeK [] [((Sum.inl (o1 : Int) : Key), V.int 1), (Sum.inl (o2 : Int), .int 2)])) fpd
    have hpd := upd_same (H := H8) (a := pd) (o := .dK (mergeK [] [((Sum.inl (o1 : Int) : Key), V.int 1), (Sum.inl (o2 : Int), .int 2)]))
    generalize upd H8 pd (.dK (mergeK [] [((Sum.inl (o1 : Int) : Key), V.int 1), (Sum.inl (o2 : Int), .int 2)])) = H9 at v2 hpd
    have t9 := t8.trans v2.t
    have nd : ord.Nodup := hord.symm.nodup List.nodup_range
    refine ⟨ls, lo, pd, xs, qs, ord, mkF o1 o2, B, rfl, t9.at hls3, hF3.tk (SameT.tk t9), t9.at hlo3, ⟨_, hpd, fun o => mk_at⟩, ordl, hordl, B0, B1, hqB, mk_ok nd (by decide) (fun o _ => by simp), fun HA zd sA qd => ?_⟩
    have s8A := v2.trans sA
    have hrA := s8A _ _ hr8
    have hMA := hM8.same s8A.t
    have tA := t8.trans s8A.t
    have hTA := hT8.same s8A
    refine ifNB (fun hne hB => ?_) ?_
    · have hne : o1 ≠ o2 := fun e => hne (by rw [ho2, ho1, e])
      obtain ⟨qi, zs, exi, g, F, zl⟩ := row_at hMA o1l
      obtain ⟨yi, eyi, qyi⟩ := cell_at F o2l zl
      refine .inl ⟨r, _, _, _, rfl, rfl, SqL.of hrA, by rw [ho1]; exact atI_nat exi, .inl ⟨qi, _, _, _, rfl, rfl, SqL.of g, by rw [ho2]; exact atI_nat eyi, ?_⟩⟩
      rw [hf, ent_due hord (fun q hq => ⟨(hqB q hq).1, (hqB q hq).2.1⟩) o1l o2l hne] at qyi
      exact ne_q qyi qd hB
    refine .inl ⟨⟨_, SqL.of hrA⟩, fun D2 hD2 => ?_⟩
    refine comp_list (K := K) (a := r) (xs := xr) (fun i ys H' => i ≤ xr.length ∧ Same HA H' ∧ H' D2 = some (.lst ys) ∧ MatAt K D2 H' ((matQ qs f).take i) ys ∧ ∀ q, V.ref q ∈ ys → HA q = none) ⟨Nat.zero_le _, Same.new hD2, upd_same, .nil, fun q hq => by cases hq⟩ (fun i ys H' h => SqL.of (h.2.1 _ _ hrA)) (fun i ys H' h => h.2.2.1) ?_ ?_
    · rintro i y ys H' P' hy ⟨hi, sB, hDB, hMB, hnB⟩ hP'
      obtain ⟨fs, hfi, qi, zs, rfl, _, g, F⟩ := hMA.get hy
      have ilt : i < xr.length := (List.getElem?_eq_some_iff.mp hy).1
      have yl : ys.length ≤ 24 := by rw [← hMB.len, List.length_take]; omega
      refine ⟨trivial, qi, zs, rfl, .inl (SqL.of (sB _ _ g)), fun ln fln => ?_⟩
      have sC := Same.new (o := .lst zs) fln
      have hDC := sC _ _ hDB
      have ne : ln ≠ D2 := fun z => by rw [z, hDB] at fln; cases fln
      refine ⟨hDC, by omega, hP' _ _ ⟨ilt, (sB.trans sC).put hD2, upd_same, ?_, fun q hq => ?_⟩⟩
      · rw [List.take_add_one, hfi]
        exact MatAt.snoc ⟨ln, zs, rfl, ne, by rw [upd_ne ne]; exact upd_same, (F.tk (sB.trans sC).tk).tk (TK.lst hDC)⟩ (MatAt.put hDC (MatAt.same sC.t hMB))
      · rcases List.mem_append.mp hq with z | z
        · exact hnB q z
        · cases List.mem_singleton.mp z
          exact sB.free fln
    rintro yt HB ⟨_, sB, hDB, hMB, hnB⟩
    rw [hxr, ← mat_len (qs := qs) (f := f), List.take_length] at hMB
    have hrB := sB _ _ hrA
    have hMr := hMA.same sB.t
    have tB := tA.trans sB.t
    have hTB := hTA.same sB
    have nxr : ∀ {b : Addr}, HA b = none → V.ref b ∉ xr := fun hb z => by
      obtain ⟨_, ys', e⟩ := hMA.mem z
      rw [hb] at e; cases e
    have nfr : V.ref r ∉ xr := fun z => (hMA.mem z).1 rfl
    refine ⟨r, D2, xr, yt, rfl, hrB, hDB, for_zip (a := r) (b := D2) (xs := xr) (ys := yt) (by rw [← hMr.len, ← hMB.len]) (fun i σ H' => (∀ b o, V.ref b ∉ xr.take i → HB b = some o → H' b = some o) ∧ TabsOk (tabs a) H' ∧ ∃ x10 x11, σ = [some (.ref p), some (.ref ls), some (.int (qs.length : Nat)), some (.ref lo), some (.ref lh), some (.ref r), some (.int (cellC ns 6 % (qs.length : Int))), some (.int ((cellC ns 6 % (qs.length : Int) + 1 + cellC ns 7 % (if (qs.length : Int) - 1 > 1 then (qs.length : Int) - 1 else 1)) % (qs.length : Int))), some zd, some (.ref D2), x10, x11]) ⟨fun b o _ e => e, hTB, none, none, rfl⟩ (fun i σ H' h => ⟨h.1 _ _ (fun z => nfr (List.mem_of_mem_take z)) hrB, h.1 _ _ (fun z => nxr hD2 (List.mem_of_mem_take z)) hDB⟩) ?_ ?_⟩
    · rintro i v1 v2 σ H' pp hxi hyi ⟨k1, hT', x10, x11, rfl⟩ hpp
      obtain ⟨fs, hu1, q1, zs, rfl, nq1, g1, hF1⟩ := hMr.get hxi
      obtain ⟨fs', hu2, q2, zs', rfl, nq2, g2, hF2'⟩ := hMB.get hyi
      rw [hu1] at hu2
      cases hu2
      have n1 : V.ref q1 ∉ xr.take i := nodup_take hnd hxi
      have n2 : V.ref q2 ∉ xr := nxr (hnB q2 (List.mem_of_getElem? hyi))
      have tk1 : TK HB H' := fun b us e => k1 _ _ (fun z => by
        obtain ⟨_, ws, e'⟩ := hMr.mem (List.mem_of_mem_take z)
        rw [e] at e'; cases e') e
      have sn := Same.new (o := .tup [.ref q1, .ref q2]) hpp
      have tk2 := tk1.trans sn.tk
      have c1 := sn _ _ (k1 _ _ n1 g1)
      have c2 := sn _ _ (k1 _ _ (fun z => n2 (List.mem_of_mem_take z)) g2)
      have hT2 := hT'.same sn
      refine ⟨pp, _, rfl, SqT.of upd_same, rfl, _, _, rfl, _, _, rfl, rfl, ?_⟩
      refine ne_fr c1 c2 (hF1.tk tk2) (hF2'.tk tk2) ?_
      refine ⟨.inl ⟨rfl, _, SqL.of c1⟩, ⟨q1, _, rfl, rfl, c1, ?_⟩⟩
      refine ⟨fun b o nb e => ?_, tabs_lst c1 hT2, _, _, rfl⟩
      rw [List.take_add_one, hxi] at nb
      have nb1 : V.ref b ∉ xr.take i := fun z => nb (List.mem_append_left _ z)
      have nb2 : b ≠ q1 := fun z => nb (List.mem_append_right _ (by rw [z]; exact List.mem_singleton.mpr rfl))
      rw [upd_ne nb2]
      exact sn _ _ (k1 _ _ nb1 e)
    rintro σ HC ⟨kC, hTC, x10, x11, rfl⟩
    rw [List.take_of_length_le (Nat.le_refl _)] at kC
    have n3 : ∀ {b : Addr} {o : HO}, H3 b = some o → V.ref b ∉ xr := fun e z => by rw [hnew _ z] at e; cases e
    have tC : SameT H3 HC := fun b o e => ⟨fun n => kC _ _ (n3 e) (tB.at e n), let ⟨o', e'⟩ := (tB b o e).2; ⟨o', kC _ _ (n3 e) e'⟩⟩
    have tkC : TK HB HC := fun b us e => kC _ _ (fun z => by
        obtain ⟨_, ws, e'⟩ := hMr.mem z
        rw [e] at e'; cases e') e
    have hDC := kC _ _ (nxr hD2) hDB
    have hMC : MatAt K D2 HC (matQ qs f) yt := hMB.keep tkC (fun q zs hq h => kC _ _ (nxr (hnB q hq)) h)
    have hrC := kC _ _ nfr hrB
    refine ⟨.inl ⟨rfl, _, SqL.of hrC⟩, ⟨r, _, rfl, rfl, hrC, ?_⟩⟩
    have nD : ∀ {b : Addr}, HA b = none → b ≠ r := fun hb z => by rw [z, hrA] at hb; cases hb
    have tD : SameT H3 (upd HC r (.lst [])) := tC.put hr0
    have hTD := tabs_lst (zs' := []) hrC hTC
    have hDD : (upd HC r (.lst [])) D2 = some (.lst yt) := by rw [upd_ne (nD hD2)]; exact hDC
    have hMD : MatAt K D2 (upd HC r (.lst [])) (matQ qs f) yt := hMC.keep (TK.lst hrC) (fun q zs hq h => by rw [upd_ne (nD (hnB q hq))]; exact h)
    generalize upd HC r (.lst []) = HD at tD hTD hDD hMD
    refine ⟨ls, lo, xs, qs, ord, B, rfl, tD.at hls3, hF3.tk (SameT.tk tD), tD.at hlo3, hq24, ordl, hordl, B0, B1, hqB, hTD, fun HE r2 xr2 tE hTE _ hr2 hM2 _ _ => ?_⟩
    rw [← hf] at hM2
    exact eq_mat hr2 (tE.at hDD) hM2 (hMD.same tE) (q _)
end
end My

set_option Elab.async false
set_option linter.all false
set_option maxRecDepth 100000
set_option maxHeartbeats 4000000
namespace My
open PySem L2
theorem us0 {α : Type} : ∀ {us : List α}, us.length = 0 → us = []
  | [], _ => rfl
theorem us1 {α : Type} : ∀ {us : List α}, us.length = 1 → ∃ a0, us = [a0]
  | [_], _ => ⟨_, rfl⟩
theorem us2 {α : Type} : ∀ {us : List α}, us.length = 2 → ∃ a0 a1, us = [a0, a1]
  | [_, _], _ => ⟨_, _, rfl⟩
theorem us3 {α : Type} : ∀ {us : List α}, us.length = 3 → ∃ a0 a1 a2, us = [a0, a1, a2]
  | [_, _, _], _ => ⟨_, _, _, rfl⟩
theorem us4 {α : Type} : ∀ {us : List α}, us.length = 4 → ∃ a0 a1 a2 a3, us = [a0, a1, a2, a3]
  | [_, _, _, _], _ => ⟨_, _, _, _, rfl⟩
theorem us5 {α : Type} : ∀ {us : List α}, us.length = 5 → ∃ a0 a1 a2 a3 a4, us = [a0, a1, a2, a3, a4]
  | [_, _, _, _, _], _ => ⟨_, _, _, _, _, rfl⟩
theorem us6 {α : Type} : ∀ {us : List α}, us.length = 6 → ∃ a0 a1 a2 a3 a4 a5, us = [a0, a1, a2, a3, a4, a5]
  | [_, _, _, _, _, _], _ => ⟨_, _, _, _, _, _, rfl⟩
theorem us7 {α : Type} : ∀ {us : List α}, us.length = 7 → ∃ a0 a1 a2 a3 a4 a5 a6, us = [a0, a1, a2, a3, a4, a5, a6]
  | [_, _, _, _, _, _, _], _ => ⟨_, _, _, _, _, _, _, rfl⟩
theorem txt_mk {K : PySem.W.Frag} {h : Heap} {mg : Str → Option Value} {f0 : Addr} {od0 an0 : Option Addr} {sl0 : Array (Option Value)} {oc0 kV0 dc0 pm0 cd0 ct0 : Value} {f1 : Addr} {od1 an1 : Option Addr} {sl1 : Array (Option Value)} {oc1 kV1 dc1 pm1 cd1 ct1 : Value} {f2 : Addr} {od2 an2 : Option Addr} {sl2 : Array (Option Value)} {oc2 kV2 dc2 pm2 cd2 ct2 : Value} {f3 : Addr} {od3 an3 : Option Addr} {sl3 : Array (Option Value)} {oc3 kV3 dc3 pm3 cd3 ct3 : Value} {f4 : Addr} {od4 an4 : Option Addr} {sl4 : Array (Option Value)} {oc4 kV4 dc4 pm4 cd4 ct4 : Value} {f5 : Addr} {od5 an5 : Option Addr} {sl5 : Array (Option Value)} {oc5 kV5 dc5 pm5 cd5 ct5 : Value} {f6 : Addr} {od6 an6 : Option Addr} {sl6 : Array (Option Value)} {oc6 kV6 dc6 pm6 cd6 ct6 : Value} {f7 : Addr} {od7 an7 : Option Addr} {sl7 : Array (Option Value)} {oc7 kV7 dc7 pm7 cd7 ct7 : Value} {f8 : Addr} {od8 an8 : Option Addr} {sl8 : Array (Option Value)} {oc8 kV8 dc8 pm8 cd8 ct8 : Value} {f9 : Addr} {od9 an9 : Option Addr} {sl9 : Array (Option Value)} {oc9 kV9 dc9 pm9 cd9 ct9 : Value} {f10 : Addr} {od10 an10 : Option Addr} {sl10 : Array (Option Value)} {oc10 kV10 dc10 pm10 cd10 ct10 : Value} {f11 : Addr} {od11 an11 : Option Addr} {sl11 : Array (Option Value)} {oc11 kV11 dc11 pm11 cd11 ct11 : Value} {f12 : Addr} {od12 an12 : Option Addr} {sl12 : Array (Option Value)} {oc12 kV12 dc12 pm12 cd12 ct12 : Value} {f13 : Addr} {od13 an13 : Option Addr} {sl13 : Array (Option Value)} {oc13 kV13 dc13 pm13 cd13 ct13 : Value} {f14 : Addr} {od14 an14 : Option Addr} {sl14 : Array (Option Value)} {oc14 kV14 dc14 pm14 cd14 ct14 : Value} {f15 : Addr} {od15 an15 : Option Addr} {sl15 : Array (Option Value)} {oc15 kV15 dc15 pm15 cd15 ct15 : Value} {f16 : Addr} {od16 an16 : Option Addr} {sl16 : Array (Option Value)} {oc16 kV16 dc16 pm16 cd16 ct16 : Value} {f17 : Addr} {od17 an17 : Option Addr} {sl17 : Array (Option Value)} {oc17 kV17 dc17 pm17 cd17 ct17 : Value} {f18 : Addr} {od18 an18 : Option Addr} {sl18 : Array (Option Value)} {oc18 kV18 dc18 pm18 cd18 ct18 : Value} {f19 : Addr} {od19 an19 : Option Addr} {sl19 : Array (Option Value)} {oc19 kV19 dc19 pm19 cd19 ct19 : Value} {f20 : Addr} {od20 an20 : Option Addr} {sl20 : Array (Option Value)} {oc20 kV20 dc20 pm20 cd20 ct20 : Value} {f21 : Addr} {od21 an21 : Option Addr} {sl21 : Array (Option Value)} {oc21 kV21 dc21 pm21 cd21 ct21 : Value} {f22 : Addr} {od22 an22 : Option Addr} {sl22 : Array (Option Value)} {oc22 kV22 dc22 pm22 cd22 ct22 : Value} {f23 : Addr} {od23 an23 : Option Addr} {sl23 : Array (Option Value)} {oc23 kV23 dc23 pm23 cd23 ct23 : Value} {f24 : Addr} {od24 an24 : Option Addr} {sl24 : Array (Option Value)} {oc24 kV24 dc24 pm24 cd24 ct24 : Value} {f25 : Addr} {od25 an25 : Option Addr} {sl25 : Array (Option Value)} {oc25 kV25 dc25 pm25 cd25 ct25 : Value} {f26 : Addr} {od26 an26 : Option Addr} {sl26 : Array (Option Value)} {oc26 kV26 dc26 pm26 cd26 ct26 : Value} {f27 : Addr} {od27 an27 : Option Addr} {sl27 : Array (Option Value)} {oc27 kV27 dc27 pm27 cd27 ct27 : Value} {f28 : Addr} {od28 an28 : Option Addr} {sl28 : Array (Option Value)} {oc28 kV28 dc28 pm28 cd28 ct28 : Value} {f29 : Addr} {od29 an29 : Option Addr} {sl29 : Array (Option Value)} {oc29 kV29 dc29 pm29 cd29 ct29 : Value} {f30 : Addr} {od30 an30 : Option Addr} {sl30 : Array (Option Value)} {oc30 kV30 dc30 pm30 cd30 ct30 : Value} {f31 : Addr} {od31 an31 : Option Addr} {sl31 : Array (Option Value)} {oc31 kV31 dc31 pm31 cd31 ct31 : Value} {f32 : Addr} {od32 an32 : Option Addr} {sl32 : Array (Option Value)} {oc32 kV32 dc32 pm32 cd32 ct32 : Value} {k_NOUGHT : Addr} {k_WHOLE : Addr} {k_TWICE : Addr} {lc_duel_matrix lp_duel_matrix : Addr} {lo_duel_matrix : Value} {lod_duel_matrix : Option Addr} {lvs_duel_matrix : Array Value} {lsl_duel_matrix : Array (Option Value)} (X : K.In h) (G : h.Ns mainGlobals mg)
    (a0 : PySem.W.nsIn K mainGlobals "greatest_divisor" = some (some (.ref f0))) (l0 : K.lookup f0 = some ⟨oc0, od0, .func (PySem.W.fnOf "greatest_divisor" "greatest_divisor" (defArgs s_greatest_divisor) (defBody s_greatest_divisor) (defScope s_greatest_divisor) .none kV0 dc0 pm0 an0 cd0 ct0), sl0⟩) (c0 : PySem.W.codeIn K cd0 "greatest_divisor" = true) (k0 : PySem.W.keepIn K (.ref f0) = true)
    (a1 : PySem.W.nsIn K mainGlobals "share" = some (some (.ref f1))) (l1 : K.lookup f1 = some ⟨oc1, od1, .func (PySem.W.fnOf "share" "share" (defArgs s_share) (defBody s_share) (defScope s_share) .none kV1 dc1 pm1 an1 cd1 ct1), sl1⟩) (c1 : PySem.W.codeIn K cd1 "share" = true) (k1 : PySem.W.keepIn K (.ref f1) = true)
    (a2 : PySem.W.nsIn K mainGlobals "plus" = some (some (.ref f2))) (l2 : K.lookup f2 = some ⟨oc2, od2, .func (PySem.W.fnOf "plus" "plus" (defArgs s_plus) (defBody s_plus) (defScope s_plus) .none kV2 dc2 pm2 an2 cd2 ct2), sl2⟩) (c2 : PySem.W.codeIn K cd2 "plus" = true) (k2 : PySem.W.keepIn K (.ref f2) = true)
    (a3 : PySem.W.nsIn K mainGlobals "minus" = some (some (.ref f3))) (l3 : K.lookup f3 = some ⟨oc3, od3, .func (PySem.W.fnOf "minus" "minus" (defArgs s_minus) (defBody s_minus) (defScope s_minus) .none kV3 dc3 pm3 an3 cd3 ct3), sl3⟩) (c3 : PySem.W.codeIn K cd3 "minus" = true) (k3 : PySem.W.keepIn K (.ref f3) = true)
    (a4 : PySem.W.nsIn K mainGlobals "times" = some (some (.ref f4))) (l4 : K.lookup f4 = some ⟨oc4, od4, .func (PySem.W.fnOf "times" "times" (defArgs s_times) (defBody s_times) (defScope s_times) .none kV4 dc4 pm4 an4 cd4 ct4), sl4⟩) (c4 : PySem.W.codeIn K cd4 "times" = true) (k4 : PySem.W.keepIn K (.ref f4) = true)
    (a5 : PySem.W.nsIn K mainGlobals "over" = some (some (.ref f5))) (l5 : K.lookup f5 = some ⟨oc5, od5, .func (PySem.W.fnOf "over" "over" (defArgs s_over) (defBody s_over) (defScope s_over) .none kV5 dc5 pm5 an5 cd5 ct5), sl5⟩) (c5 : PySem.W.codeIn K cd5 "over" = true) (k5 : PySem.W.keepIn K (.ref f5) = true)
    (a6 : PySem.W.nsIn K mainGlobals "below" = some (some (.ref f6))) (l6 : K.lookup f6 = some ⟨oc6, od6, .func (PySem.W.fnOf "below" "below" (defArgs s_below) (defBody s_below) (defScope s_below) .none kV6 dc6 pm6 an6 cd6 ct6), sl6⟩) (c6 : PySem.W.codeIn K cd6 "below" = true) (k6 : PySem.W.keepIn K (.ref f6) = true)
    (a7 : PySem.W.nsIn K mainGlobals "matrix_by" = some (some (.ref f7))) (l7 : K.lookup f7 = some ⟨oc7, od7, .func (PySem.W.fnOf "matrix_by" "matrix_by" (defArgs s_matrix_by) (defBody s_matrix_by) (defScope s_matrix_by) .none kV7 dc7 pm7 an7 cd7 ct7), sl7⟩) (c7 : PySem.W.codeIn K cd7 "matrix_by" = true) (k7 : PySem.W.keepIn K (.ref f7) = true)
    (a8 : PySem.W.nsIn K mainGlobals "matrix_row" = some (some (.ref f8))) (l8 : K.lookup f8 = some ⟨oc8, od8, .func (PySem.W.fnOf "matrix_row" "matrix_row" (defArgs s_matrix_row) (defBody s_matrix_row) (defScope s_matrix_row) .none kV8 dc8 pm8 an8 cd8 ct8), sl8⟩) (c8 : PySem.W.codeIn K cd8 "matrix_row" = true) (k8 : PySem.W.keepIn K (.ref f8) = true)
    (a9 : PySem.W.nsIn K mainGlobals "is_unsure" = some (some (.ref f9))) (l9 : K.lookup f9 = some ⟨oc9, od9, .func (PySem.W.fnOf "is_unsure" "is_unsure" (defArgs s_is_unsure) (defBody s_is_unsure) (defScope s_is_unsure) .none kV9 dc9 pm9 an9 cd9 ct9), sl9⟩) (c9 : PySem.W.codeIn K cd9 "is_unsure" = true) (k9 : PySem.W.keepIn K (.ref f9) = true)
    (a10 : PySem.W.nsIn K mainGlobals "duel_matrix" = some (some (.ref f10))) (l10 : K.lookup f10 = some ⟨oc10, od10, .func (PySem.W.fnOf "duel_matrix" "duel_matrix" (defArgs s_duel_matrix) (defBody s_duel_matrix) (defScope s_duel_matrix) .none kV10 dc10 pm10 an10 cd10 ct10), sl10⟩) (c10 : PySem.W.codeIn K cd10 "duel_matrix" = true) (k10 : PySem.W.keepIn K (.ref f10) = true)
    (a11 : PySem.W.nsIn K mainGlobals "pair_chance" = some (some (.ref f11))) (l11 : K.lookup f11 = some ⟨oc11, od11, .func (PySem.W.fnOf "pair_chance" "pair_chance" (defArgs s_pair_chance) (defBody s_pair_chance) (defScope s_pair_chance) .none kV11 dc11 pm11 an11 cd11 ct11), sl11⟩) (c11 : PySem.W.codeIn K cd11 "pair_chance" = true) (k11 : PySem.W.keepIn K (.ref f11) = true)
    (a12 : PySem.W.nsIn K mainGlobals "kept_together" = some (some (.ref f12))) (l12 : K.lookup f12 = some ⟨oc12, od12, .func (PySem.W.fnOf "kept_together" "kept_together" (defArgs s_kept_together) (defBody s_kept_together) (defScope s_kept_together) .none kV12 dc12 pm12 an12 cd12 ct12), sl12⟩) (c12 : PySem.W.codeIn K cd12 "kept_together" = true) (k12 : PySem.W.keepIn K (.ref f12) = true)
    (a13 : PySem.W.nsIn K mainGlobals "both_kept" = some (some (.ref f13))) (l13 : K.lookup f13 = some ⟨oc13, od13, .func (PySem.W.fnOf "both_kept" "both_kept" (defArgs s_both_kept) (defBody s_both_kept) (defScope s_both_kept) .none kV13 dc13 pm13 an13 cd13 ct13), sl13⟩) (c13 : PySem.W.codeIn K cd13 "both_kept" = true) (k13 : PySem.W.keepIn K (.ref f13) = true)
    (a14 : PySem.W.nsIn K mainGlobals "held_behind" = some (some (.ref f14))) (l14 : K.lookup f14 = some ⟨oc14, od14, .func (PySem.W.fnOf "held_behind" "held_behind" (defArgs s_held_behind) (defBody s_held_behind) (defScope s_held_behind) .none kV14 dc14 pm14 an14 cd14 ct14), sl14⟩) (c14 : PySem.W.codeIn K cd14 "held_behind" = true) (k14 : PySem.W.keepIn K (.ref f14) = true)
    (a15 : PySem.W.nsIn K mainGlobals "behind_duel" = some (some (.ref f15))) (l15 : K.lookup f15 = some ⟨oc15, od15, .func (PySem.W.fnOf "behind_duel" "behind_duel" (defArgs s_behind_duel) (defBody s_behind_duel) (defScope s_behind_duel) .none kV15 dc15 pm15 an15 cd15 ct15), sl15⟩) (c15 : PySem.W.codeIn K cd15 "behind_duel" = true) (k15 : PySem.W.keepIn K (.ref f15) = true)
    (a16 : PySem.W.nsIn K mainGlobals "_law_cell" = some (some (.ref f16))) (l16 : K.lookup f16 = some ⟨oc16, od16, .func (PySem.W.fnOf "_law_cell" "_law_cell" (defArgs s_L_cell) (defBody s_L_cell) (defScope s_L_cell) .none kV16 dc16 pm16 an16 cd16 ct16), sl16⟩) (c16 : PySem.W.codeIn K cd16 "_law_cell" = true) (k16 : PySem.W.keepIn K (.ref f16) = true)
    (a17 : PySem.W.nsIn K mainGlobals "_law_mix" = some (some (.ref f17))) (l17 : K.lookup f17 = some ⟨oc17, od17, .func (PySem.W.fnOf "_law_mix" "_law_mix" (defArgs s_L_mix) (defBody s_L_mix) (defScope s_L_mix) .none kV17 dc17 pm17 an17 cd17 ct17), sl17⟩) (c17 : PySem.W.codeIn K cd17 "_law_mix" = true) (k17 : PySem.W.keepIn K (.ref f17) = true)
    (a18 : PySem.W.nsIn K mainGlobals "_law_row" = some (some (.ref f18))) (l18 : K.lookup f18 = some ⟨oc18, od18, .func (PySem.W.fnOf "_law_row" "_law_row" (defArgs s_L_row) (defBody s_L_row) (defScope s_L_row) .none kV18 dc18 pm18 an18 cd18 ct18), sl18⟩) (c18 : PySem.W.codeIn K cd18 "_law_row" = true) (k18 : PySem.W.keepIn K (.ref f18) = true)
    (a19 : PySem.W.nsIn K mainGlobals "_law_whole" = some (some (.ref f19))) (l19 : K.lookup f19 = some ⟨oc19, od19, .func (PySem.W.fnOf "_law_whole" "_law_whole" (defArgs s_L_whole) (defBody s_L_whole) (defScope s_L_whole) .none kV19 dc19 pm19 an19 cd19 ct19), sl19⟩) (c19 : PySem.W.codeIn K cd19 "_law_whole" = true) (k19 : PySem.W.keepIn K (.ref f19) = true)
    (a20 : PySem.W.nsIn K mainGlobals "_law_low" = some (some (.ref f20))) (l20 : K.lookup f20 = some ⟨oc20, od20, .func (PySem.W.fnOf "_law_low" "_law_low" (defArgs s_L_low) (defBody s_L_low) (defScope s_L_low) .none kV20 dc20 pm20 an20 cd20 ct20), sl20⟩) (c20 : PySem.W.codeIn K cd20 "_law_low" = true) (k20 : PySem.W.keepIn K (.ref f20) = true)
    (a21 : PySem.W.nsIn K mainGlobals "_law_plus" = some (some (.ref f21))) (l21 : K.lookup f21 = some ⟨oc21, od21, .func (PySem.W.fnOf "_law_plus" "_law_plus" (defArgs s_L_plus) (defBody s_L_plus) (defScope s_L_plus) .none kV21 dc21 pm21 an21 cd21 ct21), sl21⟩) (c21 : PySem.W.codeIn K cd21 "_law_plus" = true) (k21 : PySem.W.keepIn K (.ref f21) = true)
    (a22 : PySem.W.nsIn K mainGlobals "_law_times" = some (some (.ref f22))) (l22 : K.lookup f22 = some ⟨oc22, od22, .func (PySem.W.fnOf "_law_times" "_law_times" (defArgs s_L_times) (defBody s_L_times) (defScope s_L_times) .none kV22 dc22 pm22 an22 cd22 ct22), sl22⟩) (c22 : PySem.W.codeIn K cd22 "_law_times" = true) (k22 : PySem.W.keepIn K (.ref f22) = true)
    (a23 : PySem.W.nsIn K mainGlobals "_law_fraction" = some (some (.ref f23))) (l23 : K.lookup f23 = some ⟨oc23, od23, .func (PySem.W.fnOf "_law_fraction" "_law_fraction" (defArgs s_L_fraction) (defBody s_L_fraction) (defScope s_L_fraction) .none kV23 dc23 pm23 an23 cd23 ct23), sl23⟩) (c23 : PySem.W.codeIn K cd23 "_law_fraction" = true) (k23 : PySem.W.keepIn K (.ref f23) = true)
    (a24 : PySem.W.nsIn K mainGlobals "_law_matrix" = some (some (.ref f24))) (l24 : K.lookup f24 = some ⟨oc24, od24, .func (PySem.W.fnOf "_law_matrix" "_law_matrix" (defArgs s_L_matrix) (defBody s_L_matrix) (defScope s_L_matrix) .none kV24 dc24 pm24 an24 cd24 ct24), sl24⟩) (c24 : PySem.W.codeIn K cd24 "_law_matrix" = true) (k24 : PySem.W.keepIn K (.ref f24) = true)
    (a25 : PySem.W.nsIn K mainGlobals "_law_shares" = some (some (.ref f25))) (l25 : K.lookup f25 = some ⟨oc25, od25, .func (PySem.W.fnOf "_law_shares" "_law_shares" (defArgs s_L_shares) (defBody s_L_shares) (defScope s_L_shares) .none kV25 dc25 pm25 an25 cd25 ct25), sl25⟩) (c25 : PySem.W.codeIn K cd25 "_law_shares" = true) (k25 : PySem.W.keepIn K (.ref f25) = true)
    (a26 : PySem.W.nsIn K mainGlobals "_law_order" = some (some (.ref f26))) (l26 : K.lookup f26 = some ⟨oc26, od26, .func (PySem.W.fnOf "_law_order" "_law_order" (defArgs s_L_order) (defBody s_L_order) (defScope s_L_order) .none kV26 dc26 pm26 an26 cd26 ct26), sl26⟩) (c26 : PySem.W.codeIn K cd26 "_law_order" = true) (k26 : PySem.W.keepIn K (.ref f26) = true)
    (a27 : PySem.W.nsIn K mainGlobals "_law_put" = some (some (.ref f27))) (l27 : K.lookup f27 = some ⟨oc27, od27, .func (PySem.W.fnOf "_law_put" "_law_put" (defArgs s_L_put) (defBody s_L_put) (defScope s_L_put) .none kV27 dc27 pm27 an27 cd27 ct27), sl27⟩) (c27 : PySem.W.codeIn K cd27 "_law_put" = true) (k27 : PySem.W.keepIn K (.ref f27) = true)
    (a28 : PySem.W.nsIn K mainGlobals "_law_ratio" = some (some (.ref f28))) (l28 : K.lookup f28 = some ⟨oc28, od28, .func (PySem.W.fnOf "_law_ratio" "_law_ratio" (defArgs s_L_ratio) (defBody s_L_ratio) (defScope s_L_ratio) .none kV28 dc28 pm28 an28 cd28 ct28), sl28⟩) (c28 : PySem.W.codeIn K cd28 "_law_ratio" = true) (k28 : PySem.W.keepIn K (.ref f28) = true)
    (a29 : PySem.W.nsIn K mainGlobals "_law_less" = some (some (.ref f29))) (l29 : K.lookup f29 = some ⟨oc29, od29, .func (PySem.W.fnOf "_law_less" "_law_less" (defArgs s_L_less) (defBody s_L_less) (defScope s_L_less) .none kV29 dc29 pm29 an29 cd29 ct29), sl29⟩) (c29 : PySem.W.codeIn K cd29 "_law_less" = true) (k29 : PySem.W.keepIn K (.ref f29) = true)
    (a30 : PySem.W.nsIn K mainGlobals "_law_come" = some (some (.ref f30))) (l30 : K.lookup f30 = some ⟨oc30, od30, .func (PySem.W.fnOf "_law_come" "_law_come" (defArgs s_L_come) (defBody s_L_come) (defScope s_L_come) .none kV30 dc30 pm30 an30 cd30 ct30), sl30⟩) (c30 : PySem.W.codeIn K cd30 "_law_come" = true) (k30 : PySem.W.keepIn K (.ref f30) = true)
    (a31 : PySem.W.nsIn K mainGlobals "_law_due" = some (some (.ref f31))) (l31 : K.lookup f31 = some ⟨oc31, od31, .func (PySem.W.fnOf "_law_due" "_law_due" (defArgs s_L_due) (defBody s_L_due) (defScope s_L_due) .none kV31 dc31 pm31 an31 cd31 ct31), sl31⟩) (c31 : PySem.W.codeIn K cd31 "_law_due" = true) (k31 : PySem.W.keepIn K (.ref f31) = true)
    (a32 : PySem.W.nsIn K mainGlobals "law" = some (some (.ref f32))) (l32 : K.lookup f32 = some ⟨oc32, od32, .func (PySem.W.fnOf "law" "law" (defArgs s_law) (defBody s_law) (defScope s_law) .none kV32 dc32 pm32 an32 cd32 ct32), sl32⟩) (c32 : PySem.W.codeIn K cd32 "law" = true) (k32 : PySem.W.keepIn K (.ref f32) = true)
    (b_NOUGHT : PySem.W.nsIn K mainGlobals "NOUGHT" = some (some (.ref k_NOUGHT))) (bt_NOUGHT : tupIn K k_NOUGHT [(.int 0), (.int 1)] = true)
    (b_WHOLE : PySem.W.nsIn K mainGlobals "WHOLE" = some (some (.ref k_WHOLE))) (bt_WHOLE : tupIn K k_WHOLE [(.int 1), (.int 1)] = true)
    (b_TWICE : PySem.W.nsIn K mainGlobals "TWICE" = some (some (.ref k_TWICE))) (bt_TWICE : tupIn K k_TWICE [(.int 2), (.int 1)] = true)
    (lca_duel_matrix : cd10 = .ref lc_duel_matrix) (lct_duel_matrix : K.lookup lc_duel_matrix = some ⟨lo_duel_matrix, lod_duel_matrix, .fields lvs_duel_matrix, lsl_duel_matrix⟩) (lcq_duel_matrix : lvs_duel_matrix[11]? = some (.ref lp_duel_matrix)) (lch_duel_matrix : PySem.W.codeHdIn K lc_duel_matrix lp_duel_matrix = true)
    (ltnd : ([lp_duel_matrix] : List Addr).Nodup)
    (z0 : PySem.W.nsIn K mainGlobals "abs" = some none)
    (z1 : PySem.W.nsIn K mainGlobals "bool" = some none)
    (z2 : PySem.W.nsIn K mainGlobals "dict" = some none)
    (z3 : PySem.W.nsIn K mainGlobals "int" = some none)
    (z4 : PySem.W.nsIn K mainGlobals "isinstance" = some none)
    (z5 : PySem.W.nsIn K mainGlobals "len" = some none)
    (z6 : PySem.W.nsIn K mainGlobals "list" = some none)
    (z7 : PySem.W.nsIn K mainGlobals "max" = some none)
    (z8 : PySem.W.nsIn K mainGlobals "min" = some none)
    (z9 : PySem.W.nsIn K mainGlobals "range" = some none)
    (z10 : PySem.W.nsIn K mainGlobals "tuple" = some none)
    (z11 : PySem.W.nsIn K mainGlobals "zip" = some none)  : ∃ a : Ad, Txt K mg a ∧ (tabs a).map (·.1) = [lp_duel_matrix] := by
  refine ⟨{ f_greatest_divisor := f0, d_greatest_divisor := PySem.W.fnOf "greatest_divisor" "greatest_divisor" (defArgs s_greatest_divisor) (defBody s_greatest_divisor) (defScope s_greatest_divisor) .none kV0 dc0 pm0 an0 cd0 ct0, f_share := f1, d_share := PySem.W.fnOf "share" "share" (defArgs s_share) (defBody s_share) (defScope s_share) .none kV1 dc1 pm1 an1 cd1 ct1, f_plus := f2, d_plus := PySem.W.fnOf "plus" "plus" (defArgs s_plus) (defBody s_plus) (defScope s_plus) .none kV2 dc2 pm2 an2 cd2 ct2, f_minus := f3, d_minus := PySem.W.fnOf "minus" "minus" (defArgs s_minus) (defBody s_minus) (defScope s_minus) .none kV3 dc3 pm3 an3 cd3 ct3, f_times := f4, d_times := PySem.W.fnOf "times" "times" (defArgs s_times) (defBody s_times) (defScope s_times) .none kV4 dc4 pm4 an4 cd4 ct4, f_over := f5, d_over := PySem.W.fnOf "over" "over" (defArgs s_over) (defBody s_over) (defScope s_over) .none kV5 dc5 pm5 an5 cd5 ct5, f_below := f6, d_below := PySem.W.fnOf "below" "below" (defArgs s_below) (defBody s_below) (defScope s_below) .none kV6 dc6 pm6 an6 cd6 ct6, f_matrix_by := f7, d_matrix_by := PySem.W.fnOf "matrix_by" "matrix_by" (defArgs s_matrix_by) (defBody s_matrix_by) (defScope s_matrix_by) .none kV7 dc7 pm7 an7 cd7 ct7, f_matrix_row := f8, d_matrix_row := PySem.W.fnOf "matrix_row" "matrix_row" (defArgs s_matrix_row) (defBody s_matrix_row) (defScope s_matrix_row) .none kV8 dc8 pm8 an8 cd8 ct8, f_is_unsure := f9, d_is_unsure := PySem.W.fnOf "is_unsure" "is_unsure" (defArgs s_is_unsure) (defBody s_is_unsure) (defScope s_is_unsure) .none kV9 dc9 pm9 an9 cd9 ct9, f_duel_matrix := f10, d_duel_matrix := PySem.W.fnOf "duel_matrix" "duel_matrix" (defArgs s_duel_matrix) (defBody s_duel_matrix) (defScope s_duel_matrix) .none kV10 dc10 pm10 an10 cd10 ct10, f_pair_chance := f11, d_pair_chance := PySem.W.fnOf "pair_chance" "pair_chance" (defArgs s_pair_chance) (defBody s_pair_chance) (defScope s_pair_chance) .none kV11 dc11 pm11 an11 cd11 ct11, f_kept_together := f12, d_kept_together := PySem.W.fnOf "kept_together" "kept_together" (defArgs s_kept_together) (defBody s_kept_together) (defScope s_kept_together) .none kV12 dc12 pm12 an12 cd12 ct12, f_both_kept := f13, d_both_kept := PySem.W.fnOf "both_kept" "both_kept" (defArgs s_both_kept) (defBody s_both_kept) (defScope s_both_kept) .none kV13 dc13 pm13 an13 cd13 ct13, f_held_behind := f14, d_held_behind := PySem.W.fnOf "held_behind" "held_behind" (defArgs s_held_behind) (defBody s_held_behind) (defScope s_held_behind) .none kV14 dc14 pm14 an14 cd14 ct14, f_behind_duel := f15, d_behind_duel := PySem.W.fnOf "behind_duel" "behind_duel" (defArgs s_behind_duel) (defBody s_behind_duel) (defScope s_behind_duel) .none kV15 dc15 pm15 an15 cd15 ct15, f_L_cell := f16, d_L_cell := PySem.W.fnOf "_law_cell" "_law_cell" (defArgs s_L_cell) (defBody s_L_cell) (defScope s_L_cell) .none kV16 dc16 pm16 an16 cd16 ct16, f_L_mix := f17, d_L_mix := PySem.W.fnOf "_law_mix" "_law_mix" (defArgs s_L_mix) (defBody s_L_mix) (defScope s_L_mix) .none kV17 dc17 pm17 an17 cd17 ct17, f_L_row := f18, d_L_row := PySem.W.fnOf "_law_row" "_law_row" (defArgs s_L_row) (defBody s_L_row) (defScope s_L_row) .none kV18 dc18 pm18 an18 cd18 ct18, f_L_whole := f19, d_L_whole := PySem.W.fnOf "_law_whole" "_law_whole" (defArgs s_L_whole) (defBody s_L_whole) (defScope s_L_whole) .none kV19 dc19 pm19 an19 cd19 ct19, f_L_low := f20, d_L_low := PySem.W.fnOf "_law_low" "_law_low" (defArgs s_L_low) (defBody s_L_low) (defScope s_L_low) .none kV20 dc20 pm20 an20 cd20 ct20, f_L_plus := f21, d_L_plus := PySem.W.fnOf "_law_plus" "_law_plus" (defArgs s_L_plus) (defBody s_L_plus) (defScope s_L_plus) .none kV21 dc21 pm21 an21 cd21 ct21, f_L_times := f22, d_L_times := PySem.W.fnOf "_law_times" "_law_times" (defArgs s_L_times) (defBody s_L_times) (defScope s_L_times) .none kV22 dc22 pm22 an22 cd22 ct22, f_L_fraction := f23, d_L_fraction := PySem.W.fnOf "_law_fraction" "_law_fraction" (defArgs s_L_fraction) (defBody s_L_fraction) (defScope s_L_fraction) .none kV23 dc23 pm23 an23 cd23 ct23, f_L_matrix := f24, d_L_matrix := PySem.W.fnOf "_law_matrix" "_law_matrix" (defArgs s_L_matrix) (defBody s_L_matrix) (defScope s_L_matrix) .none kV24 dc24 pm24 an24 cd24 ct24, f_L_shares := f25, d_L_shares := PySem.W.fnOf "_law_shares" "_law_shares" (defArgs s_L_shares) (defBody s_L_shares) (defScope s_L_shares) .none kV25 dc25 pm25 an25 cd25 ct25, f_L_order := f26, d_L_order := PySem.W.fnOf "_law_order" "_law_order" (defArgs s_L_order) (defBody s_L_order) (defScope s_L_order) .none kV26 dc26 pm26 an26 cd26 ct26, f_L_put := f27, d_L_put := PySem.W.fnOf "_law_put" "_law_put" (defArgs s_L_put) (defBody s_L_put) (defScope s_L_put) .none kV27 dc27 pm27 an27 cd27 ct27, f_L_ratio := f28, d_L_ratio := PySem.W.fnOf "_law_ratio" "_law_ratio" (defArgs s_L_ratio) (defBody s_L_ratio) (defScope s_L_ratio) .none kV28 dc28 pm28 an28 cd28 ct28, f_L_less := f29, d_L_less := PySem.W.fnOf "_law_less" "_law_less" (defArgs s_L_less) (defBody s_L_less) (defScope s_L_less) .none kV29 dc29 pm29 an29 cd29 ct29, f_L_come := f30, d_L_come := PySem.W.fnOf "_law_come" "_law_come" (defArgs s_L_come) (defBody s_L_come) (defScope s_L_come) .none kV30 dc30 pm30 an30 cd30 ct30, f_L_due := f31, d_L_due := PySem.W.fnOf "_law_due" "_law_due" (defArgs s_L_due) (defBody s_L_due) (defScope s_L_due) .none kV31 dc31 pm31 an31 cd31 ct31, f_law := f32, d_law := PySem.W.fnOf "law" "law" (defArgs s_law) (defBody s_law) (defScope s_law) .none kV32 dc32 pm32 an32 cd32 ct32, k_NOUGHT := k_NOUGHT, k_WHOLE := k_WHOLE, k_TWICE := k_TWICE, lc_duel_matrix := lc_duel_matrix, lp_duel_matrix := lp_duel_matrix }, ?_, rfl⟩
  exact {
    lcd_duel_matrix := lca_duel_matrix
    lch_duel_matrix := lch_duel_matrix
    tnd := ltnd
    F_greatest_divisor := fun_mk (st := s_greatest_divisor) l0 c0 k0
    B_greatest_divisor := (fun_mk (st := s_greatest_divisor) l0 c0 k0).binds (ps := ["one", "other"]) fun _ _ _ _ _ _ us hl => (by obtain ⟨_, _, rfl⟩ := us2 hl; rfl)
    m_greatest_divisor := PySem.W.mg_of X G a0
    F_share := fun_mk (st := s_share) l1 c1 k1
    B_share := (fun_mk (st := s_share) l1 c1 k1).binds (ps := ["top", "bottom"]) fun _ _ _ _ _ _ us hl => (by obtain ⟨_, _, rfl⟩ := us2 hl; rfl)
    m_share := PySem.W.mg_of X G a1
    F_plus := fun_mk (st := s_plus) l2 c2 k2
    B_plus := (fun_mk (st := s_plus) l2 c2 k2).binds (ps := ["one", "other"]) fun _ _ _ _ _ _ us hl => (by obtain ⟨_, _, rfl⟩ := us2 hl; rfl)
    m_plus := PySem.W.mg_of X G a2
    F_minus := fun_mk (st := s_minus) l3 c3 k3
    B_minus := (fun_mk (st := s_minus) l3 c3 k3).binds (ps := ["one", "other"]) fun _ _ _ _ _ _ us hl => (by obtain ⟨_, _, rfl⟩ := us2 hl; rfl)
    m_minus := PySem.W.mg_of X G a3
    F_times := fun_mk (st := s_times) l4 c4 k4
    B_times := (fun_mk (st := s_times) l4 c4 k4).binds (ps := ["one", "other"]) fun _ _ _ _ _ _ us hl => (by obtain ⟨_, _, rfl⟩ := us2 hl; rfl)
    m_times := PySem.W.mg_of X G a4
    F_over := fun_mk (st := s_over) l5 c5 k5
    B_over := (fun_mk (st := s_over) l5 c5 k5).binds (ps := ["one", "other"]) fun _ _ _ _ _ _ us hl => (by obtain ⟨_, _, rfl⟩ := us2 hl; rfl)
    m_over := PySem.W.mg_of X G a5
    F_below := fun_mk (st := s_below) l6 c6 k6
    B_below := (fun_mk (st := s_below) l6 c6 k6).binds (ps := ["one", "other"]) fun _ _ _ _ _ _ us hl => (by obtain ⟨_, _, rfl⟩ := us2 hl; rfl)
    m_below := PySem.W.mg_of X G a6
    F_matrix_by := fun_mk (st := s_matrix_by) l7 c7 k7
    B_matrix_by := (fun_mk (st := s_matrix_by) l7 c7 k7).binds (ps := ["many", "tell"]) fun _ _ _ _ _ _ us hl => (by obtain ⟨_, _, rfl⟩ := us2 hl; rfl)
    m_matrix_by := PySem.W.mg_of X G a7
    F_matrix_row := fun_mk (st := s_matrix_row) l8 c8 k8
    B_matrix_row := (fun_mk (st := s_matrix_row) l8 c8 k8).binds (ps := ["one", "many", "tell"]) fun _ _ _ _ _ _ us hl => (by obtain ⟨_, _, _, rfl⟩ := us3 hl; rfl)
    m_matrix_row := PySem.W.mg_of X G a8
    F_is_unsure := fun_mk (st := s_is_unsure) l9 c9 k9
    B_is_unsure := (fun_mk (st := s_is_unsure) l9 c9 k9).binds (ps := ["chance"]) fun _ _ _ _ _ _ us hl => (by obtain ⟨_, rfl⟩ := us1 hl; rfl)
    m_is_unsure := PySem.W.mg_of X G a9
    F_duel_matrix := fun_mk (st := s_duel_matrix) l10 c10 k10
    B_duel_matrix := (fun_mk (st := s_duel_matrix) l10 c10 k10).binds (ps := ["shares", "order"]) fun _ _ _ _ _ _ us hl => (by obtain ⟨_, _, rfl⟩ := us2 hl; rfl)
    m_duel_matrix := PySem.W.mg_of X G a10
    F_pair_chance := fun_mk (st := s_pair_chance) l11 c11 k11
    B_pair_chance := (fun_mk (st := s_pair_chance) l11 c11 k11).binds (ps := ["told", "found", "one", "other"]) fun _ _ _ _ _ _ us hl => (by obtain ⟨_, _, _, _, rfl⟩ := us4 hl; rfl)
    m_pair_chance := PySem.W.mg_of X G a11
    F_kept_together := fun_mk (st := s_kept_together) l12 c12 k12
    B_kept_together := (fun_mk (st := s_kept_together) l12 c12 k12).binds (ps := ["told"]) fun _ _ _ _ _ _ us hl => (by obtain ⟨_, rfl⟩ := us1 hl; rfl)
    m_kept_together := PySem.W.mg_of X G a12
    F_both_kept := fun_mk (st := s_both_kept) l13 c13 k13
    B_both_kept := (fun_mk (st := s_both_kept) l13 c13 k13).binds (ps := ["up", "sure", "held", "chance"]) fun _ _ _ _ _ _ us hl => (by obtain ⟨_, _, _, _, rfl⟩ := us4 hl; rfl)
    m_both_kept := PySem.W.mg_of X G a13
    F_held_behind := fun_mk (st := s_held_behind) l14 c14 k14
    B_held_behind := (fun_mk (st := s_held_behind) l14 c14 k14).binds (ps := ["held", "chance"]) fun _ _ _ _ _ _ us hl => (by obtain ⟨_, _, rfl⟩ := us2 hl; rfl)
    m_held_behind := PySem.W.mg_of X G a14
    F_behind_duel := fun_mk (st := s_behind_duel) l15 c15 k15
    B_behind_duel := (fun_mk (st := s_behind_duel) l15 c15 k15).binds (ps := ["earlier", "held", "place", "chance"]) fun _ _ _ _ _ _ us hl => (by obtain ⟨_, _, _, _, rfl⟩ := us4 hl; rfl)
    m_behind_duel := PySem.W.mg_of X G a15
    F_L_cell := fun_mk (st := s_L_cell) l16 c16 k16
    B_L_cell := (fun_mk (st := s_L_cell) l16 c16 k16).binds (ps := ["_law_script", "_law_k"]) fun _ _ _ _ _ _ us hl => (by obtain ⟨_, _, rfl⟩ := us2 hl; rfl)
    m_L_cell := PySem.W.mg_of X G a16
    F_L_mix := fun_mk (st := s_L_mix) l17 c17 k17
    B_L_mix := (fun_mk (st := s_L_mix) l17 c17 k17).binds (ps := ["_law_cell_here", "_law_k"]) fun _ _ _ _ _ _ us hl => (by obtain ⟨_, _, rfl⟩ := us2 hl; rfl)
    m_L_mix := PySem.W.mg_of X G a17
    F_L_row := fun_mk (st := s_L_row) l18 c18 k18
    B_L_row := (fun_mk (st := s_L_row) l18 c18 k18).binds (ps := ["_law_cell_here", "_law_bit", "_law_many", "_law_most"]) fun _ _ _ _ _ _ us hl => (by obtain ⟨_, _, _, _, rfl⟩ := us4 hl; rfl)
    m_L_row := PySem.W.mg_of X G a18
    F_L_whole := fun_mk (st := s_L_whole) l19 c19 k19
    B_L_whole := (fun_mk (st := s_L_whole) l19 c19 k19).binds (ps := ["_law_found"]) fun _ _ _ _ _ _ us hl => (by obtain ⟨_, rfl⟩ := us1 hl; rfl)
    m_L_whole := PySem.W.mg_of X G a19
    F_L_low := fun_mk (st := s_L_low) l20 c20 k20
    B_L_low := (fun_mk (st := s_L_low) l20 c20 k20).binds (ps := ["_law_top", "_law_bottom"]) fun _ _ _ _ _ _ us hl => (by obtain ⟨_, _, rfl⟩ := us2 hl; rfl)
    m_L_low := PySem.W.mg_of X G a20
    F_L_plus := fun_mk (st := s_L_plus) l21 c21 k21
    B_L_plus := (fun_mk (st := s_L_plus) l21 c21 k21).binds (ps := ["_law_one", "_law_other"]) fun _ _ _ _ _ _ us hl => (by obtain ⟨_, _, rfl⟩ := us2 hl; rfl)
    m_L_plus := PySem.W.mg_of X G a21
    F_L_times := fun_mk (st := s_L_times) l22 c22 k22
    B_L_times := (fun_mk (st := s_L_times) l22 c22 k22).binds (ps := ["_law_one", "_law_other"]) fun _ _ _ _ _ _ us hl => (by obtain ⟨_, _, rfl⟩ := us2 hl; rfl)
    m_L_times := PySem.W.mg_of X G a22
    F_L_fraction := fun_mk (st := s_L_fraction) l23 c23 k23
    B_L_fraction := (fun_mk (st := s_L_fraction) l23 c23 k23).binds (ps := ["_law_found", "_law_due_here"]) fun _ _ _ _ _ _ us hl => (by obtain ⟨_, _, rfl⟩ := us2 hl; rfl)
    m_L_fraction := PySem.W.mg_of X G a23
    F_L_matrix := fun_mk (st := s_L_matrix) l24 c24 k24
    B_L_matrix := (fun_mk (st := s_L_matrix) l24 c24 k24).binds (ps := ["_law_found", "_law_due_here"]) fun _ _ _ _ _ _ us hl => (by obtain ⟨_, _, rfl⟩ := us2 hl; rfl)
    m_L_matrix := PySem.W.mg_of X G a24
    F_L_shares := fun_mk (st := s_L_shares) l25 c25 k25
    B_L_shares := (fun_mk (st := s_L_shares) l25 c25 k25).binds (ps := ["_law_script", "_law_start", "_law_most"]) fun _ _ _ _ _ _ us hl => (by obtain ⟨_, _, _, rfl⟩ := us3 hl; rfl)
    m_L_shares := PySem.W.mg_of X G a25
    F_L_order := fun_mk (st := s_L_order) l26 c26 k26
    B_L_order := (fun_mk (st := s_L_order) l26 c26 k26).binds (ps := ["_law_cell_here", "_law_bit", "_law_many"]) fun _ _ _ _ _ _ us hl => (by obtain ⟨_, _, _, rfl⟩ := us3 hl; rfl)
    m_L_order := PySem.W.mg_of X G a26
    F_L_put := fun_mk (st := s_L_put) l27 c27 k27
    B_L_put := (fun_mk (st := s_L_put) l27 c27 k27).binds (ps := ["_law_states", "_law_key", "_law_much"]) fun _ _ _ _ _ _ us hl => (by obtain ⟨_, _, _, rfl⟩ := us3 hl; rfl)
    m_L_put := PySem.W.mg_of X G a27
    F_L_ratio := fun_mk (st := s_L_ratio) l28 c28 k28
    B_L_ratio := (fun_mk (st := s_L_ratio) l28 c28 k28).binds (ps := ["_law_one", "_law_other"]) fun _ _ _ _ _ _ us hl => (by obtain ⟨_, _, rfl⟩ := us2 hl; rfl)
    m_L_ratio := PySem.W.mg_of X G a28
    F_L_less := fun_mk (st := s_L_less) l29 c29 k29
    B_L_less := (fun_mk (st := s_L_less) l29 c29 k29).binds (ps := ["_law_one", "_law_other"]) fun _ _ _ _ _ _ us hl => (by obtain ⟨_, _, rfl⟩ := us2 hl; rfl)
    m_L_less := PySem.W.mg_of X G a29
    F_L_come := fun_mk (st := s_L_come) l30 c30 k30
    B_L_come := (fun_mk (st := s_L_come) l30 c30 k30).binds (ps := ["_law_states", "_law_have", "_law_much", "_law_mark"]) fun _ _ _ _ _ _ us hl => (by obtain ⟨_, _, _, _, rfl⟩ := us4 hl; rfl)
    m_L_come := PySem.W.mg_of X G a30
    F_L_due := fun_mk (st := s_L_due) l31 c31 k31
    B_L_due := (fun_mk (st := s_L_due) l31 c31 k31).binds (ps := ["_law_shares_here", "_law_order_here", "_law_marks"]) fun _ _ _ _ _ _ us hl => (by obtain ⟨_, _, _, rfl⟩ := us3 hl; rfl)
    m_L_due := PySem.W.mg_of X G a31
    F_law := fun_mk (st := s_law) l32 c32 k32
    B_law := (fun_mk (st := s_law) l32 c32 k32).binds (ps := ["_law_script"]) fun _ _ _ _ _ _ us hl => (by obtain ⟨_, rfl⟩ := us1 hl; rfl)
    m_law := PySem.W.mg_of X G a32
    g_NOUGHT := ⟨_, PySem.W.mg_of X G b_NOUGHT, rfl⟩
    t_NOUGHT := bt_NOUGHT
    g_WHOLE := ⟨_, PySem.W.mg_of X G b_WHOLE, rfl⟩
    t_WHOLE := bt_WHOLE
    g_TWICE := ⟨_, PySem.W.mg_of X G b_TWICE, rfl⟩
    t_TWICE := bt_TWICE
    z_abs := PySem.W.mg_none_of X G z0
    z_bool := PySem.W.mg_none_of X G z1
    z_dict := PySem.W.mg_none_of X G z2
    z_int := PySem.W.mg_none_of X G z3
    z_isinstance := PySem.W.mg_none_of X G z4
    z_len := PySem.W.mg_none_of X G z5
    z_list := PySem.W.mg_none_of X G z6
    z_max := PySem.W.mg_none_of X G z7
    z_min := PySem.W.mg_none_of X G z8
    z_range := PySem.W.mg_none_of X G z9
    z_tuple := PySem.W.mg_none_of X G z10
    z_zip := PySem.W.mg_none_of X G z11
    bl := fun s u => .of_eq rfl }
end My
open PySem PySem.W PyProof.Rows
set_option maxRecDepth 100000 in
set_option maxHeartbeats 0 in
theorem PySem.Challenge.cw_fewspeak_k33_whole_matrix_of_duels_holds : PySem.Challenge.rw_fewspeak_k33_whole_matrix_of_duels.Holds := by
  w_on; o_law; k_head; (case hw => w_witness2)
  k_fill
  refine L2.walk_ofT (l := PySem.Challenge.rw_fewspeak_k33_whole_matrix_of_duels) (n := 63) (k := My.lawK) (x := "_law_script") (CX := L2.CX0) (sp := My.spLaw) rfl (by decide) rfl ⟨rfl, by decide, by decide⟩ (fun w h Y => ⟨PySem.W.km_in_of Y, PySem.W.km_tabs_of Y⟩) ?F ?S ?C
  case F =>
    intro ts' hts w mg fa h KX G hmg
    have T : ∃ a, My.Txt (L2.KOf KX) mg a ∧ (My.tabs a).map (·.1) = ts' := by
      rw [hts]
      dsimp only [L2.KOf]
      refine' My.txt_mk KX G ?a0 ?l0 ?c0 ?k0 ?a1 ?l1 ?c1 ?k1 ?a2 ?l2 ?c2 ?k2 ?a3 ?l3 ?c3 ?k3 ?a4 ?l4 ?c4 ?k4 ?a5 ?l5 ?c5 ?k5 ?a6 ?l6 ?c6 ?k6 ?a7 ?l7 ?c7 ?k7 ?a8 ?l8 ?c8 ?k8 ?a9 ?l9 ?c9 ?k9 ?a10 ?l10 ?c10 ?k10 ?a11 ?l11 ?c11 ?k11 ?a12 ?l12 ?c12 ?k12 ?a13 ?l13 ?c13 ?k13 ?a14 ?l14 ?c14 ?k14 ?a15 ?l15 ?c15 ?k15 ?a16 ?l16 ?c16 ?k16 ?a17 ?l17 ?c17 ?k17 ?a18 ?l18 ?c18 ?k18 ?a19 ?l19 ?c19 ?k19 ?a20 ?l20 ?c20 ?k20 ?a21 ?l21 ?c21 ?k21 ?a22 ?l22 ?c22 ?k22 ?a23 ?l23 ?c23 ?k23 ?a24 ?l24 ?c24 ?k24 ?a25 ?l25 ?c25 ?k25 ?a26 ?l26 ?c26 ?k26 ?a27 ?l27 ?c27 ?k27 ?a28 ?l28 ?c28 ?k28 ?a29 ?l29 ?c29 ?k29 ?a30 ?l30 ?c30 ?k30 ?a31 ?l31 ?c31 ?k31 ?a32 ?l32 ?c32 ?k32 ?b_NOUGHT ?bt_NOUGHT ?b_WHOLE ?bt_WHOLE ?b_TWICE ?bt_TWICE ?lca_duel_matrix ?lct_duel_matrix ?lcq_duel_matrix ?lch_duel_matrix ?ltnd ?z0 ?z1 ?z2 ?z3 ?z4 ?z5 ?z6 ?z7 ?z8 ?z9 ?z10 ?z11
      (case a0 => k_is)
      (case l0 => k_is)
      (case c0 => k_is)
      (case k0 => k_is)
      (case a1 => k_is)
      (case l1 => k_is)
      (case c1 => k_is)
      (case k1 => k_is)
      (case a2 => k_is)
      (case l2 => k_is)
      (case c2 => k_is)
      (case k2 => k_is)
      (case a3 => k_is)
      (case l3 => k_is)
      (case c3 => k_is)
      (case k3 => k_is)
      (case a4 => k_is)
      (case l4 => k_is)
      (case c4 => k_is)
      (case k4 => k_is)
      (case a5 => k_is)
      (case l5 => k_is)
      (case c5 => k_is)
      (case k5 => k_is)
      (case a6 => k_is)
      (case l6 => k_is)
      (case c6 => k_is)
      (case k6 => k_is)
      (case a7 => k_is)
      (case l7 => k_is)
      (case c7 => k_is)
      (case k7 => k_is)
      (case a8 => k_is)
      (case l8 => k_is)
      (case c8 => k_is)
      (case k8 => k_is)
      (case a9 => k_is)
      (case l9 => k_is)
      (case c9 => k_is)
      (case k9 => k_is)
      (case a10 => k_is)
      (case l10 => k_is)
      (case c10 => k_is)
      (case k10 => k_is)
      (case a11 => k_is)
      (case l11 => k_is)
      (case c11 => k_is)
      (case k11 => k_is)
      (case a12 => k_is)
      (case l12 => k_is)
      (case c12 => k_is)
      (case k12 => k_is)
      (case a13 => k_is)
      (case l13 => k_is)
      (case c13 => k_is)
      (case k13 => k_is)
      (case a14 => k_is)
      (case l14 => k_is)
      (case c14 => k_is)
      (case k14 => k_is)
      (case a15 => k_is)
      (case l15 => k_is)
      (case c15 => k_is)
      (case k15 => k_is)
      (case a16 => k_is)
      (case l16 => k_is)
      (case c16 => k_is)
      (case k16 => k_is)
      (case a17 => k_is)
      (case l17 => k_is)
      (case c17 => k_is)
      (case k17 => k_is)
      (case a18 => k_is)
      (case l18 => k_is)
      (case c18 => k_is)
      (case k18 => k_is)
      (case a19 => k_is)
      (case l19 => k_is)
      (case c19 => k_is)
      (case k19 => k_is)
      (case a20 => k_is)
      (case l20 => k_is)
      (case c20 => k_is)
      (case k20 => k_is)
      (case a21 => k_is)
      (case l21 => k_is)
      (case c21 => k_is)
      (case k21 => k_is)
      (case a22 => k_is)
      (case l22 => k_is)
      (case c22 => k_is)
      (case k22 => k_is)
      (case a23 => k_is)
      (case l23 => k_is)
      (case c23 => k_is)
      (case k23 => k_is)
      (case a24 => k_is)
      (case l24 => k_is)
      (case c24 => k_is)
      (case k24 => k_is)
      (case a25 => k_is)
      (case l25 => k_is)
      (case c25 => k_is)
      (case k25 => k_is)
      (case a26 => k_is)
      (case l26 => k_is)
      (case c26 => k_is)
      (case k26 => k_is)
      (case a27 => k_is)
      (case l27 => k_is)
      (case c27 => k_is)
      (case k27 => k_is)
      (case a28 => k_is)
      (case l28 => k_is)
      (case c28 => k_is)
      (case k28 => k_is)
      (case a29 => k_is)
      (case l29 => k_is)
      (case c29 => k_is)
      (case k29 => k_is)
      (case a30 => k_is)
      (case l30 => k_is)
      (case c30 => k_is)
      (case k30 => k_is)
      (case a31 => k_is)
      (case l31 => k_is)
      (case c31 => k_is)
      (case k31 => k_is)
      (case a32 => k_is)
      (case l32 => k_is)
      (case c32 => k_is)
      (case k32 => k_is)
      (case b_NOUGHT => k_is)
      (case bt_NOUGHT => kernel_rfl)
      (case b_WHOLE => k_is)
      (case bt_WHOLE => kernel_rfl)
      (case b_TWICE => k_is)
      (case bt_TWICE => kernel_rfl)
      (case lca_duel_matrix => exact rfl)
      (case lct_duel_matrix => k_is)
      (case lcq_duel_matrix => exact rfl)
      (case lch_duel_matrix => kernel_rfl)
      (case ltnd => decide)
      (case z0 => k_is)
      (case z1 => k_is)
      (case z2 => k_is)
      (case z3 => k_is)
      (case z4 => k_is)
      (case z5 => k_is)
      (case z6 => k_is)
      (case z7 => k_is)
      (case z8 => k_is)
      (case z9 => k_is)
      (case z10 => k_is)
      (case z11 => k_is)

    obtain ⟨a, T, e1⟩ := T
    have e1 := e1.trans hts
    have e0 := hmg.symm.trans T.m_law
    cases e0
    refine' ⟨a.d_law, ?b, ?t, ?u, fun base kb nb hB => My.ok_law T hB ?v⟩
    case b => exact T.bl
    case t =>
      intro P hP
      have hP := e1.symm ▸ hP
      simp only [My.tabs, List.map_cons, List.map_nil, List.mem_cons, List.not_mem_nil, or_false] at hP
      rcases hP with rfl
      · exact ⟨_, T.lch_duel_matrix⟩
    case u =>
      intro P hP
      simp only [List.mem_cons, List.not_mem_nil, or_false] at hP
      rcases hP with rfl <;> kernel_rfl
    case v =>
      intro q hq
      rw [← e1]
      exact List.mem_map_of_mem hq
  case S => exact fun K H a ns hl hO hS => My.law_start hl hO hS
  case C => exact fun H s e s' z => z

