import PyProof.Rows.All
import Wide.All
import OpenK.AllK
import Wide.FinOn
import Lean
import PyProof.EqAt
import PyProof.EqKinds
import PyProof.TupleCall
import PySem.Challenge.RW_fewspeak_k31_duels_thrown
set_option Elab.async false
set_option linter.all false
set_option maxRecDepth 100000
/-! THE HAND LAYER, for ints, bools, texts, own classes, LISTS and tuples (index, slices, in, append, pop ..), calls, loops. Paste it whole ahead of your own text; what your proof does not reach may be deleted. -/
namespace L2
open PySem PySem.Spec PyProof.Rows

/-- a key: an int or a str -/
noncomputable abbrev Key := Sum Int Str
noncomputable def keyIs : Key → Value → Bool
  | .inl k, v => Value.isInt k v
  | .inr x, v => Value.isStrOf x v
noncomputable def keyH (w : World) : Key → Int
  | .inl k => hashInt k
  | .inr x => hashStr w x
theorem keyIs_shape : ∀ {k : Key} {v : Value}, keyIs k v = true → (∃ i t, k = Sum.inl i ∧ v = Value.int i t) ∨ (∃ x t, k = Sum.inr x ∧ v = Value.str x t)
  | .inl i, v, h => by
    obtain ⟨t, e⟩ := Value.isInt_shape (k := i) (v := v) h
    exact .inl ⟨i, t, rfl, e⟩
  | .inr x, v, h => by
    obtain ⟨t, e⟩ := Value.isStrOf_shape (x := x) (v := v) h
    exact .inr ⟨x, t, rfl, e⟩
theorem key_ll (a b : Int) : decide ((Sum.inl a : Key) = Sum.inl b) = (a == b) := by
  by_cases e : a = b
  · subst e; simp
  · have h : ¬ (Sum.inl a : Key) = Sum.inl b := fun q => e (Sum.inl.inj q)
    rw [decide_eq_false h]
    exact (beq_eq_false_iff_ne.mpr e).symm
theorem key_rr (a b : Str) : decide ((Sum.inr a : Key) = Sum.inr b) = decide (a = b) := by
  by_cases e : a = b
  · subst e; simp
  · have h : ¬ (Sum.inr a : Key) = Sum.inr b := fun q => e (Sum.inr.inj q)
    rw [decide_eq_false h, decide_eq_false e]
theorem key_lr (a : Int) (b : Str) : decide ((Sum.inl a : Key) = Sum.inr b) = false := decide_eq_false (fun q => nomatch q)
theorem key_rl (a : Str) (b : Int) : decide ((Sum.inr a : Key) = Sum.inl b) = false := decide_eq_false (fun q => nomatch q)

noncomputable def mixKind (prog : Program) (w : World) : PySem.KeyKind prog w Key where
  is := keyIs
  hash := keyH w
  inj := fun v a b ha hb => by
    rcases keyIs_shape ha with ⟨i, t, rfl, rfl⟩ | ⟨x, t, rfl, rfl⟩
    · rcases keyIs_shape hb with ⟨j, u, rfl, e⟩ | ⟨y, u, rfl, e⟩
      · injection e with e1 _; rw [e1]
      · exact nomatch e
    · rcases keyIs_shape hb with ⟨j, u, rfl, e⟩ | ⟨y, u, rfl, e⟩
      · exact nomatch e
      · injection e with e1 _; rw [e1]
  byValue := fun k v h => by
    rcases keyIs_shape h with ⟨i, t, rfl, rfl⟩ | ⟨x, t, rfl, rfl⟩ <;> rfl
  pyHash := fun hv h => by
    rcases keyIs_shape hv with ⟨i, t, rfl, rfl⟩ | ⟨x, t, rfl, rfl⟩
    · exact wpAny_pyHash_int h
    · exact wpAny_pyHash_str h
  eqBool := fun hu hv h => by
    rcases keyIs_shape hu with ⟨i, t, rfl, rfl⟩ | ⟨x, t, rfl, rfl⟩
    · rcases keyIs_shape hv with ⟨j, u, rfl, rfl⟩ | ⟨y, u, rfl, rfl⟩
      · rw [key_ll] at h; exact wpAny_eqBool_int h
      · rw [key_lr] at h; exact SeqAt.EqAt.int_str i t y u _ _ _ _ h
    · rcases keyIs_shape hv with ⟨j, u, rfl, rfl⟩ | ⟨y, u, rfl, rfl⟩
      · rw [key_rl] at h; exact SeqAt.EqAt.str_int x t j u _ _ _ _ h
      · rw [key_rr] at h; exact wpAny_eqBool_str h
  «strs» := fun k x t v h => by
    rcases keyIs_shape h with ⟨i, u, rfl, e⟩ | ⟨y, u, rfl, e⟩
    · exact nomatch e
    · injection e with e1 _
      subst e1
      cases v <;> rfl

end L2

namespace L2
open PySem PySem.Spec PyProof.Rows

/-- a value, without the heap -/
inductive V where
  | non | bl (b : Bool) | int (i : Int) | str (x : Str) | byt (b : Array UInt8) | flt (b : UInt64) | ref (a : Addr) | ty (n : String)
  deriving DecidableEq

noncomputable def RelV : V → Value → Prop
  | .non, u => u = Value.none
  | .bl b, u => u = Value.bool b
  | .int i, u => ∃ t, u = Value.int i t
  | .str x, u => ∃ t, u = Value.str x t
  | .byt b, u => ∃ t, u = Value.bytes b t
  | .flt b, u => ∃ t, u = Value.float b t
  | .ref a, u => u = Value.ref a
  | .ty n, u => u = Value.type n

noncomputable abbrev Vals : List V → List Value → Prop := Paired RelV
theorem Vals.length {xs : List V} {us : List Value} (r : Vals xs us) : xs.length = us.length := Paired.length r
theorem Vals.get : ∀ {xs : List V} {us : List Value} {i : Nat} {x : V}, Vals xs us → xs[i]? = some x → ∃ u, us[i]? = some u ∧ RelV x u
  | _, _, _, _, .nil, e => by simp at e
  | _, _, 0, _, .cons r _, e => by simp at e; subst e; exact ⟨_, rfl, r⟩
  | _, _, i + 1, x, .cons _ t, e => by
    obtain ⟨u, h1, h2⟩ := Vals.get (i := i) (x := x) t (by simpa using e)
    exact ⟨u, by simpa using h1, h2⟩
theorem Vals.set {x : V} {u : Value} (r : RelV x u) : ∀ {xs : List V} {us : List Value} (i : Nat), Vals xs us → Vals (xs.set i x) (us.set i u)
  | _, _, _, .nil => .nil
  | _, _, 0, .cons _ t => .cons r t
  | _, _, i + 1, .cons q t => .cons q (Vals.set r i t)
theorem Vals.append : ∀ {xs ys : List V} {us ws : List Value}, Vals xs us → Vals ys ws → Vals (xs ++ ys) (us ++ ws)
  | _, _, _, _, .nil, s => s
  | _, _, _, _, .cons r t, s => .cons r (Vals.append t s)
theorem Vals.take : ∀ {xs : List V} {us : List Value} (n : Nat), Vals xs us → Vals (xs.take n) (us.take n)
  | _, _, 0, _ => .nil
  | _, _, _ + 1, .nil => .nil
  | _, _, n + 1, .cons r t => .cons r (Vals.take n t)
theorem Vals.drop : ∀ {xs : List V} {us : List Value} (n : Nat), Vals xs us → Vals (xs.drop n) (us.drop n)
  | _, _, 0, r => r
  | _, _, _ + 1, .nil => .nil
  | _, _, n + 1, .cons _ t => Vals.drop n t
noncomputable def RelO : Option V → Option Value → Prop
  | some v, some u => RelV v u
  | none, none => True
  | _, _ => False
noncomputable def KV {κ : Type} : List (κ × V) → List (κ × Value) → Prop := Paired fun (p : κ × V) (q : κ × Value) => p.1 = q.1 ∧ RelV p.2 q.2

/-- a key of a dict (00_mix): an int or a text -/
noncomputable def kV : Key → V
  | .inl i => .int i
  | .inr x => .str x

/-- what stands at a tracked address -/
inductive HO where
  /-- a list -/
  | lst (xs : List V)
  /-- a tuple (never changes) -/
  | tup (xs : List V)
  /-- a dict whose keys are ints and texts; one whose keys are tuples of ints and texts (the empty one is both) -/
  | dK (kvs : List (Key × V)) | dT (kvs : List (List Key × V))
  /-- a set of ints: its members, its size -/
  | set (S : Int → Bool) (n : Nat)
  /-- an instance of the class at C, its dict at dx, its attributes -/
  | ins (C dx : Addr) (fs : List (Str × V))
  /-- the dict of the instance at x -/
  | own (x : Addr)
  /-- the dict of an exception -/
  | xd (fs : List (Str × V))
  /-- a bound method, f of x -/
  | met (f x : Addr)
  /-- a range object lo, lo + 1, .. below hi -/
  | rng (lo hi : Int)
  /-- a thing that is known to the object (the script; a dict while a loop walks it): read, never written while it is so -/
  | frz (o : Obj) (u : HO)
  /-- a code object's table -/
  | tbl (ps : Array Value)
  /-- any other thing, by what is true of its one object (a def of one's own: SetO a S n := HO.ext fun h => ..) -/
  | ext (φ : Heap → Prop)

noncomputable abbrev Hp := Addr → Option HO
noncomputable def upd (H : Hp) (a : Addr) (o : HO) : Hp := fun b => if b = a then some o else H b
theorem upd_same {H : Hp} {a : Addr} {o : HO} : upd H a o a = some o := by unfold upd; rw [if_pos rfl]
theorem upd_ne {H : Hp} {a b : Addr} {o : HO} (h : b ≠ a) : upd H a o b = H b := by unfold upd; rw [if_neg h]
theorem upd_upd {H : Hp} {a : Addr} {o u : HO} : upd (upd H a o) a u = upd H a u := by
  funext b; unfold upd; split <;> rfl
/-- two objects of different content stand apart -/
theorem ne_of {H : Hp} {a b : Addr} {o u : HO} (h : H a = some o) (h' : H b = some u) (d : o ≠ u) : a ≠ b := by
  intro e; subst e; rw [h] at h'; exact d (Option.some.inj h')
theorem ne_of_none {H : Hp} {a b : Addr} {o : HO} (h : H a = some o) (h' : H b = none) : a ≠ b := by
  intro e; subst e; rw [h] at h'; cases h'

section
variable (P : Program) (w : World)
noncomputable def ObjOk (H : Hp) (h : Heap) (a : Addr) : HO → Prop
  | .lst xs => xs.length ≤ sizeLine ∧ ∃ (its : List Value) (n : Nat), Vals xs its ∧ h.get? a = some { cls := .type "list", data := .seq its.toArray n }
  | .tup xs => xs.length ≤ sizeLine ∧ ∃ its : List Value, Vals xs its ∧ IsTup h a its.toArray
  | .dK kvs => kvs.length ≤ sizeLine ∧ (a == sysModules) = false ∧ ∃ vs, KV kvs vs ∧ h.DictOf (mixKind P w) a vs
  | .dT kvs => kvs.length ≤ sizeLine ∧ (a == sysModules) = false ∧ ∃ xs : List (List Key × Addr × Value),
      Paired (fun (p : List Key × V) (q : List Key × Addr × Value) => p.1 = q.1 ∧ H q.2.1 = some (.tup (p.1.map kV)) ∧ RelV p.2 q.2.2) kvs xs ∧
      ∃ o es ep, h.get? a = some o ∧ o.ExactDict ∧ o.data = .dict es ep ∧ es.toList = xs.map (entryOfKey (tupleKind (mixKind P w))) ∧ (xs.map (·.1)).Nodup
  | .set S n => h.SetOf (intKind P w) a S n
  | .ins C dx fs => H dx = some (.own a) ∧ fs.length ≤ 1000 ∧ dx ≠ a ∧ h.get? a = some (PySem.W.instObj C dx) ∧
      ∃ mA, h.Ns1 dx mA ∧ (∀ f, RelO (fs.lookup f) (mA f)) ∧ PySem.Within mA (fs.map (·.1))
  | .own _ => ∃ o, h.get? a = some o
  | .xd fs => ∃ mA, h.Ns1 a mA ∧ ∀ f, RelO (fs.lookup f) (mA f)
  | .rng lo hi => ∃ t u v, h.get? a = some { cls := .type "range", data := .fields #[.int lo t, .int hi u, .int 1 v] }
  | .frz o u => h.get? a = some o ∧ ObjOk H h a u
  | .tbl ps => h.get? a = some { cls := .none, data := .fields ps }
  | .met f x => h.get? a = some (PySem.W.methodObj (.ref f) (.ref x))
  | .ext φ => φ h ∧ (∃ o, h.get? a = some o) ∧ ∀ h1 h2 : Heap, φ h1 → (∀ o, h1.get? a = some o → h2.get? a = some o) → φ h2
/-- the abstract heap is held -/
noncomputable def HOk (H : Hp) (h : Heap) : Prop := ∀ a o, H a = some o → ObjOk P w H h a o
end

section
variable {P : Program} {w : World} {H H' : Hp} {h h' : Heap} {a : Addr} {o : HO}
theorem ObjOk.lt (x : ObjOk P w H h a o) : a < h.objs.size := by
  cases o with
  | lst xs => obtain ⟨_, _, _, _, e⟩ := x; exact Heap.lt_size e
  | tup xs => obtain ⟨_, _, _, p⟩ := x; exact p.lt
  | dK kvs => obtain ⟨_, _, _, _, o, _, _, e, _⟩ := x; exact Heap.lt_size e
  | dT kvs => obtain ⟨_, _, _, _, o, _, _, e, _⟩ := x; exact Heap.lt_size e
  | set S n => obtain ⟨o, _, _, _, e, _⟩ := x; exact Heap.lt_size e
  | ins C dx fs => obtain ⟨_, _, _, e, _⟩ := x; exact Heap.lt_size e
  | own y => obtain ⟨_, e⟩ := x; exact Heap.lt_size e
  | xd fs => obtain ⟨_, ⟨_, _, _, e, _⟩, _⟩ := x; exact Heap.lt_size e
  | rng lo hi => obtain ⟨_, _, _, e⟩ := x; exact Heap.lt_size e
  | frz ob u => obtain ⟨e, _⟩ := x; exact Heap.lt_size e
  | tbl ps => exact Heap.lt_size (show h.get? a = some _ from x)
  | met f y => exact Heap.lt_size (show h.get? a = some _ from x)
  | ext φ => obtain ⟨_, ⟨_, e⟩, _⟩ := x; exact Heap.lt_size e
theorem Paired.mapP {α β : Type} {F G : α → β → Prop} : ∀ {l₁ : List α} {l₂ : List β}, Paired F l₁ l₂ → (∀ a b, F a b → G a b) → Paired G l₁ l₂
  | _, _, .nil, _ => .nil
  | _, _, .cons r t, f => .cons (f _ _ r) (Paired.mapP t f)
/-- what an object's description leans on: its own object, its own dict, the tuples -/
theorem ObjOk.stay (x : ObjOk P w H h a o) (k : ∀ b u, (b = a ∨ H b = some (.own a)) → h.get? b = some u → h'.get? b = some u)
    (ho : ∀ b, H b = some (.own a) → H' b = some (.own a)) (ht : ∀ b xs, H b = some (.tup xs) → H' b = some (.tup xs)) : ObjOk P w H' h' a o := by
  induction o with
  | lst xs => obtain ⟨z, its, n, r, e⟩ := x; exact ⟨z, its, n, r, k _ _ (.inl rfl) e⟩
  | tup xs => obtain ⟨z, its, r, ob, e, c⟩ := x; exact ⟨z, its, r, ob, k _ _ (.inl rfl) e, c⟩
  | dK kvs => obtain ⟨z, y, vs, r, ob, es, ep, e, c⟩ := x; exact ⟨z, y, vs, r, ob, es, ep, k _ _ (.inl rfl) e, c⟩
  | dT kvs =>
    obtain ⟨z, y, xs, r, ob, es, ep, e, c⟩ := x
    exact ⟨z, y, xs, Paired.mapP r fun p q z => ⟨z.1, ht _ _ z.2.1, z.2.2⟩, ob, es, ep, k _ _ (.inl rfl) e, c⟩
  | set S n => obtain ⟨ob, es, ep, t, e, c⟩ := x; exact ⟨ob, es, ep, t, k _ _ (.inl rfl) e, c⟩
  | ins C dx fs =>
    obtain ⟨d, z, ne, e, mA, ⟨od, es, ep, e2, c⟩, r⟩ := x
    exact ⟨ho _ d, z, ne, k _ _ (.inl rfl) e, mA, ⟨od, es, ep, k _ _ (.inr d) e2, c⟩, r⟩
  | own y => obtain ⟨ob, e⟩ := x; exact ⟨ob, k _ _ (.inl rfl) e⟩
  | xd fs => obtain ⟨mA, ⟨od, es, ep, e, c⟩, r⟩ := x; exact ⟨mA, ⟨od, es, ep, k _ _ (.inl rfl) e, c⟩, r⟩
  | rng lo hi => obtain ⟨t, u, v, e⟩ := x; exact ⟨t, u, v, k _ _ (.inl rfl) e⟩
  | frz ob u ih => obtain ⟨e, q⟩ := x; exact ⟨k _ _ (.inl rfl) e, ih q⟩
  | tbl ps =>
    have e : h.get? a = some { cls := .none, data := .fields ps } := x
    show h'.get? a = some { cls := .none, data := .fields ps }
    exact k a _ (.inl rfl) e
  | met f y =>
    have e : h.get? a = some (PySem.W.methodObj (.ref f) (.ref y)) := x
    show h'.get? a = some (PySem.W.methodObj (.ref f) (.ref y))
    exact k a _ (.inl rfl) e
  | ext φ => obtain ⟨p, ⟨o, e⟩, st⟩ := x; exact ⟨st _ _ p fun o q => k _ _ (.inl rfl) q, ⟨o, k _ _ (.inl rfl) e⟩, st⟩
theorem HOk.lt (x : HOk P w H h) (e : H a = some o) : a < h.objs.size := (x a o e).lt
theorem HOk.fresh (x : HOk P w H h) (e : h.objs.size ≤ a) : H a = none := by
  cases q : H a with
  | none => rfl
  | some u => exact absurd (Nat.lt_of_lt_of_le (x.lt q) e) (Nat.lt_irrefl _)
/-- every object of the heap is kept -/
theorem HOk.kept (x : HOk P w H h) (k : ∀ b u, h.get? b = some u → h'.get? b = some u) : HOk P w H h' := fun a o e =>
  (x a o e).stay (fun b u _ q => k b u q) (fun _ q => q) fun _ _ q => q
/-- a new object is laid and tracked -/
theorem HOk.laid (x : HOk P w H h) (k : ∀ b u, h.get? b = some u → h'.get? b = some u) (hp : h.objs.size ≤ a) (new : ObjOk P w (upd H a o) h' a o) : HOk P w (upd H a o) h' := fun b u e => by
  have hn := x.fresh hp
  by_cases hb : b = a
  · subst hb; rw [upd_same] at e; cases e; exact new
  · rw [upd_ne hb] at e
    exact (x b u e).stay (fun c v _ q => k c v q) (fun c q => by rw [upd_ne (ne_of_none q hn)]; exact q) fun c xs q => by rw [upd_ne (ne_of_none q hn)]; exact q
end

/-- what may be read as u: it is u, or a known u -/
noncomputable def Rd (H : Hp) (a : Addr) (u : HO) : Prop := H a = some u ∨ ∃ o, H a = some (.frz o u)
theorem Rd.ok {P : Program} {w : World} {H : Hp} {h : Heap} {a : Addr} {u : HO} (r : Rd H a u) (x : HOk P w H h) : ObjOk P w H h a u := by
  rcases r with r | ⟨o, r⟩
  · exact x a u r
  · obtain ⟨_, q⟩ := x a _ r
    exact q
/-- what may be written -/
noncomputable def Mut : Option HO → Prop
  | some (.lst _) => True
  | some (.dK _) => True
  | some (.dT _) => True
  | some (.set _ _) => True
  | some (.ins _ _ _) => True
  | some (.ext _) => True
  | _ => False
section
variable {P : Program} {w : World} {H : Hp} {h h' : Heap} {x e : Addr} {o' : HO}
/-- the object at e is changed: x itself, or the dict of the instance x -/
theorem HOk.write (ok : HOk P w H h) (mu : Mut (H x)) (he : e = x ∨ H e = some (.own x)) (k : ∀ b u, b ≠ e → h.get? b = some u → h'.get? b = some u) (heo : ∃ u, h'.get? e = some u)
    (new : ObjOk P w (upd H x o') h' x o') : HOk P w (upd H x o') h' := fun b u q => by
  have nown : ∀ c y, H c = some (.own y) → c ≠ x := fun c y r z => by subst z; rw [r] at mu; exact mu
  have ntup : ∀ c xs, H c = some (.tup xs) → c ≠ x := fun c xs r z => by subst z; rw [r] at mu; exact mu
  by_cases hb : b = x
  · subst hb; rw [upd_same] at q; cases q; exact new
  · rw [upd_ne hb] at q
    by_cases hbe : b = e
    · have q' : H b = some (.own x) := by
        rcases he with z | z
        · exact absurd (hbe.trans z) hb
        · rw [hbe]; exact z
      rw [q] at q'; cases q'
      obtain ⟨v, hv⟩ := heo
      exact ⟨v, by rw [hbe]; exact hv⟩
    · refine (ok b u q).stay (fun c v hc r => k c v ?_ r) (fun c r => by rw [upd_ne (nown c b r)]; exact r) fun c xs r => by rw [upd_ne (ntup c xs r)]; exact r
      rcases hc with rfl | hc
      · exact hbe
      · rintro rfl
        rcases he with z | z
        · exact nown c b hc z
        · rw [hc] at z; cases z; exact hb rfl
end

/-! ### kept unless tracked; of the frames at fs (the callers') the slots may change (an exception that passes writes there); of the records at ex (iterators) nothing is said -/
structure Un (fs ex : List Addr) (H H' : Hp) (h h' : Heap) : Prop where
  keep : ∀ b o, h.get? b = some o → H b = none → b ∉ fs → b ∉ ex → h'.get? b = some o
  slot : ∀ b o, h.get? b = some o → H b = none → b ∈ fs → b ∉ ex → ∃ sl, h'.get? b = some { o with slots := sl }
  free : ∀ b o, h.get? b = some o → H b = none → b ∉ ex → H' b = none
  there : ∀ b o, h.get? b = some o → b ∉ ex → ∃ o', h'.get? b = some o'
  tups : ∀ b xs, H b = some (.tup xs) → H' b = some (.tup xs)
  frzs : ∀ b o u, H b = some (.frz o u) → H' b = some (.frz o u)
  tbls : ∀ b ps, H b = some (.tbl ps) → ∃ more, H' b = some (.tbl (ps ++ more))
section
variable {fs fs' ex ex' : List Addr} {H H1 H2 : Hp} {h h1 h2 h' : Heap} {a x e : Addr} {o : HO}
theorem Un.any (u : Un fs ex H H1 h h1) {b : Addr} {ob : Obj} (q : h.get? b = some ob) (n : H b = none) (hx : b ∉ ex) : ∃ sl, h1.get? b = some { ob with slots := sl } := by
  by_cases hb : b ∈ fs
  · exact u.slot b ob q n hb hx
  · exact ⟨ob.slots, u.keep b ob q n hb hx⟩
theorem Un.kept (k : ∀ b u, h.get? b = some u → h'.get? b = some u) : Un fs ex H H h h' :=
  ⟨fun b ob q _ _ _ => k b ob q, fun b ob q _ _ _ => ⟨ob.slots, k b ob q⟩, fun _ _ _ n _ => n, fun b ob q _ => ⟨ob, k b ob q⟩, fun _ _ q => q, fun _ _ _ q => q, fun _ ps q => ⟨#[], by rw [q]; simp⟩⟩
theorem Un.refl : Un fs ex H H h h := Un.kept fun _ _ q => q
theorem Un.laid (k : ∀ b u, h.get? b = some u → h'.get? b = some u) (hp : h.objs.size ≤ a) (hn : H a = none) : Un fs ex H (upd H a o) h h' where
  keep := fun b u q _ _ _ => k b u q
  slot := fun b u q _ _ _ => ⟨u.slots, k b u q⟩
  free := fun b u q n _ => by rw [upd_ne (Nat.ne_of_lt (Nat.lt_of_lt_of_le (Heap.lt_size q) hp))]; exact n
  there := fun b u q _ => ⟨u, k b u q⟩
  tups := fun b xs q => by rw [upd_ne (ne_of_none q hn)]; exact q
  frzs := fun b u xs q => by rw [upd_ne (ne_of_none q hn)]; exact q
  tbls := fun b ps q => ⟨#[], by rw [upd_ne (ne_of_none q hn), q]; simp⟩
theorem Un.write (mu : Mut (H x)) (he : e = x ∨ H e = some (.own x)) (k : ∀ b u, b ≠ e → h.get? b = some u → h'.get? b = some u) (heo : ∃ u, h'.get? e = some u) : Un fs ex H (upd H x o) h h' := by
  have hx : ∀ b, H b = none → b ≠ x := fun b n z => by subst z; rw [n] at mu; exact mu
  have hb : ∀ b, H b = none → b ≠ e := fun b n z => by
    subst z
    rcases he with r | r
    · exact hx b n r
    · rw [n] at r; cases r
  have hm : ∀ b u, H b = some u → ¬ Mut (some u) → b ≠ x := fun b u q nm z => by subst z; rw [q] at mu; exact nm mu
  refine ⟨fun b u q n _ _ => k b u (hb b n) q, fun b u q n _ _ => ⟨u.slots, k b u (hb b n) q⟩, fun b u q n _ => by rw [upd_ne (hx b n)]; exact n, fun b u q _ => ?_,
    fun b xs q => by rw [upd_ne (hm b _ q fun z => z)]; exact q, fun b u xs q => by rw [upd_ne (hm b _ q fun z => z)]; exact q, fun b ps q => ⟨#[], by rw [upd_ne (hm b _ q fun z => z), q]; simp⟩⟩
  by_cases hbe : b = e
  · subst hbe; exact heo
  · exact ⟨u, k b u hbe q⟩
end

/-! ### the heap without what is tracked -/
noncomputable def trk (h : Heap) (H : Hp) : List Addr := (List.range h.objs.size).filter fun a => (H a).isSome
noncomputable def hidT (h : Heap) (H : Hp) : Heap := PySem.W.hideAll h (trk h H)
theorem hidT_size (h : Heap) (H : Hp) : (hidT h H).objs.size = h.objs.size := PySem.W.hideAll_size _ _
theorem hidT_get {h : Heap} {H : Hp} {b : Addr} {o : Obj} (e : h.get? b = some o) (n : H b = none) : (hidT h H).get? b = some o :=
  PySem.W.hideAll_get _ e fun hm => by
    have q : (H b).isSome = true := (List.mem_filter.mp hm).2
    rw [n] at q; simp at q
theorem of_hidT {h : Heap} {H : Hp} {b : Addr} {o : Obj} (e : (hidT h H).get? b = some o) : h.get? b = some o ∧ H b = none := by
  have e' : h.get? b = some o := PySem.W.of_hideAll (trk h H) e
  refine ⟨e', ?_⟩
  cases q : H b with
  | none => rfl
  | some x =>
    have hm : b ∈ trk h H := List.mem_filter.mpr ⟨List.mem_range.mpr (Heap.lt_size e'), by simp [q]⟩
    have z : (hidT h H).get? b = none := PySem.W.hideAll_none (trk h H) hm
    rw [z] at e; cases e

/-! ### OpenK's ledger, filled with every new object but one -/
end L2

namespace L2
open PySem PySem.Spec PyProof.Rows

/-- the module's facts, over the base: the heap at the law's entry without what is tracked there -/
structure Mod (K : PySem.W.Frag) (mg : Str → Option Value) (base : Heap) : Prop where
  kin : K.In base
  glob : base.Ns mainGlobals mg
  blt : ∃ mb, base.Ns builtinsNs mb ∧ ∀ x : Str, x ≠ "__name__" → mb x = bootBuiltins x
  nolimit : base.NoLimit

/-- the context: a def's body (or a comprehension's block) running. base: fixed through the whole law; s₀, H₀: the entry; outer: the frames whose slots others may change (a def's callers); stack: all frames that run;
   ex: iterators that were made ahead of the entry and are walked here (a comprehension's); fn: the names whose cells were made at the entry (a def: all; a comprehension's block: its own); calm: not within an except suite; pn: pins that every state bears; xe: what is wanted of an exception that leaves the code -/
structure Cx where
  prog : Program
  w : World
  K : PySem.W.Frag
  mg : Str → Option Value
  base : Heap
  A : Around
  N : List Str
  s₀ : Shared
  H₀ : Hp
  env : Env
  outer : List Env
  stack : List Env
  ex : List Addr
  fn : Str → Bool
  calm : Bool
  pn : List (Addr × Obj)
  xe : Value → Shared → Prop
/-- the callers' frames -/
noncomputable def frs (l : List Env) : List Addr := l.filterMap (·.frame)
noncomputable abbrev Cx.fs (X : Cx) : List Addr := frs X.outer

noncomputable def Vis (sc : Scope) (x : Str) : Prop := sc.names.lookup x = some .local ∨ sc.names.lookup x = some .cell ∨ sc.names.lookup x = some .free
noncomputable def Loc (sc : Scope) (x : Str) : Prop := sc.names.lookup x = some .local ∨ sc.names.lookup x = some .cell
noncomputable def Look (env : Env) (h : Heap) (m : Str → Option Value) (x : Str) (u : Value) : Prop :=
  (env.kindOf x = some .local ∧ m x = some u) ∨ ((env.kindOf x = some .cell ∨ env.kindOf x = some .free) ∧ ∃ c, env.cells.lookup x = some c ∧ h.IsCell c (some u))

structure Cx.Ok (X : Cx) : Prop where
  mod : Mod X.K X.mg X.base
  kind : X.env.scope.kind = .function
  glob : X.env.globals = mainGlobals
  blt : X.env.builtins = builtinsNs
  above : X.s₀.heap.objs.size ≤ X.env.locals
  inj : ∀ x y c, X.env.cells.lookup x = some c → X.env.cells.lookup y = some c → x = y
  has : ∀ x, (X.env.kindOf x = some .cell ∨ X.env.kindOf x = some .free) → ∃ c, X.env.cells.lookup x = some c
  cab : ∀ x c, X.fn x = true → X.env.cells.lookup x = some c → X.s₀.heap.objs.size ≤ c
  hd : X.calm = true → X.A.handled = none
  frames : X.A.frames = some X.stack
  stk : X.stack = X.outer ∨ (X.stack = X.env :: X.outer ∧ X.env.frame = some X.env.locals)
  exf : ∀ b ∈ X.ex, b ≠ X.env.locals ∧ ∀ x c, X.env.cells.lookup x = some c → c ≠ b
  bs : ∀ b o, X.base.get? b = some o → X.s₀.heap.get? b = some o ∧ X.H₀ b = none
  bsz : X.base.objs.size ≤ X.s₀.heap.objs.size
  noex : ∀ b o, X.base.get? b = some o → b ∉ X.ex
  exfs : ∀ b ∈ X.ex, b ∉ X.fs
  funs : X.s₀.heap.FunFrames X.base X.outer
  frf : ∀ b ∈ X.fs, X.H₀ b = none

structure Inv (X : Cx) (pins : List (Addr × Obj)) (σ : List (Option V)) (H : Hp) (s : Shared) : Prop where
  ok : X.Ok
  os : s.os = X.s₀.os
  bare : AllBare s.gens
  base : Un X.fs X.ex X.H₀ H X.s₀.heap s.heap
  loc : ∃ m, s.heap.Ns X.env.locals m ∧ ∀ (i : Nat) (x : Str) (v : V), X.N[i]? = some x → σ[i]? = some (some v) → Vis X.env.scope x → ∃ u, RelV v u ∧ Look X.env s.heap m x u
  cell : ∀ x c, X.env.cells.lookup x = some c → ∃ v, s.heap.IsCell c v
  free : H X.env.locals = none
  freeC : ∀ x c, X.env.cells.lookup x = some c → H c = none
  pin : ∀ p ∈ X.pn ++ pins, s.heap.get? p.1 = some p.2 ∧ H p.1 = none ∧ p.1 ≠ X.env.locals ∧ p.1 ∉ X.fs ∧ ∀ v, p.2.data ≠ .cell v
  hok : HOk X.prog X.w H s.heap
  len : σ.length = X.N.length

section
variable {X : Cx} {pins : List (Addr × Obj)} {σ : List (Option V)} {H H' : Hp} {s : Shared} {h' : Heap}

theorem Cx.Ok.nofr (ok : X.Ok) {b : Addr} {o : Obj} (e : X.base.get? b = some o) : b ∉ X.fs := fun hb => by
  have := (ok.funs.mem hb).1
  rw [e] at this; cases this
theorem Inv.bs (I : Inv X pins σ H s) : ∀ b o, X.base.get? b = some o → s.heap.get? b = some o ∧ H b = none := fun b o e =>
  ⟨I.base.keep b o (I.ok.bs b o e).1 (I.ok.bs b o e).2 (I.ok.nofr e) (I.ok.noex b o e), I.base.free b o (I.ok.bs b o e).1 (I.ok.bs b o e).2 (I.ok.noex b o e)⟩
theorem Inv.bk (I : Inv X pins σ H s) : ∀ b o, X.base.get? b = some o → s.heap.get? b = some o := fun b o e => (I.bs b o e).1
theorem Inv.mod (I : Inv X pins σ H s) : Mod X.K X.mg X.base := I.ok.mod
theorem Inv.kIn (I : Inv X pins σ H s) : X.K.In s.heap := I.ok.mod.kin.keeps I.bk
theorem Inv.lt (I : Inv X pins σ H s) : X.env.locals < s.heap.objs.size := let ⟨_, hn, _⟩ := I.loc; hn.lt
theorem Inv.sz (I : Inv X pins σ H s) : X.s₀.heap.objs.size ≤ s.heap.objs.size := Nat.le_trans I.ok.above (Nat.le_of_lt I.lt)
theorem Inv.nofs (I : Inv X pins σ H s) {a : Addr} (h : s.heap.objs.size ≤ a) : a ∉ X.fs := fun hb => by
  obtain ⟨_, o, ho, _⟩ := I.ok.funs.mem hb
  exact absurd (Nat.lt_of_lt_of_le (Heap.lt_size ho) (Nat.le_trans I.sz h)) (Nat.lt_irrefl _)
theorem Inv.cne (I : Inv X pins σ H s) : ∀ x c, X.env.cells.lookup x = some c → c ≠ X.env.locals := fun x c e z => by
  obtain ⟨v, o, ho, hd⟩ := I.cell x c e
  obtain ⟨m, ⟨o', es, ep, ho', hd', _⟩, _⟩ := I.loc
  rw [z, ho'] at ho; cases ho; rw [hd'] at hd; cases hd
theorem Inv.funs (I : Inv X pins σ H s) : s.heap.FunFrames X.base X.outer := by
  have all : ∀ (l : List Env), (∀ b ∈ frs l, b ∈ X.fs) → X.s₀.heap.FunFrames X.base l → s.heap.FunFrames X.base l := by
    intro l
    induction l with
    | nil => intro _ _; trivial
    | cons env r ih =>
      intro hs hl
      obtain ⟨hk, ⟨L, o, hf, hn, ho, hd⟩, hr⟩ := hl
      have hL : L ∈ X.fs := hs L (by unfold frs; rw [List.filterMap_cons, hf]; exact List.mem_cons_self)
      obtain ⟨sl, e⟩ := I.base.slot L o ho (I.ok.frf L hL) hL fun z => I.ok.exfs L z hL
      exact ⟨hk, ⟨L, _, hf, hn, e, hd⟩, ih (fun b hb => hs b (by unfold frs; rw [List.filterMap_cons, hf]; exact List.mem_cons_of_mem _ hb)) hr⟩
  exact all X.outer (fun _ hb => hb) I.ok.funs

/-- the frames that run, for a call -/
theorem Inv.stack (I : Inv X pins σ H s) : s.heap.FunFrames X.base X.stack := by
  rcases I.ok.stk with e | ⟨e, hf⟩
  · rw [e]; exact I.funs
  · rw [e]
    obtain ⟨m, hn, _⟩ := I.loc
    refine .cons (by rw [I.ok.kind]; decide) hf hn ?_ I.funs
    exact Heap.get?_none_of_le (Nat.le_trans I.ok.bsz I.ok.above)
theorem Inv.stkSub (I : Inv X pins σ H s) : ∀ b ∈ frs X.stack, b ∈ X.env.locals :: X.fs := fun b hb => by
  rcases I.ok.stk with e | ⟨e, hf⟩
  · rw [e] at hb; exact List.mem_cons_of_mem _ hb
  · rw [e] at hb
    unfold frs at hb
    rw [List.filterMap_cons, hf] at hb
    exact hb
theorem Inv.stkFree (I : Inv X pins σ H s) : ∀ b ∈ frs X.stack, H b = none := fun b hb => by
  rcases List.mem_cons.mp (I.stkSub b hb) with e | hb
  · rw [e]; exact I.free
  · obtain ⟨_, o, ho, _⟩ := I.ok.funs.mem hb
    exact I.base.free b o ho (I.ok.frf b hb) fun z => I.ok.exfs b z hb

/-- THE STEP: the untracked objects but the frame and the records at ch are kept (the callers' frames up to slots), the frame's map is kept, the new abstract heap is held -/
theorem Inv.step {g' : Array GenState} {t' : Nat} {d' : Drawn} {ch : List Addr} (I : Inv X pins σ H s)
    (hch : ∀ b ∈ ch, (b ∈ X.ex ∨ X.s₀.heap.objs.size ≤ b) ∧ b ≠ X.env.locals ∧ (∀ x c, X.env.cells.lookup x = some c → c ≠ b) ∧ ∀ p ∈ X.pn ++ pins, p.1 ≠ b)
    (keep : ∀ b o, b ≠ X.env.locals → b ∉ X.fs → b ∉ ch → s.heap.get? b = some o → H b = none → h'.get? b = some o)
    (slot : ∀ b o, b ≠ X.env.locals → b ∈ X.fs → b ∉ ch → s.heap.get? b = some o → H b = none → ∃ sl, h'.get? b = some { o with slots := sl }) (free : ∀ b o, b ∉ ch → s.heap.get? b = some o → H b = none → H' b = none)
    (there : ∀ b o, b ∉ ch → s.heap.get? b = some o → ∃ o', h'.get? b = some o')
    (tups : ∀ b xs, H b = some (.tup xs) → H' b = some (.tup xs)) (frzs : ∀ b o u, H b = some (.frz o u) → H' b = some (.frz o u)) (tbls : ∀ b ps, H b = some (.tbl ps) → ∃ more, H' b = some (.tbl (ps ++ more)))
    (ns : ∀ m, s.heap.Ns X.env.locals m → h'.Ns X.env.locals m) (hok : HOk X.prog X.w H' h') (hg : AllBare g') :
    Inv X pins σ H' { s with heap := h', gens := g', drawn := d', toks := t' } := by
  have neL : ∀ b o, X.s₀.heap.get? b = some o → b ≠ X.env.locals := fun b o e => Nat.ne_of_lt (Nat.lt_of_lt_of_le (Heap.lt_size e) I.ok.above)
  have neC : ∀ b o, X.s₀.heap.get? b = some o → b ∉ X.ex → b ∉ ch := fun b o e hx hb => by
    rcases (hch b hb).1 with z | z
    · exact hx z
    · exact absurd (Nat.lt_of_lt_of_le (Heap.lt_size e) z) (Nat.lt_irrefl _)
  have cellK : ∀ x c, X.env.cells.lookup x = some c → ∀ v, s.heap.IsCell c v → h'.IsCell c v := fun x c e v ⟨o, ho, hd⟩ => by
    have nch : c ∉ ch := fun z => (hch c z).2.2.1 x c e rfl
    by_cases hc : c ∈ X.fs
    · obtain ⟨sl, q⟩ := slot c o (I.cne x c e) hc nch ho (I.freeC x c e)
      exact ⟨_, q, hd⟩
    · exact ⟨o, keep c o (I.cne x c e) hc nch ho (I.freeC x c e), hd⟩
  refine ⟨I.ok, I.os, hg, ⟨fun b o e n hb hx => ?_, fun b o e n hb hx => ?_, fun b o e n hx => ?_, fun b o e hx => ?_, fun b xs e => tups b xs (I.base.tups b xs e), fun b o xs e => frzs b o xs (I.base.frzs b o xs e), fun b ps e => ?_⟩, ?_, fun x c e => ?_, ?_, fun x c e => ?_, fun p hp => ?_, hok, I.len⟩
  · exact keep b o (neL b o e) hb (neC b o e hx) (I.base.keep b o e n hb hx) (I.base.free b o e n hx)
  · obtain ⟨sl, e1⟩ := I.base.slot b o e n hb hx
    obtain ⟨sl', e2⟩ := slot b _ (neL b o e) hb (neC b o e hx) e1 (I.base.free b o e n hx)
    exact ⟨sl', e2⟩
  · obtain ⟨o', e1⟩ := I.base.there b o e hx
    exact free b o' (neC b o e hx) e1 (I.base.free b o e n hx)
  · obtain ⟨o', e1⟩ := I.base.there b o e hx
    exact there b o' (neC b o e hx) e1
  · obtain ⟨m1, e1⟩ := I.base.tbls b ps e
    obtain ⟨m2, e2⟩ := tbls b _ e1
    exact ⟨m1 ++ m2, by rw [e2, Array.append_assoc]⟩
  · obtain ⟨m, hn, hl⟩ := I.loc
    refine ⟨m, ns m hn, fun i x v e1 e2 e3 => ?_⟩
    obtain ⟨u, r, l⟩ := hl i x v e1 e2 e3
    refine ⟨u, r, ?_⟩
    rcases l with l | ⟨k, c, e, z⟩
    · exact .inl l
    · exact .inr ⟨k, c, e, cellK x c e _ z⟩
  · obtain ⟨v, z⟩ := I.cell x c e
    exact ⟨v, cellK x c e v z⟩
  · obtain ⟨m, ⟨o, _, _, ho, _⟩, _⟩ := I.loc
    exact free _ o (fun z => (hch _ z).2.1 rfl) ho I.free
  · obtain ⟨v, o, ho, hd⟩ := I.cell x c e
    exact free c o (fun z => (hch c z).2.2.1 x c e rfl) ho (I.freeC x c e)
  · obtain ⟨e, n, ne, nf, d⟩ := I.pin p hp
    have nch : p.1 ∉ ch := fun z => (hch p.1 z).2.2.2 p hp rfl
    exact ⟨keep p.1 p.2 ne nf nch e n, free p.1 p.2 nch e n, ne, nf, d⟩
/-- .. where the frame's own object is kept too -/
theorem Inv.un {t' : Nat} (I : Inv X pins σ H s) (u : Un X.fs [] H H' s.heap h') (hok : HOk X.prog X.w H' h') : Inv X pins σ H' { s with heap := h', toks := t' } := by
  obtain ⟨m, ⟨o, es, ep, ho, r⟩, _⟩ := id I.loc
  obtain ⟨sl, hL⟩ := u.any ho I.free (by simp)
  exact I.step (g' := s.gens) (d' := s.drawn) (ch := []) (fun _ z => nomatch z) (fun b o _ hb _ e n => u.keep b o e n hb (by simp)) (fun b o _ hb _ e n => u.slot b o e n hb (by simp)) (fun b o _ e n => u.free b o e n (by simp)) (fun b o _ e => u.there b o e (by simp)) u.tups u.frzs u.tbls (fun m' hm => by
    obtain ⟨o', es', ep', ho', r'⟩ := hm
    rw [ho] at ho'; cases ho'
    exact ⟨_, es', ep', hL, r'⟩) hok I.bare
/-- behind a call (or a comprehension's block): the slots of this frame may have changed too, the records at ch may have turned -/
theorem Inv.call {g' : Array GenState} {t' : Nat} {d' : Drawn} {ch : List Addr} (I : Inv X pins σ H s) (u : Un (frs X.stack) ch H H' s.heap h') (hok : HOk X.prog X.w H' h') (hg : AllBare g')
    (hch : ∀ b ∈ ch, (b ∈ X.ex ∨ X.s₀.heap.objs.size ≤ b) ∧ b ≠ X.env.locals ∧ (∀ x c, X.env.cells.lookup x = some c → c ≠ b) ∧ ∀ p ∈ X.pn ++ pins, p.1 ≠ b) :
    Inv X pins σ H' { s with heap := h', gens := g', drawn := d', toks := t' } := by
  obtain ⟨m, ⟨o, es, ep, ho, r⟩, _⟩ := id I.loc
  obtain ⟨sl, hL⟩ := u.any ho I.free fun z => (hch _ z).2.1 rfl
  exact I.step (ch := ch) hch (fun b o hL hb hc e n => u.keep b o e n (fun z => (List.mem_cons.mp (I.stkSub b z)).elim hL hb) hc) (fun b o _ _ hc e n => u.any e n hc) (fun b o hc e n => u.free b o e n hc) (fun b o hc e => u.there b o e hc) u.tups u.frzs u.tbls (fun m' hm => by
    obtain ⟨o', es', ep', ho', r'⟩ := hm
    rw [ho] at ho'; cases ho'
    exact ⟨_, es', ep', hL, r'⟩) hok hg
/-- an untracked record of ours (an iterator) has turned -/
theorem Inv.turned {t' : Nat} {it : Addr} (I : Inv X pins σ H s) (k : ∀ b o, b ≠ it → s.heap.get? b = some o → h'.get? b = some o) (hn : H it = none) (hL : it ≠ X.env.locals)
    (h1 : it ∈ X.ex ∨ X.s₀.heap.objs.size ≤ it) (h2 : ∀ x c, X.env.cells.lookup x = some c → c ≠ it) (h3 : ∀ p ∈ X.pn ++ pins, p.1 ≠ it) : Inv X pins σ H { s with heap := h', toks := t' } := by
  have nit : ∀ b u, H b = some u → b ≠ it := fun b u e z => by rw [z, hn] at e; cases e
  refine I.step (g' := s.gens) (d' := s.drawn) (ch := [it]) (fun b hb => ?_) (fun b o _ _ hc e _ => k b o (fun z => hc (by simp [z])) e) (fun b o _ _ hc e _ => ⟨o.slots, k b o (fun z => hc (by simp [z])) e⟩) (fun _ _ _ _ n => n)
    (fun b o hc e => ⟨o, k b o (fun z => hc (by simp [z])) e⟩) (fun _ _ e => e) (fun _ _ _ e => e) (fun b ps e => ⟨#[], by rw [e]; simp⟩) (fun m hm => ?_) (fun b u e => ?_) I.bare
  · have e : b = it := by simpa using hb
    subst e
    exact ⟨h1, hL, h2, h3⟩
  · obtain ⟨o, es, ep, ho, r⟩ := hm
    exact ⟨o, es, ep, k _ o (Ne.symm hL) ho, r⟩
  · refine (I.hok b u e).stay (fun c v hc q => k c v ?_ q) (fun _ q => q) fun _ _ q => q
    rcases hc with z | z
    · rw [z]; exact nit b u e
    · exact nit c _ z
theorem Inv.tok (I : Inv X pins σ H s) (t : Nat) : Inv X pins σ H { s with toks := t } := I.un (h' := s.heap) (t' := t) Un.refl I.hok
/-- all objects kept -/
theorem Inv.kept {t' : Nat} (I : Inv X pins σ H s) (k : ∀ b u, s.heap.get? b = some u → h'.get? b = some u) : Inv X pins σ H { s with heap := h', toks := t' } := I.un (Un.kept k) (I.hok.kept k)
/-- a new object laid and tracked -/
theorem Inv.laid {a : Addr} {o : HO} {t' : Nat} (I : Inv X pins σ H s) (k : ∀ b u, s.heap.get? b = some u → h'.get? b = some u) (hp : s.heap.objs.size ≤ a) (new : ObjOk X.prog X.w (upd H a o) h' a o) :
    Inv X pins σ (upd H a o) { s with heap := h', toks := t' } := I.un (Un.laid k hp (I.hok.fresh hp)) (I.hok.laid k hp new)
/-- an object written -/
theorem Inv.write {x e : Addr} {o : HO} {t' : Nat} (I : Inv X pins σ H s) (mu : Mut (H x)) (he : e = x ∨ H e = some (.own x)) (k : ∀ b u, b ≠ e → s.heap.get? b = some u → h'.get? b = some u) (heo : ∃ u, h'.get? e = some u)
    (new : ObjOk X.prog X.w (upd H x o) h' x o) : Inv X pins σ (upd H x o) { s with heap := h', toks := t' } := I.un (Un.write mu he k heo) (I.hok.write mu he k heo new)
/-- forgetting slots, pins -/
theorem Inv.weak {σ' : List (Option V)} (I : Inv X pins σ H s) (hl : σ'.length = σ.length) (w : ∀ (i : Nat) v, σ'[i]? = some (some v) → σ[i]? = some (some v)) : Inv X pins σ' H s :=
  ⟨I.ok, I.os, I.bare, I.base, let ⟨m, hn, hl'⟩ := I.loc; ⟨m, hn, fun i x v e1 e2 e3 => hl' i x v e1 (w i v e2) e3⟩, I.cell, I.free, I.freeC, I.pin, I.hok, hl.trans I.len⟩
theorem Inv.pins_of {pins' : List (Addr × Obj)} (I : Inv X pins σ H s) (h : ∀ p ∈ pins', s.heap.get? p.1 = some p.2 ∧ H p.1 = none ∧ p.1 ≠ X.env.locals ∧ p.1 ∉ X.fs ∧ ∀ v, p.2.data ≠ .cell v) : Inv X pins' σ H s :=
  ⟨I.ok, I.os, I.bare, I.base, I.loc, I.cell, I.free, I.freeC, fun p hp => (List.mem_append.mp hp).elim (fun z => I.pin p (List.mem_append_left _ z)) (h p), I.hok, I.len⟩

theorem nodup_ix {N : List Str} (hN : N.Nodup) {i j : Nat} {x : Str} (a : N[i]? = some x) (b : N[j]? = some x) : i = j := by
  obtain ⟨h1, e1⟩ := List.getElem?_eq_some_iff.mp a
  obtain ⟨h2, e2⟩ := List.getElem?_eq_some_iff.mp b
  exact (List.getElem_inj hN).mp (e1.trans e2.symm)

/-- a name is stored; what changed -/
theorem store_ok2 {M : Model} {A : Around} {E : Value → Shared → Prop} {i : Nat} {x : Str} {v : V} {u : Value} {Q : Unit → Shared → Prop} (I : Inv X pins σ H s) (hN : X.N.Nodup) (hi : X.N[i]? = some x) (hx : Loc X.env.scope x) (r : RelV v u)
    (h : ∀ s', Inv X pins (σ.set i (some v)) H s' → (∃ a, Heap.SameBut a s.heap s'.heap ∧ (a = X.env.locals ∨ X.env.cells.lookup x = some a)) → Q () s') (hf : X.fn x = true ∨ X.env.scope.names.lookup x = some .local := by first | exact .inl rfl | exact .inr rfl | assumption) : wpAny M A (storeName X.env x u) Q E s := by
  obtain ⟨m, hn, hl⟩ := id I.loc
  have hcls : (X.env.scope.kind == .class || (X.env.scope.kind == .module && X.env.locals != X.env.globals)) = false := by rw [I.ok.kind]; rfl
  have hiσ : i < σ.length := by rw [I.len]; exact (List.getElem?_eq_some_iff.mp hi).1
  have cne := I.cne
  have tracked : ∀ {a : Addr} {h' : Heap}, (∃ o, s.heap.get? a = some o ∧ H a = none) → Heap.SameBut a s.heap h' → HOk X.prog X.w H h' := fun {a h'} ha hs b ob e => by
    obtain ⟨_, _, hfree⟩ := ha
    refine (I.hok b ob e).stay (fun c w' hc q => (hs.2 c ?_).trans q) (fun _ q => q) fun _ _ q => q
    rintro rfl
    rcases hc with rfl | hc
    · rw [hfree] at e; cases e
    · rw [hfree] at hc; cases hc
  rcases hx with hk | hk
  · refine wpAny_storeName_local hk hn (fun h' hn' hs => ?_) hcls
    obtain ⟨oL, _, _, hoL, _⟩ := id hn
    refine h _ ⟨I.ok, I.os, I.bare, ⟨fun b o e n hb hx => ?_, fun b o e n hb hx => ?_, I.base.free, fun b o e hx => ?_, I.base.tups, I.base.frzs, I.base.tbls⟩, ⟨_, hn', fun j y v' e1 e2 e3 => ?_⟩, fun y c e => ?_, I.free, I.freeC, fun p hp => ?_, tracked ⟨oL, hoL, I.free⟩ hs, by simpa using I.len⟩ ⟨_, hs, .inl rfl⟩
    · exact (hs.2 b (Nat.ne_of_lt (Nat.lt_of_lt_of_le (Heap.lt_size e) I.ok.above))).trans (I.base.keep b o e n hb hx)
    · obtain ⟨sl, e1⟩ := I.base.slot b o e n hb hx
      exact ⟨sl, (hs.2 b (Nat.ne_of_lt (Nat.lt_of_lt_of_le (Heap.lt_size e) I.ok.above))).trans e1⟩
    · obtain ⟨o', e1⟩ := I.base.there b o e hx
      exact ⟨o', (hs.2 b (Nat.ne_of_lt (Nat.lt_of_lt_of_le (Heap.lt_size e) I.ok.above))).trans e1⟩
    · by_cases hj : j = i
      · subst hj
        rw [hi] at e1; cases e1
        rw [List.getElem?_set_self hiσ] at e2
        cases e2
        exact ⟨u, r, .inl ⟨hk, by simp⟩⟩
      · rw [List.getElem?_set_ne (Ne.symm hj)] at e2
        obtain ⟨u', r', q⟩ := hl j y v' e1 e2 e3
        refine ⟨u', r', ?_⟩
        rcases q with ⟨k, e⟩ | ⟨k, c, e, z⟩
        · refine .inl ⟨k, ?_⟩
          have : y ≠ x := fun e => hj (nodup_ix hN e1 (e ▸ hi))
          simp [this, e]
        · exact .inr ⟨k, c, e, z.sameBut hs (cne y c e)⟩
    · obtain ⟨w', z⟩ := I.cell y c e
      exact ⟨w', z.sameBut hs (cne y c e)⟩
    · obtain ⟨e, n, ne, nf, d⟩ := I.pin p hp
      exact ⟨(hs.2 p.1 ne).trans e, n, ne, nf, d⟩
  · have hfn : X.fn x = true := by
      rcases hf with z | z
      · exact z
      · rw [z] at hk; cases hk
    obtain ⟨c, hc⟩ := I.ok.has x (.inl hk)
    obtain ⟨w', z⟩ := I.cell x c hc
    refine wpAny_storeName_cell I.ok.kind hk hc z (fun h' hc' hs => ?_)
    obtain ⟨oc, hoc, hocd⟩ := id z
    refine h { s with heap := h' } ⟨I.ok, I.os, I.bare, ⟨fun b o e n hb hx => ?_, fun b o e n hb hx => ?_, I.base.free, fun b o e hx => ?_, I.base.tups, I.base.frzs, I.base.tbls⟩, ⟨m, hn.sameBut hs (Ne.symm (cne x c hc)), fun j y v' e1 e2 e3 => ?_⟩, fun y c' e => ?_, I.free, I.freeC, fun p hp => ?_, tracked ⟨oc, hoc, I.freeC x c hc⟩ hs, by simpa using I.len⟩ ⟨c, hs, .inr hc⟩
    · exact (hs.2 b (Nat.ne_of_lt (Nat.lt_of_lt_of_le (Heap.lt_size e) (I.ok.cab x c hfn hc)))).trans (I.base.keep b o e n hb hx)
    · obtain ⟨sl, e1⟩ := I.base.slot b o e n hb hx
      exact ⟨sl, (hs.2 b (Nat.ne_of_lt (Nat.lt_of_lt_of_le (Heap.lt_size e) (I.ok.cab x c hfn hc)))).trans e1⟩
    · obtain ⟨o', e1⟩ := I.base.there b o e hx
      exact ⟨o', (hs.2 b (Nat.ne_of_lt (Nat.lt_of_lt_of_le (Heap.lt_size e) (I.ok.cab x c hfn hc)))).trans e1⟩
    · by_cases hj : j = i
      · subst hj
        rw [hi] at e1; cases e1
        rw [List.getElem?_set_self hiσ] at e2
        cases e2
        exact ⟨u, r, .inr ⟨.inl hk, c, hc, hc'⟩⟩
      · rw [List.getElem?_set_ne (Ne.symm hj)] at e2
        obtain ⟨u', r', q⟩ := hl j y v' e1 e2 e3
        refine ⟨u', r', ?_⟩
        rcases q with q | ⟨k, c', e, z'⟩
        · exact .inl q
        · refine .inr ⟨k, c', e, z'.sameBut hs ?_⟩
          rintro rfl
          exact hj (nodup_ix hN e1 (I.ok.inj _ _ _ e hc ▸ hi))
    · by_cases hcc : c' = c
      · subst hcc; exact ⟨_, hc'⟩
      · obtain ⟨w2, z2⟩ := I.cell y c' e
        exact ⟨w2, z2.sameBut hs hcc⟩
    · obtain ⟨e, n, ne, nf, d⟩ := I.pin p hp
      refine ⟨(hs.2 p.1 ?_).trans e, n, ne, nf, d⟩
      intro q
      rw [q, hoc] at e
      have q' : oc = p.2 := Option.some.inj e
      exact d w' (by rw [← q']; exact hocd)
theorem store_ok {M : Model} {A : Around} {E : Value → Shared → Prop} {i : Nat} {x : Str} {v : V} {u : Value} {Q : Unit → Shared → Prop} (I : Inv X pins σ H s) (hN : X.N.Nodup) (hi : X.N[i]? = some x) (hx : Loc X.env.scope x) (r : RelV v u)
    (h : ∀ s', Inv X pins (σ.set i (some v)) H s' → Q () s') (hf : X.fn x = true ∨ X.env.scope.names.lookup x = some .local := by first | exact .inl rfl | exact .inr rfl | assumption) : wpAny M A (storeName X.env x u) Q E s :=
  store_ok2 I hN hi hx r (fun s' I' _ => h s' I') hf
/-- behind a call or a block, the state as it is -/
theorem Inv.call' {s' : Shared} {ch : List Addr} (I : Inv X pins σ H s) (ho : s'.os = s.os) (u : Un (frs X.stack) ch H H' s.heap s'.heap) (hok : HOk X.prog X.w H' s'.heap) (hg : AllBare s'.gens)
    (hch : ∀ b ∈ ch, (b ∈ X.ex ∨ X.s₀.heap.objs.size ≤ b) ∧ b ≠ X.env.locals ∧ (∀ x c, X.env.cells.lookup x = some c → c ≠ b) ∧ ∀ p ∈ X.pn ++ pins, p.1 ≠ b) : Inv X pins σ H' s' := by
  obtain ⟨h', g', d', t', o'⟩ := s'
  have e : o' = s.os := ho
  subst e
  exact I.call (g' := g') (t' := t') (d' := d') u hok hg hch
end

/-! ### the judgements -/
/-- an exception: its class, its own dict's address (where it has one), the abstract heap behind it -/
noncomputable abbrev XK := Value → Option Addr → Hp → Prop
noncomputable abbrev St := List (Option V)
noncomputable abbrev VK := V → Hp → Prop
/-- an expression's reading; a test's; an argument list's -/
noncomputable abbrev TE := St → Hp → VK → Prop
noncomputable abbrev TT := St → Hp → (Bool → Hp → Prop) → Prop
noncomputable abbrev TA := St → Hp → (List V → Hp → Prop) → Prop
/-- what is wanted behind a statement -/
structure Ends where
  nx : St → Hp → Prop
  rt : VK
  bk : St → Hp → Prop := fun _ _ => False
  ct : St → Hp → Prop := fun _ _ => False
noncomputable abbrev TS := Ends → St → Hp → Prop

noncomputable def EP (X : Cx) (pins : List (Addr × Obj)) (σ : St) (Q : VK) (u : Value) (s' : Shared) : Prop := ∃ v H', Inv X pins σ H' s' ∧ RelV v u ∧ Q v H'
noncomputable def TP (X : Cx) (pins : List (Addr × Obj)) (σ : St) (Q : Bool → Hp → Prop) (b : Bool) (s' : Shared) : Prop := ∃ H', Inv X pins σ H' s' ∧ Q b H'
noncomputable def AP (X : Cx) (pins : List (Addr × Obj)) (σ : St) (Q : List V → Hp → Prop) (us : List Value) (s' : Shared) : Prop := ∃ vs H', Inv X pins σ H' s' ∧ Vals vs us ∧ Q vs H'
noncomputable def SP (X : Cx) (pins : List (Addr × Obj)) (D : Ends) (f : Flow) (s' : Shared) : Prop :=
  match f with
  | .next => ∃ σ' H', Inv X pins σ' H' s' ∧ D.nx σ' H'
  | .brk => ∃ σ' H', Inv X pins σ' H' s' ∧ D.bk σ' H'
  | .cont => ∃ σ' H', Inv X pins σ' H' s' ∧ D.ct σ' H'
  | .ret u => ∃ v σ' H', Inv X pins σ' H' s' ∧ RelV v u ∧ D.rt v H'

noncomputable def PE (X : Cx) (e : Expr) (t : TE) : Prop :=
  ∀ (pins : List (Addr × Obj)) (s : Shared) (σ : St) (H : Hp) (Q : VK), Inv X pins σ H s → t σ H Q → wpAny (model X.prog X.w) X.A (eval e X.env) (EP X pins σ Q) X.xe s
noncomputable def PT (X : Cx) (e : Expr) (t : TT) : Prop :=
  ∀ (pins : List (Addr × Obj)) (s : Shared) (σ : St) (H : Hp) (Q : Bool → Hp → Prop), Inv X pins σ H s → t σ H Q → wpAny (model X.prog X.w) X.A (isTrue e X.env (eval e X.env)) (TP X pins σ Q) X.xe s
/-- a test whatever its 'whole' is (and, or) -/
noncomputable def PW (X : Cx) (e : Expr) (t : TT) : Prop :=
  ∀ (whole : Sem Value) (pins : List (Addr × Obj)) (s : Shared) (σ : St) (H : Hp) (Q : Bool → Hp → Prop), Inv X pins σ H s → t σ H Q → wpAny (model X.prog X.w) X.A (isTrue e X.env whole) (TP X pins σ Q) X.xe s
theorem PW.pt {X : Cx} {e : Expr} {t : TT} (h : PW X e t) : PT X e t := h _
/-- an argument list (no star), from the left -/
noncomputable def PA (X : Cx) (es : List Expr) (t : TA) : Prop :=
  ∀ (pos : Pos) (pins : List (Addr × Obj)) (s : Shared) (σ : St) (H : Hp) (Q : List V → Hp → Prop), Inv X pins σ H s → t σ H Q → wpAny (model X.prog X.w) X.A (spliced (backTo pos (starEach es X.env))) (AP X pins σ Q) X.xe s
noncomputable def PS (X : Cx) (st : Stmt) (t : TS) : Prop :=
  ∀ (pins : List (Addr × Obj)) (s : Shared) (σ : St) (H : Hp) (D : Ends), Inv X pins σ H s → t D σ H → wpAny (model X.prog X.w) X.A (exec st X.env) (SP X pins D) X.xe s
noncomputable def PSs (X : Cx) (st : List Stmt) (t : TS) : Prop :=
  ∀ (pins : List (Addr × Obj)) (s : Shared) (σ : St) (H : Hp) (D : Ends), Inv X pins σ H s → t D σ H → wpAny (model X.prog X.w) X.A (execs st X.env) (SP X pins D) X.xe s
/-- weaken the end -/
theorem thn {α : Type} {t : Sem α} {Q Q' : α → Shared → Prop} {M : Model} {A : Around} {E : Value → Shared → Prop} {s : Shared} (h : wpAny M A t Q E s) (hQ : ∀ a s, Q a s → Q' a s) : wpAny M A t Q' E s := wpAny_mono h hQ fun _ _ x => x
end L2

namespace L2
open PySem PySem.Spec PyProof.Rows
section
variable {X : Cx}

/-! ### names and constants -/
noncomputable def tVar (i : Nat) : TE := fun σ H Q => ∃ v, σ[i]? = some (some v) ∧ Q v H
noncomputable def tC (v : V) : TE := fun _ H Q => Q v H
theorem pe_var {i : Nat} {x : Str} {pos : Pos} (hN : X.N[i]? = some x) (hv : Vis X.env.scope x) (hd : (x == ("__debug__" : Str)) = false := by decide) (hcd : (x == ("__classdict__" : Str)) = false := by decide) : PE X (.Name x pos) (tVar i) := by
  intro pins s σ H Q I h
  obtain ⟨v, e, h⟩ := h
  obtain ⟨m, hn, hl⟩ := I.loc
  obtain ⟨u, r, l⟩ := hl i x v hN e hv
  have fin : EP X pins σ Q u s := ⟨v, H, I, r, h⟩
  rcases l with ⟨hk, hm⟩ | ⟨hk, c, hc, hcell⟩
  · exact wpAny_Name (wpAny_loadName_local I.ok.kind hk hn hm fin) hd
  · rcases hk with hk | hk
    · exact wpAny_Name (wpAny_loadName_cell I.ok.kind hk hc hcell fin) hd
    · exact wpAny_Name (wpAny_loadName_free I.ok.kind hk hc hcell fin hcd) hd
theorem pe_int {i j pos} : PE X (.Constant (.int i) j pos) (tC (.int i)) := fun _ _ _ H _ I h => wpAny_Constant_int ⟨.int i, H, I.tok _, ⟨_, rfl⟩, h⟩
theorem pe_bl {b j pos} : PE X (.Constant (.bool b) j pos) (tC (.bl b)) := fun _ _ _ H _ I h => Constant_bool ⟨.bl b, H, I, rfl, h⟩
theorem pe_non {j pos} : PE X (.Constant .none j pos) (tC .non) := fun _ _ _ H _ I h => Constant_none ⟨.non, H, I, rfl, h⟩
/-- a global name of the def -/
noncomputable def Gl (X : Cx) (x : Str) : Prop := X.env.kindOf x = some .globalImplicit
theorem ld_glob {E : Value → Shared → Prop} {pins : List (Addr × Obj)} {s : Shared} {σ : St} {H : Hp} {x : Str} {u : Value} {pos : Pos} {Q : Value → Shared → Prop} (I : Inv X pins σ H s) (hg : Gl X x) (hm : X.mg x = some u) (h : Q u s)
    (hd : (x == ("__debug__" : Str)) = false := by decide) : wpAny (model X.prog X.w) X.A (eval (.Name x pos) X.env) Q E s :=
  Calls.Name_function_global I.ok.kind hg (Calls.loadGlobal_global (by rw [I.ok.glob]; exact I.mod.glob.keeps I.bk) hm h) hd
theorem ld_blt {E : Value → Shared → Prop} {pins : List (Addr × Obj)} {s : Shared} {σ : St} {H : Hp} {x : Str} {u : Value} {pos : Pos} {Q : Value → Shared → Prop} (I : Inv X pins σ H s) (hg : Gl X x) (hm : X.mg x = none) (hv : bootBuiltins x = some u) (h : Q u s)
    (hn : x ≠ "__name__" := by decide) (hd : (x == ("__debug__" : Str)) = false := by decide) : wpAny (model X.prog X.w) X.A (eval (.Name x pos) X.env) Q E s := by
  obtain ⟨mb, h1, h2⟩ := I.mod.blt
  exact Calls.Name_function_global I.ok.kind hg (Calls.loadGlobal_builtin (by rw [I.ok.glob]; exact I.mod.glob.keeps I.bk) hm (by rw [I.ok.blt]; exact h1.keeps I.bk) ((h2 x hn).trans hv) h) hd
/-- a module's constant, a class, a function, as a value -/
theorem pe_glob {x : Str} {v : V} {u : Value} {pos : Pos} (hg : Gl X x) (hm : X.mg x = some u) (r : RelV v u) (hd : (x == ("__debug__" : Str)) = false := by decide) : PE X (.Name x pos) (tC v) :=
  fun _ _ _ H _ I h => ld_glob I hg hm ⟨v, H, I, r, h⟩ hd
theorem pe_bltn {x : Str} {v : V} {u : Value} {pos : Pos} (hg : Gl X x) (hm : X.mg x = none) (hv : bootBuiltins x = some u) (r : RelV v u) (hn : x ≠ "__name__" := by decide) (hd : (x == ("__debug__" : Str)) = false := by decide) : PE X (.Name x pos) (tC v) :=
  fun _ _ _ H _ I h => ld_blt I hg hm hv ⟨v, H, I, r, h⟩ hn hd

/-! ### arithmetic -/
variable {a b : Expr} {ta tb : TE} {pos : Pos}
/-! ### comparisons -/
/-! ### and, or, not -/
variable {tA tB' : TT} {rest : List Expr}
noncomputable def tAnd (t u : TT) : TT := fun σ H Q => t σ H fun c H1 => if c = true then u σ H1 Q else Q false H1
noncomputable def tOr (t u : TT) : TT := fun σ H Q => t σ H fun c H1 => if c = true then Q true H1 else u σ H1 Q
noncomputable def tNot (t : TT) : TT := fun σ H Q => t σ H fun c H1 => Q (!c) H1
theorem pw_and1 (ha : PT X a tA) : PW X (.BoolOp .And [a] pos) tA := by
  intro wh pins s σ H Q I h
  refine isTrue_and (thn (ha pins s σ H Q I h) fun c s1 e => ?_)
  cases c with
  | true => exact isTrue_and_nil e
  | false => exact e
theorem pw_or1 (ha : PT X a tA) : PW X (.BoolOp .Or [a] pos) tA := by
  intro wh pins s σ H Q I h
  refine isTrue_or (thn (ha pins s σ H Q I h) fun c s1 e => ?_)
  cases c with
  | false => exact isTrue_or_nil e
  | true => exact e
theorem pw_and (ha : PT X a tA) (hb : PW X (.BoolOp .And (b :: rest) pos) tB') : PW X (.BoolOp .And (a :: b :: rest) pos) (tAnd tA tB') := by
  intro wh pins s σ H Q I h
  refine isTrue_and (thn (ha pins s σ H _ I h) fun c s1 ⟨H1, I1, q1⟩ => ?_)
  cases c with
  | true => exact hb wh pins s1 σ H1 Q I1 q1
  | false => exact ⟨H1, I1, q1⟩
theorem pw_or (ha : PT X a tA) (hb : PW X (.BoolOp .Or (b :: rest) pos) tB') : PW X (.BoolOp .Or (a :: b :: rest) pos) (tOr tA tB') := by
  intro wh pins s σ H Q I h
  refine isTrue_or (thn (ha pins s σ H _ I h) fun c s1 ⟨H1, I1, q1⟩ => ?_)
  cases c with
  | true => exact ⟨H1, I1, q1⟩
  | false => exact hb wh pins s1 σ H1 Q I1 q1
theorem pt_not (ha : PT X a tA) : PT X (.UnaryOp .Not a pos) (tNot tA) := by
  intro pins s σ H Q I h
  exact isTrue_not (ha pins s σ H (fun c H1 => Q (!c) H1) I h)
theorem pe_one {op} {t : TE} (h : PE X a t) : PE X (.BoolOp op [a] pos) t := fun pins s σ H Q I hw => BoolOp_one (h pins s σ H Q I hw)
end
end L2

namespace L2
open PySem PySem.Spec PyProof.Rows

/-! ### a list, a tuple that is read: tracked, frozen, or an object of the module -/
noncomputable def SqL (K : PySem.W.Frag) (H : Hp) (a : Addr) (xs : List V) : Prop :=
  Rd H a (.lst xs) ∨
    ∃ (o : Obj) (its : Array Value) (n : Nat), K.lookup a = some o ∧ o.cls = .type "list" ∧ o.dict = none ∧ o.data = .seq its n ∧ its.size ≤ sizeLine ∧ Vals xs its.toList
noncomputable def SqT (K : PySem.W.Frag) (H : Hp) (a : Addr) (xs : List V) : Prop :=
  Rd H a (.tup xs) ∨
    ∃ (o : Obj) (its : Array Value) (n : Nat), K.lookup a = some o ∧ o.cls = .type "tuple" ∧ o.data = .seq its n ∧ its.size ≤ sizeLine ∧ Vals xs its.toList
noncomputable def absV : Value → Option V
  | .none => some .non
  | .bool b => some (.bl b)
  | .int i _ => some (.int i)
  | .str x _ => some (.str x)
  | .bytes b _ => some (.byt b)
  | .float b _ => some (.flt b)
  | .ref a => some (.ref a)
  | .type n => some (.ty n)
  | _ => none
theorem RelV.abs {x : V} {u : Value} (r : RelV x u) : absV u = some x := by
  cases x with
  | non => cases r; rfl
  | bl _ => cases r; rfl
  | int _ => obtain ⟨t, rfl⟩ := r; rfl
  | str _ => obtain ⟨t, rfl⟩ := r; rfl
  | byt _ => obtain ⟨t, rfl⟩ := r; rfl
  | flt _ => obtain ⟨t, rfl⟩ := r; rfl
  | ref _ => cases r; rfl
  | ty _ => cases r; rfl
theorem RelV.inj {x y : V} {u : Value} (r : RelV x u) (q : RelV y u) : x = y := Option.some.inj (r.abs.symm.trans q.abs)
theorem Vals.inj : ∀ {xs ys : List V} {us : List Value}, Vals xs us → Vals ys us → xs = ys
  | _, _, _, .nil, .nil => rfl
  | _, _, _, .cons r t, .cons r' t' => by rw [r.inj r', Vals.inj t t']
section
variable {X : Cx} {pins : List (Addr × Obj)} {σ : St} {H : Hp} {s : Shared} {a : Addr} {xs ys : List V}
theorem SqL.of {K : PySem.W.Frag} (h : H a = some (.lst xs)) : SqL K H a xs := .inl (.inl h)
theorem SqT.of {K : PySem.W.Frag} (h : H a = some (.tup xs)) : SqT K H a xs := .inl (.inl h)
theorem Inv.list (I : Inv X pins σ H s) (h : SqL X.K H a xs) : ∃ its : List Value, Vals xs its ∧ PlainL s.heap a its.toArray ∧ xs.length ≤ sizeLine := by
  rcases h with h | ⟨o, its, n, hk, hc, hd, hs, hz, r⟩
  · obtain ⟨z, its, n, r, e⟩ := h.ok I.hok
    exact ⟨its, r, ⟨_, n, e, rfl, rfl, rfl⟩, z⟩
  · refine ⟨its.toList, r, ⟨o, n, I.kIn a o hk, hc, hd, by simpa using hs⟩, ?_⟩
    have e := r.length
    simp only [Array.length_toList] at e
    omega
theorem Inv.tuple (I : Inv X pins σ H s) (h : SqT X.K H a xs) : ∃ its : List Value, Vals xs its ∧ IsTup s.heap a its.toArray ∧ xs.length ≤ sizeLine := by
  rcases h with h | ⟨o, its, n, hk, hc, hs, hz, r⟩
  · obtain ⟨z, its, r, p⟩ := h.ok I.hok
    exact ⟨its, r, p, z⟩
  · refine ⟨its.toList, r, ⟨o, I.kIn a o hk, hc, n, by simpa using hs⟩, ?_⟩
    have e := r.length
    simp only [Array.length_toList] at e
    omega
theorem Inv.list_inj (I : Inv X pins σ H s) (h : SqL X.K H a xs) (h' : SqL X.K H a ys) : xs = ys := by
  obtain ⟨its, r, ⟨o, n, e, _, _, d⟩, _⟩ := I.list h
  obtain ⟨its', r', ⟨o', n', e', _, _, d'⟩, _⟩ := I.list h'
  rw [e] at e'; cases e'
  rw [d] at d'
  injection d' with d1 _
  have : its = its' := by simpa using congrArg Array.toList d1
  subst this
  exact r.inj r'
theorem Inv.tuple_inj (I : Inv X pins σ H s) (h : SqT X.K H a xs) (h' : SqT X.K H a ys) : xs = ys := by
  obtain ⟨its, r, ⟨o, e, _, n, d⟩, _⟩ := I.tuple h
  obtain ⟨its', r', ⟨o', e', _, n', d'⟩, _⟩ := I.tuple h'
  rw [e] at e'; cases e'
  rw [d] at d'
  injection d' with d1 _
  have : its = its' := by simpa using congrArg Array.toList d1
  subst this
  exact r.inj r'
end

/-! ### another wish about exceptions -/
noncomputable abbrev Cx.wish (X : Cx) (E : Value → Shared → Prop) : Cx := { X with xe := E }
/-- no exception leaves -/
noncomputable abbrev Cx.nox (X : Cx) : Cx := X.wish fun _ _ => False
theorem Cx.Ok.wish {X : Cx} (ok : X.Ok) (E : Value → Shared → Prop) : (X.wish E).Ok :=
  ⟨ok.mod, ok.kind, ok.glob, ok.blt, ok.above, ok.inj, ok.has, ok.cab, ok.hd, ok.frames, ok.stk, ok.exf, ok.bs, ok.bsz, ok.noex, ok.exfs, ok.funs, ok.frf⟩
theorem Cx.Ok.unwish {X : Cx} {E : Value → Shared → Prop} (ok : (X.wish E).Ok) : X.Ok :=
  ⟨ok.mod, ok.kind, ok.glob, ok.blt, ok.above, ok.inj, ok.has, ok.cab, ok.hd, ok.frames, ok.stk, ok.exf, ok.bs, ok.bsz, ok.noex, ok.exfs, ok.funs, ok.frf⟩
section
variable {X : Cx} {pins : List (Addr × Obj)} {σ : St} {H : Hp} {s : Shared} {E : Value → Shared → Prop}
theorem Inv.wish (I : Inv X pins σ H s) (E : Value → Shared → Prop) : Inv (X.wish E) pins σ H s := ⟨I.ok.wish E, I.os, I.bare, I.base, I.loc, I.cell, I.free, I.freeC, I.pin, I.hok, I.len⟩
theorem Inv.unwish (I : Inv (X.wish E) pins σ H s) : Inv X pins σ H s := ⟨I.ok.unwish, I.os, I.bare, I.base, I.loc, I.cell, I.free, I.freeC, I.pin, I.hok, I.len⟩
theorem SP.unwish {D : Ends} {f : Flow} {s' : Shared} (h : SP (X.wish E) pins D f s') : SP X pins D f s' := by
  cases f with
  | next => obtain ⟨σ', H', I, q⟩ := h; exact ⟨σ', H', I.unwish, q⟩
  | brk => obtain ⟨σ', H', I, q⟩ := h; exact ⟨σ', H', I.unwish, q⟩
  | cont => obtain ⟨σ', H', I, q⟩ := h; exact ⟨σ', H', I.unwish, q⟩
  | ret u => obtain ⟨v, σ', H', I, r, q⟩ := h; exact ⟨v, σ', H', I.unwish, r, q⟩
theorem PSs.nox {st : List Stmt} {t : TS} (h : PSs X.nox st t) : PSs X st t := fun pins s σ H D I hw =>
  wpAny_mono (h pins s σ H D (I.wish _) hw) (fun _ _ q => q.unwish) fun _ _ z => False.elim z
end

/-! ### blocks and small statements -/
section
variable {X : Cx} {st : Stmt} {rest : List Stmt} {t u : TS} {e : Expr} {te : TE} {pos : Pos}
noncomputable def tNext : TS := fun D σ H => D.nx σ H
noncomputable def tSeq (t u : TS) : TS := fun D σ H => t { D with nx := u D } σ H
theorem pss_nil : PSs X [] tNext := fun _ _ σ H _ I h => wpAny_execs_nil ⟨σ, H, I, h⟩
theorem pss_cons (h1 : PS X st t) (h2 : PSs X rest u) : PSs X (st :: rest) (tSeq t u) := by
  intro pins s σ H D I h
  refine wpAny_execs_cons (thn (h1 pins s σ H { D with nx := u D } I h) fun f s1 q => ?_)
  cases f with
  | next =>
    obtain ⟨σ', H', I', q⟩ := q
    exact h2 pins s1 σ' H' D I' q
  | ret v => exact q
  | brk => exact q
  | cont => exact q
theorem pss_one (h1 : PS X st t) : PSs X [st] t := by
  intro pins s σ H D I h
  refine wpAny_execs_cons (thn (h1 pins s σ H D I h) fun f s1 q => ?_)
  cases f with
  | next => exact wpAny_execs_nil q
  | ret v => exact q
  | brk => exact q
  | cont => exact q
/-- in a def's body nothing is shown -/
theorem Inv.quiet {pins : List (Addr × Obj)} {σ : St} {H : Hp} {s : Shared} (I : Inv X pins σ H s) : interactive X.env = false := by simp [interactive, I.ok.kind]
/-- an expression whose value is dropped -/
noncomputable def tDrop (te : TE) : TS := fun D σ H => te σ H fun _ H1 => D.nx σ H1
theorem ps_expr (he : PE X e te) (hs : swapsWith e none pos.line X.env = pure false := by rfl) : PS X (.Expr e pos) (tDrop te) := by
  intro pins s σ H D I h
  exact wpAny_Expr_any (thn (he pins s σ H _ I h) fun v s1 ⟨x, H1, I1, r1, q1⟩ => ⟨σ, H1, I1, q1⟩) I.quiet hs
noncomputable def tRet (te : TE) : TS := fun D σ H => te σ H D.rt
theorem ps_ret (he : PE X e te) : PS X (.Return (some e) pos) (tRet te) := by
  intro pins s σ H D I h
  exact wpAny_Return_some (thn (he pins s σ H _ I h) fun v s1 ⟨x, H1, I1, r1, q1⟩ => ⟨x, σ, H1, I1, r1, q1⟩)
noncomputable def tIfS (c : TT) (t u : TS) : TS := fun D σ H => c σ H fun b H1 => if b = true then t D σ H1 else u D σ H1
theorem ps_if {c : Expr} {a b : List Stmt} {tc : TT} (hc : PT X c tc) (ha : PSs X a t) (hb : PSs X b u) : PS X (.If c a b pos) (tIfS tc t u) := by
  intro pins s σ H D I h
  refine wpAny_If (thn (hc pins s σ H _ I h) fun d s1 ⟨H1, I1, q1⟩ => ?_)
  cases d with
  | true => exact ha pins s1 σ H1 D I1 q1
  | false => exact hb pins s1 σ H1 D I1 q1
/-- code that the proof never comes to -/
noncomputable def tNever : TS := fun _ _ _ => False
theorem ps_never : PS X st tNever := fun _ _ _ _ _ _ h => h.elim
end

/-! ### targets -/
noncomputable abbrev TG := V → St → Hp → (St → Hp → Prop) → Prop
noncomputable abbrev TGs := List V → St → Hp → (St → Hp → Prop) → Prop
noncomputable def PG (X : Cx) (target : Expr) (t : TG) : Prop :=
  ∀ (pins : List (Addr × Obj)) (s : Shared) (σ : St) (H : Hp) (v : V) (u : Value) (Q : St → Hp → Prop), Inv X pins σ H s → RelV v u → t v σ H Q →
    wpAny (model X.prog X.w) X.A (assign target X.env u) (fun _ s' => ∃ σ' H', Inv X pins σ' H' s' ∧ Q σ' H') X.xe s
/-- several targets, one after another -/
noncomputable def PGs (X : Cx) (ts : List Expr) (t : TGs) : Prop :=
  ∀ (pins : List (Addr × Obj)) (s : Shared) (σ : St) (H : Hp) (vs : List V) (us : List Value) (Q : St → Hp → Prop), Inv X pins σ H s → Vals vs us → t vs σ H Q →
    wpAny (model X.prog X.w) X.A (assignInOrder ((assignEach ts X.env).map (·.2)) us) (fun _ s' => ∃ σ' H', Inv X pins σ' H' s' ∧ Q σ' H') X.xe s
/-- o[i] = v, by values -/
noncomputable abbrev TSet := V → V → V → Hp → (Hp → Prop) → Prop
noncomputable def PSet (X : Cx) (t : TSet) : Prop :=
  ∀ (pins : List (Addr × Obj)) (s : Shared) (σ : St) (H : Hp) (o i v : V) (ov iv u : Value) (Q : Hp → Prop), Inv X pins σ H s → RelV o ov → RelV i iv → RelV v u → t o i v H Q →
    wpAny (model X.prog X.w) X.A (setItem ov iv u) (fun _ s' => ∃ H', Inv X pins σ H' s' ∧ Q H') X.xe s
/-- a op= b, by values -/
noncomputable abbrev TIp := V → V → Hp → VK → Prop
noncomputable def PIp (X : Cx) (op : Operator) (t : TIp) : Prop :=
  ∀ (pins : List (Addr × Obj)) (s : Shared) (σ : St) (H : Hp) (x y : V) (v u : Value) (Q : VK), Inv X pins σ H s → RelV x v → RelV y u → t x y H Q →
    wpAny (model X.prog X.w) X.A (inplaceOp op v u) (EP X pins σ Q) X.xe s
section
variable {X : Cx} {pos : Pos}
noncomputable def gName (i : Nat) : TG := fun v σ H Q => Q (σ.set i (some v)) H
theorem pg_name {i : Nat} {x : Str} (hN : X.N.Nodup) (hi : X.N[i]? = some x) (hx : Loc X.env.scope x) (hf : X.fn x = true ∨ X.env.scope.names.lookup x = some .local := by first | exact .inl rfl | exact .inr rfl | assumption) : PG X (.Name x pos) (gName i) := by
  intro pins s σ H v u Q I r h
  exact wpAny_assign_Name (store_ok I hN hi hx r (fun s' I' => ⟨_, H, I', h⟩) hf)
noncomputable def gNil : TGs := fun vs σ H Q => vs = [] ∧ Q σ H
noncomputable def gCons (t : TG) (u : TGs) : TGs := fun vs σ H Q => ∃ v r, vs = v :: r ∧ t v σ H fun σ' H' => u r σ' H' Q
theorem pgs_nil : PGs X [] gNil := by
  intro pins s σ H vs us Q I r h
  obtain ⟨e, h⟩ := h
  subst e
  cases r
  exact assignInOrder_nil ⟨σ, H, I, h⟩
theorem pgs_cons {e : Expr} {es : List Expr} {t : TG} {u : TGs} (h1 : PG X e t) (h2 : PGs X es u)
    (hs : (assignEach (e :: es) X.env).map (·.2) = assign e X.env :: (assignEach es X.env).map (·.2) := by rfl) : PGs X (e :: es) (gCons t u) := by
  intro pins s σ H vs us Q I r h
  obtain ⟨v, vr, e1, h⟩ := h
  subst e1
  cases r with
  | cons r rr =>
    rw [hs]
    refine assignInOrder_cons (thn (h1 pins s σ H _ _ _ I r h) fun _ s1 ⟨σ1, H1, I1, q1⟩ => ?_)
    exact h2 pins s1 σ1 H1 _ _ Q I1 rr q1
/-- (a, b, ..) = a tuple of that length -/
noncomputable def gTup (K : PySem.W.Frag) (n : Nat) (t : TGs) : TG := fun v σ H Q => ∃ a xs, v = .ref a ∧ SqT K H a xs ∧ xs.length = n ∧ t xs σ H Q
theorem pg_tup {es : List Expr} {k : Nat} {t : TGs} {n : Nat} (hc : X.calm = true) (h : PGs X es t)
    (hn : (assignEach es X.env).length = n := by rfl) (hst : (assignEach es X.env).findIdx? (·.1) = none := by rfl) : PG X (.Tuple es k pos) (gTup X.K n t) := by
  intro pins s σ H v u Q I r hw
  obtain ⟨a, xs, e1, hq, hl, hw⟩ := hw
  subst e1
  cases r
  obtain ⟨its, rv, ht, hz⟩ := I.tuple hq
  refine assign_Tuple_tuple (I.ok.hd hc) ht (by simp [hn, ← hl, rv.length]) hst fun h' hx => ?_
  have I1 : Inv X pins σ H { s with heap := h' } := I.kept (t' := s.toks) fun b o e => hx b o (Nat.ne_of_lt (Heap.lt_size e)) e
  exact h pins _ σ H xs _ Q I1 (by simpa using rv) hw
/-- o[i] = .. -/
noncomputable def gSub (to ti : TE) (t : TSet) : TG := fun v σ H Q => to σ H fun o H1 => ti σ H1 fun i H2 => t o i v H2 fun H3 => Q σ H3
theorem pg_sub {o i : Expr} {to ti : TE} {t : TSet} (ho : PE X o to) (hi : PE X i ti) (hs : PSet X t)
    (ha : ∀ v, assign (.Subscript o i pos) X.env v = (do
      let ov ← holding [v] (eval o X.env)
      let iv ← holding [v, ov] (eval i X.env)
      standAt pos
      holding [v, ov, iv] (setItem ov iv v)
      release [v, ov, iv] []) := by intro _; rfl) : PG X (.Subscript o i pos) (gSub to ti t) := by
  intro pins s σ H v u Q I r h
  rw [ha]
  refine wpAny_bind (wpAny_holding (thn (ho pins s σ H _ I h) fun ov s1 ⟨x, H1, I1, r1, q1⟩ => ?_))
  refine wpAny_bind (wpAny_holding (thn (hi pins s1 σ H1 _ I1 q1) fun iv s2 ⟨y, H2, I2, r2, q2⟩ => ?_))
  refine wpAny_bind (wpAny_standAt (wpAny_bind (wpAny_holding (thn (hs pins s2 σ H2 x y v ov iv u _ I2 r1 r2 r q2) fun _ s3 ⟨H3, I3, q3⟩ => ?_))))
  exact wpAny_release ⟨σ, H3, I3, q3⟩
/-- target = value -/
noncomputable def tAsg (te : TE) (g : TG) : TS := fun D σ H => te σ H fun x H1 => g x σ H1 D.nx
theorem ps_asg {tg e : Expr} {te : TE} {g : TG} (he : PE X e te) (hg : PG X tg g) (hs : swapsWithSole [tg] e pos.line X.env = pure false := by rfl) (hw : swappedStores [tg] e X.env = pure none := by rfl)
    (h1 : (assignEach [tg] X.env).map (·.2) = [assign tg X.env] := by rfl) : PS X (.Assign [tg] e pos) (tAsg te g) := by
  intro pins s σ H D I h
  refine wpAny_Assign_stores (thn (he pins s σ H _ I h) fun v s1 ⟨x, H1, I1, r1, q1⟩ => ?_) hs hw
  rw [h1]
  exact thn (hg pins s1 σ H1 x v _ I1 r1 q1) fun _ s2 q => q
/-- name = value -/
theorem ps_set {i : Nat} {x : Str} {e : Expr} {te : TE} {pos' : Pos} (hN : X.N.Nodup) (hi : X.N[i]? = some x) (hx : Loc X.env.scope x) (he : PE X e te) (hs : swapsWith e (some (.Name x pos')) pos.line X.env = pure false := by rfl) (hf : X.fn x = true ∨ X.env.scope.names.lookup x = some .local := by first | exact .inl rfl | exact .inr rfl | assumption) :
    PS X (.Assign [.Name x pos'] e pos) (tAsg te (gName i)) := by
  intro pins s σ H D I h
  refine wpAny_Assign_Name (thn (he pins s σ H _ I h) fun v s1 ⟨y, H1, I1, r1, q1⟩ => ?_) hs
  exact store_ok I1 hN hi hx r1 (fun s2 I2 => ⟨_, H1, I2, q1⟩) hf
/-- a, b = x, y with plain local names: stored from the right; the pair itself is not tracked (the opening rows as in PyProof/Rows/TupAssign.lean:23) -/
noncomputable def tPar (i j : Nat) (ta : TA) : TS := fun D σ H => ta σ H fun vs H1 => ∃ v w, vs = [v, w] ∧ D.nx ((σ.set i (some v)).set j (some w)) H1
theorem ps_par {i j : Nat} {x y : Str} {a b : Expr} {ta : TA} {px py pt : Pos} {kt k2 pt2} (hc : X.calm = true) (hN : X.N.Nodup) (hi : X.N[i]? = some x) (hj : X.N[j]? = some y) (hij : i ≠ j)
    (hx : X.env.scope.names.lookup x = some .local) (hy : X.env.scope.names.lookup y = some .local) (ha : PA X [a, b] ta)
    (hw : swappedStores [.Tuple [.Name x px, .Name y py] kt pt] (.Tuple [a, b] k2 pt2) X.env = pure (some [x, y]))
    (hs : swapsWithSole [.Tuple [.Name x px, .Name y py] kt pt] (.Tuple [a, b] k2 pt2) pos.line X.env = pure false := by rfl) :
    PS X (.Assign [.Tuple [.Name x px, .Name y py] kt pt] (.Tuple [a, b] k2 pt2) pos) (tPar i j ta) := by
  intro pins s σ H D I h
  rw [exec_Assign_arm]
  refine wpAny_bind (wpAny_standAt ?_)
  rw [hs]
  refine wpAny_bind (wpAny_pure ?_)
  rw [if_neg (by decide)]
  refine wpAny_bind (Tuple_ (thn (ha _ pins s σ H _ I h) fun us s1 ⟨vs, H1, I1, r1, q1⟩ => ?_))
  obtain ⟨v, w, e1, q1⟩ := q1
  subst e1
  obtain ⟨u1, u2, rfl, rv, rw'⟩ : ∃ u1 u2, us = [u1, u2] ∧ RelV v u1 ∧ RelV w u2 := by
    cases r1 with
    | cons p q =>
      cases q with
      | cons p' q' =>
        cases q'
        exact ⟨_, _, rfl, p, p'⟩
  refine wpAny_newObj_type ?_ (by show 2 ≤ sizeLine; decide)
  have I2 : Inv X pins σ H1 { s1 with heap := s1.heap.push { cls := .type "tuple", data := .seq [u1, u2].toArray } } := I1.kept (t' := s1.toks) fun b o e => Heap.get?_push_of_some _ e
  rw [hw]
  refine wpAny_bind (wpAny_pure ?_)
  show wpAny (model X.prog X.w) X.A (do rule "assign.swapped-stores"; let items ← unpackItems (.ref s1.heap.objs.size) 2 none; assignInOrder [fun v => bindName X.env y v, fun v => bindName X.env x v] items.reverse; pure Flow.next) _ _ _
  refine wpAny_bind (wpAny_rule (wpAny_bind (unpackItems_tuple (items := #[u1, u2]) (I.ok.hd hc) (IsTup.new s1.heap _) fun h' hx' => ?_)))
  have I3 := I2.kept (h' := h') (t' := s1.toks) fun b o e => hx' b o (Nat.ne_of_lt (Heap.lt_size e)) e
  show wpAny _ _ (assignInOrder [fun v => bindName X.env y v, fun v => bindName X.env x v] [u2, u1] >>= fun _ => pure Flow.next) _ _ _
  refine wpAny_bind (assignInOrder_cons (wpAny_bindName (store_ok I3 hN hj (.inl hy) rw' (fun s2 I4 => ?_) (.inr hy))))
  refine assignInOrder_cons (wpAny_bindName (store_ok I4 hN hi (.inl hx) rv (fun s3 I5 => assignInOrder_nil (wpAny_pure ?_)) (.inr hx)))
  rw [List.set_comm _ _ (Ne.symm hij)] at I5
  exact ⟨_, H1, I5, q1⟩
/-- name op= e -/
noncomputable def tAug (i : Nat) (te : TE) (ti : TIp) : TS := fun D σ H => ∃ x, σ[i]? = some (some x) ∧ te σ H fun y H1 => ti x y H1 fun z H2 => D.nx (σ.set i (some z)) H2
theorem ps_aug {i : Nat} {x : Str} {e : Expr} {te : TE} {op : Operator} {ti : TIp} {pos' : Pos} (hN : X.N.Nodup) (hi : X.N[i]? = some x) (hx : Loc X.env.scope x) (he : PE X e te) (ho : PIp X op ti) (hf : X.fn x = true ∨ X.env.scope.names.lookup x = some .local := by first | exact .inl rfl | exact .inr rfl | assumption) :
    PS X (.AugAssign (.Name x pos') op e pos) (tAug i te ti) := by
  intro pins s σ H D I h
  obtain ⟨v, e1, h⟩ := h
  obtain ⟨m, hn, hl⟩ := I.loc
  have vis : Vis X.env.scope x := by rcases hx with k | k; exact .inl k; exact .inr (.inl k)
  obtain ⟨u, r, l⟩ := hl i x v hi e1 vis
  refine wpAny_AugAssign_Name ?_
  have go : wpAny (model X.prog X.w) X.A (eval e X.env) (fun w s₂ => wpAny (model X.prog X.w) X.A (inplaceOp op u w) (fun r s₃ => wpAny (model X.prog X.w) X.A (storeName X.env x r) (fun _ => SP X pins D .next) X.xe s₃) X.xe s₂) X.xe s := by
    refine thn (he pins s σ H _ I h) fun w s1 ⟨y, H1, I1, r1, q1⟩ => ?_
    refine thn (ho pins s1 σ H1 v y u w _ I1 r r1 q1) fun z s2 ⟨zv, H2, I2, r2, q2⟩ => ?_
    exact store_ok I2 hN hi hx r2 (fun s3 I3 => ⟨_, H2, I3, q2⟩) hf
  rcases l with ⟨hk, hm⟩ | ⟨hk, c, hc, hcell⟩
  · exact wpAny_loadName_local I.ok.kind hk hn hm go
  · rcases hk with hk | hk
    · exact wpAny_loadName_cell I.ok.kind hk hc hcell go
    · rcases hx with k | k
      · have : X.env.scope.names.lookup x = some .free := hk
        rw [k] at this; cases this
      · have : X.env.scope.names.lookup x = some .free := hk
        rw [k] at this; cases this
/-- ints -/
noncomputable def ipI (f : Int → Int → Int) : TIp := fun x y H Q => ∃ i j, x = .int i ∧ y = .int j ∧ Q (.int (f i j)) H
theorem ip_add : PIp X .Add (ipI fun i j => i + j) := by
  intro pins s σ H x y v u Q I r1 r2 h
  obtain ⟨i, j, e1, e2, q⟩ := h
  subst e1; subst e2
  obtain ⟨t, rfl⟩ := r1
  obtain ⟨t', rfl⟩ := r2
  exact iadd_int ⟨.int _, H, I.tok _, ⟨_, rfl⟩, q⟩
end

/-! ### while -/
section
variable {X : Cx} {pos : Pos}
/-- the invariant W with its measure -/
noncomputable def tWhile (c : TT) (tb : TS) : TS := fun D σ H => ∃ W : Nat → St → Hp → Prop, (∃ m, W m σ H) ∧ ∀ m σ H, W m σ H →
  c σ H fun b H1 => if b = true then ∃ N : St → Hp → Prop, (∀ σ' H', N σ' H' → ∃ m', m' < m ∧ W m' σ' H') ∧ tb { D with nx := N, ct := N, bk := D.nx } σ H1 else D.nx σ H1
theorem ps_while {c : Expr} {body : List Stmt} {tc : TT} {tb : TS} (hp : PassesOwn (model X.prog X.w) X.A X.env X.xe) (hc : PT X c tc) (hb : PSs X body tb) : PS X (.While c body [] pos) (tWhile tc tb) := by
  intro pins s σ H D I h
  obtain ⟨W, ⟨m0, w0⟩, turn⟩ := h
  refine wpAny_While (codeAny_whileLoop (fun n s' => ∃ σ' H', Inv X pins σ' H' s' ∧ W n σ' H') ?_ m0 ⟨σ, H, I, w0⟩)
  rintro n s1 ⟨σ1, H1, I1, w1⟩
  refine wpAny_passesOwn hp (thn (hc pins s1 σ1 H1 _ I1 (turn n σ1 H1 w1)) fun b s2 ⟨H2, I2, q2⟩ => ?_)
  cases b with
  | true =>
    obtain ⟨N, hN, q2⟩ := q2
    rw [if_pos rfl]
    refine wpAny_passesOwn hp (thn (hb pins s2 σ1 H2 _ I2 q2) fun f s3 q3 => ?_)
    cases f with
    | next =>
      obtain ⟨σ3, H3, I3, n3⟩ := q3
      obtain ⟨m', hm, w3⟩ := hN σ3 H3 n3
      exact ⟨m', hm, σ3, H3, I3, w3⟩
    | cont =>
      obtain ⟨σ3, H3, I3, n3⟩ := q3
      obtain ⟨m', hm, w3⟩ := hN σ3 H3 n3
      exact ⟨m', hm, σ3, H3, I3, w3⟩
    | brk => exact q3
    | ret v => exact q3
  | false =>
    rw [if_neg Bool.false_ne_true]
    exact wpAny_execs_nil ⟨σ1, H2, I2, q2⟩
end

/-! ### what a loop or a comprehension walks -/
/-- at turn i: it yields x (the heap may grow), or it stops -/
structure It where
  go : Nat → Hp → Prop
  yld : Nat → Hp → V → Hp → Prop
  stop : Nat → Hp → Prop
/-- the iterator's own objects may turn: they are not the frame's, not pinned, younger than the entry (or a comprehension's own) -/
noncomputable def FpOk (X : Cx) (pins : List (Addr × Obj)) (H : Hp) (b : Addr) : Prop :=
  H b = none ∧ b ≠ X.env.locals ∧ b ∉ X.fs ∧ (b ∈ X.ex ∨ X.s₀.heap.objs.size ≤ b) ∧ (∀ x c, X.env.cells.lookup x = some c → c ≠ b) ∧ ∀ p ∈ X.pn ++ pins, p.1 ≠ b
theorem Inv.fpOk {X : Cx} {pins : List (Addr × Obj)} {σ : St} {H H' : Hp} {s : Shared} {b : Addr} (I : Inv X pins σ H s) (hb : s.heap.objs.size ≤ b) (hn : H' b = none) : FpOk X pins H' b := by
  refine ⟨hn, Nat.ne_of_gt (Nat.lt_of_lt_of_le I.lt hb), I.nofs hb, .inr (Nat.le_trans I.sz hb), fun x c e z => ?_, fun p hp z => ?_⟩
  · obtain ⟨v, q⟩ := I.cell x c e
    exact absurd (Nat.lt_of_lt_of_le q.lt (by rw [z]; exact hb)) (Nat.lt_irrefl _)
  · exact absurd (Nat.lt_of_lt_of_le (Heap.lt_size (I.pin p hp).1) (by rw [z]; exact hb)) (Nat.lt_irrefl _)
structure Turn (P : Program) (w : World) (K : PySem.W.Frag) (tg : Expr) (J : It) (fp : List Addr) (it : Addr) (tn : Nat → Heap → Prop) : Prop where
  mem : it ∈ fp
  obj : ∀ i h, tn i h → ∀ b ∈ fp, ∃ o, h.get? b = some o ∧ ∀ v, o.data ≠ .cell v
  keep : ∀ i h h', tn i h → (∀ b ∈ fp, ∀ o, h.get? b = some o → h'.get? b = some o) → tn i h'
  item : ∀ (X : Cx), X.prog = P → X.w = w → X.K = K → X.calm = true → ∀ (i : Nat) (pins : List (Addr × Obj)) (s : Shared) (σ : St) (H : Hp) (E : Value → Shared → Prop), Inv X pins σ H s → (∀ b ∈ fp, FpOk X pins H b) → tn i s.heap → J.go i H →
    wpAny (model P w) X.A (pyNext (.ref it)) (fun r s1 => ∃ u, r = some u ∧
      wpAny (model P w) X.A (letOwnedTupleGo tg (.ref it) u) (fun _ s2 => ∃ x H', Inv X pins σ H' s2 ∧ RelV x u ∧ J.yld i H x H' ∧ tn (i + 1) s2.heap ∧ ∀ b ∈ fp, H' b = none) E s1) E s
  done : ∀ (X : Cx), X.prog = P → X.w = w → X.K = K → X.calm = true → ∀ (i : Nat) (pins : List (Addr × Obj)) (s : Shared) (σ : St) (H : Hp) (E : Value → Shared → Prop), Inv X pins σ H s → (∀ b ∈ fp, FpOk X pins H b) → tn i s.heap → J.stop i H →
    wpAny (model P w) X.A (pyNext (.ref it)) (fun r s1 => r = none ∧ Inv X pins σ H s1) E s
  self : ∀ (A : Around) (i : Nat) (s : Shared) (Q : Value → Shared → Prop) (E : Value → Shared → Prop), tn i s.heap → Q (.ref it) s → wpAny (model P w) A (pyIter (.ref it)) Q E s
noncomputable abbrev TI := St → Hp → (It → Hp → Prop) → Prop
/-- an iterator has come -/
noncomputable def PIE (X : Cx) (pins : List (Addr × Obj)) (σ : St) (tg : Expr) (R : It → Hp → Prop) (itv : Value) (s2 : Shared) : Prop :=
  ∃ (it : Addr) (fp : List Addr) (tn : Nat → Heap → Prop) (J : It) (H' : Hp), itv = .ref it ∧ Inv X pins σ H' s2 ∧ Turn X.prog X.w X.K tg J fp it tn ∧ tn 0 s2.heap ∧ (∀ b ∈ fp, FpOk X pins H' b) ∧ R J H'
noncomputable def PI (X : Cx) (tg iter : Expr) (wi : TI) : Prop :=
  ∀ (pins : List (Addr × Obj)) (s : Shared) (σ : St) (H : Hp) (R : It → Hp → Prop), Inv X pins σ H s → wi σ H R →
    wpAny (model X.prog X.w) X.A (eval iter X.env) (fun v s1 => wpAny (model X.prog X.w) X.A (pyIter v) (PIE X pins σ tg R) X.xe s1) X.xe s

/-- the step ahead of the store is nothing for an iterator that keeps no tuple -/
theorem go_of {M : Model} {A : Around} {E : Value → Shared → Prop} {s : Shared} {tg : Expr} {it : Addr} {u : Value} {o : Obj} {n : String} {vs : Array Value} {Q : Unit → Shared → Prop} (ho : s.heap.get? it = some o) (hc : o.cls = .type n) (hd : o.data = .fields vs)
    (hn : ["enumerate", "zip", "dict_itemiterator", "dict_reverseitemiterator", "odict_iterator", "itertools.zip_longest", "itertools.pairwise"].contains n = false) (hQ : Q () s) : wpAny M A (letOwnedTupleGo tg (.ref it) u) Q E s := by
  unfold letOwnedTupleGo
  cases tg <;> first
    | exact wpAny_pure hQ
    | (cases u <;> first
        | exact wpAny_pure hQ
        | (refine wpAny_bind (wpAny_load ho ?_)
           rw [hc, hd]
           show wpAny M A (if (["enumerate", "zip", "dict_itemiterator", "dict_reverseitemiterator", "odict_iterator", "itertools.zip_longest", "itertools.pairwise"].contains n && vs[0]? == some (rawInt _)) = true then _ else _) Q E s
           rw [if_neg (by intro h; rw [hn, Bool.false_and] at h; cases h)]
           exact wpAny_pure hQ))

/-- the list at a, as it stands at each turn (a loop may append to it) -/
noncomputable def Itl (K : PySem.W.Frag) (a : Addr) : It :=
  ⟨fun i H => ∃ xs x, SqL K H a xs ∧ xs[i]? = some x, fun i H x H' => H' = H ∧ ∀ xs, SqL K H a xs → xs[i]? = some x, fun i H => ∃ xs, SqL K H a xs ∧ xs.length ≤ i⟩
noncomputable def Itt (K : PySem.W.Frag) (a : Addr) : It :=
  ⟨fun i H => ∃ xs x, SqT K H a xs ∧ xs[i]? = some x, fun i H x H' => H' = H ∧ ∀ xs, SqT K H a xs → xs[i]? = some x, fun i H => ∃ xs, SqT K H a xs ∧ xs.length ≤ i⟩
/-- lo, lo + 1, .. (n of them) -/
noncomputable def Itr (lo : Int) (n : Nat) : It := ⟨fun i _ => i < n, fun i H x H' => H' = H ∧ x = .int (lo + i), fun i _ => n ≤ i⟩
theorem turn_list {P : Program} {w : World} {K : PySem.W.Frag} {tg : Expr} (a it : Addr) : Turn P w K tg (Itl K a) [it] it (fun i h => h.IsListIter it a i) where
  mem := by simp
  obj := fun i h st b hb => by
    have e : b = it := by simpa using hb
    subst e
    obtain ⟨o, e, c, d⟩ := st
    exact ⟨o, e, fun v z => by rw [d] at z; cases z⟩
  keep := fun i h h' st k => st.at fun o e => k it (by simp) o e
  item := by
    intro X hP hw hK hc i pins s σ H E I hf st hg
    subst hP hw hK
    obtain ⟨xs, x, hq, hx⟩ := hg
    obtain ⟨its, rv, p, hz⟩ := I.list hq
    obtain ⟨u, hu, ru⟩ := rv.get hx
    obtain ⟨f0, f1, f2, f3, f4, f5⟩ := hf it (by simp)
    refine wpAny_pyNext_list_item st p.isList (x := u) (by simpa using hu) fun h' st' sb => ?_
    have I1 : Inv X pins σ H { s with heap := h' } := I.turned (t' := s.toks) (fun b o hb e => (sb.2 b hb).trans e) f0 f1 f3 f4 f5
    obtain ⟨o, e, c, d⟩ := id st'
    exact ⟨u, rfl, go_of (s := { s with heap := h' }) e c d (by decide) ⟨x, H, I1, ru, ⟨rfl, fun ys hy => by rw [I.list_inj hy hq]; exact hx⟩, st', fun b hb => (hf b hb).1⟩⟩
  done := by
    intro X hP hw hK hc i pins s σ H E I hf st hg
    subst hP hw hK
    obtain ⟨xs, hq, hx⟩ := hg
    obtain ⟨its, rv, p, hz⟩ := I.list hq
    obtain ⟨f0, f1, f2, f3, f4, f5⟩ := hf it (by simp)
    have hl := rv.length
    exact wpAny_pyNext_list_end (I.ok.hd hc) st p.isList (by simp; omega) fun h' eb => ⟨rfl, I.turned (t' := s.toks) (fun b o hb e => eb b o hb e) f0 f1 f3 f4 f5⟩
  self := fun _ _ _ _ _ st h => wpAny_pyIter_listiter st h
theorem turn_tuple {P : Program} {w : World} {K : PySem.W.Frag} {tg : Expr} (a it : Addr) : Turn P w K tg (Itt K a) [it] it (fun i h => h.IsTupleIter it a i) where
  mem := by simp
  obj := fun i h st b hb => by
    have e : b = it := by simpa using hb
    subst e
    obtain ⟨o, e, c, d⟩ := st
    exact ⟨o, e, fun v z => by rw [d] at z; cases z⟩
  keep := fun i h h' st k => st.at fun o e => k it (by simp) o e
  item := by
    intro X hP hw hK hc i pins s σ H E I hf st hg
    subst hP hw hK
    obtain ⟨xs, x, hq, hx⟩ := hg
    obtain ⟨its, rv, p, hz⟩ := I.tuple hq
    obtain ⟨u, hu, ru⟩ := rv.get hx
    obtain ⟨f0, f1, f2, f3, f4, f5⟩ := hf it (by simp)
    refine wpAny_pyNext_tuple_item st (show s.heap.IsTuple a its.toArray from p) (x := u) (by simpa using hu) fun h' st' sb => ?_
    have I1 : Inv X pins σ H { s with heap := h' } := I.turned (t' := s.toks) (fun b o hb e => (sb.2 b hb).trans e) f0 f1 f3 f4 f5
    obtain ⟨o, e, c, d⟩ := id st'
    exact ⟨u, rfl, go_of (s := { s with heap := h' }) e c d (by decide) ⟨x, H, I1, ru, ⟨rfl, fun ys hy => by rw [I.tuple_inj hy hq]; exact hx⟩, st', fun b hb => (hf b hb).1⟩⟩
  done := by
    intro X hP hw hK hc i pins s σ H E I hf st hg
    subst hP hw hK
    obtain ⟨xs, hq, hx⟩ := hg
    obtain ⟨its, rv, p, hz⟩ := I.tuple hq
    obtain ⟨f0, f1, f2, f3, f4, f5⟩ := hf it (by simp)
    have hl := rv.length
    exact wpAny_pyNext_tuple_end (I.ok.hd hc) st (show s.heap.IsTuple a its.toArray from p) (by simp; omega) fun h' eb => ⟨rfl, I.turned (t' := s.toks) (fun b o hb e => eb b o hb e) f0 f1 f3 f4 f5⟩
  self := fun _ _ _ _ _ st h => wpAny_pyIter_tupleiter st h
theorem turn_range {P : Program} {w : World} {K : PySem.W.Frag} {tg : Expr} (it : Addr) (lo : Int) (n : Nat) : Turn P w K tg (Itr lo n) [it] it (fun i h => IsRangeIter h it (lo + (i : Nat) * 1) ((n : Int) - (i : Nat)) 1) where
  mem := by simp
  obj := fun i h st b hb => by
    have e : b = it := by simpa using hb
    subst e
    exact ⟨_, st, fun v z => by
      have z' : Data.fields _ = Data.cell v := z
      cases z'⟩
  keep := fun i h h' st k => k it (by simp) _ st
  item := by
    intro X hP hw hK hc i pins s σ H E I hf st hg
    subst hP hw hK
    obtain ⟨f0, f1, f2, f3, f4, f5⟩ := hf it (by simp)
    have W := Walks.range (prog := X.prog) (w := X.w) (I.ok.hd hc) it lo 1 n
    refine W.item i s _ _ hg st fun v h' tk hv st' kk => ?_
    obtain ⟨t, rfl⟩ := hv
    have I1 : Inv X pins σ H { s with heap := h', toks := tk } := I.turned (fun b o hb e => kk b o (by simpa using hb) e) f0 f1 f3 f4 f5
    refine ⟨_, rfl, go_of (s := { s with heap := h', toks := tk }) (n := "range_iterator") st' rfl rfl (by decide) ⟨.int (lo + i), H, I1, ⟨t, ?_⟩, ⟨rfl, rfl⟩, st', fun b hb => (hf b hb).1⟩⟩
    rw [Int.mul_one]
  done := by
    intro X hP hw hK hc i pins s σ H E I hf st hg
    subst hP hw hK
    obtain ⟨f0, f1, f2, f3, f4, f5⟩ := hf it (by simp)
    exact wpAny_pyNext_range_end (I.ok.hd hc) st (by have : n ≤ i := hg; omega) fun h' eb => ⟨rfl, I.turned (t' := s.toks) (fun b o hb e => eb b o hb e) f0 f1 f3 f4 f5⟩
  self := fun _ _ _ _ _ st h => wpAny_pyIter_rangeiter st h
end L2

namespace L2
open PySem PySem.Spec PyProof.Rows
section
variable {X : Cx} {tg : Expr}
/-- a range object just made, walked -/
theorem range_it {pins : List (Addr × Obj)} {σ : St} {H : Hp} {s : Shared} {R : It → Hp → Prop} {E : Value → Shared → Prop} {lo hi : Int} {t u v : Tok} {tk : Nat} (I : Inv X pins σ H s) (h1 : -(2 ^ 62) ≤ lo) (h2 : lo < 2 ^ 62) (h3 : -(2 ^ 62) ≤ hi) (h4 : hi < 2 ^ 62)
    (q : R (Itr lo (hi - lo).toNat) H) : wpAny (model X.prog X.w) X.A (pyIter (.ref s.heap.objs.size)) (PIE X pins σ tg R) E { s with heap := s.heap.push { cls := .type "range", data := .fields #[.int lo t, .int hi u, .int 1 v] }, toks := tk } := by
  refine wpAny_pyIter_range (IsRange.new ..) (small_one h1 h2 h3 h4) ?_
  have I1 : Inv X pins σ H { s with heap := s.heap.push { cls := .type "range", data := .fields #[.int lo t, .int hi u, .int 1 v] }, toks := tk } := I.kept fun b o e => Heap.get?_push_of_some _ e
  refine ⟨(s.heap.push { cls := .type "range", data := .fields #[.int lo t, .int hi u, .int 1 v] }).objs.size, [(s.heap.push { cls := .type "range", data := .fields #[.int lo t, .int hi u, .int 1 v] }).objs.size], _, _, H, rfl,
    I1.kept (t' := tk) fun b o e => Heap.get?_push_of_some _ e, turn_range _ lo (hi - lo).toNat, ?_, fun b hb => ?_, q⟩
  · have e1 : lo + ((0 : Nat) : Int) * 1 = lo := by simp
    have e2 : (((hi - lo).toNat : Nat) : Int) - ((0 : Nat) : Int) = Builtin.Range.rangeSize lo hi 1 := by rw [rangeSize_one]; split <;> omega
    show IsRangeIter _ _ (lo + ((0 : Nat) : Int) * 1) ((((hi - lo).toNat : Nat) : Int) - ((0 : Nat) : Int)) 1
    rw [e1, e2]
    exact Heap.get?_push_size _ rfl
  · have e : b = (s.heap.push { cls := .type "range", data := .fields #[.int lo t, .int hi u, .int 1 v] }).objs.size := by simpa using hb
    subst e
    exact I1.fpOk (Nat.le_refl _) (I1.hok.fresh (Nat.le_refl _))
noncomputable def iRng1 (ta : TA) : TI := fun σ H R => ta σ H fun vs H1 => ∃ j : Int, vs = [.int j] ∧ -(2 ^ 62) ≤ j ∧ j < 2 ^ 62 ∧ R (Itr 0 j.toNat) H1
theorem pi_range1 {a : Expr} {ta : TA} {p pos : Pos} (hg : Gl X "range") (hm : X.mg "range" = none) (ha : PA X [a] ta) (hs : starEach [a] X.env = [(false, eval a X.env)] := by rfl) : PI X tg (.Call (.Name "range" p) [a] [] pos) (iRng1 ta) := by
  intro pins s σ H R I h
  refine Call_ (ld_blt I hg hm boot_range (PyProof.Rows.callWith_type1 (thn (ha pos pins s σ H _ I h) fun us s1 ⟨vs, H1, I1, r1, q1⟩ => ?_) hs rfl))
  obtain ⟨j, e, q1, q2, q⟩ := q1
  subst e
  cases r1 with
  | cons r rr =>
    cases rr
    obtain ⟨t, rfl⟩ := r
    exact call_range_1 (range_it I1 (by omega) (by omega) q1 q2 (by simpa using q))
/-! ### for -/
/-- W: the invariant by the turn and a measure; N: what the body is to reach -/
noncomputable def tFor (wi : TI) (g : TG) (tb : TS) : TS := fun D σ H => wi σ H fun J H1 => ∃ W : Nat → Nat → St → Hp → Prop, (∃ m, W 0 m σ H1) ∧ ∀ i m σ H, W i m σ H →
  (J.stop i H ∧ D.nx σ H) ∨ (J.go i H ∧ ∃ N : St → Hp → Prop, (∀ σ' H', N σ' H' → ∃ m', m' < m ∧ W (i + 1) m' σ' H') ∧ ∀ x H', J.yld i H x H' → g x σ H' fun σ2 H2 => tb { D with nx := N, ct := N, bk := D.nx } σ2 H2)
/-- the records at fp as they stand -/
noncomputable def pinsAt (fp : List Addr) (h : Heap) : List (Addr × Obj) := fp.filterMap fun b => (h.get? b).map fun o => (b, o)
theorem mem_pinsAt {fp : List Addr} {h : Heap} {b : Addr} {o : Obj} (hb : b ∈ fp) (e : h.get? b = some o) : (b, o) ∈ pinsAt fp h := List.mem_filterMap.mpr ⟨b, hb, by rw [e]; rfl⟩
theorem of_pinsAt {fp : List Addr} {h : Heap} {p : Addr × Obj} (hp : p ∈ pinsAt fp h) : p.1 ∈ fp ∧ h.get? p.1 = some p.2 := by
  obtain ⟨b, hb, e⟩ := List.mem_filterMap.mp hp
  cases q : h.get? b with
  | none => rw [q] at e; cases e
  | some o =>
    rw [q] at e
    have e' : (b, o) = p := Option.some.inj e
    subst e'
    exact ⟨hb, q⟩
theorem Inv.pinned {pins : List (Addr × Obj)} {σ : St} {H : Hp} {s : Shared} {fp : List Addr} (I : Inv X pins σ H s) (hf : ∀ b ∈ fp, FpOk X pins H b) (ho : ∀ b ∈ fp, ∃ o, s.heap.get? b = some o ∧ ∀ v, o.data ≠ .cell v) : Inv X (pins ++ pinsAt fp s.heap) σ H s :=
  I.pins_of fun p hp => (List.mem_append.mp hp).elim (fun z => I.pin p (List.mem_append_right _ z)) fun z => by
    obtain ⟨hb, e⟩ := of_pinsAt z
    obtain ⟨f0, f1, f2, _⟩ := hf p.1 hb
    obtain ⟨o, e', d⟩ := ho p.1 hb
    rw [e] at e'; cases e'
    exact ⟨e, f0, f1, f2, d⟩
theorem Inv.unpinned {pins pl : List (Addr × Obj)} {σ : St} {H : Hp} {s : Shared} (I : Inv X (pins ++ pl) σ H s) : Inv X pins σ H s := I.pins_of fun p hp => I.pin p (List.mem_append_right _ (List.mem_append_left _ hp))
theorem ps_for {iter : Expr} {body : List Stmt} {wi : TI} {g : TG} {tb : TS} {pos : Pos} (hp : PassesOwn (model X.prog X.w) X.A X.env X.xe) (hc : X.calm = true) (hi : PI X tg iter wi) (hg : PG X tg g) (hb : PSs X body tb)
    (hs : ∀ x, foldedSetIterable iter X.env x = pure x := by intro _; rfl) : PS X (.For tg iter body [] pos) (tFor wi g tb) := by
  intro pins s σ H D I h
  refine wpAny_For (thn (hi pins s σ H _ I h) fun v s1 h1 => thn h1 fun itv s2 h2 => ?_) hs
  obtain ⟨it, fp, tn, J, H2, e, I2, T, st2, f2, W, ⟨m0, w0⟩, turn⟩ := h2
  subst e
  -- what stays true of the iterator's objects through the loop
  have stat : ∀ {H' : Hp}, (∀ b ∈ fp, H' b = none) → ∀ b ∈ fp, FpOk X pins H' b := fun hn b hb => ⟨hn b hb, (f2 b hb).2⟩
  refine codeAny_forLoop_any (fun n s' => ∃ i σ' H', Inv X pins σ' H' s' ∧ tn i s'.heap ∧ (∀ b ∈ fp, H' b = none) ∧ W i n σ' H') ?_ m0 ⟨0, σ, H2, I2, st2, fun b hb => (f2 b hb).1, w0⟩
  rintro n s3 ⟨i, σ3, H3, I3, st3, fr3, w3⟩
  rcases turn i n σ3 H3 w3 with ⟨stop, qn⟩ | ⟨go, N, hN, step⟩
  · refine wpAny_passesOwn hp (thn (T.done X rfl rfl rfl hc i pins s3 σ3 H3 X.xe I3 (stat fr3) st3 stop) fun r s4 ⟨hr, I4⟩ => ?_)
    subst hr
    exact wpAny_execs_nil ⟨σ3, H3, I4, qn⟩
  · refine wpAny_passesOwn hp (thn (T.item X rfl rfl rfl hc i pins s3 σ3 H3 X.xe I3 (stat fr3) st3 go) fun r s4 ⟨u, hr, h4⟩ => ?_)
    subst hr
    refine wpAny_passesOwn hp (thn h4 fun _ s5 ⟨x, H5, I5, r5, y5, st5, fr5⟩ => ?_)
    have I5' := I5.pinned (stat fr5) (T.obj _ _ st5)
    refine wpAny_passesOwn hp (thn (hg _ s5 σ3 H5 x u _ I5' r5 (step x H5 y5)) fun _ s6 ⟨σ6, H6, I6, q6⟩ => ?_)
    refine wpAny_passesOwn hp (thn (hb _ s6 σ6 H6 _ I6 q6) fun f s7 q7 => ?_)
    have again : ∀ {σ7 : St} {H7 : Hp}, Inv X (pins ++ pinsAt fp s5.heap) σ7 H7 s7 → N σ7 H7 → ∃ m, m < n ∧ ∃ i σ' H', Inv X pins σ' H' s7 ∧ tn i s7.heap ∧ (∀ b ∈ fp, H' b = none) ∧ W i m σ' H' := fun {σ7 H7} I7 n7 => by
      obtain ⟨m', hm, w7⟩ := hN σ7 H7 n7
      refine ⟨m', hm, i + 1, σ7, H7, I7.unpinned, T.keep _ _ _ st5 fun b hb o e => (I7.pin (b, o) (List.mem_append_right _ (List.mem_append_right _ (mem_pinsAt hb e)))).1, fun b hb => ?_, w7⟩
      obtain ⟨o, e, d⟩ := T.obj _ _ st5 b hb
      exact (I7.pin (b, o) (List.mem_append_right _ (List.mem_append_right _ (mem_pinsAt hb e)))).2.1
    cases f with
    | next => obtain ⟨σ7, H7, I7, n7⟩ := q7; exact again I7 n7
    | cont => obtain ⟨σ7, H7, I7, n7⟩ := q7; exact again I7 n7
    | brk => obtain ⟨σ7, H7, I7, q7⟩ := q7; exact ⟨σ7, H7, I7.unpinned, q7⟩
    | ret v => obtain ⟨x7, σ7, H7, I7, r7, q7⟩ := q7; exact ⟨x7, σ7, H7, I7.unpinned, r7, q7⟩
end

/-! ### the forms one uses -/
/-- over a list that the body leaves as it is -/
theorem for_list {K : PySem.W.Frag} {a : Addr} {xs : List V} {g : TG} {tb : TS} {D : Ends} {σ : St} {H : Hp} (Pv : Nat → St → Hp → Prop) (h0 : Pv 0 σ H) (hl : ∀ i σ H, i ≤ xs.length → Pv i σ H → SqL K H a xs)
    (hs : ∀ i x σ H, xs[i]? = some x → Pv i σ H → g x σ H fun σ2 H2 => tb { D with nx := Pv (i + 1), ct := Pv (i + 1), bk := D.nx } σ2 H2) (hd : ∀ σ H, Pv xs.length σ H → D.nx σ H) :
    ∃ W : Nat → Nat → St → Hp → Prop, (∃ m, W 0 m σ H) ∧ ∀ i m σ H, W i m σ H →
      ((Itl K a).stop i H ∧ D.nx σ H) ∨ ((Itl K a).go i H ∧ ∃ N : St → Hp → Prop, (∀ σ' H', N σ' H' → ∃ m', m' < m ∧ W (i + 1) m' σ' H') ∧ ∀ x H', (Itl K a).yld i H x H' → g x σ H' fun σ2 H2 => tb { D with nx := N, ct := N, bk := D.nx } σ2 H2) := by
  refine ⟨fun i m σ H => m = xs.length - i ∧ i ≤ xs.length ∧ Pv i σ H, ⟨xs.length, by simp, Nat.zero_le _, h0⟩, ?_⟩
  rintro i m σ H ⟨rfl, hi, p⟩
  have q := hl i σ H hi p
  by_cases hlt : i < xs.length
  · refine .inr ⟨⟨xs, xs[i], q, by simp [hlt]⟩, Pv (i + 1), fun σ' H' p' => ⟨xs.length - (i + 1), by omega, rfl, hlt, p'⟩, fun x H' y => ?_⟩
    obtain ⟨e, y⟩ := y
    subst e
    exact hs i x σ _ (y xs q) p
  · have e : i = xs.length := by omega
    subst e
    exact .inl ⟨⟨xs, q, Nat.le_refl _⟩, hd σ H p⟩
theorem for_range {lo : Int} {n : Nat} {g : TG} {tb : TS} {D : Ends} {σ : St} {H : Hp} (Pv : Nat → St → Hp → Prop) (h0 : Pv 0 σ H)
    (hs : ∀ i σ H, i < n → Pv i σ H → g (.int (lo + i)) σ H fun σ2 H2 => tb { D with nx := Pv (i + 1), ct := Pv (i + 1), bk := D.nx } σ2 H2) (hd : ∀ σ H, Pv n σ H → D.nx σ H) :
    ∃ W : Nat → Nat → St → Hp → Prop, (∃ m, W 0 m σ H) ∧ ∀ i m σ H, W i m σ H →
      ((Itr lo n).stop i H ∧ D.nx σ H) ∨ ((Itr lo n).go i H ∧ ∃ N : St → Hp → Prop, (∀ σ' H', N σ' H' → ∃ m', m' < m ∧ W (i + 1) m' σ' H') ∧ ∀ x H', (Itr lo n).yld i H x H' → g x σ H' fun σ2 H2 => tb { D with nx := N, ct := N, bk := D.nx } σ2 H2) := by
  refine ⟨fun i m σ H => m = n - i ∧ i ≤ n ∧ Pv i σ H, ⟨n, by simp, Nat.zero_le _, h0⟩, ?_⟩
  rintro i m σ H ⟨rfl, hi, p⟩
  by_cases hlt : i < n
  · refine .inr ⟨hlt, Pv (i + 1), fun σ' H' p' => ⟨n - (i + 1), by omega, rfl, hlt, p'⟩, fun x H' y => ?_⟩
    obtain ⟨e, y⟩ := y
    subst e y
    exact hs i σ _ hlt p
  · have e : i = n := by omega
    subst e
    exact .inl ⟨Nat.le_refl _, hd σ H p⟩
end L2

namespace L2
open PySem PySem.Spec PyProof.Rows

noncomputable abbrev R2 := V → V → Hp → VK → Prop
/-- a two-place operation on values: f is binaryOp op, inplaceOp op or compareOp op -/
noncomputable def OpR (X : Cx) (f : Value → Value → Sem Value) (r : R2) : Prop :=
  ∀ (pins : List (Addr × Obj)) (s : Shared) (σ : St) (H : Hp) (x y : V) (v u : Value) (Q : VK), Inv X pins σ H s → RelV x v → RelV y u → r x y H Q →
    wpAny (model X.prog X.w) X.A (f v u) (EP X pins σ Q) X.xe s
/-- a one-place operation -/
noncomputable def UnR (X : Cx) (f : Value → Sem Value) (r : V → Hp → VK → Prop) : Prop :=
  ∀ (pins : List (Addr × Obj)) (s : Shared) (σ : St) (H : Hp) (x : V) (v : Value) (Q : VK), Inv X pins σ H s → RelV x v → r x H Q →
    wpAny (model X.prog X.w) X.A (f v) (EP X pins σ Q) X.xe s
/-- a call of a value that is known (a builtin, a type) with values -/
noncomputable def CallR (X : Cx) (f : Value) (r : List V → Hp → VK → Prop) : Prop :=
  ∀ (pins : List (Addr × Obj)) (s : Shared) (σ : St) (H : Hp) (xs : List V) (us : List Value) (Q : VK), Inv X pins σ H s → Vals xs us → r xs H Q →
    wpAny (model X.prog X.w) X.A (call f us) (EP X pins σ Q) X.xe s
/-- a value's truth -/
noncomputable def TruR (X : Cx) (r : V → Hp → (Bool → Hp → Prop) → Prop) : Prop :=
  ∀ (pins : List (Addr × Obj)) (s : Shared) (σ : St) (H : Hp) (x : V) (v : Value) (Q : Bool → Hp → Prop), Inv X pins σ H s → RelV x v → r x H Q →
    wpAny (model X.prog X.w) X.A (truthy v) (TP X pins σ Q) X.xe s

noncomputable def tOp (r : R2) (ta tb : TE) : TE := fun σ H Q => ta σ H fun x H1 => tb σ H1 fun y H2 => r x y H2 Q
noncomputable def tUn (r : V → Hp → VK → Prop) (ta : TE) : TE := fun σ H Q => ta σ H fun x H1 => r x H1 Q
/-- ints in, under C, and a value out -/
noncomputable def rI (C : Int → Int → Prop) (g : Int → Int → V) : R2 := fun x y H Q => ∃ i j, x = .int i ∧ y = .int j ∧ C i j ∧ Q (g i j) H
noncomputable def rI0 (g : Int → Int → V) : R2 := fun x y H Q => ∃ i j, x = .int i ∧ y = .int j ∧ Q (g i j) H
noncomputable def rU (g : Int → V) : V → Hp → VK → Prop := fun x H Q => ∃ i, x = .int i ∧ Q (g i) H

section
variable {X : Cx} {a b c : Expr} {ta tb tc : TE} {pos : Pos}

theorem binT (ha : PE X a ta) (hb : PE X b tb) {pins : List (Addr × Obj)} {s : Shared} {σ : St} {H : Hp} {R : V → V → Hp → Prop} (I : Inv X pins σ H s)
    (h : ta σ H fun x H1 => tb σ H1 fun y H2 => R x y H2) {Q : Value → Shared → Prop} {f : Value → Value → Sem Value}
    (hf : ∀ v u s2 x y H2, Inv X pins σ H2 s2 → RelV x v → RelV y u → R x y H2 → wpAny (model X.prog X.w) X.A (f v u) Q X.xe s2) :
    wpAny (model X.prog X.w) X.A (eval a X.env) (fun v s₁ => wpAny (model X.prog X.w) X.A (eval b X.env) (fun u s₂ => wpAny (model X.prog X.w) X.A (f v u) Q X.xe s₂) X.xe s₁) X.xe s := by
  refine thn (ha pins s σ H _ I h) fun v s1 ⟨x, H1, I1, r1, q1⟩ => ?_
  refine thn (hb pins s1 σ H1 _ I1 q1) fun u s2 ⟨y, H2, I2, r2, q2⟩ => ?_
  exact hf v u s2 x y H2 I2 r1 r2 q2

theorem pe_op {op : Operator} {r : R2} (ho : OpR X (binaryOp op) r) (ha : PE X a ta) (hb : PE X b tb) : PE X (.BinOp a op b pos) (tOp r ta tb) := by
  intro pins s σ H Q I h
  exact wpAny_BinOp (binT ha hb I h fun v u s2 x y H2 I2 rx ry q => ho pins s2 σ H2 x y v u Q I2 rx ry q)
theorem pe_un {op : UnaryOp} {r : V → Hp → VK → Prop} (ho : UnR X (unaryOp op) r) (ha : PE X a ta) : PE X (.UnaryOp op a pos) (tUn r ta) := by
  intro pins s σ H Q I h
  exact UnaryOp_ (thn (ha pins s σ H _ I h) fun v s1 ⟨x, H1, I1, r1, q1⟩ => ho pins s1 σ H1 x v Q I1 r1 q1)
/-! ### ints -/
theorem opI {f : Value → Value → Sem Value} {C : Int → Int → Prop} {g : Int → Int → Int}
    (rule : ∀ (i j : Int) (t u : Tok) (s : Shared) (Q : Value → Shared → Prop) (E : Value → Shared → Prop), C i j → Q (.int (g i j) s.toks) { s with toks := s.toks + 1 } → wpAny (model X.prog X.w) X.A (f (.int i t) (.int j u)) Q E s) :
    OpR X f (rI C fun i j => .int (g i j)) := by
  intro pins s σ H x y v u Q I rx ry h
  obtain ⟨i, j, rfl, rfl, hc, q⟩ := h
  obtain ⟨t, rfl⟩ := rx
  obtain ⟨t', rfl⟩ := ry
  exact rule i j t t' s _ _ hc ⟨.int (g i j), H, I.tok _, ⟨_, rfl⟩, q⟩
theorem opI0 {f : Value → Value → Sem Value} {g : Int → Int → Int}
    (rule : ∀ (i j : Int) (t u : Tok) (s : Shared) (Q : Value → Shared → Prop) (E : Value → Shared → Prop), Q (.int (g i j) s.toks) { s with toks := s.toks + 1 } → wpAny (model X.prog X.w) X.A (f (.int i t) (.int j u)) Q E s) :
    OpR X f (rI0 fun i j => .int (g i j)) := by
  intro pins s σ H x y v u Q I rx ry h
  obtain ⟨i, j, rfl, rfl, q⟩ := h
  obtain ⟨t, rfl⟩ := rx
  obtain ⟨t', rfl⟩ := ry
  exact rule i j t t' s _ _ ⟨.int (g i j), H, I.tok _, ⟨_, rfl⟩, q⟩
theorem opB0 {f : Value → Value → Sem Value} {g : Int → Int → Bool}
    (rule : ∀ (i j : Int) (t u : Tok) (s : Shared) (Q : Value → Shared → Prop) (E : Value → Shared → Prop), Q (.bool (g i j)) s → wpAny (model X.prog X.w) X.A (f (.int i t) (.int j u)) Q E s) :
    OpR X f (rI0 fun i j => .bl (g i j)) := by
  intro pins s σ H x y v u Q I rx ry h
  obtain ⟨i, j, rfl, rfl, q⟩ := h
  obtain ⟨t, rfl⟩ := rx
  obtain ⟨t', rfl⟩ := ry
  exact rule i j t t' s _ _ ⟨.bl (g i j), H, I, rfl, q⟩

noncomputable def CPow (i j : Int) : Prop := 0 ≤ j ∧ j ≤ 1000000 ∧ i.natAbs < 2 ^ 64
noncomputable def CMul (i j : Int) : Prop := (-(2 ^ 64) < i ∧ i < 2 ^ 64) ∨ (-(2 ^ 64) < j ∧ j < 2 ^ 64)
theorem CMul.ok {i j : Int} (h : CMul i j) : IntMulOk i j := by
  rcases h with ⟨h1, h2⟩ | ⟨h1, h2⟩
  · exact .of_left (intBits_le_64 h1 h2)
  · exact .of_right (intBits_le_64 h1 h2)
theorem op_add : OpR X (binaryOp .Add) (rI0 fun i j => .int (i + j)) := opI0 fun _ _ _ _ _ _ _ q => add_int q
theorem op_sub : OpR X (binaryOp .Sub) (rI0 fun i j => .int (i - j)) := opI0 fun _ _ _ _ _ _ _ q => sub_int q
/-- % by a positive divisor of any size -/
theorem op_mod : OpR X (binaryOp .Mod) (rI (fun _ j => 0 < j) fun i j => .int (i % j)) := opI fun i j _ _ _ _ _ hc q => by
  have h1 : (0 : Int) < j := hc
  exact mod_int' (by omega) (by rw [Int.fmod_eq_emod_of_nonneg i (by omega)]; exact q)
theorem op_pow : OpR X (binaryOp .Pow) (rI CPow fun i j => .int (i ^ j.toNat)) := opI fun _ _ _ _ _ _ _ hc q => pow_int_small hc.1 hc.2.1 hc.2.2 q
theorem unI {f : Value → Sem Value} {g : Int → Int}
    (rule : ∀ (i : Int) (t : Tok) (s : Shared) (Q : Value → Shared → Prop) (E : Value → Shared → Prop), Q (.int (g i) s.toks) { s with toks := s.toks + 1 } → wpAny (model X.prog X.w) X.A (f (.int i t)) Q E s) :
    UnR X f (rU fun i => .int (g i)) := by
  intro pins s σ H x v Q I rx h
  obtain ⟨i, rfl, q⟩ := h
  obtain ⟨t, rfl⟩ := rx
  exact rule i t s _ _ ⟨.int (g i), H, I.tok _, ⟨_, rfl⟩, q⟩
theorem un_neg : UnR X (unaryOp .USub) (rU fun i => .int (-i)) := unI fun _ _ _ _ _ q => neg_int q
/-! ### bools among ints: n += (a < b) -/
end

/-! ### comparisons -/
/-- the scalars that == tells apart as data does -/
noncomputable def scal : V → V → Bool
  | .non, .non => true | .non, .int _ => true | .int _, .non => true | .non, .bl _ => true | .bl _, .non => true | .non, .str _ => true | .str _, .non => true
  | .int _, .int _ => true | .bl _, .bl _ => true | .str _, .str _ => true | .byt _, .byt _ => true
  | .int _, .str _ => true | .str _, .int _ => true | .bl _, .str _ => true | .str _, .bl _ => true
  | _, _ => false
noncomputable def rEq : R2 := fun x y H Q => scal x y = true ∧ Q (.bl (decide (x = y))) H
noncomputable def rNe : R2 := fun x y H Q => scal x y = true ∧ Q (.bl (!decide (x = y))) H

theorem dec_int {i j : Int} : decide (V.int i = V.int j) = (i == j) := by
  rw [Bool.eq_iff_iff]
  simp
theorem dec_bl {i j : Bool} : decide (V.bl i = V.bl j) = (i == j) := by
  rw [Bool.eq_iff_iff]
  simp
theorem dec_str {i j : Str} : decide (V.str i = V.str j) = (i == j) := by
  rw [Bool.eq_iff_iff]
  simp
theorem dec_byt {i j : Array UInt8} : decide (V.byt i = V.byt j) = (i.toList == j.toList) := by
  rw [Bool.eq_iff_iff]
  cases i
  cases j
  simp

section
variable {X : Cx} {a b c : Expr} {ta tb tc : TE} {pos : Pos}
theorem fin_bl {pins : List (Addr × Obj)} {σ : St} {H : Hp} {s : Shared} {Q : VK} {k k' : Bool} (I : Inv X pins σ H s) (q : Q (.bl k) H) (e : k = k') : EP X pins σ Q (.bool k') s := by
  subst e
  exact ⟨.bl k, H, I, rfl, q⟩
theorem op_eq : OpR X (compareOp .Eq) rEq := by
  intro pins s σ H x y v u Q I rx ry h
  obtain ⟨hs, q⟩ := h
  cases x with
  | non =>
    cases rx
    cases y with
    | non => cases ry; exact PySem.EqNone.eq_none_none (fin_bl I q (by simp))
    | bl j => cases ry; exact PySem.EqNone.eq_none_bool (fin_bl I q (by simp))
    | int j => obtain ⟨t', rfl⟩ := ry; exact PySem.EqNone.eq_none_int (fin_bl I q (by simp))
    | str j => obtain ⟨t', rfl⟩ := ry; exact PySem.EqNone.eq_none_str (fin_bl I q (by simp))
    | _ => exact absurd (show false = true from hs) Bool.false_ne_true
  | bl i =>
    cases rx
    cases y with
    | non => cases ry; exact PySem.EqNone.eq_bool_none (fin_bl I q (by simp))
    | bl j => cases ry; exact eq_bool (fin_bl I q dec_bl)
    | str j => obtain ⟨t', rfl⟩ := ry; exact PySem.EqMixed.eq_bool_str (fin_bl I q (by simp))
    | _ => exact absurd (show false = true from hs) Bool.false_ne_true
  | int i =>
    obtain ⟨t, rfl⟩ := rx
    cases y with
    | non => cases ry; exact PySem.EqNone.eq_int_none (fin_bl I q (by simp))
    | int j => obtain ⟨t', rfl⟩ := ry; exact eq_int (fin_bl I q dec_int)
    | str j => obtain ⟨t', rfl⟩ := ry; exact PySem.EqMixed.eq_int_str (fin_bl I q (by simp))
    | _ => exact absurd (show false = true from hs) Bool.false_ne_true
  | str i =>
    obtain ⟨t, rfl⟩ := rx
    cases y with
    | non => cases ry; exact PySem.EqNone.eq_str_none (fin_bl I q (by simp))
    | bl j => cases ry; exact PySem.EqMixed.eq_str_bool (fin_bl I q (by simp))
    | int j => obtain ⟨t', rfl⟩ := ry; exact PySem.EqMixed.eq_str_int (fin_bl I q (by simp))
    | str j => obtain ⟨t', rfl⟩ := ry; exact eq_str (fin_bl I q dec_str)
    | _ => exact absurd (show false = true from hs) Bool.false_ne_true
  | byt i =>
    obtain ⟨t, rfl⟩ := rx
    cases y with
    | byt j => obtain ⟨t', rfl⟩ := ry; exact PySem.W.eq_bytes (fin_bl I q dec_byt)
    | _ => exact absurd (show false = true from hs) Bool.false_ne_true
  | _ => cases y <;> exact absurd (show false = true from hs) Bool.false_ne_true
theorem op_ne : OpR X (compareOp .NotEq) rNe := by
  intro pins s σ H x y v u Q I rx ry h
  obtain ⟨hs, q⟩ := h
  cases x with
  | non =>
    cases rx
    cases y with
    | non => cases ry; exact PySem.EqNone.ne_none_none (fin_bl I q (by simp))
    | bl j => cases ry; exact PySem.EqNone.ne_none_bool (fin_bl I q (by simp))
    | int j => obtain ⟨t', rfl⟩ := ry; exact PySem.EqNone.ne_none_int (fin_bl I q (by simp))
    | str j => obtain ⟨t', rfl⟩ := ry; exact PySem.EqNone.ne_none_str (fin_bl I q (by simp))
    | _ => exact absurd (show false = true from hs) Bool.false_ne_true
  | bl i =>
    cases rx
    cases y with
    | non => cases ry; exact PySem.EqNone.ne_bool_none (fin_bl I q (by simp))
    | bl j => cases ry; exact ne_bool (fin_bl I q (congrArg not dec_bl))
    | str j => obtain ⟨t', rfl⟩ := ry; exact PySem.EqMixed.ne_bool_str (fin_bl I q (by simp))
    | _ => exact absurd (show false = true from hs) Bool.false_ne_true
  | int i =>
    obtain ⟨t, rfl⟩ := rx
    cases y with
    | non => cases ry; exact PySem.EqNone.ne_int_none (fin_bl I q (by simp))
    | int j => obtain ⟨t', rfl⟩ := ry; exact ne_int (fin_bl I q (congrArg not dec_int))
    | str j => obtain ⟨t', rfl⟩ := ry; exact PySem.EqMixed.ne_int_str (fin_bl I q (by simp))
    | _ => exact absurd (show false = true from hs) Bool.false_ne_true
  | str i =>
    obtain ⟨t, rfl⟩ := rx
    cases y with
    | non => cases ry; exact PySem.EqNone.ne_str_none (fin_bl I q (by simp))
    | bl j => cases ry; exact PySem.EqMixed.ne_str_bool (fin_bl I q (by simp))
    | int j => obtain ⟨t', rfl⟩ := ry; exact PySem.EqMixed.ne_str_int (fin_bl I q (by simp))
    | str j => obtain ⟨t', rfl⟩ := ry; exact ne_str (fin_bl I q (congrArg not dec_str))
    | _ => exact absurd (show false = true from hs) Bool.false_ne_true
  | byt i =>
    obtain ⟨t, rfl⟩ := rx
    cases y with
    | byt j => obtain ⟨t', rfl⟩ := ry; exact PySem.W.ne_bytes (fin_bl I q (congrArg not dec_byt))
    | _ => exact absurd (show false = true from hs) Bool.false_ne_true
  | _ => cases y <;> exact absurd (show false = true from hs) Bool.false_ne_true

theorem op_lt : OpR X (compareOp .Lt) (rI0 fun i j => .bl (decide (i < j))) := opB0 fun _ _ _ _ _ _ _ q => lt_int q
theorem op_le : OpR X (compareOp .LtE) (rI0 fun i j => .bl (decide (i ≤ j))) := opB0 fun _ _ _ _ _ _ _ q => le_int q
theorem op_gt : OpR X (compareOp .Gt) (rI0 fun i j => .bl (decide (j < i))) := opB0 fun _ _ _ _ _ _ _ q => gt_int q
theorem op_lt_str : OpR X (compareOp .Lt) (fun x y H Q => ∃ i j, x = .str i ∧ y = .str j ∧ Q (.bl (decide (i.cps.toList < j.cps.toList))) H) := by
  intro pins s σ H x y v u Q I rx ry h
  obtain ⟨i, j, rfl, rfl, q⟩ := h
  obtain ⟨t, rfl⟩ := rx
  obtain ⟨t', rfl⟩ := ry
  exact lt_str (fin_bl I q rfl)
theorem op_notN : OpR X (compareOp .IsNot) (fun x y H Q => y = .non ∧ Q (.bl (!decide (x = .non))) H) := by
  intro pins s σ H x y v u Q I rx ry h
  obtain ⟨rfl, q⟩ := h
  cases ry
  refine isnot_none_gen (fin_bl I q ?_)
  cases x <;> first
    | (cases rx; rfl)
    | (obtain ⟨t, rfl⟩ := rx; rfl)

/-- two rules for one operation: by cases -/
theorem OpR.or {f : Value → Value → Sem Value} {r r' : R2} (h : OpR X f r) (h' : OpR X f r') : OpR X f (fun x y H Q => r x y H Q ∨ r' x y H Q) := by
  intro pins s σ H x y v u Q I rx ry q
  rcases q with q | q
  · exact h pins s σ H x y v u Q I rx ry q
  · exact h' pins s σ H x y v u Q I rx ry q

theorem nomark (b : Expr) {op : CmpOp} (h : op ≠ .In := by decide) (h2 : op ≠ .NotIn := by decide) : behindInMarks op b = false := by
  have e1 : (op == CmpOp.In) = false := by cases op <;> first | rfl | exact absurd rfl h
  have e2 : (op == CmpOp.NotIn) = false := by cases op <;> first | rfl | exact absurd rfl h2
  cases b <;> simp [behindInMarks, e1, e2]
/-- a comparison as a value; hm: nomark b, or (for in, not in) by with_unfolding_all rfl -/
theorem pe_cmpR {op : CmpOp} {r : R2} (ho : OpR X (compareOp op) r) (ha : PE X a ta) (hb : PE X b tb) (hm : behindInMarks op b = false) : PE X (.Compare a [op] [b] pos) (tOp r ta tb) := by
  intro pins s σ H Q I h
  exact wpAny_Compare1 (binT ha hb I h fun v u s2 x y H2 I2 rx ry q => ho pins s2 σ H2 x y v u Q I2 rx ry q) hm
/-! ### truth -/
/-- a value's truth by the abstract heap -/
noncomputable def TruV (K : PySem.W.Frag) (x : V) (H : Hp) (k : Bool) : Prop :=
  match x with
  | .non => k = false
  | .bl b => k = b
  | .int i => k = (i != 0)
  | .str y => y.length ≤ sizeLine ∧ k = ((y.length : Int) != 0)
  | .byt y => y.size ≤ sizeLine ∧ k = ((y.size : Int) != 0)
  | .ref p => (∃ xs, SqL K H p xs ∧ k = !xs.isEmpty) ∨ (∃ xs, SqT K H p xs ∧ k = !xs.isEmpty) ∨ ∃ kvs, H p = some (.dK kvs) ∧ k = !kvs.isEmpty
  | _ => False
theorem isEmpty_kv {κ : Type} {kvs : List (κ × V)} {vs : List (κ × Value)} (r : KV kvs vs) : (!vs.isEmpty) = !kvs.isEmpty := by
  cases r <;> rfl
theorem isEmpty_of {xs : List V} {its : List Value} (r : Vals xs its) : (!its.toArray.isEmpty) = !xs.isEmpty := by
  cases r <;> simp
theorem line63 : (sizeLine : Nat) < 2 ^ 63 := by rw [sizeLine_eq]; decide
theorem tru_ok : TruR X (fun x H Q => ∃ k, TruV X.K x H k ∧ Q k H) := by
  intro pins s σ H x v Q I rx h
  obtain ⟨k, e, q⟩ := h
  have hl := line63
  have hs : sizeLine = 16777216 := sizeLine_eq
  cases x with
  | non =>
    cases rx
    have e' : k = false := e
    subst e'
    exact truthy_none ⟨H, I, q⟩
  | bl b =>
    cases rx
    have e' : k = b := e
    subst e'
    exact wpAny_truthy_bool ⟨H, I, q⟩
  | int i =>
    obtain ⟨t, rfl⟩ := rx
    have e' : k = (i != 0) := e
    subst e'
    exact PySem.P.truthy_int ⟨H, I, q⟩
  | str y =>
    obtain ⟨t, rfl⟩ := rx
    obtain ⟨hy, e'⟩ : y.length ≤ sizeLine ∧ k = ((y.length : Int) != 0) := e
    subst e'
    exact PySem.P.truthy_str (by omega) ⟨H, I.tok _, q⟩
  | byt y =>
    obtain ⟨t, rfl⟩ := rx
    obtain ⟨hy, e'⟩ : y.size ≤ sizeLine ∧ k = ((y.size : Int) != 0) := e
    subst e'
    exact PySem.W.truthy_bytes (by omega) ⟨H, I.tok _, q⟩
  | ref p =>
    cases rx
    have e' : (∃ xs, SqL X.K H p xs ∧ k = !xs.isEmpty) ∨ (∃ xs, SqT X.K H p xs ∧ k = !xs.isEmpty) ∨ ∃ kvs, H p = some (.dK kvs) ∧ k = !kvs.isEmpty := e
    rcases e' with ⟨xs, hx, e'⟩ | ⟨xs, hx, e'⟩ | ⟨kvs, hx, e'⟩
    · subst e'
      obtain ⟨its, r, pl, hz⟩ := I.list hx
      have hlen := r.length
      exact wpAny_truthy_list pl.isList (by simp only [List.size_toArray]; omega) ⟨H, I.tok _, by rw [isEmpty_of r]; exact q⟩
    · subst e'
      obtain ⟨its, r, pl, hz⟩ := I.tuple hx
      have hlen := r.length
      exact truthy_tuple pl (by simp only [List.size_toArray]; omega) ⟨H, I.tok _, by rw [isEmpty_of r]; exact q⟩
    · subst e'
      obtain ⟨hz, hS, vs, r, m⟩ : kvs.length ≤ sizeLine ∧ (p == sysModules) = false ∧ ∃ vs, KV kvs vs ∧ s.heap.DictOf (mixKind X.prog X.w) p vs := I.hok p _ hx
      have hlen : kvs.length = vs.length := Paired.length r
      exact wpAny_truthy_dict hS m (by omega) ⟨H, I.tok _, by rw [isEmpty_kv r]; exact q⟩
  | _ => exact (show False from e).elim
/-- any expression whose test is its value's truth (a name, a call, a subscript, a field ..: he by fun _ => rfl) -/
theorem pt_truth (ha : PE X a ta) (he : ∀ whole, isTrue a X.env whole = (do let v ← whole; standAt a.pos; holding [v] (truthy v))) :
    PT X a (fun σ H Q => ta σ H fun x H' => ∃ k, TruV X.K x H' k ∧ Q k H') := by
  intro pins s σ H Q I h
  exact isTrue_plain (thn (ha pins s σ H _ I h) fun v s1 ⟨x, H1, I1, r1, q1⟩ => tru_ok pins s1 σ H1 x v Q I1 r1 q1) (he _)

/-! ### strs and bytes -/
theorem op_add_str : OpR X (binaryOp .Add) (fun x y H Q => ∃ i j, x = .str i ∧ y = .str j ∧ i.length + j.length ≤ sizeLine ∧ Q (.str (i ++ j)) H) := by
  intro pins s σ H x y v u Q I rx ry h
  obtain ⟨i, j, rfl, rfl, hz, q⟩ := h
  obtain ⟨t, rfl⟩ := rx
  obtain ⟨t', rfl⟩ := ry
  exact add_str (fun t' tk => ⟨.str (i ++ j), H, I.tok _, ⟨_, rfl⟩, q⟩) hz
/-! ### scalar builtins, by CallR -/
theorem vals1 {x : V} {us : List Value} (r : Vals [x] us) : ∃ u, us = [u] ∧ RelV x u := by
  cases r with
  | cons r1 r2 => cases r2; exact ⟨_, rfl, r1⟩
theorem vals2 {x y : V} {us : List Value} (r : Vals [x, y] us) : ∃ u w', us = [u, w'] ∧ RelV x u ∧ RelV y w' := by
  cases r with
  | cons r1 r2 =>
    cases r2 with
    | cons r3 r4 => cases r4; exact ⟨_, _, rfl, r1, r3⟩
theorem call_abs : CallR X (.builtin "abs") (fun xs H Q => ∃ i, xs = [.int i] ∧ Q (.int (if i < 0 then -i else i)) H) := by
  intro pins s σ H xs us Q I r h
  obtain ⟨i, rfl, q⟩ := h
  obtain ⟨u, rfl, t, rfl⟩ := vals1 r
  exact call_abs_int fun u tk => ⟨.int (if i < 0 then -i else i), H, I.tok _, ⟨_, rfl⟩, q⟩
theorem call_min2 (hc : X.calm = true) : CallR X (.builtin "min") (fun xs H Q => ∃ i j, xs = [.int i, .int j] ∧ Q (.int (if j < i then j else i)) H) := by
  intro pins s σ H xs us Q I r h
  obtain ⟨i, j, rfl, q⟩ := h
  obtain ⟨u, w', rfl, ⟨t, rfl⟩, ⟨t', rfl⟩⟩ := vals2 r
  refine min_two_ints (I.ok.hd hc) fun h' tk k => ⟨_, H, I.kept k, ?_, q⟩
  by_cases hj : j < i
  · rw [if_pos hj, if_pos hj]; exact ⟨_, rfl⟩
  · rw [if_neg hj, if_neg hj]; exact ⟨_, rfl⟩
theorem call_int1 : CallR X (.type "int") (fun xs H Q => (∃ i, xs = [.int i] ∧ Q (.int i) H) ∨ ∃ k, xs = [.bl k] ∧ Q (.int (if k then 1 else 0)) H) := by
  intro pins s σ H xs us Q I r h
  rcases h with ⟨i, rfl, q⟩ | ⟨k, rfl, q⟩
  · obtain ⟨u, rfl, t, rfl⟩ := vals1 r
    exact call_int_int ⟨.int i, H, I, ⟨_, rfl⟩, q⟩
  · obtain ⟨u, rfl, r1⟩ := vals1 r
    cases r1
    exact call_int_bool ⟨.int (if k then 1 else 0), H, I.tok _, ⟨_, rfl⟩, q⟩
end
end L2

namespace L2
open PySem PySem.Spec PyProof.Rows

/-! ### an instance, its attributes a map -/
structure ObjM (h : Heap) (x dx C : Addr) (mA : Str → Option Value) : Prop where
  obj : h.get? x = some (PySem.W.instObj C dx)
  ns : h.Ns1 dx mA
  ne : dx ≠ x

theorem lookIn_ns {h : Heap} {dx : Addr} {mA : Str → Option Value} (n : h.Ns1 dx mA) : ∃ od, h.get? dx = some od ∧ ∀ name, PySem.W.lookIn name od = some (mA name) := by
  obtain ⟨o, es, ep, ho, hd, hk, _, hm⟩ := n
  refine ⟨o, ho, fun name => ?_⟩
  have e := hm name
  unfold nsFind findBy at e
  rw [← Array.find?_toList] at e
  unfold PySem.W.lookIn
  rw [hd]
  dsimp only
  split
  · rename_i y q
    rw [q] at e
    exact congrArg some e
  · rename_i q
    rw [q] at e
    have a : es.toList.any (·.refKey) = false := by
      rw [List.any_eq_false]
      intro y hy
      obtain ⟨z, t, hkey⟩ := hk y (Array.mem_toList_iff.mp hy)
      simp [DictEntry.refKey, hkey]
    have a' : ¬ es.toList.any (·.refKey) = true := by rw [a]; exact Bool.false_ne_true
    rw [if_neg a']
    exact congrArg some e

theorem ObjM.look {h : Heap} {x dx C : Addr} {mA : Str → Option Value} (I : ObjM h x dx C mA) : ∃ od, PySem.W.InstAt h x (PySem.W.instObj C dx) C (some od) ∧ ∀ name, PySem.W.lookIn name od = some (mA name) :=
  let ⟨od, ho, hl⟩ := lookIn_ns I.ns
  ⟨od, ⟨I.obj, rfl, rfl, ho⟩, hl⟩

section
variable {prog : Program} {w : World} {A : Around} {E : Value → Shared → Prop} {s : Shared} {K : PySem.W.Frag} {x dx C f : Addr} {mA : Str → Option Value} {name : Str} {v : Value}

theorem get_map {expr : Bool} {Q : Value → Shared → Prop} (X : K.In s.heap) (I : ObjM s.heap x dx C mA) (hg : PySem.W.plainGet K C name = true) (hh : PySem.W.hasDictIn K C = true)
    (ha : PySem.W.findIn K (.ref C) name = some none) (hv : mA name = some v) (hv' : PySem.W.handedIn v = true) (h : Q v { s with toks := s.toks + 1 }) :
    wpAny (model prog w) A (getAttr (.ref x) name expr) Q E s := by
  obtain ⟨od, J, hl⟩ := I.look
  exact PySem.W.get_value X J (PySem.W.plainGet_of hg).1 (PySem.W.findObj_own hh ha rfl (by rw [hl, hv])) hv' h

theorem get_meth {pl : Sem Bool} {Q : Value × List Value → Shared → Prop} (X : K.In s.heap) (I : ObjM s.heap x dx C mA) (hg : PySem.W.plainGet K C name = true)
    (hf : PySem.W.findIn K (.ref C) name = some (some (.ref f))) (ht : PySem.W.isFn K (.ref f) = true) (hv : mA name = none) (h : Q (.ref f, [.ref x]) s) :
    wpAny (model prog w) A (getMethod (.ref x) name pl) Q E s := by
  obtain ⟨od, J, hl⟩ := I.look
  exact PySem.W.method_fn X J (PySem.W.plainGet_of hg).1 (PySem.W.plainGet_of hg).2 hf (beq_iff_eq.mp ht) (by show (PySem.W.lookIn name od).map (·.isSome) = some false; rw [hl, hv]; rfl) h

theorem set_map {ns : List Str} {Q : Unit → Shared → Prop} (X : K.In s.heap) (I : ObjM s.heap x dx C mA)
    (hs : PySem.W.findIn K (.ref C) "__setattr__" = some (some (.builtin "object.__setattr__"))) (hp : PySem.W.plainOver K C = true) (ht : PySem.W.takerIn K C name = some none) (hh : PySem.W.hasDictIn K C = true)
    (hw : PySem.Within mA ns) (hsz : ns.length ≤ sizeLine)
    (h : ∀ h', ObjM h' x dx C (fun y => if y = name then some v else mA y) → Heap.SameBut dx s.heap h' → Q () { s with heap := h', toks := s.toks + 2 }) :
    wpAny (model prog w) A (setAttr (.ref x) name v) Q E s := by
  obtain ⟨od, J, hl⟩ := I.look
  refine PySem.W.set_plain X J hs (PySem.W.osa_open (s := { s with toks := s.toks + 1 }) (r := none) X J hp ht fun b => ?_)
  obtain ⟨cd, hc, hd'⟩ := PySem.W.any_some hh
  have hx : s.heap.get? x = some ⟨.ref C, some dx, .plain, #[]⟩ := I.obj
  refine wpAny_bind (wpAny_pure (wpAny_bind (wpAny_bind (wpAny_loadPart hx (wpAny_bind (PySem.W.Looks.here (s := { s with toks := s.toks + 1 }) (PySem.W.looks_clsIn X hc) ?_))))))
  rw [hd']
  refine wpAny_pure (a := some dx) (wpAny_bind (wpAny_pure (wpAny_bind ?_)))
  refine wpAny_nsSet1 (s := { s with toks := s.toks + 1 }) I.ns fun h' hn2 hs2 => ?_
  obtain ⟨oD, esD, epD, hoD, hdD, hcD⟩ := hn2.count (PySem.Within.cons name v hw)
  refine wpAny_bind (wpAny_lookBehind hoD (by rw [hdD]; exact pastItsLine_dict (Nat.le_trans hcD (by rw [List.length_cons]; omega))) ?_)
  exact wpAny_pure (h _ ⟨(hs2.2 _ (Ne.symm I.ne)).trans I.obj, hn2, I.ne⟩ hs2)

/-- C(..): the dict at the heap's end, the instance behind it; then its __init__ -/
theorem make_map {R : Result → Shared → Prop} {vs : List Value} {kw : List (Str × Value)} (X : K.In s.heap) (hm : PySem.W.makesIn K C = true)
    (hi : PySem.W.findIn K (.ref C) "__init__" = some (some (.ref f))) (hf : PySem.W.typeIn K (.ref f) = some (.type "function"))
    (h : codeAny (model prog w) (A.under (.builtin "type.__call__" ⟨.ref C :: vs, kw⟩)) (.call (.ref f) ⟨.ref (s.heap.objs.size + 1) :: vs, kw⟩) (PySem.W.InitBack (s.heap.objs.size + 1) R)
      { s with heap := (s.heap.push PySem.W.emptyDict).push (PySem.W.instObj C s.heap.objs.size) }) :
    codeAny (model prog w) A (.call (.ref C) ⟨vs, kw⟩) R s := by
  obtain ⟨hh, g, d, t, os⟩ := s
  exact PySem.W.make_core (PySem.W.makes_of X hm) (PySem.W.looks_findIn X hi) (fun self => PySem.W.bind_fn X self hf) (.inl rfl) h
end

/-! ### the attributes as a list of pairs -/
noncomputable def putF (f : Str) (v : V) : List (Str × V) → List (Str × V)
  | [] => [(f, v)]
  | (g, x) :: r => if g = f then (g, v) :: r else (g, x) :: putF f v r
theorem lookup_putF (f g : Str) (v : V) : ∀ fs : List (Str × V), (putF f v fs).lookup g = if g = f then some v else fs.lookup g
  | [] => by
    show List.lookup g [(f, v)] = _
    by_cases h : g = f
    · have hb : (g == f) = true := beq_iff_eq.mpr h
      simp only [List.lookup, hb, if_pos h]
    · have hb : (g == f) = false := beq_eq_false_iff_ne.mpr h
      simp only [List.lookup, hb, if_neg h]
  | (k, x) :: r => by
    have ih := lookup_putF f g v r
    rw [show putF f v ((k, x) :: r) = (if k = f then (k, v) :: r else (k, x) :: putF f v r) from rfl]
    by_cases hk : k = f
    · rw [if_pos hk]
      by_cases h : g = k
      · have hb : (g == k) = true := beq_iff_eq.mpr h
        simp only [List.lookup, hb, if_pos (h.trans hk)]
      · have hb : (g == k) = false := beq_eq_false_iff_ne.mpr h
        simp only [List.lookup, hb, if_neg (fun e : g = f => h (e.trans hk.symm))]
    · rw [if_neg hk]
      by_cases h : g = k
      · have hb : (g == k) = true := beq_iff_eq.mpr h
        simp only [List.lookup, hb, if_neg (fun e : g = f => hk (h.symm.trans e))]
      · have hb : (g == k) = false := beq_eq_false_iff_ne.mpr h
        simp only [List.lookup, hb]
        exact ih
theorem keys_putF (f : Str) (v : V) : ∀ fs : List (Str × V), f ∈ (putF f v fs).map (·.1) ∧ ∀ g, g ∈ fs.map (·.1) → g ∈ (putF f v fs).map (·.1)
  | [] => ⟨by simp [putF], fun g h => by simp at h⟩
  | (k, x) :: r => by
    obtain ⟨i1, i2⟩ := keys_putF f v r
    rw [show putF f v ((k, x) :: r) = (if k = f then (k, v) :: r else (k, x) :: putF f v r) from rfl]
    by_cases hk : k = f
    · rw [if_pos hk]
      subst hk
      exact ⟨by simp, fun g h => by simpa using h⟩
    · rw [if_neg hk]
      refine ⟨?_, fun g h => ?_⟩
      · rw [List.map_cons]
        exact List.mem_cons_of_mem _ i1
      · rw [List.map_cons] at h ⊢
        rcases List.mem_cons.mp h with e | e
        · exact List.mem_cons.mpr (.inl e)
        · exact List.mem_cons_of_mem _ (i2 g e)
theorem length_putF (f : Str) (v : V) : ∀ fs : List (Str × V), (putF f v fs).length ≤ fs.length + 1
  | [] => by simp [putF]
  | (k, x) :: r => by
    have ih := length_putF f v r
    rw [show putF f v ((k, x) :: r) = (if k = f then (k, v) :: r else (k, x) :: putF f v r) from rfl]
    by_cases hk : k = f
    · rw [if_pos hk, List.length_cons, List.length_cons]; omega
    · rw [if_neg hk, List.length_cons, List.length_cons]; omega

theorem RelO.some_of {v : V} {o : Option Value} (r : RelO (some v) o) : ∃ u, o = some u ∧ RelV v u := by
  cases o with
  | none => exact (show False from r).elim
  | some u => exact ⟨u, rfl, r⟩
theorem RelO.none_of {o : Option Value} (r : RelO none o) : o = none := by
  cases o with
  | none => rfl
  | some u => exact (show False from r).elim
theorem handed_of {v : V} {u : Value} (r : RelV v u) : PySem.W.handedIn u = true := by
  cases v with
  | non => cases (show u = Value.none from r); rfl
  | bl b => cases (show u = Value.bool b from r); rfl
  | int i => obtain ⟨t, e⟩ := (show ∃ t, u = Value.int i t from r); cases e; rfl
  | str x => obtain ⟨t, e⟩ := (show ∃ t, u = Value.str x t from r); cases e; rfl
  | byt b => obtain ⟨t, e⟩ := (show ∃ t, u = Value.bytes b t from r); cases e; rfl
  | flt b => obtain ⟨t, e⟩ := (show ∃ t, u = Value.float b t from r); cases e; rfl
  | ref a => cases (show u = Value.ref a from r); rfl
  | ty n => cases (show u = Value.type n from r); rfl

section
variable {P : Program} {w : World} {H H' : Hp} {h h' : Heap} {a C dx : Addr} {fs fs' : List (Str × V)}
theorem ins_get (hok : HOk P w H h) (e : H a = some (.ins C dx fs)) : ∃ mA, ObjM h a dx C mA ∧ (∀ f, RelO (fs.lookup f) (mA f)) ∧ PySem.Within mA (fs.map (·.1)) ∧ fs.length ≤ 1000 ∧ H dx = some (.own a) := by
  obtain ⟨d, z, ne, ob, mA, n, r, q⟩ := (show ObjOk P w H h a (.ins C dx fs) from hok a _ e)
  exact ⟨mA, ⟨ob, n, ne⟩, r, q, z, d⟩
end

/-! ### what of the text a class must have -/
structure Cls (K : PySem.W.Frag) (C : Addr) : Prop where
  pg : PySem.W.plainGet K C Str.empty = true
  hd : PySem.W.hasDictIn K C = true
  po : PySem.W.plainOver K C = true
  sa : PySem.W.findIn K (.ref C) "__setattr__" = some (some (.builtin "object.__setattr__"))
theorem Cls.get {K : PySem.W.Frag} {C : Addr} (c : Cls K C) (f : Str) : PySem.W.plainGet K C f = true := c.pg
/-- no class of it has the name -/
noncomputable def NoAttr (K : PySem.W.Frag) (C : Addr) (f : Str) : Prop := PySem.W.findIn K (.ref C) f = some none
theorem NoAttr.taker {K : PySem.W.Frag} {C : Addr} {f : Str} (n : NoAttr K C f) : PySem.W.takerIn K C f = some none := by
  unfold PySem.W.takerIn
  rw [show PySem.W.findIn K (.ref C) f = some none from n]
  rfl
/-- a method: a plain def of the class or of one above it -/
structure Meth (K : PySem.W.Frag) (C : Addr) (m : Str) (f : Addr) : Prop where
  at_ : PySem.W.findIn K (.ref C) m = some (some (.ref f))
  fn : PySem.W.isFn K (.ref f) = true
  kp : PySem.W.keepIn K (.ref f) = true

section
variable {X : Cx} {pins : List (Addr × Obj)} {σ : St} {H : Hp} {s : Shared} {a C dx : Addr} {fs : List (Str × V)} {f : Str} {v : V} {A : Around} {E : Value → Shared → Prop}

theorem getattr_ok {b : Bool} {Q : Value → Shared → Prop} (I : Inv X pins σ H s) (e : H a = some (.ins C dx fs)) (c : Cls X.K C) (n : NoAttr X.K C f) (l : fs.lookup f = some v)
    (h : ∀ u s', Inv X pins σ H s' → RelV v u → Q u s') : wpAny (model X.prog X.w) A (getAttr (.ref a) f b) Q E s := by
  obtain ⟨mA, O, r, _, _, _⟩ := ins_get I.hok e
  obtain ⟨u, hu, ru⟩ := RelO.some_of (v := v) (o := mA f) (by rw [← l]; exact r f)
  exact get_map I.kIn O (c.get f) c.hd n hu (handed_of ru) (h u _ (I.tok _) ru)

theorem getmeth_ok {m : Str} {g : Addr} {pl : Sem Bool} {Q : Value × List Value → Shared → Prop} (I : Inv X pins σ H s) (e : H a = some (.ins C dx fs)) (c : Cls X.K C) (k : Meth X.K C m g) (l : fs.lookup m = none)
    (h : Q (.ref g, [.ref a]) s) : wpAny (model X.prog X.w) A (getMethod (.ref a) m pl) Q E s := by
  obtain ⟨mA, O, r, _, _, _⟩ := ins_get I.hok e
  have hn : mA m = none := RelO.none_of (by rw [← l]; exact r m)
  exact get_meth I.kIn O (c.get m) k.at_ k.fn hn h

theorem setattr_ok {y : V} {u : Value} {Q : Unit → Shared → Prop} (I : Inv X pins σ H s) (e : H a = some (.ins C dx fs)) (c : Cls X.K C) (n : NoAttr X.K C f) (hl : fs.length < 1000) (ry : RelV y u)
    (h : ∀ s', Inv X pins σ (upd H a (.ins C dx (putF f y fs))) s' → Q () s') : wpAny (model X.prog X.w) A (setAttr (.ref a) f u) Q E s := by
  obtain ⟨mA, O, r, wi, _, ho⟩ := ins_get I.hok e
  have hz : (fs.map (·.1)).length ≤ sizeLine := by rw [List.length_map, sizeLine_eq]; omega
  refine set_map I.kIn O c.sa c.po n.taker c.hd wi hz fun h' O' sb => h _ ?_
  have hd : ∃ o, h'.get? dx = some o := let ⟨o, _, _, e', _⟩ := O'.ns; ⟨o, e'⟩
  refine I.write (x := a) (e := dx) (by rw [e]; exact True.intro) (.inr ho) (fun b q hb z => (sb.2 b hb).trans z) hd ?_
  refine ⟨by rw [upd_ne O.ne]; exact ho, ?_, O.ne, O'.obj, _, O'.ns, fun g => ?_, fun g hg => ?_⟩
  · have := length_putF f y fs; omega
  · show RelO ((putF f y fs).lookup g) (if g = f then some u else mA g)
    rw [lookup_putF]
    by_cases q : g = f
    · rw [if_pos q, if_pos q]; exact ry
    · rw [if_neg q, if_neg q]; exact r g
  · by_cases q : g = f
    · rw [q]; exact (keys_putF f y fs).1
    · refine (keys_putF f y fs).2 g (wi g fun z => hg ?_)
      show (if g = f then some u else mA g) = none
      rw [if_neg q]; exact z

/-- a new instance, tracked, without attributes -/
theorem Inv.made (I : Inv X pins σ H s) : Inv X pins σ (upd (upd H s.heap.objs.size (.own (s.heap.objs.size + 1))) (s.heap.objs.size + 1) (.ins C s.heap.objs.size []))
    { s with heap := (s.heap.push PySem.W.emptyDict).push (PySem.W.instObj C s.heap.objs.size) } := by
  have e1 : (s.heap.push PySem.W.emptyDict).get? s.heap.objs.size = some PySem.W.emptyDict := Heap.get?_push_size s.heap rfl
  have e2 : ((s.heap.push PySem.W.emptyDict).push (PySem.W.instObj C s.heap.objs.size)).get? (s.heap.objs.size + 1) = some (PySem.W.instObj C s.heap.objs.size) := by
    have := Heap.get?_push_size (s.heap.push PySem.W.emptyDict) (o := PySem.W.instObj C s.heap.objs.size) rfl
    rwa [Heap.size_push] at this
  have e3 : (s.heap.push PySem.W.emptyDict).Ns s.heap.objs.size (fun _ => none) := ⟨PySem.W.emptyDict, #[], _, e1, rfl, (fun e he => absurd he (by simp)), fun _ => rfl⟩
  have I1 := I.laid (a := s.heap.objs.size) (o := .own (s.heap.objs.size + 1)) (h' := s.heap.push PySem.W.emptyDict) (t' := s.toks) (fun b u q => Heap.get?_push_of_some _ q) (Nat.le_refl _) ⟨_, e1⟩
  refine I1.laid (a := s.heap.objs.size + 1) (o := .ins C s.heap.objs.size []) (t' := s.toks) (fun b u q => Heap.get?_push_of_some _ q) (Nat.le_of_eq (Heap.size_push _ _)) ?_
  have ne : s.heap.objs.size ≠ s.heap.objs.size + 1 := Nat.ne_of_lt (Nat.lt_succ_self _)
  refine ⟨by rw [upd_ne ne, upd_same], Nat.zero_le _, ne, e2, fun _ => none, (Heap.Ns1.of_empty e3).at fun o q => Heap.get?_push_of_some _ q, fun _ => True.intro, fun y hy => absurd rfl hy⟩

/-- e.f where nothing but the object is asked: through attributeBase (super) and the last hold -/
theorem attr_of {prog : Program} {w : World} {env : Env} {e : Expr} {f : Str} {pos : Pos} {s : Shared} {Q : Value → Shared → Prop} (hb : attributeBase e f env (eval e env) = eval e env)
    (h : wpAny (model prog w) A (eval e env) (fun o s₁ => wpAny (model prog w) A (getAttr o f true) Q E s₁) E s) : wpAny (model prog w) A (eval (.Attribute e f pos) env) Q E s :=
  Attribute_any_ h (by rw [arm_eval_Attribute, hb])
end

/-! ### readings and rules -/
/-- e.f, an attribute of the instance -/
noncomputable def tFld (K : PySem.W.Frag) (ta : TE) (f : Str) : TE := fun σ H Q => ta σ H fun x H1 => ∃ a C dx fs v, x = .ref a ∧ H1 a = some (.ins C dx fs) ∧ Cls K C ∧ NoAttr K C f ∧ fs.lookup f = some v ∧ Q v H1
/-- e.f = value -/
noncomputable def sFld (K : PySem.W.Frag) (ta tv : TE) (f : Str) : TS := fun D σ H => tv σ H fun y H1 => ta σ H1 fun x H2 => ∃ a C dx fs, x = .ref a ∧ H2 a = some (.ins C dx fs) ∧ Cls K C ∧ NoAttr K C f ∧ fs.length < 1000 ∧
  D.nx σ (upd H2 a (.ins C dx (putF f y fs)))
section
variable {X : Cx} {o e value : Expr} {f : Str} {pos pos' tpos : Pos} {ta tv : TE}
theorem pe_fld (he : PE X e ta) (hb : attributeBase e f X.env (eval e X.env) = eval e X.env) : PE X (.Attribute e f pos) (tFld X.K ta f) := by
  intro pins s σ H Q I h
  refine attr_of hb (thn (he pins s σ H _ I h) fun u s1 ⟨x, H1, I1, rx, a, C, dx, fs, v, ex, ea, c, n, l, q⟩ => ?_)
  subst ex
  obtain rfl : u = Value.ref a := rx
  exact getattr_ok I1 ea c n l fun u' s2 I2 ru => ⟨v, H1, I2, ru, q⟩
theorem ps_fld (ha : PE X o ta) (hv : PE X value tv) (hs : swapsWith value (some (.Attribute o f pos')) pos.line X.env = pure false) : PS X (.Assign [.Attribute o f pos'] value pos) (sFld X.K ta tv f) := by
  intro pins s σ H D I h
  refine plainObj_wpAny_Assign_Attribute (thn (hv pins s σ H _ I h) fun u s1 ⟨y, H1, I1, ry, q⟩ => thn (ha pins s1 σ H1 _ I1 q) fun ov s2 ⟨x, H2, I2, rx, a, C, dx, fs, ex, ea, c, n, l, q2⟩ => ?_) hs
  subst ex
  obtain rfl : ov = Value.ref a := rx
  exact setattr_ok I2 ea c n l ry fun s3 I3 => ⟨σ, _, I3, q2⟩
end

/-! ### isinstance -/
section
variable {X : Cx} {pins : List (Addr × Obj)} {σ : St} {H : Hp} {s : Shared} {A : Around} {E : Value → Shared → Prop} {Q : Value → Shared → Prop} {c : Value} {b : Bool}
/-- the type of a value, as the fragment's deciders take it; for an instance its class -/
inductive TyOf (K : PySem.W.Frag) (H : Hp) : V → Value → Prop where
  | non : TyOf K H .non (.type "NoneType")
  | bl (x : Bool) : TyOf K H (.bl x) (.type "bool")
  | int (i : Int) : TyOf K H (.int i) (.type "int")
  | str (x : Str) : TyOf K H (.str x) (.type "str")
  | flt (x : UInt64) : TyOf K H (.flt x) (.type "float")
  | lst {a : Addr} {xs : List V} (e : H a = some (.lst xs)) : TyOf K H (.ref a) (.type "list")
  | frz {a : Addr} {o : Obj} {xs : List V} (e : H a = some (.frz o (.lst xs))) : TyOf K H (.ref a) (.type "list")
  | tup {a : Addr} {xs : List V} (e : H a = some (.tup xs)) : TyOf K H (.ref a) (.type "tuple")
  | dK {a : Addr} {kvs : List (Key × V)} (e : H a = some (.dK kvs)) : TyOf K H (.ref a) (.type "dict")
  | dT {a : Addr} {kvs : List (List Key × V)} (e : H a = some (.dT kvs)) : TyOf K H (.ref a) (.type "dict")
  | ins {a C dx : Addr} {fs : List (Str × V)} (e : H a = some (.ins C dx fs)) (cl : Cls K C) (ha : PySem.W.findIn K (.ref C) "__class__" = some (some (.builtin "object.__class__")))
      (hn : PySem.W.specialIn K (.builtin "object.__class__") "__get__" = some (some (.builtin "getset_descriptor.__get__"))) (htk : PySem.W.takesIn K (.builtin "object.__class__") = some true)
      (hm : PySem.W.mroIn K C (.type "object") = some true) : TyOf K H (.ref a) (.ref C)
end
end L2

namespace L2
open PySem PySem.Spec PyProof.Rows

/-! ### room -/
structure Room (k : Nat) (A : Around) : Prop where
  hd : A.handled = none
  dp : A.depth + 3 * k + 5 < recursionLimit
  un : A.units + 16 * k + 200 < cLine
theorem Room.mono {j k : Nat} {A : Around} (r : Room k A) (h : j ≤ k) : Room j A := ⟨r.hd, by have := r.dp; omega, by have := r.un; omega⟩
theorem Room.deeper {k : Nat} {A : Around} (r : Room (k + 1) A) (env : Env) : Room k (A.deeper env) :=
  ⟨r.hd, by have := r.dp; show A.depth + 1 + 3 * k + 5 < _; omega, by have := r.un; show A.units + 3 + 16 * k + 200 < _; omega⟩
theorem make_depth {A : Around} {C : Addr} {us : List Value} {kw : List (Str × Value)} : (A.under (.builtin "type.__call__" ⟨.ref C :: us, kw⟩)).depth = A.depth + 1 := by
  first | rfl | simp [Around.under, Code.weight, Code.isCreation, Code.isGuard, Code.isCaller, Code.frames, Code.isFrame, guardIds]
theorem make_units {A : Around} {C : Addr} {us : List Value} {kw : List (Str × Value)} : (A.under (.builtin "type.__call__" ⟨.ref C :: us, kw⟩)).units = A.units + 1 := by
  first | rfl | simp [Around.under, Code.cUnits, Code.frames, Code.isFrame]
theorem Room.make {k : Nat} {A : Around} (r : Room (k + 1) A) (C : Addr) (us : List Value) (kw : List (Str × Value)) : Room k (A.under (.builtin "type.__call__" ⟨.ref C :: us, kw⟩)) :=
  ⟨r.hd, by have := r.dp; rw [make_depth]; omega, by have := r.un; rw [make_units]; omega⟩
theorem Room.depth {k : Nat} {A : Around} (r : Room k A) : A.depth < recursionLimit := by have := r.dp; omega
theorem Room.units {k : Nat} {A : Around} (r : Room k A) : A.units + 64 < cLine := by have := r.un; omega
/-! ### argument lists and displays -/
noncomputable def tNil : TA := fun _ H Q => Q [] H
noncomputable def tCons (ta : TE) (tr : TA) : TA := fun σ H Q => ta σ H fun x H1 => tr σ H1 fun xs H2 => Q (x :: xs) H2
section
variable {X : Cx} {e : Expr} {es : List Expr} {te : TE} {t : TA} {pos : Pos}
theorem pa_nil : PA X [] tNil := fun _ _ _ _ H Q I h => Calls.spliced_nil ⟨[], H, I, .nil, h⟩
theorem pa_cons (ha : PE X e te) (hr : PA X es t) (hs : starEach (e :: es) X.env = (false, eval e X.env) :: starEach es X.env := by rfl) : PA X (e :: es) (tCons te t) := by
  intro pos pins s σ H Q I h
  rw [hs]
  show wpAny _ _ (spliced ((false, eval e X.env) :: backTo pos (starEach es X.env))) _ _ s
  refine Calls.spliced_cons (thn (ha pins s σ H _ I h) fun u s1 ⟨x, H1, I1, r1, q1⟩ => ?_)
  exact thn (hr pos pins s1 σ H1 _ I1 q1) fun us s2 ⟨xs, H2, I2, r2, q2⟩ => ⟨x :: xs, H2, I2, .cons r1 r2, q2⟩

/-- a tuple, a list of written items -/
noncomputable def tTup (t : TA) : TE := fun σ H Q => t σ H fun xs H1 => xs.length ≤ sizeLine ∧ ∀ p, H1 p = none → Q (.ref p) (upd H1 p (.tup xs))
noncomputable def tLst (t : TA) : TE := fun σ H Q => t σ H fun xs H1 => xs.length ≤ sizeLine ∧ ∀ p, H1 p = none → Q (.ref p) (upd H1 p (.lst xs))
theorem pe_tup {x1} (h : PA X es t) : PE X (.Tuple es x1 pos) (tTup t) := by
  intro pins s σ H Q I hq
  refine wpAny_Tuple_spliced (thn (h pos pins s σ H _ I hq) fun us s1 ⟨xs, H1, I1, r, z, q⟩ => ⟨by rw [← r.length]; exact z, ?_⟩)
  have hf : H1 s1.heap.objs.size = none := I1.hok.fresh (Nat.le_refl _)
  refine ⟨.ref s1.heap.objs.size, upd H1 s1.heap.objs.size (.tup xs), I1.laid (t' := s1.toks) (fun b u e => Heap.get?_push_of_some _ e) (Nat.le_refl _) ?_, rfl, q _ hf⟩
  exact ⟨z, us, r, ⟨_, Heap.get?_push_size _ rfl, rfl, _, rfl⟩⟩
theorem pe_lst (h : PA X es t) : PE X (.List es pos) (tLst t) := by
  intro pins s σ H Q I hq
  refine wpAny_List_spliced (thn (h pos pins s σ H _ I hq) fun us s1 ⟨xs, H1, I1, r, z, q⟩ => ⟨by rw [← r.length]; exact z, ?_⟩)
  have hf : H1 s1.heap.objs.size = none := I1.hok.fresh (Nat.le_refl _)
  refine ⟨.ref s1.heap.objs.size, upd H1 s1.heap.objs.size (.lst xs), I1.laid (t' := s1.toks) (fun b u e => Heap.get?_push_of_some _ e) (Nat.le_refl _) ?_, rfl, q _ hf⟩
  exact ⟨z, us, 0, r, Heap.get?_push_size _ rfl⟩
end

/-! ### what a def promises -/
/-- a def's promise: the bound arguments in the parameters' order, the heap, the wanted end, the wanted exception -/
noncomputable abbrev Sp := List V → Hp → VK → XK → Prop
/-- how an exception lies behind a call (file 08 gives it): the callers' frames, abstract heap and state ahead of the call, the wish, the exception, the state -/
noncomputable abbrev CXT := List Env → Hp → Shared → XK → Value → Shared → Prop

/-- the state at a call -/
structure Env0 (P : Program) (w : World) (K : PySem.W.Frag) (mg : Str → Option Value) (base : Heap) (A : Around) (outer : List Env) (s : Shared) (H : Hp) : Prop where
  frames : A.frames = some outer
  mod : Mod K mg base
  bs : ∀ b o, base.get? b = some o → s.heap.get? b = some o ∧ H b = none
  bsz : base.objs.size ≤ s.heap.objs.size
  funs : s.heap.FunFrames base outer
  frf : ∀ b ∈ frs outer, H b = none
  hok : HOk P w H s.heap
  bare : AllBare s.gens
/-- a call's end -/
noncomputable def CE (outer : List Env) (P : Program) (w : World) (H : Hp) (s : Shared) (Q : VK) (u : Value) (s' : Shared) : Prop :=
  ∃ v H', s'.os = s.os ∧ AllBare s'.gens ∧ Un (frs outer) [] H H' s.heap s'.heap ∧ HOk P w H' s'.heap ∧ RelV v u ∧ Q v H'
noncomputable def CR (CX : CXT) (outer : List Env) (P : Program) (w : World) (H : Hp) (s : Shared) (Q : VK) (E : XK) (r : Result) (s' : Shared) : Prop :=
  match r with
  | .ok (.ret u) => CE outer P w H s Q u s'
  | .ok _ => False
  | .error e => CX outer H s E e s'
structure FnOk (P : Program) (w : World) (K : PySem.W.Frag) (mg : Str → Option Value) (base : Heap) (CX : CXT) (k : Nat) (f : Addr) (fd : FuncData) (ps : List Str) (sp : Sp) : Prop where
  len : ∀ vs H Q E, sp vs H Q E → vs.length = ps.length
  run : ∀ (A : Around) (outer : List Env) (s : Shared) (H : Hp) (args : Args) (us : List Value) (vs : List V) (Q : VK) (E : XK), Room k A → Env0 P w K mg base A outer s H → BindsTo s fd args (ps.zip us) → Vals vs us → sp vs H Q E →
    codeAny (model P w) A (.call (.ref f) args) (CR CX outer P w H s Q E) s
theorem FnOk.mono {P : Program} {w : World} {K : PySem.W.Frag} {mg : Str → Option Value} {base : Heap} {CX : CXT} {j k : Nat} {f : Addr} {fd : FuncData} {ps : List Str} {sp : Sp} (F : FnOk P w K mg base CX j f fd ps sp) (h : j ≤ k) :
    FnOk P w K mg base CX k f fd ps sp := ⟨F.len, fun A outer s H args us vs Q E hr => F.run A outer s H args us vs Q E (hr.mono h)⟩
/-- a weaker promise -/
theorem FnOk.imp {P : Program} {w : World} {K : PySem.W.Frag} {mg : Str → Option Value} {base : Heap} {CX : CXT} {k : Nat} {f : Addr} {fd : FuncData} {ps : List Str} {sp sp' : Sp} (F : FnOk P w K mg base CX k f fd ps sp)
    (h : ∀ vs H Q E, sp' vs H Q E → sp vs H Q E) : FnOk P w K mg base CX k f fd ps sp' :=
  ⟨fun vs H Q E q => F.len vs H Q E (h _ _ _ _ q), fun A outer s H args us vs Q E hr he hb hv hs => F.run A outer s H args us vs Q E hr he hb hv (h _ _ _ _ hs)⟩

theorem Env0.make {P : Program} {w : World} {K : PySem.W.Frag} {mg : Str → Option Value} {base : Heap} {A : Around} {outer : List Env} {s : Shared} {H : Hp} (e : Env0 P w K mg base A outer s H) (C : Addr) (us : List Value) (kw : List (Str × Value)) :
    Env0 P w K mg base (A.under (.builtin "type.__call__" ⟨.ref C :: us, kw⟩)) outer s H := ⟨by first | exact e.frames | (simpa [Around.under, Code.envs, Code.isFrame, pushEnvs] using e.frames), e.mod, e.bs, e.bsz, e.funs, e.frf, e.hok, e.bare⟩
section
variable {X : Cx} {pins : List (Addr × Obj)} {σ : St} {H : Hp} {s s' : Shared}
/-- from a body: what a callee wants -/
theorem Inv.env0 (I : Inv X pins σ H s) : Env0 X.prog X.w X.K X.mg X.base X.A X.stack s H :=
  ⟨I.ok.frames, I.ok.mod, I.bs, Nat.le_trans I.ok.bsz I.sz, I.stack, I.stkFree, I.hok, I.bare⟩
/-- behind a call -/
theorem Inv.after {Q : VK} {u : Value} (I : Inv X pins σ H s) (h : CE X.stack X.prog X.w H s Q u s') : EP X pins σ Q u s' := by
  obtain ⟨v, H', os, bare, un, hok, r, q⟩ := h
  obtain ⟨hh, g, d, t, os'⟩ := s'
  obtain rfl : os' = s.os := os
  exact ⟨v, H', I.call (h' := hh) (g' := g) (d' := d) (t' := t) (ch := []) un hok bare (fun b z => absurd z (by simp)), r, q⟩
end

/-! ### calls -/
/-- f(..): the written arguments, then the defaults dvs; E: what is wanted of an exception -/
noncomputable def tCall (sp : Sp) (dvs : List V) (E : XK) (t : TA) : TE := fun σ H Q => t σ H fun vs H1 => sp (vs ++ dvs) H1 Q E
/-- o.m(..) of an instance of the class at C -/
noncomputable def tMeth (C : Addr) (m : Str) (sp : Sp) (dvs : List V) (E : XK) (ta : TE) (t : TA) : TE := fun σ H Q => ta σ H fun x H1 => ∃ a dx fs, x = .ref a ∧ H1 a = some (.ins C dx fs) ∧ fs.lookup m = none ∧
  t σ H1 fun vs H2 => sp (x :: (vs ++ dvs)) H2 Q E
/-- C(..): a new instance and its dict, then __init__ -/
noncomputable def tMake (C : Addr) (sp : Sp) (dvs : List V) (E : XK) (t : TA) : TE := fun σ H Q => t σ H fun vs H1 => ∀ x dx, H1 x = none → H1 dx = none → dx ≠ x →
  sp (.ref x :: (vs ++ dvs)) (upd (upd H1 dx (.own x)) x (.ins C dx [])) (fun v H2 => v = .non ∧ Q (.ref x) H2) E

/-- how the parameters are bound: us the positional arguments, kw the keywords' values by name, ds the defaults that fill up -/
noncomputable def Binds (K : PySem.W.Frag) (fd : FuncData) (ps : List Str) (ds : List Value) : Prop :=
  ∀ (s : Shared) (us : List Value), K.In s.heap → (us ++ ds).length = ps.length → BindsTo s fd ⟨us, []⟩ (ps.zip (us ++ ds))
/-- every parameter is given -/
theorem Binds.all {K : PySem.W.Frag} {fd : FuncData} {ps : List Str} (h : ∀ us : List Value, us.length = ps.length → bindArgs fd ⟨us, []⟩ = pure (ps.zip us)) : Binds K fd ps [] := fun s us _ hl => by
  rw [List.append_nil] at hl ⊢
  exact .of_eq (h us hl)

/-- an exception of a callee reaches what this body wants of exceptions -/
noncomputable def Passes (CX : CXT) (X : Cx) (E : XK) : Prop := ∀ (pins : List (Addr × Obj)) (σ : St) (H : Hp) (s : Shared) (e : Value) (s' : Shared), Inv X pins σ H s → CX X.stack H s E e s' → X.xe e s'

section
variable {X : Cx} {CX : CXT} {k : Nat} {f C : Addr} {fd : FuncData} {ps : List Str} {sp : Sp} {dvs : List V} {ds : List Value} {E : XK} {x m : Str} {p pos apos : Pos} {e o : Expr} {es : List Expr} {ta : TE} {t : TA}

/-- the callee runs -/
theorem run_fn {pins : List (Addr × Obj)} {σ : St} {H : Hp} {s : Shared} {Q : VK} {us : List Value} {vs : List V} (F : FnOk X.prog X.w X.K X.mg X.base CX k f fd ps sp) (hr : Room k X.A) (hb : Binds X.K fd ps ds) (hd : Vals dvs ds) (hx : Passes CX X E)
    (I : Inv X pins σ H s) (r : Vals vs us) (h : sp (vs ++ dvs) H Q E) : wpAny (model X.prog X.w) X.A (call (.ref f) us) (EP X pins σ Q) X.xe s := by
  have r2 : Vals (vs ++ dvs) (us ++ ds) := r.append hd
  have hl : (us ++ ds).length = ps.length := by rw [← r2.length]; exact F.len _ _ _ _ h
  refine wpAny_call (codeAny_mono (F.run X.A X.stack s H ⟨us, []⟩ (us ++ ds) (vs ++ dvs) Q E hr I.env0 (hb s us I.kIn hl) r2 h) fun r s' hq => ?_)
  cases r with
  | error e => exact hx pins σ H s e s' I hq
  | ok fl =>
    cases fl with
    | ret u => exact I.after hq
    | next => exact False.elim hq
    | brk => exact False.elim hq
    | cont => exact False.elim hq

theorem pe_call (F : FnOk X.prog X.w X.K X.mg X.base CX k f fd ps sp) (hr : Room k X.A) (hg : Gl X x) (hm : X.mg x = some (.ref f)) (hk : PySem.W.keepIn X.K (.ref f) = true) (hb : Binds X.K fd ps ds) (hd : Vals dvs ds) (hx : Passes CX X E)
    (ha : PA X (e :: es) t) (hdb : (x == ("__debug__" : Str)) = false := by decide) (he : starEach (e :: es) X.env = (false, eval e X.env) :: starEach es X.env := by rfl) (hpl : (backTo pos (starEach es X.env)).any (·.1) = false := by rfl) :
    PE X (.Call (.Name x p) (e :: es) [] pos) (tCall sp dvs E t) := by
  intro pins s σ H Q I h
  refine wpAny_Call_Name_kw (ld_glob I hg hm ?_ hdb)
  refine PySem.W.callWith_K (h₀ := X.base) I.ok.mod.kin hk (thn (ha pos pins s σ H _ I h) fun us s1 ⟨vs, H1, I1, r, q⟩ => ⟨I1.kIn, ?_⟩) he hpl
  exact run_fn F hr hb hd hx I1 r q
/-- o.m(e, ..) -/
theorem pe_meth {pl : Sem Bool} (he : PE X o ta) (c : Cls X.K C) (hm : Meth X.K C m f) (F : FnOk X.prog X.w X.K X.mg X.base CX k f fd ps sp) (hr : Room k X.A) (hb : Binds X.K fd ps ds) (hd : Vals dvs ds) (hx : Passes CX X E) (ha : PA X (e :: es) t)
    (hst : starEach (e :: es) X.env = (false, eval e X.env) :: starEach es X.env := by rfl) (hpl : (backTo pos (starEach es X.env)).any (·.1) = false := by rfl)
    (ht : eval (.Call (.Attribute o m apos) (e :: es) [] pos) X.env = (do
      let ov ← eval o X.env
      standAt apos.atName
      let (f, first) ← holding [ov] (getMethod ov m pl)
      callWith pos f first (backTo pos (starEach (e :: es) X.env)) (backToKw pos (keywordEach [] X.env))) := by rfl) :
    PE X (.Call (.Attribute o m apos) (e :: es) [] pos) (tMeth C m sp dvs E ta t) := by
  intro pins s σ H Q I h
  refine PySem.W.methodCall_KW (pl := pl) (thn (he pins s σ H _ I h) fun u s1 ⟨x, H1, I1, rx, a, dx, fs, ex, ea, l, q⟩ => ?_) ht
  subst ex
  obtain rfl : u = Value.ref a := rx
  refine getmeth_ok I1 ea c hm l ?_
  refine PySem.W.callWith_K (first := [.ref a]) (h₀ := X.base) I.ok.mod.kin hm.kp (thn (ha pos pins s1 σ H1 _ I1 q) fun us s2 ⟨vs, H2, I2, r, q2⟩ => ⟨I2.kIn, ?_⟩) hst hpl
  exact run_fn (us := .ref a :: us) (vs := .ref a :: vs) F hr hb hd hx I2 (.cons rfl r) q2
/-- o.m() -/
theorem pe_meth0 {pl : Sem Bool} (he : PE X o ta) (c : Cls X.K C) (hm : Meth X.K C m f) (F : FnOk X.prog X.w X.K X.mg X.base CX k f fd ps sp) (hr : Room k X.A) (hb : Binds X.K fd ps ds) (hd : Vals dvs ds) (hx : Passes CX X E)
    (ht : eval (.Call (.Attribute o m apos) [] [] pos) X.env = (do
      let ov ← eval o X.env
      standAt apos.atName
      let (f, first) ← holding [ov] (getMethod ov m pl)
      callWith pos f first (backTo pos (starEach [] X.env)) (backToKw pos (keywordEach [] X.env))) := by rfl) :
    PE X (.Call (.Attribute o m apos) [] [] pos) (tMeth C m sp dvs E ta tNil) := by
  intro pins s σ H Q I h
  refine PySem.W.methodCall_KW (pl := pl) (thn (he pins s σ H _ I h) fun u s1 ⟨x, H1, I1, rx, a, dx, fs, ex, ea, l, q⟩ => ?_) ht
  subst ex
  obtain rfl : u = Value.ref a := rx
  refine getmeth_ok I1 ea c hm l ?_
  exact PySem.W.callWith_K0 (first := [.ref a]) I1.kIn hm.kp (run_fn (us := [.ref a]) (vs := [.ref a]) F hr hb hd hx I1 (.cons rfl .nil) q)

/-- what a class must have to be made -/
structure Mk (K : PySem.W.Frag) (C f : Addr) : Prop where
  makes : PySem.W.makesIn K C = true
  init : PySem.W.findIn K (.ref C) "__init__" = some (some (.ref f))
  fn : PySem.W.isFn K (.ref f) = true
  kp : PySem.W.keepIn K (.ref C) = true

theorem run_make {pins : List (Addr × Obj)} {σ : St} {H : Hp} {s : Shared} {Q : VK} {us : List Value} {vs : List V} (M : Mk X.K C f) (F : FnOk X.prog X.w X.K X.mg X.base CX k f fd ps sp) (hr : Room (k + 1) X.A) (hb : Binds X.K fd ps ds) (hd : Vals dvs ds)
    (hx : Passes CX X E) (I : Inv X pins σ H s) (r : Vals vs us)
    (h : ∀ x dx, H x = none → H dx = none → dx ≠ x → sp (.ref x :: (vs ++ dvs)) (upd (upd H dx (.own x)) x (.ins C dx [])) (fun v H2 => v = .non ∧ Q (.ref x) H2) E) :
    wpAny (model X.prog X.w) X.A (call (.ref C) us) (EP X pins σ Q) X.xe s := by
  have hq := h (s.heap.objs.size + 1) s.heap.objs.size (I.hok.fresh (Nat.le_succ _)) (I.hok.fresh (Nat.le_refl _)) (Nat.ne_of_lt (Nat.lt_succ_self _))
  have I2 := Inv.made (C := C) I
  have r2 : Vals (V.ref (s.heap.objs.size + 1) :: (vs ++ dvs)) (Value.ref (s.heap.objs.size + 1) :: (us ++ ds)) := .cons rfl (r.append hd)
  have hl : (Value.ref (s.heap.objs.size + 1) :: us ++ ds).length = ps.length := by
    have e := r2.length
    rw [F.len _ _ _ _ hq] at e
    exact e.symm
  refine wpAny_call (make_map (f := f) I.kIn M.makes M.init (beq_iff_eq.mp M.fn) (codeAny_mono (F.run _ X.stack _ _ ⟨Value.ref (s.heap.objs.size + 1) :: us, []⟩ (Value.ref (s.heap.objs.size + 1) :: (us ++ ds)) _ _ E (hr.make C us [])
    (I2.env0.make C us []) (hb _ (Value.ref (s.heap.objs.size + 1) :: us) I2.kIn hl) r2 hq) fun r s' hq' => ?_))
  cases r with
  | error e => exact hx pins σ _ _ e s' I2 hq'
  | ok fl =>
    cases fl with
    | ret u =>
      obtain ⟨v, H', I3, rv, ev, q3⟩ := I2.after hq'
      subst ev
      exact ⟨rv, ⟨V.ref (s.heap.objs.size + 1), H', I3, rfl, q3⟩⟩
    | next => exact False.elim hq'
    | brk => exact False.elim hq'
    | cont => exact False.elim hq'
theorem pe_make (M : Mk X.K C f) (F : FnOk X.prog X.w X.K X.mg X.base CX k f fd ps sp) (hr : Room (k + 1) X.A) (hg : Gl X x) (hm : X.mg x = some (.ref C)) (hb : Binds X.K fd ps ds) (hd : Vals dvs ds) (hx : Passes CX X E)
    (ha : PA X (e :: es) t) (hdb : (x == ("__debug__" : Str)) = false := by decide) (he : starEach (e :: es) X.env = (false, eval e X.env) :: starEach es X.env := by rfl) (hpl : (backTo pos (starEach es X.env)).any (·.1) = false := by rfl) :
    PE X (.Call (.Name x p) (e :: es) [] pos) (tMake C sp dvs E t) := by
  intro pins s σ H Q I h
  refine wpAny_Call_Name_kw (ld_glob I hg hm ?_ hdb)
  refine PySem.W.callWith_K (h₀ := X.base) I.ok.mod.kin M.kp (thn (ha pos pins s σ H _ I h) fun us s1 ⟨vs, H1, I1, r, q⟩ => ⟨I1.kIn, ?_⟩) he hpl
  exact run_make M F hr hb hd hx I1 r q
end

/-! ### keywords -/
section
variable {X : Cx} {CX : CXT} {k : Nat} {f C : Addr} {fd : FuncData} {ps ks : List Str} {sp : Sp} {E : XK} {x m : Str} {p pos apos kpos : Pos} {e o : Expr} {es : List Expr} {kws : List Keyword} {te ta : TE} {t tk : TA} {nm : Option Str}
variable {g : List Value → List Value → List Value} {gV : List V → List V → List V}
end

/-! ### a def's body keeps its promise -/
/-- names: the parameters first -/
structure FnScope (N P : List Str) (sc : Scope) : Prop where
  kind : sc.kind = .function
  co : sc.isCoroutine = false
  gen : sc.isGenerator = false
  nd : N.Nodup
  pre : N.take P.length = P
  par : ∀ x ∈ P, sc.names.lookup x = some .local ∨ sc.names.lookup x = some .cell
  nofree : ∀ y ∈ sc.names, y.2 ≠ .free

theorem bindL_out {kindOf : Str → Option NameKind} {x : Str} : ∀ {binds : List (Str × Value)} {m : Str → Option Value}, (∀ v, (x, v) ∉ binds) → bindL kindOf binds m x = m x
  | [], _, _ => rfl
  | (n, v) :: r, m, h => by
    unfold bindL
    rw [bindL_out fun w hw => h w (List.mem_cons_of_mem _ hw)]
    split
    · have : x ≠ n := by rintro rfl; exact h v List.mem_cons_self
      simp [this]
    · rfl
theorem bindC_out {kindOf : Str → Option NameKind} {x : Str} : ∀ {binds : List (Str × Value)} {m : Str → Option Value}, (∀ v, (x, v) ∉ binds) → bindC kindOf binds m x = m x
  | [], _, _ => rfl
  | (n, v) :: r, m, h => by
    unfold bindC
    rw [bindC_out fun w hw => h w (List.mem_cons_of_mem _ hw)]
    split
    · rfl
    · have : x ≠ n := by rintro rfl; exact h v List.mem_cons_self
      simp [this]
theorem bindL_get {kindOf : Str → Option NameKind} {x : Str} {v : Value} : ∀ {P : List Str} {vs : List Value} {i : Nat} {m : Str → Option Value}, P.Nodup → P[i]? = some x → vs[i]? = some v → kindOf x = some .local →
    bindL kindOf (P.zip vs) m x = some v
  | [], _, _, _, _, h, _, _ => by simp at h
  | _ :: _, [], _, _, _, _, h, _ => by simp at h
  | p :: P, w :: vs, 0, m, nd, h1, h2, hk => by
    simp at h1 h2; subst h1; subst h2
    show bindL kindOf ((p, w) :: P.zip vs) m p = _
    unfold bindL
    rw [bindL_out fun v hv => (List.nodup_cons.mp nd).1 (List.of_mem_zip hv).1, if_pos hk]
    simp
  | p :: P, w :: vs, i + 1, m, nd, h1, h2, hk => by
    show bindL kindOf ((p, w) :: P.zip vs) m x = _
    unfold bindL
    exact bindL_get (i := i) (List.nodup_cons.mp nd).2 (by simpa using h1) (by simpa using h2) hk
theorem bindC_get {kindOf : Str → Option NameKind} {x : Str} {v : Value} : ∀ {P : List Str} {vs : List Value} {i : Nat} {m : Str → Option Value}, P.Nodup → P[i]? = some x → vs[i]? = some v → kindOf x ≠ some .local →
    bindC kindOf (P.zip vs) m x = some v
  | [], _, _, _, _, h, _, _ => by simp at h
  | _ :: _, [], _, _, _, _, h, _ => by simp at h
  | p :: P, w :: vs, 0, m, nd, h1, h2, hk => by
    simp at h1 h2; subst h1; subst h2
    show bindC kindOf ((p, w) :: P.zip vs) m p = _
    unfold bindC
    rw [bindC_out fun v hv => (List.nodup_cons.mp nd).1 (List.of_mem_zip hv).1, if_neg hk]
    simp
  | p :: P, w :: vs, i + 1, m, nd, h1, h2, hk => by
    show bindC kindOf ((p, w) :: P.zip vs) m x = _
    unfold bindC
    exact bindC_get (i := i) (List.nodup_cons.mp nd).2 (by simpa using h1) (by simpa using h2) hk

/-- the names' values at the entry -/
noncomputable def start (N : List Str) (vs : List V) : St := vs.map some ++ List.replicate (N.length - vs.length) none

/-- the context of a def's body, at its entry; an exception leaves the frame, then lies as CX says -/
noncomputable def cxOf (CX : CXT) (P : Program) (w : World) (K : PySem.W.Frag) (mg : Str → Option Value) (base : Heap) (N : List Str) (qual : Str) (scope : Scope) (f : Addr) (cd : Value) (A : Around) (outer : List Env) (s : Shared) (H : Hp) (E : XK) : Cx where
  prog := P
  w := w
  K := K
  mg := mg
  base := base
  A := A.deeper (envOfC qual scope s.heap.objs.size f cd)
  N := N
  s₀ := s
  H₀ := H
  env := envOfC qual scope s.heap.objs.size f cd
  outer := outer
  stack := envOfC qual scope s.heap.objs.size f cd :: outer
  ex := []
  calm := true
  fn := fun _ => true
  pn := []
  xe := fun e s' => wpAny (model P w) (A.deeper (envOfC qual scope s.heap.objs.size f cd)) (leaving (envOfC qual scope s.heap.objs.size f cd) e) (fun _ s'' => CX outer H s E e s'') (fun e' s'' => CX outer H s E e' s'') s'

theorem cell_has {sc : Scope} {n : Nat} {x : Str} (h : sc.names.lookup x = some .cell) : ∃ c, (cellsFrom n sc.names []).lookup x = some c := by
  have q := PySem.W.cellsFrom_some sc.names n [] (.inl h)
  exact Option.isSome_iff_exists.mp q

theorem inv_start {CX : CXT} {P : Program} {w : World} {K : PySem.W.Frag} {mg : Str → Option Value} {base : Heap} {N ps : List Str} {qual : Str} {scope : Scope} {f : Addr} {cd : Value} {A : Around} {outer : List Env} {s s1 : Shared} {H : Hp} {E : XK} {us : List Value} {vs : List V}
    (S : FnScope N ps scope) (hd : A.handled = none) (e0 : Env0 P w K mg base A outer s H) (hl : vs.length = ps.length) (r : Vals vs us)
    (x : InCallC s s.heap.objs.size (bindL (envOfC qual scope s.heap.objs.size f cd).kindOf (ps.zip us) fun _ => none) (cellsFrom (s.heap.objs.size + 1) scope.names []) (bindC (envOfC qual scope s.heap.objs.size f cd).kindOf (ps.zip us) fun _ => none) s1) :
    Inv (cxOf CX P w K mg base N qual scope f cd A outer s H E) [] (start N vs) H s1 := by
  have hpl : ps.length ≤ N.length := by have := congrArg List.length S.pre; rw [List.length_take] at this; omega
  obtain ⟨h1, tk, rfl, hk⟩ := x.done
  have noA : ∀ b : Addr, b ∉ (cxOf CX P w K mg base N qual scope f cd A outer s H E).ex := fun b z => absurd (show b ∈ ([] : List Addr) from z) (by simp)
  refine ⟨⟨e0.mod, S.kind, rfl, rfl, Nat.le_refl _, fun y z c h1 h2 => ?_, fun y hy => ?_, fun y c _ h => ?_, fun _ => hd, Around.frames_deeper e0.frames, .inr ⟨rfl, rfl⟩, fun b z => absurd z (noA b), e0.bs, e0.bsz, fun b _ _ => noA b, fun b z => absurd z (noA b), e0.funs, e0.frf⟩,
    rfl, e0.bare, Un.kept hk, ⟨_, x.toInCall.ns, fun i y v h1 h2 h3 => ?_⟩, fun y c h => ⟨_, x.cell y c h⟩, e0.hok.fresh (Nat.le_refl _), fun y c h => ?_, fun p hp => absurd (show p ∈ ([] : List (Addr × Obj)) from hp) (by simp), e0.hok.kept hk, ?_⟩
  · exact name_of_addr x.apart (PySem.mem_of_lookup h1) (PySem.mem_of_lookup h2)
  · have hy : scope.names.lookup y = some .cell ∨ scope.names.lookup y = some .free := hy
    rcases hy with hy | hy
    · exact cell_has hy
    · exact absurd rfl (S.nofree _ (PySem.mem_of_lookup hy))
  · exact Nat.le_of_lt (x.above y c (PySem.mem_of_lookup h))
  · have hi : i < vs.length := by
      unfold start at h2
      by_cases hi : i < vs.length
      · exact hi
      · rw [List.getElem?_append_right (by simpa using hi)] at h2
        rw [List.getElem?_replicate] at h2
        split at h2 <;> cases h2
    have ha : vs[i]? = some v := by
      unfold start at h2
      rw [List.getElem?_append_left (by simpa using hi), List.getElem?_map] at h2
      cases e : vs[i]? with
      | none => rw [e] at h2; cases h2
      | some a => rw [e] at h2; cases h2; rfl
    obtain ⟨u, hu, rv⟩ := r.get ha
    have hp : ps[i]? = some y := by
      rw [← S.pre, List.getElem?_take_of_lt (by omega)]; exact h1
    have ndP : ps.Nodup := by rw [← S.pre]; exact S.nd.sublist (List.take_sublist _ _)
    refine ⟨u, rv, ?_⟩
    rcases S.par y (List.mem_of_getElem? hp) with k | k
    · exact .inl ⟨k, bindL_get ndP hp hu k⟩
    · obtain ⟨c, e⟩ := cell_has (n := s.heap.objs.size + 1) k
      refine .inr ⟨.inl k, c, e, ?_⟩
      have q := x.cell y c e
      rw [bindC_get ndP hp hu (by show scope.names.lookup y ≠ _; rw [k]; decide)] at q
      exact q
  · exact e0.hok.fresh (Nat.le_of_lt (x.above y c (PySem.mem_of_lookup h)))
  · unfold start
    show _ = N.length
    rw [List.length_append, List.length_map, List.length_replicate]
    omega

/-- THE RULE: a def (or a method) of the text, by its body. The body's reading t is chosen for each entry; it is run at the parameters' values -/
theorem fn_of {CX : CXT} {P : Program} {w : World} {K : PySem.W.Frag} {mg : Str → Option Value} {base : Heap} {k : Nat} {f : Addr} {name qual : Str} {params : Arguments} {body : List Stmt} {scope : Scope} {dV kV doc pm cdv ct oc : Value} {an od : Option Addr}
    {osl : Array (Option Value)} {N ps : List Str} {sp : Sp} (lk : K.lookup f = some ⟨oc, od, .func (PySem.W.fnOf name qual params body scope dV kV doc pm an cdv ct), osl⟩) (hcd : PySem.W.codeIn K cdv qual = true) (S : FnScope N ps scope)
    (len : ∀ vs H Q E, sp vs H Q E → vs.length = ps.length)
    (hbody : ∀ (A : Around) (outer : List Env) (s : Shared) (H : Hp) (vs : List V) (Q : VK) (E : XK), Room k (A.deeper (envOfC qual scope s.heap.objs.size f cdv)) → sp vs H Q E →
      ∃ t, PSs (cxOf CX P w K mg base N qual scope f cdv A outer s H E) body t ∧ t { nx := fun _ H' => Q .non H', rt := Q } (start N vs) H) :
    FnOk P w K mg base CX (k + 1) f (PySem.W.fnOf name qual params body scope dV kV doc pm an cdv ct) ps sp := by
  refine ⟨len, fun A outer s H args us vs Q E hr e0 hb r hsp => ?_⟩
  have hl := len _ _ _ _ hsp
  have KX : K.In s.heap := e0.mod.kin.keeps fun b o e => (e0.bs b o e).1
  have lim : s.heap.NoLimit := e0.mod.nolimit.keeps fun b o e => (e0.bs b o e).1
  have hkind : ∀ y ∈ ps.zip us, scope.names.lookup y.1 = some .local ∨ (scope.names.lookup y.1 = some .cell ∧ ((cellsFrom (s.heap.objs.size + 1) scope.names []).lookup y.1).isSome = true) := fun ⟨n, v⟩ hy => by
    rcases S.par n (List.of_mem_zip hy).1 with q | q
    · exact .inl q
    · exact .inr ⟨q, PySem.W.cellsFrom_some _ _ _ (.inl q)⟩
  refine codeAny_call_function hr.depth (KX _ _ lk) rfl S.co S.gen rfl (PySem.W.codeRec_of KX hcd) (hb _ _ _ _ ?_)
  refine wpAny_newFunctionEnv_cells S.kind hkind fun env he s1 x => ?_
  subst he
  refine ⟨lim.keeps x.toInCall.keep, codeAny_func ?_⟩
  obtain ⟨t, ht, hq⟩ := hbody A outer s H vs Q E (hr.deeper _) hsp
  have I : Inv (cxOf CX P w K mg base N qual scope f cdv A outer s H E) [] (start N vs) H s1 := inv_start S hr.hd e0 hl r x
  refine wpAny_mono (ht [] s1 (start N vs) H _ I hq) (fun fl s' hs => ?_) fun e s' hs => hs
  have fin : ∀ {σ' : St} {H' : Hp} {v : V} {u : Value}, Inv (cxOf CX P w K mg base N qual scope f cdv A outer s H E) [] σ' H' s' → RelV v u → Q v H' → CE outer P w H s Q u s' :=
    fun {σ' H' v u} J rv q => ⟨v, H', J.os, J.bare, J.base, J.hok, rv, q⟩
  cases fl with
  | ret u =>
    obtain ⟨v, σ', H', J, rv, q⟩ := hs
    exact fin J rv q
  | next =>
    obtain ⟨σ', H', J, q⟩ := hs
    exact fin (v := V.non) (u := Value.none) J rfl q
  | brk =>
    obtain ⟨_, _, _, q⟩ := hs
    exact False.elim q
  | cont =>
    obtain ⟨_, _, _, q⟩ := hs
    exact False.elim q
end L2

namespace L2
open PySem PySem.Spec PyProof.Rows
section
variable {X : Cx} {x : Str} {p pos : Pos} {e : Expr} {es : List Expr} {t : TA} {id T : String} {r : List V → Hp → VK → Prop}

noncomputable def tCB (r : List V → Hp → VK → Prop) (t : TA) : TE := fun σ H Q => t σ H fun vs H1 => r vs H1 Q
/-- f(e, ..), f a built-in function -/
theorem pe_callB (hc : CallR X (.builtin id) r) (hg : Gl X x) (hm : X.mg x = none) (hv : bootBuiltins x = some (.builtin id)) (ha : PA X (e :: es) t) (hn : x ≠ "__name__" := by decide) (hdb : (x == ("__debug__" : Str)) = false := by decide)
    (he : starEach (e :: es) X.env = (false, eval e X.env) :: starEach es X.env := by rfl) (hpl : (backTo pos (starEach es X.env)).any (·.1) = false := by rfl) : PE X (.Call (.Name x p) (e :: es) [] pos) (tCB r t) := by
  intro pins s σ H Q I h
  refine wpAny_Call_Name_kw (ld_blt I hg hm hv ?_ hn hdb)
  exact PyProof.Rows.callWith_builtin1 (thn (ha pos pins s σ H _ I h) fun us s1 ⟨vs, H1, I1, r1, q1⟩ => hc pins s1 σ H1 vs us Q I1 r1 q1) he hpl
/-- T(e, ..), T a built-in type -/
theorem pe_callTy (hc : CallR X (.type T) r) (hg : Gl X x) (hm : X.mg x = none) (hv : bootBuiltins x = some (.type T)) (ha : PA X (e :: es) t) (hn : x ≠ "__name__" := by decide) (hdb : (x == ("__debug__" : Str)) = false := by decide)
    (he : starEach (e :: es) X.env = (false, eval e X.env) :: starEach es X.env := by rfl) (hpl : (backTo pos (starEach es X.env)).any (·.1) = false := by rfl) : PE X (.Call (.Name x p) (e :: es) [] pos) (tCB r t) := by
  intro pins s σ H Q I h
  refine wpAny_Call_Name_kw (ld_blt I hg hm hv ?_ hn hdb)
  exact PyProof.Rows.callWith_type1 (thn (ha pos pins s σ H _ I h) fun us s1 ⟨vs, H1, I1, r1, q1⟩ => hc pins s1 σ H1 vs us Q I1 r1 q1) he hpl
end
end L2

namespace HT
open PySem PyProof.Rows

section
open PySem.SeqAt
open PySem.AutoSeq1 (wpAny_loadPart')
open PySem.MeetsSeq PySem.MeetsSeq2 PySem.MeetsSeq3

end

section
variable {prog : Program} {w : World} {A : Around} {E : Value → Shared → Prop} {s : Shared}

/-! ### t[a:b], not the whole -/
/-- a slice's bound as a place among n (d where it is left out) -/
noncomputable def sIx (n d : Nat) : Option Int → Nat
  | none => d
  | some v => if v < 0 then (v + (n : Int)).toNat else min v.toNat n
theorem sIx_none (n d : Nat) : sIx n d none = d := rfl
theorem sIx_nat (n d k : Nat) : sIx n d (some (k : Int)) = min k n := by
  show (if (k : Int) < 0 then ((k : Int) + (n : Int)).toNat else min (k : Int).toNat n) = min k n
  rw [if_neg (by omega), Int.toNat_natCast]
theorem sIx_le (n d : Nat) (hd : d ≤ n) (o : Option Int) : sIx n d o ≤ n := by
  cases o with
  | none => exact hd
  | some v =>
    show (if v < 0 then (v + (n : Int)).toNat else min v.toNat n) ≤ n
    by_cases hv : v < 0
    · rw [if_pos hv]; omega
    · rw [if_neg hv]; exact Nat.min_le_right _ _
theorem clip_eq (v : Int) (n d : Nat) : (if v < 0 then max (v + (n : Int)) 0 else min v (n : Int)) = ((sIx n d (some v) : Nat) : Int) := by
  show (if v < 0 then max (v + (n : Int)) 0 else min v (n : Int)) = (((if v < 0 then (v + (n : Int)).toNat else min v.toNat n) : Nat) : Int)
  by_cases hv : v < 0
  · simp only [if_pos hv]; omega
  · simp only [if_neg hv]; omega
theorem adjust_gen (lo hi : Option Int) (n : Nat) : Builtin.Slice.sliceAdjust lo hi 1 (n : Int) = (((sIx n 0 lo : Nat) : Int), ((sIx n n hi : Nat) : Int)) := by
  have h1 : ¬ ((1 : Int) < 0) := by omega
  unfold Builtin.Slice.sliceAdjust
  simp only [h1, if_false]
  refine Prod.ext ?_ ?_
  · cases lo with
    | none => rfl
    | some v => exact clip_eq v n 0
  · cases hi with
    | none => rfl
    | some v => exact clip_eq v n n
theorem places_gen (i j : Nat) : Builtin.Slice.slicePlaces (i : Int) (j : Int) 1 = j - i := by
  unfold Builtin.Slice.slicePlaces
  have h1 : (1 : Int) > 0 := by omega
  simp only [h1, if_true, Int.ediv_one]
  split <;> omega
theorem slicePart_ {v : Value} {o : Option Int} {Q : Option Int → Shared → Prop} (p : IsPart v o) (h : Q o s) : wpAny (model prog w) A (Builtin.Slice.slicePartIndex v) Q E s := by
  cases p with
  | none => exact slicePart_none h
  | int i t => exact slicePart_int h
theorem sliceApplied_gen {sl : Addr} {vl vu : Value} {lo hi : Option Int} {n : Nat} {Q : Int × Int × Nat → Shared → Prop} (hs : s.heap.IsSliceOf sl vl vu .none) (pl : IsPart vl lo) (pu : IsPart vu hi)
    (h : Q (((sIx n 0 lo : Nat) : Int), 1, sIx n n hi - sIx n 0 lo) s) : wpAny (model prog w) A (Builtin.Slice.sliceApplied (.ref sl) (pure (n : Int))) Q E s := by
  obtain ⟨os, hos, hcs, hds⟩ := id hs
  unfold Builtin.Slice.sliceApplied Builtin.Slice.sliceFields
  refine wpAny_bind (wpAny_bind (wpAny_field hos hds (x := vl) rfl (wpAny_bind (wpAny_field hos hds (x := vu) rfl (wpAny_bind (wpAny_field hos hds (x := .none) rfl (wpAny_pure ?_)))))))
  refine wpAny_bind (slicePart_none ?_)
  show wpAny _ _ (if ((1 : Int) == 0) = true then _ else _) _ _ s
  rw [if_neg (by decide)]
  refine wpAny_bind (slicePart_ pl (wpAny_bind (slicePart_ pu (wpAny_bind (wpAny_pure ?_)))))
  show wpAny _ _ (match Builtin.Slice.sliceAdjust lo hi 1 (n : Int) with | (lo, hi) => pure (lo, (1 : Int), Builtin.Slice.slicePlaces lo hi 1)) _ _ s
  rw [adjust_gen lo hi n]
  show wpAny _ _ (pure (((sIx n 0 lo : Nat) : Int), (1 : Int), Builtin.Slice.slicePlaces ((sIx n 0 lo : Nat) : Int) ((sIx n n hi : Nat) : Int) 1)) _ _ s
  rw [places_gen]
  exact wpAny_pure h
theorem pick_gen (xs : Array Value) (i k : Nat) : ((List.range k).filterMap fun (m : Nat) => xs[((i : Int) + (m : Int) * 1).toNat]?).toArray = ((xs.toList.drop i).take k).toArray := by
  have e : (fun (m : Nat) => xs[((i : Int) + (m : Int) * 1).toNat]?) = fun m => xs[i + m]? := by
    funext m
    have : ((i : Int) + (m : Int) * 1).toNat = i + m := by omega
    rw [this]
  rw [e]
  have := pick_run xs i k
  rw [List.filterMap_map] at this
  have e2 : ((fun x => xs[x]?) ∘ fun x => i + x) = fun m => xs[i + m]? := rfl
  rw [e2] at this
  rw [this]

theorem getItem_tuple_cut {t sl : Addr} {items : Array Value} {vl vu : Value} {lo hi : Option Int} {Q : Value → Shared → Prop} (ht : IsTup s.heap t items) (hs : s.heap.IsSliceOf sl vl vu .none) (pl : IsPart vl lo) (pu : IsPart vu hi)
    (hw : ¬ (sIx items.size 0 lo = 0 ∧ sIx items.size items.size hi = items.size))
    (h : Q (.ref s.heap.objs.size) { s with heap := s.heap.push { cls := .type "tuple", data := .seq ((items.toList.drop (sIx items.size 0 lo)).take (sIx items.size items.size hi - sIx items.size 0 lo)).toArray } })
    (hsz : items.size ≤ sizeLine) : wpAny (model prog w) A (getItem (.ref t) (.ref sl)) Q E s := by
  have htake : sizeOk (.seq ((items.toList.drop (sIx items.size 0 lo)).take (sIx items.size items.size hi - sIx items.size 0 lo)).toArray) := by
    show ((items.toList.drop (sIx items.size 0 lo)).take (sIx items.size items.size hi - sIx items.size 0 lo)).toArray.size ≤ sizeLine
    rw [List.size_toArray, List.length_take, List.length_drop, Array.length_toList]
    omega
  have hj : sIx items.size items.size hi ≤ items.size := sIx_le _ _ (Nat.le_refl _) hi
  obtain ⟨os, hos, hcs, hds⟩ := id hs
  have hTs : s.TypeIs (.ref sl) "slice" := ⟨os, hos, hcs⟩
  unfold getItem
  try with_reducible refine wpAny_holding ?_
  first | refine wpAny_bind (wpAny_pure ?_) | skip
  refine wpAny_bind (wpAny_sequenceKey ht.typeIs (by decide) ?_)
  refine wpAny_bind (wpAny_callSpecial?_slot (name := Str.ofString "__getitem__") ht.typeIs PyProof.Rows.slot_tuple_getitem
    (wpAny_call_entry PyProof.Rows.slot_tuple_getitem ht.typeIs entry_tuple_getitem ?_ (args_tuple_getitem _ _)))
  show wpAny _ _ (Builtin.Tuple.tupleItemsOf (.ref t) >>= _) _ _ s
  refine wpAny_bind (tupleItemsOf_ ht ?_)
  refine wpAny_bind (wpAny_typeOf hTs ?_)
  rw [if_pos (by decide)]
  refine wpAny_bind (sliceApplied_gen hs pl pu ?_)
  have hno : ¬ ((((sIx items.size 0 lo : Nat) : Int) == 0 && (1 : Int) == 1 && (sIx items.size items.size hi - sIx items.size 0 lo) == items.size) = true) := by
    intro q
    rw [Bool.and_eq_true, Bool.and_eq_true] at q
    have q1 : ((sIx items.size 0 lo : Nat) : Int) = 0 := eq_of_beq q.1.1
    have q2 : sIx items.size items.size hi - sIx items.size 0 lo = items.size := eq_of_beq q.2
    exact hw ⟨by omega, by omega⟩
  show wpAny _ _ (if (((sIx items.size 0 lo : Nat) : Int) == 0 && (1 : Int) == 1 && (sIx items.size items.size hi - sIx items.size 0 lo) == items.size) = true then _ else _) _ _ s
  rw [if_neg hno, pick_gen]
  first
    | exact wpAny_bind (m := Builtin.Tuple.tupleExact _) (wpAny_newObj_type (wpAny_pure ⟨_, rfl, wpAny_pure h⟩) htake)
    | exact wpAny_bind (m := Builtin.Tuple.tupleExact _) (wpAny_newObj_type (wpAny_bind (wpAny_pure (wpAny_pure ⟨_, rfl, wpAny_pure h⟩))) htake)
    | exact wpAny_bind (wpAny_bind (m := Builtin.Tuple.tupleExact _) (wpAny_newObj_type (wpAny_pure (wpAny_pure ⟨_, rfl, wpAny_pure h⟩)) htake))
    | exact wpAny_bind (wpAny_bind (m := Builtin.Tuple.tupleExact _) (wpAny_newObj_type (wpAny_pure ⟨_, rfl, wpAny_pure h⟩) htake))
end
end HT

namespace L2
open PySem PySem.Spec PyProof.Rows

/-! ### the parts of a slice -/
noncomputable abbrev TO := St → Hp → (Option Int → Hp → Prop) → Prop
/-- a slice's part (left out, or an int) -/
noncomputable def PO (X : Cx) (e : Option Expr) (t : TO) : Prop :=
  ∀ (pins : List (Addr × Obj)) (s : Shared) (σ : St) (H : Hp) (Q : Option Int → Hp → Prop), Inv X pins σ H s → t σ H Q →
    wpAny (model X.prog X.w) X.A (evalPart e X.env) (fun u s' => ∃ o H', Inv X pins σ H' s' ∧ IsPart u o ∧ Q o H') X.xe s
noncomputable def tNoPart : TO := fun _ H Q => Q none H
noncomputable def tPart (t : TE) : TO := fun σ H Q => t σ H fun x H1 => ∃ i, x = .int i ∧ Q (some i) H1

section
variable {X : Cx} {e : Expr} {te : TE} {lo hi : Option Expr} {tl th : TO} {pos p2 : Pos}

theorem po_none : PO X none tNoPart := by
  intro pins s σ H Q I h
  rw [evalPart_none]
  exact wpAny_pure ⟨none, H, I, .none, h⟩
theorem po_some (h : PE X e te) : PO X (some e) (tPart te) := by
  intro pins s σ H Q I hw
  rw [evalPart_some]
  refine thn (h pins s σ H _ I hw) fun u s1 ⟨x, H1, I1, r1, q1⟩ => ?_
  obtain ⟨i, rfl, q⟩ := q1
  obtain ⟨t, rfl⟩ := r1
  exact ⟨some i, H1, I1, .int i t, q⟩

/-- what a slice of a value is, by values: the slice object stands at sl -/
noncomputable def SlR (X : Cx) (r : V → Option Int → Option Int → Hp → VK → Prop) : Prop :=
  ∀ (pins : List (Addr × Obj)) (s : Shared) (σ : St) (H : Hp) (x : V) (v vl vu : Value) (lo hi : Option Int) (sl : Addr) (Q : VK), Inv X pins σ H s → RelV x v → s.heap.IsSliceOf sl vl vu .none → IsPart vl lo → IsPart vu hi → r x lo hi H Q →
    ∃ T id, typeLookup (.type T) "__getitem__" = pure (some (.builtin id)) ∧ s.TypeIs v T ∧ wpAny (model X.prog X.w) X.A (getItem v (.ref sl)) (EP X pins σ Q) X.xe s
theorem SlR.or {r r' : V → Option Int → Option Int → Hp → VK → Prop} (h : SlR X r) (h' : SlR X r') : SlR X (fun x lo hi H Q => r x lo hi H Q ∨ r' x lo hi H Q) := by
  intro pins s σ H x v vl vu lo hi sl Q I rx hs pl pu q
  rcases q with q | q
  · exact h pins s σ H x v vl vu lo hi sl Q I rx hs pl pu q
  · exact h' pins s σ H x v vl vu lo hi sl Q I rx hs pl pu q
noncomputable def tSl (r : V → Option Int → Option Int → Hp → VK → Prop) (te : TE) (tl th : TO) : TE := fun σ H Q => te σ H fun x H1 => tl σ H1 fun l H2 => th σ H2 fun u H3 => r x l u H3 Q
/-- a[lo:hi], any a -/
theorem pe_slice {r : V → Option Int → Option Int → Hp → VK → Prop} (hr : SlR X r) (he : PE X e te) (hl : PO X lo tl) (hu : PO X hi th) : PE X (.Subscript e (.Slice lo hi none p2) pos) (tSl r te tl th) := by
  intro pins s σ H Q I h
  refine Subscript_ (thn (he pins s σ H _ I h) fun v s1 ⟨x, H1, I1, r1, q1⟩ => ?_)
  refine wpAny_Slice (thn (hl pins s1 σ H1 _ I1 q1) fun vl s2 ⟨l, H2, I2, pl, q2⟩ => thn (hu pins s2 σ H2 _ I2 q2) fun vu s3 ⟨u, H3, I3, pu, q3⟩ => ?_)
  rw [evalPart_none]
  refine wpAny_pure ?_
  have I4 : Inv X pins σ H3 { s3 with heap := s3.heap.push { cls := .type "slice", data := .fields #[vl, vu, .none] } } := I3.kept (t' := s3.toks) fun b ob q => Heap.get?_push_of_some _ q
  obtain ⟨T, id, hT, ht, hg⟩ := hr pins { s3 with heap := s3.heap.push { cls := .type "slice", data := .fields #[vl, vu, .none] } } σ H3 x v vl vu l u s3.heap.objs.size Q I4 r1 (Heap.IsSliceOf.new ..) pl pu q3
  show wpAny (model X.prog X.w) X.A (subscriptTail e (.Slice lo hi none p2) v (.ref s3.heap.objs.size)) (EP X pins σ Q) X.xe { s3 with heap := s3.heap.push { cls := .type "slice", data := .fields #[vl, vu, .none] } }
  exact tail_any (ops := [.ref s3.heap.objs.size, v]) ht hT hg (by with_unfolding_all rfl)

/-- the items of xs[lo:hi] -/
noncomputable def cutV (xs : List V) (lo hi : Option Int) : List V := (xs.drop (HT.sIx xs.length 0 lo)).take (HT.sIx xs.length xs.length hi - HT.sIx xs.length 0 lo)
theorem cutV_length (xs : List V) (lo hi : Option Int) : (cutV xs lo hi).length ≤ xs.length := by
  unfold cutV
  rw [List.length_take, List.length_drop]
  omega
/-- t[lo:hi], not the whole of it (the whole would be t itself) -/
noncomputable def rSlT (K : PySem.W.Frag) : V → Option Int → Option Int → Hp → VK → Prop := fun x lo hi H Q => ∃ a xs, x = .ref a ∧ SqT K H a xs ∧
  ¬ (HT.sIx xs.length 0 lo = 0 ∧ HT.sIx xs.length xs.length hi = xs.length) ∧ ∀ p, H p = none → Q (.ref p) (upd H p (.tup (cutV xs lo hi)))
theorem sl_tup : SlR X (rSlT X.K) := by
  intro pins s σ H x v vl vu lo hi sl Q I rx hs pl pu h
  obtain ⟨a, xs, rfl, hx, hw, q⟩ := h
  cases rx
  obtain ⟨its, r, ht, hz⟩ := I.tuple hx
  have hlen : its.toArray.size = xs.length := by rw [List.size_toArray]; exact r.length.symm
  refine ⟨"tuple", _, PyProof.Rows.slot_tuple_getitem.lookup, ht.typeIs, ?_⟩
  refine HT.getItem_tuple_cut ht hs pl pu (by rw [hlen]; exact hw) ?_ (by rw [hlen]; exact hz)
  rw [hlen]
  refine ⟨.ref s.heap.objs.size, _, I.laid (t' := s.toks) (o := .tup (cutV xs lo hi)) (fun b ob q => Heap.get?_push_of_some _ q) (Nat.le_refl _) ?_, rfl, q _ (I.hok.fresh (Nat.le_refl _))⟩
  exact ⟨Nat.le_trans (cutV_length xs lo hi) hz, _, (r.drop (HT.sIx xs.length 0 lo)).take (HT.sIx xs.length xs.length hi - HT.sIx xs.length 0 lo), IsTup.new _ _⟩

/-! ### t < u, t + u -/
end
end L2

namespace L2
open PySem PySem.Spec PyProof.Rows

/-! ### places -/
/-- the place that an index of any sign means -/
noncomputable def ixN (n : Nat) (i : Int) : Option Nat := if 0 ≤ i then (if i < n then some i.toNat else none) else if -(n : Int) ≤ i then some (i + n).toNat else none
noncomputable def atI {α : Type} (xs : List α) (i : Int) : Option α := (ixN xs.length i).bind fun j => xs[j]?
theorem ixN_seq {n : Nat} {i : Int} {j : Nat} (h : ixN n i = some j) : seqIndex? i n = some j ∧ j < n ∧ -(n : Int) ≤ i ∧ i < n := by
  unfold ixN at h
  by_cases h0 : 0 ≤ i
  · rw [if_pos h0] at h
    by_cases h1 : i < n
    · rw [if_pos h1] at h
      have e : i.toNat = j := Option.some.inj h
      exact ⟨by rw [seqIndex_of h0 h1, e], by omega, by omega, h1⟩
    · rw [if_neg h1] at h; cases h
  · rw [if_neg h0] at h
    by_cases h1 : -(n : Int) ≤ i
    · rw [if_pos h1] at h
      have e : (i + n).toNat = j := Option.some.inj h
      exact ⟨by rw [seqIndex_neg (by omega) h1, e], by omega, h1, by omega⟩
    · rw [if_neg h1] at h; cases h
theorem atI_get {α : Type} {xs : List α} {i : Int} {v : α} (h : atI xs i = some v) : ∃ j, seqIndex? i xs.length = some j ∧ xs[j]? = some v ∧ j < xs.length ∧ -(xs.length : Int) ≤ i ∧ i < xs.length := by
  unfold atI at h
  cases e : ixN xs.length i with
  | none => rw [e] at h; cases h
  | some j =>
    rw [e] at h
    obtain ⟨h1, h2, h3, h4⟩ := ixN_seq e
    exact ⟨j, h1, h, h2, h3, h4⟩
theorem atI_nat {α : Type} {xs : List α} {j : Nat} {v : α} (h : xs[j]? = some v) : atI xs (j : Int) = some v := by
  have hj : j < xs.length := (List.getElem?_eq_some_iff.mp h).1
  have e : ixN xs.length (j : Int) = some j := by
    unfold ixN
    rw [if_pos (by omega), if_pos (by omega)]; simp
  unfold atI; rw [e]; exact h
theorem atI_last {α : Type} (xs : List α) (v : α) : atI (xs ++ [v]) (-1) = some v := by
  have hl : (xs ++ [v]).length = xs.length + 1 := by simp
  have e : ixN (xs ++ [v]).length (-1) = some xs.length := by
    unfold ixN
    rw [hl, if_neg (by decide), if_pos (by omega)]
    congr 1
    omega
  unfold atI
  rw [e]
  show (xs ++ [v])[xs.length]? = some v
  simp

/-! ### what may be subscripted -/
/-- what stands as an index of a plain subscript -/
noncomputable def PlainIx (b : Expr) : Prop := ∀ o i, subscripted b false o i = operate [o, i] (getItem o i)
/-- a subscript by values -/
noncomputable def IxR (X : Cx) (r : R2) : Prop :=
  ∀ (value slice : Expr) (pins : List (Addr × Obj)) (s : Shared) (σ : St) (H : Hp) (x y : V) (v u : Value) (Q : VK), Inv X pins σ H s → RelV x v → RelV y u → r x y H Q →
    subscripted slice false v u = operate [v, u] (getItem v u) → wpAny (model X.prog X.w) X.A (subscriptTail value slice v u) (EP X pins σ Q) X.xe s
/-- a call of a builtin's method by values: the receiver, the arguments -/
noncomputable def MtR (X : Cx) (id : String) (r : V → List V → Hp → VK → Prop) : Prop :=
  ∀ (pins : List (Addr × Obj)) (s : Shared) (σ : St) (H : Hp) (x : V) (xs : List V) (v : Value) (us : List Value) (Q : VK), Inv X pins σ H s → RelV x v → Vals xs us → r x xs H Q →
    wpAny (model X.prog X.w) X.A (call (.builtin id) (v :: us)) (EP X pins σ Q) X.xe s
section
variable {X : Cx} {a b : Expr} {ta tb : TE} {pos : Pos}
theorem IxR.or {r r' : R2} (h : IxR X r) (h' : IxR X r') : IxR X (fun x y H Q => r x y H Q ∨ r' x y H Q) := by
  intro value slice pins s σ H x y v u Q I rx ry q hs
  rcases q with q | q
  · exact h value slice pins s σ H x y v u Q I rx ry q hs
  · exact h' value slice pins s σ H x y v u Q I rx ry q hs
/-- a[b] -/
theorem pe_ix {r : R2} (hr : IxR X r) (ha : PE X a ta) (hb : PE X b tb) (hs : PlainIx b) : PE X (.Subscript a b pos) (tOp r ta tb) := by
  intro pins s σ H Q I h
  exact Subscript_ (binT ha hb I h fun v u s2 x y H2 I2 rx ry q => hr a b pins s2 σ H2 x y v u Q I2 rx ry q (hs _ _))

noncomputable def rIxL (K : PySem.W.Frag) : R2 := fun x y H Q => ∃ p xs i v, x = .ref p ∧ y = .int i ∧ SqL K H p xs ∧ atI xs i = some v ∧ Q v H
noncomputable def rIxT (K : PySem.W.Frag) : R2 := fun x y H Q => ∃ p xs i v, x = .ref p ∧ y = .int i ∧ SqT K H p xs ∧ atI xs i = some v ∧ Q v H
noncomputable def rIxS : R2 := fun x y H Q => ∃ z i c, x = .str z ∧ y = .int i ∧ z.length ≤ sizeLine ∧ atI z.cps.toList i = some c ∧ Q (.str ⟨#[c]⟩) H
theorem ix_list : IxR X (rIxL X.K) := by
  intro value slice pins s σ H x y v u Q I rx ry h hs
  obtain ⟨p, xs, i, z, rfl, rfl, hq, he, q⟩ := h
  cases rx
  obtain ⟨t, rfl⟩ := ry
  obtain ⟨its, r, pl, hz⟩ := I.list hq
  obtain ⟨j, h1, h2, h3, h4, h5⟩ := atI_get he
  obtain ⟨w, ew, rw'⟩ := r.get h2
  have hl := r.length
  have hn := line63
  have fin : EP X pins σ Q w s := ⟨z, H, I, rw', q⟩
  by_cases h0 : 0 ≤ i
  · have hj : i.toNat = j := by
      rw [seqIndex_of h0 h5] at h1
      exact Option.some.inj h1
    exact item_listR pl.isList h0 (by omega) (by rw [hj]; simpa using ew) fin hs
  · have hj : (i + (its.toArray.size : Int)).toNat = j := by
      rw [seqIndex_neg (by omega) h4] at h1
      rw [List.size_toArray, ← hl]
      exact Option.some.inj h1
    exact subscriptTail_builtinR (x := w) pl.isList.typeIs slot_list_getitem.lookup
      (wpAny_getItem_list_neg (Q := fun r s' => r = w ∧ EP X pins σ Q r s') pl.isList (by omega) (by rw [List.size_toArray] <;> omega) (by omega) (by rw [hj]; simpa using ew) ⟨rfl, fin⟩) hs
theorem ix_tup : IxR X (rIxT X.K) := by
  intro value slice pins s σ H x y v u Q I rx ry h hs
  obtain ⟨p, xs, i, z, rfl, rfl, hq, he, q⟩ := h
  cases rx
  obtain ⟨t, rfl⟩ := ry
  obtain ⟨its, r, pl, hz⟩ := I.tuple hq
  obtain ⟨j, h1, h2, h3, h4, h5⟩ := atI_get he
  obtain ⟨w, ew, rw'⟩ := r.get h2
  have hl := r.length
  have hn := line63
  have fin : EP X pins σ Q w s := ⟨z, H, I, rw', q⟩
  exact subscriptTail_builtinR (x := w) pl.typeIs slot_tuple_getitem.lookup
    (getItem_tuple (j := j) (Q := fun r s' => r = w ∧ EP X pins σ Q r s') pl (by omega) (by omega) (by rw [List.size_toArray, ← hl]; exact h1) (by simpa using ew) ⟨rfl, fin⟩) hs
theorem ix_str : IxR X rIxS := by
  intro value slice pins s σ H x y v u Q I rx ry h hs
  obtain ⟨z, i, c, rfl, rfl, hz, he, q⟩ := h
  obtain ⟨t, rfl⟩ := rx
  obtain ⟨t', rfl⟩ := ry
  obtain ⟨j, h1, h2, h3, h4, h5⟩ := atI_get he
  have hl : z.cps.toList.length = z.length := by simp [Str.length]
  rw [hl] at h1 h4 h5
  have hn := line63
  exact tail_any (typeIs_str s z t) slot_str_getitem.lookup (getItem_str (c := c) (by
    have e1 : decide (i < -(2 ^ 63 : Int)) = false := decide_eq_false (by omega)
    have e2 : decide (i ≥ 2 ^ 63) = false := decide_eq_false (by omega)
    rw [e1, e2, Bool.or_false]) (by rw [h1]; simpa using h2) ⟨.str ⟨#[c]⟩, H, I.tok _, ⟨_, rfl⟩, q⟩) hs
/-- list, tuple or str -/
noncomputable def rIx (K : PySem.W.Frag) : R2 := fun x y H Q => rIxL K x y H Q ∨ rIxT K x y H Q ∨ rIxS x y H Q
theorem ix_seq : IxR X (rIx X.K) := ix_list.or (ix_tup.or ix_str)

/-! ### xs[i] = v, any sign -/
/-- the list's object behind a store -/
theorem mapSeq_set (its : List Value) (n j : Nat) (u : Value) : Obj.mapSeq (·.setIfInBounds j u) { cls := .type "list", data := .seq its.toArray n } = { cls := .type "list", data := .seq (its.set j u).toArray n } := by
  simp [Obj.mapSeq]
theorem Inv.lst {pins : List (Addr × Obj)} {σ : St} {H : Hp} {s : Shared} {p : Addr} {xs : List V} (I : Inv X pins σ H s) (h : H p = some (.lst xs)) :
    ∃ (its : List Value) (n : Nat), Vals xs its ∧ s.heap.get? p = some { cls := .type "list", data := .seq its.toArray n } ∧ xs.length ≤ sizeLine := by
  obtain ⟨z, its, n, r, e⟩ := I.hok p _ h
  exact ⟨its, n, r, e, z⟩
/-- the list at p is written by an update of its object -/
theorem Inv.lstUpd {pins : List (Addr × Obj)} {σ : St} {H : Hp} {s : Shared} {p : Addr} {xs ys : List V} {its its' : List Value} {n n' : Nat} {f : Obj → Obj} (I : Inv X pins σ H s) (h : H p = some (.lst xs))
    (ho : s.heap.get? p = some { cls := .type "list", data := .seq its.toArray n }) (hf : f { cls := .type "list", data := .seq its.toArray n } = { cls := .type "list", data := .seq its'.toArray n' }) (r : Vals ys its') (hz : ys.length ≤ sizeLine) (t : Nat) :
    Inv X pins σ (upd H p (.lst ys)) { s with heap := s.heap.update p f, toks := t } := by
  have e : (s.heap.update p f).get? p = some { cls := .type "list", data := .seq its'.toArray n' } := by
    rw [Heap.get?_update_self f ho (by rw [hf] <;> rfl), hf]
  refine I.write (x := p) (e := p) (by rw [h]; trivial) (.inl rfl) (fun b u hb q => (Heap.get?_update_other _ _ (Ne.symm hb)).trans q) ⟨_, e⟩ ?_
  exact ⟨hz, its', n', r, e⟩
noncomputable def rSetL : V → V → V → Hp → (Hp → Prop) → Prop := fun o i v H Q => ∃ p xs k j, o = .ref p ∧ i = .int k ∧ H p = some (.lst xs) ∧ ixN xs.length k = some j ∧ Q (upd H p (.lst (xs.set j v)))
theorem set_list : PSet X rSetL := by
  intro pins s σ H o i v ov iv u Q I ro ri rv h
  obtain ⟨p, xs, k, j, rfl, rfl, hp, hj, q⟩ := h
  cases ro
  obtain ⟨t, rfl⟩ := ri
  obtain ⟨its, n, r, ho, hz⟩ := I.lst hp
  obtain ⟨h1, h2, h3, h4⟩ := ixN_seq hj
  have hl := r.length
  have hn := line63
  have I' : Inv X pins σ (upd H p (.lst (xs.set j v))) { s with heap := s.heap.update p (Obj.mapSeq (·.setIfInBounds j u)) } :=
    I.lstUpd hp ho (mapSeq_set its n j u) (r.set rv j) (by rw [List.length_set]; exact hz) s.toks
  by_cases h0 : 0 ≤ k
  · have hk : k.toNat = j := by
      rw [seqIndex_of h0 h4] at h1
      exact Option.some.inj h1
    exact PySem.W.ki_setAt ho h0 (by omega) (by rw [List.size_toArray, ← hl]; exact h4) (by rw [hk]; exact ⟨_, I', q⟩)
  · have hk : (k + (its.toArray.size : Int)).toNat = j := by
      rw [seqIndex_neg (by omega) h3] at h1
      rw [List.size_toArray, ← hl]
      exact Option.some.inj h1
    exact PySem.W.ki_setBack ho (by omega) (by rw [List.size_toArray, ← hl]; exact h3) (by omega) (by rw [hk]; exact ⟨_, I', q⟩)

/-! ### slices -/
theorem slice_bounds (lo hi : Option Int) (n : Nat) : (sliceBounds lo hi none n).1 = ((HT.sIx n 0 lo : Nat) : Int) ∧ (sliceBounds lo hi none n).2.1 = ((HT.sIx n n hi : Nat) : Int) ∧ (sliceBounds lo hi none n).2.2 = 1 := by
  refine ⟨?_, ?_, rfl⟩
  · cases lo with
    | none => simp [sliceBounds, HT.sIx]
    | some i =>
      simp only [sliceBounds, HT.sIx, Option.getD_none, show (1 : Int) > 0 by decide, if_true]
      by_cases h : i < 0
      · simp only [h, if_true] <;> omega
      · simp only [h, if_false] <;> omega
  · cases hi with
    | none => simp [sliceBounds, HT.sIx]
    | some i =>
      simp only [sliceBounds, HT.sIx, Option.getD_none, show (1 : Int) > 0 by decide, if_true]
      by_cases h : i < 0
      · simp only [h, if_true] <;> omega
      · simp only [h, if_false] <;> omega
theorem slicePick_cut (its : List Value) (lo hi : Option Int) : slicePick its.toArray lo hi none = ((its.drop (HT.sIx its.length 0 lo)).take (HT.sIx its.length its.length hi - HT.sIx its.length 0 lo)).toArray := by
  obtain ⟨h1, h2, h3⟩ := slice_bounds lo hi its.toArray.size
  unfold slicePick
  rw [h1, h2, h3]
  simp only [sliceRange_one, pick_run, List.size_toArray] <;> rfl
/-- xs[lo:hi] of a list: a new list -/
noncomputable def rSlL (K : PySem.W.Frag) : V → Option Int → Option Int → Hp → VK → Prop := fun x lo hi H Q => ∃ a xs, x = .ref a ∧ SqL K H a xs ∧ ∀ p, H p = none → Q (.ref p) (upd H p (.lst (cutV xs lo hi)))
theorem sl_list : SlR X (rSlL X.K) := by
  intro pins s σ H x v vl vu lo hi sl Q I rx hs pl pu h
  obtain ⟨a, xs, rfl, hx, q⟩ := h
  cases rx
  obtain ⟨its, r, ht, hz⟩ := I.list hx
  have hlen := r.length
  refine ⟨"list", _, slot_list_getitem.lookup, ht.isList.typeIs, ?_⟩
  refine wpAny_getItem_list_slice ht.isList hs pl pu .none (by simp) ?_ (by rw [List.size_toArray] <;> omega)
  rw [slicePick_cut, ← hlen]
  refine ⟨.ref s.heap.objs.size, _, I.laid (t' := s.toks) (o := .lst (cutV xs lo hi)) (fun b ob q => Heap.get?_push_of_some _ q) (Nat.le_refl _) ?_, rfl, q _ (I.hok.fresh (Nat.le_refl _))⟩
  exact ⟨Nat.le_trans (cutV_length xs lo hi) hz, _, 0, (r.drop (HT.sIx xs.length 0 lo)).take (HT.sIx xs.length xs.length hi - HT.sIx xs.length 0 lo), Heap.get?_push_size _ rfl⟩

/-! ### in, not in: flat items -/
/-! ### len, list(x), tuple(x) of any list or tuple that is read -/
theorem call_len_seq : CallR X (.builtin "len") (fun xs H Q => ∃ p ys, xs = [.ref p] ∧ (SqL X.K H p ys ∨ SqT X.K H p ys) ∧ Q (.int ys.length) H) := by
  intro pins s σ H xs us Q I r h
  obtain ⟨p, ys, rfl, hq, q⟩ := h
  obtain ⟨u, rfl, rx⟩ := vals1 r
  cases rx
  have hn := line63
  rcases hq with hq | hq
  · obtain ⟨its, r', pl, hz⟩ := I.list hq
    have hlen := r'.length
    exact Calls.call_len_list pl.isList (by simp only [List.size_toArray] <;> omega) ⟨.int ys.length, H, I.tok _, ⟨s.toks + 1, by rw [List.size_toArray, hlen]⟩, q⟩
  · obtain ⟨its, r', pl, hz⟩ := I.tuple hq
    have hlen := r'.length
    exact len_tuple pl (by simp only [List.size_toArray] <;> omega) ⟨.int ys.length, H, I.tok _, ⟨s.toks + 1, by rw [List.size_toArray, hlen]⟩, q⟩
theorem call_len_str : CallR X (.builtin "len") (fun xs H Q => ∃ z, xs = [.str z] ∧ z.length ≤ sizeLine ∧ Q (.int z.length) H) := by
  intro pins s σ H xs us Q I r h
  obtain ⟨z, rfl, hz, q⟩ := h
  obtain ⟨u, rfl, t, rfl⟩ := vals1 r
  have hn := line63
  exact len_str (by omega) ⟨.int z.length, H, I.tok _, ⟨_, rfl⟩, q⟩
theorem CallR.or {f : Value} {r r' : List V → Hp → VK → Prop} (h : CallR X f r) (h' : CallR X f r') : CallR X f (fun xs H Q => r xs H Q ∨ r' xs H Q) := by
  intro pins s σ H xs us Q I rs q
  rcases q with q | q
  · exact h pins s σ H xs us Q I rs q
  · exact h' pins s σ H xs us Q I rs q
theorem call_list_of : CallR X (.type "list") (fun xs H Q => ∃ p ys, xs = [.ref p] ∧ (SqL X.K H p ys ∨ SqT X.K H p ys) ∧ ∀ l, H l = none → Q (.ref l) (upd H l (.lst ys))) := by
  intro pins s σ H xs us Q I r h
  obtain ⟨p, ys, rfl, hq, q⟩ := h
  obtain ⟨u, rfl, rx⟩ := vals1 r
  cases rx
  have fin : ∀ (its : List Value), Vals ys its → ys.length ≤ sizeLine → ∀ (h' : Heap) (c' : Nat), (∀ b o', s.heap.get? b = some o' → h'.get? b = some o') →
      h'.get? s.heap.objs.size = some { cls := .type "list", dict := none, data := .seq its.toArray c', slots := #[] } → EP X pins σ Q (.ref s.heap.objs.size) { s with heap := h' } := fun its r' hz h' c' kp e =>
    ⟨.ref s.heap.objs.size, _, I.laid (t' := s.toks) kp (Nat.le_refl _) (show ObjOk X.prog X.w _ h' _ (.lst ys) from ⟨hz, its, c', r', e⟩), rfl, q _ (I.hok.fresh (Nat.le_refl _))⟩
  rcases hq with hq | hq
  · obtain ⟨its, r', pl, hz⟩ := I.list hq
    have hlen := r'.length
    obtain ⟨o, ho, hc, n, hd⟩ := pl.isList
    exact call_list_seq p (.inl rfl) ho hc hd (fun h' c' kp e => fin its r' hz h' c' kp e) (by simp only [List.size_toArray] <;> omega)
  · obtain ⟨its, r', pl, hz⟩ := I.tuple hq
    have hlen := r'.length
    obtain ⟨o, ho, hc, n, hd⟩ := pl
    exact call_list_seq p (.inr rfl) ho hc hd (fun h' c' kp e => fin its r' hz h' c' kp e) (by simp only [List.size_toArray] <;> omega)
theorem call_tuple_of : CallR X (.type "tuple") (fun xs H Q => ∃ p ys, xs = [.ref p] ∧ ((SqL X.K H p ys ∧ ∀ l, H l = none → Q (.ref l) (upd H l (.tup ys))) ∨ (SqT X.K H p ys ∧ Q (.ref p) H))) := by
  intro pins s σ H xs us Q I r h
  obtain ⟨p, ys, rfl, h⟩ := h
  obtain ⟨u, rfl, rx⟩ := vals1 r
  cases rx
  rcases h with ⟨hq, q⟩ | ⟨hq, q⟩
  · obtain ⟨its, r', pl, hz⟩ := I.list hq
    have hlen := r'.length
    refine call_tuple_list pl.isList (fun h' kp => ?_) (by simp only [List.size_toArray] <;> omega)
    have I1 : Inv X pins σ H { s with heap := h' } := I.kept (t' := s.toks) kp
    have I2 : Inv X pins σ (upd H h'.objs.size (.tup ys)) { s with heap := h'.push { cls := .type "tuple", data := .seq its.toArray } } :=
      I1.laid (t' := s.toks) (fun b o e => Heap.get?_push_of_some _ e) (Nat.le_refl _) (show ObjOk X.prog X.w _ _ _ (.tup ys) from ⟨hz, its, r', IsTup.new _ _⟩)
    exact ⟨.ref h'.objs.size, _, I2, rfl, q _ (I1.hok.fresh (Nat.le_refl _))⟩
  · obtain ⟨its, r', pl, hz⟩ := I.tuple hq
    exact call_tuple_same pl ⟨.ref p, H, I, rfl, q⟩

/-! ### the call of a builtin's method: o.m(..) -/
/-- the value is of that builtin type -/
noncomputable def tyV (K : PySem.W.Frag) (T : String) (x : V) (H : Hp) : Prop := match x with
  | .str _ => T = "str"
  | .int _ => T = "int"
  | .ref p => (T = "list" ∧ ∃ xs, SqL K H p xs) ∨ (T = "tuple" ∧ ∃ o, K.lookup p = some o ∧ o.cls = .type "tuple" ∧ o.dict = none) ∨
      (T = "dict" ∧ ((∃ kvs, H p = some (.dK kvs)) ∨ ∃ kvs, H p = some (.dT kvs))) ∨ (T = "set" ∧ ∃ S n, H p = some (.set S n))
  | _ => False
theorem tyV_is {pins : List (Addr × Obj)} {σ : St} {H : Hp} {s : Shared} {T : String} {x : V} {v : Value} (I : Inv X pins σ H s) (r : RelV x v) (ty : tyV X.K T x H) :
    s.TypeIs v T ∧ ∀ a, v = .ref a → ∃ ob, s.heap.get? a = some ob ∧ ob.dict = none := by
  cases x with
  | str z =>
    obtain ⟨t, rfl⟩ := r
    cases (show T = "str" from ty)
    exact ⟨typeIs_str s z t, fun _ e => nomatch e⟩
  | int i =>
    obtain ⟨t, rfl⟩ := r
    cases (show T = "int" from ty)
    exact ⟨typeIs_int s i t, fun _ e => nomatch e⟩
  | ref p =>
    cases r
    rcases ty with ⟨rfl, xs, hq⟩ | ⟨rfl, o, hk, hc, hd⟩ | ⟨rfl, hk⟩ | ⟨rfl, S, n, hk⟩
    · obtain ⟨its, _, pl, _⟩ := I.list hq
      refine ⟨pl.isList.typeIs, fun a e => ?_⟩
      cases e
      obtain ⟨o, n, e, c, hd, _⟩ := pl
      exact ⟨o, e, hd⟩
    · refine ⟨⟨o, I.kIn p o hk, hc⟩, fun a e => ?_⟩
      cases e
      exact ⟨o, I.kIn _ o hk, hd⟩
    · have z : ∃ o, s.heap.get? p = some o ∧ o.ExactDict := by
        rcases hk with ⟨kvs, hk⟩ | ⟨kvs, hk⟩
        · obtain ⟨_, _, _, _, o, _, _, e, ex, _⟩ := I.hok p _ hk
          exact ⟨o, e, ex⟩
        · obtain ⟨_, _, _, _, o, _, _, e, ex, _⟩ := I.hok p _ hk
          exact ⟨o, e, ex⟩
      obtain ⟨o, e, ex⟩ := z
      refine ⟨⟨o, e, ex.1⟩, fun a e2 => ?_⟩
      cases e2
      exact ⟨o, e, ex.2.1⟩
    · obtain ⟨o, _, _, _, e, ex, _⟩ := I.hok p _ hk
      refine ⟨⟨o, e, ex.1⟩, fun a e2 => ?_⟩
      cases e2
      exact ⟨o, e, ex.2.1⟩
  | _ => exact False.elim ty
noncomputable def tBM0 (K : PySem.W.Frag) (T : String) (r : V → List V → Hp → VK → Prop) (to : TE) : TE := fun σ H Q => to σ H fun x H1 => tyV K T x H1 ∧ r x [] H1 Q
noncomputable def tBM (K : PySem.W.Frag) (T : String) (r : V → List V → Hp → VK → Prop) (to : TE) (t : TA) : TE := fun σ H Q => to σ H fun x H1 => tyV K T x H1 ∧ t σ H1 fun xs H2 => r x xs H2 Q
variable {o e : Expr} {es : List Expr} {to : TE} {t : TA} {name : Str} {apos cpos : Pos} {T id : String} {r : V → List V → Hp → VK → Prop}
theorem pe_bm0 (pa : PlainAttrs T) (slot : Slot T name id) (hty : typeOf (.builtin id) = pure (.type "method_descriptor")) (hm : MtR X id r) (ho : PE X o to)
    (hbase : attributeBase o name X.env (eval o X.env) = eval o X.env := by rfl) (hline : (apos.endLine == cpos.line) = true := by rfl) : PE X (.Call (.Attribute o name apos) [] [] cpos) (tBM0 X.K T r to) := by
  intro pins s σ H Q I h
  refine wpAny_Call_method0_late hbase hline (thn (ho pins s σ H _ I h) fun v s1 ⟨x, H1, I1, r1, ty, q1⟩ => ?_)
  obtain ⟨h1, h2⟩ := tyV_is I1 r1 ty
  exact ⟨T, id, pa, slot, hty, h1, h2, Calls.callWith_builtin rfl (PySem.evalArgs_none (hm pins s1 σ H1 x [] v [] Q I1 r1 .nil q1))⟩
theorem pe_bm (pa : PlainAttrs T) (slot : Slot T name id) (hty : typeOf (.builtin id) = pure (.type "method_descriptor")) (hm : MtR X id r) (ho : PE X o to) (ha : PA X (e :: es) t)
    (hbase : attributeBase o name X.env (eval o X.env) = eval o X.env := by rfl)
    (hfew : ((backTo cpos (starEach (e :: es) X.env)).all (fun x => !x.1) && (backToKw cpos (keywordEach [] X.env)).all (fun x => x.1.isSome)
      && decide ((e :: es).length + ([] : List Keyword).length + (if ([] : List Keyword).isEmpty then 0 else 1) < 30)) = true := by rfl)
    (hline : (apos.endLine == cpos.line) = true := by rfl) (hs : starEach (e :: es) X.env = (false, eval e X.env) :: starEach es X.env := by rfl) (hplain : (backTo cpos (starEach es X.env)).any (·.1) = false := by rfl) :
    PE X (.Call (.Attribute o name apos) (e :: es) [] cpos) (tBM X.K T r to t) := by
  intro pins s σ H Q I h
  refine wpAny_Call_method_late hbase hfew hline rfl (thn (ho pins s σ H _ I h) fun v s1 ⟨x, H1, I1, r1, ty, q1⟩ => ?_)
  obtain ⟨h1, h2⟩ := tyV_is I1 r1 ty
  refine ⟨T, id, pa, slot, hty, h1, h2, ?_⟩
  have hA := ha cpos pins s1 σ H1 _ I1 q1
  rw [hs] at hA ⊢
  refine Calls.callWith_builtin (by show (false || (backTo cpos (starEach es X.env)).any (·.1)) = false; rw [hplain] <;> rfl) (Calls.evalArgs_plain ?_)
  exact thn hA fun us s2 ⟨vs, H2, I2, r2, q2⟩ => hm pins s2 σ H2 x vs v us Q I2 r1 r2 q2
/- xs.append(e), list.index on a module's tuple .. are MtR facts of 06m -/
end
end L2

namespace L2
open PySem PySem.Spec PyProof.Rows

noncomputable def MtM (X : Cx) (id : String) (r : V → List V → Hp → VK → Prop) : Prop :=
  ∀ (pins : List (Addr × Obj)) (s : Shared) (σ : St) (H : Hp) (x : V) (xs : List V) (v : Value) (us : List Value) (Q : VK), Inv X pins σ H s → RelV x v → Vals xs us → r x xs H Q →
    wpAny (model X.prog X.w) X.A (call (.builtin id) (v :: us)) (EP X pins σ Q) X.xe s

/-! ### lists of values -/
theorem Vals.one : ∀ {x : V} {us : List Value}, Vals [x] us → ∃ u, us = [u] ∧ RelV x u
  | _, _, .cons r .nil => ⟨_, rfl, r⟩
theorem Vals.zero : ∀ {us : List Value}, Vals [] us → us = []
  | _, .nil => rfl
theorem Vals.eraseIdx : ∀ {xs : List V} {us : List Value} (i : Nat), Vals xs us → Vals (xs.eraseIdx i) (us.eraseIdx i)
  | _, _, _, .nil => .nil
  | _, _, 0, .cons _ t => t
  | _, _, i + 1, .cons r t => .cons r (Vals.eraseIdx i t)
theorem len_erase {α : Type} : ∀ (l : List α) (i : Nat), (l.eraseIdx i).length ≤ l.length
  | [], _ => Nat.le_refl _
  | _ :: _, 0 => Nat.le_succ _
  | _ :: r, i + 1 => Nat.succ_le_succ (len_erase r i)
section
variable {X : Cx} {pins : List (Addr × Obj)} {σ : St} {H : Hp} {s : Shared} {l b : Addr} {xs ys zs : List V}

/-! ### the two steps: a tracked list is rewritten, a new list is laid -/
theorem Inv.lset {its its' : List Value} {n : Nat} {f : Array Value → Array Value} {t' : Nat} (I : Inv X pins σ H s) (hH : H l = some (.lst xs))
    (e : s.heap.get? l = some { cls := .type "list", data := .seq its.toArray n }) (hf : f its.toArray = its'.toArray) (hv : Vals ys its') (hz : ys.length ≤ sizeLine) :
    Inv X pins σ (upd H l (.lst ys)) { s with heap := s.heap.update l (Obj.mapSeq f), toks := t' } := by
  have q := PySem.IsL.update e f
  rw [hf] at q
  refine I.write (x := l) (e := l) (by rw [hH]; exact trivial) (.inl rfl) (fun b' u hb hu => (Heap.get?_update_other s.heap (Obj.mapSeq f) (Ne.symm hb)).trans hu) ⟨_, q⟩ ?_
  exact ⟨hz, its', _, hv, q⟩
theorem Inv.lnew {its : List Value} {t' : Nat} (I : Inv X pins σ H s) (hv : Vals ys its) (hz : ys.length ≤ sizeLine) :
    Inv X pins σ (upd H s.heap.objs.size (.lst ys)) { s with heap := s.heap.push { cls := .type "list", data := .seq its.toArray }, toks := t' } :=
  I.laid (fun _ _ q => Heap.get?_push_of_some _ q) (Nat.le_refl _) ⟨hz, its, 0, hv, Heap.get?_push_size _ rfl⟩
theorem Inv.fresh (I : Inv X pins σ H s) : H s.heap.objs.size = none := I.hok.fresh (Nat.le_refl _)
theorem Inv.lstM (I : Inv X pins σ H s) (hH : H l = some (.lst xs)) : xs.length ≤ sizeLine ∧ ∃ (its : List Value) (n : Nat), Vals xs its ∧ xs.length = its.length ∧ s.heap.get? l = some { cls := .type "list", data := .seq its.toArray n } := by
  obtain ⟨z, its, n, r, e⟩ := I.hok l _ hH
  exact ⟨z, its, n, r, r.length, e⟩

end

section
variable {X : Cx}

/-! ### methods -/
noncomputable def rAppend : V → List V → Hp → VK → Prop := fun x vs H Q => ∃ l xs y, x = .ref l ∧ vs = [y] ∧ H l = some (.lst xs) ∧ xs.length < sizeLine ∧ Q .non (upd H l (.lst (xs ++ [y])))
theorem mt_append : MtM X "list.append" rAppend := by
  intro pins s σ H x vs v us Q I rx rv h
  obtain ⟨l, xs, y, rfl, rfl, hH, hz, q⟩ := h
  cases rx
  obtain ⟨u, rfl, ru⟩ := rv.one
  obtain ⟨z, its, n, r, hl, e⟩ := I.lstM hH
  refine call_meets F.slot_list_append ⟨_, e, rfl⟩ F.entry_list_append (F.args_list_append_2 _ _) (PySem.list_append l its.toArray n u (by rw [List.size_toArray]; omega)) ⟨e, ?_⟩
  refine ⟨.non, _, I.lset (its' := its ++ [u]) hH e (by simp) (r.append (.cons ru .nil)) ?_, rfl, q⟩
  rw [List.length_append, List.length_singleton]
  omega

noncomputable def rPopAt : V → List V → Hp → VK → Prop := fun x vs H Q => ∃ l xs i k y, x = .ref l ∧ vs = [.int i] ∧ H l = some (.lst xs) ∧ -(2 ^ 63) ≤ i ∧ i < 2 ^ 63 ∧ seqIndex? i xs.length = some k ∧ xs[k]? = some y ∧ Q y (upd H l (.lst (xs.eraseIdx k)))
theorem mt_popAt : MtM X "list.pop" rPopAt := by
  intro pins s σ H x vs v us Q I rx rv h
  obtain ⟨l, xs, i, k, y, rfl, rfl, hH, h1, h2, hk, hy, q⟩ := h
  cases rx
  obtain ⟨u, rfl, ru⟩ := rv.one
  obtain ⟨t, rfl⟩ := ru
  obtain ⟨z, its, n, r, hl, e⟩ := I.lstM hH
  obtain ⟨w, hw, rw'⟩ := r.get hy
  refine call_meets F.slot_list_pop ⟨_, e, rfl⟩ F.entry_list_pop (F.args_list_pop_2 _ _)
    (MeetsSeq.list_pop_at l its.toArray n i t k w (fitsIndex_both h1 h2) (by rw [List.size_toArray, ← hl]; exact hk) (by rw [← Array.getElem?_toList]; exact hw) (by rw [List.size_toArray]; omega)) ⟨e, ?_⟩
  refine ⟨y, _, I.lset (its' := its.eraseIdx k) hH e ?_ (r.eraseIdx k) ?_, rw', q⟩
  · show its.toArray.eraseIdxIfInBounds k = (its.eraseIdx k).toArray
    rw [List.eraseIdxIfInBounds_toArray]
  · have := len_erase xs k
    omega

noncomputable def rClear : V → List V → Hp → VK → Prop := fun x vs H Q => ∃ l xs, x = .ref l ∧ vs = [] ∧ H l = some (.lst xs) ∧ Q .non (upd H l (.lst []))
theorem mt_clear : MtM X "list.clear" rClear := by
  intro pins s σ H x vs v us Q I rx rv h
  obtain ⟨l, xs, rfl, rfl, hH, q⟩ := h
  cases rx
  have hus := rv.zero
  subst hus
  obtain ⟨z, its, n, r, hl, e⟩ := I.lstM hH
  refine call_meets F.slot_list_clear ⟨_, e, rfl⟩ F.entry_list_clear (F.args_list_clear_1 _) (AutoSeq1.list_clear_list_0 l its.toArray n (by rw [List.size_toArray]; omega)) ⟨e, ?_⟩
  exact ⟨.non, _, I.lset (its' := []) (ys := []) hH e rfl .nil (Nat.zero_le _), rfl, q⟩

/-! ### list + list, list += list, list * int -/
noncomputable def rCat : R2 := fun x y H Q => ∃ l b xs zs, x = .ref l ∧ y = .ref b ∧ H l = some (.lst xs) ∧ H b = some (.lst zs) ∧ xs.length + zs.length ≤ sizeLine ∧ ∀ p, H p = none → Q (.ref p) (upd H p (.lst (xs ++ zs)))
theorem op_cat : OpR X (binaryOp .Add) rCat := by
  intro pins s σ H x y v u Q I rx ry h
  obtain ⟨l, b, xs, zs, rfl, rfl, hH, hB, hz, q⟩ := h
  cases rx
  cases ry
  obtain ⟨z, its, n, r, hl, e⟩ := I.lstM hH
  obtain ⟨z2, its2, n2, r2, hl2, e2⟩ := I.lstM hB
  refine PySem.P.add_list e e2 ?_ (by rw [List.size_toArray, List.size_toArray]; omega)
  have ea : its.toArray ++ its2.toArray = (its ++ its2).toArray := by simp
  rw [ea]
  exact ⟨.ref _, _, I.lnew (t' := s.toks) (r.append r2) (by rw [List.length_append]; omega), rfl, q _ I.fresh⟩
/-! ### del xs[i] -/
end

/-! ### xs[a:b] = ys -/
section
variable {prog : Program} {w : World} {A : Around} {E : Value → Shared → Prop} {s : Shared}
set_option maxRecDepth 100000 in
end

section
variable {X : Cx}
end
end L2

namespace Att
open PySem PySem.W PySem.Calls PyProof.Rows

/-! ### the script -/
theorem ints_of_wellAll {P : Params} {h : Heap} : ∀ (ns : List Int) (vs : List Value), WellAll P h vs (ns.map WData.int) → IntsAre vs ns := by
  intro ns
  induction ns with
  | nil =>
    intro vs w
    rw [List.map_nil] at w
    cases w
    exact .nil
  | cons n ns ih =>
    intro vs w
    rw [List.map_cons] at w
    cases w with
    | cons a b =>
      cases a
      exact .cons _ _ (ih _ b)

theorem script_of {l : OpenLaw} {n : Nat} (hn : l.most = some n) {P : Params} {h : Heap} {args : List WData} {vals : List Value}
    (hpre : l.row.toRowW.claim.pre args = true) (hwl : WellAll P h vals args) :
    ∃ a vs ns, vals = [Value.ref a] ∧ args = [WData.list (ns.map WData.int)] ∧ h.get? a = some { cls := .type "list", data := .seq vs.toArray } ∧ IntsAre vs ns ∧ ns.length ≤ n := by
  have hsh : WShape.hasAll [] args [.list .int] = true := (pre_splitW hpre).1
  have hc : l.pre.holds [] { args := args } = true := (pre_splitW hpre).2
  obtain ⟨d, r, rfl, h1, h2⟩ := hasAllW_cons hsh
  obtain rfl := hasAllW_nil h2
  obtain ⟨xs, rfl, h3⟩ := hasW_list h1
  obtain ⟨ns, rfl⟩ := items_int h3
  have hlen : ns.length ≤ n := by
    unfold OpenLaw.pre at hc
    have h4 : (WTm.not (.lt (.lit (.int (n : Int))) (.len (.arg 0)))).holds [] { args := [.list (ns.map .int)] } = true := by
      have h4 := (holds_andW hc).1
      rw [hn] at h4
      exact h4
    have h5 := condW_of h4 (w_not (w_lt w_lit (w_len_list (w_arg rfl))))
    rw [List.length_map] at h5
    refine Nat.le_of_not_lt fun q => ?_
    have q' : (n : Int) < ((ns.length : Nat) : Int) := by omega
    first
      | (rw [decide_eq_true q'] at h5; exact absurd h5 (by decide))
      | (simp at h5; omega)
  cases hwl with
  | cons w1 w2 =>
    cases w2
    cases w1 with
    | list ho hall => exact ⟨_, _, ns, rfl, rfl, ho, ints_of_wellAll ns _ hall, hlen⟩

theorem post_true (l : OpenLaw) (args : List WData) : l.row.toRowW.claim.post args (.bool true) args = true :=
  postW_of (r := l.row.toRowW) (X := (true == true))
    (show WShape.has [] (.bool true) .bool = true by first | rfl | decide | simp [WShape.has, WShape.arms, WShape.armsAll])
    (show (WTm.eq .res (.lit (.bool true))).value [] { args := args, res := some (.bool true), after := args } = some (.bool (true == true)) from w_eq_bool (w_res rfl) w_lit) rfl

/-! ### the attachment: holds_open's last premise (the goal 'hc' behind k_head) from a wpAny of the law's body -/
/-- the same from a codeAny of the CALL (for a layer whose function contracts speak of calls) -/
theorem attach_call {l : OpenLaw} {n : Nat} {q : Program} {loose : List Str} {XP : (Str → Option Value) → Heap → Prop} {YP : World → Heap → Prop} {d : DefRec}
    (hn : l.most = some n) (hdf : d.params.defaults = [])
    (call : ∀ (w : World) (s₀ s₁ : Shared) (mg mb : Str → Option Value) (fa : Addr) (o : Obj) (pm cd doc : Value) (a : Addr) (vs : List Value) (ns : List Int),
      Ground q loose [] XP w s₀ mg mb s₁.heap → YP w s₁.heap →
      s₁.heap.get? fa = some o → o.data = .func (docDef d.name d.params d.body d.scope pm cd doc) → s₁.heap.CodeRec cd d.name → mg d.name = some (.ref fa) →
      s₁.heap.get? a = some { cls := .type "list", data := .seq vs.toArray } → IntsAre vs ns → ns.length ≤ n → s₁.gens = #[] →
      codeAny (model l.prog w) callerA (.call (.ref fa) ⟨[.ref a], []⟩) (fun r s' => r = .ok (.ret (.bool true)) ∧ OldK s₁.heap s'.heap ∧ s'.os = s₁.os ∧ AllBare s'.gens) s₁) :
    WalkO q loose XP YP l.row.toRowW d [] (fun f vs => PySem.call f vs) := by
  intro w s₀ s₁ mg mb G Y fa o pm cd doc dV kV ho hd hcd hD hmg hg args vals as hpre hlay hrd hwl hlo
  obtain rfl : dV = .none := Dflts.none hD hdf
  obtain rfl : kV = .none := Dflts.noKw hD
  obtain ⟨a, vs, ns, rfl, rfl, hobj, hints, hlen⟩ := script_of hn hpre hwl
  refine enter_call (codeAny_mono (call w s₀ s₁ mg mb fa o pm cd doc a vs ns G Y ho (fd_plain hd) hcd hmg hobj hints hlen hg) fun r s' hq => ?_)
  obtain ⟨rfl, h2, h3, h4⟩ := hq
  exact ⟨.inl ⟨.bool true, .bool true, [], rfl, fun _ => rfl, .bool true, post_true l _, fun _ => ⟨List.Pairwise.nil, fun _ hm => (nomatch hm)⟩⟩, h2, h3, h4⟩

/-! ### rules over ANY heap (no ledger) from facts about the written part K: the library's own take a ledger (News) for what they write -/
section
variable {prog : Program} {w : World} {A : Around} {E : Value → Shared → Prop} {s : Shared} {K : Frag}

/-! the whole heap as the ledger: makes every rule that writes through a ledger a rule over any heap -/
end
end Att

namespace L2
open PySem PySem.Spec PyProof.Rows

theorem vals_ints : ∀ {vs : List Value} {ns : List Int}, IntsAre vs ns → Vals (ns.map V.int) vs
  | _, _, .nil => .nil
  | _, _, .cons n t h => .cons ⟨t, rfl⟩ (vals_ints h)

end L2

namespace L2
open PySem PySem.Spec PyProof.Rows

noncomputable abbrev KOf {K : PySem.W.Frag} {h : Heap} (_ : K.In h) : PySem.W.Frag := K

end L2



/-! SHORT WORDS over the layer: a def of the text, its body, what a loop and a test want. -/
namespace L2
open PySem PySem.Spec PyProof.Rows

/-! ### the text by places -/
/-- the j-th statement of a class's body -/
noncomputable def inClass (s : Stmt) (j : Nat) : Stmt := match s with
  | .ClassDef _ _ _ body _ _ _ _ _ _ _ => body.getD j (.Pass ⟨0, 0, 0, 0⟩)
  | _ => .Pass ⟨0, 0, 0, 0⟩
noncomputable def defArgs (s : Stmt) : Arguments := match s with
  | .FunctionDef _ a _ _ _ _ _ _ _ _ => a
  | _ => { posonlyargs := [], args := [], vararg := none, kwonlyargs := [], kw_defaults := [], kwarg := none, defaults := [] }
noncomputable def defBody (s : Stmt) : List Stmt := match s with
  | .FunctionDef _ _ b _ _ _ _ _ _ _ => b
  | _ => []
noncomputable def defScope (s : Stmt) : Scope := match s with
  | .FunctionDef _ _ _ _ _ _ sc _ _ _ => sc
  | _ => { kind := .function, names := [], isGenerator := false, isCoroutine := false }

/-! ### no exception leaves a def -/
noncomputable abbrev CX0 : CXT := fun _ _ _ _ _ _ => False
noncomputable abbrev E0 : XK := fun _ _ _ => False
theorem pass0 {X : Cx} : Passes CX0 X E0 := fun _ _ _ _ _ _ _ h => h.elim

/-! ### a def (or method) of the text as it stands behind the top -/
structure Fun (K : PySem.W.Frag) (x qual : Str) (st : Stmt) (f : Addr) (fd : FuncData) : Prop where
  ex : ∃ (oc : Value) (od : Option Addr) (kV doc pm : Value) (an : Option Addr) (cdv ct : Value) (osl : Array (Option Value)),
    fd = PySem.W.fnOf x qual (defArgs st) (defBody st) (defScope st) .none kV doc pm an cdv ct ∧ K.lookup f = some ⟨oc, od, .func fd, osl⟩ ∧ PySem.W.codeIn K cdv qual = true
  kp : PySem.W.keepIn K (.ref f) = true
section
variable {P : Program} {w : World} {K : PySem.W.Frag} {mg : Str → Option Value} {base : Heap}
/-- THE RULE for a def: its body as a term of rules, and the reading of that term -/
theorem Fun.ok {x qual : Str} {st : Stmt} {f : Addr} {fd : FuncData} {N ps : List Str} {k : Nat} {sp : Sp} (F : Fun K x qual st f fd) (S : FnScope N ps (defScope st)) (len : ∀ vs H Q E, sp vs H Q E → vs.length = ps.length)
    (hbody : ∀ (cdv : Value) (A : Around) (outer : List Env) (s : Shared) (H : Hp) (vs : List V) (Q : VK) (E : XK), Room k (A.deeper (envOfC qual (defScope st) s.heap.objs.size f cdv)) → sp vs H Q E →
      ∃ t, PSs (cxOf CX0 P w K mg base N qual (defScope st) f cdv A outer s H E).nox (defBody st) t ∧ t { nx := fun _ H' => Q .non H', rt := Q } (start N vs) H) : FnOk P w K mg base CX0 (k + 1) f fd ps sp := by
  obtain ⟨oc, od, kV, doc, pm, an, cdv, ct, osl, rfl, lk, hcd⟩ := F.ex
  refine fn_of lk hcd S len fun A outer s H vs Q E hr hsp => ?_
  obtain ⟨t, h, q⟩ := hbody cdv A outer s H vs Q E hr hsp
  exact ⟨t, h.nox, q⟩
/-- how its arguments bind (no defaults): h is «fun _ _ _ _ _ _ us hl => match us, hl with | [_, _], _ => rfl», one _ a parameter -/
theorem Fun.binds {x qual : Str} {st : Stmt} {f : Addr} {fd : FuncData} {ps : List Str} (F : Fun K x qual st f fd)
    (h : ∀ (kV doc pm : Value) (an : Option Addr) (cdv ct : Value) (us : List Value), us.length = ps.length → bindArgs (PySem.W.fnOf x qual (defArgs st) (defBody st) (defScope st) .none kV doc pm an cdv ct) ⟨us, []⟩ = pure (ps.zip us)) : Binds K fd ps [] := by
  obtain ⟨oc, od, kV, doc, pm, an, cdv, ct, osl, rfl, lk, hcd⟩ := F.ex
  exact .all (h kV doc pm an cdv ct)
theorem fun_mk {x qual : Str} {st : Stmt} {f : Addr} {oc : Value} {od an : Option Addr} {osl : Array (Option Value)} {kV doc pm cdv ct : Value} (l : K.lookup f = some ⟨oc, od, .func (PySem.W.fnOf x qual (defArgs st) (defBody st) (defScope st) .none kV doc pm an cdv ct), osl⟩)
    (c : PySem.W.codeIn K cdv qual = true) (k : PySem.W.keepIn K (.ref f) = true) : Fun K x qual st f (PySem.W.fnOf x qual (defArgs st) (defBody st) (defScope st) .none kV doc pm an cdv ct) := ⟨⟨oc, od, kV, doc, pm, an, cdv, ct, osl, rfl, l, c⟩, k⟩
end
/-! ### expressions in short: the name that stands in the i-th slot -/
section
variable {X : Cx}
end

/-! ### tests -/
theorem iteF {A B : Prop} (h : B) : if false = true then A else B := by
  rw [if_neg Bool.false_ne_true]
  exact h
theorem ite2 {c A B : Prop} [Decidable c] (h1 : c → A) (h2 : ¬ c → B) : if c then A else B := by
  by_cases h : c
  · rw [if_pos h]
    exact h1 h
  · rw [if_neg h]
    exact h2 h
theorem iteNS {c A B : Prop} [Decidable c] (hc : c) (h : B) : if (!decide c) = true then A else B := by
  rw [decide_eq_true hc]
  exact iteF h

/-! ### heaps -/
/-- all that was tracked is as it was -/
noncomputable def Same (H H' : Hp) : Prop := ∀ b o, H b = some o → H' b = some o
theorem Same.trans {H H1 H2 : Hp} (a : Same H H1) (b : Same H1 H2) : Same H H2 := fun c o h => b c o (a c o h)
theorem Same.free {H H' : Hp} (e : Same H H') {l : Addr} (h : H' l = Option.none) : H l = Option.none := by
  cases q : H l with
  | none => rfl
  | some o =>
    rw [e l o q] at h
    cases h
theorem Same.seq {K : PySem.W.Frag} {H H' : Hp} {a : Addr} {xs : List V} (e : Same H H') (h : SqL K H a xs) : SqL K H' a xs := by
  rcases h with (h | ⟨o, h⟩) | h
  · exact .inl (.inl (e _ _ h))
  · exact .inl (.inr ⟨o, e _ _ h⟩)
  · exact .inr h

end L2

set_option Elab.async false
set_option linter.all false
set_option maxRecDepth 100000
set_option maxHeartbeats 4000000
namespace L2
open PySem PySem.Spec PyProof.Rows

/-! ### the signs of a text, walked -/
noncomputable def Its (x : Str) : It := ⟨fun i _ => i < x.cps.size, fun i H y H' => H' = H ∧ ∃ c, x.cps[i]? = some c ∧ y = .str ⟨#[c]⟩, fun i _ => x.cps.size ≤ i⟩
theorem turn_str {P : Program} {w : World} {K : PySem.W.Frag} {tg : Expr} (x : Str) (it : Addr) {ty : String} {t : Tok} (hty : ty = "str_ascii_iterator" ∨ ty = "str_iterator") :
    Turn P w K tg (Its x) [it] it (fun i h => h.IsStrIter it ty x t i) where
  mem := by simp
  obj := fun i h st b hb => by
    have e : b = it := by simpa using hb
    subst e
    obtain ⟨o, e, c, d⟩ := st
    exact ⟨o, e, fun v z => by rw [d] at z; cases z⟩
  keep := fun i h h' st k => by
    obtain ⟨o, e, r⟩ := st
    exact ⟨o, k it (by simp) o e, r⟩
  item := by
    intro X hP hw hK hc i pins s σ H E I hf st hg
    subst hP hw hK
    have hi : i < x.cps.size := hg
    obtain ⟨f0, f1, f2, f3, f4, f5⟩ := hf it (by simp)
    rcases hty with rfl | rfl
    · refine wpAny_pyNext_ascii_item st (c := x.cps[i]) (by simp [hi]) fun h' st' sb => ?_
      have I1 : Inv X pins σ H { s with heap := h', toks := s.toks + 1 } := I.turned (fun b o hb e => (sb.2 b hb).trans e) f0 f1 f3 f4 f5
      obtain ⟨o, e, c, d⟩ := id st'
      exact ⟨_, rfl, go_of (s := { s with heap := h', toks := s.toks + 1 }) e c d (by decide) ⟨.str ⟨#[x.cps[i]]⟩, H, I1, ⟨_, rfl⟩, ⟨rfl, x.cps[i], by simp [hi], rfl⟩, st', fun b hb => (hf b hb).1⟩⟩
    · refine wpAny_pyNext_wide_item st (c := x.cps[i]) (by simp [hi]) fun h' st' sb => ?_
      have I1 : Inv X pins σ H { s with heap := h', toks := s.toks + 1 } := I.turned (fun b o hb e => (sb.2 b hb).trans e) f0 f1 f3 f4 f5
      obtain ⟨o, e, c, d⟩ := id st'
      exact ⟨_, rfl, go_of (s := { s with heap := h', toks := s.toks + 1 }) e c d (by decide) ⟨.str ⟨#[x.cps[i]]⟩, H, I1, ⟨_, rfl⟩, ⟨rfl, x.cps[i], by simp [hi], rfl⟩, st', fun b hb => (hf b hb).1⟩⟩
  done := by
    intro X hP hw hK hc i pins s σ H E I hf st hg
    subst hP hw hK
    have hi : x.cps.size ≤ i := hg
    obtain ⟨f0, f1, f2, f3, f4, f5⟩ := hf it (by simp)
    rcases hty with rfl | rfl
    · exact wpAny_pyNext_ascii_end (I.ok.hd hc) st (by simp [hi]) fun h' eb => ⟨rfl, I.turned (t' := s.toks) (fun b o hb e => eb b o hb e) f0 f1 f3 f4 f5⟩
    · exact wpAny_pyNext_wide_end (I.ok.hd hc) st (by simp [hi]) fun h' eb => ⟨rfl, I.turned (t' := s.toks) (fun b o hb e => eb b o hb e) f0 f1 f3 f4 f5⟩
  self := fun _ _ _ _ _ st h => by
    rcases hty with rfl | rfl
    · exact wpAny_pyIter_striter_ascii st h
    · exact wpAny_pyIter_striter_wide st h
noncomputable def iStr (tl : TE) : TI := fun σ H R => tl σ H fun x H1 => ∃ z, x = .str z ∧ R (Its z) H1
theorem pi_str {X : Cx} {tg l : Expr} {tl : TE} (hl : PE X l tl) : PI X tg l (iStr tl) := by
  intro pins s σ H R I h
  refine thn (hl pins s σ H _ I h) fun v s1 ⟨x, H1, I1, r1, q1⟩ => ?_
  obtain ⟨z, e, q⟩ := q1
  subst e
  obtain ⟨t, rfl⟩ := r1
  refine wpAny_pyIter_strU ?_
  refine ⟨s1.heap.objs.size, [s1.heap.objs.size], _, _, H1, rfl, I1.kept (t' := s1.toks) fun b o e => Heap.get?_push_of_some _ e, turn_str (ty := strIterType z) (t := t) z _ ?_, ⟨_, Heap.get?_push_size _ rfl, rfl, rfl⟩, fun b hb => ?_, q⟩
  · unfold strIterType
    split
    · exact .inl rfl
    · exact .inr rfl
  · have e : b = s1.heap.objs.size := by simpa using hb
    subst e
    exact I1.fpOk (Nat.le_refl _) (I1.hok.fresh (Nat.le_refl _))
end L2

set_option Elab.async false
set_option linter.all false
set_option maxRecDepth 100000
set_option maxHeartbeats 4000000
namespace L2
open PySem PySem.Spec PyProof.Rows

/-! ### a comprehension -/
noncomputable def Wk : St → St → Prop
  | [], [] => True
  | Option.none :: r, _ :: q => Wk r q
  | some a :: r, b :: q => b = some a ∧ Wk r q
  | _, _ => False
theorem Wk.len : ∀ {a b : St}, Wk a b → a.length = b.length
  | [], [], _ => rfl
  | Option.none :: r, _ :: q, h => congrArg (· + 1) (Wk.len (a := r) (b := q) h)
  | some _ :: r, _ :: q, h => congrArg (· + 1) (Wk.len (a := r) (b := q) h.2)
  | [], _ :: _, h => h.elim
  | Option.none :: _, [], h => h.elim
  | some _ :: _, [], h => h.elim
theorem Wk.get : ∀ {a b : St}, Wk a b → ∀ (i : Nat) v, a[i]? = some (some v) → b[i]? = some (some v)
  | [], [], _, i, v, e => by simp at e
  | Option.none :: r, y :: q, h, 0, v, e => by simp at e
  | Option.none :: r, y :: q, h, i + 1, v, e => by simpa using Wk.get (a := r) (b := q) h i v (by simpa using e)
  | some x :: r, y :: q, h, 0, v, e => by
    have e' : x = v := by simpa using e
    rw [h.1, e'] <;> simp
  | some x :: r, y :: q, h, i + 1, v, e => by simpa using Wk.get (a := r) (b := q) h.2 i v (by simpa using e)
  | [], _ :: _, h, _, _, _ => h.elim
  | Option.none :: _, [], h, _, _, _ => h.elim
  | some _ :: _, [], h, _, _, _ => h.elim
noncomputable def clOf (cells : List (Str × Addr)) : List (Str × NameKind) → List (Str × Addr) → List (Str × Addr)
  | [], acc => acc
  | (n, k) :: r, acc => if k == .free then clOf cells r ((n, (cells.lookup n).getD 0) :: acc) else clOf cells r acc
theorem closureFor_clOf {sc : Scope} {env : Env} (h : ∀ y ∈ sc.names, y.2 = .free → ∃ c, env.cells.lookup y.1 = some c) : closureFor sc env = pure (clOf env.cells sc.names []) := by
  unfold closureFor
  have key : ∀ (l : List (Str × NameKind)) (acc : List (Str × Addr)), (∀ y ∈ l, y.2 = .free → ∃ c, env.cells.lookup y.1 = some c) →
      (forIn l acc fun x r => match x with | (name, kind) => if (kind == .free) = true then do let a ← cellOf env name; pure (ForInStep.yield ((name, a) :: r)) else pure (ForInStep.yield r) : Sem (List (Str × Addr))) = pure (clOf env.cells l acc) := by
    intro l
    induction l with
    | nil => intro acc _; rfl
    | cons y r ih =>
      intro acc hy
      obtain ⟨n, k⟩ := y
      have hr : ∀ y ∈ r, y.2 = .free → ∃ c, env.cells.lookup y.1 = some c := fun y hm => hy y (List.mem_cons_of_mem _ hm)
      rw [List.forIn_cons]
      by_cases hk : k = .free
      · subst hk
        obtain ⟨c, hc⟩ := hy (n, .free) List.mem_cons_self rfl
        have e1 : cellOf env n = pure c := by unfold cellOf; rw [hc]
        have e2 : clOf env.cells ((n, .free) :: r) acc = clOf env.cells r ((n, c) :: acc) := by
          show (if (NameKind.free == NameKind.free) = true then clOf env.cells r ((n, (env.cells.lookup n).getD 0) :: acc) else clOf env.cells r acc) = _
          rw [if_pos (by decide), hc]; rfl
        rw [e2, ← ih ((n, c) :: acc) hr]
        show (do let x ← (if (NameKind.free == NameKind.free) = true then do let a ← cellOf env n; pure (ForInStep.yield ((n, a) :: acc)) else pure (ForInStep.yield acc) : Sem _); _) = _
        rw [if_pos (by decide), e1]
        rfl
      · have hb : (k == NameKind.free) = false := by simpa using hk
        have e2 : clOf env.cells ((n, k) :: r) acc = clOf env.cells r acc := by
          show (if (k == NameKind.free) = true then clOf env.cells r ((n, (env.cells.lookup n).getD 0) :: acc) else clOf env.cells r acc) = _
          rw [hb]; rfl
        rw [e2, ← ih acc hr]
        show (do let x ← (if (k == NameKind.free) = true then do let a ← cellOf env n; pure (ForInStep.yield ((n, a) :: acc)) else pure (ForInStep.yield acc) : Sem _); _) = _
        rw [hb]
        rfl
  have := key sc.names [] h
  first | exact this | (rw [this]; rfl) | simpa using this
theorem clOf_lookup {cells : List (Str × Addr)} : ∀ {l : List (Str × NameKind)} {acc : List (Str × Addr)} {n : Str} {c : Addr}, (∀ y ∈ l, y.2 = .free → ∃ c, cells.lookup y.1 = some c) → (∀ n c, acc.lookup n = some c → cells.lookup n = some c) →
    (clOf cells l acc).lookup n = some c → cells.lookup n = some c
  | [], acc, n, c, _, ha, e => ha n c e
  | (m, k) :: r, acc, n, c, hl, ha, e => by
    have hr : ∀ y ∈ r, y.2 = .free → ∃ c, cells.lookup y.1 = some c := fun y hm => hl y (List.mem_cons_of_mem _ hm)
    have e' : (if (k == NameKind.free) = true then clOf cells r ((m, (cells.lookup m).getD 0) :: acc) else clOf cells r acc).lookup n = some c := e
    by_cases hk : (k == NameKind.free) = true
    · rw [if_pos hk] at e'
      refine clOf_lookup hr (fun n c z => ?_) e'
      obtain ⟨d, hd⟩ := hl (m, k) List.mem_cons_self (by simpa using hk)
      rw [List.lookup_cons] at z
      by_cases hn : (n == m) = true
      · rw [hn] at z
        have : n = m := by simpa using hn
        subst this
        have hd' : cells.lookup n = some d := hd
        rw [hd'] at z ⊢
        simpa using z
      · have hn' : (n == m) = false := by simpa using hn
        rw [hn'] at z
        exact ha n c z
    · rw [if_neg hk] at e'
      exact clOf_lookup hr ha e'
theorem clOf_some {cells : List (Str × Addr)} : ∀ {l : List (Str × NameKind)} {acc : List (Str × Addr)} {n : Str}, ((n, NameKind.free) ∈ l ∨ ∃ c, acc.lookup n = some c) → ∃ c, (clOf cells l acc).lookup n = some c
  | [], acc, n, h => by
    rcases h with h | h
    · cases h
    · exact h
  | (m, k) :: r, acc, n, h => by
    show ∃ c, (if (k == NameKind.free) = true then clOf cells r ((m, (cells.lookup m).getD 0) :: acc) else clOf cells r acc).lookup n = some c
    have hcons : ∀ a, n = m ∨ (∃ c, acc.lookup n = some c) → ∃ c, ((m, a) :: acc).lookup n = some c := fun a z => by
      rw [List.lookup_cons]
      by_cases hn : (n == m) = true
      · rw [hn]; exact ⟨_, rfl⟩
      · have hn' : (n == m) = false := by simpa using hn
        rw [hn']
        rcases z with z | z
        · exact absurd (by simpa using z) hn
        · exact z
    by_cases hk : (k == NameKind.free) = true
    · rw [if_pos hk]
      refine clOf_some ?_
      rcases h with h | h
      · rcases List.mem_cons.mp h with e | h
        · exact .inr (hcons _ (.inl (congrArg Prod.fst e)))
        · exact .inl h
      · exact .inr (hcons _ (.inr h))
    · rw [if_neg hk]
      refine clOf_some ?_
      rcases h with h | h
      · rcases List.mem_cons.mp h with e | h
        · have : k = .free := (congrArg Prod.snd e).symm
          rw [this] at hk
          exact absurd (by decide) hk
        · exact .inl h
      · exact .inr h
noncomputable def rlb (env : Env) (p : Str × NameKind) : Str × NameKind := if (p.2 == NameKind.free && env.scope.kind == ScopeKind.function && env.kindOf p.1 == some NameKind.cell) = true then (p.1, NameKind.cell) else p
theorem relabel_names (sc : Scope) (env : Env) : (relabel sc env).names = sc.names.map (rlb env) := rfl
theorem rlb_fst (env : Env) (p : Str × NameKind) : (rlb env p).1 = p.1 := by
  unfold rlb
  split <;> rfl
theorem rlb_free {env : Env} {p : Str × NameKind} (h : p.2 ≠ .cell) (h2 : (rlb env p).2 = .cell ∨ (rlb env p).2 = .free) : p.2 = .free := by
  unfold rlb at h2
  split at h2
  · rename_i q
    rw [Bool.and_eq_true, Bool.and_eq_true] at q
    simpa using q.1.1
  · rcases h2 with h2 | h2
    · exact absurd h2 h
    · exact h2
theorem relabel_free' {env : Env} : ∀ {names : List (Str × NameKind)} {x : Str} {k : NameKind}, (∀ y ∈ names, y.2 ≠ .cell) → (k = .cell ∨ k = .free) → (names.map (rlb env)).lookup x = some k → (x, NameKind.free) ∈ names
  | [], x, k, _, _, e => by simp at e
  | p :: r, x, k, hc, hk, e => by
    have hr : ∀ y ∈ r, y.2 ≠ .cell := fun y hm => hc y (List.mem_cons_of_mem _ hm)
    have e0 : rlb env p = (p.1, (rlb env p).2) := by rw [← rlb_fst env p]
    rw [List.map_cons, e0, List.lookup_cons] at e
    by_cases hx : x = p.1
    · have hb : (x == p.1) = true := by simpa using hx
      rw [hb] at e
      have e2 : (rlb env p).2 = k := Option.some.inj e
      have hj := rlb_free (env := env) (hc p List.mem_cons_self) (by rw [e2]; exact hk)
      have : (x, NameKind.free) = p := by rw [hx, ← hj]
      rw [this]
      exact List.mem_cons_self
    · have hb : (x == p.1) = false := by simpa using hx
      rw [hb] at e
      exact List.mem_cons_of_mem _ (relabel_free' hr hk e)
theorem relabel_free {env : Env} {sc : Scope} {x : Str} {k : NameKind} (hc : ∀ y ∈ sc.names, y.2 ≠ .cell) (hk : k = .cell ∨ k = .free) (e : (relabel sc env).names.lookup x = some k) : (x, NameKind.free) ∈ sc.names :=
  relabel_free' (env := env) hc hk (by rw [← relabel_names]; exact e)

/-- the values that a block sees at its start: of the names it takes from around it -/
noncomputable def blkS (ix : List (Option Nat)) (σ : St) : St := ix.map fun o => o.bind fun i => (σ[i]?).join
noncomputable def FreeOk (XN : List Str) (env : Env) (sc : Scope) : List Str → List (Option Nat) → Prop
  | [], [] => True
  | _ :: N, Option.none :: ix => FreeOk XN env sc N ix
  | y :: N, some i :: ix => XN[i]? = some y ∧ env.kindOf y = some .cell ∧ (relabel sc env).names.lookup y = some .cell ∧ FreeOk XN env sc N ix
  | _, _ => False
theorem FreeOk.len {XN : List Str} {env : Env} {sc : Scope} : ∀ {N : List Str} {ix : List (Option Nat)}, FreeOk XN env sc N ix → ix.length = N.length
  | [], [], _ => rfl
  | _ :: N, Option.none :: ix, h => congrArg (· + 1) (FreeOk.len (N := N) (ix := ix) h)
  | _ :: N, some _ :: ix, h => congrArg (· + 1) (FreeOk.len (N := N) (ix := ix) h.2.2.2)
  | [], _ :: _, h => h.elim
  | _ :: _, [], h => h.elim
theorem FreeOk.get {XN : List Str} {env : Env} {sc : Scope} : ∀ {N : List Str} {ix : List (Option Nat)}, FreeOk XN env sc N ix → ∀ (j : Nat) (y : Str) (i : Nat), N[j]? = some y → ix[j]? = some (some i) →
    XN[i]? = some y ∧ env.kindOf y = some .cell ∧ (relabel sc env).names.lookup y = some .cell
  | [], [], _, j, y, i, e, _ => by simp at e
  | _ :: N, Option.none :: ix, h, 0, y, i, e, e2 => by simp at e2
  | _ :: N, Option.none :: ix, h, j + 1, y, i, e, e2 => FreeOk.get (N := N) (ix := ix) h j y i (by simpa using e) (by simpa using e2)
  | z :: N, some k :: ix, h, 0, y, i, e, e2 => by
    have e' : z = y := by simpa using e
    have e2' : k = i := by simpa using e2
    subst e'; subst e2'
    exact ⟨h.1, h.2.1, h.2.2.1⟩
  | _ :: N, some _ :: ix, h, j + 1, y, i, e, e2 => FreeOk.get (N := N) (ix := ix) h.2.2.2 j y i (by simpa using e) (by simpa using e2)
  | [], _ :: _, h, _, _, _, _, _ => h.elim
  | _ :: _, [], h, _, _, _, _, _ => h.elim

/-- the context of a comprehension's block -/
noncomputable def cxB (X : Cx) (sc : Scope) (C : Addr) (N : List Str) (s₀ : Shared) (H₀ : Hp) (fp : List Addr) : Cx :=
  { X with N := N, s₀ := s₀, H₀ := H₀, env := compEnvC sc (clOf X.env.cells sc.names []) C X.env, outer := X.stack, ex := fp, fn := fun _ => false, pn := [], xe := fun _ _ => False }
structure CompOk (X : Cx) (sc : Scope) (N : List Str) (ix : List (Option Nat)) : Prop where
  kind : sc.kind = .function
  nocell : (sc.names.all fun y => y.2 != .cell) = true
  names : (sc.names.all fun y => y.2 != .local || sc.names.lookup y.1 == some .local) = true
  free : (sc.names.all fun y => y.2 != .free || X.env.scope.names.lookup y.1 == some .cell) = true
  fr : FreeOk X.N X.env sc N ix
section
variable {X : Cx} {sc : Scope} {N : List Str} {ix : List (Option Nat)} {pins : List (Addr × Obj)} {σ : St} {H : Hp} {s : Shared}
theorem CompOk.cells (c : CompOk X sc N ix) (ok : X.Ok) : ∀ y ∈ sc.names, y.2 = .free → ∃ c, X.env.cells.lookup y.1 = some c := fun y hy e => by
  have h := List.all_eq_true.mp c.free y hy
  rw [e] at h
  have h' : X.env.scope.names.lookup y.1 = some .cell := by simpa using h
  exact ok.has y.1 (.inl h')
theorem CompOk.nc (c : CompOk X sc N ix) : ∀ y ∈ sc.names, y.2 ≠ .cell := fun y hy => by simpa using List.all_eq_true.mp c.nocell y hy
theorem CompOk.nm (c : CompOk X sc N ix) : ∀ y ∈ sc.names, y.2 = .local → sc.names.lookup y.1 = some .local := fun y hy e => by
  have h := List.all_eq_true.mp c.names y hy
  rw [e] at h
  simpa using h
/-- the block begins: s₂ the state at its entry (the iterator is made), s₄ behind the frame's making -/
theorem inv_block {C : Addr} {fp : List Addr} {h₁ : Heap} {t' : Nat} (c : CompOk X sc N ix) (I : Inv X pins σ H s) (hf : ∀ b ∈ fp, FpOk X pins H b) (hfp : ∀ b ∈ fp, b < s.heap.objs.size) (hC : s.heap.objs.size ≤ C)
    (hn : h₁.Ns C (fun _ => none)) (old : ∀ b o, s.heap.get? b = some o → h₁.get? b = some o) : Inv (cxB X sc C N s H fp) [] (blkS ix σ) H { s with heap := h₁, toks := t' } := by
  have hcells := c.cells I.ok
  have sub : ∀ n c, (clOf X.env.cells sc.names []).lookup n = some c → X.env.cells.lookup n = some c := fun n c e => clOf_lookup hcells (fun n c z => by simp at z) e
  refine ⟨⟨I.ok.mod, c.kind, I.ok.glob, I.ok.blt, hC, fun x y d h1 h2 => I.ok.inj x y d (sub x d h1) (sub y d h2), fun x hx => ?_, fun x d z => absurd z (by simp [cxB]), I.ok.hd, I.ok.frames, .inl rfl, fun b hb => ⟨?_, fun x d e => ?_⟩, I.bs, Nat.le_trans I.ok.bsz I.sz, fun b o e hb => ?_, fun b hb hs => ?_, I.stack, I.stkFree⟩,
    rfl, I.bare, Un.kept old, ⟨_, hn, fun j y v e1 e2 e3 => ?_⟩, fun x d e => ?_, I.hok.fresh hC, fun x d e => I.freeC x d (sub x d e), fun p hp => absurd (show p ∈ ([] : List (Addr × Obj)) from hp) (by simp), I.hok.kept old, ?_⟩
  · refine clOf_some (.inl ?_)
    rcases hx with hx | hx
    · exact relabel_free c.nc (.inl rfl) (show (relabel sc X.env).names.lookup x = some .cell from hx)
    · exact relabel_free c.nc (.inr rfl) (show (relabel sc X.env).names.lookup x = some .free from hx)
  · exact Nat.ne_of_lt (Nat.lt_of_lt_of_le (hfp b hb) hC)
  · exact (hf b hb).2.2.2.2.1 x d (sub x d e)
  · rcases (hf b hb).2.2.2.1 with z | z
    · exact I.ok.noex b o e z
    · exact absurd (Nat.lt_of_lt_of_le (Heap.lt_size e) (Nat.le_trans I.ok.bsz z)) (Nat.lt_irrefl _)
  · rcases List.mem_cons.mp (I.stkSub b hs) with z | z
    · exact (hf b hb).2.1 z
    · exact (hf b hb).2.2.1 z
  · have hj : ∃ i, ix[j]? = some (some i) ∧ σ[i]? = some (some v) := by
      unfold blkS at e2
      rw [List.getElem?_map] at e2
      cases q : ix[j]? with
      | none => rw [q] at e2; cases e2
      | some o =>
        rw [q] at e2
        cases o with
        | none => cases e2
        | some i =>
          refine ⟨i, rfl, ?_⟩
          have e2' : (σ[i]?).join = some v := Option.some.inj e2
          cases q2 : σ[i]? with
          | none => rw [q2] at e2'; cases e2'
          | some w => rw [q2] at e2'; exact congrArg some e2'
    obtain ⟨i, hi, hv⟩ := hj
    obtain ⟨k1, k2, k3⟩ := c.fr.get j y i e1 hi
    obtain ⟨m, hm, hl⟩ := I.loc
    obtain ⟨u, r, l⟩ := hl i y v k1 hv (.inr (.inl k2))
    refine ⟨u, r, ?_⟩
    rcases l with ⟨z, _⟩ | ⟨_, d, hd, hcell⟩
    · rw [k2] at z; cases z
    · obtain ⟨d', hd'⟩ : ∃ d', (clOf X.env.cells sc.names []).lookup y = some d' := clOf_some (.inl (relabel_free c.nc (.inl rfl) k3))
      have := sub y d' hd'
      rw [hd] at this
      cases this
      exact .inr ⟨.inl k3, d, hd', hcell.keeps old⟩
  · obtain ⟨v, z⟩ := I.cell x d (sub x d e)
    exact ⟨v, z.keeps old⟩
  · show (blkS ix σ).length = N.length
    unfold blkS
    rw [List.length_map, c.fr.len]
/-- the block ends -/
theorem inv_unblock {C : Addr} {fp : List Addr} {pins' : List (Addr × Obj)} {σ' : St} {H' : Hp} {s' : Shared} (I : Inv X pins σ H s) (hf : ∀ b ∈ fp, FpOk X pins H b) (J : Inv (cxB X sc C N s H fp) pins' σ' H' s') : Inv X pins σ H' s' := by
  refine I.call' (ch := fp) J.os J.base J.hok J.bare fun b hb => ?_
  obtain ⟨f0, f1, f2, f3, f4, f5⟩ := hf b hb
  exact ⟨f3, f1, f4, f5⟩
end
noncomputable def PTs (X : Cx) (ifs : List Expr) (t : TT) : Prop :=
  ∀ (pins : List (Addr × Obj)) (s : Shared) (σ : St) (H : Hp) (Q : Bool → Hp → Prop), Inv X pins σ H s → t σ H Q →
    wpAny (model X.prog X.w) X.A (forIn ifs true fun c r => if r = true then do let ok ← isTrue c X.env (eval c X.env); pure (ForInStep.yield ok) else pure (ForInStep.yield r)) (TP X pins σ Q) X.xe s
noncomputable def tAll : TT := fun _ H Q => Q true H
theorem pts_nil {X : Cx} : PTs X [] tAll := fun _ _ _ H _ I h => wpAny_tests_nil ⟨H, I, h⟩
theorem pts_one {X : Cx} {c : Expr} {t : TT} (h : PT X c t) : PTs X [c] t := fun pins s σ H Q I hw => wpAny_tests_one (h pins s σ H Q I hw)

/-- what a comprehension asks: W by the turn, a measure, the items so far -/
noncomputable def CompW (J : It) (D : Addr) (σb : St) (g : TG) (tt : TT) (te : TE) (Q : Hp → List V → Prop) (W : Nat → Nat → List V → Hp → Prop) : Prop :=
  ∀ i m ys H, W i m ys H → H D = some (.lst ys) ∧ ((J.stop i H ∧ Q H ys) ∨ (J.go i H ∧ ∀ x H3, J.yld i H x H3 → g x σb H3 fun σ4 H4 => Wk σb σ4 ∧ tt σ4 H4 fun b H5 =>
    if b = true then te σ4 H5 fun y H6 => H6 D = some (.lst ys) ∧ ys.length < sizeLine ∧ ∃ m', m' < m ∧ W (i + 1) m' (ys ++ [y]) (upd H6 D (.lst (ys ++ [y]))) else ∃ m', m' < m ∧ W (i + 1) m' ys H5))
noncomputable def tComp (ix : List (Option Nat)) (wi : TI) (g : TG) (tt : TT) (te : TE) : TE := fun σ H Q => wi σ H fun J H1 => ∀ D, H1 D = none → ∃ W, (∃ m, W 0 m [] (upd H1 D (.lst []))) ∧ CompW J D (blkS ix σ) g tt te (fun H _ => Q (.ref D) H) W

section
variable {X : Cx} {sc : Scope} {N : List Str} {ix : List (Option Nat)} {elt tg iter : Expr} {ifs : List Expr} {pos : Pos} {wi : TI} {g : TG} {tt : TT} {te : TE}
/-- the block's rules, in every context that it may run in -/
structure Blk (X : Cx) (sc : Scope) (N : List Str) (tg elt : Expr) (ifs : List Expr) (g : TG) (tt : TT) (te : TE) : Prop where
  tg : ∀ C s H fp, PG (cxB X sc C N s H fp) tg g
  tests : ∀ C s H fp, PTs (cxB X sc C N s H fp) ifs tt
  elt : ∀ C s H fp, PE (cxB X sc C N s H fp) elt te
theorem comp_loop {J : It} {fp : List Addr} {it D : Addr} {tn : Nat → Heap → Prop} {σb : St} {Q : Hp → List V → Prop} {R : Result → Shared → Prop} {W : Nat → Nat → List V → Hp → Prop}
    (hc : X.calm = true) (hxe : X.xe = fun _ _ => False) (T : Turn X.prog X.w X.K tg J fp it tn) (hg : PG X tg g) (ht : PTs X ifs tt) (he : PE X elt te) (turn : CompW J D σb g tt te Q W)
    (stat : ∀ {H' : Hp}, (∀ b ∈ fp, H' b = none) → ∀ b ∈ fp, FpOk X [] H' b)
    (fin : ∀ {σ' : St} {H' : Hp} {s' : Shared} {ys : List V}, Inv X [] σ' H' s' → Q H' ys → R (.ok .next) s')
    {m0 i0 : Nat} {ys0 : List V} {H0 : Hp} {s0 : Shared} (I0 : Inv X [] σb H0 s0) (st0 : tn i0 s0.heap) (fr0 : ∀ b ∈ fp, H0 b = none) (w0 : W i0 m0 ys0 H0) :
    codeAny (model X.prog X.w) X.A (.compLoop (.ListComp elt [⟨tg, iter, ifs, 0⟩] sc pos) 0 (.ref it) (.ref D) X.env) R s0 := by
  have noE : ∀ {E' : Value → Shared → Prop} (e : Value) (s' : Shared), X.xe e s' → E' e s' := fun {E'} e s' z => by rw [hxe] at z; exact z.elim
  refine codeAny_loop rfl (fun n s' => ∃ i ys H', Inv X [] σb H' s' ∧ tn i s'.heap ∧ (∀ b ∈ fp, H' b = none) ∧ W i n ys H') ?_ m0 ⟨i0, ys0, H0, I0, st0, fr0, w0⟩
  rintro n s3 ⟨i, ys, H3, I3, st3, fr3, w3⟩
  show wpAny _ X.A ((compTurn (.ListComp elt [⟨tg, iter, ifs, 0⟩] sc pos) 0 (.ref it) (.ref D) X.env).onRaise (fun x => do noteFrame x X.env; theTreesLotGoes x)) _ _ s3
  refine wpAny_noted ?_
  rw [compTurn_list]
  refine wpAny_bind (wpAny_standAt (wpAny_bind ?_))
  obtain ⟨hDl, next⟩ := turn i n ys H3 w3
  rcases next with ⟨stop, q⟩ | ⟨go, step⟩
  · refine thn (T.done X rfl rfl rfl hc i [] s3 σb H3 _ I3 (stat fr3) st3 stop) fun r s4 ⟨hr, I4⟩ => ?_
    subst hr
    exact wpAny_pure (fin I4 q)
  · refine thn (T.item X rfl rfl rfl hc i [] s3 σb H3 _ I3 (stat fr3) st3 go) fun r s4 ⟨u, hr, h4⟩ => ?_
    subst hr
    refine wpAny_bind (thn h4 fun _ s5 ⟨x, H5, I5, r5, y5, st5, fr5⟩ => ?_)
    have I5' := I5.pinned (stat fr5) (T.obj _ _ st5)
    have back : ∀ {σ' : St} {H' : Hp} {s' : Shared}, Inv X ([] ++ pinsAt fp s5.heap) σ' H' s' → Wk σb σ' → Inv X [] σb H' s' ∧ tn (i + 1) s'.heap ∧ ∀ b ∈ fp, H' b = none := fun {σ' H' s'} I7 wk => by
      refine ⟨(I7.unpinned).weak wk.len wk.get, T.keep _ _ _ st5 fun b hb o e => (I7.pin (b, o) (List.mem_append_right _ (List.mem_append_right _ (mem_pinsAt hb e)))).1, fun b hb => ?_⟩
      obtain ⟨o, e, d⟩ := T.obj _ _ st5 b hb
      exact (I7.pin (b, o) (List.mem_append_right _ (List.mem_append_right _ (mem_pinsAt hb e)))).2.1
    refine wpAny_bind (wpAny_mono (hg _ s5 σb H5 x u _ I5' r5 (step x H5 y5)) (fun _ s6 ⟨σ6, H6, I6, wk, q6⟩ => ?_) noE)
    refine wpAny_bind (wpAny_mono (ht _ s6 σ6 H6 _ I6 q6) (fun ok s7 ⟨H7, I7, q7⟩ => ?_) noE)
    cases ok with
    | false =>
      obtain ⟨m', hm, w7⟩ := q7
      obtain ⟨b1, b2, b3⟩ := back I7 wk
      exact wpAny_pure ⟨rfl, m', hm, i + 1, ys, H7, b1, b2, b3, w7⟩
    | true =>
      refine wpAny_bind (wpAny_bind (wpAny_mono (he _ s7 σ6 H7 _ I7 q7) (fun v s8 ⟨y, H8, I8, r8, hD8, hl8, m', hm, w8⟩ => ?_) noE))
      refine wpAny_bind (wpAny_mono (mt_append _ s8 σ6 H8 (.ref D) [y] (.ref D) [v] (fun _ H9 => H9 = upd H8 D (.lst (ys ++ [y]))) I8 rfl (.cons r8 .nil) ⟨D, ys, y, rfl, rfl, hD8, hl8, rfl⟩) (fun _ s9 ⟨z, H9, I9, _, e9⟩ => ?_) noE)
      subst e9
      obtain ⟨b1, b2, b3⟩ := back I9 wk
      exact wpAny_pure (wpAny_pure ⟨rfl, m', hm, i + 1, ys ++ [y], _, b1, b2, b3, w8⟩)
theorem comp_core {pins : List (Addr × Obj)} {σ : St} {H : Hp} {s : Shared} {E : Value → Shared → Prop} {RR : Value → Addr → Result → Shared → Prop} {it : Addr} {fp : List Addr} {tn : Nat → Heap → Prop} {J : It} {Q : Addr → Hp → List V → Prop}
    (hc : X.calm = true) (c : CompOk X sc N ix) (B : Blk X sc N tg elt ifs g tt te) (I : Inv X pins σ H s) (T : Turn X.prog X.w X.K tg J fp it tn) (st : tn 0 s.heap) (hf : ∀ b ∈ fp, FpOk X pins H b)
    (h : ∀ D, H D = none → ∃ W, (∃ m, W 0 m [] (upd H D (.lst []))) ∧ CompW J D (blkS ix σ) g tt te (Q D) W)
    (hR : ∀ D C H' s' ys, Inv X pins σ H' s' → FpOk X pins H' C → (∃ m, s'.heap.Ns C m) → Q D H' ys → RR (.ref D) C (.ok .next) s') :
    wpAny (model X.prog X.w) X.A (newList []) (fun acc s₃ => wpAny (model X.prog X.w) X.A (newFunctionEnv sc X.env.globals (clOf X.env.cells sc.names []) [] X.env.qual none .none (some X.env)) (fun cenv s₄ =>
      codeAny (model X.prog X.w) X.A (.compStart (.ListComp elt [⟨tg, iter, ifs, 0⟩] sc pos) 0 (.ref it) acc { cenv with scope := relabel sc X.env }) (RR acc cenv.locals) s₄) E s₃) E s := by
  have hlt : ∀ b ∈ fp, b < s.heap.objs.size := fun b hb => let ⟨o, e, _⟩ := T.obj _ _ st b hb; Heap.lt_size e
  refine wpAny_newObj_type ?_ (by show 0 ≤ sizeLine; exact Nat.zero_le _)
  have hD : H s.heap.objs.size = none := I.hok.fresh (Nat.le_refl _)
  obtain ⟨W, ⟨m0, w0⟩, turn⟩ := h s.heap.objs.size hD
  have I1 : Inv X pins σ (upd H s.heap.objs.size (.lst [])) { s with heap := s.heap.push { cls := .type "list", data := .seq ([] : List Value).toArray } } := I.lnew (t' := s.toks) (its := []) .nil (Nat.zero_le _)
  have k1 : ∀ b o, s.heap.get? b = some o → (s.heap.push { cls := .type "list", data := .seq ([] : List Value).toArray }).get? b = some o := fun b o e => Heap.get?_push_of_some _ e
  have hne : ∀ b ∈ fp, b ≠ s.heap.objs.size := fun b hb => Nat.ne_of_lt (hlt b hb)
  have hf1 : ∀ b ∈ fp, FpOk X pins (upd H s.heap.objs.size (.lst [])) b := fun b hb => ⟨by rw [upd_ne (hne b hb)]; exact (hf b hb).1, (hf b hb).2⟩
  have st1 : tn 0 (s.heap.push { cls := .type "list", data := .seq ([] : List Value).toArray }) := T.keep _ _ _ st fun b _ o e => k1 b o e
  generalize hs1 : ({ s with heap := s.heap.push { cls := .type "list", data := .seq ([] : List Value).toArray } } : Shared) = s1 at I1
  have hs1h : s1.heap = s.heap.push { cls := .type "list", data := .seq ([] : List Value).toArray } := by rw [← hs1]
  generalize hDe : s.heap.objs.size = D at *
  show wpAny _ _ _ _ _ s1
  refine wpAny_newFunctionEnv c.nc (by intro y hy; simp at hy) (fun h₁ hns₁ hsb₁ => ?_) c.kind
  have old : ∀ b o, s1.heap.get? b = some o → h₁.get? b = some o := fun b o e => (hsb₁.2 b (Nat.ne_of_lt (Heap.lt_size e))).trans (Heap.get?_push_of_some _ e)
  have hlt1 : ∀ b ∈ fp, b < s1.heap.objs.size := fun b hb => by
    obtain ⟨o, e, _⟩ := T.obj _ _ st1 b hb
    rw [hs1h]
    exact Heap.lt_size e
  have J0 := inv_block (h₁ := h₁) (t' := s1.toks + ([] : List (Str × Value)).length) c I1 hf1 hlt1 (Nat.le_refl _) (by simpa using hns₁) old
  have stB : tn 0 h₁ := T.keep _ _ _ (by rw [hs1h]; exact st1 : tn 0 s1.heap) fun b _ o e => old b o e
  have fpB : ∀ {H' : Hp}, (∀ b ∈ fp, H' b = none) → ∀ b ∈ fp, FpOk (cxB X sc s1.heap.objs.size N s1 (upd H D (.lst [])) fp) [] H' b := fun {H'} hn b hb => by
    obtain ⟨f0, f1, f2, f3, f4, f5⟩ := hf1 b hb
    refine ⟨hn b hb, Nat.ne_of_lt (hlt1 b hb), ?_, .inl hb, fun x d e => f4 x d (clOf_lookup (c.cells I.ok) (fun n c z => by simp at z) e), fun p hp => absurd (show p ∈ ([] : List (Addr × Obj)) from hp) (by simp)⟩
    intro z
    rcases List.mem_cons.mp (I1.stkSub b z) with q | q
    · exact f1 q
    · exact f2 q
  have fin : ∀ {σ' : St} {H' : Hp} {s' : Shared} {ys : List V}, Inv (cxB X sc s1.heap.objs.size N s1 (upd H D (.lst [])) fp) [] σ' H' s' → Q D H' ys → RR (.ref D) s1.heap.objs.size (.ok .next) s' := fun {σ' H' s' ys} J q =>
    hR D _ H' s' ys (inv_unblock I1 hf1 J) (I1.fpOk (Nat.le_refl _) J.free) (let ⟨m, hn, _⟩ := J.loc; ⟨m, hn⟩) q
  have loop : codeAny (model X.prog X.w) X.A (.compLoop (.ListComp elt [⟨tg, iter, ifs, 0⟩] sc pos) 0 (.ref it) (.ref D) (cxB X sc s1.heap.objs.size N s1 (upd H D (.lst [])) fp).env) (RR (.ref D) s1.heap.objs.size) { s1 with heap := h₁, toks := s1.toks + ([] : List (Str × Value)).length } :=
    comp_loop (X := cxB X sc s1.heap.objs.size N s1 (upd H D (.lst [])) fp) hc rfl T (B.tg _ _ _ _) (B.tests _ _ _ _) (B.elt _ _ _ _) turn fpB fin J0 stB (fun b hb => (hf1 b hb).1) w0
  exact codeAny_compStart_list loop (T.self _ 0 _ _ _ stB loop)
theorem pe_comp (hc : X.calm = true) (c : CompOk X sc N ix) (hi : PI X tg iter wi) (B : Blk X sc N tg elt ifs g tt te) (hs : ∀ x, foldedSetIterable iter X.env x = pure x := by intro _; rfl) : PE X (.ListComp elt [⟨tg, iter, ifs, 0⟩] sc pos) (tComp ix wi g tt te) := by
  intro pins s σ H Q I h
  rw [eval_ListComp]
  refine wpAny_comprehension_free (use := none) rfl hs (closureFor_clOf (c.cells I.ok)) c.kind c.nm (thn (hi pins s σ H _ I h) fun xv s₁ h₁ => thn h₁ fun itv s₂ h₂ => ?_)
  obtain ⟨it, fp, tn, J, H2, e, I2, T, st2, f2, q2⟩ := h₂
  subst e
  refine comp_core (RR := fun acc C => compPost (model X.prog X.w) X.A X.xe none (EP X pins σ Q) acc C) (Q := fun D H _ => Q (.ref D) H) hc c B I2 T st2 f2 q2 ?_
  intro D C H' s' ys I' fC ns q
  refine ⟨_, ns.choose_spec, fun h' sb => ⟨.ref D, H', ?_, rfl, q⟩⟩
  obtain ⟨f0, f1, f2, f3, f4, f5⟩ := fC
  exact I'.turned (t' := s'.toks) (fun b o hb e => (sb.2 b hb).trans e) f0 f1 f3 f4 f5
/-- name = [..]: the store comes ahead of the block's end -/
theorem ps_setC {i : Nat} {y : Str} {py spos : Pos} (hc : X.calm = true) (hN : X.N.Nodup) (hy : X.N[i]? = some y) (hl : X.env.scope.names.lookup y = some .local)
    (hsw : swapsWith (.ListComp elt [⟨tg, iter, ifs, 0⟩] sc pos) (some (.Name y py)) spos.line X.env = pure true)
    (c : CompOk X sc N ix) (hi : PI X tg iter wi) (B : Blk X sc N tg elt ifs g tt te) (hs : ∀ x, foldedSetIterable iter X.env x = pure x := by intro _; rfl) :
    PS X (.Assign [.Name y py] (.ListComp elt [⟨tg, iter, ifs, 0⟩] sc pos) spos) (tAsg (tComp ix wi g tt te) (gName i)) := by
  intro pins s σ H D0 I h
  rw [exec_Assign_Name_used _ _ _ _ hsw]
  refine wpAny_bind (wpAny_standAt (wpAny_bind ?_))
  show wpAny _ X.A (do let _ ← comprehension (.ListComp elt [⟨tg, iter, ifs, 0⟩] sc pos) sc X.env _ (newList []) false (eval iter X.env) (some (assign (.Name y py) X.env))) _ _ s
  refine wpAny_bind (wpAny_mono (wpAny_comprehension_free (use := some (assign (.Name y py) X.env)) (Q := fun _ s' => SP X pins D0 .next s') rfl hs (closureFor_clOf (c.cells I.ok)) c.kind c.nm
    (thn (hi pins s σ H _ I h) fun xv s₁ h₁ => thn h₁ fun itv s₂ h₂ => ?_)) (fun _ s' hq => wpAny_pure (wpAny_pure hq)) fun _ _ e => e)
  obtain ⟨it, fp, tn, J, H2, e, I2, T, st2, f2, q2⟩ := h₂
  subst e
  refine comp_core (RR := fun acc C => compPost (model X.prog X.w) X.A X.xe (some (assign (.Name y py) X.env)) (fun _ s' => SP X pins D0 .next s') acc C) (Q := fun D H _ => D0.nx (σ.set i (some (.ref D))) H) hc c B I2 T st2 f2 q2 ?_
  intro D C H' s' ys I' fC ns q
  show wpAny _ X.A (assign (.Name y py) X.env (.ref D)) _ _ _
  obtain ⟨f0, f1, f2, f3, f4, f5⟩ := fC
  refine wpAny_assign_Name (store_ok2 I' hN hy (.inl hl) (v := .ref D) rfl (fun s2 J2 ⟨a, sb, ha⟩ => ?_) (.inr hl))
  obtain ⟨m, hn⟩ := ns
  have neC : C ≠ a := by
    rcases ha with z | z
    · rw [z]; exact f1
    · exact fun e => f4 y a z e.symm
  refine ⟨m, hn.sameBut sb neC, fun h3 sb3 => ⟨_, H', ?_, q⟩⟩
  exact J2.turned (t' := s2.toks) (fun b o hb e => (sb3.2 b hb).trans e) f0 f1 f3 f4 f5
end
end L2


set_option Elab.async false
set_option linter.all false
set_option maxRecDepth 100000
namespace L2
open PySem PySem.Spec PyProof.Rows

/-! ### lists of pairs as tables -/
section
variable {κ : Type} [DecidableEq κ]
end


/-! ### a tracked dict, its keys ints and texts or tuples of these -/
section
variable {P : Program} {w : World} {H : Hp} {h : Heap} {a : Addr}
end

section
variable {X : Cx} {pins : List (Addr × Obj)} {σ : St} {H : Hp} {s : Shared} {a : Addr} {y v : V} {u r : Value} {o : Option V} {A : Around} {E : Value → Shared → Prop}

end

section
variable {X : Cx} {pins : List (Addr × Obj)} {σ : St} {H : Hp} {s : Shared} {a : Addr} {kvs : List (Key × V)} {k : Key} {u : Value} {A : Around} {E : Value → Shared → Prop}
end


/-! ### readings and rules -/
section
variable {X : Cx} {o i e value : Expr} {pos pos' tpos : Pos} {td ty tv : TE}
end


/-! ### displays -/
section
variable {X : Cx} {pos : Pos}
end

/-! ### methods -/
section
variable {X : Cx} {pins : List (Addr × Obj)} {σ : St} {H : Hp} {s : Shared} {a : Addr} {y d : V} {u r : Value} {o : Option V} {A : Around} {E : Value → Shared → Prop}
end

section
variable {X : Cx} {o e f : Expr} {apos cpos : Pos} {td ty tx : TE}
end

/-! ### dict(d): a copy -/
section
variable {X : Cx} {pins : List (Addr × Obj)} {σ : St} {H : Hp} {s : Shared} {a : Addr} {kvs : List (Key × V)} {A : Around} {E : Value → Shared → Prop}
end


section
variable {X : Cx} {pins : List (Addr × Obj)} {σ : St} {H : Hp} {s : Shared} {a : Addr} {y : V} {u : Value} {A : Around} {E : Value → Shared → Prop}
end
end L2

set_option Elab.async false
set_option linter.all false
set_option maxRecDepth 100000
set_option maxHeartbeats 4000000
namespace L2
open PySem PySem.Spec PyProof.Rows

theorem OpR.imp {X : Cx} {f : Value → Value → Sem Value} {r r' : R2} (h : OpR X f r) (i : ∀ x y H Q, r' x y H Q → r x y H Q) : OpR X f r' :=
  fun pins s σ H x y v u Q I rx ry q => h pins s σ H x y v u Q I rx ry (i x y H Q q)
theorem CallR.imp {X : Cx} {f : Value} {r r' : List V → Hp → VK → Prop} (h : CallR X f r) (i : ∀ xs H Q, r' xs H Q → r xs H Q) : CallR X f r' :=
  fun pins s σ H xs us Q I rs q => h pins s σ H xs us Q I rs (i xs H Q q)
/-- by what stands in the slot -/
noncomputable def tV (i : Nat) : TE := fun σ H Q => match σ[i]? with
  | some (some v) => Q v H
  | _ => False
theorem vr {X : Cx} (i : Nat) {x : Str} {pos : Pos} (hN : X.N[i]? = some x := by rfl) (hv : Vis X.env.scope x := by first | exact Or.inl rfl | exact Or.inr (Or.inl rfl) | exact Or.inr (Or.inr rfl)) (hd : (x == ("__debug__" : Str)) = false := by decide)
    (hcd : (x == ("__classdict__" : Str)) = false := by decide) : PE X (.Name x pos) (tV i) := fun pins s σ H Q I h => by
  refine pe_var hN hv hd hcd pins s σ H Q I ?_
  unfold tV at h
  split at h
  · rename_i v e
    exact ⟨v, e, h⟩
  · exact h.elim

/-! ### operations, read by the values' shapes -/
noncomputable def rI2 (g : Int → Int → V) : R2 := fun x y H Q => match x, y with
  | .int i, .int j => Q (g i j) H
  | _, _ => False
noncomputable def rIC (C : Int → Int → Prop) (g : Int → Int → V) : R2 := fun x y H Q => match x, y with
  | .int i, .int j => C i j ∧ Q (g i j) H
  | _, _ => False
theorem OpR.i2 {X : Cx} {f : Value → Value → Sem Value} {g : Int → Int → V} (h : OpR X f (rI0 g)) : OpR X f (rI2 g) := h.imp fun x y H Q q => by
  cases x <;> cases y <;> first | exact ⟨_, _, rfl, rfl, q⟩ | exact (show False from q).elim
theorem OpR.ic {X : Cx} {f : Value → Value → Sem Value} {C : Int → Int → Prop} {g : Int → Int → V} (h : OpR X f (rI C g)) : OpR X f (rIC C g) := h.imp fun x y H Q q => by
  cases x <;> cases y <;> first | exact ⟨_, _, rfl, rfl, q.1, q.2⟩ | exact (show False from q).elim
section
variable {X : Cx}
noncomputable def rAddM : R2 := fun x y H Q => match x, y with
  | .int i, .int j => Q (.int (i + j)) H
  | .str i, .str j => i.length + j.length ≤ sizeLine ∧ Q (.str (i ++ j)) H
  | _, _ => False
theorem o_add : OpR X (binaryOp .Add) rAddM := (op_add.or op_add_str).imp fun x y H Q q => by
  cases x <;> cases y <;> first | exact .inl ⟨_, _, rfl, rfl, q⟩ | exact .inr ⟨_, _, rfl, rfl, q.1, q.2⟩ | exact (show False from q).elim
theorem o_sub : OpR X (binaryOp .Sub) (rI2 fun i j => .int (i - j)) := op_sub.i2
noncomputable def CPos (i j : Int) : Prop := 0 < j
theorem cp {i j : Int} (h : 0 < j := by decide) : CPos i j := h
theorem cw {i j : Int} (h : 0 ≤ j := by decide) (h2 : j ≤ 1000000 := by decide) (h3 : i.natAbs < 2 ^ 64 := by decide) : CPow i j := ⟨h, h2, h3⟩
theorem cl {i j : Int} (h : -(2 ^ 64) < i := by decide) (h2 : i < 2 ^ 64 := by decide) : CMul i j := .inl ⟨h, h2⟩
theorem cr {i j : Int} (h : -(2 ^ 64) < j := by decide) (h2 : j < 2 ^ 64 := by decide) : CMul i j := .inr ⟨h, h2⟩
theorem o_mod : OpR X (binaryOp .Mod) (rIC CPos fun i j => .int (i % j)) := op_mod.ic
theorem o_pow : OpR X (binaryOp .Pow) (rIC CPow fun i j => .int (i ^ j.toNat)) := op_pow.ic
theorem op_le_str : OpR X (compareOp .LtE) (fun x y H Q => ∃ i j, x = .str i ∧ y = .str j ∧ Q (.bl (!decide (j.cps.toList < i.cps.toList))) H) := by
  intro pins s σ H x y v u Q I rx ry h
  obtain ⟨i, j, rfl, rfl, q⟩ := h
  obtain ⟨t, rfl⟩ := rx
  obtain ⟨t', rfl⟩ := ry
  exact PySem.P.le_str (fin_bl I q rfl)
noncomputable def rCmpM (f : Int → Int → Bool) (g : Str → Str → Bool) : R2 := fun x y H Q => match x, y with
  | .int i, .int j => Q (.bl (f i j)) H
  | .str i, .str j => Q (.bl (g i j)) H
  | _, _ => False
theorem o_lt : OpR X (compareOp .Lt) (rCmpM (fun i j => decide (i < j)) fun i j => decide (i.cps.toList < j.cps.toList)) := (op_lt.or op_lt_str).imp fun x y H Q q => by
  cases x <;> cases y <;> first | exact .inl ⟨_, _, rfl, rfl, q⟩ | exact .inr ⟨_, _, rfl, rfl, q⟩ | exact (show False from q).elim
theorem o_le : OpR X (compareOp .LtE) (rCmpM (fun i j => decide (i ≤ j)) fun i j => !decide (j.cps.toList < i.cps.toList)) := (op_le.or op_le_str).imp fun x y H Q q => by
  cases x <;> cases y <;> first | exact .inl ⟨_, _, rfl, rfl, q⟩ | exact .inr ⟨_, _, rfl, rfl, q⟩ | exact (show False from q).elim
theorem o_gt : OpR X (compareOp .Gt) (rI2 fun i j => .bl (decide (j < i))) := op_gt.i2
/-- == of two values without objects; the deep one is o_eqD -/
noncomputable def rEqM (neg : Bool) : R2 := fun x y H Q => match x, y with
  | .int i, .int j => Q (.bl (if neg then !decide (i = j) else decide (i = j))) H
  | .str i, .str j => Q (.bl (if neg then !decide (i = j) else decide (i = j))) H
  | .bl i, .bl j => Q (.bl (if neg then !decide (i = j) else decide (i = j))) H
  | .non, .non => Q (.bl (!neg)) H
  | .non, .int _ => Q (.bl neg) H
  | .non, .str _ => Q (.bl neg) H
  | .non, .bl _ => Q (.bl neg) H
  | .int _, .non => Q (.bl neg) H
  | .str _, .non => Q (.bl neg) H
  | .bl _, .non => Q (.bl neg) H
  | .int _, .str _ => Q (.bl neg) H
  | .str _, .int _ => Q (.bl neg) H
  | _, _ => False
theorem o_eq : OpR X (compareOp .Eq) (rEqM false) := op_eq.imp fun x y H Q q => by
  cases x <;> cases y <;> first | exact (show False from q).elim | (refine ⟨rfl, ?_⟩; revert q; simp [rEqM])
theorem o_ne : OpR X (compareOp .NotEq) (rEqM true) := op_ne.imp fun x y H Q q => by
  cases x <;> cases y <;> first | exact (show False from q).elim | (refine ⟨rfl, ?_⟩; revert q; simp [rEqM])
noncomputable def rU1 (g : Int → V) : V → Hp → VK → Prop := fun x H Q => match x with
  | .int i => Q (g i) H
  | _ => False
theorem u_neg : UnR X (unaryOp .USub) (rU1 fun i => .int (-i)) := fun pins s σ H x v Q I r q => un_neg pins s σ H x v Q I r (by
  cases x <;> first | exact ⟨_, rfl, q⟩ | exact (show False from q).elim)
theorem o_isnot : OpR X (compareOp .IsNot) (fun x y H Q => match y with | .non => Q (.bl (!decide (x = .non))) H | _ => False) := op_notN.imp fun x y H Q q => by
  cases y <;> first | exact ⟨rfl, q⟩ | exact (show False from q).elim
/-! ### truths -/
noncomputable def mB (Q : Bool → Hp → Prop) : VK := fun x H => match x with
  | .bl c => Q c H
  | _ => False
variable {a b c : Expr} {ta tb tc : TE} {pos : Pos} {rest : List Expr}
noncomputable def mAnd (ta tb : TE) : TE := fun σ H Q => ta σ H (mB fun c H1 => if c = true then tb σ H1 Q else Q (.bl false) H1)
noncomputable def mNot (ta : TE) : TE := fun σ H Q => ta σ H (mB fun c H1 => Q (.bl (!c)) H1)
theorem mB_iff {Q : Bool → Hp → Prop} {x : V} {H : Hp} (h : mB Q x H) : ∃ c, x = .bl c ∧ Q c H := by
  cases x <;> first | exact ⟨_, rfl, h⟩ | exact (show False from h).elim
theorem m_and (ha : PE X a ta) (hb : PE X (.BoolOp .And (b :: rest) pos) tb) : PE X (.BoolOp .And (a :: b :: rest) pos) (mAnd ta tb) := by
  intro pins s σ H Q I h
  refine BoolOp_and (thn (ha pins s σ H _ I h) fun v s1 ⟨x, H1, I1, r1, q1⟩ => ?_)
  obtain ⟨c, rfl, q1⟩ := mB_iff q1
  cases r1
  refine wpAny_truthy_bool ?_
  cases c with
  | true => exact hb pins s1 σ H1 Q I1 q1
  | false => exact ⟨.bl false, H1, I1, rfl, q1⟩
theorem m_not (ha : PE X a ta) : PE X (.UnaryOp .Not a pos) (mNot ta) := by
  intro pins s σ H Q I h
  refine UnaryOp_ (thn (ha pins s σ H _ I h) fun v s1 ⟨x, H1, I1, r1, q1⟩ => ?_)
  obtain ⟨c, rfl, q1⟩ := mB_iff q1
  cases r1
  exact not_of (wpAny_truthy_bool ⟨.bl (!c), H1, I1, rfl, q1⟩)
/-- a test that is a bool's expression -/
noncomputable def mT (t : TE) : TT := fun σ H Q => t σ H (mB Q)
theorem t_val (h : PE X a ta) (he : ∀ whole, isTrue a X.env whole = (do let v ← whole; standAt a.pos; holding [v] (truthy v)) := by intro _; rfl) : PT X a (mT ta) := by
  intro pins s σ H Q I hw
  refine isTrue_plain (thn (h pins s σ H _ I hw) fun v s1 ⟨x, H1, I1, r1, q1⟩ => ?_) (he _)
  obtain ⟨d, rfl, q⟩ := mB_iff q1
  cases r1
  exact wpAny_truthy_bool ⟨H1, I1, q⟩
theorem t_cmp {op : CmpOp} {r : R2} (ho : OpR X (compareOp op) r) (ha : PE X a ta) (hb : PE X b tb) (hm : behindInMarks op b = false) : PT X (.Compare a [op] [b] pos) (mT (tOp r ta tb)) := by
  intro pins s σ H Q I h
  refine wpAny_isTrue_Compare1 (thn (ha pins s σ H _ I h) fun v s1 ⟨x, H1, I1, r1, q1⟩ => thn (hb pins s1 σ H1 _ I1 q1) fun u s2 ⟨y, H2, I2, r2, q2⟩ =>
    thn (ho pins s2 σ H2 x y v u _ I2 r1 r2 q2) fun c s3 ⟨z, H3, I3, r3, q3⟩ => ?_) hm
  obtain ⟨k, rfl, q3⟩ := mB_iff q3
  cases r3
  exact wpAny_truthy_bool ⟨H3, I3, q3⟩
noncomputable def mChain (r r' : R2) (ta tb tc : TE) : TE := fun σ H Q => ta σ H fun x H1 => tb σ H1 fun y H2 => r x y H2 (mB fun k H3 => if k = true then tc σ H3 fun w' H4 => r' y w' H4 Q else Q (.bl false) H3)
theorem m_chain {op op' : CmpOp} {r r' : R2} (ho : OpR X (compareOp op) r) (ho' : OpR X (compareOp op') r') (ha : PE X a ta) (hb : PE X b tb) (hc : PE X c tc)
    (hm : lastMarks [op, op'] [b, c] = false := by with_unfolding_all rfl) : PE X (.Compare a [op, op'] [b, c] pos) (mChain r r' ta tb tc) := by
  intro pins s σ H Q I h
  refine Compare_chain (thn (ha pins s σ H _ I h) fun v s1 ⟨x, H1, I1, r1, q1⟩ => chain_link (thn (hb pins s1 σ H1 _ I1 q1) fun u s2 ⟨y, H2, I2, r2, q2⟩ =>
    thn (ho pins s2 σ H2 x y v u _ I2 r1 r2 q2) fun d s3 ⟨z, H3, I3, r3, q3⟩ => ?_)) hm
  obtain ⟨k, rfl, q3⟩ := mB_iff q3
  cases r3
  refine wpAny_truthy_bool ?_
  cases k with
  | false => exact ite_ff ⟨.bl false, H3, I3, rfl, q3⟩
  | true => exact ite_tt (chain_last (thn (hc pins s3 σ H3 _ I3 q3) fun w' s4 ⟨z', H4, I4, r4, q4⟩ => ho' pins s4 σ H4 y z' u w' Q I4 r2 r4 q4))
theorem t_chain {op op' : CmpOp} {r r' : R2} (ho : OpR X (compareOp op) r) (ho' : OpR X (compareOp op') r') (ha : PE X a ta) (hb : PE X b tb) (hc : PE X c tc)
    (hm : lastMarks [op, op'] [b, c] = false := by with_unfolding_all rfl) : PT X (.Compare a [op, op'] [b, c] pos) (mT (mChain r r' ta tb tc)) := by
  intro pins s σ H Q I h
  refine isTrue_chain (thn (ha pins s σ H _ I h) fun v s1 ⟨x, H1, I1, r1, q1⟩ => test_link (thn (hb pins s1 σ H1 _ I1 q1) fun u s2 ⟨y, H2, I2, r2, q2⟩ =>
    thn (ho pins s2 σ H2 x y v u _ I2 r1 r2 q2) fun d s3 ⟨z, H3, I3, r3, q3⟩ => ?_)) hm
  obtain ⟨k, rfl, q3⟩ := mB_iff q3
  cases r3
  refine wpAny_truthy_bool ?_
  cases k with
  | false => exact ite_ff ⟨H3, I3, q3⟩
  | true =>
    refine ite_tt (test_last (thn (hc pins s3 σ H3 _ I3 q3) fun w' s4 ⟨z', H4, I4, r4, q4⟩ => thn (ho' pins s4 σ H4 y z' u w' _ I4 r2 r4 q4) fun d' s5 ⟨z2, H5, I5, r5, q5⟩ => ?_))
    obtain ⟨k2, rfl, q5⟩ := mB_iff q5
    cases r5
    exact wpAny_truthy_bool ⟨H5, I5, q5⟩

/-! ### isinstance -/
open PySem.W in
theorem kit_of {pins : List (Addr × Obj)} {σ : St} {H : Hp} {s : Shared} {x : V} {u t : Value} (I : Inv X pins σ H s) (rx : RelV x u) (ty : TyOf X.K H x t) :
    ∃ Hh : Heap → Prop, KitX X.K u t Hh ∧ Hh s.heap ∧ u ≠ .builtin "__main__.__loader__#opaque" := by
  cases ty with
  | non => cases (show u = Value.none from rx); exact ⟨_, PySem.W.kitx_none, True.intro, fun z => nomatch z⟩
  | bl y => cases (show u = Value.bool y from rx); exact ⟨_, PySem.W.kitx_bool, True.intro, fun z => nomatch z⟩
  | int i => obtain ⟨t, q⟩ := (show ∃ t, u = Value.int i t from rx); cases q; exact ⟨_, PySem.W.kitx_int, True.intro, fun z => nomatch z⟩
  | str y => obtain ⟨t, q⟩ := (show ∃ t, u = Value.str y t from rx); cases q; exact ⟨_, PySem.W.kitx_str, True.intro, fun z => nomatch z⟩
  | flt y => obtain ⟨t, q⟩ := (show ∃ t, u = Value.float y t from rx); cases q; exact ⟨_, PySem.W.kitx_float, True.intro, fun z => nomatch z⟩
  | @lst a xs ea =>
    cases (show u = Value.ref a from rx)
    obtain ⟨_, _, n, _, h1⟩ := (show ObjOk X.prog X.w H s.heap a (.lst xs) from I.hok a _ ea)
    exact ⟨_, PySem.W.kitx_list, ⟨_, h1, rfl⟩, fun z => nomatch z⟩
  | @frz a ob xs ea =>
    cases (show u = Value.ref a from rx)
    obtain ⟨_, _, _, n, _, h1⟩ := (show ObjOk X.prog X.w H s.heap a (.frz ob (.lst xs)) from I.hok a _ ea)
    exact ⟨_, PySem.W.kitx_list, ⟨_, h1, rfl⟩, fun z => nomatch z⟩
  | @tup a xs ea =>
    cases (show u = Value.ref a from rx)
    obtain ⟨_, _, _, p⟩ := (show ObjOk X.prog X.w H s.heap a (.tup xs) from I.hok a _ ea)
    obtain ⟨o, h1, h2, _⟩ := p
    exact ⟨_, PySem.W.kitx_tuple, ⟨o, h1, h2⟩, fun z => nomatch z⟩
  | @dK a kvs ea =>
    cases (show u = Value.ref a from rx)
    obtain ⟨_, _, vs, _, p⟩ := (show ObjOk X.prog X.w H s.heap a (.dK kvs) from I.hok a _ ea)
    obtain ⟨o, es, ep, h1, h2, _⟩ := p
    exact ⟨_, PySem.W.kitx_dict, ⟨o, h1, h2.1⟩, fun z => nomatch z⟩
  | @dT a kvs ea =>
    cases (show u = Value.ref a from rx)
    obtain ⟨_, _, xs, _, o, es, ep, h1, h2, _⟩ := (show ObjOk X.prog X.w H s.heap a (.dT kvs) from I.hok a _ ea)
    exact ⟨_, PySem.W.kitx_dict, ⟨o, h1, h2.1⟩, fun z => nomatch z⟩
  | @ins a C dx fs ea cl ha hn htk hm =>
    cases (show u = Value.ref a from rx)
    obtain ⟨mA, O, _⟩ := ins_get I.hok ea
    obtain ⟨od, J, _⟩ := O.look
    exact ⟨_, PySem.W.kitx_own (cl.get _) cl.hd ha hn htk hm, J, fun z => nomatch z⟩
noncomputable def cVal : V → Value
  | .ty n => .type n
  | .ref a => .ref a
  | _ => .none
noncomputable def isCls : V → Bool
  | .ty _ => true
  | .ref _ => true
  | _ => false
theorem cVal_of {c : V} {u : Value} (h : isCls c = true) (r : RelV c u) : u = cVal c := by
  cases c <;> first | exact r | exact absurd (show false = true from h) Bool.false_ne_true
/-- isinstance(x, C): the type of x, then kitOne's answer -/
noncomputable def rIsi (K : PySem.W.Frag) : List V → Hp → VK → Prop := fun xs H Q => ∃ x c t b, xs = [x, c] ∧ isCls c = true ∧ TyOf K H x t ∧ PySem.W.kitOne K t (cVal c) = some b ∧ Q (.bl b) H
theorem call_isi : CallR X (.builtin "isinstance") (rIsi X.K) := by
  intro pins s σ H xs us Q I r h
  obtain ⟨x, c, t, b, rfl, hc, ty, e, q⟩ := h
  obtain ⟨u, w', rfl, rx, rc⟩ := vals2 r
  cases cVal_of hc rc
  obtain ⟨Hh, Z, p, hx⟩ := kit_of I rx ty
  exact PySem.W.kia_one Z I.kIn p e hx fun tk => ⟨.bl b, H, I.tok tk, rfl, q⟩

/-! ### all -/
/-! ### x in range(a, b) -/
end
end L2

set_option Elab.async false
set_option linter.all false
set_option maxRecDepth 100000
set_option maxHeartbeats 4000000
namespace L2
open PySem PySem.Spec PyProof.Rows

theorem and_if {Q : V → Prop} {p r : Prop} [Decidable p] [Decidable r] (q : Q (.bl (decide (p ∧ r)))) : if decide p = true then Q (.bl (decide r)) else Q (.bl false) := by
  by_cases h : p
  · rw [if_pos (decide_eq_true h)]
    have e : decide (p ∧ r) = decide r := by by_cases z : r <;> simp [h, z]
    rw [← e]; exact q
  · rw [if_neg (fun z => h (of_decide_eq_true z))]
    have e : decide (p ∧ r) = false := decide_eq_false fun z => h z.1
    rw [← e]; exact q
theorem ifP {c : Prop} [Decidable c] {A B : Prop} (hc : c) (h : A) : if decide c = true then A else B := by rw [if_pos (decide_eq_true hc)]; exact h
theorem ifN {c : Prop} [Decidable c] {A B : Prop} (hc : ¬ c) (h : B) : if decide c = true then A else B := by rw [if_neg (fun z => hc (of_decide_eq_true z))]; exact h
theorem ifC {c : Prop} [Decidable c] {A B : Prop} (h1 : c → A) (h2 : ¬ c → B) : if decide c = true then A else B := by
  by_cases h : c
  · exact ifP h (h1 h)
  · exact ifN h (h2 h)
theorem ifB {b : Bool} {A B : Prop} (h1 : b = true → A) (h2 : b = false → B) : if b = true then A else B := by
  cases b with
  | true => rw [if_pos rfl]; exact h1 rfl
  | false => rw [if_neg Bool.false_ne_true]; exact h2 rfl
theorem atI_ex {α : Type} {xs : List α} {i : Int} (h0 : 0 ≤ i) (h1 : i < xs.length) : ∃ c, c ∈ xs ∧ atI xs i = some c := by
  have hk : i.toNat < xs.length := by omega
  refine ⟨xs[i.toNat], List.getElem_mem hk, ?_⟩
  have e : ((i.toNat : Nat) : Int) = i := by omega
  have := atI_nat (xs := xs) (j := i.toNat) (v := xs[i.toNat]) (by simp [hk])
  rwa [e] at this
theorem bt_len : bootBuiltins "len" = some (.builtin "len") := by decide +kernel
theorem bt_isinstance : bootBuiltins "isinstance" = some (.builtin "isinstance") := by decide +kernel
theorem bt_min : bootBuiltins "min" = some (.builtin "min") := by decide +kernel
theorem bt_enumerate : bootBuiltins "enumerate" = some (.type "enumerate") := by decide +kernel
theorem bt_range : bootBuiltins "range" = some (.type "range") := by decide +kernel
theorem bt_int : bootBuiltins "int" = some (.type "int") := by decide +kernel
theorem bt_bool : bootBuiltins "bool" = some (.type "bool") := by decide +kernel
theorem bt_list : bootBuiltins "list" = some (.type "list") := by decide +kernel
theorem bt_tuple : bootBuiltins "tuple" = some (.type "tuple") := by decide +kernel
theorem pe_gl {X : Cx} {x : Str} {v : V} {pos : Pos} (hg : Gl X x) (h : ∃ u, X.mg x = some u ∧ RelV v u) (hd : (x == ("__debug__" : Str)) = false := by decide) : PE X (.Name x pos) (tC v) :=
  let ⟨_, e, r⟩ := h
  pe_glob hg e r hd

/-- what a loop walks, by the value -/
noncomputable def iAny (K : PySem.W.Frag) (tl : TE) : TI := fun σ H R => tl σ H fun x H1 => match x with
  | .str z => R (Its z) H1
  | .ref a => ((∃ xs, SqL K H1 a xs) ∧ R (Itl K a) H1) ∨ ((∃ xs, SqT K H1 a xs) ∧ R (Itt K a) H1)
  | _ => False
theorem pi_any {X : Cx} {tg l : Expr} {tl : TE} (hl : PE X l tl) : PI X tg l (iAny X.K tl) := by
  intro pins s σ H R I h
  have hl1 : PE X l tl := hl
  refine thn (hl pins s σ H _ I h) fun v s1 ⟨x, H1, I1, r1, q1⟩ => ?_
  cases x with
  | str z =>
    have := pi_str (X := X) (tg := tg) (l := l) (tl := tC (.str z)) 
    obtain ⟨t, rfl⟩ := r1
    refine wpAny_pyIter_strU ?_
    refine ⟨s1.heap.objs.size, [s1.heap.objs.size], _, _, H1, rfl, I1.kept (t' := s1.toks) fun b o e => Heap.get?_push_of_some _ e, turn_str (ty := strIterType z) (t := t) z _ ?_, ⟨_, Heap.get?_push_size _ rfl, rfl, rfl⟩, fun b hb => ?_, q1⟩
    · unfold strIterType
      split
      · exact .inl rfl
      · exact .inr rfl
    · have e : b = s1.heap.objs.size := by simpa using hb
      subst e
      exact I1.fpOk (Nat.le_refl _) (I1.hok.fresh (Nat.le_refl _))
  | ref a =>
    cases r1
    rcases q1 with ⟨⟨xs, hq⟩, q⟩ | ⟨⟨xs, hq⟩, q⟩
    · obtain ⟨its, rv, p, hz⟩ := I1.list hq
      refine wpAny_pyIter_list p.isList ?_
      refine ⟨s1.heap.objs.size, [s1.heap.objs.size], _, _, H1, rfl, I1.kept (t' := s1.toks) fun b o e => Heap.get?_push_of_some _ e, turn_list a _, ⟨_, Heap.get?_push_size _ rfl, rfl, rfl⟩, fun b hb => ?_, q⟩
      have e : b = s1.heap.objs.size := by simpa using hb
      subst e
      exact I1.fpOk (Nat.le_refl _) (I1.hok.fresh (Nat.le_refl _))
    · obtain ⟨its, rv, p, hz⟩ := I1.tuple hq
      refine wpAny_pyIter_tuple (show s1.heap.IsTuple a its.toArray from p) ?_
      refine ⟨s1.heap.objs.size, [s1.heap.objs.size], _, _, H1, rfl, I1.kept (t' := s1.toks) fun b o e => Heap.get?_push_of_some _ e, turn_tuple a _, ⟨_, Heap.get?_push_size _ rfl, rfl, rfl⟩, fun b hb => ?_, q⟩
      have e : b = s1.heap.objs.size := by simpa using hb
      subst e
      exact I1.fpOk (Nat.le_refl _) (I1.hok.fresh (Nat.le_refl _))
  | _ => exact (show False from q1).elim

theorem call_lenM {X : Cx} : CallR X (.builtin "len") (fun xs H Q => match xs with
    | [.str z] => z.length ≤ sizeLine ∧ Q (.int z.length) H
    | [.ref p] => ∃ ys, (SqL X.K H p ys ∨ SqT X.K H p ys) ∧ Q (.int ys.length) H
    | _ => False) := (call_len_str.or call_len_seq).imp fun xs H Q q => by
  match xs, q with
  | [.str z], q => exact .inl ⟨z, rfl, q.1, q.2⟩
  | [.ref p], q => obtain ⟨ys, h, q⟩ := q; exact .inr ⟨p, ys, rfl, h, q⟩

/-! ### a comprehension, by what it walks -/
section
variable {D : Addr} {σb : St} {g : TG} {tt : TT} {te : TE} {Q : Hp → List V → Prop} {H : Hp} {K : PySem.W.Frag}
/-- what one turn asks -/
noncomputable def CompT (D : Addr) (σb : St) (g : TG) (tt : TT) (te : TE) (x : V) (ys : List V) (H : Hp) (P : List V → Hp → Prop) : Prop :=
  g x σb H fun σ4 H4 => Wk σb σ4 ∧ tt σ4 H4 fun b H5 => if b = true then te σ4 H5 fun y H6 => H6 D = some (.lst ys) ∧ ys.length < sizeLine ∧ P (ys ++ [y]) (upd H6 D (.lst (ys ++ [y]))) else P ys H5
theorem comp_list {a : Addr} {xs : List V} (Pv : Nat → List V → Hp → Prop) (h0 : Pv 0 [] H) (hq : ∀ i ys H, Pv i ys H → SqL K H a xs) (hl : ∀ i ys H, Pv i ys H → H D = some (.lst ys))
    (hs : ∀ (i : Nat) x ys H P, xs[i]? = some x → Pv i ys H → (∀ a b, Pv (i + 1) a b → P a b) → CompT D σb g tt te x ys H P) (hd : ∀ ys H, Pv xs.length ys H → Q H ys) : ∃ W, (∃ m, W 0 m [] H) ∧ CompW (Itl K a) D σb g tt te Q W := by
  refine ⟨fun i m ys H => m = xs.length - i ∧ i ≤ xs.length ∧ Pv i ys H, ⟨_, rfl, Nat.zero_le _, h0⟩, ?_⟩
  rintro i m ys H ⟨rfl, hi, p⟩
  refine ⟨hl i ys H p, ?_⟩
  have q := hq i ys H p
  by_cases hlt : i < xs.length
  · refine .inr ⟨⟨xs, xs[i], q, by simp [hlt]⟩, fun x H3 y => ?_⟩
    obtain ⟨rfl, y⟩ := y
    exact hs i x ys _ (fun a b => ∃ m', m' < xs.length - i ∧ m' = xs.length - (i + 1) ∧ i + 1 ≤ xs.length ∧ Pv (i + 1) a b) (y xs q) p (fun a b q => ⟨xs.length - (i + 1), by omega, rfl, hlt, q⟩)
  · have e : i = xs.length := by omega
    subst e
    exact .inl ⟨⟨xs, q, Nat.le_refl _⟩, hd ys H p⟩
theorem comp_rng {lo : Int} {n : Nat} (Pv : Nat → List V → Hp → Prop) (h0 : Pv 0 [] H) (hl : ∀ i ys H, Pv i ys H → H D = some (.lst ys))
    (hs : ∀ (i : Nat) ys H P, i < n → Pv i ys H → (∀ a b, Pv (i + 1) a b → P a b) → CompT D σb g tt te (.int (lo + i)) ys H P) (hd : ∀ ys H, Pv n ys H → Q H ys) : ∃ W, (∃ m, W 0 m [] H) ∧ CompW (Itr lo n) D σb g tt te Q W := by
  refine ⟨fun i m ys H => m = n - i ∧ i ≤ n ∧ Pv i ys H, ⟨_, rfl, Nat.zero_le _, h0⟩, ?_⟩
  rintro i m ys H ⟨rfl, hi, p⟩
  refine ⟨hl i ys H p, ?_⟩
  by_cases hlt : i < n
  · refine .inr ⟨hlt, fun x H3 y => ?_⟩
    obtain ⟨rfl, rfl⟩ := y
    exact hs i ys _ (fun a b => ∃ m', m' < n - i ∧ m' = n - (i + 1) ∧ i + 1 ≤ n ∧ Pv (i + 1) a b) hlt p (fun a b q => ⟨n - (i + 1), by omega, rfl, hlt, q⟩)
  · have e : i = n := by omega
    subst e
    exact .inl ⟨Nat.le_refl _, hd ys H p⟩
end

/-! ### heaps that have grown -/
theorem Same.new {H : Hp} {p : Addr} {o : HO} (h : H p = none) : Same H (upd H p o) := fun b u e => by rw [upd_ne (ne_of_none e h)]; exact e
/-! ### deep data -/
mutual
noncomputable def DV (K : PySem.W.Frag) (H : Hp) : PyData → V → Prop
  | .none, x => x = .non
  | .bool b, x => x = .bl b
  | .int i, x => x = .int i
  | .str z, x => x = .str z
  | .list ds, x => ∃ a xs, x = .ref a ∧ SqL K H a xs ∧ DVs K H ds xs
  | .tuple ds, x => ∃ a xs, x = .ref a ∧ SqT K H a xs ∧ DVs K H ds xs
  | .dict _, _ => False
noncomputable def DVs (K : PySem.W.Frag) (H : Hp) : List PyData → List V → Prop
  | [], xs => xs = []
  | d :: ds, xs => ∃ y ys, xs = y :: ys ∧ DV K H d y ∧ DVs K H ds ys
end
section
variable {X : Cx} {pins : List (Addr × Obj)} {σ : St} {H : Hp} {s : Shared}
mutual
theorem DV.reads (I : Inv X pins σ H s) : ∀ {d : PyData} {x : V} {u : Value}, DV X.K H d x → RelV x u → ∃ as, Reads s.heap u d as
  | .none, x, u, h, r => by
    rw [DV] at h; subst h; cases r; exact ⟨_, .none⟩
  | .bool b, x, u, h, r => by
    rw [DV] at h; subst h; cases r; exact ⟨_, .bool b⟩
  | .int i, x, u, h, r => by
    rw [DV] at h; subst h; obtain ⟨t, rfl⟩ := r; exact ⟨_, .int i t⟩
  | .str z, x, u, h, r => by
    rw [DV] at h; subst h; obtain ⟨t, rfl⟩ := r; exact ⟨_, .str z t⟩
  | .list ds, x, u, h, r => by
    rw [DV] at h
    obtain ⟨a, xs, rfl, h2, h3⟩ := h
    cases r
    obtain ⟨its, rv, ⟨o, n, e, c, _, d⟩, _⟩ := I.list h2
    obtain ⟨as, q⟩ := DVs.reads I h3 rv
    exact ⟨_, .list e c d (by simpa using q)⟩
  | .tuple ds, x, u, h, r => by
    rw [DV] at h
    obtain ⟨a, xs, rfl, h2, h3⟩ := h
    cases r
    obtain ⟨its, rv, ⟨o, e, c, n, d⟩, _⟩ := I.tuple h2
    obtain ⟨as, q⟩ := DVs.reads I h3 rv
    exact ⟨_, .tuple e c d (by simpa using q)⟩
  | .dict _, x, u, h, r => by rw [DV] at h; exact h.elim
theorem DVs.reads (I : Inv X pins σ H s) : ∀ {ds : List PyData} {xs : List V} {us : List Value}, DVs X.K H ds xs → Vals xs us → ∃ as, ReadsAll s.heap us ds as
  | [], xs, us, h, r => by
    rw [DVs] at h; subst h; cases r; exact ⟨_, .nil⟩
  | d :: ds, xs, us, h, r => by
    rw [DVs] at h
    obtain ⟨y, ys, rfl, h2, h3⟩ := h
    cases r with
    | cons r rs =>
      obtain ⟨as, q⟩ := DV.reads I h2 r
      obtain ⟨bs, p⟩ := DVs.reads I h3 rs
      exact ⟨_, .cons q p⟩
end
end
/-- == of data, whatever its depth -/
noncomputable def rEqD (K : PySem.W.Frag) (neg : Bool) : R2 := fun x y H Q => ∃ d e, DV K H d x ∧ DV K H e y ∧ SeqAt.shaped d = true ∧ SeqAt.shaped e = true ∧ Q (.bl (if neg then !PyData.eqv d e else PyData.eqv d e)) H
theorem o_eqD {X : Cx} (hu : X.A.units + 64 < cLine) : OpR X (compareOp .Eq) (rEqD X.K false) := by
  intro pins s σ H x y v u Q I rx ry h
  obtain ⟨d, e, h1, h2, s1, s2, q⟩ := h
  obtain ⟨as, ra⟩ := h1.reads I rx
  obtain ⟨bs, rb⟩ := h2.reads I ry
  exact eq_dataH ra rb s1 s2 hu ⟨.bl _, H, I, rfl, q⟩
theorem o_neD {X : Cx} (hu : X.A.units + 64 < cLine) : OpR X (compareOp .NotEq) (rEqD X.K true) := by
  intro pins s σ H x y v u Q I rx ry h
  obtain ⟨d, e, h1, h2, s1, s2, q⟩ := h
  obtain ⟨as, ra⟩ := h1.reads I rx
  obtain ⟨bs, rb⟩ := h2.reads I ry
  exact ne_dataH ra rb s1 s2 hu ⟨.bl _, H, I, rfl, q⟩
end L2

set_option Elab.async false
set_option linter.all false
set_option maxRecDepth 100000
set_option maxHeartbeats 4000000
namespace L2
open PySem PySem.Spec PyProof.Rows

/-! ### texts: slices, methods, numbers -/
noncomputable def cutS (z : Str) (lo hi : Option Int) : Str := ⟨((z.cps.toList.drop (HT.sIx z.cps.size 0 lo)).take (HT.sIx z.cps.size z.cps.size hi - HT.sIx z.cps.size 0 lo)).toArray⟩
theorem clipS (n d : Nat) (v : Option Int) : (match v with | none => (d : Int) | some i => max 0 (min (if i < 0 then i + (n : Int) else i) (n : Int))) = ((HT.sIx n d v : Nat) : Int) := by
  cases v with
  | none => rfl
  | some i =>
    show max 0 (min (if i < 0 then i + (n : Int) else i) (n : Int)) = (((if i < 0 then (i + (n : Int)).toNat else min i.toNat n) : Nat) : Int)
    split <;> omega
theorem strIdx (lo hi : Option Int) (n : Nat) : Builtin.Str.strSliceIndices lo hi 1 n = (List.range (HT.sIx n n hi - HT.sIx n 0 lo)).map (HT.sIx n 0 lo + ·) := by
  have e : Builtin.Str.strSliceIndices lo hi 1 n = sliceRange ((HT.sIx n 0 lo : Nat) : Int) ((HT.sIx n n hi : Nat) : Int) 1 := by
    rw [← clipS n 0 lo, ← clipS n n hi]
    unfold Builtin.Str.strSliceIndices
    simp only [show (1 : Int) > 0 by decide, if_true]
    cases lo <;> cases hi <;> rfl
  rw [e, sliceRange_one]
theorem slice_cut (z : Str) (lo hi : Option Int) : Txt.slice z lo hi = cutS z lo hi := by
  have e : ((Builtin.Str.strSliceIndices lo hi 1 z.length).filterMap (z.cps[·]?)) = (z.cps.toList.drop (HT.sIx z.cps.size 0 lo)).take (HT.sIx z.cps.size z.cps.size hi - HT.sIx z.cps.size 0 lo) := by
    rw [strIdx]
    exact pick_run z.cps _ _
  unfold Txt.slice
  split
  · rename_i h
    have hl : (Builtin.Str.strSliceIndices lo hi 1 z.length).length = z.cps.size := by
      rw [Bool.and_eq_true] at h
      exact eq_of_beq h.2
    rw [strIdx, List.length_map, List.length_range] at hl
    have h1 := HT.sIx_le z.cps.size z.cps.size (Nat.le_refl _) hi
    have hl' : HT.sIx z.cps.size z.cps.size hi - HT.sIx z.cps.size 0 lo = z.cps.size := hl
    unfold cutS
    by_cases h0 : z.cps.size = 0
    · refine ext_toList ?_
      have hz : z.cps.toList = [] := List.length_eq_zero_iff.mp (by simpa using h0)
      show z.cps.toList = _
      rw [hz]
      simp
    · have h2 : HT.sIx z.cps.size 0 lo = 0 := by omega
      rw [hl', h2, List.drop_zero, List.take_of_length_le (by simp)]
  · rw [e]
    rfl
section
variable {X : Cx}
noncomputable def rSlS : V → Option Int → Option Int → Hp → VK → Prop := fun x lo hi H Q => ∃ z, x = .str z ∧ z.length ≤ sizeLine ∧ Q (.str (cutS z lo hi)) H
theorem sl_str : SlR X rSlS := by
  intro pins s σ H x v vl vu lo hi sl Q I rx hs pl pu h
  obtain ⟨z, rfl, hz, q⟩ := h
  obtain ⟨t, rfl⟩ := rx
  refine ⟨"str", _, F.slot_str_getitem.lookup, typeIs_str _ _ _, ?_⟩
  rw [← slice_cut] at q
  have fin : ∀ t' k, EP X pins σ Q (.str (Txt.slice z lo hi) t') { s with toks := k } := fun t' k => ⟨.str _, H, I.tok _, ⟨_, rfl⟩, q⟩
  cases pl with
  | none =>
    cases pu with
    | none => exact wpAny_getItem_str_slice (l := none) (u := none) (st := none) hs rfl (post_val_or_str ⟨Nat.le_trans (Txt.slice_le z _ _) hz, fin⟩)
    | int j uj => exact wpAny_getItem_str_slice (l := none) (u := some (j, uj)) (st := none) hs rfl (post_val_or_str ⟨Nat.le_trans (Txt.slice_le z _ _) hz, fin⟩)
  | int i ui =>
    cases pu with
    | none => exact wpAny_getItem_str_slice (l := some (i, ui)) (u := none) (st := none) hs rfl (post_val_or_str ⟨Nat.le_trans (Txt.slice_le z _ _) hz, fin⟩)
    | int j uj => exact wpAny_getItem_str_slice (l := some (i, ui)) (u := some (j, uj)) (st := none) hs rfl (post_val_or_str ⟨Nat.le_trans (Txt.slice_le z _ _) hz, fin⟩)
theorem SlR.imp {r r' : V → Option Int → Option Int → Hp → VK → Prop} (h : SlR X r) (i : ∀ x lo hi H Q, r' x lo hi H Q → r x lo hi H Q) : SlR X r' :=
  fun pins s σ H x v vl vu lo hi sl Q I rx hs pl pu q => h pins s σ H x v vl vu lo hi sl Q I rx hs pl pu (i x lo hi H Q q)
/-- any slice, by the value -/
theorem sl_any : SlR X (fun x lo hi H Q => match x with
    | .str z => z.length ≤ sizeLine ∧ Q (.str (cutS z lo hi)) H
    | .ref a => (∃ xs, SqL X.K H a xs ∧ ∀ p, H p = none → Q (.ref p) (upd H p (.lst (cutV xs lo hi)))) ∨
        ∃ xs, SqT X.K H a xs ∧ ¬ (HT.sIx xs.length 0 lo = 0 ∧ HT.sIx xs.length xs.length hi = xs.length) ∧ ∀ p, H p = none → Q (.ref p) (upd H p (.tup (cutV xs lo hi)))
    | _ => False) := (sl_list.or (sl_tup.or sl_str)).imp fun x lo hi H Q q => by
  cases x with
  | str z => exact .inr (.inr ⟨z, rfl, q.1, q.2⟩)
  | ref a =>
    rcases q with ⟨xs, h1, h2⟩ | ⟨xs, h1, h2, h3⟩
    · exact .inl ⟨a, xs, rfl, h1, h2⟩
    · exact .inr (.inl ⟨a, xs, rfl, h1, h2, h3⟩)
  | _ => exact (show False from q).elim

variable {o e : Expr} {es : List Expr} {to : TE} {t : TA} {apos cpos : Pos}
end
end L2

set_option Elab.async false
set_option linter.all false
set_option maxRecDepth 100000
set_option maxHeartbeats 4000000
namespace L2
open PySem PySem.Spec PyProof.Rows
/-! ### joins: what holds behind a part, said once -/
section
variable {X : Cx} {st : Stmt} {rest : List Stmt} {t u : TS} {e : Expr} {te : TE} {tt : TT}
end
end L2

set_option Elab.async false
set_option linter.all false
set_option maxRecDepth 100000
set_option maxHeartbeats 4000000
namespace L2
open PySem PySem.Spec PyProof.Rows
/-! ### iterators of several records; enumerate, zip -/
section
variable {X : Cx} {pins : List (Addr × Obj)} {σ : St} {H : Hp} {s : Shared} {h' : Heap}
/-- records of ours have turned, a thing may have been laid -/
theorem Inv.turnedNew {t' : Nat} {ch : List Addr} {a : Addr} {o : HO} (I : Inv X pins σ H s) (k : ∀ b u, b ∉ ch → s.heap.get? b = some u → h'.get? b = some u) (hf : ∀ b ∈ ch, FpOk X pins H b)
    (ha : s.heap.objs.size ≤ a) (new : ObjOk X.prog X.w (upd H a o) h' a o) : Inv X pins σ (upd H a o) { s with heap := h', toks := t' } := by
  have hna : H a = none := I.hok.fresh ha
  have nch : ∀ b u, H b = some u → b ∉ ch := fun b u e z => by
    rw [(hf b z).1] at e
    cases e
  have nea : ∀ b u, H b = some u → b ≠ a := fun b u e z => by
    rw [z, hna] at e
    cases e
  have old : ∀ b u, s.heap.get? b = some u → b ≠ a := fun b u e => Nat.ne_of_lt (Nat.lt_of_lt_of_le (Heap.lt_size e) ha)
  refine I.step (g' := s.gens) (d' := s.drawn) (ch := ch) (fun b hb => ?_) (fun b u _ _ hc e _ => k b u hc e) (fun b u _ _ hc e _ => ⟨u.slots, k b u hc e⟩) (fun b u _ e n => ?_) (fun b u hc e => ⟨u, k b u hc e⟩)
    (fun b xs e => ?_) (fun b u v e => ?_) (fun b ps e => ⟨#[], ?_⟩) (fun m hm => ?_) (fun b u e => ?_) I.bare
  · obtain ⟨_, f1, _, f3, f4, f5⟩ := hf b hb
    exact ⟨f3, f1, f4, f5⟩
  · rw [upd_ne (old b u e)]; exact n
  · rw [upd_ne (nea b _ e)]; exact e
  · rw [upd_ne (nea b _ e)]; exact e
  · rw [upd_ne (nea b _ e), e]; simp
  · obtain ⟨ob, es, ep, ho, r⟩ := hm
    exact ⟨ob, es, ep, k _ ob (fun z => (hf _ z).2.1 rfl) ho, r⟩
  · by_cases hb : b = a
    · subst hb
      rw [upd_same] at e
      cases e
      exact new
    · rw [upd_ne hb] at e
      refine (I.hok b u e).stay (fun c v hc q => k c v ?_ q) (fun c q => ?_) fun c xs q => ?_
      · rcases hc with z | z
        · rw [z]; exact nch b u e
        · exact nch c _ z
      · rw [upd_ne (nea c _ q)]; exact q
      · rw [upd_ne (nea c _ q)]; exact q
theorem Inv.turnedN {t' : Nat} {ch : List Addr} (I : Inv X pins σ H s) (k : ∀ b u, b ∉ ch → s.heap.get? b = some u → h'.get? b = some u) (hf : ∀ b ∈ ch, FpOk X pins H b) : Inv X pins σ H { s with heap := h', toks := t' } := by
  have nch : ∀ b u, H b = some u → b ∉ ch := fun b u e z => by
    rw [(hf b z).1] at e
    cases e
  refine I.step (g' := s.gens) (d' := s.drawn) (ch := ch) (fun b hb => ?_) (fun b u _ _ hc e _ => k b u hc e) (fun b u _ _ hc e _ => ⟨u.slots, k b u hc e⟩) (fun b u _ e n => n) (fun b u hc e => ⟨u, k b u hc e⟩)
    (fun b xs e => e) (fun b u v e => e) (fun b ps e => ⟨#[], by rw [e]; simp⟩) (fun m hm => ?_) (fun b u e => ?_) I.bare
  · obtain ⟨_, f1, _, f3, f4, f5⟩ := hf b hb
    exact ⟨f3, f1, f4, f5⟩
  · obtain ⟨ob, es, ep, ho, r⟩ := hm
    exact ⟨ob, es, ep, k _ ob (fun z => (hf _ z).2.1 rfl) ho, r⟩
  · refine (I.hok b u e).stay (fun c v hc q => k c v ?_ q) (fun c q => q) fun c xs q => q
    rcases hc with z | z
    · rw [z]; exact nch b u e
    · exact nch c _ z
end
/-- (i, the item) of the tracked list at a -/
noncomputable def Ite (a : Addr) : It := ⟨fun i H => ∃ xs x, H a = some (.lst xs) ∧ xs[i]? = some x,
  fun i H x H' => ∃ p y, H p = none ∧ x = .ref p ∧ (∀ xs, H a = some (.lst xs) → xs[i]? = some y) ∧ H' = upd H p (.tup [.int (i : Nat), y]), fun i H => ∃ xs, H a = some (.lst xs) ∧ xs.length ≤ i⟩
theorem turn_enum {P : Program} {w : World} {K : PySem.W.Frag} {es : List Expr} {k : Nat} {pos : Pos} (a e it : Addr) (hne : e ≠ it) :
    Turn P w K (.Tuple es k pos) (Ite a) [e, it] e (fun i h => (∃ old, IsEnum h e it i old) ∧ h.IsListIter it a i) where
  mem := by simp
  obj := fun i h st b hb => by
    obtain ⟨⟨old, he⟩, o, h1, h2, h3⟩ := st
    rcases List.mem_cons.mp hb with rfl | hb
    · exact ⟨_, he, fun v z => by cases z⟩
    · rw [List.mem_singleton.mp hb]
      exact ⟨o, h1, fun v z => by rw [h3] at z; cases z⟩
  keep := fun i h h' st kp => by
    obtain ⟨⟨old, he⟩, o, h1, r⟩ := st
    exact ⟨⟨old, kp e (by simp) _ he⟩, o, kp it (by simp) o h1, r⟩
  item := by
    intro X hP hw hK hc i pins s σ H E I hf st hg
    subst hP hw hK
    obtain ⟨⟨old, he⟩, hit⟩ := st
    obtain ⟨xs, x, hl, hx⟩ := hg
    obtain ⟨z, its, n, r, hlen, eo⟩ := I.lstM hl
    obtain ⟨u, hu, ru⟩ := Vals.get r hx
    have hil : s.heap.IsList a its.toArray := ⟨_, eo, rfl, _, rfl⟩
    refine wpAny_pyNext_enum_item he hit hil (x := u) (by simpa using hu) hne fun h1 e1 e2 e3 e4 e5 => ?_
    refine ⟨_, rfl, wpAny_letOwnedTupleGo_enum e1 fun h2 e6 sb => ?_⟩
    have hps : s.heap.objs.size ≠ e := fun q => absurd (Heap.lt_size he) (by rw [← q]; exact Nat.lt_irrefl _)
    have hpi : s.heap.objs.size ≠ it := fun q => by
      obtain ⟨o, ho, _⟩ := hit
      exact absurd (Heap.lt_size ho) (by rw [← q]; exact Nat.lt_irrefl _)
    have hn : H s.heap.objs.size = none := I.hok.fresh (Nat.le_refl _)
    have e3' : h2.get? s.heap.objs.size = some { cls := .type "tuple", data := .seq #[.int i s.toks, u] } := (sb.2 _ hps).trans e3
    have J : Inv X pins σ (upd H s.heap.objs.size (.tup [.int (i : Nat), x])) { s with heap := h2, toks := s.toks + 1 } := by
      refine I.turnedNew (ch := [e, it]) (fun b o hb q => ?_) hf (Nat.le_refl _) ⟨by rw [sizeLine_eq]; show 2 ≤ 16777216; decide, [.int i s.toks, u], .cons ⟨_, rfl⟩ (.cons ru .nil), _, e3', rfl, 0, rfl⟩
      have b1 : b ≠ e := fun z => hb (by simp [z])
      have b2 : b ≠ it := fun z => hb (by simp [z])
      exact (sb.2 b b1).trans (e5 b o b1 b2 q)
    refine ⟨.ref s.heap.objs.size, _, J, rfl, ⟨s.heap.objs.size, x, hn, rfl, fun ys hy => ?_, rfl⟩, ⟨⟨u, ?_⟩, ?_⟩, fun b hb => ?_⟩
    · rw [hl] at hy
      cases hy
      exact hx
    · have e6' : IsEnum h2 e it ((i : Int) + 1) u := e6
      have e7 : ((i + 1 : Nat) : Int) = (i : Int) + 1 := by omega
      rw [e7]
      exact e6'
    · obtain ⟨o, ho, r⟩ := e2
      exact ⟨o, (sb.2 it (Ne.symm hne)).trans ho, r⟩
    · have hb' : b ≠ s.heap.objs.size := by
        rcases List.mem_cons.mp hb with rfl | hb
        · exact hps.symm
        · rw [List.mem_singleton.mp hb]; exact hpi.symm
      rw [upd_ne hb']
      exact (hf b hb).1
  done := by
    intro X hP hw hK hc i pins s σ H E I hf st hg
    subst hP hw hK
    obtain ⟨⟨old, he⟩, hit⟩ := st
    obtain ⟨xs, hl, hx⟩ := hg
    obtain ⟨z, its, n, r, hlen, eo⟩ := I.lstM hl
    have hil : s.heap.IsList a its.toArray := ⟨_, eo, rfl, _, rfl⟩
    refine wpAny_pyNext_enum_end (I.ok.hd hc) he hit hil (by simp; omega) fun h1 eb => ⟨rfl, I.turnedN (ch := [e, it]) (t' := s.toks) (fun b o hb q => eb b o (fun z => hb (by simp [z])) q) hf⟩
  self := fun _ _ _ _ _ st h => by
    obtain ⟨⟨old, he⟩, _⟩ := st
    exact wpAny_pyIter_enum he h
noncomputable def iEnum (ta : TA) : TI := fun σ H R => ta σ H fun vs H1 => ∃ a xs, vs = [.ref a] ∧ H1 a = some (.lst xs) ∧ R (Ite a) H1
theorem pi_enum {X : Cx} {es : List Expr} {k : Nat} {tpos : Pos} {e : Expr} {ta : TA} {p pos : Pos} (hg : Gl X "enumerate") (hm : X.mg "enumerate" = none) (ha : PA X [e] ta) (hs : starEach [e] X.env = [(false, eval e X.env)] := by rfl) :
    PI X (.Tuple es k tpos) (.Call (.Name "enumerate" p) [e] [] pos) (iEnum ta) := by
  intro pins s σ H R I h
  refine wpAny_Call_Name_kw (ld_blt I hg hm bt_enumerate ?_ (by decide) (by decide))
  refine PyProof.Rows.callWith_type1 (thn (ha pos pins s σ H _ I h) fun us s1 ⟨vs, H1, I1, r1, a, xs, e1, hl, q⟩ => ?_) hs rfl
  subst e1
  obtain ⟨u, rfl, ru⟩ := vals1 r1
  cases ru
  obtain ⟨z, its, n, r, hlen, eo⟩ := I1.lstM hl
  refine call_enumerate_1 (n := n) eo fun h2 e1 e2 e3 e4 => ?_
  have I2 : Inv X pins σ H1 { s1 with heap := h2 } := I1.kept (t' := s1.toks) e4
  have hne : s1.heap.objs.size + 1 ≠ s1.heap.objs.size := Nat.succ_ne_self _
  refine wpAny_pyIter_enum e1 ?_
  refine ⟨s1.heap.objs.size + 1, [s1.heap.objs.size + 1, s1.heap.objs.size], _, _, H1, rfl, I2, turn_enum a _ _ hne, ⟨⟨_, e1⟩, e2⟩, fun b hb => ?_, q⟩
  have hb' : s1.heap.objs.size ≤ b := by
    rcases List.mem_cons.mp hb with rfl | hb
    · omega
    · rw [List.mem_singleton.mp hb]
      exact Nat.le_refl _
  exact I1.fpOk hb' (I1.hok.fresh hb')
/-- over enumerate(xs), the list stays -/
theorem for_enum {a : Addr} {xs : List V} {g : TG} {tb : TS} {D : Ends} {σ : St} {H : Hp} (Pv : Nat → St → Hp → Prop) (h0 : Pv 0 σ H) (hl : ∀ i σ H, Pv i σ H → H a = some (.lst xs))
    (hs : ∀ (i : Nat) x σ H p, xs[i]? = some x → Pv i σ H → H p = none → g (.ref p) σ (upd H p (.tup [.int (i : Nat), x])) fun σ2 H2 => tb { D with nx := Pv (i + 1), ct := Pv (i + 1), bk := D.nx } σ2 H2) (hd : ∀ σ H, Pv xs.length σ H → D.nx σ H) :
    ∃ W : Nat → Nat → St → Hp → Prop, (∃ m, W 0 m σ H) ∧ ∀ i m σ H, W i m σ H →
      ((Ite a).stop i H ∧ D.nx σ H) ∨ ((Ite a).go i H ∧ ∃ N : St → Hp → Prop, (∀ σ' H', N σ' H' → ∃ m', m' < m ∧ W (i + 1) m' σ' H') ∧ ∀ x H', (Ite a).yld i H x H' → g x σ H' fun σ2 H2 => tb { D with nx := N, ct := N, bk := D.nx } σ2 H2) := by
  refine ⟨fun i m σ H => m = xs.length - i ∧ i ≤ xs.length ∧ Pv i σ H, ⟨_, rfl, Nat.zero_le _, h0⟩, ?_⟩
  rintro i m σ H ⟨rfl, hi, p⟩
  have q := hl i σ H p
  by_cases hlt : i < xs.length
  · refine .inr ⟨⟨xs, xs[i], q, by simp [hlt]⟩, Pv (i + 1), fun σ' H' p' => ⟨_, by omega, rfl, hlt, p'⟩, fun x H' y => ?_⟩
    obtain ⟨b, v, hb, rfl, hv, rfl⟩ := y
    exact hs i v σ H b (hv xs q) p hb
  · have e : i = xs.length := by omega
    subst e
    exact .inl ⟨⟨xs, q, Nat.le_refl _⟩, hd σ H p⟩
end L2

set_option Elab.async false
set_option linter.all false
set_option maxRecDepth 100000
set_option maxHeartbeats 4000000
namespace NumM
open PySem PySem.NumText

end NumM
namespace L2
open PySem PySem.Spec PyProof.Rows
end L2

set_option Elab.async false
set_option linter.all false
set_option maxRecDepth 100000
set_option maxHeartbeats 4000000
namespace SplM
open PySem
end SplM
namespace L2
open PySem PySem.Spec PyProof.Rows
/-! ### join, split, fields of texts, truth, list methods -/
section
variable {X : Cx}
/-! fields of an f-string -/
variable {o e : Expr} {es : List Expr} {to : TE} {t : TA} {apos cpos : Pos}
theorem pe_m.append (ho : PE X o to) (ha : PA X (e :: es) t) (hbase : attributeBase o "append" X.env (eval o X.env) = eval o X.env := by rfl)
    (hfew : ((backTo cpos (starEach (e :: es) X.env)).all (fun x => !x.1) && (backToKw cpos (keywordEach [] X.env)).all (fun x => x.1.isSome) && decide ((e :: es).length + ([] : List Keyword).length + (if ([] : List Keyword).isEmpty then 0 else 1) < 30)) = true := by rfl)
    (hline : (apos.endLine == cpos.line) = true := by rfl) (hs : starEach (e :: es) X.env = (false, eval e X.env) :: starEach es X.env := by rfl) (hplain : (backTo cpos (starEach es X.env)).any (·.1) = false := by rfl) :
    PE X (.Call (.Attribute o "append" apos) (e :: es) [] cpos) (tBM X.K "list" rAppend to t) := pe_bm F.plainAttrs_list F.slot_list_append F.type_list_append mt_append ho ha hbase hfew hline hs hplain
theorem pe_m.popAt (ho : PE X o to) (ha : PA X (e :: es) t) (hbase : attributeBase o "pop" X.env (eval o X.env) = eval o X.env := by rfl)
    (hfew : ((backTo cpos (starEach (e :: es) X.env)).all (fun x => !x.1) && (backToKw cpos (keywordEach [] X.env)).all (fun x => x.1.isSome) && decide ((e :: es).length + ([] : List Keyword).length + (if ([] : List Keyword).isEmpty then 0 else 1) < 30)) = true := by rfl)
    (hline : (apos.endLine == cpos.line) = true := by rfl) (hs : starEach (e :: es) X.env = (false, eval e X.env) :: starEach es X.env := by rfl) (hplain : (backTo cpos (starEach es X.env)).any (·.1) = false := by rfl) :
    PE X (.Call (.Attribute o "pop" apos) (e :: es) [] cpos) (tBM X.K "list" rPopAt to t) := pe_bm F.plainAttrs_list F.slot_list_pop F.type_list_pop mt_popAt ho ha hbase hfew hline hs hplain
theorem pe_m.clear (ho : PE X o to) (hbase : attributeBase o "clear" X.env (eval o X.env) = eval o X.env := by rfl) (hline : (apos.endLine == cpos.line) = true := by rfl) :
    PE X (.Call (.Attribute o "clear" apos) [] [] cpos) (tBM0 X.K "list" rClear to) := pe_bm0 F.plainAttrs_list F.slot_list_clear F.type_list_clear mt_clear ho hbase hline
end
/-! ### tuples stay -/
noncomputable def TK (H H' : Hp) : Prop := ∀ b xs, H b = some (.tup xs) → H' b = some (.tup xs)
theorem Same.tk {H H' : Hp} (e : Same H H') : TK H H' := fun b xs h => e b _ h
theorem TK.lst {H : Hp} {l : Addr} {xs ys : List V} (h : H l = some (.lst xs)) : TK H (upd H l (.lst ys)) := fun b zs e => by
  rw [upd_ne (ne_of e h (by intro z; cases z))]; exact e
theorem Same.put {H H' : Hp} {D : Addr} {o : HO} (e : Same H H') (h : H D = none) : Same H (upd H' D o) := fun b u q => by
  rw [upd_ne (ne_of_none q h)]; exact e b u q
theorem atI_cons {α : Type} {xs : List α} {i : Int} {v : α} (k : Nat) (hk : (k : Int) = i) (h : xs[k]? = some v) : atI xs i = some v := by rw [← hk]; exact atI_nat h
theorem cutV_drop (xs : List V) (k : Nat) : cutV xs (some (k : Int)) none = xs.drop k := by
  unfold cutV
  rw [HT.sIx_nat, HT.sIx_none]
  by_cases h : k ≤ xs.length
  · rw [Nat.min_eq_left h, List.take_of_length_le (by simp)]
  · rw [Nat.min_eq_right (by omega), Nat.sub_self, List.take_zero, List.drop_of_length_le (by omega)]
end L2

set_option Elab.async false
set_option linter.all false
set_option maxRecDepth 100000
set_option maxHeartbeats 4000000
namespace L2
open PySem PySem.Spec PyProof.Rows
/-! ### units -/
/-! deep data of units -/
/-! the rules with the written part told apart (within a comprehension) -/
section
variable {X : Cx} {K : PySem.W.Frag}
theorem ix_seqK (h : X.K = K) : IxR X (rIx K) := h ▸ ix_seq
theorem sl_anyK (h : X.K = K) : SlR X (fun x lo hi H Q => match x with
    | .str z => z.length ≤ sizeLine ∧ Q (.str (cutS z lo hi)) H
    | .ref a => (∃ xs, SqL K H a xs ∧ ∀ p, H p = none → Q (.ref p) (upd H p (.lst (cutV xs lo hi)))) ∨
        ∃ xs, SqT K H a xs ∧ ¬ (HT.sIx xs.length 0 lo = 0 ∧ HT.sIx xs.length xs.length hi = xs.length) ∧ ∀ p, H p = none → Q (.ref p) (upd H p (.tup (cutV xs lo hi)))
    | _ => False) := h ▸ sl_any
theorem pg_tupK (h : X.K = K) {es : List Expr} {k : Nat} {t : TGs} {n : Nat} {pos : Pos} (hc : X.calm = true) (hp : PGs X es t) (hn : (assignEach es X.env).length = n := by rfl) (hst : (assignEach es X.env).findIdx? (·.1) = none := by rfl) :
    PG X (.Tuple es k pos) (gTup K n t) := h ▸ pg_tup hc hp hn hst
end
end L2

set_option Elab.async false
set_option linter.all false
set_option maxRecDepth 100000
set_option maxHeartbeats 4000000
namespace L2
open PySem PySem.Spec PyProof.Rows

/-! ### an own exception's class, asked of an instance -/
structure XCls (K : PySem.W.Frag) (D : Addr) : Prop where
  ga : PySem.W.findIn K (.ref D) "__getattribute__" = some (some (.builtin "BaseException.__getattribute__"))
  gn : PySem.W.findIn K (.ref D) "__getattr__" = some none
  cl : PySem.W.findIn K (.ref D) "__class__" = some (some (.builtin "object.__class__"))
  mb : PySem.W.mroIn K D (.type "BaseException") = some true
  mo : PySem.W.mroIn K D (.type "object") = some true
  isc : (PySem.W.clsIn K D).isSome = true

section
variable {prog : Program} {w : World} {A : Around} {E : Value → Shared → Prop} {h : Heap} {g : Array GenState} {d : Drawn} {t : Nat} {os : OsState} {a D : Addr} {o : Obj} {K : PySem.W.Frag}
end
end L2

set_option Elab.async false
set_option linter.all false
set_option maxRecDepth 100000
set_option maxHeartbeats 4000000
namespace L2
open PySem PySem.Spec PyProof.Rows

/-! ### an own exception leaves -/
section
variable {P : Program} {w : World} {outer : List Env} {H H' : Hp} {s s' : Shared} {x D : Addr} {a0 : Value} {B : Heap}
end
section
variable {X : Cx} {pins : List (Addr × Obj)} {σ : St} {H H' : Hp} {s s' : Shared} {x D : Addr} {a0 : Value} {B h2 : Heap}
end
section
variable {P : Program} {w : World} {K : PySem.W.Frag} {mg : Str → Option Value} {base : Heap} {N : List Str} {qual : Str} {scope : Scope} {f : Addr} {cdv : Value} {A : Around} {outer : List Env} {s0 : Shared} {H0 : Hp} {E : XK}
end
section
variable {P : Program} {w : World} {K : PySem.W.Frag} {mg : Str → Option Value} {base : Heap}
end
end L2

set_option Elab.async false
set_option linter.all false
set_option maxRecDepth 100000
set_option maxHeartbeats 4000000
namespace L2
open PySem PySem.Spec PyProof.Rows

/-! ### an own exception is caught -/
/-- what a class must have to be named behind except -/
structure XHd (K : PySem.W.Frag) (C : Addr) : Prop where
  isc : (PySem.W.clsIn K C).isSome = true
  ty : PySem.W.typeIn K (.ref C) = some (.type "type")
  mb : PySem.W.mroIn K C (.type "BaseException") = some true
section
variable {X : Cx} {pins : List (Addr × Obj)} {σ : St} {H H' H1 : Hp} {s s' s1 : Shared} {x D C : Addr} {a0 : Value} {B h2 : Heap}
end
end L2

set_option Elab.async false
set_option linter.all false
set_option maxRecDepth 100000
set_option maxHeartbeats 4000000
namespace L2
open PySem PySem.Spec PyProof.Rows

section
variable {X : Cx} {pins : List (Addr × Obj)} {σ : St} {H H' H1 : Hp} {s s' s1 : Shared} {x D C : Addr} {a0 : Value} {B h2 : Heap} {cn en : Str} {ie : Nat} {b₀ : Stmt} {suite : List Stmt} {cp hp : Pos} {ts : TS} {DE : Ends}
end
section
variable {X : Cx} {k ie : Nat} {f C : Addr} {fd : FuncData} {ps : List Str} {sp : Sp} {dvs : List V} {ds : List Value} {fx cn en : Str} {p pos p2 cp hp tp : Pos} {e : Expr} {es : List Expr} {t : TA} {b₀ : Stmt} {suite : List Stmt} {ts : TS}
end

/-! ### isinstance of such a one -/
section
variable {X : Cx}
end
end L2

set_option Elab.async false
set_option linter.all false
set_option maxRecDepth 100000
set_option maxHeartbeats 4000000
namespace L2
open PySem PySem.Spec PyProof.Rows
section
variable {prog : Program} {w : World} {A : Around} {E : Value → Shared → Prop} {h : Heap} {g : Array GenState} {d : Drawn} {t : Nat} {os : OsState} {a D dx : Addr} {o : Obj} {vs : Array Value} {cd : ClassData} {K : PySem.W.Frag} {name : Str} {mA : Str → Option Value} {v : Value}
/-! setting -/
noncomputable abbrev bmV : List Value := [.type "ValueError", .type "Exception", .type "BaseException", .type "object"]
noncomputable def isRf : Value → Bool
  | .ref _ => true
  | _ => false
noncomputable def vTail (l : List Value) : Bool := l.dropWhile isRf == bmV
/-- what a class must have that its instances take the attribute name -/
structure XSet (K : PySem.W.Frag) (D : Addr) (name : Str) (cd : ClassData) : Prop where
  k : PySem.W.clsIn K D = some cd
  dct : cd.hasDict = true
  mro : vTail cd.mro = true
  mo : PySem.W.mroIn K D (.type "object") = some true
  sa : PySem.W.findIn K (.ref D) "__setattr__" = some (some (.builtin "object.__setattr__"))
  na : PySem.W.findIn K (.ref D) name = some none
end

/-! making one whose class has its own __init__ -/
section
variable {prog : Program} {w : World} {A : Around} {E : Value → Shared → Prop} {h : Heap} {g : Array GenState} {d : Drawn} {t : Nat} {os : OsState}
variable {nm q : Str} {C N fI : Addr} {bs bm bmB : List Value} {hdct : Bool} {sn : List Str} {sub : List Value} {ab : Bool} {col : Option Bool} {dd : Option Addr} {k0 k1 k2 k3 k5 : Option Value} {B newId initId : String} {mN : Str → Option Value} {rest : List Value} {oI : Obj}
end
end L2

set_option Elab.async false
set_option linter.all false
set_option maxRecDepth 100000
set_option maxHeartbeats 4000000
namespace L2
open PySem PySem.Spec PyProof.Rows

/-! ### exceptions as values: made, their attributes -/
section
variable {P : Program} {w : World} {H : Hp} {h : Heap} {a D dx : Addr} {fs : List (Str × V)}
end
section
variable {X : Cx} {pins : List (Addr × Obj)} {σ : St} {H : Hp} {s : Shared} {h' : Heap} {x dx D : Addr} {φ : Heap → Prop} {ox od : HO}
end
section
variable {X : Cx} {o e value : Expr} {f : Str} {pos pos' tpos : Pos} {ta tv : TE}
end
end L2

set_option Elab.async false
set_option linter.all false
set_option maxRecDepth 100000
set_option maxHeartbeats 4000000
namespace L2
open PySem PySem.Spec PyProof.Rows

/-! ### own exception classes, read off the text -/
noncomputable def xIn (K : PySem.W.Frag) (C : Addr) (fI : Option Value) : Bool := match K.lookup C with
  | some ⟨.type "type", _, .cls cd, sl⟩ => (match cd.mro, sl.toList with
    | .ref C' :: bm, [_, _, _, _, some (.builtin n), _] => C' == C && n == "ValueError.__new__" && !cd.hasDel && PySem.W.tailIn K bmV bm && PySem.W.nsOkIn K cd.ns && PySem.W.nsIn K cd.ns "__init__" == some fI
    | _, _ => false)
  | _ => false
noncomputable def xcIn (K : PySem.W.Frag) (D : Addr) : Bool := PySem.W.findIn K (.ref D) "__getattribute__" == some (some (.builtin "BaseException.__getattribute__")) && PySem.W.findIn K (.ref D) "__getattr__" == some none &&
  PySem.W.findIn K (.ref D) "__class__" == some (some (.builtin "object.__class__")) && PySem.W.mroIn K D (.type "BaseException") == some true && PySem.W.mroIn K D (.type "object") == some true && (PySem.W.clsIn K D).isSome && PySem.W.typeIn K (.ref D) == some (.type "type")
theorem xc_of {K : PySem.W.Frag} {D : Addr} (h : xcIn K D = true) : XCls K D := by
  unfold xcIn at h
  simp only [Bool.and_eq_true, beq_iff_eq] at h
  obtain ⟨⟨⟨⟨⟨⟨h1, h2⟩, h3⟩, h4⟩, h5⟩, h6⟩, h7⟩ := h
  exact ⟨h1, h2, h3, h4, h5, h6⟩
theorem xh_of {K : PySem.W.Frag} {D : Addr} (h : xcIn K D = true) : XHd K D := by
  unfold xcIn at h
  simp only [Bool.and_eq_true, beq_iff_eq] at h
  obtain ⟨⟨⟨⟨⟨⟨h1, h2⟩, h3⟩, h4⟩, h5⟩, h6⟩, h7⟩ := h
  exact ⟨h6, h7, h4⟩
noncomputable def xsIn (K : PySem.W.Frag) (D : Addr) (name : Str) : Bool := ((PySem.W.clsIn K D).any fun cd => cd.hasDict && vTail cd.mro) && PySem.W.mroIn K D (.type "object") == some true &&
  PySem.W.findIn K (.ref D) "__setattr__" == some (some (.builtin "object.__setattr__")) && PySem.W.findIn K (.ref D) name == some none
theorem xs_of {K : PySem.W.Frag} {D : Addr} {name : Str} (h : xsIn K D name = true) : ∃ cd, XSet K D name cd := by
  unfold xsIn at h
  simp only [Bool.and_eq_true, beq_iff_eq] at h
  obtain ⟨⟨⟨h1, h2⟩, h3⟩, h4⟩ := h
  obtain ⟨cd, e, e2⟩ := PySem.W.any_some h1
  rw [Bool.and_eq_true] at e2
  exact ⟨cd, e, e2.1, e2.2, h2, h3, h4⟩
section
variable {P : Program} {w : World} {K : PySem.W.Frag} {mg : Str → Option Value} {base : Heap} {N : List Str} {qual : Str} {scope : Scope} {f : Addr} {cdv : Value} {A : Around} {outer : List Env} {s0 : Shared} {H0 : Hp} {E : XK}
end

/-! ### C() and C(e, ..) -/
section
variable {X : Cx} {k : Nat} {f C : Addr} {fd : FuncData} {ps : List Str} {sp : Sp} {x : Str} {p pos : Pos} {e : Expr} {es : List Expr} {t : TA}
end
end L2

set_option Elab.async false
set_option linter.all false
set_option maxRecDepth 100000
set_option maxHeartbeats 4000000
namespace L2
open PySem PySem.Spec PyProof.Rows

/-! ### d.setdefault(k, v), in the order of coming -/
section
variable {prog : Program} {w : World} {KT : Type} [DecidableEq KT] {knd : KeyKind prog w KT} {A : Around} {E : Value → Shared → Prop} {s : Shared} {d : Addr} {kvs : List (KT × Value)} {k : KT} {key dflt : Value}
end
section
variable {X : Cx}
end
end L2

set_option Elab.async false
set_option linter.all false
set_option maxRecDepth 100000
set_option maxHeartbeats 4000000
namespace L2
open PySem PySem.Spec PyProof.Rows

/-! ### list(d.items()) -/
section
variable {X : Cx} {o e : Expr} {es : List Expr} {to : TE} {t : TA} {apos cpos : Pos}
end
section
variable {X : Cx} {o e : Expr} {es : List Expr} {to : TE} {t : TA} {apos cpos : Pos}
end
end L2

set_option Elab.async false
set_option linter.all false
set_option maxRecDepth 100000
set_option maxHeartbeats 4000000
namespace L2
open PySem PySem.Spec PyProof.Rows
theorem vals_at : ∀ {xs : List V} {us : List Value}, xs.length = us.length → (∀ (i : Nat) x u, xs[i]? = some x → us[i]? = some u → RelV x u) → Vals xs us
  | [], [], _, _ => .nil
  | x :: xs, u :: us, h, r => .cons (r 0 x u rfl rfl) (vals_at (by simpa using h) fun i y w h1 h2 => r (i + 1) y w (by simpa using h1) (by simpa using h2))
  | [], _ :: _, h, _ => by cases h
  | _ :: _, [], h, _ => by cases h
section
variable {X : Cx}
theorem call_rng1 : CallR X (.type "range") (fun xs H Q => ∃ b, xs = [.int b] ∧ ∀ p, H p = none → Q (.ref p) (upd H p (.rng 0 b))) := by
  intro pins s σ H xs us Q I r h
  obtain ⟨b, rfl, q⟩ := h
  obtain ⟨u, rfl, ⟨t, rfl⟩⟩ := vals1 r
  refine call_range_1 ?_
  exact ⟨.ref s.heap.objs.size, _, I.laid (o := .rng 0 b) (fun b o e => Heap.get?_push_of_some _ e) (Nat.le_refl _) ⟨_, _, _, Heap.get?_push_size _ rfl⟩, rfl, q _ (I.hok.fresh (Nat.le_refl _))⟩
end
end L2

set_option Elab.async false
set_option linter.all false
set_option maxRecDepth 100000
set_option maxHeartbeats 4000000
namespace L2
open PySem PySem.Spec PyProof.Rows
section
variable {M : Model} {A : Around} {E : Value → Shared → Prop} {s : Shared} {env : Env} {K : PySem.W.Frag} {D : Addr}
end
end L2

set_option Elab.async false
set_option linter.all false
set_option maxRecDepth 100000
set_option maxHeartbeats 4000000
namespace L2
open PySem PySem.Spec PyProof.Rows

/-! ### an exception in flight, its dict kept in view -/
section
variable {M : Model} {A : Around} {E : Value → Shared → Prop} {s : Shared} {base : Heap} {env : Env} {outer : List Env} {L e : Addr} {ob : Obj} {fs : Array Value} {head : Value} {more : Bool}
end
end L2

set_option Elab.async false
set_option linter.all false
set_option maxRecDepth 100000
set_option maxHeartbeats 4000000
namespace L2
open PySem PySem.Spec PyProof.Rows
section
variable {M : Model} {A : Around} {E : Value → Shared → Prop} {s : Shared} {base : Heap} {env : Env} {outer : List Env} {L e T : Addr} {ob : Obj} {fs : Array Value} {cls fl : Value} {dct : Option Addr}
end
end L2

set_option Elab.async false
set_option linter.all false
set_option maxRecDepth 100000
set_option maxHeartbeats 4000000
namespace L2
open PySem PySem.Spec PyProof.Rows
/-! ### an own exception with attributes leaves -/
section
variable {P : Program} {w : World} {K : PySem.W.Frag} {mg : Str → Option Value} {base : Heap} {N : List Str} {qual : Str} {scope : Scope} {f : Addr} {cdv : Value} {A : Around} {outer : List Env} {s0 : Shared} {H0 : Hp} {E : XK}
end
section
variable {P : Program} {w : World} {K : PySem.W.Frag} {mg : Str → Option Value} {base : Heap}
end
end L2

set_option Elab.async false
set_option linter.all false
set_option maxRecDepth 100000
set_option maxHeartbeats 4000000
namespace L2
open PySem PySem.Spec PyProof.Rows
/-! ### an own exception with attributes is raised -/
/-- the abstract heap without what stands at x -/
noncomputable def untr (H : Hp) (x : Addr) : Hp := fun b => if b = x then none else H b
theorem untr_ne {H : Hp} {x b : Addr} (h : b ≠ x) : untr H x b = H b := by unfold untr; rw [if_neg h]
theorem untr_same {H : Hp} {x : Addr} : untr H x x = none := by unfold untr; rw [if_pos rfl]
section
variable {P : Program} {w : World} {K : PySem.W.Frag} {mg : Str → Option Value} {base : Heap} {N : List Str} {qual : Str} {scope : Scope} {f : Addr} {cdv : Value} {A : Around} {outer : List Env} {s0 : Shared} {H0 : Hp} {E : XK}
end
end L2

set_option Elab.async false
set_option linter.all false
set_option maxRecDepth 100000
set_option maxHeartbeats 4000000
namespace L2
open PySem PySem.Spec PyProof.Rows
/-! ### an own exception with attributes is caught -/
section
variable {X : Cx} {pins : List (Addr × Obj)} {σ : St} {H H' : Hp} {s s' : Shared} {x D C T T2 : Addr} {dct : Option Addr} {fl : Value} {h2 : Heap} {xs : List Addr}
end
section
variable {X : Cx} {pins : List (Addr × Obj)} {σ : St} {H H' : Hp} {s s' : Shared} {x D C T : Addr} {dct : Option Addr} {cn en : Str} {ie : Nat} {b₀ : Stmt} {suite : List Stmt} {cp hp : Pos} {ts : TS} {DE : Ends}
end
end L2

set_option Elab.async false
set_option linter.all false
set_option maxRecDepth 100000
set_option maxHeartbeats 4000000
namespace L2
open PySem PySem.Spec PyProof.Rows
section
variable {X : Cx} {k ie : Nat} {f C : Addr} {fd : FuncData} {ps : List Str} {sp : Sp} {dvs : List V} {ds : List Value} {fx cn en : Str} {p pos p2 cp hp tp : Pos} {e : Expr} {es : List Expr} {t : TA} {b₀ : Stmt} {suite : List Stmt} {ts : TS}
end
end L2

set_option linter.all false
namespace FrM
theorem gcd_step (x y : Int) : Int.gcd y (x % y) = Int.gcd x y := by
  have e : x = x % y + y * (x / y) := (Int.emod_add_mul_ediv x y).symm
  rw [Int.gcd_comm x y]
  conv => rhs; rw [e]
  rw [Int.gcd_add_mul_left_right]
noncomputable def Bt (n : Nat) (i : Int) : Prop := i.natAbs < 2 ^ n
theorem Bt.mono {m n : Nat} {i : Int} (h : Bt m i) (l : m ≤ n) : Bt n i := Nat.lt_of_lt_of_le h (Nat.pow_le_pow_right (by decide) l)
theorem Bt.le {n : Nat} {i j : Int} (h : Bt n i) (l : j.natAbs ≤ i.natAbs) : Bt n j := Nat.lt_of_le_of_lt l h
/-- what is told of a fraction -/
structure Low (T B t b : Int) : Prop where
  pos : 1 ≤ b
  cop : Int.gcd t b = 1
  eq : t * B = T * b
theorem low (t b : Int) (hb : 0 < b) : 0 < (Int.gcd t b : Int) ∧ (Int.gcd t b : Int) ≤ b ∧ Low t b (t / (Int.gcd t b : Int)) (b / (Int.gcd t b : Int)) ∧ (t / (Int.gcd t b : Int)).natAbs ≤ t.natAbs ∧ (b / (Int.gcd t b : Int)).natAbs ≤ b.natAbs := by
  have hg : 0 < Int.gcd t b := Int.gcd_pos_iff.mpr (.inr (by omega))
  have hgi : 0 < (Int.gcd t b : Int) := by omega
  have d1 := Int.gcd_dvd_left t b
  have d2 := Int.gcd_dvd_right t b
  have e1 := Int.ediv_mul_cancel d1
  have e2 := Int.ediv_mul_cancel d2
  have hle : (Int.gcd t b : Int) ≤ b := Int.le_of_dvd hb d2
  refine ⟨hgi, hle, ⟨?_, Int.gcd_ediv_gcd_ediv_gcd hg, ?_⟩, ?_, ?_⟩
  · have := Int.ediv_pos_of_pos_of_dvd hb (by omega) d2
    omega
  · rw [← Int.mul_ediv_assoc _ d2, Int.mul_comm, ← Int.mul_ediv_assoc _ d1, Int.mul_comm]
  · have := congrArg Int.natAbs e1
    rw [Int.natAbs_mul] at this
    rw [← this]
    exact Nat.le_mul_of_pos_right _ (by simpa using hg)
  · have := congrArg Int.natAbs e2
    rw [Int.natAbs_mul] at this
    rw [← this]
    exact Nat.le_mul_of_pos_right _ (by simpa using hg)
end FrM

set_option linter.all false
set_option maxRecDepth 100000
namespace L2
open PySem PySem.Spec PyProof.Rows FrM
section
variable {X : Cx}
/-! ### products and quotients of great numbers -/
noncomputable def CMulB (i j : Int) : Prop := (Bt 8000 i ∧ Bt 8000 j) ∨ CMul i j
theorem CMulB.ok {i j : Int} (h : CMulB i j) : IntMulOk i j := by
  rcases h with ⟨h1, h2⟩ | h
  · exact IntMulOk.of_le (m := 8000) (n := 8000) (intBits_le_iff.mpr h1) (intBits_le_iff.mpr h2) (by decide)
  · exact h.ok
noncomputable def CDivB (i j : Int) : Prop := 0 < j ∧ Bt 8000 j
theorem CDivB.no {i j : Int} (h : CDivB i j) : Builtin.divisionGoesByPylong i j = false := by
  refine PyProof.noPylong_of_log2 ?_
  have h2 : j.natAbs < 2 ^ 8000 := h.2
  by_cases h0 : j.natAbs = 0
  · rw [h0]; decide +kernel
  · have : j.natAbs.log2 < 8000 := (Nat.log2_lt h0).mpr h2
    omega
theorem op_mulB : OpR X (binaryOp .Mult) (rI CMulB fun i j => .int (i * j)) := opI fun _ _ _ _ _ _ _ hc q => mul_int q hc.ok
theorem op_fdivB : OpR X (binaryOp .FloorDiv) (rI CDivB fun i j => .int (i / j)) := opI fun i j _ _ _ _ _ hc q => by
  have h1 : (0 : Int) < j := hc.1
  exact floordiv_int (by omega) (by rw [Int.fdiv_eq_ediv_of_nonneg i (by omega)]; exact q) (.inl hc.no)
theorem o_mulB : OpR X (binaryOp .Mult) (rIC CMulB fun i j => .int (i * j)) := op_mulB.ic
theorem o_fdivB : OpR X (binaryOp .FloorDiv) (rIC CDivB fun i j => .int (i / j)) := op_fdivB.ic
theorem clB {i j : Int} (h : -(2 ^ 64) < i := by decide) (h2 : i < 2 ^ 64 := by decide) : CMulB i j := .inr (cl h h2)
theorem crB {i j : Int} (h : -(2 ^ 64) < j := by decide) (h2 : j < 2 ^ 64 := by decide) : CMulB i j := .inr (cr h h2)
theorem cdB {i j : Int} {n : Nat} (h : 0 < j) (h' : Bt n j) (hn : n ≤ 8000 := by decide) : CDivB i j := ⟨h, h'.mono hn⟩
theorem bt_abs : bootBuiltins "abs" = some (.builtin "abs") := by decide +kernel
end
end L2

set_option Elab.async false
set_option linter.all false
set_option maxRecDepth 100000
set_option maxHeartbeats 4000000
namespace L2
open PySem PySem.Spec PyProof.Rows
/-! ### long rows of arguments (the layer's own rule is slow for them) -/
section
variable {X : Cx} {k ie ir : Nat} {f C : Addr} {fd : FuncData} {ps : List Str} {sp : Sp} {dvs : List V} {ds : List Value} {fx cn en rn : Str} {p pos p2 p3 cp hp tp : Pos} {e : Expr} {es : List Expr} {t : TA} {b₀ : Stmt} {suite : List Stmt} {ts : TS}
end
end L2

set_option Elab.async false
set_option linter.all false
set_option maxRecDepth 100000
set_option maxHeartbeats 4000000
namespace HT
open PySem PySem.Spec PyProof.Rows
section
variable {prog : Program} {w : World} {A : Around} {E : Value → Shared → Prop} {s : Shared}
end
end HT
namespace L2
open PySem PySem.Spec PyProof.Rows
section
variable {X : Cx}
/-! ### () + t is t itself -/
/-! ### long rows, kept whole (unfolding the judgment is slow) -/
end
end L2

set_option Elab.async false
set_option linter.all false
set_option maxRecDepth 100000
set_option maxHeartbeats 4000000
namespace L2
open PySem PySem.Spec PyProof.Rows
/-! ### judgments kept whole, for rows of rows (unfolding them is slow) -/
section
variable {X : Cx}
end
end L2

set_option Elab.async false
set_option linter.all false
set_option maxRecDepth 100000
set_option maxHeartbeats 4000000
namespace L2
open PySem PySem.Spec PyProof.Rows
/-! ### lambdas: a function object, its cells, its code, the table of the code that it stands in -/
structure LamD where
  qual : Str
  params : Arguments
  body : Expr
  scope : Scope
noncomputable def LamX (f : Addr) (d : LamD) (clos : List (Str × Addr)) (c : Addr) : Heap → Prop := fun h => ∃ pm ctv, h.get? f = some (PySem.W.kla_obj "<lambda>" d.qual d.params d.body d.scope clos pm c ctv)
noncomputable def CellX (c : Addr) (v : V) : Heap → Prop := fun h => ∃ o u, h.get? c = some o ∧ o.data = .cell (some u) ∧ RelV v u
noncomputable def CodeX (c : Addr) (q : Str) : Heap → Prop := fun h => ∃ o vs t, h.get? c = some o ∧ o.data = .fields vs ∧ vs[1]? = some (.str q t)
section
variable {P : Program} {w : World} {H : Hp} {h : Heap}
theorem lamX_ok {f : Addr} {d : LamD} {clos : List (Str × Addr)} {c : Addr} {pm ctv : Value} (e : h.get? f = some (PySem.W.kla_obj "<lambda>" d.qual d.params d.body d.scope clos pm c ctv)) : ObjOk P w H h f (.ext (LamX f d clos c)) :=
  ⟨⟨pm, ctv, e⟩, ⟨_, e⟩, fun h1 h2 ⟨pm, ctv, e1⟩ k => ⟨pm, ctv, k _ e1⟩⟩
theorem cellX_ok {c : Addr} {v : V} (x : CellX c v h) : ObjOk P w H h c (.ext (CellX c v)) :=
  ⟨x, let ⟨o, _, e, _⟩ := x; ⟨o, e⟩, fun h1 h2 ⟨o, u, e1, r⟩ k => ⟨o, u, k _ e1, r⟩⟩
theorem codeX_ok {c : Addr} {q : Str} (x : CodeX c q h) : ObjOk P w H h c (.ext (CodeX c q)) :=
  ⟨x, let ⟨o, _, _, e, _⟩ := x; ⟨o, e⟩, fun h1 h2 ⟨o, vs, t, e1, r⟩ k => ⟨o, vs, t, k _ e1, r⟩⟩
end
/-- a heap with one object everywhere -/
theorem heap_at (a : Addr) (o : Obj) (ho : o.data ≠ .freed) : ∃ h : Heap, h.get? a = some o := by
  refine ⟨{ objs := Array.replicate (a + 1) o }, ?_⟩
  obtain ⟨c, d, dt, sl⟩ := o
  cases dt <;> first | exact absurd rfl ho | simp [Heap.get?]
theorem code_ne_cell {c : Addr} {q : Str} {v : V} : HO.ext (CodeX c q) ≠ HO.ext (CellX c v) := fun e => by
  injection e with e
  obtain ⟨h, hh⟩ := heap_at c { cls := .none, data := .fields #[.none, .str q 0] } (by intro z; cases z)
  have y : CellX c v h := by rw [← e]; exact ⟨_, _, _, hh, rfl, rfl⟩
  obtain ⟨o, u, e1, e2, _⟩ := y
  rw [hh] at e1
  cases e1
  cases e2
/-! ### kept, but that tables grow -/
noncomputable def notT : HO → Bool
  | .tbl _ => false
  | _ => true
noncomputable def SameT (H H' : Hp) : Prop := ∀ b o, H b = some o → (notT o = true → H' b = some o) ∧ ∃ o', H' b = some o'
theorem SameT.refl {H : Hp} : SameT H H := fun b o e => ⟨fun _ => e, o, e⟩
theorem SameT.trans {H H1 H2 : Hp} (a : SameT H H1) (b : SameT H1 H2) : SameT H H2 := fun c o e => by
  obtain ⟨f, o', e'⟩ := a c o e
  obtain ⟨g, o2, e2⟩ := b c o' e'
  exact ⟨fun n => (b c o (f n)).1 n, o2, e2⟩
theorem Same.t {H H' : Hp} (s : Same H H') : SameT H H' := fun b o e => ⟨fun _ => s b o e, o, s b o e⟩
theorem SameT.at {H H' : Hp} (s : SameT H H') {a : Addr} {o : HO} (e : H a = some o) (n : notT o = true := by rfl) : H' a = some o := (s a o e).1 n
theorem SameT.free {H H' : Hp} (s : SameT H H') {a : Addr} (e : H' a = none) : H a = none := by
  cases q : H a with
  | none => rfl
  | some o => obtain ⟨_, o', e'⟩ := s a o q; rw [e] at e'; cases e'
theorem SameT.put {H H' : Hp} (s : SameT H H') {a : Addr} {o : HO} (e : H a = none) : SameT H (upd H' a o) := fun b u q => by
  have n : b ≠ a := fun z => by rw [z, e] at q; cases q
  rw [upd_ne n]
  exact s b u q
/-- a table of codes, in which the lambdas ls of its code may stand -/
noncomputable def TabOk (H : Hp) (P : Addr) (ls : List (Pos × Str)) : Prop := ∃ ps, H P = some (.tbl ps) ∧ TriplesOk ps.toList ∧ ∀ l ∈ ls, codeAmong l.1 ps.toList = none ∨ ∃ c, codeAmong l.1 ps.toList = some (.ref c) ∧ H c = some (.ext (CodeX c l.2))
noncomputable abbrev Tabs := List (Addr × List (Pos × Str))
noncomputable def TabsOk (tabs : Tabs) (H : Hp) : Prop := ∀ q ∈ tabs, TabOk H q.1 q.2
theorem TabsOk.same {tabs : Tabs} {H H' : Hp} (t : TabsOk tabs H) (s : Same H H') : TabsOk tabs H' := fun q hq => by
  obtain ⟨ps, e1, e2, e3⟩ := t q hq
  exact ⟨ps, s _ _ e1, e2, fun l hl => (e3 l hl).imp id fun ⟨c, a, b⟩ => ⟨c, a, s _ _ b⟩⟩
theorem TabsOk.put {tabs : Tabs} {H : Hp} {r : Addr} {o : HO} (t : TabsOk tabs H) (h1 : ∀ ps, H r ≠ some (.tbl ps)) (h2 : ∀ φ, H r ≠ some (.ext φ)) : TabsOk tabs (upd H r o) := fun q hq => by
  obtain ⟨ps, e1, e2, e3⟩ := t q hq
  refine ⟨ps, ?_, e2, fun l hl => (e3 l hl).imp id fun ⟨c, a, b⟩ => ⟨c, a, ?_⟩⟩
  · rw [upd_ne fun z => h1 ps (by rw [← z]; exact e1)]; exact e1
  · rw [upd_ne fun z => h2 _ (by rw [← z]; exact b)]; exact b
theorem among_other {p p' : Pos} {c : Value} (l : List Value) (h : TriplesOk l) (hn : ¬ (p.line = p'.line ∧ p.col = p'.col)) : codeAmong p' (l ++ [rawInt p.line, rawInt p.col, c]) = codeAmong p' l := by
  fun_induction TriplesOk l with
  | case1 =>
    simp only [List.nil_append, codeAmong, rawInt]
    rw [if_neg]
    intro z
    rw [Bool.and_eq_true, beq_iff_eq, beq_iff_eq] at z
    exact hn ⟨by omega, by omega⟩
  | case2 a t b u x rest ih =>
    simp only [List.cons_append, codeAmong]
    rw [ih h]
  | case3 => exact h.elim
theorem triples_snoc {p : Pos} {c : Value} (l : List Value) (h : TriplesOk l) : TriplesOk (l ++ [rawInt p.line, rawInt p.col, c]) := by
  fun_induction TriplesOk l with
  | case1 => simp [TriplesOk, rawInt]
  | case2 a t b u x rest ih => exact ih h
  | case3 => exact h.elim
/-- the module of the built-ins, at its place -/
noncomputable def Bm (mg : Str → Option Value) (base : Heap) : Prop := ∃ bm ob, mg "__builtins__" = some (.ref bm) ∧ base.get? bm = some ob ∧ ob.cls = .type "module" ∧ ob.dict = some builtinsNs ∧ ob.data = .plain
noncomputable def tLam (tabs : Tabs) (d : LamD) (clos : List (Str × Addr)) : TE := fun σ H Q => TabsOk tabs H ∧ ∀ f c H1, SameT H H1 → TabsOk tabs H1 → H f = none → H1 f = some (.ext (LamX f d clos c)) → H1 c = some (.ext (CodeX c d.qual)) → Q (.ref f) H1
end L2

set_option Elab.async false
set_option linter.all false
set_option maxRecDepth 100000
set_option maxHeartbeats 4000000
namespace L2
open PySem PySem.Spec PyProof.Rows
theorem fst_inj {α β : Type} : ∀ {l : List (α × β)}, (l.map (·.1)).Nodup → ∀ x ∈ l, ∀ y ∈ l, x.1 = y.1 → x = y
  | [], _, x, hx, _, _, _ => by cases hx
  | a :: r, nd, x, hx, y, hy, e => by
    rw [List.map_cons, List.nodup_cons] at nd
    rcases List.mem_cons.mp hx with rfl | hx' <;> rcases List.mem_cons.mp hy with rfl | hy'
    · rfl
    · exact absurd (List.mem_map.mpr ⟨y, hy', e.symm⟩) nd.1
    · exact absurd (List.mem_map.mpr ⟨x, hx', e⟩) nd.1
    · exact fst_inj nd.2 x hx' y hy' e
theorem pos_inj : ∀ {l : List (Pos × Str)}, (l.Pairwise fun x y => ¬ (x.1.line = y.1.line ∧ x.1.col = y.1.col)) → ∀ x ∈ l, ∀ y ∈ l, (x.1.line = y.1.line ∧ x.1.col = y.1.col) → x = y
  | [], _, x, hx, _, _, _ => by cases hx
  | a :: r, nd, x, hx, y, hy, e => by
    rw [List.pairwise_cons] at nd
    rcases List.mem_cons.mp hx with rfl | hx' <;> rcases List.mem_cons.mp hy with rfl | hy'
    · rfl
    · exact absurd e (nd.1 y hy')
    · exact absurd ⟨e.1.symm, e.2.symm⟩ (nd.1 x hx')
    · exact pos_inj nd.2 x hx' y hy' e
section
variable {X : Cx} {tabs : Tabs} {P c : Addr} {ls : List (Pos × Str)} {d : LamD} {clos : List (Str × Addr)} {pos : Pos}
theorem pe_lam (hcd : X.env.code = .ref c) (hC : PySem.W.codeHdIn X.K c P = true) (hB : Bm X.mg X.base) (hq : X.env.qual ++ "<lambda>" = d.qual) (hcl : closureFor d.scope X.env = pure clos) (hdef : defaultsOf d.params X.env = ([], []))
    (hm : (P, ls) ∈ tabs) (hl : (pos, d.qual) ∈ ls) (hnd : (tabs.map (·.1)).Nodup) (hps : ls.Pairwise fun x y => ¬ (x.1.line = y.1.line ∧ x.1.col = y.1.col)) : PE X (.Lambda d.params d.body d.scope pos) (tLam tabs d clos) := by
  intro pins s σ H Q I h
  obtain ⟨hT, hQ⟩ := h
  refine PySem.W.kla_eval hdef ?_
  rw [hq]
  obtain ⟨ps, hP, htr, hls⟩ := hT _ hm
  have hgs : s.heap.Ns mainGlobals X.mg := I.mod.glob.keeps I.bk
  have C : PySem.W.CodeHd s.heap c P := PySem.W.codeHd_of_K I.kIn hC
  have hPo : s.heap.get? P = some (PySem.W.tabObj ps) := I.hok P _ hP
  have hgP : mainGlobals ≠ P := fun q => by
    obtain ⟨o, es, ep, e, hd, _⟩ := hgs
    rw [q, hPo] at e; cases e; cases hd
  obtain ⟨bm, ob, b1, b2, b3, b4, b5⟩ := hB
  have bo := I.bk _ _ b2
  have hbP : bm ≠ P := fun q => by
    rw [q, hPo] at bo; cases bo; cases b3
  have hbG : bm ≠ mainGlobals := fun q => by
    obtain ⟨o, es, ep, e, hd, _⟩ := hgs
    rw [q, e] at bo; cases bo; rw [hd] at b5; cases b5
  have hbB : bm ≠ builtinsNs := fun q => by
    obtain ⟨mb, ⟨o, es, ep, e, hd, _⟩, _⟩ := I.mod.blt
    rw [q, e] at b2; cases b2; rw [hd] at b5; cases b5
  have BA : s.heap.BuiltinsAt X.mg P := ⟨bm, ob, b1, hbB, hbG, hbP, bo, b3, b4, b5⟩
  rcases hls _ hl with hn | ⟨c', hc, hHc⟩
  · refine PySem.W.kla_makeFunction (mg := X.mg) hcl I.ok.glob hgs hcd C hPo htr hn hgP BA fun c' ctv h' tk hx hge hlt hrec htb => ?_
    have hc0 : H c' = none := I.hok.fresh hge
    have hf0 : H h'.objs.size = none := I.hok.fresh (Nat.le_trans hge (Nat.le_of_lt hlt))
    have ncf : c' ≠ h'.objs.size := Nat.ne_of_lt hlt
    have nPc : P ≠ c' := ne_of_none hP hc0
    have nPf : P ≠ h'.objs.size := ne_of_none hP hf0
    obtain ⟨f, hf⟩ : ∃ f, f = h'.objs.size := ⟨_, rfl⟩
    obtain ⟨ob', hob⟩ : ∃ o, o = PySem.W.kla_obj "<lambda>" d.qual d.params d.body d.scope clos ((X.mg "__name__").getD .none) c' ctv := ⟨_, rfl⟩
    have hfo : (h'.push ob').get? f = some ob' := by rw [hf, hob]; exact Heap.get?_push_size _ rfl
    have keep : ∀ b o, b ≠ P → s.heap.get? b = some o → (h'.push ob').get? b = some o := fun b o n e => Heap.get?_push_of_some _ (hx b o n e)
    have htb' : (h'.push ob').get? P = some (PySem.W.tabObj (ps ++ #[rawInt pos.line, rawInt pos.col, .ref c'])) := Heap.get?_push_of_some _ htb
    have hcx : CodeX c' d.qual (h'.push ob') := by
      obtain ⟨c2, oc, vs, t, e2, hoc, hdt, hv⟩ := hrec
      cases e2
      exact ⟨oc, vs, t, Heap.get?_push_of_some _ hoc, hdt, hv⟩
    rw [← hf] at hf0 ncf nPf ⊢
    rw [← hob]
    obtain ⟨H1, hH1⟩ : ∃ H1, H1 = upd (upd (upd H P (.tbl (ps ++ #[rawInt pos.line, rawInt pos.col, .ref c']))) c' (.ext (CodeX c' d.qual))) f (.ext (LamX f d clos c')) := ⟨_, rfl⟩
    have gf : H1 f = some (.ext (LamX f d clos c')) := by rw [hH1]; exact upd_same
    have gc : H1 c' = some (.ext (CodeX c' d.qual)) := by rw [hH1, upd_ne ncf]; exact upd_same
    have gP : H1 P = some (.tbl (ps ++ #[rawInt pos.line, rawInt pos.col, .ref c'])) := by rw [hH1, upd_ne nPf, upd_ne nPc]; exact upd_same
    have go : ∀ b, b ≠ P → b ≠ c' → b ≠ f → H1 b = H b := fun b h1 h2 h3 => by rw [hH1, upd_ne h3, upd_ne h2, upd_ne h1]
    have same : ∀ b o, b ≠ P → H b = some o → H1 b = some o := fun b o n e => by rw [go b n (ne_of_none e hc0) (ne_of_none e hf0)]; exact e
    have nt : ∀ b o, H b = some o → (∀ qs, o ≠ .tbl qs) → b ≠ P := fun b o e n z => by rw [z, hP] at e; cases e; exact n ps rfl
    have un : Un X.fs [] H H1 s.heap (h'.push ob') := by
      refine ⟨fun b o e n _ _ => keep b o (fun z => by rw [z, hP] at n; cases n) e, fun b o e n _ _ => ⟨o.slots, keep b o (fun z => by rw [z, hP] at n; cases n) e⟩, fun b o e n _ => ?_, fun b o e _ => ?_, fun b xs e => same b _ (nt b _ e fun _ z => nomatch z) e, fun b o u e => same b _ (nt b _ e fun _ z => nomatch z) e, fun b qs e => ?_⟩
      · have hb : b < s.heap.objs.size := Heap.lt_size e
        rw [go b (fun z => by rw [z, hP] at n; cases n) (Nat.ne_of_lt (Nat.lt_of_lt_of_le hb hge)) (by rw [hf]; exact Nat.ne_of_lt (Nat.lt_of_lt_of_le hb (Nat.le_trans hge (Nat.le_of_lt hlt))))]
        exact n
      · by_cases hb : b = P
        · rw [hb]; exact ⟨_, htb'⟩
        · exact ⟨o, keep b o hb e⟩
      · by_cases hb : b = P
        · rw [hb, hP] at e
          cases e
          rw [hb]
          exact ⟨_, gP⟩
        · exact ⟨#[], by rw [same b _ hb e]; simp⟩
    have hok : HOk X.prog X.w H1 (h'.push ob') := fun a o e => by
      by_cases h1 : a = f
      · subst h1; rw [gf] at e; cases e; exact lamX_ok (by rw [hfo, hob])
      by_cases h2 : a = c'
      · subst h2; rw [gc] at e; cases e; exact codeX_ok hcx
      by_cases h3 : a = P
      · subst h3; rw [gP] at e; cases e; exact htb'
      rw [go a h3 h2 h1] at e
      refine (I.hok a o e).stay (fun b u hb q => keep b u ?_ q) (fun b q => same b _ (nt b _ q fun _ z => nomatch z) q) fun b xs q => same b _ (nt b _ q fun _ z => nomatch z) q
      rcases hb with rfl | hb
      · exact h3
      · exact nt b _ hb fun _ z => nomatch z
    refine ⟨.ref f, H1, I.un (h' := h'.push ob') (t' := tk) un hok, rfl, hQ f c' H1 (fun b o e => ?_) (fun q hq' => ?_) hf0 gf gc⟩
    · by_cases hb : b = P
      · subst hb
        rw [hP] at e
        cases e
        exact ⟨fun z => (Bool.false_ne_true z).elim, _, gP⟩
      · exact ⟨fun _ => same b o hb e, o, same b o hb e⟩
    · by_cases hqP : q.1 = P
      · have hqe : q = (P, ls) := fst_inj hnd q hq' (P, ls) hm hqP
        subst hqe
        refine ⟨_, gP, by rw [Array.toList_append]; exact triples_snoc _ htr, fun l' hl' => ?_⟩
        rw [Array.toList_append]
        by_cases hp : pos.line = l'.1.line ∧ pos.col = l'.1.col
        · have := pos_inj hps (pos, d.qual) hl l' hl' hp
          subst this
          exact .inr ⟨c', codeAmong_snoc _ htr hn, gc⟩
        · have eo := among_other (c := .ref c') ps.toList htr hp
          rcases hls l' hl' with z | ⟨c2, z1, z2⟩
          · exact .inl (eo.trans z)
          · exact .inr ⟨c2, eo.trans z1, same c2 _ (nt c2 _ z2 fun _ z => nomatch z) z2⟩
      · obtain ⟨qs, e1, e2, e3⟩ := hT q hq'
        exact ⟨qs, same _ _ hqP e1, e2, fun l' hl' => (e3 l' hl').imp id fun ⟨c2, z1, z2⟩ => ⟨c2, z1, same c2 _ (nt c2 _ z2 fun _ z => nomatch z) z2⟩⟩
  · refine PySem.W.kla_makeFunctionHit (mg := X.mg) hcl I.ok.glob hgs hcd C hPo htr hc BA fun ctv h' tk hk hsz => ?_
    have hf0 : H h'.objs.size = none := I.hok.fresh hsz
    have sm : Same H (upd H h'.objs.size (.ext (LamX h'.objs.size d clos c'))) := Same.new hf0
    refine ⟨.ref h'.objs.size, _, I.laid (a := h'.objs.size) (o := .ext (LamX h'.objs.size d clos c')) (t' := tk) (fun b u e => Heap.get?_push_of_some _ (hk b u e)) hsz (lamX_ok (Heap.get?_push_size _ rfl)), rfl, hQ _ c' _ sm.t (hT.same sm) hf0 upd_same (sm _ _ hHc)⟩
end
end L2

set_option Elab.async false
set_option linter.all false
set_option maxRecDepth 100000
set_option maxHeartbeats 4000000
namespace L2
open PySem PySem.Spec PyProof.Rows
/-! ### a lambda called -/
noncomputable def untrs (H : Hp) (cs : List Addr) : Hp := fun b => if b ∈ cs then none else H b
theorem untrs_in {H : Hp} {cs : List Addr} {b : Addr} (h : b ∈ cs) : untrs H cs b = none := by unfold untrs; rw [if_pos h]
theorem untrs_out {H : Hp} {cs : List Addr} {b : Addr} (h : b ∉ cs) : untrs H cs b = H b := by unfold untrs; rw [if_neg h]
theorem untrs_none {H : Hp} {cs : List Addr} {b : Addr} (h : H b = none) : untrs H cs b = none := by unfold untrs; split <;> first | rfl | exact h
noncomputable abbrev CellsAt (H : Hp) : List (Str × Addr) → List V → Prop := Paired fun (p : Str × Addr) (v : V) => H p.2 = some (.ext (CellX p.2 v))
theorem CellsAt.mem {H : Hp} : ∀ {clos : List (Str × Addr)} {vals : List V}, CellsAt H clos vals → ∀ p ∈ clos, ∃ v, H p.2 = some (.ext (CellX p.2 v))
  | _, _, .nil, p, h => by cases h
  | _, _, .cons r t, p, h => by
    rcases List.mem_cons.mp h with rfl | h
    · exact ⟨_, r⟩
    · exact CellsAt.mem t p h
theorem CellsAt.get {H : Hp} : ∀ {clos : List (Str × Addr)} {vals : List V} {i : Nat} {v : V}, CellsAt H clos vals → vals[i]? = some v → ∃ p, clos[i]? = some p ∧ H p.2 = some (.ext (CellX p.2 v))
  | _, _, _, _, .nil, h => by cases h
  | _, _, 0, _, .cons r t, h => by cases h; exact ⟨_, rfl, r⟩
  | _, _, i + 1, _, .cons r t, h => CellsAt.get (i := i) t h
theorem CellsAt.at {H : Hp} {clos : List (Str × Addr)} {vals : List V} (ca : CellsAt H clos vals) {b : Addr} (hb : b ∈ clos.map (·.2)) : ∃ v, H b = some (.ext (CellX b v)) := by
  obtain ⟨p, hp, rfl⟩ := List.mem_map.mp hb
  exact ca.mem p hp
theorem untrs_of {H : Hp} {clos : List (Str × Addr)} {vals : List V} {b : Addr} {o : HO} (ca : CellsAt H clos vals) (h : H b = some o) (n : ∀ v, o ≠ .ext (CellX b v)) : untrs H (clos.map (·.2)) b = some o := by
  rw [untrs_out fun z => ?_]
  · exact h
  · obtain ⟨v, e⟩ := ca.at z
    rw [h] at e
    exact n v (Option.some.inj e)
theorem lookup_of_mem {α : Type} : ∀ {l : List (Str × α)} {x : Str} {u : α}, (l.map (·.1)).Nodup → (x, u) ∈ l → l.lookup x = some u
  | [], _, _, _, h => by cases h
  | (y, w) :: r, x, u, nd, h => by
    rw [List.map_cons, List.nodup_cons] at nd
    rcases List.mem_cons.mp h with e | h
    · cases e; simp [List.lookup]
    · have : x ≠ y := fun z => nd.1 (List.mem_map.mpr ⟨(x, u), h, z⟩)
      rw [List.lookup_cons, beq_eq_false_iff_ne.mpr this]
      exact lookup_of_mem nd.2 h
theorem nodup_rev {α : Type} {l : List α} (h : l.Nodup) : l.reverse.Nodup := by
  unfold List.Nodup at h ⊢
  rw [List.pairwise_reverse]
  exact h.imp fun n z => n z.symm
noncomputable def lamEnv (d : LamD) (L f c : Addr) (clos : List (Str × Addr)) : Env := { scope := d.scope, locals := L, globals := mainGlobals, cells := clos, qual := d.qual ++ ".<locals>.", func := some f, code := .ref c, frame := some L, builtins := builtinsNs }
noncomputable def cxL (P : Program) (w : World) (K : PySem.W.Frag) (mg : Str → Option Value) (base : Heap) (N : List Str) (d : LamD) (clos : List (Str × Addr)) (f c : Addr) (A : Around) (outer : List Env) (s : Shared) (H : Hp) : Cx where
  prog := P
  w := w
  K := K
  mg := mg
  base := base
  A := A.deeper (lamEnv d s.heap.objs.size f c clos)
  N := N
  s₀ := s
  H₀ := untrs H (clos.map (·.2))
  env := lamEnv d s.heap.objs.size f c clos
  outer := outer
  stack := lamEnv d s.heap.objs.size f c clos :: outer
  ex := []
  calm := true
  fn := fun _ => false
  pn := []
  xe := fun _ _ => False
noncomputable def LamOk (P : Program) (w : World) (K : PySem.W.Frag) (mg : Str → Option Value) (base : Heap) (k : Nat) (d : LamD) (fv ps : List Str) (sp : List V → Sp) : Prop :=
  ∀ (A : Around) (outer : List Env) (s : Shared) (H : Hp) (f c : Addr) (clos : List (Str × Addr)) (us : List Value) (vs vals : List V) (Q : VK) (E : XK), Room k A → Env0 P w K mg base A outer s H → H f = some (.ext (LamX f d clos c)) → H c = some (.ext (CodeX c d.qual)) →
    clos.map (·.1) = fv → (clos.map (·.2)).Nodup → CellsAt H clos vals → Vals vs us → sp vals vs H Q E → codeAny (model P w) A (.call (.ref f) ⟨us, []⟩) (CR CX0 outer P w H s Q E) s
structure LamScope (d : LamD) (fv ps : List Str) : Prop where
  kind : d.scope.kind = .function
  co : d.scope.isCoroutine = false
  gen : d.scope.isGenerator = false
  nocell : ∀ x ∈ d.scope.names, x.2 ≠ .cell
  par : ∀ x ∈ ps, d.scope.names.lookup x = some .local
  free : ∀ x ∈ d.scope.names, x.2 = .free → x.1 ∈ fv
  fr : ∀ x ∈ fv, d.scope.names.lookup x = some .free
  nd : (ps ++ fv).Nodup
theorem mem_of_look {α β : Type} [BEq α] [LawfulBEq α] : ∀ {l : List (α × β)} {x : α} {u : β}, l.lookup x = some u → (x, u) ∈ l
  | [], _, _, h => by cases h
  | (y, w) :: r, x, u, h => by
    rw [List.lookup_cons] at h
    cases e : x == y with
    | true => rw [e] at h; cases h; rw [eq_of_beq e]; exact List.mem_cons_self ..
    | false => rw [e] at h; exact List.mem_cons_of_mem _ (mem_of_look h)
theorem inv_startL {P : Program} {w : World} {K : PySem.W.Frag} {mg : Str → Option Value} {base : Heap} {d : LamD} {fv ps : List Str} {clos : List (Str × Addr)} {f c : Addr} {A : Around} {outer : List Env} {s : Shared} {H : Hp} {us : List Value} {vs vals : List V} {h1 : Heap} {tk : Nat}
    (S : LamScope d fv ps) (hd : A.handled = none) (e0 : Env0 P w K mg base A outer s H) (hl : vs.length = ps.length) (r : Vals vs us) (hfv : clos.map (·.1) = fv) (hnd : (clos.map (·.2)).Nodup) (ca : CellsAt H clos vals)
    (hns : h1.Ns s.heap.objs.size (fun x => (ps.zip us).reverse.lookup x)) (hk : ∀ b o, s.heap.get? b = some o → h1.get? b = some o) :
    Inv (cxL P w K mg base (ps ++ fv) d clos f c A outer s H) [] ((vs ++ vals).map some) (untrs H (clos.map (·.2))) { s with heap := h1, toks := tk } := by
  have ndf : (clos.map (·.1)).Nodup := by rw [hfv]; exact (List.nodup_append.mp S.nd).2.1
  have ndp : ps.Nodup := (List.nodup_append.mp S.nd).1
  have lus : us.length = ps.length := by rw [← r.length]; exact hl
  have hin : ∀ x c', clos.lookup x = some c' → c' ∈ clos.map (·.2) := fun x c' e => List.mem_map.mpr ⟨(x, c'), mem_of_look e, rfl⟩
  have cellOf : ∀ b v, H b = some (.ext (CellX b v)) → ∃ u, RelV v u ∧ h1.IsCell b (some u) := fun b v e => by
    obtain ⟨⟨o, u, g1, g2, g3⟩, _⟩ := e0.hok b _ e
    exact ⟨u, g3, o, hk _ _ g1, g2⟩
  have noA : ∀ b : Addr, b ∉ (cxL P w K mg base (ps ++ fv) d clos f c A outer s H).ex := fun b z => absurd (show b ∈ ([] : List Addr) from z) (by simp)
  have lcl : clos.length = fv.length := by rw [← hfv, List.length_map]
  have lva : vals.length = clos.length := (Paired.length ca).symm
  refine ⟨⟨e0.mod, S.kind, rfl, rfl, Nat.le_refl _, fun y z c' h1 h2 => ?_, fun y hy => ?_, fun y c' h => (Bool.false_ne_true h).elim, fun _ => hd, Around.frames_deeper e0.frames, .inr ⟨rfl, rfl⟩, fun b z => absurd z (noA b), fun b o e => ⟨(e0.bs b o e).1, untrs_none (e0.bs b o e).2⟩, e0.bsz, fun b _ _ => noA b, fun b z => absurd z (noA b), e0.funs, fun b hb => untrs_none (e0.frf b hb)⟩,
    rfl, e0.bare, Un.kept hk, ⟨_, hns, fun i y v g1 g2 g3 => ?_⟩, fun y c' h => ?_, untrs_none (e0.hok.fresh (Nat.le_refl _)), fun y c' h => untrs_in (hin y c' h), fun p hp => absurd (show p ∈ ([] : List (Addr × Obj)) from hp) (by simp), fun b u e => ?_, ?_⟩
  · have h1 : clos.lookup y = some c' := h1
    have h2 : clos.lookup z = some c' := h2
    have e1 := mem_of_look h1
    have e2 := mem_of_look h2
    have nd2 : ((clos.map fun p => (p.2, p.1)).map (·.1)).Nodup := by rw [List.map_map]; exact hnd
    have := fst_inj nd2 (c', y) (List.mem_map.mpr ⟨_, e1, rfl⟩) (c', z) (List.mem_map.mpr ⟨_, e2, rfl⟩) rfl
    exact congrArg Prod.snd this
  · have hy : d.scope.names.lookup y = some .cell ∨ d.scope.names.lookup y = some .free := hy
    rcases hy with hy | hy
    · exact absurd rfl (S.nocell _ (mem_of_look hy))
    · have := S.free _ (mem_of_look hy) rfl
      rw [← hfv] at this
      obtain ⟨p, hp, e⟩ := List.mem_map.mp this
      have e' : p.1 = y := e
      exact ⟨p.2, lookup_of_mem ndf (by show (y, p.2) ∈ clos; rw [← e']; exact hp)⟩
  · have g1 : (ps ++ fv)[i]? = some y := g1
    by_cases hi : i < ps.length
    · rw [List.getElem?_append_left hi] at g1
      rw [List.getElem?_map, List.getElem?_append_left (by omega)] at g2
      have g2' : vs[i]? = some v := by
        cases q : vs[i]? with
        | none => rw [q] at g2; cases g2
        | some x => rw [q] at g2; cases g2; rfl
      obtain ⟨u, hu, rv⟩ := r.get g2'
      refine ⟨u, rv, .inl ⟨S.par y (List.mem_of_getElem? g1), ?_⟩⟩
      have mem : (y, u) ∈ ps.zip us := List.mem_of_getElem? (i := i) (by rw [List.getElem?_zip_eq_some]; exact ⟨g1, hu⟩)
      refine lookup_of_mem ?_ (List.mem_reverse.mpr mem)
      rw [List.map_reverse]
      refine nodup_rev ?_
      have : (ps.zip us).map (·.1) = ps := by rw [List.map_fst_zip]; omega
      rw [this]
      exact ndp
    · rw [List.getElem?_append_right (by omega)] at g1
      rw [List.getElem?_map, List.getElem?_append_right (by omega)] at g2
      have g2' : vals[i - ps.length]? = some v := by
        rw [hl] at g2
        cases q : vals[i - ps.length]? with
        | none => rw [q] at g2; cases g2
        | some x => rw [q] at g2; cases g2; rfl
      obtain ⟨p, hp, e⟩ := ca.get g2'
      rw [← hfv, List.getElem?_map, hp] at g1
      cases g1
      obtain ⟨u, rv, ic⟩ := cellOf _ _ e
      have hmem := List.mem_of_getElem? hp
      refine ⟨u, rv, .inr ⟨.inr (S.fr p.1 ?_), p.2, lookup_of_mem ndf hmem, ic⟩⟩
      rw [← hfv]
      exact List.mem_map.mpr ⟨p, hmem, rfl⟩
  · obtain ⟨v, e⟩ := ca.at (hin y c' h)
    obtain ⟨u, _, ic⟩ := cellOf _ _ e
    exact ⟨_, ic⟩
  · by_cases hb : b ∈ clos.map (·.2)
    · rw [untrs_in hb] at e; cases e
    · rw [untrs_out hb] at e
      refine (e0.hok b u e).stay (fun b' u' _ q => hk b' u' q) (fun b' q => ?_) fun b' xs q => ?_
      · exact untrs_of ca q fun v z => nomatch z
      · exact untrs_of ca q fun v z => nomatch z
  · show ((vs ++ vals).map some).length = (ps ++ fv).length
    rw [List.length_map, List.length_append, List.length_append]
    omega
end L2

set_option Elab.async false
set_option linter.all false
set_option maxRecDepth 100000
set_option maxHeartbeats 4000000
namespace L2
open PySem PySem.Spec PyProof.Rows
section
variable {P : Program} {w : World} {K : PySem.W.Frag} {mg : Str → Option Value} {base : Heap}
/-- THE RULE for a lambda: its body as a term of rules, and the reading of that term -/
theorem lam_of {d : LamD} {fv ps : List Str} {k : Nat} {sp : List V → Sp} (S : LamScope d fv ps)
    (hbind : ∀ (pm ctv : Value) (clos : List (Str × Addr)) (c : Addr) (us : List Value), us.length = ps.length → bindArgs (PySem.W.kla_fn "<lambda>" d.qual d.params d.body d.scope clos pm (.ref c) ctv) ⟨us, []⟩ = pure (ps.zip us))
    (len : ∀ vals vs H Q E, sp vals vs H Q E → vs.length = ps.length)
    (hbody : ∀ (A : Around) (outer : List Env) (s : Shared) (H : Hp) (f c : Addr) (clos : List (Str × Addr)) (vals vs : List V) (Q : VK) (E : XK), Room k (A.deeper (lamEnv d s.heap.objs.size f c clos)) → clos.map (·.1) = fv → CellsAt H clos vals → sp vals vs H Q E →
      ∃ t, PE (cxL P w K mg base (ps ++ fv) d clos f c A outer s H) d.body t ∧ t ((vs ++ vals).map some) (untrs H (clos.map (·.2))) (fun v H' => ∀ H3, Same H' H3 → (∀ p ∈ clos, H3 p.2 = H p.2) → Q v H3)) :
    LamOk P w K mg base (k + 1) d fv ps sp := by
  intro A outer s H f c clos us vs vals Q E hr e0 hf hc hfv hnd ca r hsp
  have hl := len _ _ _ _ _ hsp
  have lus : us.length = ps.length := by rw [← r.length]; exact hl
  obtain ⟨⟨pm, ctv, ef⟩, _, _⟩ := e0.hok f _ hf
  obtain ⟨⟨oc, cvs, ct, ec, ed, ev⟩, _, _⟩ := e0.hok c _ hc
  have lim : s.heap.NoLimit := e0.mod.nolimit.keeps fun b o e => (e0.bs b o e).1
  obtain ⟨t, ht, hq⟩ := hbody A outer s H f c clos vals vs Q E (hr.deeper _) hfv ca hsp
  refine PySem.W.kla_callFunE (body := d.body) hr.depth ef rfl S.co S.gen rfl ⟨c, oc, cvs, ct, rfl, ec, ed, ev⟩ ?_
  rw [hbind pm ctv clos c us lus]
  refine wpAny_pure (wpAny_newFunctionEnv S.nocell (fun y hy => S.par y.1 (List.of_mem_zip hy).1) (fun h1 hns hsb => ?_) S.kind)
  have hk : ∀ b o, s.heap.get? b = some o → h1.get? b = some o := fun b o e => hsb.extBut b o (Nat.ne_of_lt (Heap.lt_size e)) (Heap.get?_push_of_some _ e)
  refine ⟨lim.fresh _ hsb, ?_⟩
  show codeAny _ _ (.expr d.body (lamEnv d s.heap.objs.size f c clos)) _ _
  have I := inv_startL (f := f) (c := c) (tk := s.toks + (ps.zip us).length) S hr.hd e0 hl r hfv hnd ca hns hk
  refine PySem.W.kla_codeExpr (wpAny_mono (ht [] _ _ _ _ I hq) (fun u s' hs => ?_) fun e s' z => False.elim z)
  obtain ⟨v, H', J, rv, q⟩ := hs
  obtain ⟨cs, hcs⟩ : ∃ cs, cs = clos.map (·.2) := ⟨_, rfl⟩
  have ub : Un (frs outer) [] (untrs H (clos.map (·.2))) H' s.heap s'.heap := J.base
  have hat : ∀ b, b ∈ clos.map (·.2) → ∃ o v, s.heap.get? b = some o ∧ H b = some (.ext (CellX b v)) := fun b hb => by
    obtain ⟨v, e⟩ := ca.at hb
    obtain ⟨⟨o, _, g, _⟩, _⟩ := e0.hok b _ e
    exact ⟨o, v, g, e⟩
  have hfr : ∀ b ∈ clos.map (·.2), H' b = none := fun b hb => by
    obtain ⟨o, v, g, _⟩ := hat b hb
    exact ub.free b o g (untrs_in hb) (by simp)
  let H3 : Hp := fun b => if b ∈ clos.map (·.2) then H b else H' b
  have g1 : ∀ b, b ∈ clos.map (·.2) → H3 b = H b := fun b hb => if_pos hb
  have g2 : ∀ b, b ∉ clos.map (·.2) → H3 b = H' b := fun b hb => if_neg hb
  have sm : Same H' H3 := fun b o e => by
    rw [g2 b fun z => by rw [hfr b z] at e; cases e]
    exact e
  have up : ∀ b o, H b = some o → (∀ v, o ≠ .ext (CellX b v)) → b ∉ clos.map (·.2) := fun b o e n z => by
    obtain ⟨v, e'⟩ := ca.at z
    rw [e] at e'
    exact n v (Option.some.inj e')
  refine ⟨v, H3, J.os, J.bare, ⟨fun b o e n hb hx => ub.keep b o e (untrs_none n) hb hx, fun b o e n hb hx => ub.slot b o e (untrs_none n) hb hx, fun b o e n hx => ?_, ub.there, fun b xs e => ?_, fun b o u e => ?_, fun b ps' e => ?_⟩, fun b o e => ?_, rv, q H3 sm fun p hp => g1 p.2 (List.mem_map.mpr ⟨p, hp, rfl⟩)⟩
  · rw [g2 b fun z => by obtain ⟨_, v, _, e'⟩ := hat b z; rw [n] at e'; cases e']
    exact ub.free b o e (untrs_none n) hx
  · exact sm _ _ (ub.tups b xs (untrs_of ca e fun v z => nomatch z))
  · exact sm _ _ (ub.frzs b o u (untrs_of ca e fun v z => nomatch z))
  · obtain ⟨more, z⟩ := ub.tbls b ps' (untrs_of ca e fun v z => nomatch z)
    exact ⟨more, sm _ _ z⟩
  · by_cases hb : b ∈ clos.map (·.2)
    · rw [g1 b hb] at e
      obtain ⟨o', v', g, e'⟩ := hat b hb
      rw [e] at e'
      cases e'
      obtain ⟨⟨o2, u2, k1, k2, k3⟩, _⟩ := e0.hok b _ e
      refine cellX_ok ⟨o2, u2, ub.keep b o2 k1 (untrs_in hb) (fun z => ?_) (by simp), k2, k3⟩
      rw [e0.frf b z] at e
      cases e
    · rw [g2 b hb] at e
      refine (J.hok b o e).stay (fun b' u' _ q => q) (fun b' q => sm _ _ q) fun b' xs q => sm _ _ q
end
/-- two readings of one expression -/
theorem PE.or {X : Cx} {e : Expr} {t t' : TE} (h : PE X e t) (h' : PE X e t') : PE X e (fun σ H Q => t σ H Q ∨ t' σ H Q) := fun pins s σ H Q I q => q.elim (h pins s σ H Q I) (h' pins s σ H Q I)
/-- what a call of a function value asks: it is the lambda d -/
noncomputable def rLam (d : LamD) (fv : List Str) (sp : List V → Sp) : V → List V → Hp → VK → Prop := fun v vs H Q => ∃ f c clos vals, v = .ref f ∧ H f = some (.ext (LamX f d clos c)) ∧ H c = some (.ext (CodeX c d.qual)) ∧ clos.map (·.1) = fv ∧ (clos.map (·.2)).Nodup ∧ CellsAt H clos vals ∧ sp vals vs H Q fun _ _ _ => False
section
variable {X : Cx} {d : LamD} {fv ps : List Str} {k : Nat} {sp : List V → Sp} {x : Str} {p pos : Pos} {tf : TE} {t : TA} {e : Expr} {es : List Expr}
theorem run_lam {pins : List (Addr × Obj)} {σ : St} {H : Hp} {s : Shared} {Q : VK} {us : List Value} {vs : List V} {v : V} {u : Value} (L : LamOk X.prog X.w X.K X.mg X.base k d fv ps sp) (hr : Room k X.A) (I : Inv X pins σ H s) (rv : RelV v u) (r : Vals vs us) (h : rLam d fv sp v vs H Q) :
    wpAny (model X.prog X.w) X.A (call u us) (EP X pins σ Q) X.xe s := by
  obtain ⟨f, c, clos, vals, rfl, hf, hc, h1, h2, h3, h4⟩ := h
  obtain rfl : u = Value.ref f := rv
  refine wpAny_call (codeAny_mono (L X.A X.stack s H f c clos us vs vals Q _ hr I.env0 hf hc h1 h2 h3 r h4) fun r s' hq => ?_)
  cases r with
  | error e => exact False.elim hq
  | ok fl =>
    cases fl with
    | ret u => exact I.after hq
    | next => exact False.elim hq
    | brk => exact False.elim hq
    | cont => exact False.elim hq
theorem fnAt_of {H : Hp} {s : Shared} {P : Program} {w : World} {f c : Addr} {d : LamD} {clos : List (Str × Addr)} (ok : HOk P w H s.heap) (hf : H f = some (.ext (LamX f d clos c))) : PySem.W.FnAt f s.heap := by
  obtain ⟨⟨pm, ctv, ef⟩, _, _⟩ := ok f _ hf
  exact ⟨_, _, _, _, ef⟩
theorem pe_callL0 (hn : PE X (.Name x p) tf) (L : LamOk X.prog X.w X.K X.mg X.base k d fv ps sp) (hr : Room k X.A) : PE X (.Call (.Name x p) [] [] pos) (fun σ H Q => tf σ H fun v H1 => rLam d fv sp v [] H1 Q) := by
  intro pins s σ H Q I h
  refine wpAny_Call_Name_kw (thn (hn pins s σ H _ I h) fun u s1 ⟨v, H1, I1, rv, q⟩ => ?_)
  obtain ⟨f, c, clos, vals, ef, hf, _⟩ := id q
  subst ef
  obtain rfl : u = Value.ref f := rv
  exact PySem.W.callWith_F0 (fnAt_of I1.hok hf) (run_lam (us := []) L hr I1 (v := .ref f) rfl .nil q)
end
end L2

set_option Elab.async false
set_option linter.all false
set_option maxRecDepth 100000
set_option maxHeartbeats 4000000
namespace L2
open PySem PySem.Spec PyProof.Rows
/-! ### a def whose last statement tells a value, and whose cells live on -/
noncomputable abbrev TR := VK → (V → St → Hp → Prop) → St → Hp → Prop
noncomputable def PR (X : Cx) (sts : List Stmt) (t : TR) : Prop :=
  ∀ (pins : List (Addr × Obj)) (s : Shared) (σ : St) (H : Hp) (R : VK) (Z : V → St → Hp → Prop), Inv X pins σ H s → t R Z σ H →
    wpAny (model X.prog X.w) X.A (execs sts X.env) (fun f s' => ∃ u, f = .ret u ∧ ((∃ v σ' H', Inv X pins σ' H' s' ∧ RelV v u ∧ (R v H' ∨ Z v σ' H')) ∨ ∃ v H', s'.os = X.s₀.os ∧ AllBare s'.gens ∧ Un X.fs X.ex X.H₀ H' X.s₀.heap s'.heap ∧ HOk X.prog X.w H' s'.heap ∧ RelV v u ∧ R v H')) X.xe s
section
variable {X : Cx} {e : Expr} {te : TE} {pos : Pos} {st : Stmt} {rest : List Stmt} {t : TS} {u : TR}
theorem pr_ret (he : PE X e te) : PR X [.Return (some e) pos] (fun _ Z σ H => te σ H fun v H' => Z v σ H') := by
  intro pins s σ H R Z I h
  refine wpAny_execs_cons (wpAny_Return_some (thn (he pins s σ H _ I h) fun v s1 ⟨x, H1, I1, r1, q1⟩ => ?_))
  exact ⟨v, rfl, .inl ⟨x, σ, H1, I1, r1, .inr q1⟩⟩
theorem pr_cons (h1 : PS X st t) (h2 : PR X rest u) : PR X (st :: rest) (fun R Z σ H => t { nx := u R Z, rt := R } σ H) := by
  intro pins s σ H R Z I h
  refine wpAny_execs_cons (thn (h1 pins s σ H { nx := u R Z, rt := R } I h) fun f s1 q => ?_)
  cases f with
  | next =>
    obtain ⟨σ', H', I', q⟩ := q
    exact h2 pins s1 σ' H' R Z I' q
  | ret v =>
    obtain ⟨v', σ', H', I', r, q⟩ := q
    exact ⟨v, rfl, .inl ⟨v', σ', H', I', r, .inl q⟩⟩
  | brk => obtain ⟨_, _, _, q⟩ := q; exact False.elim q
  | cont => obtain ⟨_, _, _, q⟩ := q; exact False.elim q
end
/-- the cells of the names whose values are known -/
noncomputable def CellsOf (cells : List (Str × Addr)) (N : List Str) (σ : St) (H3 : Hp) : Prop := ∀ (i : Nat) (y : Str) (v : V) (c : Addr), N[i]? = some y → σ[i]? = some (some v) → cells.lookup y = some c → H3 c = some (.ext (CellX c v))
theorem cells_mem {y : Str} {c : Addr} : ∀ (names : List (Str × NameKind)) (n : Nat) (acc : List (Str × Addr)), (y, c) ∈ cellsFrom n names acc → (y, c) ∈ acc ∨ (y, NameKind.cell) ∈ names
  | [], n, acc, h => .inl h
  | (x, k) :: r, n, acc, h => by
    unfold cellsFrom at h
    split at h
    · rename_i hk
      rcases cells_mem r (n + 1) ((x, n) :: acc) h with z | z
      · rcases List.mem_cons.mp z with e | z
        · cases e
          rw [eq_of_beq hk]
          exact .inr (List.mem_cons_self ..)
        · exact .inl z
      · exact .inr (List.mem_cons_of_mem _ z)
    · rcases cells_mem r n acc h with z | z
      · exact .inl z
      · exact .inr (List.mem_cons_of_mem _ z)
section
variable {P : Program} {w : World} {K : PySem.W.Frag} {mg : Str → Option Value} {base : Heap}
theorem track {CX : CXT} {N : List Str} {qual : Str} {scope : Scope} {f : Addr} {cd : Value} {A : Around} {outer : List Env} {s s' : Shared} {H H' : Hp} {E : XK} {σ : St} (hN : N.Nodup) (hck : ∀ p ∈ scope.names, p.2 = .cell → scope.names.lookup p.1 = some .cell)
    {pins : List (Addr × Obj)} (J : Inv (cxOf CX P w K mg base N qual scope f cd A outer s H E) pins σ H' s') :
    ∃ H3, Same H' H3 ∧ CellsOf (cellsFrom (s.heap.objs.size + 1) scope.names []) N σ H3 ∧ (∀ b, H' b = none → H3 b ≠ none → ∃ y, (cellsFrom (s.heap.objs.size + 1) scope.names []).lookup y = some b) ∧ Un (frs outer) [] H H3 s.heap s'.heap ∧ HOk P w H3 s'.heap := by
  have hvis : ∀ y c, (cellsFrom (s.heap.objs.size + 1) scope.names []).lookup y = some c → scope.names.lookup y = some .cell := fun y c e => by
    rcases cells_mem _ _ _ (mem_of_look e) with z | z
    · cases z
    · exact hck _ z rfl
  obtain ⟨cells, hcells⟩ : ∃ l, l = cellsFrom (s.heap.objs.size + 1) scope.names [] := ⟨_, rfl⟩
  rw [← hcells] at hvis ⊢
  have henv : (cxOf CX P w K mg base N qual scope f cd A outer s H E).env.cells = cells := hcells.symm
  let G : Addr → V → Prop := fun b v => ∃ (i : Nat) (y : Str), N[i]? = some y ∧ σ[i]? = some (some v) ∧ cells.lookup y = some b
  have G1 : ∀ b v v', G b v → G b v' → v = v' := by
    rintro b v v' ⟨i, y, a1, a2, a3⟩ ⟨j, z, b1, b2, b3⟩
    have : y = z := J.ok.inj y z b (by rw [henv]; exact a3) (by rw [henv]; exact b3)
    subst this
    have : i = j := nodup_ix hN a1 b1
    subst this
    rw [a2] at b2
    cases b2
    rfl
  have G2 : ∀ b v, G b v → H' b = none ∧ s.heap.objs.size ≤ b ∧ CellX b v s'.heap := by
    rintro b v ⟨i, y, a1, a2, a3⟩
    refine ⟨J.freeC y b (by rw [henv]; exact a3), J.ok.cab y b rfl (by rw [henv]; exact a3), ?_⟩
    obtain ⟨m, hn, hl⟩ := J.loc
    obtain ⟨u, r, l⟩ := hl i y v a1 a2 (.inr (.inl (hvis y b a3)))
    rcases l with ⟨k, _⟩ | ⟨k, c, e, o, ho, hd⟩
    · exfalso
      have k : scope.names.lookup y = some .local := k
      rw [hvis y b a3] at k
      cases k
    · have e : cells.lookup y = some c := by rw [← henv]; exact e
      rw [a3] at e
      cases e
      exact ⟨o, u, ho, hd, r⟩
  classical
  let H3 : Hp := fun b => if h : ∃ v, G b v then some (.ext (CellX b (Classical.choose h))) else H' b
  have g1 : ∀ b v, G b v → H3 b = some (.ext (CellX b v)) := fun b v h => by
    have hx : ∃ v, G b v := ⟨v, h⟩
    show (if h : ∃ v, G b v then some (.ext (CellX b (Classical.choose h))) else H' b) = _
    rw [dif_pos hx, G1 b _ v (Classical.choose_spec hx) h]
  have g2 : ∀ b, (¬ ∃ v, G b v) → H3 b = H' b := fun b h => dif_neg h
  have sm : Same H' H3 := fun b o e => by
    rw [g2 b fun ⟨v, z⟩ => by rw [(G2 b v z).1] at e; cases e]
    exact e
  have jb : Un (frs outer) [] H H' s.heap s'.heap := J.base
  refine ⟨H3, sm, fun i y v c a1 a2 a3 => g1 c v ⟨i, y, a1, a2, a3⟩, (fun b n1 n2 => ?_), ⟨jb.keep, jb.slot, fun b o e n hx => ?_, jb.there, fun b xs e => sm _ _ (jb.tups b xs e), fun b o u e => sm _ _ (jb.frzs b o u e), fun b ps e => ?_⟩, fun b o e => ?_⟩
  · by_cases h : ∃ v, G b v
    · obtain ⟨v, i, y, _, _, a3⟩ := h
      exact ⟨y, a3⟩
    · rw [g2 b h] at n2
      exact absurd n1 n2
  · rw [g2 b fun ⟨v, z⟩ => absurd (Nat.lt_of_lt_of_le (Heap.lt_size e) (G2 b v z).2.1) (Nat.lt_irrefl _)]
    exact jb.free b o e n hx
  · obtain ⟨more, z⟩ := jb.tbls b ps e
    exact ⟨more, sm _ _ z⟩
  · by_cases h : ∃ v, G b v
    · obtain ⟨v, h⟩ := h
      rw [g1 b v h] at e
      cases e
      exact cellX_ok (G2 b v h).2.2
    · rw [g2 b h] at e
      exact (J.hok b o e).stay (fun b' u' _ q => q) (fun b' q => sm _ _ q) fun b' xs q => sm _ _ q
/-- THE RULE for a def that makes lambdas: c its code, in which the table P stands -/
theorem Fun.okL {x qual : Str} {st : Stmt} {f c : Addr} {fd : FuncData} {N ps : List Str} {k : Nat} {sp : Sp} (F : Fun K x qual st f fd) (hc : fd.code = .ref c) (S : FnScope N ps (defScope st)) (hck : ∀ p ∈ (defScope st).names, p.2 = .cell → (defScope st).names.lookup p.1 = some .cell)
    (len : ∀ vs H Q E, sp vs H Q E → vs.length = ps.length)
    (hbody : ∀ (A : Around) (outer : List Env) (s : Shared) (H : Hp) (vs : List V) (Q : VK) (E : XK), Room k (A.deeper (envOfC qual (defScope st) s.heap.objs.size f (.ref c))) → sp vs H Q E →
      ∃ t, PR (cxOf CX0 P w K mg base N qual (defScope st) f (.ref c) A outer s H E).nox (defBody st) t ∧ t Q (fun v σ H' => ∀ H3, Same H' H3 → CellsOf (cellsFrom (s.heap.objs.size + 1) (defScope st).names []) N σ H3 → Q v H3) (start N vs) H) : FnOk P w K mg base CX0 (k + 1) f fd ps sp := by
  obtain ⟨oc, od, kV, doc, pm, an, cdv, ct, osl, rfl, lk, hcd⟩ := F.ex
  obtain rfl : cdv = .ref c := hc
  refine ⟨len, fun A outer s H args us vs Q E hr e0 hb r hsp => ?_⟩
  have hl := len _ _ _ _ hsp
  have KX : K.In s.heap := e0.mod.kin.keeps fun b o e => (e0.bs b o e).1
  have lim : s.heap.NoLimit := e0.mod.nolimit.keeps fun b o e => (e0.bs b o e).1
  have hkind : ∀ y ∈ ps.zip us, (defScope st).names.lookup y.1 = some .local ∨ ((defScope st).names.lookup y.1 = some .cell ∧ ((cellsFrom (s.heap.objs.size + 1) (defScope st).names []).lookup y.1).isSome = true) := fun ⟨n, v⟩ hy => by
    rcases S.par n (List.of_mem_zip hy).1 with q | q
    · exact .inl q
    · exact .inr ⟨q, PySem.W.cellsFrom_some _ _ _ (.inl q)⟩
  refine codeAny_call_function hr.depth (KX _ _ lk) rfl S.co S.gen rfl (PySem.W.codeRec_of KX hcd) (hb _ _ _ _ ?_)
  refine wpAny_newFunctionEnv_cells S.kind hkind fun env he s1 x => ?_
  subst he
  refine ⟨lim.keeps x.toInCall.keep, codeAny_func ?_⟩
  obtain ⟨t, ht, hq⟩ := hbody A outer s H vs Q E (hr.deeper _) hsp
  have I : Inv (cxOf CX0 P w K mg base N qual (defScope st) f (.ref c) A outer s H E) [] (start N vs) H s1 := inv_start S hr.hd e0 hl r x
  refine wpAny_mono (ht [] s1 (start N vs) H Q _ (I.wish _) hq) (fun fl s' hs => ?_) fun e s' hs => False.elim hs
  obtain ⟨u, rfl, ⟨v, σ', H', J, rv, q⟩ | ⟨v, H', g1, g2, g3, g4, rv, q⟩⟩ := hs
  · have J := J.unwish
    rcases q with q | q
    · exact ⟨v, H', J.os, J.bare, J.base, J.hok, rv, q⟩
    · obtain ⟨H3, h1, h2, _, h3, h4⟩ := track S.nd hck J
      exact ⟨v, H3, J.os, J.bare, h3, h4, rv, q H3 h1 h2⟩
  · exact ⟨v, H', g1, g2, g3, g4, rv, q⟩
end
end L2

set_option Elab.async false
set_option linter.all false
set_option maxRecDepth 100000
set_option maxHeartbeats 4000000
namespace L2
open PySem PySem.Spec PyProof.Rows
/-- THE HEAD of a law that comes to lambdas: the tables at ts are empty and tracked -/
theorem law_callT {P : Program} {w : World} {K : PySem.W.Frag} {mg mb : Str → Option Value} {CX : CXT} {k : Nat} {fa a : Addr} {fd : FuncData} {x : Str} {sp : Sp} {s₁ : Shared} {vs : List Value} {ns : List Int} {ts : List Addr}
    (KX : K.In s₁.heap) (hns : s₁.heap.Ns mainGlobals mg) (hb : s₁.heap.Ns builtinsNs mb) (hbb : ∀ x : Str, x ≠ "__name__" → mb x = bootBuiltins x) (hlim : s₁.heap.NoLimit) (hg : s₁.gens = #[])
    (ha : s₁.heap.get? a = some { cls := .type "list", data := .seq vs.toArray }) (hi : IntsAre vs ns) (hl : ns.length ≤ sizeLine) (hr : Room k callerA) (hbm : Bm mg s₁.heap)
    (htab : ∀ P ∈ ts, s₁.heap.get? P = some (PySem.W.tabObj #[])) (htc : ∀ P ∈ ts, ∃ c, PySem.W.codeHdIn K c P = true) (htK : ∀ P ∈ ts, K.lookup P = none)
    (F : ∀ base : Heap, K.In base → base.Ns mainGlobals mg → Bm mg base → FnOk P w K mg base CX k fa fd [x] sp) (hbind : ∀ (s : Shared) (u : Value), BindsTo s fd ⟨[u], []⟩ [(x, u)])
    (hsp : ∀ H : Hp, (∀ P ∈ ts, H P = some (.tbl #[])) → SqL K H a (ns.map V.int) → sp [.ref a] H (fun v _ => v = .bl true) fun _ _ _ => False)
    (hCX : ∀ H e s', CX [] H s₁ (fun _ _ _ => False) e s' → False) :
    codeAny (model P w) callerA (.call (.ref fa) ⟨[.ref a], []⟩) (fun r s' => r = .ok (.ret (.bool true)) ∧ OldK s₁.heap s'.heap ∧ s'.os = s₁.os ∧ AllBare s'.gens) s₁ := by
  have rv := vals_ints hi
  have lenV := hi.length
  have nat : a ∉ ts := fun z => by have := htab a z; rw [ha] at this; cases this
  have core : ∀ H : Hp, (∀ P ∈ ts, H P = some (.tbl #[])) → SqL K H a (ns.map V.int) → HOk P w H s₁.heap → (∀ b u, H b = some u → (b = a ∧ ∃ o xs, u = .frz o (.lst xs)) ∨ (b ∈ ts ∧ u = .tbl #[])) → (H a ≠ none → K.lookup a = none) →
      codeAny (model P w) callerA (.call (.ref fa) ⟨[.ref a], []⟩) (fun r s' => r = .ok (.ret (.bool true)) ∧ OldK s₁.heap s'.heap ∧ s'.os = s₁.os ∧ AllBare s'.gens) s₁ := by
    intro H hT hS hok hA hK
    have base_of : ∀ {b : Addr} {o : Obj}, s₁.heap.get? b = some o → H b = none → (hidT s₁.heap H).get? b = some o := fun e n => hidT_get e n
    have noA : ∀ {b : Addr} {o : Obj}, s₁.heap.get? b = some o → o.cls ≠ .none → (∀ its n, o.data ≠ .seq its n) → H b = none := fun {b o} e d1 d2 => by
      cases q : H b with
      | none => rfl
      | some u =>
        rcases hA b u q with ⟨rfl, _⟩ | ⟨hb, _⟩
        · rw [ha] at e; cases e; exact (d2 _ _ rfl).elim
        · rw [htab b hb] at e; cases e; exact (d1 rfl).elim
    have noD : ∀ {b : Addr} {o : Obj} {es : Array DictEntry} {ep : Nat}, s₁.heap.get? b = some o → o.data = .dict es ep → H b = none := fun {b o es ep} e d => by
      cases q : H b with
      | none => rfl
      | some u =>
        rcases hA b u q with ⟨rfl, _⟩ | ⟨hb, _⟩
        · rw [ha] at e; cases e
          have d' : Data.seq vs.toArray _ = Data.dict es ep := d
          cases d'
        · rw [htab b hb] at e; cases e; cases d
    have nsK : ∀ {b : Addr} {m : Str → Option Value}, s₁.heap.Ns b m → (hidT s₁.heap H).Ns b m := fun {b m} ⟨o, es, ep, e, d, r⟩ => ⟨o, es, ep, base_of e (noD e d), d, r⟩
    have hKb : K.In (hidT s₁.heap H) := fun b o e => base_of (KX b o e) (by
      cases q : H b with
      | none => rfl
      | some u =>
        rcases hA b u q with ⟨rfl, _⟩ | ⟨hb, _⟩
        · rw [hK (by rw [q]; simp)] at e; cases e
        · rw [htK b hb] at e; cases e)
    have hM : Mod K mg (hidT s₁.heap H) := ⟨hKb, nsK hns, ⟨mb, nsK hb, hbb⟩, let ⟨mc, h1, h2⟩ := hlim; ⟨mc, nsK h1, h2⟩⟩
    have hB : Bm mg (hidT s₁.heap H) := by
      obtain ⟨bm, ob, b1, b2, b3, b4, b5⟩ := hbm
      exact ⟨bm, ob, b1, base_of b2 (noA b2 (by rw [b3]; simp) (fun its n => by rw [b5]; intro z; cases z)), b3, b4, b5⟩
    have e0 : Env0 P w K mg (hidT s₁.heap H) callerA [] s₁ H := ⟨rfl, hM, fun b o e => of_hidT e, Nat.le_of_eq (hidT_size _ _), trivial, fun b hb => absurd (show b ∈ ([] : List Addr) from hb) (by simp), hok, .of_eq hg⟩
    refine codeAny_mono ((F _ hKb (nsK hns) hB).run callerA [] s₁ H ⟨[.ref a], []⟩ [.ref a] [.ref a] _ _ hr e0 (hbind s₁ (.ref a)) (.cons rfl .nil) (hsp H hT hS)) fun r s' h => ?_
    cases r with
    | error e => exact (hCX H e s' h).elim
    | ok fl =>
      cases fl with
      | next => exact False.elim h
      | brk => exact False.elim h
      | cont => exact False.elim h
      | ret u =>
        obtain ⟨v, H', os, bare, un, hok', r', q⟩ := h
        have q' : v = .bl true := q
        subst q'
        obtain rfl : u = Value.bool true := r'
        refine ⟨rfl, ⟨fun b o e => ?_, fun b o e => un.there b o e (by simp)⟩, os, bare⟩
        cases q : H b with
        | none => exact .inl (un.keep b o e q (by intro z; exact absurd (show b ∈ ([] : List Addr) from z) (by simp)) (by simp))
        | some u =>
          rcases hA b u q with ⟨_, ob, xs, rfl⟩ | ⟨hb, rfl⟩
          · have z2 := un.frzs b ob _ q
            obtain ⟨e1, _⟩ := hok b _ q
            obtain ⟨e2, _⟩ := hok' b _ z2
            rw [e] at e1; cases e1
            exact .inl e2
          · obtain ⟨c, hc⟩ := htc b hb
            have C := PySem.W.codeHd_of_K KX hc
            obtain ⟨more, z⟩ := un.tbls b _ q
            have z2 : s'.heap.get? b = some (PySem.W.tabObj (#[] ++ more)) := hok' b _ z
            rw [htab b hb] at e
            cases e
            exact .inr (.inl ⟨(C.tab (htab b hb)).isCodeTable, rfl, #[], more, rfl, z2⟩)
  let T : Hp := fun b => if b ∈ ts then some (.tbl #[]) else none
  cases hk : K.lookup a with
  | some o =>
    have e := KX a o hk
    rw [ha] at e
    cases e
    refine core T (fun P hP => if_pos hP) (.inr ⟨_, vs.toArray, _, hk, rfl, rfl, rfl, by rw [List.size_toArray, lenV]; exact hl, by simpa using rv⟩) (fun b u z => ?_) (fun b u z => ?_) fun z => absurd (if_neg nat) z
    · by_cases hb : b ∈ ts
      · have z' := (if_pos hb).symm.trans z
        cases z'
        exact htab b hb
      · have z' := (if_neg hb).symm.trans z
        cases z'
    · by_cases hb : b ∈ ts
      · have z' := (if_pos hb).symm.trans z
        cases z'
        exact .inr ⟨hb, rfl⟩
      · have z' := (if_neg hb).symm.trans z
        cases z'
  | none =>
    refine core (fun b => if b = a then some (.frz { cls := .type "list", data := .seq vs.toArray } (.lst (ns.map V.int))) else T b) (fun P hP => ?_) (.inl (.inr ⟨{ cls := .type "list", data := .seq vs.toArray }, if_pos rfl⟩)) (fun b u z => ?_) (fun b u z => ?_) fun _ => hk
    · have hne : P ≠ a := fun z => nat (by rw [← z]; exact hP)
      exact (if_neg hne).trans (if_pos hP)
    · by_cases hb : b = a
      · have z' := (if_pos hb).symm.trans z
        cases z'
        subst hb
        exact ⟨ha, by rw [List.length_map]; exact hl, vs, _, rv, ha⟩
      · have z' := (if_neg hb).symm.trans z
        by_cases hb : b ∈ ts
        · have z' := (if_pos hb).symm.trans z'
          cases z'
          exact htab b hb
        · have z' := (if_neg hb).symm.trans z'
          cases z'
    · by_cases hb : b = a
      · have z' := (if_pos hb).symm.trans z
        cases z'
        exact .inl ⟨hb, _, _, rfl⟩
      · have z' := (if_neg hb).symm.trans z
        by_cases hb : b ∈ ts
        · have z' := (if_pos hb).symm.trans z'
          cases z'
          exact .inr ⟨hb, rfl⟩
        · have z' := (if_neg hb).symm.trans z'
          cases z'
theorem walk_ofT {l : PySem.W.OpenLaw} {n k : Nat} {q : Program} {loose : List Str} {XP : (Str → Option Value) → Heap → Prop} {YP : World → Heap → Prop} {d : DefRec} {K : Params → PySem.W.Frag} {CX : CXT} {sp : PySem.W.Frag → List Addr → Sp} {x : Str} {ts : List Addr}
    (hn : l.most = some n) (hn2 : n ≤ sizeLine) (hdf : d.params.defaults = []) (hr : Room k callerA)
    (hY : ∀ (w : World) (h : Heap), YP w h → (K w.params).In h ∧ ∀ P ∈ ts, h.get? P = some (PySem.W.tabObj #[]))
    (F : ∀ (ts' : List Addr), ts' = ts → ∀ (w : World) (mg : Str → Option Value) (fa : Addr) (h : Heap), (K w.params).In h → h.Ns mainGlobals mg → mg d.name = some (.ref fa) →
      ∃ fd : FuncData, (∀ (s : Shared) (u : Value), BindsTo s fd ⟨[u], []⟩ [(x, u)]) ∧ (∀ P ∈ ts, ∃ c, PySem.W.codeHdIn (K w.params) c P = true) ∧ (∀ P ∈ ts, (K w.params).lookup P = none) ∧
        ∀ base : Heap, (K w.params).In base → base.Ns mainGlobals mg → Bm mg base → FnOk l.prog w (K w.params) mg base CX k fa fd [x] (sp (K w.params) ts))
    (hsp : ∀ (K : PySem.W.Frag) (H : Hp) (a : Addr) (ns : List Int), ns.length ≤ n → (∀ P ∈ ts, H P = some (.tbl #[])) → SqL K H a (ns.map V.int) → sp K ts [.ref a] H (fun v _ => v = .bl true) fun _ _ _ => False)
    (hCX : ∀ (H : Hp) (s : Shared) (e : Value) (s' : Shared), CX [] H s (fun _ _ _ => False) e s' → False) :
    PySem.W.WalkO q loose XP YP l.row.toRowW d [] (fun f vs => PySem.call f vs) := by
  refine Att.attach_call hn hdf fun w s₀ s₁ mg mb fa o pm cd doc a vs ns G Y ho hd hcd hmg hobj hints hlen hg => ?_
  obtain ⟨KX, hT⟩ := hY w _ Y
  obtain ⟨fd, hb, htc, htK, hF⟩ := F ts rfl w mg fa _ KX G.T.g hmg
  have hbm : Bm mg s₁.heap := let ⟨bm, ob, b1, _, b3, b4, b5, b6⟩ := G.T.bmain; ⟨bm, ob, b1, b3, b4, b5, b6⟩
  exact law_callT KX G.T.g G.T.b G.T.builtins G.T.nolimit hg hobj hints (Nat.le_trans hlen hn2) hr hbm hT htc htK hF hb (fun H hO hS => hsp (K w.params) H a ns hlen hO hS) fun H e s' => hCX H s₁ e s'
end L2

set_option linter.all false
namespace FrM
noncomputable def lowP (t b : Int) : Int × Int := (t / (Int.gcd t b : Int), b / (Int.gcd t b : Int))
termination_by l.length
decreasing_by
  have := stay_le z l w
  omega
end FrM

set_option Elab.async false
set_option linter.all false
set_option maxRecDepth 100000
set_option maxHeartbeats 4000000
namespace L2
open PySem PySem.Spec PyProof.Rows
/-! ### tuples of ints that the text holds -/
noncomputable def intsIn : List V → List Value → Bool
  | [], [] => true
  | .int i :: xs, .int j _ :: us => decide (i = j) && intsIn xs us
  | _, _ => false
theorem intsIn_vals : ∀ {xs : List V} {us : List Value}, intsIn xs us = true → Vals xs us
  | [], [], _ => .nil
  | .int i :: xs, .int j t :: us, h => by
    rw [intsIn, Bool.and_eq_true] at h
    have e := of_decide_eq_true h.1
    exact .cons ⟨t, by rw [e]⟩ (intsIn_vals h.2)
noncomputable def tupIn (K : PySem.W.Frag) (a : Addr) (xs : List V) : Bool :=
  match K.lookup a with
  | some o =>
    (match o.cls with
    | .type t => t == "tuple"
    | _ => false) &&
    (match o.data with
    | .seq its _ => decide (its.size ≤ 1000) && intsIn xs its.toList
    | _ => false)
  | none => false
theorem tup_in {K : PySem.W.Frag} {H : Hp} {a : Addr} {xs : List V} (h : tupIn K a xs = true) : SqT K H a xs := by
  unfold tupIn at h
  split at h
  · rename_i o e
    rw [Bool.and_eq_true] at h
    obtain ⟨h1, h2⟩ := h
    split at h1
    · rename_i t ec
      split at h2
      · rename_i its n ed
        rw [Bool.and_eq_true] at h2
        refine .inr ⟨o, its, n, e, by rw [ec, beq_iff_eq.mp h1], ed, ?_, intsIn_vals h2.2⟩
        have := of_decide_eq_true h2.1
        have : sizeLine = 16777216 := sizeLine_eq
        omega
      · cases h2
    · cases h1
  · cases h
/-! ### isinstance of these, too -/
section
variable {X : Cx}
/-! ### sum of ints -/
theorem bt_sum : bootBuiltins "sum" = some (.builtin "sum") := by decide +kernel
theorem ints_are : ∀ {ns : List Int} {us : List Value}, Vals (ns.map V.int) us → IntsAre us ns
  | [], _, .nil => .nil
  | n :: ns, _, .cons r t => by
    obtain ⟨t', rfl⟩ := r
    exact .cons _ _ (ints_are t)
theorem call_sumI (hc : X.calm = true) : CallR X (.builtin "sum") (fun xs H Q => ∃ (p : Addr) (ns : List Int), xs = [.ref p] ∧ SqL X.K H p (ns.map V.int) ∧ Q (.int ns.sum) H) := by
  intro pins s σ H xs us Q I r h
  obtain ⟨p, ns, rfl, hq, q⟩ := h
  obtain ⟨u, rfl, rx⟩ := vals1 r
  cases rx
  obtain ⟨its, rv, pl, hz⟩ := I.list hq
  have hi := ints_are rv
  obtain ⟨xs, ex⟩ := hi.allInts.items
  have e2 : (numsOf its) = ns := hi.numsOf
  refine sum_intListG (I.ok.hd hc) (xs := xs) (by rw [← ex]; exact pl.isList) fun h' tk t' hk => ?_
  have e3 : preSum (numAt xs) xs.size = ns.sum := by
    rw [preSum_eq, List.take_of_length_le (by simp), ← e2, ← nums_intItems, ← ex]
  rw [e3]
  exact ⟨.int ns.sum, H, I.kept hk, ⟨_, rfl⟩, q⟩
/-! ### list(range(n)) -/
theorem call_lstRngN (hc : X.calm = true) : CallR X (.type "list") (fun xs H Q => ∃ (p : Addr) (n : Nat), xs = [.ref p] ∧ n ≤ 1000 ∧ H p = some (.rng 0 (n : Int)) ∧ ∀ l, H l = none → Q (.ref l) (upd H l (.lst ((List.range n).map fun (i : Nat) => V.int (i : Int))))) := by
  intro pins s σ H xs us Q I r h
  obtain ⟨p, n, rfl, hn, e, q⟩ := h
  obtain ⟨u, rfl, ru⟩ := vals1 r
  cases ru
  obtain ⟨t, t2, t3, ho⟩ := (show ObjOk X.prog X.w H s.heap p (.rng 0 (n : Int)) from I.hok p _ e)
  refine call_list_range (n := n) (I.ok.hd hc) ho (small_one (by decide) (by decide) (by omega) (by omega)) (by rw [rangeSize_one]; split <;> omega) (by omega) fun h' tk acc c hk hS hI => ?_
  refine ⟨.ref s.heap.objs.size, _, I.laid (t' := tk) (o := .lst ((List.range n).map fun (i : Nat) => V.int (i : Int))) hk (Nat.le_refl _) ?_, rfl, q _ (I.hok.fresh (Nat.le_refl _))⟩
  obtain ⟨z1, z2⟩ := hI
  refine ⟨by rw [List.length_map, List.length_range, sizeLine_eq]; omega, acc.toList, c, vals_at (by rw [List.length_map, List.length_range]; simpa using z1.symm) fun i x u hx hu => ?_, hS⟩
  rw [List.getElem?_map] at hx
  have hi : i < n := by
    by_cases hi : i < n
    · exact hi
    · rw [List.getElem?_eq_none (by rw [List.length_range]; omega)] at hx
      cases hx
  rw [List.getElem?_range hi] at hx
  cases hx
  obtain ⟨tt, hv⟩ := z2 i u (by simpa using hu)
  refine (show ∃ t', u = Value.int (i : Int) t' from ⟨tt, ?_⟩)
  rw [hv]
  congr 1
  omega
/-! ### for k in range(a, b, c), c from 1 on -/
end
end L2

set_option Elab.async false
set_option linter.all false
set_option maxRecDepth 100000
set_option maxHeartbeats 4000000
namespace L2
open PySem PySem.Spec PyProof.Rows
/-! ### a lambda's place in the text -/
noncomputable def dE : Expr := .Name "" ⟨0, 0, 0, 0⟩
noncomputable def stAt (st : Stmt) (i : Nat) : Stmt := (defBody st).getD i (.Pass ⟨0, 0, 0, 0⟩)
noncomputable def retE : Stmt → Expr
  | .Return (some e) _ => e
  | _ => dE
noncomputable def argE : Expr → Nat → Expr
  | .Call _ es _ _, i => es.getD i dE
  | _, _ => dE
noncomputable def lstE : Expr → Nat → Expr
  | .List es _, i => es.getD i dE
  | _, _ => dE
noncomputable def tupE : Expr → Nat → Expr
  | .Tuple es _ _, i => es.getD i dE
  | _, _ => dE
noncomputable def lamOf (q : Str) : Expr → LamD
  | .Lambda p b s _ => ⟨q, p, b, s⟩
  | _ => ⟨q, default, dE, default⟩
noncomputable def lamP : Expr → Pos
  | .Lambda _ _ _ p => p
  | _ => ⟨0, 0, 0, 0⟩
/-! ### sorted ints -/
theorem bt_sorted : bootBuiltins "sorted" = some (.builtin "sorted") := by decide +kernel
theorem vals_of_ints : ∀ {us : List Value} {ns : List Int}, IntsAre us ns → Vals (ns.map V.int) us
  | _, _, .nil => .nil
  | _, _, .cons n t h => .cons ⟨_, rfl⟩ (vals_of_ints h)
theorem call_sortedI {X : Cx} : CallR X (.builtin "sorted") (fun xs H Q => ∃ (p : Addr) (ns : List Int), xs = [.ref p] ∧ SqL X.K H p (ns.map V.int) ∧ ns.length < 64 ∧ ∀ q (ns' : List Int), ns'.Perm ns → ns'.Pairwise (· ≤ ·) → H q = none → Q (.ref q) (upd H q (.lst (ns'.map V.int)))) := by
  intro pins s σ H xs us Q I r h
  obtain ⟨p, ns, rfl, hq, hl, q⟩ := h
  obtain ⟨u, rfl, rx⟩ := vals1 r
  cases rx
  obtain ⟨its, rv, pl, hz⟩ := I.list hq
  have hi := ints_are rv
  have hlen : its.length = ns.length := by have := rv.length; rw [List.length_map] at this; exact this.symm
  refine sorted_ints pl.isList hi (by omega) fun out ns' a1 a2 a3 => ?_
  obtain ⟨e, he⟩ := sortedAll_at s.heap its out
  have hn : H (s.heap.objs.size + 1) = none := I.hok.fresh (Nat.le_succ _)
  have small : sizeLine = 16777216 := sizeLine_eq
  refine ⟨.ref (s.heap.objs.size + 1), _, I.laid (a := s.heap.objs.size + 1) (o := .lst (ns'.map V.int)) (t' := s.toks) (fun b u z => sortedAll_old z) (Nat.le_succ _) ⟨?_, out.toList, e, vals_of_ints a1, ?_⟩, rfl, q _ ns' a2 a3 hn⟩
  · rw [List.length_map, a2.length_eq]; omega
  · rw [he, Array.toArray_toList]
end L2

set_option Elab.async false
set_option linter.all false
set_option maxRecDepth 100000
set_option maxHeartbeats 4000000
namespace L2
open PySem PySem.Spec PyProof.Rows
/-! ### try, with any body of ifs and calls, and several clauses -/
section
variable {X : Cx} {C : Addr} {cn en : Str} {ie : Nat} {b₀ : Stmt} {suite : List Stmt} {cp hp : Pos} {ts : TS} {rest : List ExceptHandler} {tr : TH}
end
section
variable {X : Cx}
end
section
variable {X : Cx} {k : Nat} {f C : Addr} {fd : FuncData} {ps : List Str} {sp : Sp} {dvs : List V} {ds : List Value} {x m : Str} {p pos apos : Pos} {e o : Expr} {es : List Expr} {ta : TE} {t : TA}
end
end L2

set_option Elab.async false
set_option linter.all false
namespace L2
open PySem PySem.Spec PyProof.Rows
section
variable {X : Cx} {e : Expr} {es : List Expr} {pos : Pos}
theorem o_eqDK {K : PySem.W.Frag} (h : X.K = K) (hu : X.A.units + 64 < cLine) : OpR X (compareOp .Eq) (rEqD K false) := h ▸ o_eqD hu
end
end L2

set_option linter.all false
namespace FrM
/-! duels: the reckoning -/
noncomputable def Fr (B : Int) (f : Int × Int) : Prop := 0 ≤ f.1 ∧ f.1 ≤ f.2 ∧ 0 < f.2 ∧ f.2 ∣ B
noncomputable def uns (f : Int × Int) : Bool := decide (0 < f.1 ∧ f.1 < f.2)
noncomputable def lcmD (a b : Int) : Int := a / (Int.gcd a b : Int) * b
theorem lcmD_nat (x y : Nat) : lcmD (x : Int) (y : Int) = (Nat.lcm x y : Nat) := by
  unfold lcmD
  rw [Int.gcd_natCast_natCast, ← Int.natCast_ediv, ← Int.natCast_mul, Nat.div_mul_right_comm (Nat.gcd_dvd_left x y)]
  rfl
theorem lcmD_mul {a b : Int} (ha : 0 < a) (hb : 0 < b) : a * b / (Int.gcd a b : Int) = lcmD a b := by
  obtain ⟨x, rfl⟩ := Int.eq_ofNat_of_zero_le (Int.le_of_lt ha)
  obtain ⟨y, rfl⟩ := Int.eq_ofNat_of_zero_le (Int.le_of_lt hb)
  rw [lcmD_nat, Int.gcd_natCast_natCast, ← Int.natCast_mul, ← Int.natCast_ediv]
  rfl
theorem lcmD_ok {a b B : Int} (ha : 0 < a) (hb : 0 < b) (hB : 0 < B) (da : a ∣ B) (db : b ∣ B) : 0 < lcmD a b ∧ a ∣ lcmD a b ∧ b ∣ lcmD a b ∧ lcmD a b ∣ B := by
  obtain ⟨x, rfl⟩ := Int.eq_ofNat_of_zero_le (Int.le_of_lt ha)
  obtain ⟨y, rfl⟩ := Int.eq_ofNat_of_zero_le (Int.le_of_lt hb)
  obtain ⟨z, rfl⟩ := Int.eq_ofNat_of_zero_le (Int.le_of_lt hB)
  rw [lcmD_nat]
  rw [Int.ofNat_dvd, ] at da db
  refine ⟨?_, Int.ofNat_dvd.mpr (Nat.dvd_lcm_left x y), Int.ofNat_dvd.mpr (Nat.dvd_lcm_right x y), Int.ofNat_dvd.mpr (Nat.lcm_dvd da db)⟩
  exact Int.natCast_pos.mpr (Nat.lcm_pos (Int.natCast_pos.mp ha) (Int.natCast_pos.mp hb))
noncomputable def duA (c e : Int × Int) : Int := c.1 * (lcmD c.2 e.2 / c.2)
noncomputable def duB (c e : Int × Int) : Int := e.1 * (lcmD c.2 e.2 / e.2)
noncomputable def duL (c e : Int × Int) : Bool := decide (duA c e + duB c e < lcmD c.2 e.2)
noncomputable def du1 (c e : Int × Int) : Int := if duL c e = true then duA c e else lcmD c.2 e.2 - duB c e
noncomputable def du2 (c e : Int × Int) : Int := if duL c e = true then duB c e else lcmD c.2 e.2 - duA c e
noncomputable def duR (c e : Int × Int) : Int × Int := if duL c e = true then lowP (duA c e + duB c e) (lcmD c.2 e.2) else lowP (duA c e + duB c e - lcmD c.2 e.2) (lcmD c.2 e.2)
noncomputable def duE (c e : Int × Int) : Int × Int := if duL c e = true then (0, 1) else (1, 1)
theorem lowP_fr {T d B : Int} (hd : 0 < d) (h0 : 0 ≤ T) (h1 : T < d) (db : d ∣ B) : Fr B (lowP T d) ∧ (lowP T d).1 < (lowP T d).2 := by
  have hg : (0 : Int) < (Int.gcd T d : Int) := (low T d hd).1
  obtain ⟨t, et⟩ := Int.gcd_dvd_left T d
  obtain ⟨b, eb⟩ := Int.gcd_dvd_right T d
  have e1 : T / (Int.gcd T d : Int) = t := Int.ediv_eq_of_eq_mul_right (by omega) et
  have e2 : d / (Int.gcd T d : Int) = b := Int.ediv_eq_of_eq_mul_right (by omega) eb
  unfold Fr lowP
  simp only [e1, e2]
  have ht : 0 ≤ t := by
    refine Int.not_lt.mp fun h => ?_
    have := Int.mul_neg_of_pos_of_neg hg h
    rw [← et] at this
    omega
  have hlt : t < b := by
    refine Int.not_le.mp fun h => ?_
    have := Int.mul_le_mul_of_nonneg_left h (Int.le_of_lt hg)
    rw [← et, ← eb] at this
    omega
  exact ⟨⟨ht, by omega, by omega, Int.dvd_trans ⟨_, by rw [Int.mul_comm]; exact eb⟩ db⟩, hlt⟩
theorem du_pos {c e : Int × Int} {B : Int} (hB : 0 < B) (hc : Fr B c) (he : Fr B e) (uc : uns c = true) (ue : uns e = true) :
    0 < lcmD c.2 e.2 ∧ lcmD c.2 e.2 ∣ B ∧ lcmD c.2 e.2 ≤ B ∧ 0 < duA c e ∧ duA c e < lcmD c.2 e.2 ∧ 0 < duB c e ∧ duB c e < lcmD c.2 e.2 := by
  obtain ⟨d0, ⟨k1, e1⟩, ⟨k2, e2⟩, d3⟩ := lcmD_ok hc.2.2.1 he.2.2.1 hB hc.2.2.2 he.2.2.2
  have c1 : 0 < c.1 ∧ c.1 < c.2 := of_decide_eq_true uc
  have c2 : 0 < e.1 ∧ e.1 < e.2 := of_decide_eq_true ue
  have q1 : lcmD c.2 e.2 / c.2 = k1 := Int.ediv_eq_of_eq_mul_right (by omega) e1
  have q2 : lcmD c.2 e.2 / e.2 = k2 := Int.ediv_eq_of_eq_mul_right (by omega) e2
  have k1p : 0 < k1 := by
    refine Int.not_le.mp fun h => ?_
    have := Int.mul_nonpos_of_nonneg_of_nonpos (a := c.2) (b := k1) (by omega) h
    omega
  have k2p : 0 < k2 := by
    refine Int.not_le.mp fun h => ?_
    have := Int.mul_nonpos_of_nonneg_of_nonpos (a := e.2) (b := k2) (by omega) h
    omega
  unfold duA duB
  rw [q1, q2]
  refine ⟨d0, d3, Int.le_of_dvd hB d3, Int.mul_pos c1.1 k1p, ?_, Int.mul_pos c2.1 k2p, ?_⟩
  · have := Int.mul_lt_mul_of_pos_right c1.2 k1p
    omega
  · have := Int.mul_lt_mul_of_pos_right c2.2 k2p
    omega
theorem du_ok {c e : Int × Int} {B : Int} (hB : 0 < B) (hc : Fr B c) (he : Fr B e) (uc : uns c = true) (ue : uns e = true) :
    0 < du1 c e ∧ 0 < du2 c e ∧ du1 c e + du2 c e ≤ B ∧ Fr B (duR c e) ∧ (duR c e).1 < (duR c e).2 ∧ Fr B (duE c e) ∧ uns (duE c e) = false := by
  obtain ⟨d0, d1, d2, a0, a1, b0, b1⟩ := du_pos hB hc he uc ue
  have o1 : Fr B (0, 1) := ⟨by decide, by decide, by decide, Int.one_dvd B⟩
  have o2 : Fr B (1, 1) := ⟨by decide, by decide, by decide, Int.one_dvd B⟩
  unfold du1 du2 duR duE
  by_cases h : duL c e = true
  · have h' : duA c e + duB c e < lcmD c.2 e.2 := of_decide_eq_true h
    simp only [if_pos h]
    have := lowP_fr d0 (T := duA c e + duB c e) (by omega) h' d1
    exact ⟨a0, b0, by omega, this.1, this.2, o1, rfl⟩
  · have h' : ¬ duA c e + duB c e < lcmD c.2 e.2 := fun z => h (decide_eq_true z)
    simp only [if_neg h]
    have := lowP_fr d0 (T := duA c e + duB c e - lcmD c.2 e.2) (by omega) (by omega) d1
    exact ⟨by omega, by omega, by omega, this.1, this.2, o2, rfl⟩
/-! the states -/
noncomputable abbrev Tl := List (Int × (Int × Int))
noncomputable def whl (f : Int × Int) : Bool := decide (f = (1, 1))
noncomputable def sett (tl : Tl) (tk : List Int) : Tl × List Int := (tl.filter (fun x => uns x.2), tk ++ (tl.filter fun x => whl x.2).map (·.1))
noncomputable def par (b : Bool) (c e : Int × Int) : (Int × Int) × (Int × Int) := if b = duL c e then (duR c e, duE c e) else (duE c e, duR c e)
noncomputable def sz1 : Tl → Int
  | (_, c) :: (_, e) :: _ => du1 c e
  | [(_, c)] => c.1
  | [] => 0
noncomputable def sz2 : Tl → Int
  | (_, c) :: (_, e) :: _ => du2 c e
  | [(_, c)] => c.2 - c.1
  | [] => 0
noncomputable def nx (b : Bool) : Tl → List Int → Tl × List Int
  | (p, c) :: (o, e) :: r, tk => sett ((p, (par b c e).1) :: (o, (par b c e).2) :: r) tk
  | [(p, _)], tk => ([], if b = true then tk ++ [p] else tk)
  | [], tk => ([], tk)
noncomputable def Good : Tl → List Int → List (Int × Int × Int) → List Int → Prop
  | tl, tk, [], kept => tl = [] ∧ kept = tk
  | tl, tk, (k, n, t) :: r, kept => tl ≠ [] ∧ k = sz1 tl ∧ n = sz2 tl ∧ 0 ≤ t ∧ t < k + n ∧ Good (nx (decide (t < k)) tl tk).1 (nx (decide (t < k)) tl tk).2 r kept
/-- what may be handed to settled -/
noncomputable def WfS (B : Int) (tl : Tl) (tk : List Int) : Prop := (∀ x ∈ tl, Fr B x.2) ∧ tl.length + tk.length ≤ 24
noncomputable def WfT (B : Int) (tl : Tl) (tk : List Int) : Prop := (∀ x ∈ tl, Fr B x.2 ∧ uns x.2 = true) ∧ tl.length + tk.length ≤ 24
theorem uns_whl {f : Int × Int} (h : whl f = true) : uns f = false := by
  rw [of_decide_eq_true (p := f = (1, 1)) h]
  rfl
theorem sett_len : ∀ (tl : Tl) , (tl.filter fun x => uns x.2).length + (tl.filter fun x => whl x.2).length ≤ tl.length
  | [] => by simp
  | x :: r => by
    have ih := sett_len r
    rw [List.filter_cons, List.filter_cons, List.length_cons]
    cases hw : whl x.2 with
    | true => rw [uns_whl hw]; simp; omega
    | false => cases uns x.2 <;> simp <;> omega
theorem sett_wf {B : Int} {tl : Tl} {tk : List Int} (h : WfS B tl tk) : WfT B (sett tl tk).1 (sett tl tk).2 := by
  refine ⟨fun x hx => ?_, ?_⟩
  · have := List.mem_filter.mp hx
    exact ⟨h.1 x this.1, this.2⟩
  · have := sett_len tl
    have := h.2
    simp only [sett, List.length_append, List.length_map]
    omega
theorem par_fr {c e : Int × Int} {B : Int} (hB : 0 < B) (hc : Fr B c) (he : Fr B e) (uc : uns c = true) (ue : uns e = true) (b : Bool) : Fr B (par b c e).1 ∧ Fr B (par b c e).2 := by
  obtain ⟨_, _, _, h1, _, h2, _⟩ := du_ok hB hc he uc ue
  unfold par
  split
  · exact ⟨h1, h2⟩
  · exact ⟨h2, h1⟩
theorem par_wf {B : Int} {p o : Int} {c e : Int × Int} {r : Tl} {tk : List Int} (hB : 0 < B) (h : WfT B ((p, c) :: (o, e) :: r) tk) (b : Bool) : WfS B ((p, (par b c e).1) :: (o, (par b c e).2) :: r) tk := by
  have h1 := h.1 _ (List.mem_cons_self ..)
  have h2 := h.1 _ (List.mem_cons_of_mem _ (List.mem_cons_self ..))
  have := par_fr hB h1.1 h2.1 h1.2 h2.2 b
  refine ⟨fun x hx => ?_, h.2⟩
  rcases List.mem_cons.mp hx with rfl | hx
  · exact this.1
  rcases List.mem_cons.mp hx with rfl | hx
  · exact this.2
  · exact (h.1 x (List.mem_cons_of_mem _ (List.mem_cons_of_mem _ hx))).1
end FrM

set_option Elab.async false
set_option linter.all false
set_option maxRecDepth 100000
set_option maxHeartbeats 4000000
namespace My
open PySem L2 FrM
noncomputable def top (i : Nat) : Stmt := PySem.Challenge.pw_fewspeak_k31_duels_thrown.main.body.getD i (.Pass ⟨0, 0, 0, 0⟩)
noncomputable abbrev s_NoThrow___init__ : Stmt := inClass (top 3) 0
noncomputable abbrev s_greatest_divisor : Stmt := top 5
noncomputable abbrev s_least_multiple : Stmt := top 6
noncomputable abbrev s_share : Stmt := top 7
noncomputable abbrev s_is_whole : Stmt := top 9
noncomputable abbrev s_Told___init__ : Stmt := inClass (top 12) 0
noncomputable abbrev s_Told_is_told : Stmt := inClass (top 12) 1
noncomputable abbrev s_Told_kept : Stmt := inClass (top 12) 2
noncomputable abbrev s_Told_sides : Stmt := inClass (top 12) 3
noncomputable abbrev s_Told_parts : Stmt := inClass (top 12) 4
noncomputable abbrev s_Die___init__ : Stmt := inClass (top 13) 0
noncomputable abbrev s_Die_is_told : Stmt := inClass (top 13) 1
noncomputable abbrev s_Die_kept : Stmt := inClass (top 13) 2
noncomputable abbrev s_Die_sides : Stmt := inClass (top 13) 3
noncomputable abbrev s_Die_parts : Stmt := inClass (top 13) 4
noncomputable abbrev s_Die_after : Stmt := inClass (top 13) 5
noncomputable abbrev s_can_be_thrown : Stmt := top 14
noncomputable abbrev s_drawn : Stmt := top 15
noncomputable abbrev s_is_unsure : Stmt := top 19
noncomputable abbrev s_duels : Stmt := top 21
noncomputable abbrev s_settled : Stmt := top 22
noncomputable abbrev s_open_node : Stmt := top 23
noncomputable abbrev s_settled_make : Stmt := top 24
noncomputable abbrev s_last_die : Stmt := top 25
noncomputable abbrev s_duel_parts : Stmt := top 26
noncomputable abbrev s_L_cell : Stmt := top 28
noncomputable abbrev s_L_mix : Stmt := top 29
noncomputable abbrev s_L_row : Stmt := top 30
noncomputable abbrev s_L_low : Stmt := top 31
noncomputable abbrev s_L_common : Stmt := top 32
noncomputable abbrev s_L_shares : Stmt := top 33
noncomputable abbrev s_L_order : Stmt := top 34
noncomputable abbrev s_L_duel : Stmt := top 35
noncomputable abbrev s_L_walk : Stmt := top 36
noncomputable abbrev s_L_thrown : Stmt := top 37
noncomputable abbrev s_law : Stmt := top 38
theorem sc_greatest_divisor : FnScope ["one", "other"] ["one", "other"] (defScope s_greatest_divisor) := ⟨rfl, rfl, rfl, by decide +kernel, rfl, by decide +kernel, by decide +kernel⟩
theorem sc_least_multiple : FnScope ["numbers", "found", "number"] ["numbers"] (defScope s_least_multiple) := ⟨rfl, rfl, rfl, by decide +kernel, rfl, by decide +kernel, by decide +kernel⟩
theorem sc_share : FnScope ["top", "bottom", "divisor"] ["top", "bottom"] (defScope s_share) := ⟨rfl, rfl, rfl, by decide +kernel, rfl, by decide +kernel, by decide +kernel⟩
theorem sc_is_whole : FnScope ["thing", "low", "high"] ["thing", "low", "high"] (defScope s_is_whole) := ⟨rfl, rfl, rfl, by decide +kernel, rfl, by decide +kernel, by decide +kernel⟩
theorem sc_Told___init__ : FnScope ["self", "kept"] ["self", "kept"] (defScope s_Told___init__) := ⟨rfl, rfl, rfl, by decide +kernel, rfl, by decide +kernel, by decide +kernel⟩
theorem sc_Told_is_told : FnScope ["self"] ["self"] (defScope s_Told_is_told) := ⟨rfl, rfl, rfl, by decide +kernel, rfl, by decide +kernel, by decide +kernel⟩
theorem sc_Told_kept : FnScope ["self"] ["self"] (defScope s_Told_kept) := ⟨rfl, rfl, rfl, by decide +kernel, rfl, by decide +kernel, by decide +kernel⟩
theorem sc_Told_sides : FnScope ["self"] ["self"] (defScope s_Told_sides) := ⟨rfl, rfl, rfl, by decide +kernel, rfl, by decide +kernel, by decide +kernel⟩
theorem sc_Told_parts : FnScope ["self"] ["self"] (defScope s_Told_parts) := ⟨rfl, rfl, rfl, by decide +kernel, rfl, by decide +kernel, by decide +kernel⟩
theorem sc_Die___init__ : FnScope ["self", "parts"] ["self", "parts"] (defScope s_Die___init__) := ⟨rfl, rfl, rfl, by decide +kernel, rfl, by decide +kernel, by decide +kernel⟩
theorem sc_Die_is_told : FnScope ["self"] ["self"] (defScope s_Die_is_told) := ⟨rfl, rfl, rfl, by decide +kernel, rfl, by decide +kernel, by decide +kernel⟩
theorem sc_Die_kept : FnScope ["self"] ["self"] (defScope s_Die_kept) := ⟨rfl, rfl, rfl, by decide +kernel, rfl, by decide +kernel, by decide +kernel⟩
theorem sc_Die_sides : FnScope ["self"] ["self"] (defScope s_Die_sides) := ⟨rfl, rfl, rfl, by decide +kernel, rfl, by decide +kernel, by decide +kernel⟩
theorem sc_Die_parts : FnScope ["self"] ["self"] (defScope s_Die_parts) := ⟨rfl, rfl, rfl, by decide +kernel, rfl, by decide +kernel, by decide +kernel⟩
theorem sc_Die_after : FnScope ["self", "throw", "number", "last", "many", "make"] ["self", "throw"] (defScope s_Die_after) := ⟨rfl, rfl, rfl, by decide +kernel, rfl, by decide +kernel, by decide +kernel⟩
theorem sc_can_be_thrown : FnScope ["node", "throw"] ["node", "throw"] (defScope s_can_be_thrown) := ⟨rfl, rfl, rfl, by decide +kernel, rfl, by decide +kernel, by decide +kernel⟩
theorem sc_drawn : FnScope ["node", "throws", "here", "place", "throw"] ["node", "throws"] (defScope s_drawn) := ⟨rfl, rfl, rfl, by decide +kernel, rfl, by decide +kernel, by decide +kernel⟩
theorem sc_is_unsure : FnScope ["chance"] ["chance"] (defScope s_is_unsure) := ⟨rfl, rfl, rfl, by decide +kernel, rfl, by decide +kernel, by decide +kernel⟩
theorem sc_duels : FnScope ["shares", "order"] ["shares", "order"] (defScope s_duels) := ⟨rfl, rfl, rfl, by decide +kernel, rfl, by decide +kernel, by decide +kernel⟩
theorem sc_settled : FnScope ["told", "taken", "sure"] ["told", "taken"] (defScope s_settled) := ⟨rfl, rfl, rfl, by decide +kernel, rfl, by decide +kernel, by decide +kernel⟩
theorem sc_open_node : FnScope ["told", "taken", "place", "chance", "other", "its_chance"] ["told", "taken"] (defScope s_open_node) := ⟨rfl, rfl, rfl, by decide +kernel, rfl, by decide +kernel, by decide +kernel⟩
noncomputable abbrev le_settled_make_1 : Expr := (retE (stAt s_settled_make 0))
noncomputable def ld_settled_make_1 : LamD := lamOf ((("settled_make" : Str) ++ ".<locals>.") ++ "<lambda>") le_settled_make_1
theorem sc_settled_make : FnScope ["told", "taken"] ["told", "taken"] (defScope s_settled_make) := ⟨rfl, rfl, rfl, by decide +kernel, rfl, by decide +kernel, by decide +kernel⟩
noncomputable abbrev le_last_die_1 : Expr := (tupE (lstE (argE (retE (stAt s_last_die 1)) 0) 0) 1)
noncomputable def ld_last_die_1 : LamD := lamOf ((("last_die" : Str) ++ ".<locals>.") ++ "<lambda>") le_last_die_1
noncomputable abbrev le_last_die_2 : Expr := (tupE (lstE (argE (retE (stAt s_last_die 1)) 0) 1) 1)
noncomputable def ld_last_die_2 : LamD := lamOf ((("last_die" : Str) ++ ".<locals>.") ++ "<lambda>") le_last_die_2
theorem sc_last_die : FnScope ["last", "taken", "place", "chance"] ["last", "taken"] (defScope s_last_die) := ⟨rfl, rfl, rfl, by decide +kernel, rfl, by decide +kernel, by decide +kernel⟩
theorem sc_duel_parts : FnScope ["one", "other", "bottom", "top", "its_top", "left"] ["one", "other"] (defScope s_duel_parts) := ⟨rfl, rfl, rfl, by decide +kernel, rfl, by decide +kernel, by decide +kernel⟩
theorem sc_L_cell : FnScope ["_law_script", "_law_k"] ["_law_script", "_law_k"] (defScope s_L_cell) := ⟨rfl, rfl, rfl, by decide +kernel, rfl, by decide +kernel, by decide +kernel⟩
theorem sc_L_mix : FnScope ["_law_cell_here", "_law_k", "_law_number"] ["_law_cell_here", "_law_k"] (defScope s_L_mix) := ⟨rfl, rfl, rfl, by decide +kernel, rfl, by decide +kernel, by decide +kernel⟩
theorem sc_L_row : FnScope ["_law_cell_here", "_law_bit", "_law_many", "_law_most", "_law_row_here", "_law_k"] ["_law_cell_here", "_law_bit", "_law_many", "_law_most"] (defScope s_L_row) := ⟨rfl, rfl, rfl, by decide +kernel, rfl, by decide +kernel, by decide +kernel⟩
theorem sc_L_low : FnScope ["_law_top", "_law_bottom", "_law_one", "_law_other"] ["_law_top", "_law_bottom"] (defScope s_L_low) := ⟨rfl, rfl, rfl, by decide +kernel, rfl, by decide +kernel, by decide +kernel⟩
theorem sc_L_common : FnScope ["_law_one", "_law_other"] ["_law_one", "_law_other"] (defScope s_L_common) := ⟨rfl, rfl, rfl, by decide +kernel, rfl, by decide +kernel, by decide +kernel⟩
theorem sc_L_shares : FnScope ["_law_script", "_law_start", "_law_most", "_law_many", "_law_bit", "_law_bottom", "_law_tops"] ["_law_script", "_law_start", "_law_most"] (defScope s_L_shares) := ⟨rfl, rfl, rfl, by decide +kernel, rfl, by decide +kernel, by decide +kernel⟩
theorem sc_L_order : FnScope ["_law_cell_here", "_law_bit", "_law_many", "_law_left", "_law_order_here", "_law_pick"] ["_law_cell_here", "_law_bit", "_law_many"] (defScope s_L_order) := ⟨rfl, rfl, rfl, by decide +kernel, rfl, by decide +kernel, by decide +kernel⟩
theorem sc_L_duel : FnScope ["_law_first", "_law_second", "_law_d", "_law_a", "_law_b"] ["_law_first", "_law_second"] (defScope s_L_duel) := ⟨rfl, rfl, rfl, by decide +kernel, rfl, by decide +kernel, by decide +kernel⟩
theorem sc_L_walk : FnScope ["_law_shares_here", "_law_order_here", "_law_throws", "_law_now", "_law_rows", "_law_up", "_law_at", "_law_sizes", "_law_end", "_law_rest", "_law_throw", "_law_ends", "_law_top", "_law_bottom"] ["_law_shares_here", "_law_order_here", "_law_throws"] (defScope s_L_walk) := ⟨rfl, rfl, rfl, by decide +kernel, rfl, by decide +kernel, by decide +kernel⟩
theorem sc_L_thrown : FnScope ["_law_node", "_law_rows", "_law_kept", "_law_sizes", "_law_throw"] ["_law_node", "_law_rows", "_law_kept"] (defScope s_L_thrown) := ⟨rfl, rfl, rfl, by decide +kernel, rfl, by decide +kernel, by decide +kernel⟩
theorem sc_law : FnScope ["_law_script", "_law_shares_here", "_law_order_here", "_law_rows", "_law_kept", "_law_handed", "_law_node", "_law_thrown_here"] ["_law_script"] (defScope s_law) := ⟨rfl, rfl, rfl, by decide +kernel, rfl, by decide +kernel, by decide +kernel⟩
set_option genInjectivity false in
set_option genSizeOf false in
structure Ad where
  f_greatest_divisor : Addr
  d_greatest_divisor : FuncData
  f_least_multiple : Addr
  d_least_multiple : FuncData
  f_share : Addr
  d_share : FuncData
  f_is_whole : Addr
  d_is_whole : FuncData
  f_can_be_thrown : Addr
  d_can_be_thrown : FuncData
  f_drawn : Addr
  d_drawn : FuncData
  f_is_unsure : Addr
  d_is_unsure : FuncData
  f_duels : Addr
  d_duels : FuncData
  f_settled : Addr
  d_settled : FuncData
  f_open_node : Addr
  d_open_node : FuncData
  f_settled_make : Addr
  d_settled_make : FuncData
  f_last_die : Addr
  d_last_die : FuncData
  f_duel_parts : Addr
  d_duel_parts : FuncData
  f_L_cell : Addr
  d_L_cell : FuncData
  f_L_mix : Addr
  d_L_mix : FuncData
  f_L_row : Addr
  d_L_row : FuncData
  f_L_low : Addr
  d_L_low : FuncData
  f_L_common : Addr
  d_L_common : FuncData
  f_L_shares : Addr
  d_L_shares : FuncData
  f_L_order : Addr
  d_L_order : FuncData
  f_L_duel : Addr
  d_L_duel : FuncData
  f_L_walk : Addr
  d_L_walk : FuncData
  f_L_thrown : Addr
  d_L_thrown : FuncData
  f_law : Addr
  d_law : FuncData
  c_SpeakError : Addr
  c_NoThrow : Addr
  i_NoThrow : Addr
  e_NoThrow : FuncData
  c_Node : Addr
  c_Told : Addr
  i_Told : Addr
  e_Told : FuncData
  c_Die : Addr
  i_Die : Addr
  e_Die : FuncData
  x_Told_is_told : Addr
  y_Told_is_told : FuncData
  x_Die_is_told : Addr
  y_Die_is_told : FuncData
  x_Told_kept : Addr
  y_Told_kept : FuncData
  x_Die_kept : Addr
  y_Die_kept : FuncData
  x_Told_sides : Addr
  y_Told_sides : FuncData
  x_Die_sides : Addr
  y_Die_sides : FuncData
  x_Told_parts : Addr
  y_Told_parts : FuncData
  x_Die_parts : Addr
  y_Die_parts : FuncData
  x_Die_after : Addr
  y_Die_after : FuncData
  k_NOUGHT : Addr
  k_WHOLE : Addr
  lc_last_die : Addr
  lp_last_die : Addr
  lc_settled_make : Addr
  lp_settled_make : Addr
noncomputable abbrev ll_last_die : List (Pos × Str) := [(lamP le_last_die_1, ((("last_die" : Str) ++ ".<locals>.") ++ "<lambda>")), (lamP le_last_die_2, ((("last_die" : Str) ++ ".<locals>.") ++ "<lambda>"))]
theorem tp_last_die : (ll_last_die).Pairwise fun x y => ¬ (x.1.line = y.1.line ∧ x.1.col = y.1.col) := by decide +kernel
noncomputable abbrev ll_settled_make : List (Pos × Str) := [(lamP le_settled_make_1, ((("settled_make" : Str) ++ ".<locals>.") ++ "<lambda>"))]
theorem tp_settled_make : (ll_settled_make).Pairwise fun x y => ¬ (x.1.line = y.1.line ∧ x.1.col = y.1.col) := by decide +kernel
noncomputable def tabs (a : Ad) : Tabs := [(a.lp_last_die, ll_last_die), (a.lp_settled_make, ll_settled_make)]
theorem tb_last_die (a : Ad) : (a.lp_last_die, ll_last_die) ∈ tabs a := (.head _)
theorem tb_settled_make (a : Ad) : (a.lp_settled_make, ll_settled_make) ∈ tabs a := (.tail _ (.head _))
structure Txt (K : PySem.W.Frag) (mg : Str → Option Value) (a : Ad) : Prop where
  lcd_last_die : a.d_last_die.code = .ref a.lc_last_die
  lch_last_die : PySem.W.codeHdIn K a.lc_last_die a.lp_last_die = true
  lcd_settled_make : a.d_settled_make.code = .ref a.lc_settled_make
  lch_settled_make : PySem.W.codeHdIn K a.lc_settled_make a.lp_settled_make = true
  tnd : ((tabs a).map (·.1)).Nodup
  F_greatest_divisor : Fun K "greatest_divisor" "greatest_divisor" s_greatest_divisor a.f_greatest_divisor a.d_greatest_divisor
  B_greatest_divisor : Binds K a.d_greatest_divisor ["one", "other"] []
  m_greatest_divisor : mg "greatest_divisor" = some (.ref a.f_greatest_divisor)
  F_least_multiple : Fun K "least_multiple" "least_multiple" s_least_multiple a.f_least_multiple a.d_least_multiple
  B_least_multiple : Binds K a.d_least_multiple ["numbers"] []
  m_least_multiple : mg "least_multiple" = some (.ref a.f_least_multiple)
  F_share : Fun K "share" "share" s_share a.f_share a.d_share
  B_share : Binds K a.d_share ["top", "bottom"] []
  m_share : mg "share" = some (.ref a.f_share)
  F_is_whole : Fun K "is_whole" "is_whole" s_is_whole a.f_is_whole a.d_is_whole
  B_is_whole : Binds K a.d_is_whole ["thing", "low", "high"] []
  m_is_whole : mg "is_whole" = some (.ref a.f_is_whole)
  F_can_be_thrown : Fun K "can_be_thrown" "can_be_thrown" s_can_be_thrown a.f_can_be_thrown a.d_can_be_thrown
  B_can_be_thrown : Binds K a.d_can_be_thrown ["node", "throw"] []
  m_can_be_thrown : mg "can_be_thrown" = some (.ref a.f_can_be_thrown)
  F_drawn : Fun K "drawn" "drawn" s_drawn a.f_drawn a.d_drawn
  B_drawn : Binds K a.d_drawn ["node", "throws"] []
  m_drawn : mg "drawn" = some (.ref a.f_drawn)
  F_is_unsure : Fun K "is_unsure" "is_unsure" s_is_unsure a.f_is_unsure a.d_is_unsure
  B_is_unsure : Binds K a.d_is_unsure ["chance"] []
  m_is_unsure : mg "is_unsure" = some (.ref a.f_is_unsure)
  F_duels : Fun K "duels" "duels" s_duels a.f_duels a.d_duels
  B_duels : Binds K a.d_duels ["shares", "order"] []
  m_duels : mg "duels" = some (.ref a.f_duels)
  F_settled : Fun K "settled" "settled" s_settled a.f_settled a.d_settled
  B_settled : Binds K a.d_settled ["told", "taken"] []
  m_settled : mg "settled" = some (.ref a.f_settled)
  F_open_node : Fun K "open_node" "open_node" s_open_node a.f_open_node a.d_open_node
  B_open_node : Binds K a.d_open_node ["told", "taken"] []
  m_open_node : mg "open_node" = some (.ref a.f_open_node)
  F_settled_make : Fun K "settled_make" "settled_make" s_settled_make a.f_settled_make a.d_settled_make
  B_settled_make : Binds K a.d_settled_make ["told", "taken"] []
  m_settled_make : mg "settled_make" = some (.ref a.f_settled_make)
  F_last_die : Fun K "last_die" "last_die" s_last_die a.f_last_die a.d_last_die
  B_last_die : Binds K a.d_last_die ["last", "taken"] []
  m_last_die : mg "last_die" = some (.ref a.f_last_die)
  F_duel_parts : Fun K "duel_parts" "duel_parts" s_duel_parts a.f_duel_parts a.d_duel_parts
  B_duel_parts : Binds K a.d_duel_parts ["one", "other"] []
  m_duel_parts : mg "duel_parts" = some (.ref a.f_duel_parts)
  F_L_cell : Fun K "_law_cell" "_law_cell" s_L_cell a.f_L_cell a.d_L_cell
  B_L_cell : Binds K a.d_L_cell ["_law_script", "_law_k"] []
  m_L_cell : mg "_law_cell" = some (.ref a.f_L_cell)
  F_L_mix : Fun K "_law_mix" "_law_mix" s_L_mix a.f_L_mix a.d_L_mix
  B_L_mix : Binds K a.d_L_mix ["_law_cell_here", "_law_k"] []
  m_L_mix : mg "_law_mix" = some (.ref a.f_L_mix)
  F_L_row : Fun K "_law_row" "_law_row" s_L_row a.f_L_row a.d_L_row
  B_L_row : Binds K a.d_L_row ["_law_cell_here", "_law_bit", "_law_many", "_law_most"] []
  m_L_row : mg "_law_row" = some (.ref a.f_L_row)
  F_L_low : Fun K "_law_low" "_law_low" s_L_low a.f_L_low a.d_L_low
  B_L_low : Binds K a.d_L_low ["_law_top", "_law_bottom"] []
  m_L_low : mg "_law_low" = some (.ref a.f_L_low)
  F_L_common : Fun K "_law_common" "_law_common" s_L_common a.f_L_common a.d_L_common
  B_L_common : Binds K a.d_L_common ["_law_one", "_law_other"] []
  m_L_common : mg "_law_common" = some (.ref a.f_L_common)
  F_L_shares : Fun K "_law_shares" "_law_shares" s_L_shares a.f_L_shares a.d_L_shares
  B_L_shares : Binds K a.d_L_shares ["_law_script", "_law_start", "_law_most"] []
  m_L_shares : mg "_law_shares" = some (.ref a.f_L_shares)
  F_L_order : Fun K "_law_order" "_law_order" s_L_order a.f_L_order a.d_L_order
  B_L_order : Binds K a.d_L_order ["_law_cell_here", "_law_bit", "_law_many"] []
  m_L_order : mg "_law_order" = some (.ref a.f_L_order)
  F_L_duel : Fun K "_law_duel" "_law_duel" s_L_duel a.f_L_duel a.d_L_duel
  B_L_duel : Binds K a.d_L_duel ["_law_first", "_law_second"] []
  m_L_duel : mg "_law_duel" = some (.ref a.f_L_duel)
  F_L_walk : Fun K "_law_walk" "_law_walk" s_L_walk a.f_L_walk a.d_L_walk
  B_L_walk : Binds K a.d_L_walk ["_law_shares_here", "_law_order_here", "_law_throws"] []
  m_L_walk : mg "_law_walk" = some (.ref a.f_L_walk)
  F_L_thrown : Fun K "_law_thrown" "_law_thrown" s_L_thrown a.f_L_thrown a.d_L_thrown
  B_L_thrown : Binds K a.d_L_thrown ["_law_node", "_law_rows", "_law_kept"] []
  m_L_thrown : mg "_law_thrown" = some (.ref a.f_L_thrown)
  F_law : Fun K "law" "law" s_law a.f_law a.d_law
  B_law : Binds K a.d_law ["_law_script"] []
  m_law : mg "law" = some (.ref a.f_law)
  g_NOUGHT : ∃ u, mg "NOUGHT" = some u ∧ RelV (.ref a.k_NOUGHT) u
  t_NOUGHT : tupIn K a.k_NOUGHT [(.int 0), (.int 1)] = true
  g_WHOLE : ∃ u, mg "WHOLE" = some u ∧ RelV (.ref a.k_WHOLE) u
  t_WHOLE : tupIn K a.k_WHOLE [(.int 1), (.int 1)] = true
  mc_SpeakError : mg "SpeakError" = some (.ref a.c_SpeakError)
  g_SpeakError : ∃ u, mg "SpeakError" = some u ∧ RelV (.ref a.c_SpeakError) u
  kc_SpeakError : PySem.W.keepIn K (.ref a.c_SpeakError) = true
  xc_SpeakError : XCls K a.c_SpeakError
  xh_SpeakError : XHd K a.c_SpeakError
  xi_SpeakError : xIn K a.c_SpeakError none = true
  mc_NoThrow : mg "NoThrow" = some (.ref a.c_NoThrow)
  g_NoThrow : ∃ u, mg "NoThrow" = some u ∧ RelV (.ref a.c_NoThrow) u
  kc_NoThrow : PySem.W.keepIn K (.ref a.c_NoThrow) = true
  xc_NoThrow : XCls K a.c_NoThrow
  xh_NoThrow : XHd K a.c_NoThrow
  xi_NoThrow : xIn K a.c_NoThrow (some (.ref a.i_NoThrow)) = true
  fn_NoThrow : PySem.W.isFn K (.ref a.i_NoThrow) = true
  Fi_NoThrow : Fun K "__init__" "NoThrow.__init__" s_NoThrow___init__ a.i_NoThrow a.e_NoThrow
  Bi_NoThrow : Binds K a.e_NoThrow ["self", "place"] []
  sx_NoThrow_place : ∃ cd, XSet K a.c_NoThrow "place" cd
  mc_Node : mg "Node" = some (.ref a.c_Node)
  g_Node : ∃ u, mg "Node" = some u ∧ RelV (.ref a.c_Node) u
  cl_Node : Cls K a.c_Node
  ty_Node : ∀ H x dx fs, H x = some (.ins a.c_Node dx fs) → TyOf K H (.ref x) (.ref a.c_Node)
  mc_Told : mg "Told" = some (.ref a.c_Told)
  g_Told : ∃ u, mg "Told" = some u ∧ RelV (.ref a.c_Told) u
  cl_Told : Cls K a.c_Told
  ty_Told : ∀ H x dx fs, H x = some (.ins a.c_Told dx fs) → TyOf K H (.ref x) (.ref a.c_Told)
  mk_Told : Mk K a.c_Told a.i_Told
  Fi_Told : Fun K "__init__" "Told.__init__" s_Told___init__ a.i_Told a.e_Told
  Bi_Told : Binds K a.e_Told ["self", "kept"] []
  na_Told_rising : NoAttr K a.c_Told "rising"
  mt_Told_is_told : Meth K a.c_Told "is_told" a.x_Told_is_told
  mt_Told_kept : Meth K a.c_Told "kept" a.x_Told_kept
  mt_Told_sides : Meth K a.c_Told "sides" a.x_Told_sides
  mt_Told_parts : Meth K a.c_Told "parts" a.x_Told_parts
  mc_Die : mg "Die" = some (.ref a.c_Die)
  g_Die : ∃ u, mg "Die" = some u ∧ RelV (.ref a.c_Die) u
  cl_Die : Cls K a.c_Die
  ty_Die : ∀ H x dx fs, H x = some (.ins a.c_Die dx fs) → TyOf K H (.ref x) (.ref a.c_Die)
  mk_Die : Mk K a.c_Die a.i_Die
  Fi_Die : Fun K "__init__" "Die.__init__" s_Die___init__ a.i_Die a.e_Die
  Bi_Die : Binds K a.e_Die ["self", "parts"] []
  na_Die_makes : NoAttr K a.c_Die "makes"
  mt_Die_is_told : Meth K a.c_Die "is_told" a.x_Die_is_told
  mt_Die_kept : Meth K a.c_Die "kept" a.x_Die_kept
  mt_Die_sides : Meth K a.c_Die "sides" a.x_Die_sides
  mt_Die_parts : Meth K a.c_Die "parts" a.x_Die_parts
  mt_Die_after : Meth K a.c_Die "after" a.x_Die_after
  F_Told_is_told : Fun K "is_told" "Told.is_told" s_Told_is_told a.x_Told_is_told a.y_Told_is_told
  B_Told_is_told : Binds K a.y_Told_is_told ["self"] []
  F_Die_is_told : Fun K "is_told" "Die.is_told" s_Die_is_told a.x_Die_is_told a.y_Die_is_told
  B_Die_is_told : Binds K a.y_Die_is_told ["self"] []
  F_Told_kept : Fun K "kept" "Told.kept" s_Told_kept a.x_Told_kept a.y_Told_kept
  B_Told_kept : Binds K a.y_Told_kept ["self"] []
  F_Die_kept : Fun K "kept" "Die.kept" s_Die_kept a.x_Die_kept a.y_Die_kept
  B_Die_kept : Binds K a.y_Die_kept ["self"] []
  F_Told_sides : Fun K "sides" "Told.sides" s_Told_sides a.x_Told_sides a.y_Told_sides
  B_Told_sides : Binds K a.y_Told_sides ["self"] []
  F_Die_sides : Fun K "sides" "Die.sides" s_Die_sides a.x_Die_sides a.y_Die_sides
  B_Die_sides : Binds K a.y_Die_sides ["self"] []
  F_Told_parts : Fun K "parts" "Told.parts" s_Told_parts a.x_Told_parts a.y_Told_parts
  B_Told_parts : Binds K a.y_Told_parts ["self"] []
  F_Die_parts : Fun K "parts" "Die.parts" s_Die_parts a.x_Die_parts a.y_Die_parts
  B_Die_parts : Binds K a.y_Die_parts ["self"] []
  F_Die_after : Fun K "after" "Die.after" s_Die_after a.x_Die_after a.y_Die_after
  B_Die_after : Binds K a.y_Die_after ["self", "throw"] []
  z_abs : mg "abs" = none
  z_bool : mg "bool" = none
  z_enumerate : mg "enumerate" = none
  z_int : mg "int" = none
  z_isinstance : mg "isinstance" = none
  z_len : mg "len" = none
  z_list : mg "list" = none
  z_min : mg "min" = none
  z_range : mg "range" = none
  z_sorted : mg "sorted" = none
  z_sum : mg "sum" = none
  z_tuple : mg "tuple" = none
  bl : ∀ (s : Shared) (u : Value), BindsTo s a.d_law ⟨[u], []⟩ [("_law_script", u)]
noncomputable def spLaw (K : PySem.W.Frag) (ts : List Addr) : Sp := fun vs H Q _ => ∃ (p : Addr) (ns : List Int), vs = [.ref p] ∧ SqL K H p (ns.map V.int) ∧ ns.length ≤ 63 ∧ (∀ P ∈ ts, H P = some (.tbl #[])) ∧ ∀ H', Q (.bl true) H'
theorem law_start {K : PySem.W.Frag} {ts : List Addr} {H : Hp} {a : Addr} {ns : List Int} (hl : ns.length ≤ 63) (hT : ∀ P ∈ ts, H P = some (.tbl #[])) (hS : SqL K H a (ns.map V.int)) : spLaw K ts [.ref a] H (fun v _ => v = .bl true) fun _ _ _ => False := ⟨a, ns, rfl, hS, hl, hT, fun _ => rfl⟩
noncomputable def cellC (ns : List Int) (k : Int) : Int := if k < (ns.length : Int) then ns.getD k.toNat 0 else 7919 * k + 13
noncomputable def spCell (K : PySem.W.Frag) : Sp := fun vs H Q _ => ∃ (p : Addr) (ns : List Int) (k : Int), vs = [.ref p, .int k] ∧ SqL K H p (ns.map V.int) ∧ ns.length ≤ 63 ∧ 0 ≤ k ∧ k ≤ 1000 ∧ Q (.int (cellC ns k)) H
noncomputable def spMix : Sp := fun vs H Q _ => ∃ (c k : Int), vs = [.int c, .int k] ∧ 0 ≤ k ∧ k ≤ 1000 ∧ ∀ r : Int, 0 ≤ r → Q (.int r) H
noncomputable def spRow : Sp := fun vs H Q _ => ∃ (c b n m : Int), vs = [.int c, .int b, .int n, .int m] ∧ 0 ≤ n ∧ n ≤ 25 ∧ 1 ≤ m ∧ m ≤ 1000000000000 ∧ ∀ H' p (ns : List Int), Same H H' → H p = none → H' p = some (.lst (ns.map V.int)) → (ns.length : Int) = n → (∀ x ∈ ns, 0 ≤ x ∧ x < m) → Q (.ref p) H'
noncomputable def spGcd : Sp := fun vs H Q _ => ∃ (x y : Int), vs = [.int x, .int y] ∧ 0 ≤ x ∧ 0 ≤ y ∧ Q (.int (Int.gcd x y)) H
noncomputable def Tell (H : Hp) (Q : VK) (T B : Int) : Prop := ∀ H' p, Same H H' → H' p = some (.tup [.int (lowP T B).1, .int (lowP T B).2]) → Q (.ref p) H'
noncomputable def spLow : Sp := fun vs H Q _ => ∃ (T B : Int), vs = [.int T, .int B] ∧ 0 < B ∧ Bt 3000 T ∧ Bt 3000 B ∧ Tell H Q T B
noncomputable def spNo : Sp := fun _ _ _ _ => False
noncomputable def PT (K : PySem.W.Frag) (H : Hp) (p : Addr) (f : Int × Int) : Prop := H p = some (.tup [.int f.1, .int f.2]) ∨ tupIn K p [.int f.1, .int f.2] = true
theorem PT.sq {K : PySem.W.Frag} {H : Hp} {p : Addr} {f : Int × Int} (h : PT K H p f) : SqT K H p [.int f.1, .int f.2] := h.elim SqT.of tup_in
noncomputable def IsF (K : PySem.W.Frag) (H : Hp) (f : Int × Int) (x : V) : Prop := ∃ p, x = .ref p ∧ PT K H p f
theorem IsF.tk {K : PySem.W.Frag} {H H' : Hp} {f : Int × Int} {x : V} (k : TK H H') (h : IsF K H f x) : IsF K H' f x := let ⟨p, e, q⟩ := h; ⟨p, e, q.imp (fun z => k _ _ z) id⟩
noncomputable abbrev AllF (K : PySem.W.Frag) (H : Hp) : List (Int × Int) → List V → Prop := PySem.Paired (IsF K H)
theorem IsF.same {K : PySem.W.Frag} {H H' : Hp} {f : Int × Int} {x : V} (s : Same H H') (h : IsF K H f x) : IsF K H' f x := h.tk s.tk
theorem AllF.same {K : PySem.W.Frag} {H H' : Hp} (s : Same H H') : ∀ {fs : List (Int × Int)} {xs : List V}, AllF K H fs xs → AllF K H' fs xs
  | _, _, .nil => .nil
  | _, _, .cons r t => .cons (r.same s) (AllF.same s t)
theorem AllF.tk {K : PySem.W.Frag} {H H' : Hp} (k : TK H H') : ∀ {fs : List (Int × Int)} {xs : List V}, AllF K H fs xs → AllF K H' fs xs
  | _, _, .nil => .nil
  | _, _, .cons r t => .cons (r.tk k) (AllF.tk k t)
theorem AllF.get {K : PySem.W.Frag} {H : Hp} : ∀ {fs : List (Int × Int)} {xs : List V} {i : Nat} {x : V}, AllF K H fs xs → xs[i]? = some x → ∃ f, fs[i]? = some f ∧ IsF K H f x
  | _, _, _, _, .nil, h => by cases h
  | _, _, 0, _, .cons r _, h => ⟨_, rfl, by cases h; exact r⟩
  | _, _, i + 1, _, .cons _ t, h => AllF.get (i := i) t h
theorem AllF.snoc {K : PySem.W.Frag} {H : Hp} {f : Int × Int} {x : V} (r : IsF K H f x) : ∀ {fs : List (Int × Int)} {xs : List V}, AllF K H fs xs → AllF K H (fs ++ [f]) (xs ++ [x])
  | _, _, .nil => .cons r .nil
  | _, _, .cons q t => .cons q (AllF.snoc r t)
theorem AllF.len {K : PySem.W.Frag} {H : Hp} {fs : List (Int × Int)} {xs : List V} (h : AllF K H fs xs) : fs.length = xs.length := Paired.length h
theorem abs_gcd (T B : Int) : Int.gcd (if T < 0 then -T else T) B = Int.gcd T B := by
  split
  · exact Int.neg_gcd
  · rfl
theorem px0 {K : PySem.W.Frag} {H : Hp} {p : Addr} {x y : V} {Q : VK} (h : SqT K H p [x, y]) (q : Q x H) : rIx K (.ref p) (.int 0) H Q := .inr (.inl ⟨p, _, _, x, rfl, rfl, h, atI_nat (j := 0) rfl, q⟩)
theorem px1 {K : PySem.W.Frag} {H : Hp} {p : Addr} {x y : V} {Q : VK} (h : SqT K H p [x, y]) (q : Q y H) : rIx K (.ref p) (.int 1) H Q := .inr (.inl ⟨p, _, _, y, rfl, rfl, h, atI_nat (j := 1) rfl, q⟩)
theorem two_le (x y : V) : [x, y].length ≤ sizeLine := by show 2 ≤ sizeLine; decide
noncomputable def spLcm : Sp := fun vs H Q _ => ∃ (l : Addr) (x y : Int), vs = [.ref l] ∧ H l = some (.lst [.int x, .int y]) ∧ 0 < x ∧ 0 < y ∧ x ≤ 1000000000 ∧ y ≤ 1000000000 ∧ Q (.int (lcmD x y)) H
noncomputable def spUns (K : PySem.W.Frag) : Sp := fun vs H Q _ => ∃ (x : V) (f : Int × Int), vs = [x] ∧ IsF K H f x ∧ Q (.bl (uns f)) H
section
variable {P : Program} {w : World} {K : PySem.W.Frag} {mg : Str → Option Value} {base : Heap} {a : Ad}
theorem ok_no {k : Nat} {f : Addr} {fd : FuncData} {ps : List Str} : FnOk P w K mg base CX0 k f fd ps spNo := ⟨fun _ _ _ _ h => h.elim, fun _ _ _ _ _ _ _ _ _ _ _ _ _ h => h.elim⟩
theorem ok_cell (T : Txt K mg a) : FnOk P w K mg base CX0 1 a.f_L_cell a.d_L_cell ["_law_script", "_law_k"] (spCell K) := by
  refine T.F_L_cell.ok sc_L_cell (fun vs H Q E h => ?_) (fun cdv A outer s H vs Q E hr h => ?_)
  · obtain ⟨p, ns, k, rfl, _⟩ := h; rfl
  · obtain ⟨p, ns, k, rfl, hS, hl, h0, h1, q⟩ := h
    refine ⟨_, (pss_cons (ps_if (t_cmp o_lt (vr 1) (pe_callB call_lenM rfl T.z_len bt_len (pa_cons (vr 0) pa_nil)) (nomark _)) (pss_one (ps_ret (pe_ix ix_seq (vr 0) (vr 1) (fun _ _ => rfl)))) pss_nil) (pss_one (ps_ret (pe_op o_add (pe_op o_mulB pe_int (vr 1)) pe_int)))), ?_⟩
    refine ⟨ns.map V.int, .inl hS, ?_⟩
    rw [List.length_map]
    unfold cellC at q
    refine ite2 (fun c => ?_) (fun c => ?_)
    · have c' : k < (ns.length : Int) := of_decide_eq_true c
      rw [if_pos c'] at q
      refine .inl ⟨p, _, k, .int (ns.getD k.toNat 0), rfl, rfl, hS, ?_, q⟩
      have e : ((k.toNat : Nat) : Int) = k := by omega
      rw [← e]
      refine atI_nat ?_
      have hk : k.toNat < ns.length := by omega
      rw [e]
      simp [List.getElem?_map, List.getD, hk]
    · have c' : ¬ k < (ns.length : Int) := fun z => c (decide_eq_true z)
      rw [if_neg c'] at q
      exact ⟨clB, q⟩
theorem ok_mix (T : Txt K mg a) : FnOk P w K mg base CX0 1 a.f_L_mix a.d_L_mix ["_law_cell_here", "_law_k"] spMix := by
  refine T.F_L_mix.ok sc_L_mix (fun vs H Q E h => ?_) (fun cdv A outer s H vs Q E hr h => ?_)
  · obtain ⟨c, k, rfl, _⟩ := h; rfl
  · obtain ⟨c, k, rfl, h0, h1, q⟩ := h
    refine ⟨_, (pss_cons (ps_set (i := 2) sc_L_mix.nd rfl (Or.inl rfl) (pe_op o_mod (pe_op o_mulB (pe_op o_add (pe_op o_add (pe_op o_mod (vr 0) pe_int) (pe_op o_mulB pe_int (vr 1))) pe_int) pe_int) pe_int)) (pss_cons (ps_set (i := 2) sc_L_mix.nd rfl (Or.inl rfl) (pe_op o_mod (pe_op o_add (pe_op o_mulB (vr 2) (vr 2)) (pe_op o_mulB pe_int (vr 1))) pe_int)) (pss_one (ps_ret (pe_op o_mod (pe_op o_mulB (vr 2) (pe_op o_add (vr 2) pe_int)) pe_int))))), ?_⟩
    exact ⟨cp, clB, crB, cp, clB (by omega) (by omega), clB, cp, clB (by omega) (by omega), cp, q _ (by omega)⟩
theorem ok_gcd (T : Txt K mg a) : FnOk P w K mg base CX0 1 a.f_greatest_divisor a.d_greatest_divisor ["one", "other"] spGcd := by
  refine T.F_greatest_divisor.ok sc_greatest_divisor (fun vs H Q E h => ?_) (fun cdv A outer s H vs Q E hr h => ?_)
  · obtain ⟨x, y, rfl, _⟩ := h; rfl
  · obtain ⟨x0, y0, rfl, h0, h1, q⟩ := h
    refine ⟨_, (pss_cons (ps_while PassesOwn.never (pt_truth (vr 1) (fun _ => rfl)) (pss_one (ps_par rfl sc_greatest_divisor.nd (i := 0) (j := 1) rfl rfl (by decide) rfl rfl (pa_cons (vr 1) (pa_cons (pe_op o_mod (vr 0) (vr 1)) pa_nil)) rfl))) (pss_one (ps_ret (vr 0)))), ?_⟩
    refine ⟨fun m σ H' => H' = H ∧ ∃ x y : Int, 0 ≤ x ∧ 0 ≤ y ∧ m = y.toNat ∧ Int.gcd x y = Int.gcd x0 y0 ∧ σ = [some (.int x), some (.int y)], ⟨_, rfl, x0, y0, h0, h1, rfl, rfl, rfl⟩, ?_⟩
    rintro m σ H' ⟨rfl, x, y, hx, hy, rfl, hg, rfl⟩
    refine ⟨_, rfl, ?_⟩
    refine ifB (fun c => ?_) (fun c => ?_)
    · have c' : y ≠ 0 := by simpa using c
      refine ⟨fun σ' H'' => H'' = H' ∧ σ' = [some (.int y), some (.int (x % y))], ?_, ?_⟩
      · rintro σ' H'' ⟨rfl, rfl⟩
        exact ⟨(x % y).toNat, by have := Int.emod_lt_of_pos x (show 0 < y by omega); have := Int.emod_nonneg x c'; omega, rfl, y, x % y, hy, Int.emod_nonneg x c', rfl, by rw [gcd_step, hg], rfl⟩
      · exact ⟨cp (by omega), _, _, rfl, rfl, rfl⟩
    · have c' : y = 0 := by simpa using c
      subst c'
      rw [Int.gcd_zero_right] at hg
      have : x = (Int.gcd x0 y0 : Int) := by omega
      rw [← this] at q
      exact q
theorem ok_share (T : Txt K mg a) : FnOk P w K mg base CX0 2 a.f_share a.d_share ["top", "bottom"] spLow := by
  have G_share : FnOk P w K mg base CX0 1 a.f_share a.d_share ["top", "bottom"] spNo := ok_no
  have G_greatest_divisor : FnOk P w K mg base CX0 1 _ _ _ spGcd := ok_gcd T
  refine T.F_share.ok sc_share (fun vs H Q E h => ?_) (fun cdv A outer s H vs Q E hr h => ?_)
  · obtain ⟨x, y, rfl, _⟩ := h; rfl
  · obtain ⟨t, b, rfl, hb, b1, b2, q⟩ := h
    refine ⟨_, (pss_cons (ps_if (t_cmp o_lt (vr 1) pe_int (nomark _)) (pss_one (ps_ret (pe_call G_share hr rfl T.m_share T.F_share.kp T.B_share .nil pass0 (pa_cons (pe_un u_neg (vr 0)) (pa_cons (pe_un u_neg (vr 1)) pa_nil))))) pss_nil) (pss_cons (ps_set (i := 2) sc_share.nd rfl (Or.inl rfl) (pe_call G_greatest_divisor hr rfl T.m_greatest_divisor T.F_greatest_divisor.kp T.B_greatest_divisor .nil pass0 (pa_cons (pe_callB call_abs rfl T.z_abs bt_abs (pa_cons (vr 0) pa_nil)) (pa_cons (vr 1) pa_nil)))) (pss_one (ps_ret (pe_tup (pa_cons (pe_op o_fdivB (vr 0) (vr 2)) (pa_cons (pe_op o_fdivB (vr 1) (vr 2)) pa_nil))))))), ?_⟩
    obtain ⟨l1, l2, l3, l4, l5⟩ := low t b hb
    refine ifC (fun c => absurd c (by omega)) (fun _ => ?_)
    refine ⟨t, rfl, ⟨_, _, rfl, by split <;> omega, by omega, ?_⟩⟩
    rw [abs_gcd]
    have hd : Bt 3000 (Int.gcd t b : Int) := b2.le (by omega)
    refine ⟨cdB l1 hd, cdB l1 hd, two_le _ _, fun p hp => ?_⟩
    exact q _ p (Same.new hp) upd_same
theorem ok_low (T : Txt K mg a) : FnOk P w K mg base CX0 1 a.f_L_low a.d_L_low ["_law_top", "_law_bottom"] spLow := by
  refine T.F_L_low.ok sc_L_low (fun vs H Q E h => ?_) (fun cdv A outer s H vs Q E hr h => ?_)
  · obtain ⟨x, y, rfl, _⟩ := h; rfl
  · obtain ⟨t, b, rfl, hb, b1, b2, q⟩ := h
    refine ⟨_, (pss_cons (ps_set (i := 2) sc_L_low.nd rfl (Or.inl rfl) (pe_callB call_abs rfl T.z_abs bt_abs (pa_cons (vr 0) pa_nil))) (pss_cons (ps_set (i := 3) sc_L_low.nd rfl (Or.inl rfl) (vr 1)) (pss_cons (ps_while PassesOwn.never (t_cmp o_gt (vr 3) pe_int (nomark _)) (pss_one (ps_par rfl sc_L_low.nd (i := 2) (j := 3) rfl rfl (by decide) rfl rfl (pa_cons (vr 3) (pa_cons (pe_op o_mod (vr 2) (vr 3)) pa_nil)) rfl))) (pss_one (ps_ret (pe_tup (pa_cons (pe_op o_fdivB (vr 0) (vr 2)) (pa_cons (pe_op o_fdivB (vr 1) (vr 2)) pa_nil)))))))), ?_⟩
    obtain ⟨l1, l2, l3, l4, l5⟩ := low t b hb
    have hd : Bt 3000 (Int.gcd t b : Int) := b2.le (by omega)
    refine ⟨t, rfl, ?_⟩
    refine ⟨fun m σ H' => H' = H ∧ ∃ x y : Int, 0 ≤ x ∧ 0 ≤ y ∧ m = y.toNat ∧ Int.gcd x y = Int.gcd t b ∧ σ = [some (.int t), some (.int b), some (.int x), some (.int y)], ⟨_, rfl, _, b, by split <;> omega, by omega, rfl, abs_gcd t b, rfl⟩, ?_⟩
    rintro m σ H' ⟨rfl, x, y, hx, hy, rfl, hg, rfl⟩
    refine ifC (fun c => ?_) (fun c => ?_)
    · have c' : y ≠ 0 := by have z : 0 < y := c; omega
      refine ⟨fun σ' H'' => H'' = H' ∧ σ' = [some (.int t), some (.int b), some (.int y), some (.int (x % y))], ?_, ?_⟩
      · rintro σ' H'' ⟨rfl, rfl⟩
        exact ⟨(x % y).toNat, by have := Int.emod_lt_of_pos x (show 0 < y by omega); have := Int.emod_nonneg x c'; omega, rfl, y, x % y, hy, Int.emod_nonneg x c', rfl, by rw [gcd_step, hg], rfl⟩
      · exact ⟨cp (by omega), _, _, rfl, rfl, rfl⟩
    · have c' : y = 0 := by have z : ¬ 0 < y := c; omega
      subst c'
      rw [Int.gcd_zero_right] at hg
      have e : x = (Int.gcd t b : Int) := by omega
      subst e
      refine ⟨cdB l1 hd, cdB l1 hd, two_le _ _, fun p hp => ?_⟩
      exact q _ p (Same.new hp) upd_same
theorem ok_row (T : Txt K mg a) : FnOk P w K mg base CX0 2 a.f_L_row a.d_L_row ["_law_cell_here", "_law_bit", "_law_many", "_law_most"] spRow := by
  have G_L_mix : FnOk P w K mg base CX0 1 _ _ _ spMix := ok_mix T
  refine T.F_L_row.ok sc_L_row (fun vs H Q E h => ?_) (fun cdv A outer s H vs Q E hr h => ?_)
  · obtain ⟨c, b, n, m, rfl, _⟩ := h; rfl
  · obtain ⟨c, b, n, m, rfl, n0, n1, m0, m1, q⟩ := h
    refine ⟨_, (pss_cons (ps_set (i := 4) sc_L_row.nd rfl (Or.inl rfl) (pe_lst pa_nil)) (pss_cons (ps_for PassesOwn.never rfl (pi_range1 rfl T.z_range (pa_cons (vr 2) pa_nil)) (pg_name (i := 5) sc_L_row.nd rfl (Or.inl rfl)) (pss_one (ps_if (t_cmp o_eq (pe_op o_mod (vr 1) pe_int) pe_int (nomark _)) (pss_cons (ps_expr (pe_m.append (vr 4) (pa_cons (pe_op o_mod (vr 0) (vr 3)) pa_nil))) (pss_one (ps_set (i := 0) sc_L_row.nd rfl (Or.inl rfl) (pe_op o_fdivB (vr 0) (vr 3))))) (pss_one (ps_expr (pe_m.append (vr 4) (pa_cons (pe_op o_mod (pe_call G_L_mix hr rfl T.m_L_mix T.F_L_mix.kp T.B_L_mix .nil pass0 (pa_cons (vr 0) (pa_cons (vr 5) pa_nil))) (vr 3)) pa_nil))))))) (pss_one (ps_ret (vr 4))))), ?_⟩
    have sl : sizeLine = 16777216 := sizeLine_eq
    refine ⟨Nat.zero_le _, fun p hp => ?_⟩
    refine ⟨n, rfl, by omega, by omega, ?_⟩
    refine for_range (fun i σ H' => ∃ (c' : Int) (ns : List Int) (x : Option V), H' = upd H p (.lst (ns.map V.int)) ∧ ns.length = i ∧ (∀ y ∈ ns, 0 ≤ y ∧ y < m) ∧ σ = [some (.int c'), some (.int b), some (.int n), some (.int m), some (.ref p), x]) ⟨c, [], none, rfl, rfl, (fun y hy => by cases hy), rfl⟩ ?_ ?_
    · rintro i σ H' hi ⟨c', ns, x, rfl, hl, hb, rfl⟩
      have sn : ∀ v : Int, 0 ≤ v → v < m → ∀ y ∈ ns ++ [v], 0 ≤ y ∧ y < m := fun v h0 h1 y hy => by
        rcases List.mem_append.mp hy with hy | hy
        · exact hb y hy
        · rw [List.mem_singleton.mp hy]; exact ⟨h0, h1⟩
      have em : ∀ v : Int, (ns.map V.int) ++ [V.int v] = (ns ++ [v]).map V.int := fun v => by rw [List.map_append]; rfl
      have lz : (ns.map V.int).length < sizeLine := by rw [List.length_map]; omega
      refine ⟨cp, ifC (fun _ => ?_) (fun _ => ?_)⟩
      · refine ⟨.inl ⟨rfl, _, SqL.of upd_same⟩, ⟨cp (by omega), ⟨p, _, _, rfl, rfl, upd_same, lz, ?_⟩⟩⟩
        refine ⟨cdB (by omega) (show Bt 40 m by unfold Bt; omega), ?_⟩
        rw [upd_upd, em]
        exact ⟨_, _, _, rfl, by rw [List.length_append, hl]; rfl, sn _ (Int.emod_nonneg _ (by omega)) (Int.emod_lt_of_pos _ (by omega)), rfl⟩
      · refine ⟨.inl ⟨rfl, _, SqL.of upd_same⟩, ⟨c', _, rfl, by omega, by omega, fun r r0 => ⟨cp (by omega), ⟨p, _, _, rfl, rfl, upd_same, lz, ?_⟩⟩⟩⟩
        rw [upd_upd, em]
        exact ⟨_, _, _, rfl, by rw [List.length_append, hl]; rfl, sn _ (Int.emod_nonneg _ (by omega)) (Int.emod_lt_of_pos _ (by omega)), rfl⟩
    · rintro σ H' ⟨c', ns, x, rfl, hl, hb, rfl⟩
      exact q _ p ns (Same.new hp) hp upd_same (by omega) hb
theorem ok_common (T : Txt K mg a) : FnOk P w K mg base CX0 1 a.f_L_common a.d_L_common ["_law_one", "_law_other"] spGcd := by
  refine T.F_L_common.ok sc_L_common (fun vs H Q E h => ?_) (fun cdv A outer s H vs Q E hr h => ?_)
  · obtain ⟨x, y, rfl, _⟩ := h; rfl
  · obtain ⟨x0, y0, rfl, h0, h1, q⟩ := h
    refine ⟨_, (pss_cons (ps_while PassesOwn.never (t_cmp o_gt (vr 1) pe_int (nomark _)) (pss_one (ps_par rfl sc_L_common.nd (i := 0) (j := 1) rfl rfl (by decide) rfl rfl (pa_cons (vr 1) (pa_cons (pe_op o_mod (vr 0) (vr 1)) pa_nil)) rfl))) (pss_one (ps_ret (vr 0)))), ?_⟩
    refine ⟨fun m σ H' => H' = H ∧ ∃ x y : Int, 0 ≤ x ∧ 0 ≤ y ∧ m = y.toNat ∧ Int.gcd x y = Int.gcd x0 y0 ∧ σ = [some (.int x), some (.int y)], ⟨_, rfl, x0, y0, h0, h1, rfl, rfl, rfl⟩, ?_⟩
    rintro m σ H' ⟨rfl, x, y, hx, hy, rfl, hg, rfl⟩
    refine ifC (fun c => ?_) (fun c => ?_)
    · have c' : y ≠ 0 := by have z : 0 < y := c; omega
      refine ⟨fun σ' H'' => H'' = H' ∧ σ' = [some (.int y), some (.int (x % y))], ?_, ?_⟩
      · rintro σ' H'' ⟨rfl, rfl⟩
        exact ⟨(x % y).toNat, by have := Int.emod_lt_of_pos x (show 0 < y by omega); have := Int.emod_nonneg x c'; omega, rfl, y, x % y, hy, Int.emod_nonneg x c', rfl, by rw [gcd_step, hg], rfl⟩
      · exact ⟨cp (by omega), _, _, rfl, rfl, rfl⟩
    · have c' : y = 0 := by have z : ¬ 0 < y := c; omega
      subst c'
      rw [Int.gcd_zero_right] at hg
      have : x = (Int.gcd x0 y0 : Int) := by omega
      rw [← this] at q
      exact q
theorem ok_uns (T : Txt K mg a) : FnOk P w K mg base CX0 1 a.f_is_unsure a.d_is_unsure ["chance"] (spUns K) := by
  refine T.F_is_unsure.ok sc_is_unsure (fun vs H Q E h => ?_) (fun cdv A outer s H vs Q E hr h => ?_)
  · obtain ⟨x, f, rfl, _⟩ := h; rfl
  · obtain ⟨x, f, rfl, ⟨p, rfl, hp⟩, q⟩ := h
    refine ⟨_, (pss_one (ps_ret (m_chain o_lt o_lt pe_int (pe_ix ix_seq (vr 0) pe_int (fun _ _ => rfl)) (pe_ix ix_seq (vr 0) pe_int (fun _ _ => rfl))))), ?_⟩
    refine px0 hp.sq ?_
    refine ifC (fun c => px1 hp.sq ?_) (fun c => ?_)
    · have c : 0 < f.1 := c
      have e : uns f = decide (f.1 < f.2) := by unfold uns; simp [c]
      rw [e] at q
      exact q
    · have c : ¬ 0 < f.1 := c
      have e : uns f = false := by unfold uns; simp [c]
      rw [e] at q
      exact q
theorem ok_lcm (T : Txt K mg a) : FnOk P w K mg base CX0 2 a.f_least_multiple a.d_least_multiple ["numbers"] spLcm := by
  have G_greatest_divisor : FnOk P w K mg base CX0 1 _ _ _ spGcd := ok_gcd T
  refine T.F_least_multiple.ok sc_least_multiple (fun vs H Q E h => ?_) (fun cdv A outer s H vs Q E hr h => ?_)
  · obtain ⟨l, x, y, rfl, _⟩ := h; rfl
  · obtain ⟨l, x, y, rfl, hl, x0, y0, x1, y1, q⟩ := h
    refine ⟨_, (pss_cons (ps_set (i := 1) sc_least_multiple.nd rfl (Or.inl rfl) pe_int) (pss_cons (ps_for PassesOwn.never rfl (pi_any (vr 0)) (pg_name (i := 2) sc_least_multiple.nd rfl (Or.inl rfl)) (pss_one (ps_set (i := 1) sc_least_multiple.nd rfl (Or.inl rfl) (pe_op o_mulB (pe_op o_fdivB (vr 1) (pe_call G_greatest_divisor hr rfl T.m_greatest_divisor T.F_greatest_divisor.kp T.B_greatest_divisor .nil pass0 (pa_cons (vr 1) (pa_cons (vr 2) pa_nil)))) (vr 2))))) (pss_one (ps_ret (vr 1))))), ?_⟩
    refine .inl ⟨⟨_, SqL.of hl⟩, for_list (K := K) (a := l) (xs := [.int x, .int y]) (fun i σ H' => H' = H ∧ ∃ (f : Int) (x2 : Option V), σ = [some (.ref l), some (.int f), x2] ∧ (i = 0 → f = 1) ∧ (i = 1 → f = x) ∧ (i = 2 → f = lcmD x y)) ⟨rfl, 1, none, rfl, fun _ => rfl, (by decide : ¬ 0 = 1).elim, (by decide : ¬ 0 = 2).elim⟩ (fun i σ H' _ h => by rw [h.1]; exact SqL.of hl) ?_ ?_⟩
    · rintro i z σ H' hz ⟨rfl, f, x2, rfl, h0, h1, h2⟩
      have key : ∀ u : Int, 0 < f → f ≤ 1000000000 → 0 < u → u ≤ 1000000000 → 0 < (Int.gcd f u : Int) ∧ Bt 40 (Int.gcd f u : Int) ∧ 0 ≤ f / (Int.gcd f u : Int) ∧ f / (Int.gcd f u : Int) ≤ 1000000000 := fun u f0 f1 u0 u1 => by
        obtain ⟨l1, l2, _⟩ := low f u u0
        refine ⟨l1, by unfold Bt; omega, Int.ediv_nonneg (by omega) (by omega), ?_⟩
        have := Int.ediv_le_self (a := f) (Int.gcd f u : Int) (by omega)
        omega
      match i, hz with
      | 0, hz =>
        cases hz
        cases h0 rfl
        obtain ⟨k1, k2, k3, k4⟩ := key x (by decide) (by decide) x0 x1
        refine ⟨1, x, rfl, by decide, by omega, cdB k1 k2, clB (by omega) (by omega), rfl, _, _, rfl, (fun z => by cases z), (fun _ => ?_), (fun z => by cases z)⟩
        rw [Int.one_gcd]
        show 1 / 1 * x = x
        rw [Int.ediv_self (by decide), Int.one_mul]
      | 1, hz =>
        cases hz
        cases h1 rfl
        obtain ⟨k1, k2, k3, k4⟩ := key y x0 x1 y0 y1
        exact ⟨_, y, rfl, by omega, by omega, cdB k1 k2, clB (by omega) (by omega), rfl, _, _, rfl, (fun z => by cases z), (fun z => by cases z), fun _ => rfl⟩
    · rintro σ H' ⟨rfl, f, x2, rfl, h0, h1, h2⟩
      cases h2 rfl
      exact q
end
end My

set_option Elab.async false
set_option linter.all false
set_option maxRecDepth 100000
set_option maxHeartbeats 4000000
namespace My
open PySem L2 FrM
noncomputable def Two (c e : Int × Int) : Prop := ∃ B : Int, 0 < B ∧ B ≤ 1000000000 ∧ Fr B c ∧ Fr B e ∧ uns c = true ∧ uns e = true
noncomputable def spDuP (K : PySem.W.Frag) : Sp := fun vs H Q _ => ∃ (x y : V) (c e : Int × Int), vs = [x, y] ∧ IsF K H c x ∧ IsF K H e y ∧ Two c e ∧
  ∀ H' l p1 p2 x1 y1 x2 y2, Same H H' → H l = none → H' l = some (.lst [.ref p1, .ref p2]) → H' p1 = some (.tup [.int (du1 c e), x1, y1]) → H' p2 = some (.tup [.int (du2 c e), x2, y2]) →
    IsF K H' (par true c e).1 x1 → IsF K H' (par true c e).2 y1 → IsF K H' (par false c e).1 x2 → IsF K H' (par false c e).2 y2 → Q (.ref l) H'
noncomputable def spDuel (K : PySem.W.Frag) : Sp := fun vs H Q _ => ∃ (x y : V) (c e : Int × Int), vs = [x, y] ∧ IsF K H c x ∧ IsF K H e y ∧ Two c e ∧
  ∀ H' p s n r, Same H H' → H s = none → H' p = some (.tup [.ref s, .ref n, .ref r]) → H' s = some (.lst [.int (du1 c e), .int (du2 c e)]) → H' n = some (.tup [.int (duE c e).1, .int (duE c e).2]) → H' r = some (.tup [.int (duR c e).1, .int (duR c e).2]) → Q (.ref p) H'
theorem Two.facts {c e : Int × Int} (h : Two c e) : 0 < c.1 ∧ c.1 < c.2 ∧ c.2 ≤ 1000000000 ∧ 0 < e.1 ∧ e.1 < e.2 ∧ e.2 ≤ 1000000000 ∧ 0 < lcmD c.2 e.2 ∧ lcmD c.2 e.2 ≤ 1000000000 ∧ 0 < duA c e ∧ duA c e < lcmD c.2 e.2 ∧ 0 < duB c e ∧ duB c e < lcmD c.2 e.2 := by
  obtain ⟨B, b0, b1, h1, h2, h3, h4⟩ := h
  obtain ⟨d0, d1, d2, a0, a1, b2, b3⟩ := du_pos b0 h1 h2 h3 h4
  have u1 : 0 < c.1 ∧ c.1 < c.2 := of_decide_eq_true h3
  have u2 : 0 < e.1 ∧ e.1 < e.2 := of_decide_eq_true h4
  have k1 := Int.le_of_dvd b0 h1.2.2.2
  have k2 := Int.le_of_dvd b0 h2.2.2.2
  exact ⟨u1.1, u1.2, by omega, u2.1, u2.2, by omega, d0, by omega, a0, a1, b2, b3⟩
theorem bt40 {i : Int} (h0 : 0 ≤ i) (h1 : i ≤ 4000000000) : Bt 3000 i := (show Bt 40 i by unfold Bt; omega).mono (by decide)
section
variable {P : Program} {w : World} {K : PySem.W.Frag} {mg : Str → Option Value} {base : Heap} {a : Ad}
theorem ok_dup (T : Txt K mg a) : FnOk P w K mg base CX0 3 a.f_duel_parts a.d_duel_parts ["one", "other"] (spDuP K) := by
  have G_least_multiple : FnOk P w K mg base CX0 2 _ _ _ spLcm := ok_lcm T
  have G_share : FnOk P w K mg base CX0 2 _ _ _ spLow := ok_share T
  refine T.F_duel_parts.ok sc_duel_parts (fun vs H Q E h => ?_) (fun cdv A outer s H vs Q E hr h => ?_)
  · obtain ⟨x, y, c, e, rfl, _⟩ := h; rfl
  · obtain ⟨x, y, c, e, rfl, hc, he, h2, q⟩ := h
    obtain ⟨c0, c1, c2, e0, e1, e2, d0, d1, a0, a1, b0, b1⟩ := h2.facts
    have ic : ∀ {H' : Hp}, Same H H' → IsF K H' c x := fun s => hc.same s
    have ie : ∀ {H' : Hp}, Same H H' → IsF K H' e y := fun s => he.same s
    obtain ⟨pc, rfl, hpc⟩ := id hc
    obtain ⟨pe, rfl, hpe⟩ := id he
    refine ⟨_, (pss_cons (ps_set (i := 2) sc_duel_parts.nd rfl (Or.inl rfl) (pe_call G_least_multiple hr rfl T.m_least_multiple T.F_least_multiple.kp T.B_least_multiple .nil pass0 (pa_cons (pe_lst (pa_cons (pe_ix ix_seq (vr 0) pe_int (fun _ _ => rfl)) (pa_cons (pe_ix ix_seq (vr 1) pe_int (fun _ _ => rfl)) pa_nil))) pa_nil))) (pss_cons (ps_set (i := 3) sc_duel_parts.nd rfl (Or.inl rfl) (pe_op o_mulB (pe_ix ix_seq (vr 0) pe_int (fun _ _ => rfl)) (pe_op o_fdivB (vr 2) (pe_ix ix_seq (vr 0) pe_int (fun _ _ => rfl))))) (pss_cons (ps_set (i := 4) sc_duel_parts.nd rfl (Or.inl rfl) (pe_op o_mulB (pe_ix ix_seq (vr 1) pe_int (fun _ _ => rfl)) (pe_op o_fdivB (vr 2) (pe_ix ix_seq (vr 1) pe_int (fun _ _ => rfl))))) (pss_cons (ps_if (t_cmp o_lt (pe_op o_add (vr 3) (vr 4)) (vr 2) (nomark _)) (pss_cons (ps_set (i := 5) sc_duel_parts.nd rfl (Or.inl rfl) (pe_call G_share hr rfl T.m_share T.F_share.kp T.B_share .nil pass0 (pa_cons (pe_op o_add (vr 3) (vr 4)) (pa_cons (vr 2) pa_nil)))) (pss_one (ps_ret (pe_lst (pa_cons (pe_tup (pa_cons (vr 3) (pa_cons (vr 5) (pa_cons (pe_gl rfl T.g_NOUGHT) pa_nil)))) (pa_cons (pe_tup (pa_cons (vr 4) (pa_cons (pe_gl rfl T.g_NOUGHT) (pa_cons (vr 5) pa_nil)))) pa_nil)))))) pss_nil) (pss_cons (ps_set (i := 5) sc_duel_parts.nd rfl (Or.inl rfl) (pe_call G_share hr rfl T.m_share T.F_share.kp T.B_share .nil pass0 (pa_cons (pe_op o_sub (pe_op o_add (vr 3) (vr 4)) (vr 2)) (pa_cons (vr 2) pa_nil)))) (pss_one (ps_ret (pe_lst (pa_cons (pe_tup (pa_cons (pe_op o_sub (vr 2) (vr 4)) (pa_cons (pe_gl rfl T.g_WHOLE) (pa_cons (vr 5) pa_nil)))) (pa_cons (pe_tup (pa_cons (pe_op o_sub (vr 2) (vr 3)) (pa_cons (vr 5) (pa_cons (pe_gl rfl T.g_WHOLE) pa_nil)))) pa_nil)))))))))), ?_⟩
    refine px1 hpc.sq (px1 hpe.sq ⟨two_le _ _, fun l0 fl0 => ⟨l0, c.2, e.2, rfl, upd_same, by omega, by omega, c2, e2, ?_⟩⟩)
    have s1 := Same.new (o := .lst [.int c.2, .int e.2]) fl0
    generalize upd H l0 (.lst [.int c.2, .int e.2]) = H1 at s1
    have hc1 : PT K H1 pc c := by obtain ⟨p, z, h⟩ := ic s1; cases z; exact h
    have he1 : PT K H1 pe e := by obtain ⟨p, z, h⟩ := ie s1; cases z; exact h
    refine px0 hc1.sq (px1 hc1.sq ⟨cdB (by omega) (bt40 (by omega) (by omega)), clB (by omega) (by omega), ?_⟩)
    refine px0 he1.sq (px1 he1.sq ⟨cdB (by omega) (bt40 (by omega) (by omega)), clB (by omega) (by omega), ?_⟩)
    refine ifC (fun hlt => ?_) fun hlt => ?_
    · have hlt : duA c e + duB c e < lcmD c.2 e.2 := hlt
      have hL : duL c e = true := decide_eq_true hlt
      refine ⟨duA c e + duB c e, lcmD c.2 e.2, rfl, d0, bt40 (by omega) (by omega), bt40 (by omega) (by omega), fun H2 p s2 hp => ?_⟩
      refine ⟨by show 3 ≤ sizeLine; decide, fun p1 f1 => ?_⟩
      have s3 := Same.new (o := .tup [.int (duA c e), .ref p, .ref a.k_NOUGHT]) f1
      refine ⟨by show 3 ≤ sizeLine; decide, fun p2 f2 => ?_⟩
      have s4 := Same.new (o := .tup [.int (duB c e), .ref a.k_NOUGHT, .ref p]) f2
      refine ⟨two_le _ _, fun l fl => ?_⟩
      have s5 := Same.new (o := .lst [.ref p1, .ref p2]) fl
      have s35 := s3.trans (s4.trans s5)
      have hR : duR c e = lowP (duA c e + duB c e) (lcmD c.2 e.2) := by unfold duR; rw [if_pos hL]
      have hE : duE c e = (0, 1) := by unfold duE; rw [if_pos hL]
      have fR : ∀ {H' : Hp}, Same H2 H' → IsF K H' (duR c e) (.ref p) := fun s => ⟨p, rfl, .inl (by rw [hR]; exact s _ _ hp)⟩
      have fE : ∀ {H' : Hp}, IsF K H' (duE c e) (.ref a.k_NOUGHT) := ⟨_, rfl, .inr (by rw [hE]; exact T.t_NOUGHT)⟩
      have pt : par true c e = (duR c e, duE c e) := by unfold par; rw [hL, if_pos rfl]
      have pf : par false c e = (duE c e, duR c e) := by unfold par; rw [hL, if_neg (by decide)]
      have nl : H l = none := by
        cases hh : H l with
        | none => rfl
        | some o => exact absurd (fl.symm.trans ((s3.trans s4) _ _ ((s1.trans s2) _ _ hh))) (by simp)
      refine q _ l p1 p2 (.ref p) (.ref a.k_NOUGHT) (.ref a.k_NOUGHT) (.ref p) ((s1.trans s2).trans s35) nl upd_same ?_ ?_ ?_ ?_ ?_ ?_
      · rw [show du1 c e = duA c e by unfold du1; rw [if_pos hL]]; exact (s4.trans s5) _ _ upd_same
      · rw [show du2 c e = duB c e by unfold du2; rw [if_pos hL]]; exact s5 _ _ upd_same
      · rw [pt]; exact fR s35
      · rw [pt]; exact fE
      · rw [pf]; exact fE
      · rw [pf]; exact fR s35
    · have hlt : ¬ duA c e + duB c e < lcmD c.2 e.2 := hlt
      have hL : duL c e = false := decide_eq_false hlt
      have hL' : ¬ duL c e = true := by rw [hL]; decide
      refine ⟨duA c e + duB c e - lcmD c.2 e.2, lcmD c.2 e.2, rfl, d0, bt40 (by omega) (by omega), bt40 (by omega) (by omega), fun H2 p s2 hp => ?_⟩
      refine ⟨by show 3 ≤ sizeLine; decide, fun p1 f1 => ?_⟩
      have s3 := Same.new (o := .tup [.int (lcmD c.2 e.2 - duB c e), .ref a.k_WHOLE, .ref p]) f1
      refine ⟨by show 3 ≤ sizeLine; decide, fun p2 f2 => ?_⟩
      have s4 := Same.new (o := .tup [.int (lcmD c.2 e.2 - duA c e), .ref p, .ref a.k_WHOLE]) f2
      refine ⟨two_le _ _, fun l fl => ?_⟩
      have s5 := Same.new (o := .lst [.ref p1, .ref p2]) fl
      have s35 := s3.trans (s4.trans s5)
      have hR : duR c e = lowP (duA c e + duB c e - lcmD c.2 e.2) (lcmD c.2 e.2) := by unfold duR; rw [if_neg hL']
      have hE : duE c e = (1, 1) := by unfold duE; rw [if_neg hL']
      have fR : ∀ {H' : Hp}, Same H2 H' → IsF K H' (duR c e) (.ref p) := fun s => ⟨p, rfl, .inl (by rw [hR]; exact s _ _ hp)⟩
      have fE : ∀ {H' : Hp}, IsF K H' (duE c e) (.ref a.k_WHOLE) := ⟨_, rfl, .inr (by rw [hE]; exact T.t_WHOLE)⟩
      have pt : par true c e = (duE c e, duR c e) := by unfold par; rw [hL, if_neg (by decide)]
      have pf : par false c e = (duR c e, duE c e) := by unfold par; rw [hL, if_pos rfl]
      have nl : H l = none := by
        cases hh : H l with
        | none => rfl
        | some o => exact absurd (fl.symm.trans ((s3.trans s4) _ _ ((s1.trans s2) _ _ hh))) (by simp)
      refine q _ l p1 p2 (.ref a.k_WHOLE) (.ref p) (.ref p) (.ref a.k_WHOLE) ((s1.trans s2).trans s35) nl upd_same ?_ ?_ ?_ ?_ ?_ ?_
      · rw [show du1 c e = lcmD c.2 e.2 - duB c e by unfold du1; rw [if_neg hL']]; exact (s4.trans s5) _ _ upd_same
      · rw [show du2 c e = lcmD c.2 e.2 - duA c e by unfold du2; rw [if_neg hL']]; exact s5 _ _ upd_same
      · rw [pt]; exact fE
      · rw [pt]; exact fR s35
      · rw [pf]; exact fR s35
      · rw [pf]; exact fE
theorem ok_duel (T : Txt K mg a) : FnOk P w K mg base CX0 2 a.f_L_duel a.d_L_duel ["_law_first", "_law_second"] (spDuel K) := by
  have G_L_common : FnOk P w K mg base CX0 1 _ _ _ spGcd := ok_common T
  have G_L_low : FnOk P w K mg base CX0 1 _ _ _ spLow := ok_low T
  refine T.F_L_duel.ok sc_L_duel (fun vs H Q E h => ?_) (fun cdv A outer s H vs Q E hr h => ?_)
  · obtain ⟨x, y, c, e, rfl, _⟩ := h; rfl
  · obtain ⟨x, y, c, e, rfl, hc, he, h2, q⟩ := h
    obtain ⟨c0, c1, c2, e0, e1, e2, d0, d1, a0, a1, b0, b1⟩ := h2.facts
    obtain ⟨pc, rfl, hpc⟩ := id hc
    obtain ⟨pe, rfl, hpe⟩ := id he
    refine ⟨_, (pss_cons (ps_set (i := 2) sc_L_duel.nd rfl (Or.inl rfl) (pe_op o_fdivB (pe_op o_mulB (pe_ix ix_seq (vr 0) pe_int (fun _ _ => rfl)) (pe_ix ix_seq (vr 1) pe_int (fun _ _ => rfl))) (pe_call G_L_common hr rfl T.m_L_common T.F_L_common.kp T.B_L_common .nil pass0 (pa_cons (pe_ix ix_seq (vr 0) pe_int (fun _ _ => rfl)) (pa_cons (pe_ix ix_seq (vr 1) pe_int (fun _ _ => rfl)) pa_nil))))) (pss_cons (ps_set (i := 3) sc_L_duel.nd rfl (Or.inl rfl) (pe_op o_mulB (pe_ix ix_seq (vr 0) pe_int (fun _ _ => rfl)) (pe_op o_fdivB (vr 2) (pe_ix ix_seq (vr 0) pe_int (fun _ _ => rfl))))) (pss_cons (ps_set (i := 4) sc_L_duel.nd rfl (Or.inl rfl) (pe_op o_mulB (pe_ix ix_seq (vr 1) pe_int (fun _ _ => rfl)) (pe_op o_fdivB (vr 2) (pe_ix ix_seq (vr 1) pe_int (fun _ _ => rfl))))) (pss_cons (ps_if (t_cmp o_lt (pe_op o_add (vr 3) (vr 4)) (vr 2) (nomark _)) (pss_one (ps_ret (pe_tup (pa_cons (pe_lst (pa_cons (vr 3) (pa_cons (vr 4) pa_nil))) (pa_cons (pe_tup (pa_cons pe_int (pa_cons pe_int pa_nil))) (pa_cons (pe_call G_L_low hr rfl T.m_L_low T.F_L_low.kp T.B_L_low .nil pass0 (pa_cons (pe_op o_add (vr 3) (vr 4)) (pa_cons (vr 2) pa_nil))) pa_nil)))))) pss_nil) (pss_one (ps_ret (pe_tup (pa_cons (pe_lst (pa_cons (pe_op o_sub (vr 2) (vr 4)) (pa_cons (pe_op o_sub (vr 2) (vr 3)) pa_nil))) (pa_cons (pe_tup (pa_cons pe_int (pa_cons pe_int pa_nil))) (pa_cons (pe_call G_L_low hr rfl T.m_L_low T.F_L_low.kp T.B_L_low .nil pass0 (pa_cons (pe_op o_sub (pe_op o_add (vr 3) (vr 4)) (vr 2)) (pa_cons (vr 2) pa_nil))) pa_nil)))))))))), ?_⟩
    have hg := (low c.2 e.2 (by omega)).1
    have hg2 := (low c.2 e.2 (by omega)).2.1
    refine px1 hpc.sq (px1 hpe.sq ⟨clB (by omega) (by omega), px1 hpc.sq (px1 hpe.sq ⟨c.2, e.2, rfl, by omega, by omega, cdB hg (bt40 (by omega) (by omega)), ?_⟩)⟩)
    dsimp only
    rw [lcmD_mul (show 0 < c.2 by omega) (show 0 < e.2 by omega)]
    refine px0 hpc.sq (px1 hpc.sq ⟨cdB (by omega) (bt40 (by omega) (by omega)), clB (by omega) (by omega), ?_⟩)
    refine px0 hpe.sq (px1 hpe.sq ⟨cdB (by omega) (bt40 (by omega) (by omega)), clB (by omega) (by omega), ?_⟩)
    refine ifC (fun hlt => ?_) fun hlt => ?_
    · have hlt : duA c e + duB c e < lcmD c.2 e.2 := hlt
      have hL : duL c e = true := decide_eq_true hlt
      refine ⟨two_le _ _, fun sl fs => ?_⟩
      have s1 := Same.new (o := .lst [.int (duA c e), .int (duB c e)]) fs
      refine ⟨two_le _ _, fun ne fn => ?_⟩
      have s2 := Same.new (o := .tup [.int 0, .int 1]) fn
      refine ⟨duA c e + duB c e, lcmD c.2 e.2, rfl, d0, bt40 (by omega) (by omega), bt40 (by omega) (by omega), fun H2 p s3 hp => ?_⟩
      refine ⟨by show 3 ≤ sizeLine; decide, fun p1 f1 => ?_⟩
      have s4 := Same.new (o := .tup [.ref sl, .ref ne, .ref p]) f1
      have hR : duR c e = lowP (duA c e + duB c e) (lcmD c.2 e.2) := by unfold duR; rw [if_pos hL]
      have hE : duE c e = (0, 1) := by unfold duE; rw [if_pos hL]
      refine q _ p1 sl ne p ((s1.trans s2).trans (s3.trans s4)) fs upd_same ?_ ?_ ?_
      · rw [show du1 c e = duA c e by unfold du1; rw [if_pos hL], show du2 c e = duB c e by unfold du2; rw [if_pos hL]]; exact (s2.trans (s3.trans s4)) _ _ upd_same
      · rw [hE]; exact (s3.trans s4) _ _ upd_same
      · rw [hR]; exact s4 _ _ hp
    · have hlt : ¬ duA c e + duB c e < lcmD c.2 e.2 := hlt
      have hL : duL c e = false := decide_eq_false hlt
      have hL' : ¬ duL c e = true := by rw [hL]; decide
      refine ⟨two_le _ _, fun sl fs => ?_⟩
      have s1 := Same.new (o := .lst [.int (lcmD c.2 e.2 - duB c e), .int (lcmD c.2 e.2 - duA c e)]) fs
      refine ⟨two_le _ _, fun ne fn => ?_⟩
      have s2 := Same.new (o := .tup [.int 1, .int 1]) fn
      refine ⟨duA c e + duB c e - lcmD c.2 e.2, lcmD c.2 e.2, rfl, d0, bt40 (by omega) (by omega), bt40 (by omega) (by omega), fun H2 p s3 hp => ?_⟩
      refine ⟨by show 3 ≤ sizeLine; decide, fun p1 f1 => ?_⟩
      have s4 := Same.new (o := .tup [.ref sl, .ref ne, .ref p]) f1
      have hR : duR c e = lowP (duA c e + duB c e - lcmD c.2 e.2) (lcmD c.2 e.2) := by unfold duR; rw [if_neg hL']
      have hE : duE c e = (1, 1) := by unfold duE; rw [if_neg hL']
      refine q _ p1 sl ne p ((s1.trans s2).trans (s3.trans s4)) fs upd_same ?_ ?_ ?_
      · rw [show du1 c e = lcmD c.2 e.2 - duB c e by unfold du1; rw [if_neg hL'], show du2 c e = lcmD c.2 e.2 - duA c e by unfold du2; rw [if_neg hL']]; exact (s2.trans (s3.trans s4)) _ _ upd_same
      · rw [hE]; exact (s3.trans s4) _ _ upd_same
      · rw [hR]; exact s4 _ _ hp
end
end My

set_option Elab.async false
set_option linter.all false
set_option maxRecDepth 100000
set_option maxHeartbeats 4000000
namespace My
open PySem L2 FrM
noncomputable def Srt (ns kept : List Int) : Prop := ns.Perm kept ∧ ns.Pairwise (· ≤ ·)
noncomputable def IsTold (a : Ad) (H : Hp) (v : V) (kept : List Int) : Prop := ∃ x dx t ns, v = .ref x ∧ H x = some (.ins a.c_Told dx [("rising", .ref t)]) ∧ H t = some (.tup (ns.map V.int)) ∧ Srt ns kept
noncomputable def IsLam (H : Hp) (d : LamD) (fv : List Str) (v : V) (vals : List V) : Prop := ∃ f c clos, v = .ref f ∧ H f = some (.ext (LamX f d clos c)) ∧ H c = some (.ext (CodeX c d.qual)) ∧ clos.map (·.1) = fv ∧ (clos.map (·.2)).Nodup ∧ CellsAt H clos vals
theorem cells_t {H H' : Hp} (s : SameT H H') : ∀ {clos : List (Str × Addr)} {vals : List V}, CellsAt H clos vals → CellsAt H' clos vals
  | _, _, .nil => .nil
  | _, _, .cons r t => .cons (s.at r) (cells_t s t)
theorem IsLam.t {H H' : Hp} {d : LamD} {fv : List Str} {v : V} {vals : List V} (s : SameT H H') (h : IsLam H d fv v vals) : IsLam H' d fv v vals := by
  obtain ⟨f, c, clos, h1, h2, h3, h4, h5, h6⟩ := h
  exact ⟨f, c, clos, h1, s.at h2, s.at h3, h4, h5, cells_t s h6⟩
theorem IsTold.t {a : Ad} {H H' : Hp} {v : V} {kept : List Int} (s : SameT H H') (h : IsTold a H v kept) : IsTold a H' v kept := by
  obtain ⟨x, dx, t, ns, h1, h2, h3, h4⟩ := h
  exact ⟨x, dx, t, ns, h1, s.at h2, s.at h3, h4⟩
noncomputable def LstI (H : Hp) (v : V) (ns : List Int) : Prop := ∃ l, v = .ref l ∧ H l = some (.lst (ns.map V.int))
theorem LstI.t {H H' : Hp} {v : V} {ns : List Int} (s : SameT H H') (h : LstI H v ns) : LstI H' v ns := by
  obtain ⟨l, h1, h2⟩ := h
  exact ⟨l, h1, s.at h2⟩
theorem IsF.t {K : PySem.W.Frag} {H H' : Hp} {f : Int × Int} {x : V} (s : SameT H H') (h : IsF K H f x) : IsF K H' f x := let ⟨p, e, q⟩ := h; ⟨p, e, q.imp (fun z => s.at z) id⟩
noncomputable abbrev fvS : List Str := ["told", "taken"]
noncomputable abbrev fvA : List Str := ["taken", "place"]
noncomputable abbrev fvB : List Str := ["taken"]
noncomputable def PrAt (K : PySem.W.Frag) (H : Hp) (x : Int × (Int × Int)) (v : V) : Prop := ∃ q y, v = .ref q ∧ H q = some (.tup [.int x.1, y]) ∧ IsF K H x.2 y
theorem PrAt.t {K : PySem.W.Frag} {H H' : Hp} (s : SameT H H') (x : Int × (Int × Int)) (v : V) (h : PrAt K H x v) : PrAt K H' x v := let ⟨q, y, h1, h2, h3⟩ := h; ⟨q, y, h1, s.at h2, h3.t s⟩
theorem paired_imp {α β : Type} {r r' : α → β → Prop} (h : ∀ a b, r a b → r' a b) : ∀ {as : List α} {bs : List β}, Paired r as bs → Paired r' as bs
  | _, _, .nil => .nil
  | _, _, .cons x t => .cons (h _ _ x) (paired_imp h t)
theorem paired_snoc {α β : Type} {r : α → β → Prop} {a : α} {b : β} (h : r a b) : ∀ {as : List α} {bs : List β}, Paired r as bs → Paired r (as ++ [a]) (bs ++ [b])
  | _, _, .nil => .cons h .nil
  | _, _, .cons x t => .cons x (paired_snoc h t)
theorem paired_get {α β : Type} {r : α → β → Prop} : ∀ {as : List α} {bs : List β} {i : Nat} {y : β}, Paired r as bs → bs[i]? = some y → ∃ x, as[i]? = some x ∧ r x y
  | _, _, _, _, .nil, h => by cases h
  | _, _, 0, _, .cons r _, h => ⟨_, rfl, by cases h; exact r⟩
  | _, _, i + 1, _, .cons _ t, h => paired_get (i := i) t h
theorem paired_app {α β : Type} {r : α → β → Prop} {cs : List α} {ds : List β} (h2 : Paired r cs ds) : ∀ {as : List α} {bs : List β}, Paired r as bs → Paired r (as ++ cs) (bs ++ ds)
  | _, _, .nil => h2
  | _, _, .cons x t => .cons x (paired_app h2 t)
noncomputable def TlAt (K : PySem.W.Frag) (H : Hp) (v : V) (tl : Tl) : Prop := ∃ l xs, v = .ref l ∧ H l = some (.lst xs) ∧ Paired (PrAt K H) tl xs
theorem TlAt.t {K : PySem.W.Frag} {H H' : Hp} {v : V} {tl : Tl} (s : SameT H H') (h : TlAt K H v tl) : TlAt K H' v tl := let ⟨l, xs, h1, h2, h3⟩ := h; ⟨l, xs, h1, s.at h2, paired_imp (PrAt.t s) h3⟩
noncomputable def BB (B : Int) : Prop := 0 < B ∧ B ≤ 1000000000
noncomputable def IsMk (K : PySem.W.Frag) (H : Hp) (f : V) (S : Tl × List Int) : Prop :=
  (∃ vt vk tl tk B, IsLam H ld_settled_make_1 fvS f [vt, vk] ∧ TlAt K H vt tl ∧ LstI H vk tk ∧ BB B ∧ WfS B tl tk ∧ S = sett tl tk) ∨
  (∃ vk p tk, IsLam H ld_last_die_1 fvA f [vk, .int p] ∧ LstI H vk tk ∧ tk.length < 24 ∧ S = ([], tk ++ [p])) ∨
  (∃ vk tk, IsLam H ld_last_die_2 fvB f [vk] ∧ LstI H vk tk ∧ tk.length ≤ 24 ∧ S = ([], tk))
theorem IsMk.t {K : PySem.W.Frag} {H H' : Hp} {f : V} {S : Tl × List Int} (s : SameT H H') (h : IsMk K H f S) : IsMk K H' f S := by
  rcases h with ⟨vt, vk, tl, tk, B, h1, h2, h3, h4⟩ | ⟨vk, p, tk, h1, h2, h3⟩ | ⟨vk, tk, h1, h2, h3⟩
  · exact .inl ⟨vt, vk, tl, tk, B, h1.t s, h2.t s, h3.t s, h4⟩
  · exact .inr (.inl ⟨vk, p, tk, h1.t s, h2.t s, h3⟩)
  · exact .inr (.inr ⟨vk, tk, h1.t s, h2.t s, h3⟩)
noncomputable def IsDie (K : PySem.W.Frag) (a : Ad) (H : Hp) (v : V) (m1 m2 : Int) (S1 S2 : Tl × List Int) : Prop := ∃ x dx l p1 p2 f1 f2, v = .ref x ∧ H x = some (.ins a.c_Die dx [("makes", .ref l)]) ∧ H l = some (.lst [.ref p1, .ref p2]) ∧ H p1 = some (.tup [.int m1, f1]) ∧ H p2 = some (.tup [.int m2, f2]) ∧ IsMk K H f1 S1 ∧ IsMk K H f2 S2
theorem IsDie.t {K : PySem.W.Frag} {a : Ad} {H H' : Hp} {v : V} {m1 m2 : Int} {S1 S2 : Tl × List Int} (s : SameT H H') (h : IsDie K a H v m1 m2 S1 S2) : IsDie K a H' v m1 m2 S1 S2 := by
  obtain ⟨x, dx, l, p1, p2, f1, f2, h1, h2, h3, h4, h5, h6, h7⟩ := h
  exact ⟨x, dx, l, p1, p2, f1, f2, h1, s.at h2, s.at h3, s.at h4, s.at h5, h6.t s, h7.t s⟩
noncomputable def IsNode (K : PySem.W.Frag) (a : Ad) (H : Hp) (v : V) (S : Tl × List Int) : Prop := (S.1 = [] ∧ IsTold a H v S.2) ∨ (S.1 ≠ [] ∧ IsDie K a H v (sz1 S.1) (sz2 S.1) (nx true S.1 S.2) (nx false S.1 S.2))
theorem IsNode.t {K : PySem.W.Frag} {a : Ad} {H H' : Hp} {v : V} {S : Tl × List Int} (s : SameT H H') (h : IsNode K a H v S) : IsNode K a H' v S := h.imp (fun ⟨x, y⟩ => ⟨x, y.t s⟩) fun ⟨x, y⟩ => ⟨x, y.t s⟩
/-! the same, and where the lists stand -/
noncomputable def nA (N : Addr → Prop) (v : V) : Prop := ∀ l, v = .ref l → N l
noncomputable def IsMkN (K : PySem.W.Frag) (N : Addr → Prop) (H : Hp) (f : V) (S : Tl × List Int) : Prop :=
  (∃ vt vk tl tk B, IsLam H ld_settled_make_1 fvS f [vt, vk] ∧ TlAt K H vt tl ∧ LstI H vk tk ∧ BB B ∧ WfS B tl tk ∧ S = sett tl tk ∧ nA N vt ∧ nA N vk) ∨
  (∃ vk p tk, IsLam H ld_last_die_1 fvA f [vk, .int p] ∧ LstI H vk tk ∧ tk.length < 24 ∧ S = ([], tk ++ [p]) ∧ nA N vk) ∨
  (∃ vk tk, IsLam H ld_last_die_2 fvB f [vk] ∧ LstI H vk tk ∧ tk.length ≤ 24 ∧ S = ([], tk) ∧ nA N vk)
theorem IsMkN.w {K : PySem.W.Frag} {N : Addr → Prop} {H : Hp} {f : V} {S : Tl × List Int} (h : IsMkN K N H f S) : IsMk K H f S := by
  rcases h with ⟨vt, vk, tl, tk, B, h1, h2, h3, h4, h5, h6, _⟩ | ⟨vk, p, tk, h1, h2, h3, h4, _⟩ | ⟨vk, tk, h1, h2, h3, h4, _⟩
  · exact .inl ⟨vt, vk, tl, tk, B, h1, h2, h3, h4, h5, h6⟩
  · exact .inr (.inl ⟨vk, p, tk, h1, h2, h3, h4⟩)
  · exact .inr (.inr ⟨vk, tk, h1, h2, h3, h4⟩)
theorem IsMkN.t {K : PySem.W.Frag} {N : Addr → Prop} {H H' : Hp} {f : V} {S : Tl × List Int} (s : SameT H H') (h : IsMkN K N H f S) : IsMkN K N H' f S := by
  rcases h with ⟨vt, vk, tl, tk, B, h1, h2, h3, h4⟩ | ⟨vk, p, tk, h1, h2, h3⟩ | ⟨vk, tk, h1, h2, h3⟩
  · exact .inl ⟨vt, vk, tl, tk, B, h1.t s, h2.t s, h3.t s, h4⟩
  · exact .inr (.inl ⟨vk, p, tk, h1.t s, h2.t s, h3⟩)
  · exact .inr (.inr ⟨vk, tk, h1.t s, h2.t s, h3⟩)
noncomputable def IsDieN (K : PySem.W.Frag) (a : Ad) (N : Addr → Prop) (H : Hp) (v : V) (m1 m2 : Int) (S1 S2 : Tl × List Int) : Prop := ∃ x dx l p1 p2 f1 f2, v = .ref x ∧ H x = some (.ins a.c_Die dx [("makes", .ref l)]) ∧ H l = some (.lst [.ref p1, .ref p2]) ∧ H p1 = some (.tup [.int m1, f1]) ∧ H p2 = some (.tup [.int m2, f2]) ∧ IsMkN K N H f1 S1 ∧ IsMkN K N H f2 S2 ∧ N l
noncomputable def IsNodeN (K : PySem.W.Frag) (a : Ad) (N : Addr → Prop) (H : Hp) (v : V) (S : Tl × List Int) : Prop := (S.1 = [] ∧ IsTold a H v S.2) ∨ (S.1 ≠ [] ∧ IsDieN K a N H v (sz1 S.1) (sz2 S.1) (nx true S.1 S.2) (nx false S.1 S.2))
theorem IsNodeN.w {K : PySem.W.Frag} {a : Ad} {N : Addr → Prop} {H : Hp} {v : V} {S : Tl × List Int} (h : IsNodeN K a N H v S) : IsNode K a H v S := by
  rcases h with h | ⟨h0, x, dx, l, p1, p2, f1, f2, h1, h2, h3, h4, h5, h6, h7, _⟩
  · exact .inl h
  · exact .inr ⟨h0, x, dx, l, p1, p2, f1, f2, h1, h2, h3, h4, h5, h6.w, h7.w⟩
theorem IsNodeN.t {K : PySem.W.Frag} {a : Ad} {N : Addr → Prop} {H H' : Hp} {v : V} {S : Tl × List Int} (s : SameT H H') (h : IsNodeN K a N H v S) : IsNodeN K a N H' v S := by
  rcases h with ⟨h0, h⟩ | ⟨h0, x, dx, l, p1, p2, f1, f2, h1, h2, h3, h4, h5, h6, h7, h8⟩
  · exact .inl ⟨h0, h.t s⟩
  · exact .inr ⟨h0, x, dx, l, p1, p2, f1, f2, h1, s.at h2, s.at h3, s.at h4, s.at h5, h6.t s, h7.t s, h8⟩
/-- a list that is none of these may be written -/
theorem cells_put {H : Hp} {D : Addr} {ys zs : List V} (e : H D = some (.lst ys)) : ∀ {clos : List (Str × Addr)} {vals : List V}, CellsAt H clos vals → CellsAt (upd H D (.lst zs)) clos vals
  | _, _, .nil => .nil
  | _, _, .cons r t => .cons (by rw [upd_ne (fun z => by rw [z, e] at r; cases r)]; exact r) (cells_put e t)
theorem IsLam.put {H : Hp} {D : Addr} {ys zs : List V} {d : LamD} {fv : List Str} {f : V} {vals : List V} (e : H D = some (.lst ys)) (h : IsLam H d fv f vals) : IsLam (upd H D (.lst zs)) d fv f vals := by
  obtain ⟨f', c, clos, h1, h2, h3, h4, h5, h6⟩ := h
  exact ⟨f', c, clos, h1, by rw [upd_ne (fun z => by rw [z, e] at h2; cases h2)]; exact h2, by rw [upd_ne (fun z => by rw [z, e] at h3; cases h3)]; exact h3, h4, h5, cells_put e h6⟩
theorem LstI.put {H : Hp} {D : Addr} {zs : List V} {v : V} {ns : List Int} (n : nA (· ≠ D) v) (h : LstI H v ns) : LstI (upd H D (.lst zs)) v ns := by
  obtain ⟨l, h1, h2⟩ := h
  exact ⟨l, h1, by rw [upd_ne (n l h1)]; exact h2⟩
theorem PrAt.put {K : PySem.W.Frag} {H : Hp} {D : Addr} {ys zs : List V} (e : H D = some (.lst ys)) (x : Int × (Int × Int)) (v : V) (h : PrAt K H x v) : PrAt K (upd H D (.lst zs)) x v := by
  obtain ⟨q, y, h1, h2, p, h3, h4⟩ := h
  exact ⟨q, y, h1, by rw [upd_ne (fun z => by rw [z, e] at h2; cases h2)]; exact h2, p, h3, h4.imp (fun z => by rw [upd_ne (fun w => by rw [w, e] at z; cases z)]; exact z) id⟩
theorem TlAt.put {K : PySem.W.Frag} {H : Hp} {D : Addr} {ys zs : List V} {v : V} {tl : Tl} (e : H D = some (.lst ys)) (n : nA (· ≠ D) v) (h : TlAt K H v tl) : TlAt K (upd H D (.lst zs)) v tl := by
  obtain ⟨l, xs, h1, h2, h3⟩ := h
  exact ⟨l, xs, h1, by rw [upd_ne (n l h1)]; exact h2, paired_imp (PrAt.put e) h3⟩
theorem IsMkN.put {K : PySem.W.Frag} {N : Addr → Prop} {H : Hp} {D : Addr} {ys zs : List V} {f : V} {S : Tl × List Int} (e : H D = some (.lst ys)) (n : ∀ b, N b → b ≠ D) (h : IsMkN K N H f S) : IsMkN K N (upd H D (.lst zs)) f S := by
  have g : ∀ v, nA N v → nA (· ≠ D) v := fun v hv l hl => n l (hv l hl)
  rcases h with ⟨vt, vk, tl, tk, B, h1, h2, h3, h4, h5, h6, h7, h8⟩ | ⟨vk, p, tk, h1, h2, h3, h4, h5⟩ | ⟨vk, tk, h1, h2, h3, h4, h5⟩
  · exact .inl ⟨vt, vk, tl, tk, B, h1.put e, h2.put e (g _ h7), h3.put (g _ h8), h4, h5, h6, h7, h8⟩
  · exact .inr (.inl ⟨vk, p, tk, h1.put e, h2.put (g _ h5), h3, h4, h5⟩)
  · exact .inr (.inr ⟨vk, tk, h1.put e, h2.put (g _ h5), h3, h4, h5⟩)
theorem IsNodeN.put {K : PySem.W.Frag} {a : Ad} {N : Addr → Prop} {H : Hp} {D : Addr} {ys zs : List V} {v : V} {S : Tl × List Int} (e : H D = some (.lst ys)) (n : ∀ b, N b → b ≠ D) (h : IsNodeN K a N H v S) : IsNodeN K a N (upd H D (.lst zs)) v S := by
  rcases h with ⟨h0, x, dx, t, ns, h1, h2, h3, h4⟩ | ⟨h0, x, dx, l, p1, p2, f1, f2, h1, h2, h3, h4, h5, h6, h7, h8⟩
  · exact .inl ⟨h0, x, dx, t, ns, h1, by rw [upd_ne (fun z => by rw [z, e] at h2; cases h2)]; exact h2, by rw [upd_ne (fun z => by rw [z, e] at h3; cases h3)]; exact h3, h4⟩
  · exact .inr ⟨h0, x, dx, l, p1, p2, f1, f2, h1, by rw [upd_ne (fun z => by rw [z, e] at h2; cases h2)]; exact h2, by rw [upd_ne (n l h8)]; exact h3, by rw [upd_ne (fun z => by rw [z, e] at h4; cases h4)]; exact h4, by rw [upd_ne (fun z => by rw [z, e] at h5; cases h5)]; exact h5, h6.put e n, h7.put e n, h8⟩
noncomputable def spToldI (a : Ad) : Sp := fun vs H Q _ => ∃ (x dx l : Addr) (ns : List Int), vs = [.ref x, .ref l] ∧ H x = some (.ins a.c_Told dx []) ∧ H l = some (.lst (ns.map V.int)) ∧ ns.length < 64 ∧
  ∀ H' t ns', (∀ b o, b ≠ x → H b = some o → H' b = some o) → H' x = some (.ins a.c_Told dx [("rising", .ref t)]) → H' t = some (.tup (ns'.map V.int)) → Srt ns' ns → Q .non H'
noncomputable def spDieI (a : Ad) : Sp := fun vs H Q _ => ∃ (x dx l : Addr) (xs : List V), vs = [.ref x, .ref l] ∧ H x = some (.ins a.c_Die dx []) ∧ H l = some (.lst xs) ∧
  ∀ H' t, (∀ b o, b ≠ x → H b = some o → H' b = some o) → H' x = some (.ins a.c_Die dx [("makes", .ref t)]) → H' t = some (.lst xs) → H t = none → Q .non H'
noncomputable def spSetM (a : Ad) : Sp := fun vs H Q _ => ∃ vt vk, vs = [vt, vk] ∧ TabsOk (tabs a) H ∧ ∀ H' f, SameT H H' → TabsOk (tabs a) H' → IsLam H' ld_settled_make_1 fvS f [vt, vk] → Q f H'
noncomputable def spLast (K : PySem.W.Frag) (a : Ad) : Sp := fun vs H Q _ => ∃ v vk p c tk N, vs = [v, vk] ∧ PrAt K H (p, c) v ∧ LstI H vk tk ∧ tk.length < 24 ∧ TabsOk (tabs a) H ∧ (∀ b, H b = none → N b) ∧ nA N vk ∧ ∀ H' u, SameT H H' → TabsOk (tabs a) H' → IsNodeN K a N H' u ([(p, c)], tk) → Q u H'
section
variable {P : Program} {w : World} {K : PySem.W.Frag} {mg : Str → Option Value} {base : Heap} {a : Ad}
theorem nd2 (n : Nat) : ([n + 1, n + 1 + 1] : List Nat).Nodup := by
  simp only [List.nodup_cons, List.mem_cons, List.not_mem_nil, or_false, not_or, not_false_eq_true, List.nodup_nil, and_true]
  omega
theorem oi_Told (T : Txt K mg a) : FnOk P w K mg base CX0 1 a.i_Told a.e_Told ["self", "kept"] (spToldI a) := by
  refine T.Fi_Told.ok sc_Told___init__ (fun vs H Q E h => ?_) (fun cdv A outer s H vs Q E hr h => ?_)
  · obtain ⟨x, dx, l, ns, rfl, _⟩ := h; rfl
  · obtain ⟨x, dx, l, ns, rfl, hx, hl, hn, q⟩ := h
    refine ⟨_, (pss_one (ps_fld (vr 0) (pe_callTy call_tuple_of rfl T.z_tuple bt_tuple (pa_cons (pe_callB call_sortedI rfl T.z_sorted bt_sorted (pa_cons (vr 1) pa_nil)) pa_nil)) rfl)), ?_⟩
    refine ⟨l, ns, rfl, SqL.of hl, hn, fun p ns' hp hs fp => ?_⟩
    have s1 := Same.new (o := .lst (ns'.map V.int)) fp
    refine ⟨p, _, rfl, .inl ⟨SqL.of upd_same, fun t ft => ?_⟩⟩
    have s2 := Same.new (o := .tup (ns'.map V.int)) ft
    have s12 := s1.trans s2
    have nt : t ≠ x := fun z => by rw [z, s1 _ _ hx] at ft; cases ft
    refine ⟨x, a.c_Told, dx, [], rfl, s12 _ _ hx, T.cl_Told, T.na_Told_rising, (by decide), ?_⟩
    exact q _ t ns' (fun b o n e => by rw [upd_ne n]; exact s12 _ _ e) upd_same (by rw [upd_ne nt]; exact upd_same) ⟨hp, hs⟩
theorem oi_Die (T : Txt K mg a) : FnOk P w K mg base CX0 1 a.i_Die a.e_Die ["self", "parts"] (spDieI a) := by
  refine T.Fi_Die.ok sc_Die___init__ (fun vs H Q E h => ?_) (fun cdv A outer s H vs Q E hr h => ?_)
  · obtain ⟨x, dx, l, xs, rfl, _⟩ := h; rfl
  · obtain ⟨x, dx, l, xs, rfl, hx, hl, q⟩ := h
    refine ⟨_, (pss_one (ps_fld (vr 0) (pe_callTy call_list_of rfl T.z_list bt_list (pa_cons (vr 1) pa_nil)) rfl)), ?_⟩
    refine ⟨l, xs, rfl, .inl (SqL.of hl), fun t ft => ?_⟩
    have s1 := Same.new (o := .lst xs) ft
    have nt : t ≠ x := fun z => by rw [z, hx] at ft; cases ft
    refine ⟨x, a.c_Die, dx, [], rfl, s1 _ _ hx, T.cl_Die, T.na_Die_makes, (by decide), ?_⟩
    exact q _ t (fun b o n e => by rw [upd_ne n]; exact s1 _ _ e) upd_same (by rw [upd_ne nt]; exact upd_same) ft
theorem made {H1 H' : Hp} {x dx : Addr} {o1 o2 : HO} (hx : H1 x = none) (hd : H1 dx = none) (k : ∀ b o, b ≠ x → (upd (upd H1 dx o1) x o2) b = some o → H' b = some o) : Same H1 H' := fun b o e => by
  refine k b o (ne_of_none e hx) ?_
  rw [upd_ne (ne_of_none e hx), upd_ne (ne_of_none e hd)]
  exact e
theorem ok_setm (T : Txt K mg a) (hB : Bm mg base) : FnOk P w K mg base CX0 1 a.f_settled_make a.d_settled_make ["told", "taken"] (spSetM a) := by
  refine T.F_settled_make.okL T.lcd_settled_make sc_settled_make (by decide +kernel) (fun vs H Q E h => ?_) (fun A outer s H vs Q E hr h => ?_)
  · obtain ⟨vt, vk, rfl, _⟩ := h; rfl
  · obtain ⟨vt, vk, rfl, hT, q⟩ := h
    refine ⟨_, (pr_ret (pe_lam (d := ld_settled_make_1) rfl T.lch_settled_make hB rfl (by with_unfolding_all rfl) rfl (tb_settled_make a) (.head _) T.tnd tp_settled_make)), ?_⟩
    refine ⟨hT, fun f1 c1 H2 t2 hT2 n1 ef1 ec1 => ?_⟩
    exact fun H3 s3 hc => q _ _ (t2.trans s3.t) (hT2.same s3) ⟨f1, c1, _, rfl, s3 _ _ ef1, s3 _ _ ec1, rfl, nd2 _, .cons (hc 0 _ _ _ rfl rfl (by with_unfolding_all rfl)) (.cons (hc 1 _ _ _ rfl rfl (by with_unfolding_all rfl)) .nil)⟩
theorem ok_last (T : Txt K mg a) (hB : Bm mg base) : FnOk P w K mg base CX0 3 a.f_last_die a.d_last_die ["last", "taken"] (spLast K a) := by
  have G_Die : FnOk P w K mg base CX0 1 _ _ _ (spDieI a) := oi_Die T
  refine T.F_last_die.okL T.lcd_last_die sc_last_die (by decide +kernel) (fun vs H Q E h => ?_) (fun A outer s H vs Q E hr h => ?_)
  · obtain ⟨v, vk, p, c, tk, N, rfl, _⟩ := h; rfl
  · obtain ⟨v, vk, p, c, tk, N, rfl, ⟨q0, y, rfl, hq0, hc⟩, hk, hlk, hT, hN, nk, q⟩ := h
    refine ⟨_, (pr_cons (ps_asg (vr 0) (pg_tup rfl (pgs_cons (pg_name (i := 2) sc_last_die.nd rfl (Or.inr rfl)) (pgs_cons (pg_name (i := 3) sc_last_die.nd rfl (Or.inl rfl)) pgs_nil)))) (pr_ret (pe_make T.mk_Die G_Die hr rfl T.mc_Die T.Bi_Die .nil pass0 (pa_cons (pe_lst (pa_cons (pe_tup (pa_cons (pe_ix ix_seq (vr 3) pe_int (fun _ _ => rfl)) (pa_cons (pe_lam (d := ld_last_die_1) rfl T.lch_last_die hB rfl (by with_unfolding_all rfl) rfl (tb_last_die a) (.head _) T.tnd tp_last_die) pa_nil))) (pa_cons (pe_tup (pa_cons (pe_op o_sub (pe_ix ix_seq (vr 3) pe_int (fun _ _ => rfl)) (pe_ix ix_seq (vr 3) pe_int (fun _ _ => rfl))) (pa_cons (pe_lam (d := ld_last_die_2) rfl T.lch_last_die hB rfl (by with_unfolding_all rfl) rfl (tb_last_die a) (.tail _ (.head _)) T.tnd tp_last_die) pa_nil))) pa_nil))) pa_nil)))), ?_⟩
    refine ⟨q0, _, rfl, SqT.of hq0, rfl, _, _, rfl, _, _, rfl, rfl, ?_⟩
    obtain ⟨pc, rfl, hpc⟩ := id hc
    have pcat : ∀ {H' : Hp}, SameT H H' → PT K H' pc c := fun s => by obtain ⟨_, z, h⟩ := hc.t s; cases z; exact h
    refine px0 hpc.sq ?_
    refine ⟨hT, fun f1 c1 H2 t2 hT2 n1 ef1 ec1 => ?_⟩
    refine ⟨(by decide : 2 ≤ sizeLine), fun p1 hp1 => ?_⟩
    have s3 := Same.new (o := .tup [.int c.1, .ref f1]) hp1
    have ep1 : (upd H2 p1 (.tup [.int c.1, .ref f1])) p1 = some (.tup [.int c.1, .ref f1]) := upd_same
    generalize upd H2 p1 (.tup [.int c.1, .ref f1]) = H3 at s3 ep1
    have t3 := t2.trans s3.t
    refine px1 (pcat t3).sq (px0 (pcat t3).sq ?_)
    refine ⟨hT2.same s3, fun f2 c2 H4 t4 hT4 n2 ef2 ec2 => ?_⟩
    refine ⟨(by decide : 2 ≤ sizeLine), fun p2 hp2 => ?_⟩
    have s5 := Same.new (o := .tup [.int (c.2 - c.1), .ref f2]) hp2
    have ep2 : (upd H4 p2 (.tup [.int (c.2 - c.1), .ref f2])) p2 = some (.tup [.int (c.2 - c.1), .ref f2]) := upd_same
    generalize upd H4 p2 (.tup [.int (c.2 - c.1), .ref f2]) = H5 at s5 ep2
    refine ⟨(by decide : 2 ≤ sizeLine), fun l0 hl0 => ?_⟩
    have s6 := Same.new (o := .lst [.ref p1, .ref p2]) hl0
    have el0 : (upd H5 l0 (.lst [.ref p1, .ref p2])) l0 = some (.lst [.ref p1, .ref p2]) := upd_same
    generalize upd H5 l0 (.lst [.ref p1, .ref p2]) = H6 at s6 el0
    intro x dx hx hdx hne
    have s0 : Same H6 (upd (upd H6 dx (.own x)) x (.ins a.c_Die dx [])) := fun b o e => by rw [upd_ne (ne_of_none e hx), upd_ne (ne_of_none e hdx)]; exact e
    refine ⟨x, dx, l0, _, rfl, upd_same, s0 _ _ el0, fun H7 l k g1 g2 gl => ⟨rfl, fun H8 s8 hc' => ?_⟩⟩
    have s7 := made hx hdx k
    have s68 := s7.trans s8
    have s58 := s6.trans s68
    have t48 := s5.trans s58
    have t38 := t4.trans t48.t
    have t28 := s3.t.trans t38
    have t18 := t2.trans t28
    have cT := hc' 1 _ _ _ rfl rfl (by with_unfolding_all rfl)
    have cP := hc' 2 _ _ _ rfl rfl (by with_unfolding_all rfl)
    refine q _ _ t18 (hT4.same t48) (.inr ⟨by simp, x, dx, l, p1, p2, .ref f1, .ref f2, rfl, s8 _ _ g1, s8 _ _ g2, t38.at ep1, s58 _ _ ep2, .inr (.inl ⟨vk, p, tk, ?_, hk.t t18, hlk, rfl, nk⟩), .inr (.inr ⟨vk, tk, ?_, hk.t t18, by omega, rfl, nk⟩), hN _ ((t2.trans (s3.t.trans (t4.trans (s5.trans s6).t))).free (s0.free gl))⟩)
    · exact ⟨f1, c1, _, rfl, t28.at ef1, t28.at ec1, rfl, nd2 _, .cons cT (.cons cP .nil)⟩
    · exact ⟨f2, c2, _, rfl, t48 _ _ ef2, t48 _ _ ec2, rfl, by simp, .cons cT .nil⟩
end
end My

set_option Elab.async false
set_option linter.all false
set_option maxRecDepth 100000
set_option maxHeartbeats 4000000
namespace My
open PySem L2 FrM
theorem cut_of {H H' : Hp} {D : Addr} (s : SameT H H') : SameT (untr H D) (untr H' D) := fun b o e => by
  by_cases hb : b = D
  · rw [hb, untr_same] at e; cases e
  · rw [untr_ne hb] at e ⊢
    exact s b o e
theorem cut_put {H : Hp} {D : Addr} {o : HO} : SameT (untr H D) (untr (upd H D o) D) := fun b o' e => by
  by_cases hb : b = D
  · rw [hb, untr_same] at e; cases e
  · rw [untr_ne hb] at e
    rw [untr_ne hb, upd_ne hb]
    exact SameT.refl b o' e
theorem cut_sub {H : Hp} {D : Addr} : SameT (untr H D) H := fun b o' e => by
  by_cases hb : b = D
  · rw [hb, untr_same] at e; cases e
  · rw [untr_ne hb] at e
    exact SameT.refl b o' e
theorem cut_in {H : Hp} {D : Addr} {o : HO} : SameT (untr H D) (upd H D o) := fun b o' e => by
  by_cases hb : b = D
  · rw [hb, untr_same] at e; cases e
  · rw [untr_ne hb] at e
    rw [upd_ne hb]
    exact SameT.refl b o' e
theorem IsLam.cut {H : Hp} {D : Addr} {ys : List V} {d : LamD} {fv : List Str} {f : V} {vals : List V} (hD : H D = some (.lst ys)) (h : IsLam H d fv f vals) : IsLam (untr H D) d fv f vals := by
  obtain ⟨f', c, clos, g1, g2, g3, g4, g5, g6⟩ := h
  have ne : ∀ b φ, H b = some (.ext φ) → b ≠ D := fun b φ e z => by rw [z, hD] at e; cases e
  refine ⟨f', c, clos, g1, by rw [untr_ne (ne _ _ g2)]; exact g2, by rw [untr_ne (ne _ _ g3)]; exact g3, g4, g5, ?_⟩
  clear g2 g3 g4 g5
  induction g6 with
  | nil => exact .nil
  | cons r _ ih => exact .cons (by rw [untr_ne (ne _ _ r)]; exact r) ih
theorem PrAt.cut {K : PySem.W.Frag} {H : Hp} {D : Addr} {ys : List V} (hD : H D = some (.lst ys)) (x : Int × (Int × Int)) (v : V) (h : PrAt K H x v) : PrAt K (untr H D) x v := by
  obtain ⟨q, y, h1, h2, p, h3, h4⟩ := h
  have ne : ∀ b us, H b = some (.tup us) → b ≠ D := fun b φ e z => by rw [z, hD] at e; cases e
  exact ⟨q, y, h1, by rw [untr_ne (ne _ _ h2)]; exact h2, p, h3, h4.imp (fun z => by rw [untr_ne (ne _ _ z)]; exact z) id⟩
noncomputable def RowM (K : PySem.W.Frag) (N : Addr → Prop) (H : Hp) (r : Int × (Tl × List Int)) (y : V) : Prop := ∃ q f, y = .ref q ∧ H q = some (.tup [.int r.1, f]) ∧ IsMkN K N H f r.2
theorem RowM.t {K : PySem.W.Frag} {N : Addr → Prop} {H H' : Hp} (s : SameT H H') (r : Int × (Tl × List Int)) (y : V) (h : RowM K N H r y) : RowM K N H' r y := let ⟨q, f, h1, h2, h3⟩ := h; ⟨q, f, h1, s.at h2, h3.t s⟩
theorem paired_take {α β : Type} {r : α → β → Prop} {as : List α} {x : α} {i : Nat} {ys : List β} {y : β} (h : Paired r (as.take i) ys) (e : as[i]? = some x) (q : r x y) : Paired r (as.take (i + 1)) (ys ++ [y]) := by
  rw [List.take_add_one, e]
  exact paired_snoc q h
noncomputable def spOpen (K : PySem.W.Frag) (a : Ad) : Sp := fun vs H Q _ => ∃ vt vk tl tk B N, vs = [vt, vk] ∧ TlAt K H vt tl ∧ LstI H vk tk ∧ BB B ∧ WfT B tl tk ∧ TabsOk (tabs a) H ∧ (∀ b, H b = none → N b) ∧ nA N vt ∧ nA N vk ∧ ∀ H' u, SameT H H' → TabsOk (tabs a) H' → IsNodeN K a N H' u (tl, tk) → Q u H'
noncomputable def spSett (K : PySem.W.Frag) (a : Ad) : Sp := fun vs H Q _ => ∃ vt vk tl tk B N, vs = [vt, vk] ∧ TlAt K H vt tl ∧ LstI H vk tk ∧ BB B ∧ WfS B tl tk ∧ TabsOk (tabs a) H ∧ (∀ b, H b = none → N b) ∧ nA N vt ∧ nA N vk ∧ ∀ H' u, SameT H H' → TabsOk (tabs a) H' → IsNodeN K a N H' u (sett tl tk) → Q u H'
noncomputable def spSettO (K : PySem.W.Frag) (a : Ad) : Sp := fun vs H Q _ => ∃ vt vk tl tk B, vs = [vt, vk] ∧ TlAt K H vt tl ∧ LstI H vk tk ∧ BB B ∧ WfS B tl tk ∧ TabsOk (tabs a) H ∧ ∀ H' u, SameT H H' → TabsOk (tabs a) H' → IsNode K a H' u (sett tl tk) → Q u H'
section
variable {P : Program} {w : World} {K : PySem.W.Frag} {mg : Str → Option Value} {base : Heap} {a : Ad}
theorem dv_pair {H : Hp} {p : Addr} {t b : Int} (h : SqT K H p [.int t, .int b]) : DV K H (.tuple [.int t, .int b]) (.ref p) := by
  rw [DV]
  refine ⟨p, _, rfl, h, ?_⟩
  rw [DVs]
  refine ⟨_, _, rfl, by simp [DV], ?_⟩
  rw [DVs]
  exact ⟨_, _, rfl, by simp [DV], by simp [DVs]⟩
theorem shaped_pair (t b : Int) : SeqAt.shaped (.tuple [.int t, .int b]) = true := rfl
theorem eqv_pair (a b c d : Int) : PyData.eqv (.tuple [.int a, .int b]) (.tuple [.int c, .int d]) = decide ((a, b) = (c, d)) := by
  simp [PyData.eqv, PyData.eqvAll]
  rfl
theorem ok_open (T : Txt K mg a) (hB : Bm mg base) : FnOk P w K mg base CX0 4 a.f_open_node a.d_open_node ["told", "taken"] (spOpen K a) := by
  have G_Told : FnOk P w K mg base CX0 2 _ _ _ (spToldI a) := (oi_Told T).mono (by decide)
  have G_Die : FnOk P w K mg base CX0 2 _ _ _ (spDieI a) := (oi_Die T).mono (by decide)
  have G_last_die : FnOk P w K mg base CX0 3 _ _ _ (spLast K a) := ok_last T hB
  have G_duel_parts : FnOk P w K mg base CX0 3 _ _ _ (spDuP K) := ok_dup T
  have G_settled_make : FnOk P w K mg base CX0 3 _ _ _ (spSetM a) := (ok_setm T hB).mono (by decide)
  refine T.F_open_node.ok sc_open_node (fun vs H Q E h => ?_) (fun cdv A outer s H vs Q E hr h => ?_)
  · obtain ⟨vt, vk, tl, tk, B, N, rfl, _⟩ := h; rfl
  · obtain ⟨vt, vk, tl, tk, B, N, rfl, ⟨lt, xs, rfl, hlt, hP⟩, ⟨lk, rfl, hlk⟩, hBB, hwf, hT, hN, ntt, nk, q⟩ := h
    have small : sizeLine = 16777216 := sizeLine_eq
    refine ⟨_, (pss_cons (ps_if (pt_not (pt_truth (vr 0) (fun _ => rfl))) (pss_one (ps_ret (pe_make T.mk_Told G_Told hr rfl T.mc_Told T.Bi_Told .nil pass0 (pa_cons (vr 1) pa_nil)))) pss_nil) (pss_cons (ps_if (t_cmp o_eq (pe_callB call_lenM rfl T.z_len bt_len (pa_cons (vr 0) pa_nil)) pe_int (nomark _)) (pss_one (ps_ret (pe_call G_last_die hr rfl T.m_last_die T.F_last_die.kp T.B_last_die .nil pass0 (pa_cons (pe_ix ix_seq (vr 0) pe_int (fun _ _ => rfl)) (pa_cons (vr 1) pa_nil))))) pss_nil) (pss_cons (ps_asg (pe_ix ix_seq (vr 0) pe_int (fun _ _ => rfl)) (pg_tup rfl (pgs_cons (pg_name (i := 2) sc_open_node.nd rfl (Or.inr rfl)) (pgs_cons (pg_name (i := 3) sc_open_node.nd rfl (Or.inl rfl)) pgs_nil)))) (pss_cons (ps_asg (pe_ix ix_seq (vr 0) pe_int (fun _ _ => rfl)) (pg_tup rfl (pgs_cons (pg_name (i := 4) sc_open_node.nd rfl (Or.inr rfl)) (pgs_cons (pg_name (i := 5) sc_open_node.nd rfl (Or.inl rfl)) pgs_nil)))) (pss_one (ps_ret (pe_make T.mk_Die G_Die hr rfl T.mc_Die T.Bi_Die .nil pass0 (pa_cons (pe_comp rfl (N := ["many", "left", "its_left", "taken", "told", "place", "other"]) (ix := [none, none, none, some 1, some 0, some 2, some 4]) ⟨rfl, rfl, rfl, rfl, ⟨rfl, rfl, rfl, ⟨rfl, rfl, rfl, ⟨rfl, rfl, rfl, ⟨rfl, rfl, rfl, trivial⟩⟩⟩⟩⟩ (pi_any (pe_call G_duel_parts hr rfl T.m_duel_parts T.F_duel_parts.kp T.B_duel_parts .nil pass0 (pa_cons (vr 3) (pa_cons (vr 5) pa_nil)))) ⟨fun C s H fp => (pg_tupK (K := K) (n := 3) rfl rfl (pgs_cons (pg_name (i := 0) (show List.Nodup (["many", "left", "its_left", "taken", "told", "place", "other"] : List Str) by decide +kernel) rfl (Or.inl rfl)) (pgs_cons (pg_name (i := 1) (show List.Nodup (["many", "left", "its_left", "taken", "told", "place", "other"] : List Str) by decide +kernel) rfl (Or.inl rfl)) (pgs_cons (pg_name (i := 2) (show List.Nodup (["many", "left", "its_left", "taken", "told", "place", "other"] : List Str) by decide +kernel) rfl (Or.inl rfl)) pgs_nil)))), fun C s H fp => pts_nil, fun C s H fp => (pe_tup (pa_cons (vr 0) (pa_cons (pe_call G_settled_make hr rfl T.m_settled_make T.F_settled_make.kp T.B_settled_make .nil pass0 (pa_cons (pe_op op_cat (pe_lst (pa_cons (pe_tup (pa_cons (vr 5) (pa_cons (vr 1) pa_nil))) (pa_cons (pe_tup (pa_cons (vr 6) (pa_cons (vr 2) pa_nil))) pa_nil))) (pe_slice (sl_anyK (K := K) rfl) (vr 4) (po_some pe_int) po_none)) (pa_cons (vr 3) pa_nil))) pa_nil)))⟩) pa_nil)))))))), ?_⟩
    cases hP with
    | nil =>
      refine ⟨_, .inl ⟨_, SqL.of hlt, rfl⟩, ?_⟩
      intro x dx hx hdx hne
      have s0 : Same H (upd (upd H dx (.own x)) x (.ins a.c_Told dx [])) := fun b o e => by rw [upd_ne (ne_of_none e hx), upd_ne (ne_of_none e hdx)]; exact e
      have := hwf.2
      refine ⟨x, dx, lk, tk, rfl, upd_same, s0 _ _ hlk, by simp at this; omega, fun H' t ns' k h1 h2 h3 => ⟨rfl, ?_⟩⟩
      have sm := made hx hdx k
      exact q _ _ sm.t (hT.same sm) (.inl ⟨rfl, x, dx, t, ns', rfl, h1, h2, h3⟩)
    | @cons r1 v1 tl1 xs1 g1 hP1 =>
      obtain ⟨p, c⟩ := r1
      refine ⟨_, .inl ⟨_, SqL.of hlt, rfl⟩, ?_⟩
      refine ⟨_, .inl (SqL.of hlt), ?_⟩
      cases hP1 with
      | nil =>
        refine .inl ⟨lt, _, _, _, rfl, rfl, SqL.of hlt, atI_cons 0 rfl rfl, ?_⟩
        have := hwf.2
        exact ⟨v1, .ref lk, p, c, tk, N, rfl, g1, ⟨lk, rfl, hlk⟩, by simp at this; omega, hT, hN, nk, fun H' u t hT' n => q _ _ t hT' n⟩
      | @cons r2 v2 tl2 xs2 g2 hP2 =>
        obtain ⟨o, e⟩ := r2
        obtain ⟨q1, y1, rfl, hq1, hc⟩ := g1
        obtain ⟨q2, y2, rfl, hq2, he⟩ := g2
        refine .inl ⟨lt, _, _, _, rfl, rfl, SqL.of hlt, atI_cons 0 rfl rfl, q1, _, rfl, SqT.of hq1, rfl, _, _, rfl, _, _, rfl, rfl, ?_⟩
        refine .inl ⟨lt, _, _, _, rfl, rfl, SqL.of hlt, atI_cons 1 rfl rfl, q2, _, rfl, SqT.of hq2, rfl, _, _, rfl, _, _, rfl, rfl, ?_⟩
        have w1 := hwf.1 _ (List.mem_cons_self ..)
        have w2 := hwf.1 _ (List.mem_cons_of_mem _ (List.mem_cons_self ..))
        refine ⟨y1, y2, c, e, rfl, hc, he, ⟨B, hBB.1, hBB.2, w1.1, w2.1, w1.2, w2.2⟩, fun H2 l p1 p2 x1 z1 x2 z2 s2 fl hl h1 h2 i1 i2 i3 i4 => ?_⟩
        refine .inl ⟨⟨_, SqL.of hl⟩, fun D hD => ?_⟩
        have hT2 := hT.same s2
        have wS := fun b => par_wf hBB.1 hwf b
        have hTD : TabsOk (tabs a) (upd H2 D (.lst [])) := hT2.same (Same.new hD)
        have ext : ∀ {H' : Hp}, TabsOk (tabs a) H' → ∀ {ys : List V} {ys' : List V}, H' D = some (.lst ys) → TabsOk (tabs a) (upd H' D (.lst ys')) := fun hT' ys ys' e => hT'.put (fun ps z => by rw [e] at z; cases z) fun φ z => by rw [e] at z; cases z
        refine comp_list (K := K) (a := l) (xs := [.ref p1, .ref p2]) (fun i ys H' => SameT H2 H' ∧ TabsOk (tabs a) H' ∧ H' D = some (.lst ys) ∧ i ≤ 2 ∧ Paired (RowM K N (untr H' D)) (([(du1 c e, nx true ((p, c) :: (o, e) :: tl2) tk), (du2 c e, nx false ((p, c) :: (o, e) :: tl2) tk)] : List (Int × (Tl × List Int))).take i) ys)
          ⟨(Same.new hD).t, hTD, upd_same, Nat.zero_le _, .nil⟩ (fun i ys H' h => SqL.of (h.1.at hl)) (fun i ys H' h => h.2.2.1) ?_ ?_
        · rintro i y ys H' P' hy ⟨t1, hT1, hD1, hi, hc'⟩ hP'
          obtain ⟨b, m, pp, xl, zl, rfl, hpp, ixl, izl, hrow⟩ : ∃ (b : Bool) (m : Int) (pp : Addr) (xl zl : V), y = .ref pp ∧ H2 pp = some (.tup [.int m, xl, zl]) ∧ IsF K H2 (par b c e).1 xl ∧ IsF K H2 (par b c e).2 zl ∧ ([(du1 c e, nx true ((p, c) :: (o, e) :: tl2) tk), (du2 c e, nx false ((p, c) :: (o, e) :: tl2) tk)] : List (Int × (Tl × List Int)))[i]? = some (m, nx b ((p, c) :: (o, e) :: tl2) tk) := by
            match i, hy with
            | 0, hy => cases hy; exact ⟨true, _, p1, x1, z1, rfl, h1, i1, i2, rfl⟩
            | 1, hy => cases hy; exact ⟨false, _, p2, x2, z2, rfl, h2, i3, i4, rfl⟩
          have t02 := s2.t.trans t1
          have ylen : ys.length ≤ 2 := by rw [← hc'.length, List.length_take]; simp only [List.length_cons, List.length_nil]; omega
          refine ⟨pp, _, rfl, SqT.of (t1.at hpp), rfl, _, _, rfl, _, _, rfl, _, _, rfl, rfl, ⟨rfl, rfl, rfl, rfl, trivial⟩, ?_⟩
          refine ⟨two_le _ _, fun a1 fa1 => ?_⟩
          have u1 := Same.new (o := .tup [.int p, xl]) fa1
          refine ⟨two_le _ _, fun a2 fa2 => ?_⟩
          have u2 := Same.new (o := .tup [.int o, zl]) fa2
          refine ⟨two_le _ _, fun a3 fa3 => ?_⟩
          have u3 := Same.new (o := .lst [.ref a1, .ref a2]) fa3
          have u13 := u1.trans (u2.trans u3)
          refine ⟨_, rfl, .inl ⟨_, SqL.of (u13 _ _ (t02.at hlt)), fun a4 fa4 => ?_⟩⟩
          have u4 := Same.new (o := .lst (cutV (.ref q1 :: .ref q2 :: xs2) (some 2) none)) fa4
          have ecut : cutV (.ref q1 :: .ref q2 :: xs2) (some 2) none = xs2 := cutV_drop _ 2
          have l2 : xs2.length ≤ 24 := by have := hwf.2; have := hP2.length; simp only [List.length_cons] at *; omega
          refine ⟨a3, a4, _, _, rfl, rfl, u4 _ _ upd_same, upd_same, by rw [ecut]; show 2 + xs2.length ≤ sizeLine; omega, fun a5 fa5 => ?_⟩
          have u5 := Same.new (o := .lst ([.ref a1, .ref a2] ++ cutV (.ref q1 :: .ref q2 :: xs2) (some 2) none)) fa5
          have u15 := u13.trans (u4.trans u5)
          refine ⟨.ref a5, .ref lk, rfl, hT1.same u15, fun H9 f t9 hT9 hf => ?_⟩
          refine ⟨two_le _ _, fun a6 fa6 => ?_⟩
          have u6 := Same.new (o := .tup [.int m, f]) fa6
          have t19 := u15.t.trans (t9.trans u6.t)
          have hDn := t19.at hD1
          have na6 : a6 ≠ D := fun z => by rw [z] at fa6; rw [(u15.t.trans t9).at hD1] at fa6; cases fa6
          have ha5 : (upd H9 a6 (.tup [.int m, f])) a5 = some (.lst ([.ref a1, .ref a2] ++ cutV (.ref q1 :: .ref q2 :: xs2) (some 2) none)) := (t9.trans u6.t).at upd_same
          have na5 : a5 ≠ D := fun z => by
            rw [z] at fa5
            rw [(u13.trans u4) _ _ hD1] at fa5
            cases fa5
          have ha1 : (upd H9 a6 (.tup [.int m, f])) a1 = some (.tup [.int p, xl]) := (((u2.trans u3).trans (u4.trans u5)).t.trans (t9.trans u6.t)).at upd_same
          have ha2 : (upd H9 a6 (.tup [.int m, f])) a2 = some (.tup [.int o, zl]) := ((u3.trans (u4.trans u5)).t.trans (t9.trans u6.t)).at upd_same
          have nlk : lk ≠ D := fun z => by rw [z] at hlk; rw [s2 _ _ hlk] at hD; cases hD
          have hlk9 : (upd H9 a6 (.tup [.int m, f])) lk = some (.lst (tk.map V.int)) := (t02.trans t19).at hlk
          refine ⟨hDn, by omega, hP' _ _ ⟨(t1.trans t19).put hD, ext (hT9.same u6) hDn, upd_same, by have := (List.getElem?_eq_some_iff.mp hrow).1; simp only [List.length_cons, List.length_nil] at this; omega, paired_take (paired_imp (RowM.t ((cut_of t19).trans cut_put)) hc') hrow (RowM.t cut_put _ _ ⟨a6, f, rfl, by rw [untr_ne na6]; exact upd_same, .inl ⟨.ref a5, .ref lk, _, tk, B, (hf.t u6.t).cut hDn, ⟨a5, _, rfl, by rw [untr_ne na5]; exact ha5, ?_⟩, ⟨lk, rfl, by rw [untr_ne nlk]; exact hlk9⟩, hBB, wS b, rfl, (fun l hl => by cases hl; exact hN _ (t02.free ((u13.trans u4).free fa5))), nk⟩⟩)⟩⟩
          rw [ecut]
          exact .cons (PrAt.cut hDn _ _ ⟨a1, xl, rfl, ha1, ixl.t (t1.trans t19)⟩) (.cons (PrAt.cut hDn _ _ ⟨a2, zl, rfl, ha2, izl.t (t1.trans t19)⟩) (paired_imp (fun x v h => PrAt.cut hDn _ _ (PrAt.t (t02.trans t19) _ _ h)) hP2))
        · rintro ys H' ⟨t1, hT1, hD1, hi, hc'⟩
          cases hc' with
          | cons ra hc2 => cases hc2 with
            | cons rb hc3 => cases hc3 with
              | nil =>
                obtain ⟨qa, fa, rfl, hqa, mka⟩ := ra.t cut_sub
                obtain ⟨qb, fb, rfl, hqb, mkb⟩ := rb.t cut_sub
                intro x dx hx hdx hne
                have s0 : Same H' (upd (upd H' dx (.own x)) x (.ins a.c_Die dx [])) := fun b o e => by rw [upd_ne (ne_of_none e hx), upd_ne (ne_of_none e hdx)]; exact e
                refine ⟨x, dx, D, _, rfl, upd_same, s0 _ _ hD1, fun H7 l' k g1 g2 gl => ⟨rfl, ?_⟩⟩
                have s7 := made hx hdx k
                exact q _ _ (s2.t.trans (t1.trans s7.t)) (hT1.same s7) (.inr ⟨by simp, x, dx, l', qa, qb, fa, fb, rfl, g1, g2, s7 _ _ hqa, s7 _ _ hqb, mka.t s7.t, mkb.t s7.t, hN _ ((s2.t.trans t1).free (s0.free gl))⟩)
theorem ok_settled (T : Txt K mg a) (hB : Bm mg base) : FnOk P w K mg base CX0 5 a.f_settled a.d_settled ["told", "taken"] (spSett K a) := by
  have G_open_node : FnOk P w K mg base CX0 4 _ _ _ (spOpen K a) := ok_open T hB
  have G_is_unsure : FnOk P w K mg base CX0 4 _ _ _ (spUns K) := (ok_uns T).mono (by decide)
  refine T.F_settled.ok sc_settled (fun vs H Q E h => ?_) (fun cdv A outer s H vs Q E hr h => ?_)
  · obtain ⟨vt, vk, tl, tk, B, N, rfl, _⟩ := h; rfl
  · obtain ⟨vt, vk, tl, tk, B, N, rfl, ⟨lt, xs, rfl, hlt, hP⟩, ⟨lk, rfl, hlk⟩, hBB, hwf, hT, hN, ntt, nk, q⟩ := h
    have small : sizeLine = 16777216 := sizeLine_eq
    refine ⟨_, (pss_cons (ps_setC rfl (i := 2) sc_settled.nd rfl rfl (by with_unfolding_all rfl) (N := ["place", "chance"]) (ix := [none, none]) ⟨rfl, rfl, rfl, rfl, trivial⟩ (pi_any (vr 0)) ⟨fun C s H fp => (pg_tupK (K := K) (n := 2) rfl rfl (pgs_cons (pg_name (i := 0) (show List.Nodup (["place", "chance"] : List Str) by decide +kernel) rfl (Or.inl rfl)) (pgs_cons (pg_name (i := 1) (show List.Nodup (["place", "chance"] : List Str) by decide +kernel) rfl (Or.inl rfl)) pgs_nil))), fun C s H fp => pts_one (t_cmp (o_eqDK (K := K) rfl hr.units) (vr 1) (pe_gl rfl T.g_WHOLE) (nomark _)), fun C s H fp => (vr 0)⟩) (pss_one (ps_ret (pe_call G_open_node hr rfl T.m_open_node T.F_open_node.kp T.B_open_node .nil pass0 (pa_cons (pe_comp rfl (N := ["place", "chance"]) (ix := [none, none]) ⟨rfl, rfl, rfl, rfl, trivial⟩ (pi_any (vr 0)) ⟨fun C s H fp => (pg_tupK (K := K) (n := 2) rfl rfl (pgs_cons (pg_name (i := 0) (show List.Nodup (["place", "chance"] : List Str) by decide +kernel) rfl (Or.inl rfl)) (pgs_cons (pg_name (i := 1) (show List.Nodup (["place", "chance"] : List Str) by decide +kernel) rfl (Or.inl rfl)) pgs_nil))), fun C s H fp => pts_one (t_val (pe_call G_is_unsure hr rfl T.m_is_unsure T.F_is_unsure.kp T.B_is_unsure .nil pass0 (pa_cons (vr 1) pa_nil))), fun C s H fp => (pe_tup (pa_cons (vr 0) (pa_cons (vr 1) pa_nil)))⟩) (pa_cons (pe_op op_cat (vr 1) (vr 2)) pa_nil)))))), ?_⟩
    refine .inl ⟨⟨_, SqL.of hlt⟩, fun D hD => ?_⟩
    refine comp_list (K := K) (a := lt) (xs := xs) (fun i zs H' => Same H H' ∧ H' D = some (.lst zs) ∧ i ≤ tl.length ∧ zs = (((tl.take i).filter fun x => whl x.2).map (·.1)).map V.int) ⟨Same.new hD, upd_same, Nat.zero_le _, rfl⟩ (fun i ys H' h => SqL.of (h.1 _ _ hlt)) (fun i ys H' h => h.2.1) ?_ ?_
    · rintro i y zs H' P' hy ⟨s1, hD1, hi, rfl⟩ hP'
      obtain ⟨⟨p, c⟩, hpt, q1, yc, rfl, hq1, hc⟩ := paired_get hP hy
      have ilt : i < tl.length := (List.getElem?_eq_some_iff.mp hpt).1
      refine ⟨q1, _, rfl, SqT.of (s1 _ _ hq1), rfl, _, _, rfl, _, _, rfl, rfl, ?_⟩
      obtain ⟨pc, rfl, hpc⟩ := hc.same s1
      refine ⟨trivial, .tuple [.int c.1, .int c.2], .tuple [.int 1, .int 1], dv_pair hpc.sq, dv_pair (tup_in T.t_WHOLE), shaped_pair _ _, shaped_pair _ _, ?_⟩
      rw [eqv_pair]
      refine ifC (fun hh => ?_) fun hh => ?_
      · have hw : whl c = true := decide_eq_true (show c = (1, 1) from hh)
        refine ⟨hD1, ?_, hP' _ _ ⟨s1.put hD, upd_same, ilt, ?_⟩⟩
        · rw [List.length_map, List.length_map]
          have := List.length_filter_le (fun x : Int × (Int × Int) => whl x.2) (tl.take i)
          have := hwf.2
          rw [List.length_take] at *
          omega
        · rw [List.take_add_one, hpt]
          simp [hw]
      · have hw : whl c = false := decide_eq_false (show ¬ c = (1, 1) from hh)
        refine hP' _ _ ⟨s1, hD1, ilt, ?_⟩
        rw [List.take_add_one, hpt]
        simp [hw]
    · rintro zs H' ⟨s1, hD1, _, rfl⟩
      rw [show xs.length = tl.length from hP.length.symm, List.take_length] at hD1
      refine .inl ⟨⟨_, SqL.of (s1 _ _ hlt)⟩, fun D2 hD2 => ?_⟩
      have nD : D2 ≠ D := fun z => by rw [z, hD1] at hD2; cases hD2
      refine comp_list (K := K) (a := lt) (xs := xs) (fun i zs H2 => Same H' H2 ∧ H2 D2 = some (.lst zs) ∧ i ≤ tl.length ∧ Paired (PrAt K H2) ((tl.take i).filter fun x => uns x.2) zs) ⟨Same.new hD2, upd_same, Nat.zero_le _, .nil⟩ (fun i ys H2 h => SqL.of (h.1 _ _ (s1 _ _ hlt))) (fun i ys H2 h => h.2.1) ?_ ?_
      · rintro i y zs H2 P' hy ⟨s2, hD3, hi, hzs⟩ hP'
        obtain ⟨⟨p, c⟩, hpt, q1, yc, rfl, hq1, hc⟩ := paired_get hP hy
        have ilt : i < tl.length := (List.getElem?_eq_some_iff.mp hpt).1
        have s12 := s1.trans s2
        refine ⟨q1, _, rfl, SqT.of (s12 _ _ hq1), rfl, _, _, rfl, _, _, rfl, rfl, trivial, ?_⟩
        refine ⟨yc, c, rfl, hc.same s12, ?_⟩
        have zl : zs.length ≤ 24 := by
          rw [← hzs.length]
          have := List.length_filter_le (fun x : Int × (Int × Int) => uns x.2) (tl.take i)
          have := hwf.2
          rw [List.length_take] at *
          omega
        refine ifB (fun hu => ?_) fun hu => ?_
        · refine ⟨two_le _ _, fun q3 f3 => ?_⟩
          have s3 := Same.new (o := .tup [.int p, yc]) f3
          have hD4 := s3 _ _ hD3
          have n3 : q3 ≠ D2 := fun z => by rw [z, hD3] at f3; cases f3
          refine ⟨hD4, by omega, hP' _ _ ⟨(s2.trans s3).put hD2, upd_same, ilt, ?_⟩⟩
          rw [List.take_add_one, hpt, List.filter_append]
          refine paired_app ?_ (paired_imp (fun x v h => ((h.t s3.t).cut hD4).t cut_in) hzs)
          simp only [Option.toList, List.filter_cons, hu, if_pos, List.filter_nil]
          refine .cons ⟨q3, yc, rfl, by rw [upd_ne n3]; exact upd_same, ?_⟩ .nil
          have h' : PrAt K (upd (upd H2 q3 (.tup [.int p, yc])) D2 (.lst (zs ++ [.ref q3]))) (p, c) (.ref q1) := (PrAt.cut hD4 _ _ (PrAt.t (s12.trans s3).t _ _ ⟨q1, yc, rfl, hq1, hc⟩)).t cut_in
          obtain ⟨_, y', z1, z2, z3⟩ := h'
          cases z1
          have n1 : q1 ≠ D2 := fun z => by rw [z] at hq1; rw [s12 _ _ hq1] at hD3; cases hD3
          rw [upd_ne n1, (s12.trans s3) _ _ hq1] at z2
          cases z2
          exact z3
        · refine hP' _ _ ⟨s2, hD3, ilt, ?_⟩
          rw [List.take_add_one, hpt, List.filter_append]
          simp only [Option.toList, List.filter_cons, hu, List.filter_nil]
          simpa using hzs
      · rintro zs H2 ⟨s2, hD3, _, hzs⟩
        rw [show xs.length = tl.length from hP.length.symm, List.take_length] at hzs
        have s12 := s1.trans s2
        have hlen := (sett_wf hwf).2
        refine ⟨lk, D, _, _, rfl, rfl, s12 _ _ hlk, s2 _ _ hD1, ?_, fun r fr => ?_⟩
        · have hlen : ((sett tl tk).2).length ≤ 24 := by omega
          simp only [sett, List.length_append, List.length_map] at hlen ⊢
          omega
        rw [← List.map_append]
        have s3 := Same.new (o := .lst ((tk ++ (tl.filter fun x => whl x.2).map (·.1)).map V.int)) fr
        have s13 := s12.trans s3
        exact ⟨.ref D2, .ref r, (sett tl tk).1, (sett tl tk).2, B, N, rfl, ⟨D2, _, rfl, s3 _ _ hD3, paired_imp (PrAt.t s3.t) hzs⟩, ⟨r, rfl, upd_same⟩, hBB, sett_wf hwf, hT.same s13, (fun b hb => hN b (s13.free hb)), (fun l hl => by cases hl; exact hN _ (s1.free hD2)), (fun l hl => by cases hl; exact hN _ (s12.free fr)), fun H3 u t hT3 n => q _ _ (s13.t.trans t) hT3 n⟩
theorem ok_settledO (T : Txt K mg a) (hB : Bm mg base) : FnOk P w K mg base CX0 5 a.f_settled a.d_settled ["told", "taken"] (spSettO K a) :=
  (ok_settled T hB).imp fun vs H Q E h => by
    obtain ⟨vt, vk, tl, tk, B, h1, h2, h3, h4, h5, h6, q⟩ := h
    exact ⟨vt, vk, tl, tk, B, fun _ => True, h1, h2, h3, h4, h5, h6, fun _ _ => trivial, fun _ _ => trivial, fun _ _ => trivial, fun H' u t hT n => q H' u t hT n.w⟩
end
end My

set_option Elab.async false
set_option linter.all false
set_option maxRecDepth 100000
set_option maxHeartbeats 4000000
namespace My
open PySem L2 FrM
theorem TabsOk.untrs {tabs : Tabs} {H : Hp} {clos : List (Str × Addr)} {vals : List V} (hT : TabsOk tabs H) (ca : CellsAt H clos vals) : TabsOk tabs (untrs H (clos.map (·.2))) := fun q hq => by
  obtain ⟨ps, e1, e2, e3⟩ := hT q hq
  exact ⟨ps, untrs_of ca e1 (fun v z => nomatch z), e2, fun l hl => (e3 l hl).imp id fun ⟨c, x, y⟩ => ⟨c, x, untrs_of ca y fun v => code_ne_cell⟩⟩
theorem back {H H' H3 : Hp} {clos : List (Str × Addr)} (s : SameT (untrs H (clos.map (·.2))) H') (s3 : Same H' H3) (hc : ∀ p ∈ clos, H3 p.2 = H p.2) : SameT H H3 := fun b o e => by
  by_cases hb : b ∈ clos.map (·.2)
  · obtain ⟨p, hp, rfl⟩ := List.mem_map.mp hb
    rw [hc p hp, e]
    exact ⟨fun _ => rfl, o, rfl⟩
  · exact (s.trans s3.t) b o (by rw [untrs_out hb]; exact e)
noncomputable def sqO : HO → Bool
  | .lst _ => true
  | .tup _ => true
  | _ => false
theorem PrAt.m {K : PySem.W.Frag} {H H' : Hp} (s : ∀ b o, sqO o = true → H b = some o → H' b = some o) (x : Int × (Int × Int)) (v : V) (h : PrAt K H x v) : PrAt K H' x v := by
  obtain ⟨q, y, h1, h2, p, h3, h4⟩ := h
  exact ⟨q, y, h1, s _ _ rfl h2, p, h3, h4.imp (fun z => s _ _ rfl z) id⟩
theorem TlAt.m {K : PySem.W.Frag} {H H' : Hp} {v : V} {tl : Tl} (s : ∀ b o, sqO o = true → H b = some o → H' b = some o) (h : TlAt K H v tl) : TlAt K H' v tl := let ⟨l, xs, h1, h2, h3⟩ := h; ⟨l, xs, h1, s _ _ rfl h2, paired_imp (PrAt.m s) h3⟩
theorem LstI.m {H H' : Hp} {v : V} {ns : List Int} (s : ∀ b o, sqO o = true → H b = some o → H' b = some o) (h : LstI H v ns) : LstI H' v ns := let ⟨l, h1, h2⟩ := h; ⟨l, h1, s _ _ rfl h2⟩
noncomputable def spLs (K : PySem.W.Frag) (a : Ad) : List V → Sp := fun vals vs H Q _ => ∃ vt vk tl tk B, vals = [vt, vk] ∧ vs = [] ∧ TlAt K H vt tl ∧ LstI H vk tk ∧ BB B ∧ WfS B tl tk ∧ TabsOk (tabs a) H ∧ ∀ H' u, SameT H H' → TabsOk (tabs a) H' → IsNode K a H' u (sett tl tk) → Q u H'
noncomputable def spLa (K : PySem.W.Frag) (a : Ad) : List V → Sp := fun vals vs H Q _ => ∃ vk p tk, vals = [vk, .int p] ∧ vs = [] ∧ LstI H vk tk ∧ tk.length < 24 ∧ TabsOk (tabs a) H ∧ ∀ H' u, SameT H H' → TabsOk (tabs a) H' → IsNode K a H' u ([], tk ++ [p]) → Q u H'
noncomputable def spLb (K : PySem.W.Frag) (a : Ad) : List V → Sp := fun vals vs H Q _ => ∃ vk tk, vals = [vk] ∧ vs = [] ∧ LstI H vk tk ∧ tk.length ≤ 24 ∧ TabsOk (tabs a) H ∧ ∀ H' u, SameT H H' → TabsOk (tabs a) H' → IsNode K a H' u ([], tk) → Q u H'
theorem lsS : LamScope ld_settled_make_1 fvS [] := ⟨rfl, rfl, rfl, by decide +kernel, by decide +kernel, by decide +kernel, by decide +kernel, by decide +kernel⟩
theorem lsA : LamScope ld_last_die_1 fvA [] := ⟨rfl, rfl, rfl, by decide +kernel, by decide +kernel, by decide +kernel, by decide +kernel, by decide +kernel⟩
theorem lsB : LamScope ld_last_die_2 fvB [] := ⟨rfl, rfl, rfl, by decide +kernel, by decide +kernel, by decide +kernel, by decide +kernel, by decide +kernel⟩
noncomputable def spIsW : Sp := fun vs H Q _ => ∃ (i lo hi : Int), vs = [.int i, .int lo, .int hi] ∧ Q (.bl (decide (lo ≤ i ∧ i ≤ hi))) H
noncomputable def spV (u : V) : Sp := fun vs H Q _ => ∃ v, vs = [v] ∧ Q u H
noncomputable def spTK (a : Ad) : Sp := fun vs H Q _ => ∃ x dx t, vs = [.ref x] ∧ H x = some (.ins a.c_Told dx [("rising", .ref t)]) ∧ Q (.ref t) H
noncomputable def spTP : Sp := fun vs H Q _ => ∃ v, vs = [v] ∧ ∀ p, H p = none → Q (.ref p) (upd H p (.lst []))
noncomputable def spDS (K : PySem.W.Frag) (a : Ad) : Sp := fun vs H Q _ => ∃ v m1 m2 S1 S2, vs = [v] ∧ IsDie K a H v m1 m2 S1 S2 ∧ ∀ H', Same H H' → Q (.int (m1 + m2)) H'
noncomputable def spCan (K : PySem.W.Frag) (a : Ad) : Sp := fun vs H Q _ => ∃ v m1 m2 S1 S2, ∃ t : Int, vs = [v, .int t] ∧ IsDie K a H v m1 m2 S1 S2 ∧ 0 ≤ t ∧ t < m1 + m2 ∧ ∀ H', Same H H' → Q (.bl true) H'
noncomputable def spDP (K : PySem.W.Frag) (a : Ad) : Sp := fun vs H Q _ => ∃ v m1 m2 S1 S2, vs = [v] ∧ IsDie K a H v m1 m2 S1 S2 ∧ TabsOk (tabs a) H ∧
  ∀ H' r q1 q2 n1 n2, SameT H H' → TabsOk (tabs a) H' → H r = none → H' r = some (.lst [.ref q1, .ref q2]) → H' q1 = some (.tup [.int m1, n1]) → H' q2 = some (.tup [.int m2, n2]) → Q (.ref r) H'
noncomputable def spDA (K : PySem.W.Frag) (a : Ad) : Sp := fun vs H Q _ => ∃ v m1 m2 S1 S2, ∃ t : Int, vs = [v, .int t] ∧ IsDie K a H v m1 m2 S1 S2 ∧ 0 ≤ t ∧ t < m1 + m2 ∧ TabsOk (tabs a) H ∧
  ∀ H' v', SameT H H' → TabsOk (tabs a) H' → IsNode K a H' v' (if t < m1 then S1 else S2) → Q v' H'
section
variable {P : Program} {w : World} {K : PySem.W.Frag} {mg : Str → Option Value} {base : Heap} {a : Ad}
theorem ok_ls (T : Txt K mg a) (hB : Bm mg base) : LamOk P w K mg base 6 ld_settled_make_1 fvS [] (spLs K a) := by
  have G_settled : FnOk P w K mg base CX0 5 _ _ _ (spSettO K a) := ok_settledO T hB
  refine lam_of lsS (fun pm ctv clos c us hl => match us, hl with | [], _ => rfl) (fun vals vs H Q E h => ?_) (fun A outer s H f c clos vals vs Q E hr hfv ca h => ?_)
  · obtain ⟨vt, vk, tl, tk, B, rfl, rfl, _⟩ := h; rfl
  · obtain ⟨vt, vk, tl, tk, B, rfl, rfl, ht, hk, hBB, hwf, hT, q⟩ := h
    refine ⟨_, (pe_call G_settled hr rfl T.m_settled T.F_settled.kp T.B_settled .nil pass0 (pa_cons (vr 0) (pa_cons (vr 1) pa_nil))), ?_⟩
    have m : ∀ b o, sqO o = true → H b = some o → untrs H (clos.map (·.2)) b = some o := fun b o n e => untrs_of ca e fun v z => by rw [z] at n; cases n
    refine ⟨vt, vk, tl, tk, B, rfl, ht.m m, hk.m m, hBB, hwf, TabsOk.untrs hT ca, fun H' v t' hT3 few => fun H3 s3 hc => ?_⟩
    exact q _ _ (back t' s3 hc) (hT3.same s3) (few.t s3.t)
theorem ok_la (T : Txt K mg a) (hB : Bm mg base) : LamOk P w K mg base 6 ld_last_die_1 fvA [] (spLa K a) := by
  have G_Told : FnOk P w K mg base CX0 4 _ _ _ (spToldI a) := (oi_Told T).mono (by decide)
  refine lam_of lsA (fun pm ctv clos c us hl => match us, hl with | [], _ => rfl) (fun vals vs H Q E h => ?_) (fun A outer s H f c clos vals vs Q E hr hfv ca h => ?_)
  · obtain ⟨vk, p, tk, rfl, rfl, _⟩ := h; rfl
  · obtain ⟨vk, p, tk, rfl, rfl, ⟨lk, rfl, hlk⟩, hlen, hT, q⟩ := h
    have small : sizeLine = 16777216 := sizeLine_eq
    refine ⟨_, (pe_make T.mk_Told G_Told hr rfl T.mc_Told T.Bi_Told .nil pass0 (pa_cons (pe_op op_cat (vr 0) (pe_lst (pa_cons (vr 1) pa_nil))) pa_nil)), ?_⟩
    have hlk' := untrs_of ca hlk fun v z => nomatch z
    have hT' := TabsOk.untrs hT ca
    refine ⟨by show 1 ≤ sizeLine; decide, fun l1 f1 => ?_⟩
    have s1 := Same.new (o := .lst [.int p]) f1
    refine ⟨lk, l1, _, _, rfl, rfl, s1 _ _ hlk', upd_same, by rw [List.length_map]; show _ + 1 ≤ sizeLine; omega, fun l2 f2 => ?_⟩
    have s2 := s1.trans (Same.new (o := .lst (tk.map V.int ++ [.int p])) f2)
    have h2 : (upd (upd (untrs H (clos.map (·.2))) l1 (.lst [.int p])) l2 (.lst (tk.map V.int ++ [.int p]))) l2 = some (.lst ((tk ++ [p]).map V.int)) := by rw [List.map_append]; exact upd_same
    generalize upd (upd (untrs H (clos.map (·.2))) l1 (.lst [.int p])) l2 (.lst (tk.map V.int ++ [.int p])) = H2 at s2 h2
    intro x dx hx hdx hne
    have s0 : Same H2 (upd (upd H2 dx (.own x)) x (.ins a.c_Told dx [])) := fun b o e => by rw [upd_ne (ne_of_none e hx), upd_ne (ne_of_none e hdx)]; exact e
    refine ⟨x, dx, l2, tk ++ [p], rfl, upd_same, s0 _ _ h2, by rw [List.length_append]; show _ + 1 < 64; omega, fun H' t ns' k g1 g2 g3 => ⟨rfl, fun H3 s3 hc => ?_⟩⟩
    have sm := s2.trans (made hx hdx k)
    exact q _ _ (back sm.t s3 hc) ((hT'.same sm).same s3) (.inl ⟨rfl, x, dx, t, ns', rfl, s3 _ _ g1, s3 _ _ g2, g3⟩)
theorem ok_lb (T : Txt K mg a) (hB : Bm mg base) : LamOk P w K mg base 6 ld_last_die_2 fvB [] (spLb K a) := by
  have G_Told : FnOk P w K mg base CX0 4 _ _ _ (spToldI a) := (oi_Told T).mono (by decide)
  refine lam_of lsB (fun pm ctv clos c us hl => match us, hl with | [], _ => rfl) (fun vals vs H Q E h => ?_) (fun A outer s H f c clos vals vs Q E hr hfv ca h => ?_)
  · obtain ⟨vk, tk, rfl, rfl, _⟩ := h; rfl
  · obtain ⟨vk, tk, rfl, rfl, ⟨lk, rfl, hlk⟩, hlen, hT, q⟩ := h
    refine ⟨_, (pe_make T.mk_Told G_Told hr rfl T.mc_Told T.Bi_Told .nil pass0 (pa_cons (vr 0) pa_nil)), ?_⟩
    have hlk' := untrs_of ca hlk fun v z => nomatch z
    have hT' := TabsOk.untrs hT ca
    generalize hH2 : untrs H (clos.map (·.2)) = H2 at hlk' hT'
    intro x dx hx hdx hne
    have s0 : Same H2 (upd (upd H2 dx (.own x)) x (.ins a.c_Told dx [])) := fun b o e => by rw [upd_ne (ne_of_none e hx), upd_ne (ne_of_none e hdx)]; exact e
    refine ⟨x, dx, lk, tk, rfl, upd_same, s0 _ _ hlk', by omega, fun H' t ns' k g1 g2 g3 => ⟨rfl, fun H3 s3 hc => ?_⟩⟩
    have sm := made hx hdx k
    rw [← hH2] at sm
    exact q _ _ (back sm.t s3 hc) ((hT'.same (hH2 ▸ sm)).same s3) (.inl ⟨rfl, x, dx, t, ns', rfl, s3 _ _ g1, s3 _ _ g2, g3⟩)
theorem ok_isw (T : Txt K mg a) : FnOk P w K mg base CX0 1 a.f_is_whole a.d_is_whole ["thing", "low", "high"] spIsW := by
  refine T.F_is_whole.ok sc_is_whole (fun vs H Q E h => ?_) (fun cdv A outer s H vs Q E hr h => ?_)
  · obtain ⟨i, lo, hi, rfl, _⟩ := h; rfl
  · obtain ⟨i, lo, hi, rfl, q⟩ := h
    refine ⟨_, (pss_one (ps_ret (m_and (pe_callB call_isi rfl T.z_isinstance bt_isinstance (pa_cons (vr 0) (pa_cons (pe_bltn (v := .ty "int") rfl T.z_int bt_int rfl) pa_nil))) (m_and (m_not (pe_callB call_isi rfl T.z_isinstance bt_isinstance (pa_cons (vr 0) (pa_cons (pe_bltn (v := .ty "bool") rfl T.z_bool bt_bool rfl) pa_nil)))) (pe_one (m_chain o_le o_le (vr 1) (vr 0) (vr 2))))))), ?_⟩
    refine ⟨_, _, _, true, rfl, rfl, .int i, rfl, ?_⟩
    refine ⟨_, _, _, false, rfl, rfl, .int i, rfl, ?_⟩
    exact and_if (Q := fun v => Q v H) q
theorem ok_tt (T : Txt K mg a) : FnOk P w K mg base CX0 1 a.x_Told_is_told a.y_Told_is_told ["self"] (spV (.bl true)) := by
  refine T.F_Told_is_told.ok sc_Told_is_told (fun vs H Q E h => ?_) (fun cdv A outer s H vs Q E hr h => ?_)
  · obtain ⟨v, rfl, _⟩ := h; rfl
  · obtain ⟨v, rfl, q⟩ := h
    exact ⟨_, (pss_one (ps_ret pe_bl)), q⟩
theorem ok_ts (T : Txt K mg a) : FnOk P w K mg base CX0 1 a.x_Told_sides a.y_Told_sides ["self"] (spV (.int 0)) := by
  refine T.F_Told_sides.ok sc_Told_sides (fun vs H Q E h => ?_) (fun cdv A outer s H vs Q E hr h => ?_)
  · obtain ⟨v, rfl, _⟩ := h; rfl
  · obtain ⟨v, rfl, q⟩ := h
    exact ⟨_, (pss_one (ps_ret pe_int)), q⟩
theorem ok_tk (T : Txt K mg a) : FnOk P w K mg base CX0 1 a.x_Told_kept a.y_Told_kept ["self"] (spTK a) := by
  refine T.F_Told_kept.ok sc_Told_kept (fun vs H Q E h => ?_) (fun cdv A outer s H vs Q E hr h => ?_)
  · obtain ⟨x, dx, t, rfl, _⟩ := h; rfl
  · obtain ⟨x, dx, t, rfl, hx, q⟩ := h
    exact ⟨_, (pss_one (ps_ret (pe_fld (vr 0) rfl))), x, _, dx, _, _, rfl, hx, T.cl_Told, T.na_Told_rising, rfl, q⟩
theorem ok_tp (T : Txt K mg a) : FnOk P w K mg base CX0 1 a.x_Told_parts a.y_Told_parts ["self"] spTP := by
  refine T.F_Told_parts.ok sc_Told_parts (fun vs H Q E h => ?_) (fun cdv A outer s H vs Q E hr h => ?_)
  · obtain ⟨v, rfl, _⟩ := h; rfl
  · obtain ⟨v, rfl, q⟩ := h
    exact ⟨_, (pss_one (ps_ret (pe_lst pa_nil))), Nat.zero_le _, q⟩
theorem ok_dt (T : Txt K mg a) : FnOk P w K mg base CX0 1 a.x_Die_is_told a.y_Die_is_told ["self"] (spV (.bl false)) := by
  refine T.F_Die_is_told.ok sc_Die_is_told (fun vs H Q E h => ?_) (fun cdv A outer s H vs Q E hr h => ?_)
  · obtain ⟨v, rfl, _⟩ := h; rfl
  · obtain ⟨v, rfl, q⟩ := h
    exact ⟨_, (pss_one (ps_ret pe_bl)), q⟩
theorem ok_dk (T : Txt K mg a) : FnOk P w K mg base CX0 1 a.x_Die_kept a.y_Die_kept ["self"] (spV .non) := by
  refine T.F_Die_kept.ok sc_Die_kept (fun vs H Q E h => ?_) (fun cdv A outer s H vs Q E hr h => ?_)
  · obtain ⟨v, rfl, _⟩ := h; rfl
  · obtain ⟨v, rfl, q⟩ := h
    exact ⟨_, (pss_one (ps_ret pe_non)), q⟩
theorem ok_ds (T : Txt K mg a) : FnOk P w K mg base CX0 1 a.x_Die_sides a.y_Die_sides ["self"] (spDS K a) := by
  refine T.F_Die_sides.ok sc_Die_sides (fun vs H Q E h => ?_) (fun cdv A outer s H vs Q E hr h => ?_)
  · obtain ⟨v, m1, m2, S1, S2, rfl, _⟩ := h; rfl
  · obtain ⟨v, m1, m2, S1, S2, rfl, ⟨x, dx, l, p1, p2, f1, f2, rfl, hx, hl, h1, h2, _⟩, q⟩ := h
    have small : sizeLine = 16777216 := sizeLine_eq
    refine ⟨_, (pss_one (ps_ret (pe_callB (call_sumI rfl) rfl T.z_sum bt_sum (pa_cons (pe_comp rfl (N := ["many", "make"]) (ix := [none, none]) ⟨rfl, rfl, rfl, rfl, trivial⟩ (pi_any (pe_fld (vr 0) rfl)) ⟨fun C s H fp => (pg_tupK (K := K) (n := 2) rfl rfl (pgs_cons (pg_name (i := 0) (show List.Nodup (["many", "make"] : List Str) by decide +kernel) rfl (Or.inl rfl)) (pgs_cons (pg_name (i := 1) (show List.Nodup (["many", "make"] : List Str) by decide +kernel) rfl (Or.inl rfl)) pgs_nil))), fun C s H fp => pts_nil, fun C s H fp => (vr 0)⟩) pa_nil)))), ?_⟩
    refine ⟨x, _, dx, _, _, rfl, hx, T.cl_Die, T.na_Die_makes, rfl, .inl ⟨⟨_, SqL.of hl⟩, fun D hD => ?_⟩⟩
    refine comp_list (K := K) (a := l) (xs := [.ref p1, .ref p2]) (fun i ys H' => Same H H' ∧ H' D = some (.lst ys) ∧ ys = ([.int m1, .int m2] : List V).take i) ⟨Same.new hD, upd_same, rfl⟩ (fun i ys H' h => SqL.of (h.1 _ _ hl)) (fun i ys H' h => h.2.1) ?_ ?_
    · rintro i y ys H' P' hy ⟨s1, hD1, rfl⟩ hP
      match i, hy with
      | 0, hy =>
        cases hy
        refine ⟨p1, _, rfl, SqT.of (s1 _ _ h1), rfl, _, _, rfl, _, _, rfl, rfl, trivial, hD1, (show 0 < sizeLine by decide), hP _ _ ⟨s1.put hD, upd_same, rfl⟩⟩
      | 1, hy =>
        cases hy
        refine ⟨p2, _, rfl, SqT.of (s1 _ _ h2), rfl, _, _, rfl, _, _, rfl, rfl, trivial, hD1, (show 1 < sizeLine by decide), hP _ _ ⟨s1.put hD, upd_same, rfl⟩⟩
    · rintro ys H' ⟨s1, hD1, rfl⟩
      refine ⟨D, [m1, m2], rfl, SqL.of hD1, ?_⟩
      have e : ([m1, m2] : List Int).sum = m1 + m2 := by simp only [List.sum_cons, List.sum_nil]; omega
      rw [e]
      exact q _ s1
theorem ok_can (T : Txt K mg a) : FnOk P w K mg base CX0 2 a.f_can_be_thrown a.d_can_be_thrown ["node", "throw"] (spCan K a) := by
  have G_is_whole : FnOk P w K mg base CX0 1 _ _ _ spIsW := ok_isw T
  have G_Told_sides : FnOk P w K mg base CX0 1 _ _ _ (spV (.int 0)) := ok_ts T
  have G_Die_sides : FnOk P w K mg base CX0 1 _ _ _ (spDS K a) := ok_ds T
  refine T.F_can_be_thrown.ok sc_can_be_thrown (fun vs H Q E h => ?_) (fun cdv A outer s H vs Q E hr h => ?_)
  · obtain ⟨v, m1, m2, S1, S2, t, rfl, _⟩ := h; rfl
  · obtain ⟨v, m1, m2, S1, S2, t, rfl, hd, t0, t1, q⟩ := h
    obtain ⟨x, dx, l, p1, p2, f1, f2, rfl, hx, _⟩ := id hd
    refine ⟨_, (pss_one (ps_ret (pe_call G_is_whole hr rfl T.m_is_whole T.F_is_whole.kp T.B_is_whole .nil pass0 (pa_cons (vr 1) (pa_cons pe_int (pa_cons (pe_op o_sub (PE.or (pe_meth0 (vr 0) T.cl_Told T.mt_Told_sides G_Told_sides hr T.B_Told_sides .nil pass0) (pe_meth0 (vr 0) T.cl_Die T.mt_Die_sides G_Die_sides hr T.B_Die_sides .nil pass0)) pe_int) pa_nil)))))), ?_⟩
    refine .inr ⟨x, dx, _, rfl, hx, rfl, _, m1, m2, S1, S2, rfl, hd, fun H' s1 => ?_⟩
    refine ⟨t, 0, m1 + m2 - 1, rfl, ?_⟩
    rw [decide_eq_true (show 0 ≤ t ∧ t ≤ m1 + m2 - 1 by omega)]
    exact q _ s1
/-- a part's function, asked -/
theorem mk_call {H : Hp} {f : V} {S : Tl × List Int} {Q : VK} (hm : IsMk K H f S) (hT : TabsOk (tabs a) H) (q : ∀ H' u, SameT H H' → TabsOk (tabs a) H' → IsNode K a H' u S → Q u H') :
    (∃ f' c clos vals, f = .ref f' ∧ H f' = some (.ext (LamX f' ld_settled_make_1 clos c)) ∧ H c = some (.ext (CodeX c ld_settled_make_1.qual)) ∧ clos.map (·.1) = fvS ∧ (clos.map (·.2)).Nodup ∧ CellsAt H clos vals ∧ spLs K a vals [] H Q E0) ∨
    (∃ f' c clos vals, f = .ref f' ∧ H f' = some (.ext (LamX f' ld_last_die_1 clos c)) ∧ H c = some (.ext (CodeX c ld_last_die_1.qual)) ∧ clos.map (·.1) = fvA ∧ (clos.map (·.2)).Nodup ∧ CellsAt H clos vals ∧ spLa K a vals [] H Q E0) ∨
    (∃ f' c clos vals, f = .ref f' ∧ H f' = some (.ext (LamX f' ld_last_die_2 clos c)) ∧ H c = some (.ext (CodeX c ld_last_die_2.qual)) ∧ clos.map (·.1) = fvB ∧ (clos.map (·.2)).Nodup ∧ CellsAt H clos vals ∧ spLb K a vals [] H Q E0) := by
  rcases hm with ⟨vt, vk, tl, tk, B, ⟨f', c, clos, rfl, e1, e2, e3, e4, e5⟩, h2, h3, h4, h5, rfl⟩ | ⟨vk, p, tk, ⟨f', c, clos, rfl, e1, e2, e3, e4, e5⟩, h2, h3, rfl⟩ | ⟨vk, tk, ⟨f', c, clos, rfl, e1, e2, e3, e4, e5⟩, h2, h3, rfl⟩
  · exact .inl ⟨f', c, clos, _, rfl, e1, e2, e3, e4, e5, vt, vk, tl, tk, B, rfl, rfl, h2, h3, h4, h5, hT, q⟩
  · exact .inr (.inl ⟨f', c, clos, _, rfl, e1, e2, e3, e4, e5, vk, p, tk, rfl, rfl, h2, h3, hT, q⟩)
  · exact .inr (.inr ⟨f', c, clos, _, rfl, e1, e2, e3, e4, e5, vk, tk, rfl, rfl, h2, h3, hT, q⟩)
theorem ok_dp (T : Txt K mg a) (hB : Bm mg base) : FnOk P w K mg base CX0 7 a.x_Die_parts a.y_Die_parts ["self"] (spDP K a) := by
  have L_set : LamOk P w K mg base 6 ld_settled_make_1 fvS [] (spLs K a) := ok_ls T hB
  have L_la : LamOk P w K mg base 6 ld_last_die_1 fvA [] (spLa K a) := ok_la T hB
  have L_lb : LamOk P w K mg base 6 ld_last_die_2 fvB [] (spLb K a) := ok_lb T hB
  refine T.F_Die_parts.ok sc_Die_parts (fun vs H Q E h => ?_) (fun cdv A outer s H vs Q E hr h => ?_)
  · obtain ⟨v, m1, m2, S1, S2, rfl, _⟩ := h; rfl
  · obtain ⟨v, m1, m2, S1, S2, rfl, ⟨x, dx, l, p1, p2, f1, f2, rfl, hx, hl, h1, h2, mk1, mk2⟩, hT, q⟩ := h
    refine ⟨_, (pss_one (ps_ret (pe_comp rfl (N := ["many", "make"]) (ix := [none, none]) ⟨rfl, rfl, rfl, rfl, trivial⟩ (pi_any (pe_fld (vr 0) rfl)) ⟨fun C s H fp => (pg_tupK (K := K) (n := 2) rfl rfl (pgs_cons (pg_name (i := 0) (show List.Nodup (["many", "make"] : List Str) by decide +kernel) rfl (Or.inl rfl)) (pgs_cons (pg_name (i := 1) (show List.Nodup (["many", "make"] : List Str) by decide +kernel) rfl (Or.inl rfl)) pgs_nil))), fun C s H fp => pts_nil, fun C s H fp => (pe_tup (pa_cons (vr 0) (pa_cons (PE.or (pe_callL0 (vr 1) L_set hr) (PE.or (pe_callL0 (vr 1) L_la hr) (pe_callL0 (vr 1) L_lb hr))) pa_nil)))⟩))), ?_⟩
    refine ⟨x, _, dx, _, _, rfl, hx, T.cl_Die, T.na_Die_makes, rfl, .inl ⟨⟨_, SqL.of hl⟩, fun D hD => ?_⟩⟩
    have hTD : TabsOk (tabs a) (upd H D (.lst [])) := hT.same (Same.new hD)
    have ext : ∀ {H' : Hp}, TabsOk (tabs a) H' → ∀ {ys : List V} {ys' : List V}, H' D = some (.lst ys) → TabsOk (tabs a) (upd H' D (.lst ys')) := fun hT' ys ys' e => hT'.put (fun ps z => by rw [e] at z; cases z) fun φ z => by rw [e] at z; cases z
    refine comp_list (K := K) (a := l) (xs := [.ref p1, .ref p2]) (fun i ys H' => SameT H H' ∧ TabsOk (tabs a) H' ∧ H' D = some (.lst ys) ∧ ((i = 0 ∧ ys = []) ∨ (i = 1 ∧ ∃ q1 n1, ys = [.ref q1] ∧ H' q1 = some (.tup [.int m1, n1])) ∨ (i = 2 ∧ ∃ q1 q2 n1 n2, ys = [.ref q1, .ref q2] ∧ H' q1 = some (.tup [.int m1, n1]) ∧ H' q2 = some (.tup [.int m2, n2]))))
      ⟨(Same.new hD).t, hTD, upd_same, .inl ⟨rfl, rfl⟩⟩ (fun i ys H' h => SqL.of (h.1.at hl)) (fun i ys H' h => h.2.2.1) ?_ ?_
    · rintro i y ys H' P' hy ⟨t1, hT1, hD1, hc⟩ hP
      match i, hy with
      | 0, hy =>
        cases hy
        have ey : ys = [] := by
          rcases hc with ⟨_, e⟩ | ⟨z, _⟩ | ⟨z, _⟩
          · exact e
          · cases z
          · cases z
        subst ey
        refine ⟨p1, _, rfl, SqT.of (t1.at h1), rfl, _, _, rfl, _, _, rfl, rfl, trivial, ?_⟩
        refine mk_call (mk1.t t1) hT1 fun H2 v2 t2 hT2 few => ?_
        refine ⟨(show 2 ≤ sizeLine by decide), fun q1 hq1 => ?_⟩
        have s3 := Same.new (o := .tup [.int m1, v2]) hq1
        have hD3 := s3 _ _ (t2.at hD1)
        have n1 : q1 ≠ D := fun z => by rw [z, t2.at hD1] at hq1; cases hq1
        refine ⟨hD3, (show 0 < sizeLine by decide), hP _ _ ⟨((t1.trans t2).trans s3.t).put hD, ext (hT2.same s3) hD3, upd_same, .inr (.inl ⟨rfl, q1, v2, rfl, ?_⟩)⟩⟩
        rw [upd_ne n1]
        exact upd_same
      | 1, hy =>
        cases hy
        have ey : ∃ q1 n1, ys = [.ref q1] ∧ H' q1 = some (.tup [.int m1, n1]) := by
          rcases hc with ⟨z, _⟩ | ⟨_, e⟩ | ⟨z, _⟩
          · cases z
          · exact e
          · cases z
        obtain ⟨q1, n1, rfl, hq1⟩ := ey
        refine ⟨p2, _, rfl, SqT.of (t1.at h2), rfl, _, _, rfl, _, _, rfl, rfl, trivial, ?_⟩
        refine mk_call (mk2.t t1) hT1 fun H2 v2 t2 hT2 few => ?_
        refine ⟨(show 2 ≤ sizeLine by decide), fun q2 hq2 => ?_⟩
        have s3 := Same.new (o := .tup [.int m2, v2]) hq2
        have hD3 := s3 _ _ (t2.at hD1)
        have nq : q2 ≠ D := fun z => by rw [z, t2.at hD1] at hq2; cases hq2
        have nq1 : q1 ≠ D := fun z => by rw [z, hD1] at hq1; cases hq1
        refine ⟨hD3, (show 1 < sizeLine by decide), hP _ _ ⟨((t1.trans t2).trans s3.t).put hD, ext (hT2.same s3) hD3, upd_same, .inr (.inr ⟨rfl, q1, q2, n1, v2, rfl, ?_, ?_⟩)⟩⟩
        · rw [upd_ne nq1]; exact s3 _ _ (t2.at hq1)
        · rw [upd_ne nq]; exact upd_same
    · rintro ys H' ⟨t1, hT1, hD1, hc⟩
      rcases hc with ⟨z, _⟩ | ⟨z, _⟩ | ⟨_, q1, q2, n1, n2, rfl, g1, g2⟩
      · cases z
      · cases z
      · exact q _ D q1 q2 n1 n2 t1 hT1 hD hD1 g1 g2
theorem ok_da (T : Txt K mg a) (hB : Bm mg base) : FnOk P w K mg base CX0 7 a.x_Die_after a.y_Die_after ["self", "throw"] (spDA K a) := by
  have L_set : LamOk P w K mg base 6 ld_settled_make_1 fvS [] (spLs K a) := ok_ls T hB
  have L_la : LamOk P w K mg base 6 ld_last_die_1 fvA [] (spLa K a) := ok_la T hB
  have L_lb : LamOk P w K mg base 6 ld_last_die_2 fvB [] (spLb K a) := ok_lb T hB
  have G_can_be_thrown : FnOk P w K mg base CX0 6 _ _ _ (spCan K a) := (ok_can T).mono (by decide)
  refine T.F_Die_after.ok sc_Die_after (fun vs H Q E h => ?_) (fun cdv A outer s H vs Q E hr h => ?_)
  · obtain ⟨v, m1, m2, S1, S2, t, rfl, _⟩ := h; rfl
  · obtain ⟨v, m1, m2, S1, S2, t, rfl, hd, t0, t1, hT, q⟩ := h
    refine ⟨_, (pss_cons (ps_if (pt_not (t_val (pe_call G_can_be_thrown hr rfl T.m_can_be_thrown T.F_can_be_thrown.kp T.B_can_be_thrown .nil pass0 (pa_cons (vr 0) (pa_cons (vr 1) pa_nil))))) (pss_one ps_never) pss_nil) (pss_cons (ps_set (i := 2) sc_Die_after.nd rfl (Or.inl rfl) pe_int) (pss_cons (ps_set (i := 3) sc_Die_after.nd rfl (Or.inl rfl) (pe_op o_sub (pe_ix ix_seq (pe_ix ix_seq (pe_fld (vr 0) rfl) pe_int (fun _ _ => rfl)) pe_int (fun _ _ => rfl)) pe_int)) (pss_cons (ps_while PassesOwn.never (t_cmp o_lt (vr 3) (vr 1) (nomark _)) (pss_cons (ps_aug (i := 2) sc_Die_after.nd rfl (Or.inl rfl) pe_int ip_add) (pss_one (ps_aug (i := 3) sc_Die_after.nd rfl (Or.inl rfl) (pe_ix ix_seq (pe_ix ix_seq (pe_fld (vr 0) rfl) (vr 2) (fun _ _ => rfl)) pe_int (fun _ _ => rfl)) ip_add)))) (pss_cons (ps_asg (pe_ix ix_seq (pe_fld (vr 0) rfl) (vr 2) (fun _ _ => rfl)) (pg_tup rfl (pgs_cons (pg_name (i := 4) sc_Die_after.nd rfl (Or.inl rfl)) (pgs_cons (pg_name (i := 5) sc_Die_after.nd rfl (Or.inl rfl)) pgs_nil)))) (pss_one (ps_ret (PE.or (pe_callL0 (vr 5) L_set hr) (PE.or (pe_callL0 (vr 5) L_la hr) (pe_callL0 (vr 5) L_lb hr)))))))))), ?_⟩
    refine ⟨v, m1, m2, S1, S2, t, rfl, hd, t0, t1, fun H1 s1 => ?_⟩
    have hd1 := hd.t s1.t
    have hT1 := hT.same s1
    obtain ⟨x, dx, l, p1, p2, f1, f2, rfl, hx, hl, h1, h2, mk1, mk2⟩ := id hd1
    refine ⟨x, _, dx, _, _, rfl, hx, T.cl_Die, T.na_Die_makes, rfl, .inl ⟨l, _, _, _, rfl, rfl, SqL.of hl, atI_cons 0 rfl rfl, .inr (.inl ⟨p1, _, _, _, rfl, rfl, SqT.of h1, atI_cons 0 rfl rfl, ?_⟩)⟩⟩
    refine ⟨fun k σ H' => H' = H1 ∧ ∃ (number : Nat) (last : Int) (x4 x5 : Option V), σ = [some (.ref x), some (.int t), some (.int (number : Nat)), some (.int last), x4, x5] ∧ ((number = 0 ∧ last = m1 - 1 ∧ k = 1) ∨ (number = 1 ∧ last = m1 + m2 - 1 ∧ m1 ≤ t ∧ k = 0)), ⟨1, rfl, 0, _, _, _, rfl, .inl ⟨rfl, rfl, rfl⟩⟩, ?_⟩
    rintro k σ H' ⟨rfl, number, last, x4, x5, rfl, hcs⟩
    refine ifC (fun c => ?_) fun c => ?_
    · have c : last < t := c
      have hc0 : number = 0 ∧ last = m1 - 1 ∧ k = 1 := by
        rcases hcs with h | ⟨_, h, _⟩
        · exact h
        · omega
      obtain ⟨rfl, rfl, rfl⟩ := hc0
      refine ⟨fun σ' H'' => H'' = H' ∧ σ' = [some (.ref x), some (.int t), some (.int ((1 : Nat) : Int)), some (.int (m1 + m2 - 1)), x4, x5], ?_, ?_⟩
      · rintro σ' H'' ⟨rfl, rfl⟩
        exact ⟨0, by decide, rfl, 1, _, _, _, rfl, .inr ⟨rfl, rfl, by omega, rfl⟩⟩
      · refine ⟨_, rfl, _, _, rfl, rfl, _, rfl, ?_⟩
        refine ⟨x, _, dx, _, _, rfl, hx, T.cl_Die, T.na_Die_makes, rfl, .inl ⟨l, _, _, _, rfl, rfl, SqL.of hl, atI_cons 1 rfl rfl, .inr (.inl ⟨p2, _, _, _, rfl, rfl, SqT.of h2, atI_cons 0 rfl rfl, _, _, rfl, rfl, rfl, ?_⟩)⟩⟩
        show [some (V.ref x), some (.int t), some (.int (0 + 1)), some (.int (m1 - 1 + m2)), x4, x5] = _
        rw [show m1 - 1 + m2 = m1 + m2 - 1 by omega]
        rfl
    · have c : ¬ last < t := c
      rcases hcs with ⟨rfl, rfl, _⟩ | ⟨rfl, rfl, hm, _⟩
      · have hlt : t < m1 := by omega
        refine ⟨x, _, dx, _, _, rfl, hx, T.cl_Die, T.na_Die_makes, rfl, .inl ⟨l, _, _, _, rfl, rfl, SqL.of hl, atI_cons 0 rfl rfl, p1, _, rfl, SqT.of h1, rfl, _, _, rfl, _, _, rfl, rfl, ?_⟩⟩
        refine mk_call mk1 hT1 fun H2 v2 t2 hT2 nd => ?_
        refine q _ _ (s1.t.trans t2) hT2 ?_
        rw [if_pos hlt]
        exact nd
      · have hlt : ¬ t < m1 := by omega
        refine ⟨x, _, dx, _, _, rfl, hx, T.cl_Die, T.na_Die_makes, rfl, .inl ⟨l, _, _, _, rfl, rfl, SqL.of hl, atI_cons 1 rfl rfl, p2, _, rfl, SqT.of h2, rfl, _, _, rfl, _, _, rfl, rfl, ?_⟩⟩
        refine mk_call mk2 hT1 fun H2 v2 t2 hT2 nd => ?_
        refine q _ _ (s1.t.trans t2) hT2 ?_
        rw [if_neg hlt]
        exact nd
end
end My

set_option Elab.async false
set_option linter.all false
set_option maxRecDepth 100000
set_option maxHeartbeats 4000000
namespace My
open PySem L2 FrM
theorem srt_uniq {l₁ l₂ k : List Int} (a : Srt l₁ k) (b : Srt l₂ k) : l₁ = l₂ := List.Perm.eq_of_pairwise (fun x y _ _ h h' => Int.le_antisymm h h') a.2 b.2 (a.1.trans b.1.symm)
/-- a node along the throws that are left -/
structure At (K : PySem.W.Frag) (a : Ad) (H : Hp) (v : V) (rows : List (Int × Int × Int)) (kept : List Int) : Prop where
  ex : ∃ S : Tl × List Int, IsNode K a H v S ∧ Good S.1 S.2 rows kept
theorem At.t {K : PySem.W.Frag} {a : Ad} {H H' : Hp} {v : V} {rows : List (Int × Int × Int)} {kept : List Int} (s : SameT H H') (h : At K a H v rows kept) : At K a H' v rows kept :=
  let ⟨S, h1, h3⟩ := h.ex; ⟨S, h1.t s, h3⟩
theorem At.nil {K : PySem.W.Frag} {a : Ad} {H : Hp} {v : V} {kept : List Int} (h : At K a H v [] kept) : IsTold a H v kept := by
  obtain ⟨S, h1, h3, h4⟩ := h.ex
  rw [h4]
  rcases h1 with ⟨_, h⟩ | ⟨h, _⟩
  · exact h
  · exact absurd h3 h
theorem At.cons {K : PySem.W.Frag} {a : Ad} {H : Hp} {v : V} {k n t : Int} {rows : List (Int × Int × Int)} {kept : List Int} (h : At K a H v ((k, n, t) :: rows) kept) : ∃ S1 S2, IsDie K a H v k n S1 S2 ∧ 0 ≤ t ∧ t < k + n ∧
    ∀ H' v', IsNode K a H' v' (if t < k then S1 else S2) → At K a H' v' rows kept := by
  obtain ⟨S, h1, g1, g2, g3, g4, g5, g6⟩ := h.ex
  rcases h1 with ⟨z, _⟩ | ⟨_, hd⟩
  · exact absurd z g1
  rw [← g2, ← g3] at hd
  refine ⟨_, _, hd, g4, g5, fun H' v' nd => ⟨_, nd, ?_⟩⟩
  by_cases c : t < k
  · rw [if_pos c]
    rw [decide_eq_true c] at g6
    exact g6
  · rw [if_neg c]
    rw [decide_eq_false c] at g6
    exact g6
noncomputable def spDrawn (K : PySem.W.Frag) (a : Ad) : Sp := fun vs H Q _ => ∃ v l rows kept, vs = [v, .ref l] ∧ At K a H v rows kept ∧ H l = some (.lst ((rows.map fun r => r.2.2).map V.int)) ∧ TabsOk (tabs a) H ∧
  ∀ H' t ns, SameT H H' → TabsOk (tabs a) H' → H' t = some (.tup (ns.map V.int)) → Srt ns kept → Q (.ref t) H'
noncomputable def RowAt (H : Hp) (r : Int × Int × Int) (x : V) : Prop := ∃ p ls, x = .ref p ∧ H p = some (.tup [.ref ls, .int r.2.2]) ∧ H ls = some (.lst [.int r.1, .int r.2.1])
noncomputable abbrev RowsAt (H : Hp) : List (Int × Int × Int) → List V → Prop := Paired (RowAt H)
theorem RowsAt.t {H H' : Hp} (s : SameT H H') : ∀ {rs : List (Int × Int × Int)} {xs : List V}, RowsAt H rs xs → RowsAt H' rs xs
  | _, _, .nil => .nil
  | _, _, .cons ⟨p, ls, h1, h2, h3⟩ t => .cons ⟨p, ls, h1, s.at h2, s.at h3⟩ (RowsAt.t s t)
theorem RowsAt.get {H : Hp} : ∀ {rs : List (Int × Int × Int)} {xs : List V} {i : Nat} {x : V}, RowsAt H rs xs → xs[i]? = some x → ∃ r, rs[i]? = some r ∧ RowAt H r x
  | _, _, _, _, .nil, h => by cases h
  | _, _, 0, _, .cons r _, h => ⟨_, rfl, by cases h; exact r⟩
  | _, _, i + 1, _, .cons _ t, h => RowsAt.get (i := i) t h
theorem RowsAt.len {H : Hp} {rs : List (Int × Int × Int)} {xs : List V} (h : RowsAt H rs xs) : rs.length = xs.length := Paired.length h
theorem RowsAt.snoc {H : Hp} {r : Int × Int × Int} {x : V} (h : RowAt H r x) : ∀ {rs : List (Int × Int × Int)} {xs : List V}, RowsAt H rs xs → RowsAt H (rs ++ [r]) (xs ++ [x])
  | _, _, .nil => .cons h .nil
  | _, _, .cons a b => .cons a (RowsAt.snoc h b)
noncomputable def spThrown (K : PySem.W.Frag) (a : Ad) : Sp := fun vs H Q _ => ∃ v l kt rows xs kept ks, vs = [v, .ref l, .ref kt] ∧ At K a H v rows kept ∧ H l = some (.lst xs) ∧ RowsAt H rows xs ∧ H kt = some (.tup (ks.map V.int)) ∧ Srt ks kept ∧ ks.length ≤ 40 ∧ TabsOk (tabs a) H ∧
  ∀ H', SameT H H' → TabsOk (tabs a) H' → Q (.bl true) H'
noncomputable def tl0 (sh : List (Int × Int)) (ord : List Nat) : Tl := ord.map fun (o : Nat) => ((o : Int), sh.getD o (0, 1))
noncomputable def spDuels (K : PySem.W.Frag) (a : Ad) : Sp := fun vs H Q _ => ∃ (ls lo : Addr) (xs : List V) (sh : List (Int × Int)) (ord : List Nat) (B : Int) (N : Addr → Prop), vs = [.ref ls, .ref lo] ∧ H ls = some (.lst xs) ∧ AllF K H sh xs ∧ H lo = some (.lst (ord.map fun (o : Nat) => V.int (o : Int))) ∧ (∀ o ∈ ord, o < sh.length) ∧ ord.length ≤ 24 ∧ BB B ∧ (∀ f ∈ sh, Fr B f) ∧ TabsOk (tabs a) H ∧ (∀ b, H b = none → N b) ∧
  ∀ H' u, SameT H H' → TabsOk (tabs a) H' → IsNodeN K a N H' u (sett (tl0 sh ord) []) → Q u H'
section
variable {P : Program} {w : World} {K : PySem.W.Frag} {mg : Str → Option Value} {base : Heap} {a : Ad}
theorem ok_drawn (T : Txt K mg a) (hB : Bm mg base) : FnOk P w K mg base CX0 8 a.f_drawn a.d_drawn ["node", "throws"] (spDrawn K a) := by
  have G_can_be_thrown : FnOk P w K mg base CX0 7 _ _ _ (spCan K a) := (ok_can T).mono (by decide)
  have G_Die_after : FnOk P w K mg base CX0 7 _ _ _ (spDA K a) := ok_da T hB
  have G_Told_is_told : FnOk P w K mg base CX0 7 _ _ _ (spV (.bl true)) := (ok_tt T).mono (by decide)
  have G_Die_is_told : FnOk P w K mg base CX0 7 _ _ _ (spV (.bl false)) := (ok_dt T).mono (by decide)
  have G_Told_kept : FnOk P w K mg base CX0 7 _ _ _ (spTK a) := (ok_tk T).mono (by decide)
  have G_Die_kept : FnOk P w K mg base CX0 7 _ _ _ (spV .non) := (ok_dk T).mono (by decide)
  refine T.F_drawn.ok sc_drawn (fun vs H Q E h => ?_) (fun cdv A outer s H vs Q E hr h => ?_)
  · obtain ⟨v, l, rows, kept, rfl, _⟩ := h; rfl
  · obtain ⟨v, l, rows, kept, rfl, hat, hl, hT, q⟩ := h
    refine ⟨_, (pss_cons (ps_set (i := 2) sc_drawn.nd rfl (Or.inl rfl) (vr 0)) (pss_cons (ps_for PassesOwn.never rfl (pi_enum rfl T.z_enumerate (pa_cons (vr 1) pa_nil)) (pg_tup rfl (pgs_cons (pg_name (i := 3) sc_drawn.nd rfl (Or.inl rfl)) (pgs_cons (pg_name (i := 4) sc_drawn.nd rfl (Or.inl rfl)) pgs_nil))) (pss_cons (ps_if (pt_not (t_val (pe_call G_can_be_thrown hr rfl T.m_can_be_thrown T.F_can_be_thrown.kp T.B_can_be_thrown .nil pass0 (pa_cons (vr 2) (pa_cons (vr 4) pa_nil))))) (pss_one ps_never) pss_nil) (pss_one (ps_set (i := 2) sc_drawn.nd rfl (Or.inl rfl) (pe_meth (vr 2) T.cl_Die T.mt_Die_after G_Die_after hr T.B_Die_after .nil pass0 (pa_cons (vr 4) pa_nil)))))) (pss_cons (ps_if (pt_not (t_val (PE.or (pe_meth0 (vr 2) T.cl_Told T.mt_Told_is_told G_Told_is_told hr T.B_Told_is_told .nil pass0) (pe_meth0 (vr 2) T.cl_Die T.mt_Die_is_told G_Die_is_told hr T.B_Die_is_told .nil pass0)))) (pss_one ps_never) pss_nil) (pss_one (ps_ret (PE.or (pe_meth0 (vr 2) T.cl_Told T.mt_Told_kept G_Told_kept hr T.B_Told_kept .nil pass0) (pe_meth0 (vr 2) T.cl_Die T.mt_Die_kept G_Die_kept hr T.B_Die_kept .nil pass0))))))), ?_⟩
    refine ⟨l, _, rfl, hl, for_enum (a := l) (xs := (rows.map fun r => r.2.2).map V.int) (fun i σ H' => SameT H H' ∧ TabsOk (tabs a) H' ∧ ∃ (here : V) (x3 x4 : Option V), σ = [some v, some (.ref l), some here, x3, x4] ∧ At K a H' here (rows.drop i) kept) ⟨SameT.refl, hT, v, none, none, rfl, hat⟩ (fun i σ H' h => h.1.at hl) ?_ ?_⟩
    · rintro i x σ H' p hx ⟨t1, hT1, here, x3, x4, rfl, hat1⟩ hp
      rw [List.getElem?_map, List.getElem?_map] at hx
      cases hri : rows[i]? with
      | none => rw [hri] at hx; cases hx
      | some r =>
        obtain ⟨k, n, t⟩ := r
        rw [hri] at hx
        cases hx
        have hdr : rows.drop i = (k, n, t) :: rows.drop (i + 1) := by
          obtain ⟨hi, e⟩ := List.getElem?_eq_some_iff.mp hri
          rw [List.drop_eq_getElem_cons hi, e]
        rw [hdr] at hat1
        have s2 : Same H' (upd H' p (.tup [.int (i : Nat), .int t])) := Same.new hp
        obtain ⟨S1, S2, hd, t0, t1', nxt⟩ := (hat1.t s2.t).cons
        refine ⟨p, _, rfl, SqT.of upd_same, rfl, _, _, rfl, _, _, rfl, rfl, ?_⟩
        refine ⟨here, k, n, S1, S2, t, rfl, hd, t0, t1', fun H2 s3 => ?_⟩
        have hd2 := hd.t s3.t
        obtain ⟨x, dx, l', p1, p2, f1, f2, rfl, hx', _⟩ := id hd2
        refine ⟨x, dx, _, rfl, hx', rfl, _, k, n, S1, S2, t, rfl, hd2, t0, t1', (hT1.same s2).same s3, fun H3 v' t4 hT4 few => ?_⟩
        exact ⟨t1.trans (s2.t.trans (s3.t.trans t4)), hT4, v', _, _, rfl, nxt _ _ few⟩
    · rintro σ H' ⟨t1, hT1, here, x3, x4, rfl, hat1⟩
      rw [List.length_map, List.length_map, List.drop_length] at hat1
      obtain ⟨x, dx, t, ns, rfl, hx, ht, hs⟩ := hat1.nil
      refine .inl ⟨x, dx, _, rfl, hx, rfl, _, rfl, ?_⟩
      exact .inl ⟨x, dx, _, rfl, hx, rfl, x, dx, t, rfl, hx, q _ t ns t1 hT1 ht hs⟩
theorem dvs_int {H : Hp} : ∀ (l : List Int), DVs K H (l.map PyData.int) (l.map V.int)
  | [] => by simp [DVs]
  | c :: l => by
    rw [List.map_cons, List.map_cons, DVs]
    exact ⟨_, _, rfl, by simp [DV], dvs_int l⟩
theorem lay_ints : ∀ (l : List Int), PyData.canLayAll0 (l.map PyData.int) = true ∧ PyData.depthAll (l.map PyData.int) ≤ 1
  | [] => by simp [PyData.canLayAll0, PyData.depthAll]
  | t :: l => by
    obtain ⟨h1, h2⟩ := lay_ints l
    rw [List.map_cons, PyData.canLayAll0, PyData.depthAll, h1, PyData.canLay0]
    refine ⟨rfl, ?_⟩
    simp only [PyData.depth]
    omega
theorem ne_ints {H : Hp} {ns : List Int} {l r : Addr} {Q : VK} (h1 : H l = some (.lst (ns.map V.int))) (h2 : H r = some (.lst (ns.map V.int))) (q : Q (.bl false) H) : rEqD K true (.ref l) (.ref r) H Q := by
  have hs : SeqAt.shaped (.list (ns.map PyData.int)) = true := by
    obtain ⟨k1, k2⟩ := lay_ints ns
    unfold SeqAt.shaped
    rw [PyData.canLay0, k1, Bool.true_and]
    refine decide_eq_true ?_
    simp only [PyData.depth]
    omega
  refine ⟨.list (ns.map PyData.int), .list (ns.map PyData.int), by rw [DV]; exact ⟨l, _, rfl, SqL.of h1, dvs_int _⟩, by rw [DV]; exact ⟨r, _, rfl, SqL.of h2, dvs_int _⟩, hs, hs, ?_⟩
  rw [SeqAt.eqv_refl _ (SeqAt.canLay_of_shaped hs)]
  exact q
theorem eq_tups {H : Hp} {ns : List Int} {l r : Addr} {Q : VK} (h1 : H l = some (.tup (ns.map V.int))) (h2 : H r = some (.tup (ns.map V.int))) (q : Q (.bl true) H) : rEqD K false (.ref l) (.ref r) H Q := by
  have hsh : SeqAt.shaped (.tuple (ns.map PyData.int)) = true := by
    obtain ⟨k1, k2⟩ := lay_ints ns
    unfold SeqAt.shaped
    rw [PyData.canLay0, k1, Bool.true_and]
    refine decide_eq_true ?_
    simp only [PyData.depth]
    omega
  refine ⟨.tuple (ns.map PyData.int), .tuple (ns.map PyData.int), ?_, ?_, hsh, hsh, ?_⟩
  · rw [DV]; exact ⟨l, _, rfl, SqT.of h1, dvs_int ns⟩
  · rw [DV]; exact ⟨r, _, rfl, SqT.of h2, dvs_int ns⟩
  rw [SeqAt.eqv_refl _ (SeqAt.canLay_of_shaped hsh)]
  exact q
theorem eq_nils {H : Hp} {l r : Addr} {Q : VK} (h1 : H l = some (.lst [])) (h2 : H r = some (.lst [])) (q : Q (.bl true) H) : rEqD K false (.ref l) (.ref r) H Q := by
  refine ⟨.list [], .list [], ?_, ?_, by decide +kernel, by decide +kernel, ?_⟩
  · rw [DV]; exact ⟨l, _, rfl, SqL.of h1, by simp [DVs]⟩
  · rw [DV]; exact ⟨r, _, rfl, SqL.of h2, by simp [DVs]⟩
  have : PyData.eqv (.list []) (.list []) = true := by decide +kernel
  rw [this]
  exact q
theorem ok_thrown (T : Txt K mg a) (hB : Bm mg base) : FnOk P w K mg base CX0 8 a.f_L_thrown a.d_L_thrown ["_law_node", "_law_rows", "_law_kept"] (spThrown K a) := by
  have G_Die_after : FnOk P w K mg base CX0 7 _ _ _ (spDA K a) := ok_da T hB
  have G_Told_is_told : FnOk P w K mg base CX0 7 _ _ _ (spV (.bl true)) := (ok_tt T).mono (by decide)
  have G_Die_is_told : FnOk P w K mg base CX0 7 _ _ _ (spV (.bl false)) := (ok_dt T).mono (by decide)
  have G_Told_kept : FnOk P w K mg base CX0 7 _ _ _ (spTK a) := (ok_tk T).mono (by decide)
  have G_Die_kept : FnOk P w K mg base CX0 7 _ _ _ (spV .non) := (ok_dk T).mono (by decide)
  have G_Told_sides : FnOk P w K mg base CX0 7 _ _ _ (spV (.int 0)) := (ok_ts T).mono (by decide)
  have G_Die_sides : FnOk P w K mg base CX0 7 _ _ _ (spDS K a) := (ok_ds T).mono (by decide)
  have G_Told_parts : FnOk P w K mg base CX0 7 _ _ _ spTP := (ok_tp T).mono (by decide)
  have G_Die_parts : FnOk P w K mg base CX0 7 _ _ _ (spDP K a) := ok_dp T hB
  refine T.F_L_thrown.ok sc_L_thrown (fun vs H Q E h => ?_) (fun cdv A outer s H vs Q E hr h => ?_)
  · obtain ⟨v, l, kt, rows, xs, kept, ks, rfl, _⟩ := h; rfl
  · obtain ⟨v, l, kt, rows, xs, kept, ks, rfl, hat, hl, hrs, hk, hks, hkl, hT, q⟩ := h
    refine ⟨_, (pss_cons (ps_for PassesOwn.never rfl (pi_any (vr 1)) (pg_tup rfl (pgs_cons (pg_name (i := 3) sc_L_thrown.nd rfl (Or.inl rfl)) (pgs_cons (pg_name (i := 4) sc_L_thrown.nd rfl (Or.inl rfl)) pgs_nil))) (pss_cons (ps_if (PW.pt (pw_or (t_val (PE.or (pe_meth0 (vr 0) T.cl_Told T.mt_Told_is_told G_Told_is_told hr T.B_Told_is_told .nil pass0) (pe_meth0 (vr 0) T.cl_Die T.mt_Die_is_told G_Die_is_told hr T.B_Die_is_told .nil pass0))) (pw_or (t_cmp o_isnot (PE.or (pe_meth0 (vr 0) T.cl_Told T.mt_Told_kept G_Told_kept hr T.B_Told_kept .nil pass0) (pe_meth0 (vr 0) T.cl_Die T.mt_Die_kept G_Die_kept hr T.B_Die_kept .nil pass0)) pe_non (nomark _)) (pw_or1 (t_cmp o_ne (PE.or (pe_meth0 (vr 0) T.cl_Told T.mt_Told_sides G_Told_sides hr T.B_Told_sides .nil pass0) (pe_meth0 (vr 0) T.cl_Die T.mt_Die_sides G_Die_sides hr T.B_Die_sides .nil pass0)) (pe_callB (call_sumI rfl) rfl T.z_sum bt_sum (pa_cons (vr 3) pa_nil)) (nomark _)))))) (pss_one (ps_ret pe_bl)) pss_nil) (pss_cons (ps_if (t_cmp (o_neD hr.units) (pe_comp rfl (N := ["_law_many", "_law_part"]) (ix := [none, none]) ⟨rfl, rfl, rfl, rfl, trivial⟩ (pi_any (PE.or (pe_meth0 (vr 0) T.cl_Told T.mt_Told_parts G_Told_parts hr T.B_Told_parts .nil pass0) (pe_meth0 (vr 0) T.cl_Die T.mt_Die_parts G_Die_parts hr T.B_Die_parts .nil pass0))) ⟨fun C s H fp => (pg_tupK (K := K) (n := 2) rfl rfl (pgs_cons (pg_name (i := 0) (show List.Nodup (["_law_many", "_law_part"] : List Str) by decide +kernel) rfl (Or.inl rfl)) (pgs_cons (pg_name (i := 1) (show List.Nodup (["_law_many", "_law_part"] : List Str) by decide +kernel) rfl (Or.inl rfl)) pgs_nil))), fun C s H fp => pts_nil, fun C s H fp => (vr 0)⟩) (vr 3) (nomark _)) (pss_one (ps_ret pe_bl)) pss_nil) (pss_one (ps_set (i := 0) sc_L_thrown.nd rfl (Or.inl rfl) (pe_meth (vr 0) T.cl_Die T.mt_Die_after G_Die_after hr T.B_Die_after .nil pass0 (pa_cons (vr 4) pa_nil))))))) (pss_one (ps_ret (m_and (PE.or (pe_meth0 (vr 0) T.cl_Told T.mt_Told_is_told G_Told_is_told hr T.B_Told_is_told .nil pass0) (pe_meth0 (vr 0) T.cl_Die T.mt_Die_is_told G_Die_is_told hr T.B_Die_is_told .nil pass0)) (m_and (pe_cmpR (o_eqD hr.units) (PE.or (pe_meth0 (vr 0) T.cl_Told T.mt_Told_kept G_Told_kept hr T.B_Told_kept .nil pass0) (pe_meth0 (vr 0) T.cl_Die T.mt_Die_kept G_Die_kept hr T.B_Die_kept .nil pass0)) (vr 2) (nomark _)) (m_and (pe_cmpR o_eq (PE.or (pe_meth0 (vr 0) T.cl_Told T.mt_Told_sides G_Told_sides hr T.B_Told_sides .nil pass0) (pe_meth0 (vr 0) T.cl_Die T.mt_Die_sides G_Die_sides hr T.B_Die_sides .nil pass0)) pe_int (nomark _)) (pe_one (pe_cmpR (o_eqD hr.units) (PE.or (pe_meth0 (vr 0) T.cl_Told T.mt_Told_parts G_Told_parts hr T.B_Told_parts .nil pass0) (pe_meth0 (vr 0) T.cl_Die T.mt_Die_parts G_Die_parts hr T.B_Die_parts .nil pass0)) (pe_lst pa_nil) (nomark _))))))))), ?_⟩
    refine .inl ⟨⟨_, SqL.of hl⟩, for_list (K := K) (a := l) (xs := xs) (fun i σ H' => SameT H H' ∧ TabsOk (tabs a) H' ∧ ∃ (here : V) (x3 x4 : Option V), σ = [some here, some (.ref l), some (.ref kt), x3, x4] ∧ At K a H' here (rows.drop i) kept) ⟨SameT.refl, hT, v, none, none, rfl, hat⟩ (fun i σ H' _ h => SqL.of (h.1.at hl)) ?_ ?_⟩
    · rintro i y σ H' hy ⟨t1, hT1, here, x3, x4, rfl, hat1⟩
      obtain ⟨⟨k, n, t⟩, hri, p, ls, rfl, hp, hls⟩ := (hrs.t t1).get hy
      have hdr : rows.drop i = (k, n, t) :: rows.drop (i + 1) := by
        obtain ⟨hi, e⟩ := List.getElem?_eq_some_iff.mp hri
        rw [List.drop_eq_getElem_cons hi, e]
      rw [hdr] at hat1
      obtain ⟨S1, S2, hd, t0, t1', nxt⟩ := hat1.cons
      obtain ⟨x, dx, l', p1, p2, f1, f2, rfl, hx, hd'⟩ := id hd
      refine ⟨p, _, rfl, SqT.of hp, rfl, _, _, rfl, _, _, rfl, rfl, ?_⟩
      refine .inr ⟨x, dx, _, rfl, hx, rfl, _, rfl, ?_⟩
      refine .inr ⟨x, dx, _, rfl, hx, rfl, _, rfl, ?_⟩
      refine .inr ⟨x, dx, _, rfl, hx, rfl, _, k, n, S1, S2, rfl, hd, fun H2 s2 => ?_⟩
      refine ⟨ls, [k, n], rfl, SqL.of (s2 _ _ hls), ?_⟩
      have esum : ([k, n] : List Int).sum = k + n := by simp only [List.sum_cons, List.sum_nil]; omega
      rw [esum]
      refine iteNS rfl ?_
      have hd2 := hd.t s2.t
      refine .inr ⟨x, dx, _, rfl, s2 _ _ hx, rfl, _, k, n, S1, S2, rfl, hd2, hT1.same s2, fun H3 r q1 q2 n1 n2 t3 hT3 hr0 hr3 g1 g2 => ?_⟩
      refine .inl ⟨⟨_, SqL.of hr3⟩, fun D hD => ?_⟩
      refine comp_list (K := K) (a := r) (xs := [.ref q1, .ref q2]) (fun i ys H' => Same H3 H' ∧ H' D = some (.lst ys) ∧ ys = ([.int k, .int n] : List V).take i) ⟨Same.new hD, upd_same, rfl⟩ (fun i ys H' h => SqL.of (h.1 _ _ hr3)) (fun i ys H' h => h.2.1) ?_ ?_
      · rintro i y ys H4 P' hy ⟨s4, hD4, rfl⟩ hP
        match i, hy with
        | 0, hy =>
          cases hy
          exact ⟨q1, _, rfl, SqT.of (s4 _ _ g1), rfl, _, _, rfl, _, _, rfl, rfl, trivial, hD4, (show 0 < sizeLine by decide), hP _ _ ⟨s4.put hD, upd_same, rfl⟩⟩
        | 1, hy =>
          cases hy
          exact ⟨q2, _, rfl, SqT.of (s4 _ _ g2), rfl, _, _, rfl, _, _, rfl, rfl, trivial, hD4, (show 1 < sizeLine by decide), hP _ _ ⟨s4.put hD, upd_same, rfl⟩⟩
      · rintro ys H4 ⟨s4, hD4, rfl⟩
        have t24 := s2.t.trans (t3.trans s4.t)
        have hls4 : H4 ls = some (.lst ([k, n].map V.int)) := t24.at hls
        have hD5 : H4 D = some (.lst ([k, n].map V.int)) := by rw [hD4]; rfl
        refine ne_ints (ns := [k, n]) hD5 hls4 ?_
        have hd4 := hd.t t24
        refine ⟨x, dx, _, rfl, t24.at hx, rfl, _, k, n, S1, S2, t, rfl, hd4, t0, t1', hT3.same s4, fun H5 v' t5 hT5 few => ?_⟩
        exact ⟨t1.trans (t24.trans t5), hT5, v', _, _, rfl, nxt _ _ few⟩
    · rintro σ H' ⟨t1, hT1, here, x3, x4, rfl, hat1⟩
      rw [← hrs.len, List.drop_length] at hat1
      obtain ⟨x, dx, t, ns, rfl, hx, ht, hs⟩ := hat1.nil
      have : ns = ks := srt_uniq hs hks
      subst this
      refine .inl ⟨x, dx, _, rfl, hx, rfl, _, rfl, ?_⟩
      refine .inl ⟨x, dx, _, rfl, hx, rfl, x, dx, t, rfl, hx, ?_⟩
      refine eq_tups ht (t1.at hk) ?_
      refine .inl ⟨x, dx, _, rfl, hx, rfl, _, rfl, ?_⟩
      refine .inl ⟨x, dx, _, rfl, hx, rfl, _, rfl, fun p1 g1 => ?_⟩
      have s1 := Same.new (o := .lst []) g1
      refine ⟨Nat.zero_le _, fun p2 g2 => ?_⟩
      have s2 := Same.new (o := .lst []) g2
      exact eq_nils (s2 _ _ upd_same) upd_same (q _ (t1.trans (s1.t.trans s2.t)) (hT1.same (s1.trans s2)))
theorem ok_duels (T : Txt K mg a) (hB : Bm mg base) : FnOk P w K mg base CX0 6 a.f_duels a.d_duels ["shares", "order"] (spDuels K a) := by
  have G_settled : FnOk P w K mg base CX0 5 _ _ _ (spSett K a) := ok_settled T hB
  refine T.F_duels.ok sc_duels (fun vs H Q E h => ?_) (fun cdv A outer s H vs Q E hr h => ?_)
  · obtain ⟨ls, lo, xs, sh, ord, B, N, rfl, _⟩ := h; rfl
  · obtain ⟨ls, lo, xs, sh, ord, B, N, rfl, hls, hF, hlo, hord, hlen, hBB, hfr, hT, hN, q⟩ := h
    have small : sizeLine = 16777216 := sizeLine_eq
    refine ⟨_, (pss_one (ps_ret (pe_call G_settled hr rfl T.m_settled T.F_settled.kp T.B_settled .nil pass0 (pa_cons (pe_comp rfl (N := ["place", "shares"]) (ix := [none, some 0]) ⟨rfl, rfl, rfl, rfl, ⟨rfl, rfl, rfl, trivial⟩⟩ (pi_any (vr 1)) ⟨fun C s H fp => pg_name (i := 0) (show List.Nodup (["place", "shares"] : List Str) by decide +kernel) rfl (Or.inl rfl), fun C s H fp => pts_nil, fun C s H fp => (pe_tup (pa_cons (vr 0) (pa_cons (pe_ix (ix_seqK (K := K) rfl) (vr 1) (vr 0) (fun _ _ => rfl)) pa_nil)))⟩) (pa_cons (pe_lst pa_nil) pa_nil))))), ?_⟩
    refine .inl ⟨⟨_, SqL.of hlo⟩, fun D hD => ?_⟩
    refine comp_list (K := K) (a := lo) (xs := ord.map fun (o : Nat) => V.int (o : Int)) (fun i zs H' => Same H H' ∧ H' D = some (.lst zs) ∧ i ≤ ord.length ∧ Paired (PrAt K H') ((tl0 sh ord).take i) zs) ⟨Same.new hD, upd_same, Nat.zero_le _, .nil⟩ (fun i ys H' h => SqL.of (h.1 _ _ hlo)) (fun i ys H' h => h.2.1) ?_ ?_
    · rintro i y zs H' P' hy ⟨s1, hD1, hi, hzs⟩ hP'
      rw [List.getElem?_map] at hy
      cases hoi : ord[i]? with
      | none => rw [hoi] at hy; cases hy
      | some o =>
        rw [hoi] at hy
        cases hy
        have ho := hord o (List.mem_of_getElem? hoi)
        have ilt : i < ord.length := (List.getElem?_eq_some_iff.mp hoi).1
        have hox : o < xs.length := by rw [← hF.len]; exact ho
        have ex : xs[o]? = some xs[o] := List.getElem?_eq_getElem hox
        obtain ⟨f, hf, isf⟩ := hF.get ex
        have ef : sh.getD o (0, 1) = f := by rw [List.getD, hf]; rfl
        refine ⟨⟨rfl, trivial⟩, .inl ⟨ls, _, _, _, rfl, rfl, SqL.of (s1 _ _ hls), atI_cons o rfl ex, ?_⟩⟩
        refine ⟨two_le _ _, fun q3 f3 => ?_⟩
        have s3 := Same.new (o := .tup [.int (o : Int), xs[o]]) f3
        have hD4 := s3 _ _ hD1
        have n3 : q3 ≠ D := fun z => by rw [z, hD1] at f3; cases f3
        have zl : zs.length ≤ 24 := by rw [← hzs.length, List.length_take]; omega
        refine ⟨hD4, by omega, hP' _ _ ⟨(s1.trans s3).put hD, upd_same, ilt, paired_take (paired_imp (fun x v h => ((h.t s3.t).cut hD4).t cut_in) hzs) (x := ((o : Int), f)) (by unfold tl0; rw [List.getElem?_map, hoi]; show some ((o : Int), sh.getD o (0, 1)) = _; rw [ef]) ⟨q3, _, rfl, by rw [upd_ne n3]; exact upd_same, ?_⟩⟩⟩
        obtain ⟨pf, z1, z2⟩ := (isf.same (s1.trans s3))
        refine ⟨pf, z1, z2.imp (fun z => ?_) id⟩
        have npf : pf ≠ D := fun w => by rw [w, hD4] at z; cases z
        rw [upd_ne npf]
        exact z
    · rintro zs H' ⟨s1, hD1, _, hzs⟩
      rw [List.length_map, show ord.length = (tl0 sh ord).length by unfold tl0; rw [List.length_map], List.take_length] at hzs
      refine ⟨Nat.zero_le _, fun e0 fe0 => ?_⟩
      have s2 := Same.new (o := .lst []) fe0
      have s12 := s1.trans s2
      refine ⟨.ref D, .ref e0, tl0 sh ord, [], B, N, rfl, ⟨D, _, rfl, s2 _ _ hD1, paired_imp (PrAt.t s2.t) hzs⟩, ⟨e0, rfl, upd_same⟩, hBB, ⟨fun x hx => ?_, by unfold tl0; rw [List.length_map]; exact hlen⟩, hT.same s12, (fun b hb => hN b (s12.free hb)), (fun l hl => by cases hl; exact hN _ hD), (fun l hl => by cases hl; exact hN _ (s1.free fe0)), fun H3 u t hT3 nd => q _ _ (s12.t.trans t) hT3 nd⟩
      obtain ⟨o, ho, rfl⟩ := List.mem_map.mp hx
      have := hord o ho
      show Fr B (sh.getD o (0, 1))
      rw [List.getD, List.getElem?_eq_getElem this]
      exact hfr _ (List.getElem_mem this)
end
end My

set_option linter.all false
namespace FrM
theorem lowP_fr2 {T d B : Int} (hd : 0 < d) (h0 : 0 ≤ T) (h1 : T ≤ d) (db : d ∣ B) : Fr B (lowP T d) := by
  rcases Int.lt_or_eq_of_le h1 with h | h
  · exact (lowP_fr hd h0 h db).1
  · subst h
    have hg : (0 : Int) < (Int.gcd T T : Int) := (low T T hd).1
    obtain ⟨t, et⟩ := Int.gcd_dvd_left T T
    have e1 : T / (Int.gcd T T : Int) = t := Int.ediv_eq_of_eq_mul_right (by omega) et
    have ht : 0 < t := by
      refine Int.not_le.mp fun h => ?_
      have := Int.mul_nonpos_of_nonneg_of_nonpos (Int.le_of_lt hg) h
      rw [← et] at this
      omega
    unfold Fr lowP
    simp only [e1]
    exact ⟨by omega, by omega, ht, Int.dvd_trans ⟨_, by rw [Int.mul_comm]; exact et⟩ db⟩
noncomputable def gN (now : List (Int × Int)) (o : Nat) : Int × Int := now.getD o (0, 1)
noncomputable def TL (now : List (Int × Int)) (up : Option Nat) (os : List Nat) : Tl := (match up with | some u => [((u : Int), gN now u)] | none => []) ++ ((os.map fun (o : Nat) => ((o : Int), gN now o)).filter fun x => uns x.2)
noncomputable def wh (now : List (Int × Int)) : List Int := ((List.range now.length).filter fun i => whl (gN now i)).map (fun (i : Nat) => (i : Int))
theorem gN_set {now : List (Int × Int)} {i j : Nat} {f : Int × Int} (hi : i < now.length) : gN (now.set i f) j = if j = i then f else gN now j := by
  unfold gN
  rw [List.getD, List.getD, List.getElem?_set]
  by_cases h : i = j
  · subst h
    rw [if_pos rfl, if_pos hi, if_pos rfl]
    rfl
  · rw [if_neg h, if_neg (fun z => h z.symm)]
theorem wh_nodup (now : List (Int × Int)) : (wh now).Nodup := by
  unfold wh
  refine List.Pairwise.map _ (fun a b h => ?_) ((List.nodup_range (n := now.length)).filter _)
  exact fun z => h (by exact_mod_cast z)
theorem mem_wh {now : List (Int × Int)} {x : Int} : x ∈ wh now ↔ ∃ i : Nat, i < now.length ∧ whl (gN now i) = true ∧ x = (i : Int) := by
  unfold wh
  rw [List.mem_map]
  constructor
  · rintro ⟨i, hi, rfl⟩
    obtain ⟨h1, h2⟩ := List.mem_filter.mp hi
    exact ⟨i, List.mem_range.mp h1, h2, rfl⟩
  · rintro ⟨i, h1, h2, rfl⟩
    exact ⟨i, List.mem_filter.mpr ⟨List.mem_range.mpr h1, h2⟩, rfl⟩
theorem wh_set {now : List (Int × Int)} {i : Nat} {f : Int × Int} (hi : i < now.length) (hw : whl (gN now i) = false) : (wh (now.set i f)).Perm (wh now ++ if whl f = true then [(i : Int)] else []) := by
  have hn : (i : Int) ∉ wh now := fun h => by
    obtain ⟨j, _, h2, h3⟩ := mem_wh.mp h
    have : i = j := by exact_mod_cast h3
    rw [← this, hw] at h2
    cases h2
  have nd2 : (wh now ++ if whl f = true then [(i : Int)] else []).Nodup := by
    rw [List.nodup_append]
    refine ⟨wh_nodup now, by split <;> simp, fun a ha b hb z => ?_⟩
    split at hb
    · rw [List.mem_singleton.mp hb] at z
      exact hn (z ▸ ha)
    · cases hb
  refine (List.perm_ext_iff_of_nodup (wh_nodup _) nd2).mpr fun x => ?_
  rw [mem_wh, List.mem_append, mem_wh, List.length_set]
  constructor
  · rintro ⟨j, h1, h2, rfl⟩
    rw [gN_set hi] at h2
    by_cases hj : j = i
    · rw [if_pos hj] at h2
      rw [if_pos h2]
      exact .inr (by rw [hj]; exact List.mem_singleton.mpr rfl)
    · rw [if_neg hj] at h2
      exact .inl ⟨j, h1, h2, rfl⟩
  · rintro (⟨j, h1, h2, rfl⟩ | h)
    · refine ⟨j, h1, ?_, rfl⟩
      have hj : j ≠ i := fun z => by rw [z, hw] at h2; cases h2
      rw [gN_set hi, if_neg hj]
      exact h2
    · split at h
      · rename_i hf
        refine ⟨i, hi, ?_, List.mem_singleton.mp h⟩
        rw [gN_set hi, if_pos rfl]
        exact hf
      · cases h
theorem TL_cons (now : List (Int × Int)) (up : Option Nat) (o : Nat) (os : List Nat) : TL now up (o :: os) = (match up with | some u => [((u : Int), gN now u)] | none => []) ++ (if uns (gN now o) = true then [((o : Int), gN now o)] else []) ++ ((os.map fun (o : Nat) => ((o : Int), gN now o)).filter fun x => uns x.2) := by
  unfold TL
  rw [List.map_cons, List.filter_cons]
  cases up <;> cases h : uns (gN now o) <;> simp
theorem TL_same {now now' : List (Int × Int)} {os : List Nat} (h : ∀ o ∈ os, gN now' o = gN now o) : ((os.map fun (o : Nat) => ((o : Int), gN now' o)).filter fun x => uns x.2) = ((os.map fun (o : Nat) => ((o : Int), gN now o)).filter fun x => uns x.2) := by
  rw [List.map_congr_left (fun o ho => by rw [h o ho])]
/-- the walk, and what is left of it -/
structure WI (tlS : Tl) (tkS : List Int) (B : Int) (now : List (Int × Int)) (up : Option Nat) (os : List Nat) (rs : List (Int × Int × Int)) : Prop where
  nd : os.Nodup
  lt : ∀ o ∈ os, o < now.length
  upk : ∀ u, up = some u → u < now.length ∧ u ∉ os ∧ uns (gN now u) = true
  fr : ∀ i, i < now.length → Fr B (gN now i)
  ex : ∃ tk, tk.Perm (wh now) ∧ ∀ r' kept, Good (TL now up os) tk r' kept → Good tlS tkS (rs ++ r') kept
theorem WI.start {B : Int} {sh : List (Int × Int)} {ord : List Nat} (hp : ord.Perm (List.range sh.length)) (hf : ∀ f ∈ sh, Fr B f) : WI (sett (ord.map fun (o : Nat) => ((o : Int), sh.getD o (0, 1))) []).1 (sett (ord.map fun (o : Nat) => ((o : Int), sh.getD o (0, 1))) []).2 B sh none ord [] := by
  refine ⟨hp.nodup_iff.mpr List.nodup_range, fun o ho => List.mem_range.mp (hp.mem_iff.mp ho), fun u h => (by cases h), fun i hi => ?_, _, ?_, fun r' kept h => h⟩
  · unfold gN
    rw [List.getD, List.getElem?_eq_getElem hi]
    exact hf _ (List.getElem_mem hi)
  · show ([] ++ ((ord.map fun (o : Nat) => ((o : Int), sh.getD o (0, 1))).filter fun (x : Int × (Int × Int)) => whl x.2).map (fun (x : Int × (Int × Int)) => x.1)).Perm (wh sh)
    rw [List.nil_append, List.filter_map, List.map_map]
    exact (hp.filter _).map _
theorem WI.skip {tlS : Tl} {tkS : List Int} {B : Int} {now : List (Int × Int)} {up : Option Nat} {o : Nat} {os : List Nat} {rs : List (Int × Int × Int)} (h : WI tlS tkS B now up (o :: os) rs) (hu : uns (gN now o) = false) : WI tlS tkS B now up os rs := by
  refine ⟨(List.nodup_cons.mp h.nd).2, fun x hx => h.lt x (List.mem_cons_of_mem _ hx), fun u hu' => ?_, h.fr, ?_⟩
  · obtain ⟨a, b, c⟩ := h.upk u hu'
    exact ⟨a, fun z => b (List.mem_cons_of_mem _ z), c⟩
  · obtain ⟨tk, h1, h2⟩ := h.ex
    refine ⟨tk, h1, fun r' kept g => h2 r' kept ?_⟩
    rw [TL_cons, if_neg (by rw [hu]; decide), List.append_nil]
    exact g
theorem WI.get {tlS : Tl} {tkS : List Int} {B : Int} {now : List (Int × Int)} {o : Nat} {os : List Nat} {rs : List (Int × Int × Int)} (h : WI tlS tkS B now none (o :: os) rs) (hu : uns (gN now o) = true) : WI tlS tkS B now (some o) os rs := by
  refine ⟨(List.nodup_cons.mp h.nd).2, fun x hx => h.lt x (List.mem_cons_of_mem _ hx), fun u hu' => ?_, h.fr, ?_⟩
  · cases hu'
    exact ⟨h.lt o (List.mem_cons_self ..), (List.nodup_cons.mp h.nd).1, hu⟩
  · obtain ⟨tk, h1, h2⟩ := h.ex
    refine ⟨tk, h1, fun r' kept g => h2 r' kept ?_⟩
    rw [TL_cons, if_pos hu]
    exact g
theorem whl_uns {f : Int × Int} (h : uns f = true) : whl f = false := by
  cases hw : whl f with
  | false => rfl
  | true => rw [uns_whl hw] at h; cases h
theorem whl_lt {f : Int × Int} (h : f.1 < f.2) : whl f = false := by
  unfold whl
  exact decide_eq_false fun z => by rw [z] at h; exact absurd h (by decide)
theorem filter_rest (os : List Nat) (now : List (Int × Int)) (p : Int × Int → Bool) (hp : ∀ f, uns f = true → p f = false) : (((os.map fun (o : Nat) => ((o : Int), gN now o)).filter fun x => uns x.2).filter fun x => p x.2) = [] := by
  rw [List.filter_eq_nil_iff]
  intro x hx
  rw [hp _ (List.mem_filter.mp hx).2]
  decide
theorem filter_id (os : List Nat) (now : List (Int × Int)) : (((os.map fun (o : Nat) => ((o : Int), gN now o)).filter fun x => uns x.2).filter fun x => uns x.2) = ((os.map fun (o : Nat) => ((o : Int), gN now o)).filter fun x => uns x.2) := by
  rw [List.filter_eq_self]
  intro x hx
  exact (List.mem_filter.mp hx).2
/-- a duel: i gets what is sure, j the rest -/
theorem WI.duel {tlS : Tl} {tkS : List Int} {B : Int} {now : List (Int × Int)} {u o i j : Nat} {os : List Nat} {rs : List (Int × Int × Int)} {t : Int} (hB : 0 < B) (h : WI tlS tkS B now (some u) (o :: os) rs) (hu : uns (gN now o) = true)
    (t0 : 0 ≤ t) (t1 : t < du1 (gN now u) (gN now o) + du2 (gN now u) (gN now o))
    (hij : (decide (t < du1 (gN now u) (gN now o)) = duL (gN now u) (gN now o) ∧ i = o ∧ j = u) ∨ (decide (t < du1 (gN now u) (gN now o)) ≠ duL (gN now u) (gN now o) ∧ i = u ∧ j = o)) :
    WI tlS tkS B ((now.set i (duE (gN now u) (gN now o))).set j (duR (gN now u) (gN now o))) (if uns (duR (gN now u) (gN now o)) = true then some j else none) os (rs ++ [(du1 (gN now u) (gN now o), du2 (gN now u) (gN now o), t)]) := by
  obtain ⟨ul, uo, uu⟩ := h.upk u rfl
  have ol := h.lt o (List.mem_cons_self ..)
  have uno : u ≠ o := fun z => uo (by rw [z]; exact List.mem_cons_self ..)
  have unos : u ∉ os := fun z => uo (List.mem_cons_of_mem _ z)
  have onos := (List.nodup_cons.mp h.nd).1
  obtain ⟨d1, d2, d3, fR, ltR, fE, uE⟩ := du_ok hB (h.fr u ul) (h.fr o ol) uu hu
  generalize hc : gN now u = c at *
  generalize he : gN now o = e at *
  have il : i < now.length := by rcases hij with ⟨_, rfl, _⟩ | ⟨_, rfl, _⟩ <;> assumption
  have jl : j < now.length := by rcases hij with ⟨_, _, rfl⟩ | ⟨_, _, rfl⟩ <;> assumption
  have ij : j ≠ i := by rcases hij with ⟨_, rfl, rfl⟩ | ⟨_, rfl, rfl⟩
                        · exact uno
                        · exact Ne.symm uno
  have ios : i ∉ os := by rcases hij with ⟨_, rfl, _⟩ | ⟨_, rfl, _⟩ <;> assumption
  have jos : j ∉ os := by rcases hij with ⟨_, _, rfl⟩ | ⟨_, _, rfl⟩ <;> assumption
  have ui : uns (gN now i) = true := by rcases hij with ⟨_, rfl, _⟩ | ⟨_, rfl, _⟩ <;> simp only [hc, he] <;> assumption
  have uj : uns (gN now j) = true := by rcases hij with ⟨_, _, rfl⟩ | ⟨_, _, rfl⟩ <;> simp only [hc, he] <;> assumption
  have jl' : j < (now.set i (duE c e)).length := by rw [List.length_set]; exact jl
  have gg : ∀ k, gN ((now.set i (duE c e)).set j (duR c e)) k = if k = j then duR c e else if k = i then duE c e else gN now k := fun k => by rw [gN_set jl', gN_set il]
  have gos : ∀ k ∈ os, gN ((now.set i (duE c e)).set j (duR c e)) k = gN now k := fun k hk => by
    rw [gg, if_neg (fun z : k = j => jos (z ▸ hk)), if_neg (fun z : k = i => ios (z ▸ hk))]
  refine ⟨(List.nodup_cons.mp h.nd).2, fun x hx => ?_, fun v hv => ?_, fun k hk => ?_, ?_⟩
  · rw [List.length_set, List.length_set]; exact h.lt x (List.mem_cons_of_mem _ hx)
  · split at hv
    · rename_i hR
      cases hv
      rw [List.length_set, List.length_set, gg, if_pos rfl]
      exact ⟨jl, jos, hR⟩
    · cases hv
  · rw [List.length_set, List.length_set] at hk
    rw [gg]
    split
    · exact fR
    split
    · exact fE
    · exact h.fr k hk
  · obtain ⟨tk, h1, h2⟩ := h.ex
    have hwi := wh_set (f := duE c e) il (whl_uns ui)
    have hwj := wh_set (now := now.set i (duE c e)) (f := duR c e) jl' (by rw [gN_set il, if_neg ij]; exact whl_uns uj)
    rw [if_neg (by rw [whl_lt ltR]; decide), List.append_nil] at hwj
    refine ⟨tk ++ (if whl (duE c e) = true then [(i : Int)] else []), ?_, fun r' kept g => ?_⟩
    · exact (h1.append_right _).trans (hwi.symm.trans hwj.symm)
    rw [List.append_assoc]
    refine h2 _ kept ?_
    have eTL : TL now (some u) (o :: os) = ((u : Int), c) :: ((o : Int), e) :: ((os.map fun (o : Nat) => ((o : Int), gN now o)).filter fun x => uns x.2) := by
      rw [TL_cons, he, if_pos hu]
      show ((u : Int), gN now u) :: _ = _
      rw [hc]
      rfl
    rw [eTL]
    refine ⟨by simp, rfl, rfl, t0, t1, ?_⟩
    show Good (sett _ tk).1 (sett _ tk).2 r' kept
    have key : sett (((u : Int), (par (decide (t < du1 c e)) c e).1) :: ((o : Int), (par (decide (t < du1 c e)) c e).2) :: ((os.map fun (o : Nat) => ((o : Int), gN now o)).filter fun x => uns x.2)) tk = (TL ((now.set i (duE c e)).set j (duR c e)) (if uns (duR c e) = true then some j else none) os, tk ++ (if whl (duE c e) = true then [(i : Int)] else [])) := by
      unfold sett TL
      rw [TL_same gos]
      simp only [List.filter_cons, filter_id, filter_rest os now whl (fun f hf => whl_uns hf)]
      rcases hij with ⟨hb, rfl, rfl⟩ | ⟨hb, rfl, rfl⟩
      · have hp : par (decide (t < du1 c e)) c e = (duR c e, duE c e) := by unfold par; rw [if_pos hb]
        rw [hp]
        simp only [uE, whl_lt ltR]
        cases hR : uns (duR c e) <;> cases hW : whl (duE c e) <;> simp [gg]
      · have hp : par (decide (t < du1 c e)) c e = (duE c e, duR c e) := by unfold par; rw [if_neg hb]
        rw [hp]
        simp only [uE, whl_lt ltR]
        cases hR : uns (duR c e) <;> cases hW : whl (duE c e) <;> simp [gg]
    have key2 := congrArg (fun S => Good S.1 S.2 r' kept) key
    exact key2.mpr g
theorem WI.end_none {tlS : Tl} {tkS : List Int} {B : Int} {now : List (Int × Int)} {rs : List (Int × Int × Int)} (h : WI tlS tkS B now none [] rs) : ∃ kept, Good tlS tkS rs kept ∧ kept.Perm (wh now) := by
  obtain ⟨tk, h1, h2⟩ := h.ex
  have := h2 [] tk ⟨rfl, rfl⟩
  rw [List.append_nil] at this
  exact ⟨tk, this, h1⟩
theorem WI.end_some {tlS : Tl} {tkS : List Int} {B : Int} {now : List (Int × Int)} {u : Nat} {rs : List (Int × Int × Int)} {t : Int} (h : WI tlS tkS B now (some u) [] rs) (t0 : 0 ≤ t) (t1 : t < (gN now u).2) :
    ∃ kept, Good tlS tkS (rs ++ [((gN now u).1, (gN now u).2 - (gN now u).1, t)]) kept ∧ kept.Perm (wh (now.set u (if t < (gN now u).1 then (1, 1) else (0, 1)))) := by
  obtain ⟨tk, h1, h2⟩ := h.ex
  obtain ⟨ul, _, uu⟩ := h.upk u rfl
  have hw := wh_set (f := if t < (gN now u).1 then (1, 1) else (0, 1)) ul (whl_uns uu)
  refine ⟨tk ++ (if whl (if t < (gN now u).1 then (1, 1) else (0, 1)) = true then [(u : Int)] else []), h2 _ _ ⟨by simp [TL], rfl, rfl, t0, by omega, ?_⟩, (h1.append_right _).trans hw.symm⟩
  show Good [] (if decide (t < (gN now u).1) = true then tk ++ [(u : Int)] else tk) [] _
  by_cases c : t < (gN now u).1
  · rw [decide_eq_true c, if_pos c]
    exact ⟨rfl, rfl⟩
  · rw [decide_eq_false c, if_neg c]
    exact ⟨rfl, by simp [whl]⟩
end FrM

set_option Elab.async false
set_option linter.all false
set_option maxRecDepth 100000
set_option maxHeartbeats 4000000
namespace My
open PySem L2 FrM
noncomputable def spShares (K : PySem.W.Frag) : Sp := fun vs H Q _ => ∃ (p : Addr) (ns : List Int), vs = [.ref p, .int 0, .int 24] ∧ SqL K H p (ns.map V.int) ∧ ns.length ≤ 63 ∧ ∀ H' l xs sh B, Same H H' → H l = none → H' l = some (.lst xs) → AllF K H' sh xs → 1 ≤ sh.length → sh.length ≤ 24 → BB B → (∀ f ∈ sh, Fr B f) → Q (.ref l) H'
noncomputable def spOrder : Sp := fun vs H Q _ => ∃ (c b : Int) (n : Nat), vs = [.int c, .int b, .int (n : Nat)] ∧ n ≤ 24 ∧ ∀ H' l (ord : List Nat), Same H H' → H l = none → H' l = some (.lst (ord.map fun (o : Nat) => V.int (o : Int))) → ord.Perm (List.range n) → Q (.ref l) H'
theorem seqIx {k n : Nat} (h : k < n) : seqIndex? (k : Int) n = some k := by
  have h0 : ¬ ((k : Int) < 0) := by omega
  unfold seqIndex?
  simp only [if_neg h0]
  rw [if_pos (by simp; omega)]
  simp
theorem eraseIdx_map (L : List Nat) (k : Nat) : (L.map fun (i : Nat) => V.int (i : Int)).eraseIdx k = (L.eraseIdx k).map fun (i : Nat) => V.int (i : Int) := by
  rw [List.eraseIdx_eq_take_drop_succ, List.eraseIdx_eq_take_drop_succ, List.map_append, List.map_take, List.map_drop]
theorem erase_perm {L : List Nat} {k : Nat} (h : k < L.length) : ([L[k]] ++ L.eraseIdx k).Perm L := by
  rw [List.eraseIdx_eq_take_drop_succ]
  have e : L = L.take k ++ L[k] :: L.drop (k + 1) := by rw [← List.drop_eq_getElem_cons h, List.take_append_drop]
  exact ((List.perm_middle (a := L[k]) (l₁ := L.take k) (l₂ := L.drop (k + 1))).symm).trans (List.Perm.of_eq e.symm)
section
variable {P : Program} {w : World} {K : PySem.W.Frag} {mg : Str → Option Value} {base : Heap} {a : Ad}
theorem ok_shares (T : Txt K mg a) : FnOk P w K mg base CX0 3 a.f_L_shares a.d_L_shares ["_law_script", "_law_start", "_law_most"] (spShares K) := by
  have G_L_cell : FnOk P w K mg base CX0 2 _ _ _ (spCell K) := (ok_cell T).mono (by decide)
  have G_L_row : FnOk P w K mg base CX0 2 _ _ _ spRow := ok_row T
  have G_L_low : FnOk P w K mg base CX0 2 _ _ _ spLow := (ok_low T).mono (by decide)
  refine T.F_L_shares.ok sc_L_shares (fun vs H Q E h => ?_) (fun cdv A outer s H vs Q E hr h => ?_)
  · obtain ⟨p, ns, rfl, _⟩ := h; rfl
  · obtain ⟨p, ns, rfl, hS, hlen, q⟩ := h
    have small : sizeLine = 16777216 := sizeLine_eq
    refine ⟨_, (pss_cons (ps_set (i := 3) sc_L_shares.nd rfl (Or.inl rfl) (pe_op o_add pe_int (pe_op o_mod (pe_call G_L_cell hr rfl T.m_L_cell T.F_L_cell.kp T.B_L_cell .nil pass0 (pa_cons (vr 0) (pa_cons (vr 1) pa_nil))) (vr 2)))) (pss_cons (ps_set (i := 4) sc_L_shares.nd rfl (Or.inl rfl) (pe_call G_L_cell hr rfl T.m_L_cell T.F_L_cell.kp T.B_L_cell .nil pass0 (pa_cons (vr 0) (pa_cons (pe_op o_add (vr 1) pe_int) pa_nil)))) (pss_cons (ps_set (i := 5) sc_L_shares.nd rfl (Or.inr rfl) (pe_op o_add pe_int (pe_op o_mod (pe_call G_L_cell hr rfl T.m_L_cell T.F_L_cell.kp T.B_L_cell .nil pass0 (pa_cons (vr 0) (pa_cons (pe_op o_add (vr 1) pe_int) pa_nil))) (pe_ix ix_seq (pe_lst (pa_cons pe_int (pa_cons pe_int (pa_cons pe_int (pa_cons (pe_op o_pow pe_int pe_int) pa_nil))))) (pe_op o_mod (pe_op o_fdivB (vr 4) pe_int) pe_int) (fun _ _ => rfl))))) (pss_cons (ps_set (i := 6) sc_L_shares.nd rfl (Or.inl rfl) (pe_call G_L_row hr rfl T.m_L_row T.F_L_row.kp T.B_L_row .nil pass0 (pa_cons (pe_call G_L_cell hr rfl T.m_L_cell T.F_L_cell.kp T.B_L_cell .nil pass0 (pa_cons (vr 0) (pa_cons (pe_op o_add (vr 1) pe_int) pa_nil))) (pa_cons (vr 4) (pa_cons (vr 3) (pa_cons (pe_op o_add (pe_op o_add (vr 5) pe_int) (pe_op o_fdivB (vr 5) pe_int)) pa_nil)))))) (pss_one (ps_ret (pe_comp rfl (N := ["_law_top", "_law_bottom"]) (ix := [none, some 5]) ⟨rfl, rfl, rfl, rfl, ⟨rfl, rfl, rfl, trivial⟩⟩ (pi_any (vr 6)) ⟨fun C s H fp => pg_name (i := 0) (show List.Nodup (["_law_top", "_law_bottom"] : List Str) by decide +kernel) rfl (Or.inl rfl), fun C s H fp => pts_nil, fun C s H fp => (pe_call G_L_low hr rfl T.m_L_low T.F_L_low.kp T.B_L_low .nil pass0 (pa_cons (pe_callB (call_min2 rfl) rfl T.z_min bt_min (pa_cons (vr 0) (pa_cons (vr 1) pa_nil))) (pa_cons (vr 1) pa_nil)))⟩))))))), ?_⟩
    refine ⟨p, ns, 0, rfl, hS, hlen, by decide, by decide, cp, ?_⟩
    refine ⟨p, ns, 1, rfl, hS, hlen, by decide, by decide, ?_⟩
    refine ⟨p, ns, 2, rfl, hS, hlen, by decide, by decide, ?_⟩
    refine ⟨cw, by show 4 ≤ sizeLine; decide, fun l4 f4 => ?_⟩
    have s1 : Same H (upd H l4 (.lst [.int 4, .int 12, .int 1000, .int ((10 : Int) ^ (9 : Int).toNat)])) := Same.new f4
    refine ⟨cdB (by decide) (show Bt 40 2 by unfold Bt; decide), cp, ?_⟩
    obtain ⟨v, hv, ev⟩ := atI_ex (xs := ([4, 12, 1000, (10 : Int) ^ (9 : Int).toNat] : List Int).map V.int) (i := cellC ns 1 / 2 % 4) (Int.emod_nonneg _ (by decide)) (by have := Int.emod_lt_of_pos (cellC ns 1 / 2) (show (0 : Int) < 4 by decide); simpa using this)
    obtain ⟨st, hst, rfl⟩ := List.mem_map.mp hv
    have hst' : 4 ≤ st ∧ st ≤ 1000000000 := by
      have e9 : (10 : Int) ^ (9 : Int).toNat = 1000000000 := by decide
      rw [e9] at hst
      simp only [List.mem_cons, List.not_mem_nil, or_false] at hst
      omega
    refine .inl ⟨l4, ([4, 12, 1000, (10 : Int) ^ (9 : Int).toNat] : List Int).map V.int, _, .int st, rfl, rfl, SqL.of upd_same, ev, cp (by omega), ?_⟩
    have hb0 := Int.emod_nonneg (cellC ns 2) (show st ≠ 0 by omega)
    have hb1 := Int.emod_lt_of_pos (cellC ns 2) (show 0 < st by omega)
    have hm0 := Int.emod_nonneg (cellC ns 0) (show (24 : Int) ≠ 0 by decide)
    have hm1 := Int.emod_lt_of_pos (cellC ns 0) (show (0 : Int) < 24 by decide)
    refine ⟨p, ns, 3, rfl, s1.seq hS, hlen, by decide, by decide, ?_⟩
    refine ⟨cdB (by decide) (show Bt 40 8 by unfold Bt; decide), ?_⟩
    have hbb : 0 ≤ (1 + cellC ns 2 % st) / 8 ∧ (1 + cellC ns 2 % st) / 8 ≤ 1 + cellC ns 2 % st := ⟨Int.ediv_nonneg (by omega) (by decide), Int.ediv_le_self _ (by omega)⟩
    refine ⟨_, _, _, _, rfl, by omega, by omega, by omega, by omega, fun H2 pr tops s2 fpr hpr hlt htb => ?_⟩
    refine .inl ⟨⟨_, SqL.of hpr⟩, fun D hD => ?_⟩
    generalize hbt : 1 + cellC ns 2 % st = bt at *
    have s12 := s1.trans s2
    refine comp_list (K := K) (a := pr) (xs := tops.map V.int) (fun i zs H' => Same H2 H' ∧ H' D = some (.lst zs) ∧ i ≤ tops.length ∧ AllF K H' ((tops.take i).map fun t => lowP (if bt < t then bt else t) bt) zs) ⟨Same.new hD, upd_same, Nat.zero_le _, .nil⟩ (fun i ys H' h => SqL.of (h.1 _ _ hpr)) (fun i ys H' h => h.2.1) ?_ ?_
    · rintro i y zs H' P' hy ⟨s3, hD3, hi, hzs⟩ hP'
      rw [List.getElem?_map] at hy
      cases hoi : tops[i]? with
      | none => rw [hoi] at hy; cases hy
      | some t =>
        rw [hoi] at hy
        cases hy
        have ilt : i < tops.length := (List.getElem?_eq_some_iff.mp hoi).1
        have tb := htb t (List.mem_of_getElem? hoi)
        have zl : zs.length ≤ 24 := by rw [← hzs.len, List.length_map, List.length_take]; omega
        refine ⟨⟨rfl, trivial⟩, t, bt, rfl, _, bt, rfl, by omega, bt40 (by split <;> omega) (by split <;> omega), bt40 (by omega) (by omega), fun H4 pf s4 hpf => ?_⟩
        have hD4 := s4 _ _ hD3
        have np : pf ≠ D := fun z => by rw [z, hD4] at hpf; cases hpf
        refine ⟨hD4, by omega, hP' _ _ ⟨(s3.trans s4).put hD, upd_same, ilt, ?_⟩⟩
        rw [List.take_add_one, hoi, List.map_append]
        exact AllF.snoc ⟨pf, rfl, .inl (by rw [upd_ne np]; exact hpf)⟩ ((hzs.same s4).tk (TK.lst hD4))
    · rintro zs H' ⟨s3, hD3, _, hzs⟩
      rw [List.length_map, List.take_length] at hzs
      have fD : H D = none := by
        cases hh : H D with
        | none => rfl
        | some o => rw [s12 _ _ hh] at hD; cases hD
      refine q _ D zs _ bt (s12.trans s3) fD hD3 hzs (by rw [List.length_map]; omega) (by rw [List.length_map]; omega) ⟨by omega, by omega⟩ fun f hf => ?_
      obtain ⟨t, ht, rfl⟩ := List.mem_map.mp hf
      have := htb t ht
      exact lowP_fr2 (by omega) (by split <;> omega) (by split <;> omega) (Int.dvd_refl bt)
theorem ok_order (T : Txt K mg a) : FnOk P w K mg base CX0 3 a.f_L_order a.d_L_order ["_law_cell_here", "_law_bit", "_law_many"] spOrder := by
  have G_L_row : FnOk P w K mg base CX0 2 _ _ _ spRow := ok_row T
  refine T.F_L_order.ok sc_L_order (fun vs H Q E h => ?_) (fun cdv A outer s H vs Q E hr h => ?_)
  · obtain ⟨c, b, n, rfl, _⟩ := h; rfl
  · obtain ⟨c, b, n, rfl, hn, q⟩ := h
    have small : sizeLine = 16777216 := sizeLine_eq
    refine ⟨_, (pss_cons (ps_set (i := 3) sc_L_order.nd rfl (Or.inl rfl) (pe_callTy (call_lstRngN rfl) rfl T.z_list bt_list (pa_cons (pe_callTy call_rng1 rfl T.z_range bt_range (pa_cons (vr 2) pa_nil)) pa_nil))) (pss_cons (ps_set (i := 4) sc_L_order.nd rfl (Or.inl rfl) (pe_lst pa_nil)) (pss_cons (ps_for PassesOwn.never rfl (pi_any (pe_call G_L_row hr rfl T.m_L_row T.F_L_row.kp T.B_L_row .nil pass0 (pa_cons (vr 0) (pa_cons (vr 1) (pa_cons (vr 2) (pa_cons pe_int pa_nil)))))) (pg_name (i := 5) sc_L_order.nd rfl (Or.inl rfl)) (pss_one (ps_expr (pe_m.append (vr 4) (pa_cons (pe_m.popAt (vr 3) (pa_cons (pe_op o_mod (vr 5) (pe_callB call_lenM rfl T.z_len bt_len (pa_cons (vr 3) pa_nil))) pa_nil)) pa_nil))))) (pss_one (ps_ret (vr 4)))))), ?_⟩
    refine ⟨_, rfl, fun rg frg => ⟨rg, n, rfl, by omega, upd_same, fun lf flf => ?_⟩⟩
    have s1 := Same.new (o := .rng 0 (n : Int)) frg
    have s2 := s1.trans (Same.new (o := .lst ((List.range n).map fun (i : Nat) => V.int (i : Int))) flf)
    have hlf : (upd (upd H rg (.rng 0 (n : Int))) lf (.lst ((List.range n).map fun (i : Nat) => V.int (i : Int)))) lf = some (.lst ((List.range n).map fun (i : Nat) => V.int (i : Int))) := upd_same
    have flf0 : H lf = none := by
      cases hh : H lf with
      | none => rfl
      | some o => rw [s1 _ _ hh] at flf; cases flf
    generalize upd (upd H rg (.rng 0 (n : Int))) lf (.lst ((List.range n).map fun (i : Nat) => V.int (i : Int))) = H2 at s2 hlf
    refine ⟨Nat.zero_le _, fun od fod => ?_⟩
    have s3 := s2.trans (Same.new (o := .lst []) fod)
    have hod : (upd H2 od (.lst [])) od = some (.lst []) := upd_same
    have hlf3 := Same.new (o := .lst []) fod _ _ hlf
    have nod : od ≠ lf := fun z => by rw [z, hlf] at fod; cases fod
    have fod0 : H od = none := by
      cases hh : H od with
      | none => rfl
      | some o => rw [s2 _ _ hh] at fod; cases fod
    generalize upd H2 od (.lst []) = H3 at s3 hod hlf3
    refine ⟨c, b, (n : Int), 24, rfl, by omega, by omega, by decide, by decide, fun H4 pr picks s4 fpr hpr hpl hpb => ?_⟩
    refine .inl ⟨⟨_, SqL.of hpr⟩, ?_⟩
    have npl : pr ≠ lf := fun z => by rw [z, hlf3] at fpr; cases fpr
    have npo : pr ≠ od := fun z => by rw [z, hod] at fpr; cases fpr
    refine for_list (K := K) (a := pr) (xs := picks.map V.int) (fun i σ H' => ∃ (L O : List Nat) (x5 : Option V), H' pr = some (.lst (picks.map V.int)) ∧ Same H H' ∧ H' lf = some (.lst (L.map fun (i : Nat) => V.int (i : Int))) ∧ H' od = some (.lst (O.map fun (i : Nat) => V.int (i : Int))) ∧ (O ++ L).Perm (List.range n) ∧ O.length = i ∧ σ = [some (.int c), some (.int b), some (.int (n : Int)), some (.ref lf), some (.ref od), x5]) ⟨List.range n, [], none, hpr, s3.trans s4, s4 _ _ hlf3, s4 _ _ hod, List.Perm.refl _, rfl, rfl⟩ (fun i σ H' _ h => by obtain ⟨L, O, x5, h, _⟩ := h; exact SqL.of h) ?_ ?_
    · rintro i x σ H' hx ⟨L, O, x5, hp', s5, hL, hO, hperm, hol, rfl⟩
      rw [List.getElem?_map] at hx
      cases hpi : picks[i]? with
      | none => rw [hpi] at hx; cases hx
      | some pk =>
        rw [hpi] at hx
        cases hx
        have ilt : i < picks.length := (List.getElem?_eq_some_iff.mp hpi).1
        have hll : O.length + L.length = n := by rw [← List.length_append, hperm.length_eq, List.length_range]
        have hLp : 0 < L.length := by omega
        have m0 := Int.emod_nonneg pk (show (L.length : Int) ≠ 0 by omega)
        have m1 := Int.emod_lt_of_pos pk (show (0 : Int) < (L.length : Int) by omega)
        refine ⟨.inl ⟨rfl, _, SqL.of hO⟩, ?_⟩
        refine ⟨.inl ⟨rfl, _, SqL.of hL⟩, ?_⟩
        refine ⟨_, .inl (SqL.of hL), ?_⟩
        rw [List.length_map]
        refine ⟨cp (by omega), ?_⟩
        generalize hk : pk % (L.length : Int) = kk at *
        obtain ⟨k, rfl⟩ : ∃ k : Nat, kk = (k : Int) := ⟨kk.toNat, by omega⟩
        have hkl : k < L.length := by omega
        refine ⟨lf, _, (k : Int), k, .int (L[k] : Nat), rfl, (by show [V.int (pk % (L.length : Int))] = [V.int (k : Int)]; rw [hk]), hL, by omega, by omega, seqIx (by rw [List.length_map]; exact hkl), by rw [List.getElem?_map, List.getElem?_eq_getElem hkl]; rfl, ?_⟩
        have hO2 : (upd H' lf (.lst ((L.map fun (i : Nat) => V.int (i : Int)).eraseIdx k))) od = some (.lst (O.map fun (i : Nat) => V.int (i : Int))) := by rw [upd_ne nod]; exact hO
        refine ⟨od, _, _, rfl, rfl, hO2, by rw [List.length_map]; omega, ?_⟩
        refine ⟨L.eraseIdx k, O ++ [L[k]], _, ?_, ?_, ?_, ?_, ?_, by rw [List.length_append, hol]; rfl, rfl⟩
        · rw [upd_ne npo, upd_ne npl]; exact hp'
        · intro b o e
          rw [upd_ne (ne_of_none e fod0), upd_ne (ne_of_none e flf0)]
          exact s5 _ _ e
        · rw [upd_ne (Ne.symm nod), upd_same, eraseIdx_map]
        · rw [upd_same, List.map_append]; rfl
        · rw [List.append_assoc]
          refine List.Perm.trans (List.Perm.append_left O ?_) hperm
          exact erase_perm hkl
    · rintro σ H' ⟨L, O, x5, hp', s5, hL, hO, hperm, hol, rfl⟩
      rw [List.length_map] at hol
      have hll : O.length + L.length = n := by rw [← List.length_append, hperm.length_eq, List.length_range]
      have : L = [] := List.length_eq_zero_iff.mp (by omega)
      rw [this, List.append_nil] at hperm
      exact q _ od O s5 fod0 hO hperm
end
end My

set_option Elab.async false
set_option linter.all false
set_option maxRecDepth 100000
set_option maxHeartbeats 4000000
namespace My
open PySem L2 FrM
noncomputable def spWalk (K : PySem.W.Frag) : Sp := fun vs H Q _ => ∃ (ls lo lt : Addr) (xs : List V) (sh : List (Int × Int)) (ord : List Nat) (thr : List Int) (B : Int), vs = [.ref ls, .ref lo, .ref lt] ∧ H ls = some (.lst xs) ∧ AllF K H sh xs ∧ H lo = some (.lst (ord.map fun (o : Nat) => V.int (o : Int))) ∧ ord.Perm (List.range sh.length) ∧ H lt = some (.lst (thr.map V.int)) ∧ thr.length = 25 ∧ sh.length ≤ 24 ∧ BB B ∧ (∀ f ∈ sh, Fr B f) ∧
  ∀ H' p lr lk rows ys kept ks, Same H H' → H' p = some (.tup [.ref lr, .ref lk]) → H' lr = some (.lst ys) → RowsAt H' rows ys → H' lk = some (.tup (ks.map V.int)) → Good (sett (tl0 sh ord) []).1 (sett (tl0 sh ord) []).2 rows kept → Srt ks kept → ks.length ≤ 24 → rows.length ≤ 25 → Q (.ref p) H'
noncomputable def upV : Option Nat → V
  | none => .non
  | some u => .int (u : Int)
section
variable {P : Program} {w : World} {K : PySem.W.Frag} {mg : Str → Option Value} {base : Heap} {a : Ad}
theorem uns_chain {H : Hp} {nw : Addr} {xs' : List V} {v : V} {f : Int × Int} {i : Int} {Q : Bool → Hp → Prop} (hnw : H nw = some (.lst xs')) (ev : atI xs' i = some v) (hf : IsF K H f v) (q : Q (uns f) H) :
    rIx K (.ref nw) (.int i) H fun x H1 => rIx K x (.int 0) H1 fun y H2 => rCmpM (fun i j => decide (i < j)) (fun i j => decide (i.cps.toList < j.cps.toList)) (.int 0) y H2 (mB fun k H3 => if k = true then (rIx K (.ref nw) (.int i) H3 fun x H4 => rIx K x (.int 1) H4 fun z H5 => rCmpM (fun i j => decide (i < j)) (fun i j => decide (i.cps.toList < j.cps.toList)) y z H5 (mB Q)) else mB Q (.bl false) H3) := by
  obtain ⟨pf, rfl, hpf⟩ := hf
  refine .inl ⟨nw, xs', i, _, rfl, rfl, SqL.of hnw, ev, px0 hpf.sq ?_⟩
  refine ifC (fun c => ?_) fun c => ?_
  · have c : 0 < f.1 := c
    refine .inl ⟨nw, xs', i, _, rfl, rfl, SqL.of hnw, ev, px1 hpf.sq ?_⟩
    have e : uns f = decide (f.1 < f.2) := by unfold uns; simp [c]
    rw [e] at q
    exact q
  · have c : ¬ 0 < f.1 := c
    have e : uns f = false := by unfold uns; simp [c]
    rw [e] at q
    exact q
theorem ixN_nat {k n : Nat} (h : k < n) : ixN n (k : Int) = some k := by
  unfold ixN
  rw [if_pos (by omega), if_pos (by omega)]
  simp
theorem paired_set {α β : Type} {r : α → β → Prop} {x : α} {y : β} (h : r x y) : ∀ {as : List α} {bs : List β} (k : Nat), Paired r as bs → Paired r (as.set k x) (bs.set k y)
  | _, _, _, .nil => .nil
  | _, _, 0, .cons _ t => .cons h t
  | _, _, k + 1, .cons a t => .cons a (paired_set h k t)
theorem ok_walk (T : Txt K mg a) : FnOk P w K mg base CX0 3 a.f_L_walk a.d_L_walk ["_law_shares_here", "_law_order_here", "_law_throws"] (spWalk K) := by
  have G_L_duel : FnOk P w K mg base CX0 2 _ _ _ (spDuel K) := ok_duel T
  refine T.F_L_walk.ok sc_L_walk (fun vs H Q E h => ?_) (fun cdv A outer s H vs Q E hr h => ?_)
  · obtain ⟨ls, lo, lt, xs, sh, ord, thr, B, rfl, _⟩ := h; rfl
  · obtain ⟨ls, lo, lt, xs, sh, ord, thr, B, rfl, hls, hF, hlo, hord, hlt, htl, hshl, hBB, hfr, q⟩ := h
    have small : sizeLine = 16777216 := sizeLine_eq
    refine ⟨_, (pss_cons (ps_set (i := 3) sc_L_walk.nd rfl (Or.inr rfl) (pe_callTy call_list_of rfl T.z_list bt_list (pa_cons (vr 0) pa_nil))) (pss_cons (ps_set (i := 4) sc_L_walk.nd rfl (Or.inl rfl) (pe_lst pa_nil)) (pss_cons (ps_set (i := 5) sc_L_walk.nd rfl (Or.inl rfl) pe_non) (pss_cons (ps_for PassesOwn.never rfl (pi_any (vr 1)) (pg_name (i := 6) sc_L_walk.nd rfl (Or.inl rfl)) (pss_cons (ps_if (PW.pt (pw_and (t_chain o_lt o_lt pe_int (pe_ix ix_seq (pe_ix ix_seq (vr 3) (vr 6) (fun _ _ => rfl)) pe_int (fun _ _ => rfl)) (pe_ix ix_seq (pe_ix ix_seq (vr 3) (vr 6) (fun _ _ => rfl)) pe_int (fun _ _ => rfl))) (pw_and1 (t_cmp o_isnot (vr 5) pe_non (nomark _))))) (pss_cons (ps_asg (pe_call G_L_duel hr rfl T.m_L_duel T.F_L_duel.kp T.B_L_duel .nil pass0 (pa_cons (pe_ix ix_seq (vr 3) (vr 5) (fun _ _ => rfl)) (pa_cons (pe_ix ix_seq (vr 3) (vr 6) (fun _ _ => rfl)) pa_nil))) (pg_tup rfl (pgs_cons (pg_name (i := 7) sc_L_walk.nd rfl (Or.inl rfl)) (pgs_cons (pg_name (i := 8) sc_L_walk.nd rfl (Or.inl rfl)) (pgs_cons (pg_name (i := 9) sc_L_walk.nd rfl (Or.inl rfl)) pgs_nil))))) (pss_cons (ps_set (i := 10) sc_L_walk.nd rfl (Or.inl rfl) (pe_op o_mod (pe_ix ix_seq (vr 2) (pe_callB call_lenM rfl T.z_len bt_len (pa_cons (vr 4) pa_nil)) (fun _ _ => rfl)) (pe_callB (call_sumI rfl) rfl T.z_sum bt_sum (pa_cons (vr 7) pa_nil)))) (pss_cons (ps_expr (pe_m.append (vr 4) (pa_cons (pe_tup (pa_cons (vr 7) (pa_cons (vr 10) pa_nil))) pa_nil))) (pss_cons (ps_set (i := 11) sc_L_walk.nd rfl (Or.inl rfl) (pe_lst (pa_cons (vr 5) (pa_cons (vr 6) pa_nil)))) (pss_cons (ps_if (t_cmp o_eq (pe_cmpR o_lt (vr 10) (pe_ix ix_seq (vr 7) pe_int (fun _ _ => rfl)) (nomark _)) (pe_cmpR (o_eqD hr.units) (vr 8) (pe_tup (pa_cons pe_int (pa_cons pe_int pa_nil))) (nomark _)) (nomark _)) (pss_one (ps_set (i := 11) sc_L_walk.nd rfl (Or.inl rfl) (pe_lst (pa_cons (vr 6) (pa_cons (vr 5) pa_nil))))) pss_nil) (pss_cons (ps_asg (vr 8) (pg_sub (vr 3) (pe_ix ix_seq (vr 11) pe_int (fun _ _ => rfl)) set_list)) (pss_cons (ps_asg (vr 9) (pg_sub (vr 3) (pe_ix ix_seq (vr 11) pe_int (fun _ _ => rfl)) set_list)) (pss_one (ps_set (i := 5) sc_L_walk.nd rfl (Or.inl rfl) (pe_ix ix_seq (vr 11) pe_int (fun _ _ => rfl))))))))))) (pss_one (ps_if (t_chain o_lt o_lt pe_int (pe_ix ix_seq (pe_ix ix_seq (vr 3) (vr 6) (fun _ _ => rfl)) pe_int (fun _ _ => rfl)) (pe_ix ix_seq (pe_ix ix_seq (vr 3) (vr 6) (fun _ _ => rfl)) pe_int (fun _ _ => rfl))) (pss_one (ps_set (i := 5) sc_L_walk.nd rfl (Or.inl rfl) (vr 6))) pss_nil))) (pss_one (ps_if (PW.pt (pw_and (t_cmp o_isnot (vr 5) pe_non (nomark _)) (pw_and1 (pt_not (t_chain o_lt o_lt pe_int (pe_ix ix_seq (pe_ix ix_seq (vr 3) (vr 5) (fun _ _ => rfl)) pe_int (fun _ _ => rfl)) (pe_ix ix_seq (pe_ix ix_seq (vr 3) (vr 5) (fun _ _ => rfl)) pe_int (fun _ _ => rfl))))))) (pss_one (ps_set (i := 5) sc_L_walk.nd rfl (Or.inl rfl) pe_non)) pss_nil)))) (pss_cons (ps_if (t_cmp o_isnot (vr 5) pe_non (nomark _)) (pss_cons (ps_asg (pe_ix ix_seq (vr 3) (vr 5) (fun _ _ => rfl)) (pg_tup rfl (pgs_cons (pg_name (i := 12) sc_L_walk.nd rfl (Or.inl rfl)) (pgs_cons (pg_name (i := 13) sc_L_walk.nd rfl (Or.inl rfl)) pgs_nil)))) (pss_cons (ps_expr (pe_m.append (vr 4) (pa_cons (pe_tup (pa_cons (pe_lst (pa_cons (vr 12) (pa_cons (pe_op o_sub (vr 13) (vr 12)) pa_nil))) (pa_cons (pe_op o_mod (pe_ix ix_seq (vr 2) (pe_callB call_lenM rfl T.z_len bt_len (pa_cons (vr 4) pa_nil)) (fun _ _ => rfl)) (vr 13)) pa_nil))) pa_nil))) (pss_one (ps_asg (pe_tup (pa_cons (pe_callTy call_int1 rfl T.z_int bt_int (pa_cons (pe_cmpR o_lt (pe_ix ix_seq (pe_ix ix_seq (vr 4) (pe_un u_neg pe_int) (fun _ _ => rfl)) pe_int (fun _ _ => rfl)) (vr 12) (nomark _)) pa_nil)) (pa_cons pe_int pa_nil))) (pg_sub (vr 3) (vr 5) set_list))))) pss_nil) (pss_one (ps_ret (pe_tup (pa_cons (vr 4) (pa_cons (pe_callTy call_tuple_of rfl T.z_tuple bt_tuple (pa_cons (pe_comp rfl (N := ["_law_at", "_law_now"]) (ix := [none, some 3]) ⟨rfl, rfl, rfl, rfl, ⟨rfl, rfl, rfl, trivial⟩⟩ (pi_range1 rfl T.z_range (pa_cons (pe_callB call_lenM rfl T.z_len bt_len (pa_cons (vr 3) pa_nil)) pa_nil)) ⟨fun C s H fp => pg_name (i := 0) (show List.Nodup (["_law_at", "_law_now"] : List Str) by decide +kernel) rfl (Or.inl rfl), fun C s H fp => pts_one (t_cmp (o_eqDK (K := K) rfl hr.units) (pe_ix (ix_seqK (K := K) rfl) (vr 1) (vr 0) (fun _ _ => rfl)) (pe_tup (pa_cons pe_int (pa_cons pe_int pa_nil))) (nomark _)), fun C s H fp => (vr 0)⟩) pa_nil)) pa_nil)))))))))), ?_⟩
    refine ⟨ls, xs, rfl, .inl (SqL.of hls), fun nw fnw => ?_⟩
    refine ⟨Nat.zero_le _, fun rl frl => ?_⟩
    refine .inl ⟨⟨_, SqL.of (Same.new frl _ _ (Same.new fnw _ _ hlo))⟩, ?_⟩
    have u1 := Same.new (o := .lst xs) fnw
    have u2 := u1.trans (Same.new (o := .lst []) frl)
    have hnw : (upd (upd H nw (.lst xs)) rl (.lst [])) nw = some (.lst xs) := Same.new frl _ _ upd_same
    have hrl : (upd (upd H nw (.lst xs)) rl (.lst [])) rl = some (.lst []) := upd_same
    have nrn : rl ≠ nw := fun z => by rw [z, upd_same] at frl; cases frl
    have frl0 : H rl = none := by
      cases hh : H rl with
      | none => rfl
      | some o => rw [u1 _ _ hh] at frl; cases frl
    refine for_list (K := K) (a := lo) (xs := ord.map fun (o : Nat) => V.int (o : Int)) (fun i σ H' => ∃ (now : List (Int × Int)) (up : Option Nat) (rs : List (Int × Int × Int)) (xs' ys : List V) (x6 x7 x8 x9 x10 x11 x12 x13 : Option V), Same H H' ∧ H' nw = some (.lst xs') ∧ AllF K H' now xs' ∧ now.length = sh.length ∧ H' rl = some (.lst ys) ∧ RowsAt (untr (untr H' nw) rl) rs ys ∧ WI (sett (tl0 sh ord) []).1 (sett (tl0 sh ord) []).2 B now up (ord.drop i) rs ∧ rs.length ≤ i ∧ σ = [some (.ref ls), some (.ref lo), some (.ref lt), some (.ref nw), some (.ref rl), some (upV up), x6, x7, x8, x9, x10, x11, x12, x13])
      ⟨sh, none, [], xs, [], none, none, none, none, none, none, none, none, u2, hnw, hF.same u2, rfl, hrl, .nil, WI.start hord hfr, Nat.le_refl _, rfl⟩ (fun i σ H' _ h => by obtain ⟨_, _, _, _, _, _, _, _, _, _, _, _, _, h, _⟩ := h; exact SqL.of (h _ _ hlo)) ?_ ?_
    · rintro i x σ H' hx ⟨now, up, rs, xs', ys, x6, x7, x8, x9, x10, x11, x12, x13, s1, hn1, hA1, hnl, hr1, hR1, hW, hrsl, rfl⟩
      rw [List.getElem?_map] at hx
      cases hoi : ord[i]? with
      | none => rw [hoi] at hx; cases hx
      | some o =>
        rw [hoi] at hx
        cases hx
        have ilt : i < ord.length := (List.getElem?_eq_some_iff.mp hoi).1
        have hdr : ord.drop i = o :: ord.drop (i + 1) := by
          obtain ⟨hi, e⟩ := List.getElem?_eq_some_iff.mp hoi
          rw [List.drop_eq_getElem_cons hi, e]
        rw [hdr] at hW
        have ol := hW.lt o (List.mem_cons_self ..)
        have oxl : o < xs'.length := by rw [← hA1.len]; exact ol
        have at_ : ∀ k : Nat, k < now.length → ∃ v, xs'[k]? = some v ∧ IsF K H' (gN now k) v := fun k hk => by
          have hk' : k < xs'.length := by rw [← hA1.len]; exact hk
          have e : xs'[k]? = some xs'[k] := List.getElem?_eq_getElem hk'
          obtain ⟨f, hf, isf⟩ := hA1.get e
          have ef : gN now k = f := by unfold gN; rw [List.getD, hf]; rfl
          exact ⟨_, e, ef ▸ isf⟩
        obtain ⟨vo, evo, fo⟩ := at_ o ol
        refine uns_chain hn1 (atI_nat evo) fo ?_
        cases hu : uns (gN now o) with
        | false =>
          refine uns_chain hn1 (atI_nat evo) fo ?_
          rw [hu]
          have hW2 := hW.skip hu
          cases up with
          | none =>
            exact ⟨now, none, rs, xs', ys, _, _, _, _, _, _, _, _, s1, hn1, hA1, hnl, hr1, hR1, hW2, by omega, rfl⟩
          | some u =>
            obtain ⟨ul, _, uu⟩ := hW2.upk u rfl
            obtain ⟨vu, evu, fu⟩ := at_ u ul
            refine uns_chain hn1 (atI_nat evu) fu ?_
            rw [uu]
            exact ⟨now, some u, rs, xs', ys, _, _, _, _, _, _, _, _, s1, hn1, hA1, hnl, hr1, hR1, hW2, by omega, rfl⟩
        | true =>
          cases up with
          | none =>
            refine uns_chain hn1 (atI_nat evo) fo ?_
            rw [hu]
            refine uns_chain hn1 (atI_nat evo) fo ?_
            rw [hu]
            exact ⟨now, some o, rs, xs', ys, _, _, _, _, _, _, _, _, s1, hn1, hA1, hnl, hr1, hR1, hW.get hu, by omega, rfl⟩
          | some u =>
            obtain ⟨ul, unos, uu⟩ := hW.upk u rfl
            obtain ⟨vu, evu, fu⟩ := at_ u ul
            have two : Two (gN now u) (gN now o) := ⟨B, hBB.1, hBB.2, hW.fr u ul, hW.fr o ol, uu, hu⟩
            refine .inl ⟨nw, _, _, _, rfl, rfl, SqL.of hn1, atI_nat evu, .inl ⟨nw, _, _, _, rfl, rfl, SqL.of hn1, atI_nat evo, ?_⟩⟩
            refine ⟨vu, vo, gN now u, gN now o, rfl, fu, fo, two, fun H2 pp sl ne re s2 fsl hpp hsl hne hre => ?_⟩
            have hD := fun t t0 t1 i j hij => hW.duel (t := t) (i := i) (j := j) hBB.1 hu t0 t1 hij
            obtain ⟨d1, d2, d3, fR, ltR, fE, uE⟩ := du_ok hBB.1 (hW.fr u ul) (hW.fr o ol) uu hu
            generalize hce : gN now u = c at *
            generalize hee : gN now o = e at *
            refine ⟨pp, _, rfl, SqT.of hpp, rfl, _, _, rfl, _, _, rfl, _, _, rfl, rfl, ?_⟩
            have yl : ys.length = rs.length := hR1.len.symm
            have ordl : ord.length = sh.length := by rw [hord.length_eq, List.length_range]
            refine ⟨_, .inl (SqL.of (s2 _ _ hr1)), ?_⟩
            have rlt : rs.length < thr.length := by omega
            have etr : (thr.map V.int)[rs.length]? = some (.int thr[rs.length]) := by rw [List.getElem?_map, List.getElem?_eq_getElem rlt]; rfl
            refine .inl ⟨lt, _, _, .int thr[rs.length], rfl, rfl, SqL.of (s2 _ _ (s1 _ _ hlt)), atI_cons rs.length (by rw [yl]) etr, ?_⟩
            refine ⟨sl, [du1 c e, du2 c e], rfl, SqL.of hsl, ?_⟩
            rw [show ([du1 c e, du2 c e] : List Int).sum = du1 c e + du2 c e by simp only [List.sum_cons, List.sum_nil]; omega]
            refine ⟨cp (by omega), ?_⟩
            have t0 := Int.emod_nonneg thr[rs.length] (show du1 c e + du2 c e ≠ 0 by omega)
            have t1 := Int.emod_lt_of_pos thr[rs.length] (show 0 < du1 c e + du2 c e by omega)
            dsimp only
            generalize thr[rs.length] % (du1 c e + du2 c e) = t at t0 t1
            refine ⟨.inl ⟨rfl, _, SqL.of (s2 _ _ hr1)⟩, ⟨two_le _ _, fun pr fpr => ?_⟩⟩
            have s3 := Same.new (o := .tup [.ref sl, .int t]) fpr
            have hr3 := s3 _ _ (s2 _ _ hr1)
            refine ⟨rl, ys, _, rfl, rfl, hr3, by omega, ?_⟩
            have npr : pr ≠ rl := fun z => by rw [z, s2 _ _ hr1] at fpr; cases fpr
            have nprn : pr ≠ nw := fun z => by rw [z, s2 _ _ hn1] at fpr; cases fpr
            have nsl : sl ≠ rl := fun z => by rw [z, hr1] at fsl; cases fsl
            have nsln : sl ≠ nw := fun z => by rw [z, hn1] at fsl; cases fsl
            have nne : ne ≠ rl := fun z => by rw [z, s2 _ _ hr1] at hne; cases hne
            have nre : re ≠ rl := fun z => by rw [z, s2 _ _ hr1] at hre; cases hre
            have hn4 : (upd (upd H2 pr (.tup [.ref sl, .int t])) rl (.lst (ys ++ [.ref pr]))) nw = some (.lst xs') := by rw [upd_ne (Ne.symm nrn)]; exact s3 _ _ (s2 _ _ hn1)
            have hr4 : (upd (upd H2 pr (.tup [.ref sl, .int t])) rl (.lst (ys ++ [.ref pr]))) rl = some (.lst (ys ++ [.ref pr])) := upd_same
            have hsl4 : (upd (upd H2 pr (.tup [.ref sl, .int t])) rl (.lst (ys ++ [.ref pr]))) sl = some (.lst [.int (du1 c e), .int (du2 c e)]) := by rw [upd_ne nsl]; exact s3 _ _ hsl
            have hne4 : (upd (upd H2 pr (.tup [.ref sl, .int t])) rl (.lst (ys ++ [.ref pr]))) ne = some (.tup [.int (duE c e).1, .int (duE c e).2]) := by rw [upd_ne nne]; exact s3 _ _ hne
            have hre4 : (upd (upd H2 pr (.tup [.ref sl, .int t])) rl (.lst (ys ++ [.ref pr]))) re = some (.tup [.int (duR c e).1, .int (duR c e).2]) := by rw [upd_ne nre]; exact s3 _ _ hre
            have s04 : Same H (upd (upd H2 pr (.tup [.ref sl, .int t])) rl (.lst (ys ++ [.ref pr]))) := fun b o q => by rw [upd_ne (ne_of_none q frl0)]; exact s3 _ _ (s2 _ _ (s1 _ _ q))
            have hA4 : AllF K (upd (upd H2 pr (.tup [.ref sl, .int t])) rl (.lst (ys ++ [.ref pr]))) now xs' := (hA1.same (s2.trans s3)).tk (TK.lst hr3)
            have hR4 : RowsAt (untr (untr (upd (upd H2 pr (.tup [.ref sl, .int t])) rl (.lst (ys ++ [.ref pr]))) nw) rl) (rs ++ [(du1 c e, du2 c e, t)]) (ys ++ [.ref pr]) := by
              refine RowsAt.snoc ⟨pr, sl, rfl, ?_, ?_⟩ (RowsAt.t ?_ hR1)
              · rw [untr_ne npr, untr_ne nprn, upd_ne npr]; exact upd_same
              · rw [untr_ne nsl, untr_ne nsln, upd_ne nsl]; exact s3 _ _ hsl
              · refine Same.t fun b o q => ?_
                have b1 : b ≠ rl := fun z => by rw [z, untr_same] at q; cases q
                rw [untr_ne b1] at q
                have b2 : b ≠ nw := fun z => by rw [z, untr_same] at q; cases q
                rw [untr_ne b2] at q
                rw [untr_ne b1, untr_ne b2, upd_ne b1]
                exact s3 _ _ (s2 _ _ q)
            generalize upd (upd H2 pr (.tup [.ref sl, .int t])) rl (.lst (ys ++ [.ref pr])) = H4 at hn4 hr4 hsl4 hne4 hre4 s04 hA4 hR4
            refine ⟨two_le _ _, fun en fen => ?_⟩
            have s5 := Same.new (o := .lst [upV (some u), .int (o : Nat)]) fen
            refine .inl ⟨sl, _, _, .int (du1 c e), rfl, rfl, SqL.of (s5 _ _ hsl4), atI_cons 0 rfl rfl, ?_⟩
            refine ⟨two_le _ _, fun zt fzt => ?_⟩
            have s6 := s5.trans (Same.new (o := .tup [.int 0, .int 1]) fzt)
            refine ⟨.tuple [.int (duE c e).1, .int (duE c e).2], .tuple [.int 0, .int 1], dv_pair (SqT.of (s6 _ _ hne4)), dv_pair (SqT.of upd_same), shaped_pair _ _, shaped_pair _ _, ?_⟩
            rw [eqv_pair]
            have eE : decide (((duE c e).1, (duE c e).2) = ((0 : Int), (1 : Int))) = duL c e := by
              unfold duE
              cases hL : duL c e <;> simp
            rw [eE]
            have hen : (upd (upd H4 en (.lst [upV (some u), .int (o : Nat)])) zt (.tup [.int 0, .int 1])) en = some (.lst [.int (u : Nat), .int (o : Nat)]) := Same.new fzt _ _ upd_same
            generalize upd (upd H4 en (.lst [upV (some u), .int (o : Nat)])) zt (.tup [.int 0, .int 1]) = H6 at s6 hen
            have hn6 := s6 _ _ hn4
            have hA6 := hA4.same s6
            have cutS : ∀ {HX : Hp}, Same H4 HX → RowsAt (untr (untr HX nw) rl) (rs ++ [(du1 c e, du2 c e, t)]) (ys ++ [.ref pr]) := fun sx => RowsAt.t ((cut_of (cut_of sx.t))) hR4
            refine ifC (fun hb => ?_) fun hb => ?_
            · refine ⟨two_le _ _, fun en2 fen2 => ?_⟩
              have sy := s6.trans (Same.new (o := .lst [.int (o : Nat), upV (some u)]) fen2)
              have nEN : en2 ≠ nw := fun z => by rw [z, hn6] at fen2; cases fen2
              have hEN : (upd H6 en2 (.lst [.int (o : Nat), upV (some u)])) en2 = some (.lst [.int (o : Nat), .int (u : Nat)]) := upd_same
              have hny := sy _ _ hn4
              have hAy := hA4.same sy
              generalize upd H6 en2 (.lst [.int (o : Nat), upV (some u)]) = Hy at sy hEN hny hAy
              refine .inl ⟨en2, _, _, .int (o : Nat), rfl, rfl, SqL.of hEN, atI_cons 0 rfl rfl, ?_⟩
              have il : o < xs'.length := by rw [← hAy.len]; exact ol
              have jl : u < xs'.length := by rw [← hAy.len]; exact ul
              refine ⟨nw, xs', (o : Nat), o, rfl, rfl, hny, ixN_nat il, ?_⟩
              refine .inl ⟨en2, _, _, .int (u : Nat), rfl, rfl, SqL.of ((upd_ne nEN).trans hEN), atI_cons 1 rfl rfl, ?_⟩
              refine ⟨nw, xs'.set o (.ref ne), (u : Nat), u, rfl, rfl, upd_same, ixN_nat (by rw [List.length_set]; exact jl), ?_⟩
              refine .inl ⟨en2, _, _, .int (u : Nat), rfl, rfl, SqL.of ((upd_ne nEN).trans ((upd_ne nEN).trans hEN)), atI_cons 1 rfl rfl, ?_⟩
              have hn9 : (upd (upd Hy nw (.lst (xs'.set o (.ref ne)))) nw (.lst ((xs'.set o (.ref ne)).set u (.ref re)))) nw = some (.lst ((xs'.set o (.ref ne)).set u (.ref re))) := upd_same
              have nne' : ne ≠ nw := fun z => by rw [z, hn4] at hne4; cases hne4
              have nre' : re ≠ nw := fun z => by rw [z, hn4] at hre4; cases hre4
              have hr9 : (upd (upd Hy nw (.lst (xs'.set o (.ref ne)))) nw (.lst ((xs'.set o (.ref ne)).set u (.ref re)))) rl = some (.lst (ys ++ [.ref pr])) := by rw [upd_ne nrn, upd_ne nrn]; exact sy _ _ hr4
              have s09 : Same H (upd (upd Hy nw (.lst (xs'.set o (.ref ne)))) nw (.lst ((xs'.set o (.ref ne)).set u (.ref re)))) := fun b o q => by rw [upd_ne (ne_of_none q fnw), upd_ne (ne_of_none q fnw)]; exact sy _ _ (s04 _ _ q)
              have fE9 : IsF K (upd (upd Hy nw (.lst (xs'.set o (.ref ne)))) nw (.lst ((xs'.set o (.ref ne)).set u (.ref re)))) (duE c e) (.ref ne) := ⟨ne, rfl, .inl (by rw [upd_ne nne', upd_ne nne']; exact sy _ _ hne4)⟩
              have fR9 : IsF K (upd (upd Hy nw (.lst (xs'.set o (.ref ne)))) nw (.lst ((xs'.set o (.ref ne)).set u (.ref re)))) (duR c e) (.ref re) := ⟨re, rfl, .inl (by rw [upd_ne nre', upd_ne nre']; exact sy _ _ hre4)⟩
              have hA9 : AllF K (upd (upd Hy nw (.lst (xs'.set o (.ref ne)))) nw (.lst ((xs'.set o (.ref ne)).set u (.ref re)))) ((now.set o (duE c e)).set u (duR c e)) ((xs'.set o (.ref ne)).set u (.ref re)) := paired_set fR9 u (paired_set fE9 o ((hAy.tk (TK.lst hny)).tk (TK.lst upd_same)))
              have hR9 : RowsAt (untr (untr (upd (upd Hy nw (.lst (xs'.set o (.ref ne)))) nw (.lst ((xs'.set o (.ref ne)).set u (.ref re)))) nw) rl) (rs ++ [(du1 c e, du2 c e, t)]) (ys ++ [.ref pr]) := RowsAt.t (cut_of (cut_put.trans cut_put)) (cutS sy)
              have hW9 := hD t t0 t1 o u (.inl ⟨hb, rfl, rfl⟩)
              have evj : ((xs'.set o (.ref ne)).set u (.ref re))[u]? = some (.ref re) := by
                rw [List.getElem?_set_self (by rw [List.length_set]; exact jl)]
              generalize (upd (upd Hy nw (.lst (xs'.set o (.ref ne)))) nw (.lst ((xs'.set o (.ref ne)).set u (.ref re)))) = H9 at hn9 hr9 s09 fE9 fR9 hA9 hR9
              refine uns_chain hn9 (atI_nat evj) fR9 ?_
              have nl9 : ((now.set o (duE c e)).set u (duR c e)).length = sh.length := by rw [List.length_set, List.length_set]; exact hnl
              have rl9 : (rs ++ [(du1 c e, du2 c e, t)]).length ≤ i + 1 := by rw [List.length_append]; show rs.length + 1 ≤ i + 1; omega
              cases hR : uns (duR c e) with
              | true =>
                rw [hR, if_pos rfl] at hW9
                exact ⟨_, some u, _, _, _, _, _, _, _, _, _, _, _, s09, hn9, hA9, nl9, hr9, hR9, hW9, rl9, rfl⟩
              | false =>
                rw [hR, if_neg (by decide)] at hW9
                exact ⟨_, none, _, _, _, _, _, _, _, _, _, _, _, s09, hn9, hA9, nl9, hr9, hR9, hW9, rl9, rfl⟩
            · have sy := s6
              have nEN : en ≠ nw := fun z => by rw [z, hn4] at fen; cases fen
              have hEN := hen
              have hny := hn6
              have hAy := hA6
              refine .inl ⟨en, _, _, .int (u : Nat), rfl, rfl, SqL.of hEN, atI_cons 0 rfl rfl, ?_⟩
              have il : u < xs'.length := by rw [← hAy.len]; exact ul
              have jl : o < xs'.length := by rw [← hAy.len]; exact ol
              refine ⟨nw, xs', (u : Nat), u, rfl, rfl, hny, ixN_nat il, ?_⟩
              refine .inl ⟨en, _, _, .int (o : Nat), rfl, rfl, SqL.of ((upd_ne nEN).trans hEN), atI_cons 1 rfl rfl, ?_⟩
              refine ⟨nw, xs'.set u (.ref ne), (o : Nat), o, rfl, rfl, upd_same, ixN_nat (by rw [List.length_set]; exact jl), ?_⟩
              refine .inl ⟨en, _, _, .int (o : Nat), rfl, rfl, SqL.of ((upd_ne nEN).trans ((upd_ne nEN).trans hEN)), atI_cons 1 rfl rfl, ?_⟩
              have hn9 : (upd (upd H6 nw (.lst (xs'.set u (.ref ne)))) nw (.lst ((xs'.set u (.ref ne)).set o (.ref re)))) nw = some (.lst ((xs'.set u (.ref ne)).set o (.ref re))) := upd_same
              have nne' : ne ≠ nw := fun z => by rw [z, hn4] at hne4; cases hne4
              have nre' : re ≠ nw := fun z => by rw [z, hn4] at hre4; cases hre4
              have hr9 : (upd (upd H6 nw (.lst (xs'.set u (.ref ne)))) nw (.lst ((xs'.set u (.ref ne)).set o (.ref re)))) rl = some (.lst (ys ++ [.ref pr])) := by rw [upd_ne nrn, upd_ne nrn]; exact sy _ _ hr4
              have s09 : Same H (upd (upd H6 nw (.lst (xs'.set u (.ref ne)))) nw (.lst ((xs'.set u (.ref ne)).set o (.ref re)))) := fun b o q => by rw [upd_ne (ne_of_none q fnw), upd_ne (ne_of_none q fnw)]; exact sy _ _ (s04 _ _ q)
              have fE9 : IsF K (upd (upd H6 nw (.lst (xs'.set u (.ref ne)))) nw (.lst ((xs'.set u (.ref ne)).set o (.ref re)))) (duE c e) (.ref ne) := ⟨ne, rfl, .inl (by rw [upd_ne nne', upd_ne nne']; exact sy _ _ hne4)⟩
              have fR9 : IsF K (upd (upd H6 nw (.lst (xs'.set u (.ref ne)))) nw (.lst ((xs'.set u (.ref ne)).set o (.ref re)))) (duR c e) (.ref re) := ⟨re, rfl, .inl (by rw [upd_ne nre', upd_ne nre']; exact sy _ _ hre4)⟩
              have hA9 : AllF K (upd (upd H6 nw (.lst (xs'.set u (.ref ne)))) nw (.lst ((xs'.set u (.ref ne)).set o (.ref re)))) ((now.set u (duE c e)).set o (duR c e)) ((xs'.set u (.ref ne)).set o (.ref re)) := paired_set fR9 o (paired_set fE9 u ((hAy.tk (TK.lst hny)).tk (TK.lst upd_same)))
              have hR9 : RowsAt (untr (untr (upd (upd H6 nw (.lst (xs'.set u (.ref ne)))) nw (.lst ((xs'.set u (.ref ne)).set o (.ref re)))) nw) rl) (rs ++ [(du1 c e, du2 c e, t)]) (ys ++ [.ref pr]) := RowsAt.t (cut_of (cut_put.trans cut_put)) (cutS sy)
              have hW9 := hD t t0 t1 u o (.inr ⟨hb, rfl, rfl⟩)
              have evj : ((xs'.set u (.ref ne)).set o (.ref re))[o]? = some (.ref re) := by
                rw [List.getElem?_set_self (by rw [List.length_set]; exact jl)]
              generalize (upd (upd H6 nw (.lst (xs'.set u (.ref ne)))) nw (.lst ((xs'.set u (.ref ne)).set o (.ref re)))) = H9 at hn9 hr9 s09 fE9 fR9 hA9 hR9
              refine uns_chain hn9 (atI_nat evj) fR9 ?_
              have nl9 : ((now.set u (duE c e)).set o (duR c e)).length = sh.length := by rw [List.length_set, List.length_set]; exact hnl
              have rl9 : (rs ++ [(du1 c e, du2 c e, t)]).length ≤ i + 1 := by rw [List.length_append]; show rs.length + 1 ≤ i + 1; omega
              cases hR : uns (duR c e) with
              | true =>
                rw [hR, if_pos rfl] at hW9
                exact ⟨_, some o, _, _, _, _, _, _, _, _, _, _, _, s09, hn9, hA9, nl9, hr9, hR9, hW9, rl9, rfl⟩
              | false =>
                rw [hR, if_neg (by decide)] at hW9
                exact ⟨_, none, _, _, _, _, _, _, _, _, _, _, _, s09, hn9, hA9, nl9, hr9, hR9, hW9, rl9, rfl⟩
    · rintro σ H' ⟨now, up, rs, xs', ys, x6, x7, x8, x9, x10, x11, x12, x13, s1, hn1, hA1, hnl, hr1, hR1, hW, hrsl, rfl⟩
      rw [List.length_map, List.drop_length] at hW
      have ordl : ord.length = sh.length := by rw [hord.length_eq, List.length_range]
      rw [List.length_map] at hrsl
      have fin : ∀ (HX : Hp) (nowX : List (Int × Int)) (rsX : List (Int × Int × Int)) (xsX ysX : List V) (kept : List Int), Same H HX → HX nw = some (.lst xsX) → AllF K HX nowX xsX → nowX.length = sh.length → HX rl = some (.lst ysX) → RowsAt (untr (untr HX nw) rl) rsX ysX → rsX.length ≤ 25 →
          Good (sett (tl0 sh ord) []).1 (sett (tl0 sh ord) []).2 rsX kept → kept.Perm (wh nowX) → ∀ (y6 y7 y8 y9 y10 y11 y12 y13 : Option V) (upx : V),
          tRet (tTup (tCons (tV 4) (tCons (tCB (fun xs H_1 Q => ∃ p ys, xs = [.ref p] ∧ ((SqL K H_1 p ys ∧ ∀ l, H_1 l = none → Q (.ref l) (upd H_1 l (.tup ys))) ∨ (SqT K H_1 p ys ∧ Q (.ref p) H_1)))
            (tCons (tComp [none, some 3] (iRng1 (tCons (tCB (fun xs H_1 Q => match xs with
              | [V.str z] => z.length ≤ sizeLine ∧ Q (V.int (z.length : Int)) H_1
              | [V.ref p] => ∃ ys, (SqL K H_1 p ys ∨ SqT K H_1 p ys) ∧ Q (V.int (ys.length : Int)) H_1
              | _ => False) (tCons (tV 3) tNil)) tNil)) (gName 0) (mT (tOp (rEqD K false) (tOp (rIx K) (tV 1) (tV 0)) (tTup (tCons (tC (V.int 1)) (tCons (tC (V.int 1)) tNil))))) (tV 0)) tNil)) tNil)))
            { nx := fun _ H' => Q V.non H', rt := Q } [some (.ref ls), some (.ref lo), some (.ref lt), some (.ref nw), some (.ref rl), some upx, y6, y7, y8, y9, y10, y11, y12, y13] HX := by
        intro HX nowX rsX xsX ysX kept sx hnx hAx hnlx hrx hRx hrlx hG hPm y6 y7 y8 y9 y10 y11 y12 y13 upx
        refine ⟨_, .inl (SqL.of hnx), ?_⟩
        rw [show xsX.length = nowX.length from hAx.len.symm]
        refine ⟨(nowX.length : Int), rfl, by omega, by omega, fun D hD => ?_⟩
        refine comp_rng (lo := 0) (n := ((nowX.length : Nat) : Int).toNat) (fun j zs H' => j ≤ nowX.length ∧ Same HX H' ∧ H' D = some (.lst zs) ∧ zs = (((List.range j).filter fun i => whl (gN nowX i)).map (fun (i : Nat) => (i : Int))).map V.int) ⟨Nat.zero_le _, Same.new hD, upd_same, rfl⟩ (fun j zs H' h => h.2.2.1) ?_ ?_
        · rintro j zs H' P' hj ⟨hj2, sj, hDj, rfl⟩ hP'
          have jl : j < nowX.length := by omega
          have jx : j < xsX.length := by rw [← hAx.len]; exact jl
          obtain ⟨f, hf, ⟨pf, ef, hpf⟩⟩ := hAx.get (List.getElem?_eq_getElem jx)
          have egN : gN nowX j = f := by unfold gN; rw [List.getD, hf]; rfl
          have at1 : atI xsX (0 + (j : Int)) = some (.ref pf) := by rw [Int.zero_add]; exact atI_nat (by rw [List.getElem?_eq_getElem jx, ef])
          refine ⟨⟨rfl, trivial⟩, .inl ⟨nw, _, _, _, rfl, rfl, SqL.of (sj _ _ hnx), at1, ⟨two_le _ _, fun zt fzt => ?_⟩⟩⟩
          have s5 := Same.new (o := .tup [.int 1, .int 1]) fzt
          have hpf2 : IsF K _ f (.ref pf) := IsF.same (sj.trans s5) ⟨pf, rfl, hpf⟩
          obtain ⟨pg, eg, hpg⟩ := hpf2
          cases eg
          refine ⟨.tuple [.int f.1, .int f.2], .tuple [.int 1, .int 1], dv_pair hpg.sq, dv_pair (SqT.of upd_same), shaped_pair _ _, shaped_pair _ _, ?_⟩
          rw [eqv_pair]
          have hD5 := s5 _ _ hDj
          refine ifC (fun hh => ?_) fun hh => ?_
          · have hw : whl (gN nowX j) = true := by rw [egN]; exact decide_eq_true (show f = (1, 1) from hh)
            refine ⟨hD5, ?_, hP' _ _ ⟨jl, (sj.trans s5).put hD, upd_same, ?_⟩⟩
            · rw [List.length_map, List.length_map]
              have := List.length_filter_le (fun i => whl (gN nowX i)) (List.range j)
              rw [List.length_range] at this
              omega
            · rw [List.range_succ, List.filter_append]
              simp [hw]
          · have hw : whl (gN nowX j) = false := by rw [egN]; exact decide_eq_false (show ¬ f = (1, 1) from hh)
            refine hP' _ _ ⟨jl, sj.trans s5, hD5, ?_⟩
            rw [List.range_succ, List.filter_append]
            simp [hw]
        rintro zs H9 ⟨_, s9, hD9, rfl⟩
        have ew : (((List.range ((nowX.length : Nat) : Int).toNat).filter fun i => whl (gN nowX i)).map (fun (i : Nat) => (i : Int))) = wh nowX := rfl
        rw [ew] at hD9
        refine ⟨D, _, rfl, .inl ⟨SqL.of hD9, fun lk flk => ?_⟩⟩
        have s10 := Same.new (o := .tup ((wh nowX).map V.int)) flk
        refine ⟨two_le _ _, fun p fp => ?_⟩
        have s11 := s10.trans (Same.new (o := .tup [.ref rl, .ref lk]) fp)
        have hRr : RowsAt HX rsX ysX := RowsAt.t (cut_sub.trans cut_sub) hRx
        have s9t := s9.trans s11
        have swh : Srt (wh nowX) kept := by
          refine ⟨hPm.symm, ?_⟩
          unfold wh
          rw [List.pairwise_map]
          refine List.Pairwise.imp (fun h => by omega) ((List.pairwise_lt_range (n := nowX.length)).filter _)
        refine q _ p rl lk rsX ysX kept (wh nowX) (sx.trans s9t) upd_same (s9t _ _ hrx) (hRr.t s9t.t) (Same.new fp _ _ upd_same) hG swh ?_ hrlx
        unfold wh
        rw [List.length_map]
        have := List.length_filter_le (fun i => whl (gN nowX i)) (List.range nowX.length)
        rw [List.length_range] at this
        omega
      have yl : ys.length = rs.length := hR1.len.symm
      cases up with
      | none =>
        obtain ⟨kept, hG, hPm⟩ := hW.end_none
        exact fin H' now rs xs' ys kept s1 hn1 hA1 hnl hr1 hR1 (by omega) hG hPm _ _ _ _ _ _ _ _ _
      | some u =>
        obtain ⟨ul, _, uu⟩ := hW.upk u rfl
        have ux : u < xs'.length := by rw [← hA1.len]; exact ul
        obtain ⟨c, hc, ⟨pc, epc, hpc⟩⟩ := hA1.get (List.getElem?_eq_getElem ux)
        have ef : gN now u = c := by unfold gN; rw [List.getD, hc]; rfl
        have hc0 : 0 < c.1 ∧ c.1 < c.2 := by rw [ef] at uu; unfold uns at uu; simpa using uu
        have atu : atI xs' ((u : Nat) : Int) = some (.ref pc) := atI_nat (by rw [List.getElem?_eq_getElem ux, epc])
        refine .inl ⟨nw, _, _, _, rfl, rfl, SqL.of hn1, atu, ?_⟩
        refine ⟨pc, _, rfl, hpc.sq, rfl, _, _, rfl, _, _, rfl, rfl, ?_⟩
        refine ⟨.inl ⟨rfl, _, SqL.of hr1⟩, ⟨two_le _ _, fun sl fsl => ?_⟩⟩
        have s2 := Same.new (o := .lst [.int c.1, .int (c.2 - c.1)]) fsl
        have hsl := upd_same (H := H') (a := sl) (o := .lst [.int c.1, .int (c.2 - c.1)])
        have rlt : rs.length < thr.length := by omega
        have etr : (thr.map V.int)[rs.length]? = some (.int thr[rs.length]) := by rw [List.getElem?_map, List.getElem?_eq_getElem rlt]; rfl
        refine ⟨_, .inl (SqL.of (s2 _ _ hr1)), .inl ⟨lt, _, _, .int thr[rs.length], rfl, rfl, SqL.of (s2 _ _ (s1 _ _ hlt)), atI_cons rs.length (by rw [yl]) etr, ⟨cp (by omega), ?_⟩⟩⟩
        have t0 := Int.emod_nonneg thr[rs.length] (show c.2 ≠ 0 by omega)
        have t1 := Int.emod_lt_of_pos thr[rs.length] (show 0 < c.2 by omega)
        dsimp only
        generalize thr[rs.length] % c.2 = t at t0 t1
        refine ⟨two_le _ _, fun pr fpr => ?_⟩
        generalize upd H' sl (.lst [.int c.1, .int (c.2 - c.1)]) = H2 at s2 hsl fpr
        have s3 := Same.new (o := .tup [.ref sl, .int t]) fpr
        have hr3 := s3 _ _ (s2 _ _ hr1)
        refine ⟨rl, ys, _, rfl, rfl, hr3, by omega, ?_⟩
        have npr : pr ≠ rl := fun z => by rw [z, s2 _ _ hr1] at fpr; cases fpr
        have nprn : pr ≠ nw := fun z => by rw [z, s2 _ _ hn1] at fpr; cases fpr
        have nsl : sl ≠ rl := fun z => by rw [z, hr1] at fsl; cases fsl
        have nsln : sl ≠ nw := fun z => by rw [z, hn1] at fsl; cases fsl
        have hn4 : (upd (upd H2 pr (.tup [.ref sl, .int t])) rl (.lst (ys ++ [.ref pr]))) nw = some (.lst xs') := by rw [upd_ne (Ne.symm nrn)]; exact s3 _ _ (s2 _ _ hn1)
        have hr4 : (upd (upd H2 pr (.tup [.ref sl, .int t])) rl (.lst (ys ++ [.ref pr]))) rl = some (.lst (ys ++ [.ref pr])) := upd_same
        have hpr4 : (upd (upd H2 pr (.tup [.ref sl, .int t])) rl (.lst (ys ++ [.ref pr]))) pr = some (.tup [.ref sl, .int t]) := by rw [upd_ne npr]; exact upd_same
        have s04 : Same H (upd (upd H2 pr (.tup [.ref sl, .int t])) rl (.lst (ys ++ [.ref pr]))) := fun b o q => by rw [upd_ne (ne_of_none q frl0)]; exact s3 _ _ (s2 _ _ (s1 _ _ q))
        have hA4 : AllF K (upd (upd H2 pr (.tup [.ref sl, .int t])) rl (.lst (ys ++ [.ref pr]))) now xs' := (hA1.same (s2.trans s3)).tk (TK.lst hr3)
        have hR4 : RowsAt (untr (untr (upd (upd H2 pr (.tup [.ref sl, .int t])) rl (.lst (ys ++ [.ref pr]))) nw) rl) (rs ++ [(c.1, c.2 - c.1, t)]) (ys ++ [.ref pr]) := by
          refine RowsAt.snoc ⟨pr, sl, rfl, ?_, ?_⟩ (RowsAt.t ?_ hR1)
          · rw [untr_ne npr, untr_ne nprn, upd_ne npr]; exact upd_same
          · rw [untr_ne nsl, untr_ne nsln, upd_ne nsl]; exact s3 _ _ hsl
          · refine Same.t fun b o q => ?_
            have b1 : b ≠ rl := fun z => by rw [z, untr_same] at q; cases q
            rw [untr_ne b1] at q
            have b2 : b ≠ nw := fun z => by rw [z, untr_same] at q; cases q
            rw [untr_ne b2] at q
            rw [untr_ne b1, untr_ne b2, upd_ne b1]
            exact s3 _ _ (s2 _ _ q)
        generalize upd (upd H2 pr (.tup [.ref sl, .int t])) rl (.lst (ys ++ [.ref pr])) = H4 at hn4 hr4 hpr4 s04 hA4 hR4
        refine .inl ⟨rl, _, _, .ref pr, rfl, rfl, SqL.of hr4, atI_last _ _, .inr (.inl ⟨pr, _, _, .int t, rfl, rfl, SqT.of hpr4, atI_cons 1 rfl rfl, ?_⟩)⟩
        refine .inr ⟨_, rfl, ⟨two_le _ _, fun nt fnt => ?_⟩⟩
        obtain ⟨kept, hG, hPm⟩ := hW.end_some t0 (by rw [ef]; exact t1)
        rw [ef] at hG hPm
        obtain ⟨g, hg⟩ : ∃ g : Int × Int, g = if t < c.1 then (1, 1) else (0, 1) := ⟨_, rfl⟩
        rw [← hg] at hPm
        have eg : (if decide (t < c.1) = true then (1 : Int) else 0) = g.1 ∧ (1 : Int) = g.2 := by
          rw [hg]
          by_cases z : t < c.1 <;> simp [z]
        have s5 := Same.new (o := .tup [.int (if decide (t < c.1) = true then (1 : Int) else 0), .int 1]) fnt
        have hnt : (upd H4 nt (.tup [.int (if decide (t < c.1) = true then (1 : Int) else 0), .int 1])) nt = some (.tup [.int g.1, .int g.2]) := by rw [upd_same, ← eg.1, ← eg.2]
        generalize upd H4 nt (.tup [.int (if decide (t < c.1) = true then (1 : Int) else 0), .int 1]) = H5 at s5 hnt
        have hn5 := s5 _ _ hn4
        refine ⟨nw, xs', ((u : Nat) : Int), u, rfl, rfl, hn5, ixN_nat ux, ?_⟩
        have nntw : nt ≠ nw := fun z => by rw [z, hn4] at fnt; cases fnt
        have hA6 : AllF K (upd H5 nw (.lst (xs'.set u (.ref nt)))) (now.set u g) (xs'.set u (.ref nt)) := paired_set ⟨nt, rfl, .inl (by rw [upd_ne nntw]; exact hnt)⟩ u ((hA4.same s5).tk (TK.lst hn5))
        have hR6 : RowsAt (untr (untr (upd H5 nw (.lst (xs'.set u (.ref nt)))) nw) rl) (rs ++ [(c.1, c.2 - c.1, t)]) (ys ++ [.ref pr]) := RowsAt.t (cut_of ((cut_of s5.t).trans cut_put)) hR4
        exact fin _ (now.set u g) _ _ _ kept (fun b o q => by rw [upd_ne (ne_of_none q fnw)]; exact s5 _ _ (s04 _ _ q)) upd_same hA6 (by rw [List.length_set]; exact hnl) (by rw [upd_ne nrn]; exact s5 _ _ hr4) hR6 (by rw [List.length_append]; show rs.length + 1 ≤ 25; omega) hG hPm _ _ _ _ _ _ _ _ _
end
end My

set_option Elab.async false
set_option linter.all false
set_option maxRecDepth 100000
set_option maxHeartbeats 4000000
namespace My
open PySem L2 FrM
theorem tabs_new {a : Ad} {ts : List Addr} {H : Hp} (hts : ∀ q ∈ tabs a, q.1 ∈ ts) (h : ∀ P ∈ ts, H P = some (.tbl #[])) : TabsOk (tabs a) H := fun q hq => ⟨#[], h _ (hts q hq), trivial, fun _ _ => .inl rfl⟩
noncomputable def pD (fs : List (Int × Int)) : List PyData := fs.map fun f => .tuple [.int f.1, .int f.2]
section
variable {P : Program} {w : World} {K : PySem.W.Frag} {mg : Str → Option Value} {base : Heap} {a : Ad}
theorem dvs_f {H : Hp} : ∀ {fs : List (Int × Int)} {xs : List V}, AllF K H fs xs → DVs K H (pD fs) xs
  | _, _, .nil => by simp [DVs, pD]
  | _, _, .cons ⟨p, e, r⟩ t => by
    unfold pD
    rw [List.map_cons, DVs]
    exact ⟨_, _, rfl, by rw [e]; exact dv_pair r.sq, dvs_f t⟩
theorem lay_f : ∀ (fs : List (Int × Int)), PyData.canLayAll0 (pD fs) = true ∧ PyData.depthAll (pD fs) ≤ 3
  | [] => by simp [PyData.canLayAll0, PyData.depthAll, pD]
  | t :: l => by
    obtain ⟨h1, h2⟩ := lay_f l
    unfold pD at *
    rw [List.map_cons, PyData.canLayAll0, PyData.depthAll, h1]
    refine ⟨by simp [PyData.canLay0, PyData.canLayAll0], ?_⟩
    simp only [PyData.depth, PyData.depthAll]
    omega
theorem ne_hand {H : Hp} {fs : List (Int × Int)} {ns : List Int} {l r l1 l2 r1 r2 : Addr} {xs : List V} {Q : VK} (h1 : H l = some (.lst [.ref l1, .ref l2])) (h2 : H r = some (.lst [.ref r1, .ref r2])) (a1 : H l1 = some (.lst xs)) (a2 : H r1 = some (.lst xs)) (hF : AllF K H fs xs)
    (b1 : H l2 = some (.lst (ns.map V.int))) (b2 : H r2 = some (.lst (ns.map V.int))) (q : Q (.bl false) H) : rEqD K true (.ref l) (.ref r) H Q := by
  have hs : SeqAt.shaped (.list [.list (pD fs), .list (ns.map PyData.int)]) = true := by
    obtain ⟨k1, k2⟩ := lay_f fs
    obtain ⟨k3, k4⟩ := lay_ints ns
    unfold SeqAt.shaped
    rw [PyData.canLay0, PyData.canLayAll0, PyData.canLayAll0, PyData.canLayAll0, PyData.canLay0, PyData.canLay0, k1, k3, Bool.true_and, Bool.true_and, Bool.true_and]
    refine decide_eq_true ?_
    simp only [PyData.depth, PyData.depthAll]
    omega
  have dv : ∀ {x y z : Addr}, H x = some (.lst [.ref y, .ref z]) → H y = some (.lst xs) → H z = some (.lst (ns.map V.int)) → DV K H (.list [.list (pD fs), .list (ns.map PyData.int)]) (.ref x) := fun {x y z} e1 e2 e3 => by
    rw [DV]
    refine ⟨x, _, rfl, SqL.of e1, ?_⟩
    rw [DVs]
    refine ⟨_, _, rfl, by rw [DV]; exact ⟨y, _, rfl, SqL.of e2, dvs_f hF⟩, ?_⟩
    rw [DVs]
    exact ⟨_, _, rfl, by rw [DV]; exact ⟨z, _, rfl, SqL.of e3, dvs_int _⟩, by simp [DVs]⟩
  refine ⟨_, _, dv h1 a1 b1, dv h2 a2 b2, hs, hs, ?_⟩
  rw [SeqAt.eqv_refl _ (SeqAt.canLay_of_shaped hs)]
  exact q
noncomputable abbrev lawK : Nat := 9
theorem ok_law {ts : List Addr} (T : Txt K mg a) (hB : Bm mg base) (hts : ∀ q ∈ tabs a, q.1 ∈ ts) : FnOk P w K mg base CX0 lawK a.f_law a.d_law ["_law_script"] (spLaw K ts) := by
  have G_L_cell : FnOk P w K mg base CX0 8 _ _ _ (spCell K) := (ok_cell T).mono (by decide)
  have G_L_shares : FnOk P w K mg base CX0 8 _ _ _ (spShares K) := (ok_shares T).mono (by decide)
  have G_L_order : FnOk P w K mg base CX0 8 _ _ _ spOrder := (ok_order T).mono (by decide)
  have G_L_walk : FnOk P w K mg base CX0 8 _ _ _ (spWalk K) := (ok_walk T).mono (by decide)
  have G_L_row : FnOk P w K mg base CX0 8 _ _ _ spRow := (ok_row T).mono (by decide)
  have G_L_thrown : FnOk P w K mg base CX0 8 _ _ _ (spThrown K a) := ok_thrown T hB
  have G_duels : FnOk P w K mg base CX0 8 _ _ _ (spDuels K a) := (ok_duels T hB).mono (by decide)
  have G_drawn : FnOk P w K mg base CX0 8 _ _ _ (spDrawn K a) := ok_drawn T hB
  refine T.F_law.ok sc_law (fun vs H Q E h => ?_) (fun cdv A outer s H vs Q E hr h => ?_)
  · obtain ⟨p, ns, rfl, _⟩ := h; rfl
  · obtain ⟨p, ns, rfl, hS, hlen, hT0, q⟩ := h
    have small : sizeLine = 16777216 := sizeLine_eq
    have hT := tabs_new hts hT0
    refine ⟨_, (pss_cons (ps_set (i := 1) sc_law.nd rfl (Or.inl rfl) (pe_call G_L_shares hr rfl T.m_L_shares T.F_L_shares.kp T.B_L_shares .nil pass0 (pa_cons (vr 0) (pa_cons pe_int (pa_cons pe_int pa_nil))))) (pss_cons (ps_set (i := 2) sc_law.nd rfl (Or.inl rfl) (pe_call G_L_order hr rfl T.m_L_order T.F_L_order.kp T.B_L_order .nil pass0 (pa_cons (pe_call G_L_cell hr rfl T.m_L_cell T.F_L_cell.kp T.B_L_cell .nil pass0 (pa_cons (vr 0) (pa_cons pe_int pa_nil))) (pa_cons (pe_call G_L_cell hr rfl T.m_L_cell T.F_L_cell.kp T.B_L_cell .nil pass0 (pa_cons (vr 0) (pa_cons pe_int pa_nil))) (pa_cons (pe_callB call_lenM rfl T.z_len bt_len (pa_cons (vr 1) pa_nil)) pa_nil))))) (pss_cons (ps_asg (pe_call G_L_walk hr rfl T.m_L_walk T.F_L_walk.kp T.B_L_walk .nil pass0 (pa_cons (vr 1) (pa_cons (vr 2) (pa_cons (pe_call G_L_row hr rfl T.m_L_row T.F_L_row.kp T.B_L_row .nil pass0 (pa_cons (pe_call G_L_cell hr rfl T.m_L_cell T.F_L_cell.kp T.B_L_cell .nil pass0 (pa_cons (vr 0) (pa_cons pe_int pa_nil))) (pa_cons (pe_call G_L_cell hr rfl T.m_L_cell T.F_L_cell.kp T.B_L_cell .nil pass0 (pa_cons (vr 0) (pa_cons pe_int pa_nil))) (pa_cons pe_int (pa_cons (pe_op o_pow pe_int pe_int) pa_nil))))) pa_nil)))) (pg_tup rfl (pgs_cons (pg_name (i := 3) sc_law.nd rfl (Or.inl rfl)) (pgs_cons (pg_name (i := 4) sc_law.nd rfl (Or.inl rfl)) pgs_nil)))) (pss_cons (ps_set (i := 5) sc_law.nd rfl (Or.inl rfl) (pe_lst (pa_cons (pe_callTy call_list_of rfl T.z_list bt_list (pa_cons (vr 1) pa_nil)) (pa_cons (pe_callTy call_list_of rfl T.z_list bt_list (pa_cons (vr 2) pa_nil)) pa_nil)))) (pss_cons (ps_set (i := 6) sc_law.nd rfl (Or.inl rfl) (pe_call G_duels hr rfl T.m_duels T.F_duels.kp T.B_duels .nil pass0 (pa_cons (pe_ix ix_seq (vr 5) pe_int (fun _ _ => rfl)) (pa_cons (pe_ix ix_seq (vr 5) pe_int (fun _ _ => rfl)) pa_nil)))) (pss_cons (ps_if (t_cmp (o_neD hr.units) (vr 5) (pe_lst (pa_cons (vr 1) (pa_cons (vr 2) pa_nil))) (nomark _)) (pss_one (ps_ret pe_bl)) pss_nil) (pss_cons (ps_expr (pe_m.clear (pe_ix ix_seq (vr 5) pe_int (fun _ _ => rfl)))) (pss_cons (ps_expr (pe_m.clear (pe_ix ix_seq (vr 5) pe_int (fun _ _ => rfl)))) (pss_cons (ps_if (pt_not (t_val (pe_call G_L_thrown hr rfl T.m_L_thrown T.F_L_thrown.kp T.B_L_thrown .nil pass0 (pa_cons (vr 6) (pa_cons (vr 3) (pa_cons (vr 4) pa_nil)))))) (pss_one (ps_ret pe_bl)) pss_nil) (pss_cons (ps_setC rfl (i := 7) sc_law.nd rfl rfl (by with_unfolding_all rfl) (N := ["_law_sizes", "_law_throw"]) (ix := [none, none]) ⟨rfl, rfl, rfl, rfl, trivial⟩ (pi_any (vr 3)) ⟨fun C s H fp => (pg_tupK (K := K) (n := 2) rfl rfl (pgs_cons (pg_name (i := 0) (show List.Nodup (["_law_sizes", "_law_throw"] : List Str) by decide +kernel) rfl (Or.inl rfl)) (pgs_cons (pg_name (i := 1) (show List.Nodup (["_law_sizes", "_law_throw"] : List Str) by decide +kernel) rfl (Or.inl rfl)) pgs_nil))), fun C s H fp => pts_nil, fun C s H fp => (vr 1)⟩) (pss_one (ps_ret (m_and (pe_cmpR (o_eqD hr.units) (pe_call G_drawn hr rfl T.m_drawn T.F_drawn.kp T.B_drawn .nil pass0 (pa_cons (pe_call G_duels hr rfl T.m_duels T.F_duels.kp T.B_duels .nil pass0 (pa_cons (vr 1) (pa_cons (vr 2) pa_nil))) (pa_cons (vr 7) pa_nil))) (vr 4) (nomark _)) (pe_one (pe_call G_L_thrown hr rfl T.m_L_thrown T.F_L_thrown.kp T.B_L_thrown .nil pass0 (pa_cons (vr 6) (pa_cons (vr 3) (pa_cons (vr 4) pa_nil)))))))))))))))))), ?_⟩
    refine ⟨p, ns, rfl, hS, hlen, fun H1 ls xs sh B s1 fls hls hF sh1 sh24 hBB hfr => ?_⟩
    have xl : sh.length = xs.length := hF.len
    refine ⟨p, ns, 4, rfl, s1.seq hS, hlen, by decide, by decide, ⟨p, ns, 5, rfl, s1.seq hS, hlen, by decide, by decide, ⟨_, .inl (SqL.of hls), ⟨_, _, xs.length, rfl, by omega, fun H2 lo ord s2 flo hlo hord => ?_⟩⟩⟩⟩
    rw [← xl] at hord
    have s02 := s1.trans s2
    have e12 : (10 : Int) ^ (12 : Int).toNat = 1000000000000 := by decide +kernel
    refine ⟨p, ns, 6, rfl, s02.seq hS, hlen, by decide, by decide, ⟨p, ns, 7, rfl, s02.seq hS, hlen, by decide, by decide, ⟨cw, ⟨_, _, 25, _, rfl, by decide, by decide, by rw [e12]; decide, by rw [e12]; decide, fun H3 lt thr s3 flt hlt htl hthr => ?_⟩⟩⟩⟩
    have s23 := s2.trans s3
    refine ⟨ls, lo, lt, xs, sh, ord, thr, B, rfl, s23 _ _ hls, hF.same s23, s3 _ _ hlo, hord, hlt, by omega, sh24, hBB, hfr, fun H4 pw lr lk rows ys kept ks s4 hpw hlr hR hlk hG hSr ks24 rl25 => ?_⟩
    refine ⟨pw, _, rfl, SqT.of hpw, rfl, _, _, rfl, _, _, rfl, rfl, ?_⟩
    have s04 := (s02.trans s3).trans s4
    have hls4 := (s23.trans s4) _ _ hls
    have hF4 := hF.same (s23.trans s4)
    have hlo4 := (s3.trans s4) _ _ hlo
    refine ⟨ls, _, rfl, .inl (SqL.of hls4), fun la fla => ⟨lo, _, rfl, .inl (SqL.of (Same.new fla _ _ hlo4)), fun lb flb => ⟨two_le _ _, fun lh flh => ?_⟩⟩⟩
    have u1 := Same.new (o := .lst xs) fla
    have u2 := Same.new (o := .lst (ord.map fun (o : Nat) => V.int (o : Int))) flb
    have u3 := Same.new (o := .lst [.ref la, .ref lb]) flh
    have u13 := (u1.trans u2).trans u3
    have hla7 := (u2.trans u3) _ _ (upd_same (H := H4) (a := la) (o := .lst xs))
    have hla6 := u2 _ _ (upd_same (H := H4) (a := la) (o := .lst xs))
    have hlb6 := upd_same (H := upd H4 la (.lst xs)) (a := lb) (o := .lst (ord.map fun (o : Nat) => V.int (o : Int)))
    have nha : lh ≠ la := fun z => by rw [z, hla6] at flh; cases flh
    have nhb : lh ≠ lb := fun z => by rw [z, hlb6] at flh; cases flh
    have nab : la ≠ lb := fun z => by rw [← z, upd_same] at flb; cases flb
    have hlb7 := u3 _ _ (upd_same (H := upd H4 la (.lst xs)) (a := lb) (o := .lst (ord.map fun (o : Nat) => V.int (o : Int))))
    have hlh7 := upd_same (H := upd (upd H4 la (.lst xs)) lb (.lst (ord.map fun (o : Nat) => V.int (o : Int)))) (a := lh) (o := .lst [.ref la, .ref lb])
    have flb4 : H4 lb = none := u1.free flb
    generalize upd (upd (upd H4 la (.lst xs)) lb (.lst (ord.map fun (o : Nat) => V.int (o : Int)))) lh (.lst [.ref la, .ref lb]) = H7 at u13 hla7 hlb7 hlh7
    have hT7 : TabsOk (tabs a) H7 := hT.same (s04.trans u13)
    have hordl : ∀ o ∈ ord, o < sh.length := fun o ho => List.mem_range.mp (hord.mem_iff.mp ho)
    have ordl : ord.length ≤ 24 := by rw [hord.length_eq, List.length_range]; exact sh24
    refine .inl ⟨lh, _, _, .ref la, rfl, rfl, SqL.of hlh7, atI_cons 0 rfl rfl, .inl ⟨lh, _, _, .ref lb, rfl, rfl, SqL.of hlh7, atI_cons 1 rfl rfl, ?_⟩⟩
    refine ⟨la, lb, xs, sh, ord, B, fun b => b ≠ la ∧ b ≠ lb, rfl, hla7, hF4.same u13, hlb7, hordl, ordl, hBB, hfr, hT7, (fun b hb => ⟨(fun z => by rw [z, hla7] at hb; cases hb), (fun z => by rw [z, hlb7] at hb; cases hb)⟩), fun H8 u t8 hT8 hn8 => ?_⟩
    refine ⟨two_le _ _, fun l9 fl9 => ?_⟩
    have u9 := Same.new (o := .lst [.ref ls, .ref lo]) fl9
    have hl9 := upd_same (H := H8) (a := l9) (o := .lst [.ref ls, .ref lo])
    have t9 := t8.trans u9.t
    have t49 := u13.t.trans t9
    have hn9 := hn8.t u9.t
    have hT9 := hT8.same u9
    generalize upd H8 l9 (.lst [.ref ls, .ref lo]) = H9 at u9 hl9 t9 t49 hn9 hT9
    have eo : (ord.map fun (o : Nat) => V.int (o : Int)) = (ord.map fun (o : Nat) => (o : Int)).map V.int := by rw [List.map_map]; rfl
    have hla9 := t9.at hla7
    have hlb9 := t9.at hlb7
    have hlh9 := t9.at hlh7
    refine ne_hand (fs := sh) (ns := ord.map fun (o : Nat) => (o : Int)) hlh9 hl9 hla9 (t49.at hls4) (paired_imp (fun f x (h : IsF K H4 f x) => h.t t49) hF4) (by rw [← eo]; exact hlb9) (by rw [← eo]; exact t49.at hlo4) ?_
    refine .inl ⟨lh, _, _, .ref la, rfl, rfl, SqL.of hlh9, atI_cons 0 rfl rfl, ⟨.inl ⟨rfl, _, SqL.of hla9⟩, ⟨la, _, rfl, rfl, hla9, ?_⟩⟩⟩
    have hn10 := hn9.put (zs := []) hla9 (fun b h => h.1)
    have hT10 : TabsOk (tabs a) (upd H9 la (.lst [])) := hT9.put (fun ps z => by rw [hla9] at z; cases z) (fun φ z => by rw [hla9] at z; cases z)
    have t410 : SameT H4 (upd H9 la (.lst [])) := t49.put fla
    have hlh10 : upd H9 la (.lst []) lh = some (.lst [.ref la, .ref lb]) := by rw [upd_ne nha]; exact hlh9
    have hlb10 : upd H9 la (.lst []) lb = some (.lst (ord.map fun (o : Nat) => V.int (o : Int))) := by rw [upd_ne (Ne.symm nab)]; exact hlb9
    refine .inl ⟨lh, _, _, .ref lb, rfl, rfl, SqL.of hlh10, atI_cons 1 rfl rfl, ⟨.inl ⟨rfl, _, SqL.of hlb10⟩, ⟨lb, _, rfl, rfl, hlb10, ?_⟩⟩⟩
    have hn11 := hn10.put (zs := []) hlb10 (fun b h => h.2)
    have hT11 : TabsOk (tabs a) (upd (upd H9 la (.lst [])) lb (.lst [])) := hT10.put (fun ps z => by rw [hlb10] at z; cases z) (fun φ z => by rw [hlb10] at z; cases z)
    have t411 : SameT H4 (upd (upd H9 la (.lst [])) lb (.lst [])) := t410.put flb4
    generalize upd (upd H9 la (.lst [])) lb (.lst []) = H11 at hn11 hT11 t411
    have hS := hSr
    refine ⟨u, lr, lk, rows, ys, kept, ks, rfl, ⟨_, hn11.w, hG⟩, t411.at hlr, RowsAt.t t411 hR, t411.at hlk, hS, by omega, hT11, fun H12 t12 hT12 => ?_⟩
    have t412 := t411.trans t12
    have hn12 := hn11.t t12
    have hlr12 := t412.at hlr
    have hR12 := RowsAt.t t412 hR
    refine .inl ⟨⟨_, SqL.of hlr12⟩, fun D hD => ?_⟩
    refine comp_list (K := K) (a := lr) (xs := ys) (fun i zs H' => Same H12 H' ∧ H' D = some (.lst zs) ∧ i ≤ rows.length ∧ zs = ((rows.map fun r => r.2.2).map V.int).take i) ⟨Same.new hD, upd_same, Nat.zero_le _, rfl⟩ (fun i zs H' h => SqL.of (h.1 _ _ hlr12)) (fun i zs H' h => h.2.1) ?_ ?_
    · rintro i y zs H' P' hy ⟨s13, hD13, hi, rfl⟩ hP'
      obtain ⟨⟨k, n, t⟩, hri, pr, lsz, rfl, hpr, hlsz⟩ := hR12.get hy
      have ilt : i < rows.length := (List.getElem?_eq_some_iff.mp hri).1
      refine ⟨pr, _, rfl, SqT.of (s13 _ _ hpr), rfl, _, _, rfl, _, _, rfl, rfl, trivial, hD13, ?_, hP' _ _ ⟨s13.put hD, upd_same, ilt, ?_⟩⟩
      · rw [List.length_take]; omega
      · rw [List.take_add_one, List.getElem?_map, List.getElem?_map, hri]; rfl
    · rintro zs H13 ⟨s13, hD13, _, rfl⟩
      rw [← hR12.len, List.take_of_length_le (by rw [List.length_map, List.length_map]; exact Nat.le_refl _)] at hD13
      have t413 := t412.trans s13.t
      refine ⟨ls, lo, xs, sh, ord, B, fun _ => True, rfl, t413.at hls4, paired_imp (fun f x (h : IsF K H4 f x) => h.t t413) hF4, t413.at hlo4, hordl, ordl, hBB, hfr, hT12.same s13, (fun _ _ => trivial), fun H14 u2 t14 hT14 hn14 => ?_⟩
      refine ⟨u2, D, rows, kept, rfl, ⟨_, hn14.w, hG⟩, t14.at hD13, hT14, fun H15 t15 ns t15' hT15 hns hsr => ?_⟩
      have : ns = ks := srt_uniq hsr hSr
      subst this
      have t1215 := (s13.t.trans t14).trans t15'
      have t415 := t412.trans t1215
      refine eq_tups hns (t415.at hlk) ?_
      exact ⟨u, lr, lk, rows, ys, kept, ns, rfl, ⟨_, (hn12.t t1215).w, hG⟩, t415.at hlr, RowsAt.t t415 hR, t415.at hlk, hSr, by omega, hT15, fun H16 t16 hT16 => q _⟩
end
end My

set_option Elab.async false
set_option linter.all false
set_option maxRecDepth 100000
set_option maxHeartbeats 4000000
namespace My
open PySem L2
theorem us1 {α : Type} : ∀ {us : List α}, us.length = 1 → ∃ a0, us = [a0]
  | [_], _ => ⟨_, rfl⟩
theorem us2 {α : Type} : ∀ {us : List α}, us.length = 2 → ∃ a0 a1, us = [a0, a1]
  | [_, _], _ => ⟨_, _, rfl⟩
theorem us3 {α : Type} : ∀ {us : List α}, us.length = 3 → ∃ a0 a1 a2, us = [a0, a1, a2]
  | [_, _, _], _ => ⟨_, _, _, rfl⟩
theorem us4 {α : Type} : ∀ {us : List α}, us.length = 4 → ∃ a0 a1 a2 a3, us = [a0, a1, a2, a3]
  | [_, _, _, _], _ => ⟨_, _, _, _, rfl⟩
theorem txt_mk {K : PySem.W.Frag} {h : Heap} {mg : Str → Option Value} {f0 : Addr} {od0 an0 : Option Addr} {sl0 : Array (Option Value)} {oc0 kV0 dc0 pm0 cd0 ct0 : Value} {f1 : Addr} {od1 an1 : Option Addr} {sl1 : Array (Option Value)} {oc1 kV1 dc1 pm1 cd1 ct1 : Value} {f2 : Addr} {od2 an2 : Option Addr} {sl2 : Array (Option Value)} {oc2 kV2 dc2 pm2 cd2 ct2 : Value} {f3 : Addr} {od3 an3 : Option Addr} {sl3 : Array (Option Value)} {oc3 kV3 dc3 pm3 cd3 ct3 : Value} {f4 : Addr} {od4 an4 : Option Addr} {sl4 : Array (Option Value)} {oc4 kV4 dc4 pm4 cd4 ct4 : Value} {f5 : Addr} {od5 an5 : Option Addr} {sl5 : Array (Option Value)} {oc5 kV5 dc5 pm5 cd5 ct5 : Value} {f6 : Addr} {od6 an6 : Option Addr} {sl6 : Array (Option Value)} {oc6 kV6 dc6 pm6 cd6 ct6 : Value} {f7 : Addr} {od7 an7 : Option Addr} {sl7 : Array (Option Value)} {oc7 kV7 dc7 pm7 cd7 ct7 : Value} {f8 : Addr} {od8 an8 : Option Addr} {sl8 : Array (Option Value)} {oc8 kV8 dc8 pm8 cd8 ct8 : Value} {f9 : Addr} {od9 an9 : Option Addr} {sl9 : Array (Option Value)} {oc9 kV9 dc9 pm9 cd9 ct9 : Value} {f10 : Addr} {od10 an10 : Option Addr} {sl10 : Array (Option Value)} {oc10 kV10 dc10 pm10 cd10 ct10 : Value} {f11 : Addr} {od11 an11 : Option Addr} {sl11 : Array (Option Value)} {oc11 kV11 dc11 pm11 cd11 ct11 : Value} {f12 : Addr} {od12 an12 : Option Addr} {sl12 : Array (Option Value)} {oc12 kV12 dc12 pm12 cd12 ct12 : Value} {f13 : Addr} {od13 an13 : Option Addr} {sl13 : Array (Option Value)} {oc13 kV13 dc13 pm13 cd13 ct13 : Value} {f14 : Addr} {od14 an14 : Option Addr} {sl14 : Array (Option Value)} {oc14 kV14 dc14 pm14 cd14 ct14 : Value} {f15 : Addr} {od15 an15 : Option Addr} {sl15 : Array (Option Value)} {oc15 kV15 dc15 pm15 cd15 ct15 : Value} {f16 : Addr} {od16 an16 : Option Addr} {sl16 : Array (Option Value)} {oc16 kV16 dc16 pm16 cd16 ct16 : Value} {f17 : Addr} {od17 an17 : Option Addr} {sl17 : Array (Option Value)} {oc17 kV17 dc17 pm17 cd17 ct17 : Value} {f18 : Addr} {od18 an18 : Option Addr} {sl18 : Array (Option Value)} {oc18 kV18 dc18 pm18 cd18 ct18 : Value} {f19 : Addr} {od19 an19 : Option Addr} {sl19 : Array (Option Value)} {oc19 kV19 dc19 pm19 cd19 ct19 : Value} {f20 : Addr} {od20 an20 : Option Addr} {sl20 : Array (Option Value)} {oc20 kV20 dc20 pm20 cd20 ct20 : Value} {f21 : Addr} {od21 an21 : Option Addr} {sl21 : Array (Option Value)} {oc21 kV21 dc21 pm21 cd21 ct21 : Value} {f22 : Addr} {od22 an22 : Option Addr} {sl22 : Array (Option Value)} {oc22 kV22 dc22 pm22 cd22 ct22 : Value} {f23 : Addr} {od23 an23 : Option Addr} {sl23 : Array (Option Value)} {oc23 kV23 dc23 pm23 cd23 ct23 : Value} {k_NOUGHT : Addr} {k_WHOLE : Addr} {c_SpeakError : Addr} {c_NoThrow : Addr} {i_NoThrow : Addr} {od_NoThrow an_NoThrow : Option Addr} {sl_NoThrow : Array (Option Value)} {oc_NoThrow kV_NoThrow dc_NoThrow pm_NoThrow cd_NoThrow ct_NoThrow : Value} {c_Node : Addr} {c_Told : Addr} {i_Told : Addr} {od_Told an_Told : Option Addr} {sl_Told : Array (Option Value)} {oc_Told kV_Told dc_Told pm_Told cd_Told ct_Told : Value} {c_Die : Addr} {i_Die : Addr} {od_Die an_Die : Option Addr} {sl_Die : Array (Option Value)} {oc_Die kV_Die dc_Die pm_Die cd_Die ct_Die : Value} {x_Told_is_told : Addr} {od_Told_is_told an_Told_is_told : Option Addr} {sl_Told_is_told : Array (Option Value)} {oc_Told_is_told kV_Told_is_told dc_Told_is_told pm_Told_is_told cd_Told_is_told ct_Told_is_told : Value} {x_Die_is_told : Addr} {od_Die_is_told an_Die_is_told : Option Addr} {sl_Die_is_told : Array (Option Value)} {oc_Die_is_told kV_Die_is_told dc_Die_is_told pm_Die_is_told cd_Die_is_told ct_Die_is_told : Value} {x_Told_kept : Addr} {od_Told_kept an_Told_kept : Option Addr} {sl_Told_kept : Array (Option Value)} {oc_Told_kept kV_Told_kept dc_Told_kept pm_Told_kept cd_Told_kept ct_Told_kept : Value} {x_Die_kept : Addr} {od_Die_kept an_Die_kept : Option Addr} {sl_Die_kept : Array (Option Value)} {oc_Die_kept kV_Die_kept dc_Die_kept pm_Die_kept cd_Die_kept ct_Die_kept : Value} {x_Told_sides : Addr} {od_Told_sides an_Told_sides : Option Addr} {sl_Told_sides : Array (Option Value)} {oc_Told_sides kV_Told_sides dc_Told_sides pm_Told_sides cd_Told_sides ct_Told_sides : Value} {x_Die_sides : Addr} {od_Die_sides an_Die_sides : Option Addr} {sl_Die_sides : Array (Option Value)} {oc_Die_sides kV_Die_sides dc_Die_sides pm_Die_sides cd_Die_sides ct_Die_sides : Value} {x_Told_parts : Addr} {od_Told_parts an_Told_parts : Option Addr} {sl_Told_parts : Array (Option Value)} {oc_Told_parts kV_Told_parts dc_Told_parts pm_Told_parts cd_Told_parts ct_Told_parts : Value} {x_Die_parts : Addr} {od_Die_parts an_Die_parts : Option Addr} {sl_Die_parts : Array (Option Value)} {oc_Die_parts kV_Die_parts dc_Die_parts pm_Die_parts cd_Die_parts ct_Die_parts : Value} {x_Die_after : Addr} {od_Die_after an_Die_after : Option Addr} {sl_Die_after : Array (Option Value)} {oc_Die_after kV_Die_after dc_Die_after pm_Die_after cd_Die_after ct_Die_after : Value} {lc_last_die lp_last_die : Addr} {lo_last_die : Value} {lod_last_die : Option Addr} {lvs_last_die : Array Value} {lsl_last_die : Array (Option Value)} {lc_settled_make lp_settled_make : Addr} {lo_settled_make : Value} {lod_settled_make : Option Addr} {lvs_settled_make : Array Value} {lsl_settled_make : Array (Option Value)} (X : K.In h) (G : h.Ns mainGlobals mg)
    (a0 : PySem.W.nsIn K mainGlobals "greatest_divisor" = some (some (.ref f0))) (l0 : K.lookup f0 = some ⟨oc0, od0, .func (PySem.W.fnOf "greatest_divisor" "greatest_divisor" (defArgs s_greatest_divisor) (defBody s_greatest_divisor) (defScope s_greatest_divisor) .none kV0 dc0 pm0 an0 cd0 ct0), sl0⟩) (c0 : PySem.W.codeIn K cd0 "greatest_divisor" = true) (k0 : PySem.W.keepIn K (.ref f0) = true)
    (a1 : PySem.W.nsIn K mainGlobals "least_multiple" = some (some (.ref f1))) (l1 : K.lookup f1 = some ⟨oc1, od1, .func (PySem.W.fnOf "least_multiple" "least_multiple" (defArgs s_least_multiple) (defBody s_least_multiple) (defScope s_least_multiple) .none kV1 dc1 pm1 an1 cd1 ct1), sl1⟩) (c1 : PySem.W.codeIn K cd1 "least_multiple" = true) (k1 : PySem.W.keepIn K (.ref f1) = true)
    (a2 : PySem.W.nsIn K mainGlobals "share" = some (some (.ref f2))) (l2 : K.lookup f2 = some ⟨oc2, od2, .func (PySem.W.fnOf "share" "share" (defArgs s_share) (defBody s_share) (defScope s_share) .none kV2 dc2 pm2 an2 cd2 ct2), sl2⟩) (c2 : PySem.W.codeIn K cd2 "share" = true) (k2 : PySem.W.keepIn K (.ref f2) = true)
    (a3 : PySem.W.nsIn K mainGlobals "is_whole" = some (some (.ref f3))) (l3 : K.lookup f3 = some ⟨oc3, od3, .func (PySem.W.fnOf "is_whole" "is_whole" (defArgs s_is_whole) (defBody s_is_whole) (defScope s_is_whole) .none kV3 dc3 pm3 an3 cd3 ct3), sl3⟩) (c3 : PySem.W.codeIn K cd3 "is_whole" = true) (k3 : PySem.W.keepIn K (.ref f3) = true)
    (a4 : PySem.W.nsIn K mainGlobals "can_be_thrown" = some (some (.ref f4))) (l4 : K.lookup f4 = some ⟨oc4, od4, .func (PySem.W.fnOf "can_be_thrown" "can_be_thrown" (defArgs s_can_be_thrown) (defBody s_can_be_thrown) (defScope s_can_be_thrown) .none kV4 dc4 pm4 an4 cd4 ct4), sl4⟩) (c4 : PySem.W.codeIn K cd4 "can_be_thrown" = true) (k4 : PySem.W.keepIn K (.ref f4) = true)
    (a5 : PySem.W.nsIn K mainGlobals "drawn" = some (some (.ref f5))) (l5 : K.lookup f5 = some ⟨oc5, od5, .func (PySem.W.fnOf "drawn" "drawn" (defArgs s_drawn) (defBody s_drawn) (defScope s_drawn) .none kV5 dc5 pm5 an5 cd5 ct5), sl5⟩) (c5 : PySem.W.codeIn K cd5 "drawn" = true) (k5 : PySem.W.keepIn K (.ref f5) = true)
    (a6 : PySem.W.nsIn K mainGlobals "is_unsure" = some (some (.ref f6))) (l6 : K.lookup f6 = some ⟨oc6, od6, .func (PySem.W.fnOf "is_unsure" "is_unsure" (defArgs s_is_unsure) (defBody s_is_unsure) (defScope s_is_unsure) .none kV6 dc6 pm6 an6 cd6 ct6), sl6⟩) (c6 : PySem.W.codeIn K cd6 "is_unsure" = true) (k6 : PySem.W.keepIn K (.ref f6) = true)
    (a7 : PySem.W.nsIn K mainGlobals "duels" = some (some (.ref f7))) (l7 : K.lookup f7 = some ⟨oc7, od7, .func (PySem.W.fnOf "duels" "duels" (defArgs s_duels) (defBody s_duels) (defScope s_duels) .none kV7 dc7 pm7 an7 cd7 ct7), sl7⟩) (c7 : PySem.W.codeIn K cd7 "duels" = true) (k7 : PySem.W.keepIn K (.ref f7) = true)
    (a8 : PySem.W.nsIn K mainGlobals "settled" = some (some (.ref f8))) (l8 : K.lookup f8 = some ⟨oc8, od8, .func (PySem.W.fnOf "settled" "settled" (defArgs s_settled) (defBody s_settled) (defScope s_settled) .none kV8 dc8 pm8 an8 cd8 ct8), sl8⟩) (c8 : PySem.W.codeIn K cd8 "settled" = true) (k8 : PySem.W.keepIn K (.ref f8) = true)
    (a9 : PySem.W.nsIn K mainGlobals "open_node" = some (some (.ref f9))) (l9 : K.lookup f9 = some ⟨oc9, od9, .func (PySem.W.fnOf "open_node" "open_node" (defArgs s_open_node) (defBody s_open_node) (defScope s_open_node) .none kV9 dc9 pm9 an9 cd9 ct9), sl9⟩) (c9 : PySem.W.codeIn K cd9 "open_node" = true) (k9 : PySem.W.keepIn K (.ref f9) = true)
    (a10 : PySem.W.nsIn K mainGlobals "settled_make" = some (some (.ref f10))) (l10 : K.lookup f10 = some ⟨oc10, od10, .func (PySem.W.fnOf "settled_make" "settled_make" (defArgs s_settled_make) (defBody s_settled_make) (defScope s_settled_make) .none kV10 dc10 pm10 an10 cd10 ct10), sl10⟩) (c10 : PySem.W.codeIn K cd10 "settled_make" = true) (k10 : PySem.W.keepIn K (.ref f10) = true)
    (a11 : PySem.W.nsIn K mainGlobals "last_die" = some (some (.ref f11))) (l11 : K.lookup f11 = some ⟨oc11, od11, .func (PySem.W.fnOf "last_die" "last_die" (defArgs s_last_die) (defBody s_last_die) (defScope s_last_die) .none kV11 dc11 pm11 an11 cd11 ct11), sl11⟩) (c11 : PySem.W.codeIn K cd11 "last_die" = true) (k11 : PySem.W.keepIn K (.ref f11) = true)
    (a12 : PySem.W.nsIn K mainGlobals "duel_parts" = some (some (.ref f12))) (l12 : K.lookup f12 = some ⟨oc12, od12, .func (PySem.W.fnOf "duel_parts" "duel_parts" (defArgs s_duel_parts) (defBody s_duel_parts) (defScope s_duel_parts) .none kV12 dc12 pm12 an12 cd12 ct12), sl12⟩) (c12 : PySem.W.codeIn K cd12 "duel_parts" = true) (k12 : PySem.W.keepIn K (.ref f12) = true)
    (a13 : PySem.W.nsIn K mainGlobals "_law_cell" = some (some (.ref f13))) (l13 : K.lookup f13 = some ⟨oc13, od13, .func (PySem.W.fnOf "_law_cell" "_law_cell" (defArgs s_L_cell) (defBody s_L_cell) (defScope s_L_cell) .none kV13 dc13 pm13 an13 cd13 ct13), sl13⟩) (c13 : PySem.W.codeIn K cd13 "_law_cell" = true) (k13 : PySem.W.keepIn K (.ref f13) = true)
    (a14 : PySem.W.nsIn K mainGlobals "_law_mix" = some (some (.ref f14))) (l14 : K.lookup f14 = some ⟨oc14, od14, .func (PySem.W.fnOf "_law_mix" "_law_mix" (defArgs s_L_mix) (defBody s_L_mix) (defScope s_L_mix) .none kV14 dc14 pm14 an14 cd14 ct14), sl14⟩) (c14 : PySem.W.codeIn K cd14 "_law_mix" = true) (k14 : PySem.W.keepIn K (.ref f14) = true)
    (a15 : PySem.W.nsIn K mainGlobals "_law_row" = some (some (.ref f15))) (l15 : K.lookup f15 = some ⟨oc15, od15, .func (PySem.W.fnOf "_law_row" "_law_row" (defArgs s_L_row) (defBody s_L_row) (defScope s_L_row) .none kV15 dc15 pm15 an15 cd15 ct15), sl15⟩) (c15 : PySem.W.codeIn K cd15 "_law_row" = true) (k15 : PySem.W.keepIn K (.ref f15) = true)
    (a16 : PySem.W.nsIn K mainGlobals "_law_low" = some (some (.ref f16))) (l16 : K.lookup f16 = some ⟨oc16, od16, .func (PySem.W.fnOf "_law_low" "_law_low" (defArgs s_L_low) (defBody s_L_low) (defScope s_L_low) .none kV16 dc16 pm16 an16 cd16 ct16), sl16⟩) (c16 : PySem.W.codeIn K cd16 "_law_low" = true) (k16 : PySem.W.keepIn K (.ref f16) = true)
    (a17 : PySem.W.nsIn K mainGlobals "_law_common" = some (some (.ref f17))) (l17 : K.lookup f17 = some ⟨oc17, od17, .func (PySem.W.fnOf "_law_common" "_law_common" (defArgs s_L_common) (defBody s_L_common) (defScope s_L_common) .none kV17 dc17 pm17 an17 cd17 ct17), sl17⟩) (c17 : PySem.W.codeIn K cd17 "_law_common" = true) (k17 : PySem.W.keepIn K (.ref f17) = true)
    (a18 : PySem.W.nsIn K mainGlobals "_law_shares" = some (some (.ref f18))) (l18 : K.lookup f18 = some ⟨oc18, od18, .func (PySem.W.fnOf "_law_shares" "_law_shares" (defArgs s_L_shares) (defBody s_L_shares) (defScope s_L_shares) .none kV18 dc18 pm18 an18 cd18 ct18), sl18⟩) (c18 : PySem.W.codeIn K cd18 "_law_shares" = true) (k18 : PySem.W.keepIn K (.ref f18) = true)
    (a19 : PySem.W.nsIn K mainGlobals "_law_order" = some (some (.ref f19))) (l19 : K.lookup f19 = some ⟨oc19, od19, .func (PySem.W.fnOf "_law_order" "_law_order" (defArgs s_L_order) (defBody s_L_order) (defScope s_L_order) .none kV19 dc19 pm19 an19 cd19 ct19), sl19⟩) (c19 : PySem.W.codeIn K cd19 "_law_order" = true) (k19 : PySem.W.keepIn K (.ref f19) = true)
    (a20 : PySem.W.nsIn K mainGlobals "_law_duel" = some (some (.ref f20))) (l20 : K.lookup f20 = some ⟨oc20, od20, .func (PySem.W.fnOf "_law_duel" "_law_duel" (defArgs s_L_duel) (defBody s_L_duel) (defScope s_L_duel) .none kV20 dc20 pm20 an20 cd20 ct20), sl20⟩) (c20 : PySem.W.codeIn K cd20 "_law_duel" = true) (k20 : PySem.W.keepIn K (.ref f20) = true)
    (a21 : PySem.W.nsIn K mainGlobals "_law_walk" = some (some (.ref f21))) (l21 : K.lookup f21 = some ⟨oc21, od21, .func (PySem.W.fnOf "_law_walk" "_law_walk" (defArgs s_L_walk) (defBody s_L_walk) (defScope s_L_walk) .none kV21 dc21 pm21 an21 cd21 ct21), sl21⟩) (c21 : PySem.W.codeIn K cd21 "_law_walk" = true) (k21 : PySem.W.keepIn K (.ref f21) = true)
    (a22 : PySem.W.nsIn K mainGlobals "_law_thrown" = some (some (.ref f22))) (l22 : K.lookup f22 = some ⟨oc22, od22, .func (PySem.W.fnOf "_law_thrown" "_law_thrown" (defArgs s_L_thrown) (defBody s_L_thrown) (defScope s_L_thrown) .none kV22 dc22 pm22 an22 cd22 ct22), sl22⟩) (c22 : PySem.W.codeIn K cd22 "_law_thrown" = true) (k22 : PySem.W.keepIn K (.ref f22) = true)
    (a23 : PySem.W.nsIn K mainGlobals "law" = some (some (.ref f23))) (l23 : K.lookup f23 = some ⟨oc23, od23, .func (PySem.W.fnOf "law" "law" (defArgs s_law) (defBody s_law) (defScope s_law) .none kV23 dc23 pm23 an23 cd23 ct23), sl23⟩) (c23 : PySem.W.codeIn K cd23 "law" = true) (k23 : PySem.W.keepIn K (.ref f23) = true)
    (b_NOUGHT : PySem.W.nsIn K mainGlobals "NOUGHT" = some (some (.ref k_NOUGHT))) (bt_NOUGHT : tupIn K k_NOUGHT [(.int 0), (.int 1)] = true)
    (b_WHOLE : PySem.W.nsIn K mainGlobals "WHOLE" = some (some (.ref k_WHOLE))) (bt_WHOLE : tupIn K k_WHOLE [(.int 1), (.int 1)] = true)
    (ca_SpeakError : PySem.W.nsIn K mainGlobals "SpeakError" = some (some (.ref c_SpeakError))) (cb_SpeakError : PySem.W.keepIn K (.ref c_SpeakError) = true) (cc_SpeakError : xcIn K c_SpeakError = true)
    (cx_SpeakError : xIn K c_SpeakError none = true)
    (ca_NoThrow : PySem.W.nsIn K mainGlobals "NoThrow" = some (some (.ref c_NoThrow))) (cb_NoThrow : PySem.W.keepIn K (.ref c_NoThrow) = true) (cc_NoThrow : xcIn K c_NoThrow = true)
    (cf_NoThrow : PySem.W.findIn K (.ref c_NoThrow) "__init__" = some (some (.ref i_NoThrow))) (cx_NoThrow : xIn K c_NoThrow (some (.ref i_NoThrow)) = true) (cg_NoThrow : PySem.W.isFn K (.ref i_NoThrow) = true)
    (cl_NoThrow : K.lookup i_NoThrow = some ⟨oc_NoThrow, od_NoThrow, .func (PySem.W.fnOf "__init__" "NoThrow.__init__" (defArgs s_NoThrow___init__) (defBody s_NoThrow___init__) (defScope s_NoThrow___init__) .none kV_NoThrow dc_NoThrow pm_NoThrow an_NoThrow cd_NoThrow ct_NoThrow), sl_NoThrow⟩) (co_NoThrow : PySem.W.codeIn K cd_NoThrow "NoThrow.__init__" = true) (ck_NoThrow : PySem.W.keepIn K (.ref i_NoThrow) = true)
    (cs_NoThrow_place : xsIn K c_NoThrow "place" = true)
    (ca_Node : PySem.W.nsIn K mainGlobals "Node" = some (some (.ref c_Node))) (pa_Node : PySem.W.plainGet K c_Node Str.empty = true) (pb_Node : PySem.W.hasDictIn K c_Node = true) (pc_Node : PySem.W.plainOver K c_Node = true)
    (pd_Node : PySem.W.findIn K (.ref c_Node) "__setattr__" = some (some (.builtin "object.__setattr__"))) (pe_Node : PySem.W.findIn K (.ref c_Node) "__class__" = some (some (.builtin "object.__class__"))) (pf_Node : PySem.W.specialIn K (.builtin "object.__class__") "__get__" = some (some (.builtin "getset_descriptor.__get__"))) (pg_Node : PySem.W.takesIn K (.builtin "object.__class__") = some true) (ph_Node : PySem.W.mroIn K c_Node (.type "object") = some true)
    (ca_Told : PySem.W.nsIn K mainGlobals "Told" = some (some (.ref c_Told))) (pa_Told : PySem.W.plainGet K c_Told Str.empty = true) (pb_Told : PySem.W.hasDictIn K c_Told = true) (pc_Told : PySem.W.plainOver K c_Told = true)
    (pd_Told : PySem.W.findIn K (.ref c_Told) "__setattr__" = some (some (.builtin "object.__setattr__"))) (pe_Told : PySem.W.findIn K (.ref c_Told) "__class__" = some (some (.builtin "object.__class__"))) (pf_Told : PySem.W.specialIn K (.builtin "object.__class__") "__get__" = some (some (.builtin "getset_descriptor.__get__"))) (pg_Told : PySem.W.takesIn K (.builtin "object.__class__") = some true) (ph_Told : PySem.W.mroIn K c_Told (.type "object") = some true)
    (qa_Told : PySem.W.makesIn K c_Told = true) (qb_Told : PySem.W.findIn K (.ref c_Told) "__init__" = some (some (.ref i_Told))) (qc_Told : PySem.W.isFn K (.ref i_Told) = true) (qd_Told : PySem.W.keepIn K (.ref c_Told) = true)
    (qn_Told_rising : PySem.W.findIn K (.ref c_Told) "rising" = some none)
    (cl_Told : K.lookup i_Told = some ⟨oc_Told, od_Told, .func (PySem.W.fnOf "__init__" "Told.__init__" (defArgs s_Told___init__) (defBody s_Told___init__) (defScope s_Told___init__) .none kV_Told dc_Told pm_Told an_Told cd_Told ct_Told), sl_Told⟩) (co_Told : PySem.W.codeIn K cd_Told "Told.__init__" = true) (ck_Told : PySem.W.keepIn K (.ref i_Told) = true)
    (ca_Die : PySem.W.nsIn K mainGlobals "Die" = some (some (.ref c_Die))) (pa_Die : PySem.W.plainGet K c_Die Str.empty = true) (pb_Die : PySem.W.hasDictIn K c_Die = true) (pc_Die : PySem.W.plainOver K c_Die = true)
    (pd_Die : PySem.W.findIn K (.ref c_Die) "__setattr__" = some (some (.builtin "object.__setattr__"))) (pe_Die : PySem.W.findIn K (.ref c_Die) "__class__" = some (some (.builtin "object.__class__"))) (pf_Die : PySem.W.specialIn K (.builtin "object.__class__") "__get__" = some (some (.builtin "getset_descriptor.__get__"))) (pg_Die : PySem.W.takesIn K (.builtin "object.__class__") = some true) (ph_Die : PySem.W.mroIn K c_Die (.type "object") = some true)
    (qa_Die : PySem.W.makesIn K c_Die = true) (qb_Die : PySem.W.findIn K (.ref c_Die) "__init__" = some (some (.ref i_Die))) (qc_Die : PySem.W.isFn K (.ref i_Die) = true) (qd_Die : PySem.W.keepIn K (.ref c_Die) = true)
    (qn_Die_makes : PySem.W.findIn K (.ref c_Die) "makes" = some none)
    (cl_Die : K.lookup i_Die = some ⟨oc_Die, od_Die, .func (PySem.W.fnOf "__init__" "Die.__init__" (defArgs s_Die___init__) (defBody s_Die___init__) (defScope s_Die___init__) .none kV_Die dc_Die pm_Die an_Die cd_Die ct_Die), sl_Die⟩) (co_Die : PySem.W.codeIn K cd_Die "Die.__init__" = true) (ck_Die : PySem.W.keepIn K (.ref i_Die) = true)
    (mf_Told_is_told : PySem.W.findIn K (.ref c_Told) "is_told" = some (some (.ref x_Told_is_told)))
    (ml_Told_is_told : K.lookup x_Told_is_told = some ⟨oc_Told_is_told, od_Told_is_told, .func (PySem.W.fnOf "is_told" "Told.is_told" (defArgs s_Told_is_told) (defBody s_Told_is_told) (defScope s_Told_is_told) .none kV_Told_is_told dc_Told_is_told pm_Told_is_told an_Told_is_told cd_Told_is_told ct_Told_is_told), sl_Told_is_told⟩) (mo_Told_is_told : PySem.W.codeIn K cd_Told_is_told "Told.is_told" = true) (mk_Told_is_told : PySem.W.keepIn K (.ref x_Told_is_told) = true) (mi_Told_is_told : PySem.W.isFn K (.ref x_Told_is_told) = true)
    (mf_Die_is_told : PySem.W.findIn K (.ref c_Die) "is_told" = some (some (.ref x_Die_is_told)))
    (ml_Die_is_told : K.lookup x_Die_is_told = some ⟨oc_Die_is_told, od_Die_is_told, .func (PySem.W.fnOf "is_told" "Die.is_told" (defArgs s_Die_is_told) (defBody s_Die_is_told) (defScope s_Die_is_told) .none kV_Die_is_told dc_Die_is_told pm_Die_is_told an_Die_is_told cd_Die_is_told ct_Die_is_told), sl_Die_is_told⟩) (mo_Die_is_told : PySem.W.codeIn K cd_Die_is_told "Die.is_told" = true) (mk_Die_is_told : PySem.W.keepIn K (.ref x_Die_is_told) = true) (mi_Die_is_told : PySem.W.isFn K (.ref x_Die_is_told) = true)
    (mf_Told_kept : PySem.W.findIn K (.ref c_Told) "kept" = some (some (.ref x_Told_kept)))
    (ml_Told_kept : K.lookup x_Told_kept = some ⟨oc_Told_kept, od_Told_kept, .func (PySem.W.fnOf "kept" "Told.kept" (defArgs s_Told_kept) (defBody s_Told_kept) (defScope s_Told_kept) .none kV_Told_kept dc_Told_kept pm_Told_kept an_Told_kept cd_Told_kept ct_Told_kept), sl_Told_kept⟩) (mo_Told_kept : PySem.W.codeIn K cd_Told_kept "Told.kept" = true) (mk_Told_kept : PySem.W.keepIn K (.ref x_Told_kept) = true) (mi_Told_kept : PySem.W.isFn K (.ref x_Told_kept) = true)
    (mf_Die_kept : PySem.W.findIn K (.ref c_Die) "kept" = some (some (.ref x_Die_kept)))
    (ml_Die_kept : K.lookup x_Die_kept = some ⟨oc_Die_kept, od_Die_kept, .func (PySem.W.fnOf "kept" "Die.kept" (defArgs s_Die_kept) (defBody s_Die_kept) (defScope s_Die_kept) .none kV_Die_kept dc_Die_kept pm_Die_kept an_Die_kept cd_Die_kept ct_Die_kept), sl_Die_kept⟩) (mo_Die_kept : PySem.W.codeIn K cd_Die_kept "Die.kept" = true) (mk_Die_kept : PySem.W.keepIn K (.ref x_Die_kept) = true) (mi_Die_kept : PySem.W.isFn K (.ref x_Die_kept) = true)
    (mf_Told_sides : PySem.W.findIn K (.ref c_Told) "sides" = some (some (.ref x_Told_sides)))
    (ml_Told_sides : K.lookup x_Told_sides = some ⟨oc_Told_sides, od_Told_sides, .func (PySem.W.fnOf "sides" "Told.sides" (defArgs s_Told_sides) (defBody s_Told_sides) (defScope s_Told_sides) .none kV_Told_sides dc_Told_sides pm_Told_sides an_Told_sides cd_Told_sides ct_Told_sides), sl_Told_sides⟩) (mo_Told_sides : PySem.W.codeIn K cd_Told_sides "Told.sides" = true) (mk_Told_sides : PySem.W.keepIn K (.ref x_Told_sides) = true) (mi_Told_sides : PySem.W.isFn K (.ref x_Told_sides) = true)
    (mf_Die_sides : PySem.W.findIn K (.ref c_Die) "sides" = some (some (.ref x_Die_sides)))
    (ml_Die_sides : K.lookup x_Die_sides = some ⟨oc_Die_sides, od_Die_sides, .func (PySem.W.fnOf "sides" "Die.sides" (defArgs s_Die_sides) (defBody s_Die_sides) (defScope s_Die_sides) .none kV_Die_sides dc_Die_sides pm_Die_sides an_Die_sides cd_Die_sides ct_Die_sides), sl_Die_sides⟩) (mo_Die_sides : PySem.W.codeIn K cd_Die_sides "Die.sides" = true) (mk_Die_sides : PySem.W.keepIn K (.ref x_Die_sides) = true) (mi_Die_sides : PySem.W.isFn K (.ref x_Die_sides) = true)
    (mf_Told_parts : PySem.W.findIn K (.ref c_Told) "parts" = some (some (.ref x_Told_parts)))
    (ml_Told_parts : K.lookup x_Told_parts = some ⟨oc_Told_parts, od_Told_parts, .func (PySem.W.fnOf "parts" "Told.parts" (defArgs s_Told_parts) (defBody s_Told_parts) (defScope s_Told_parts) .none kV_Told_parts dc_Told_parts pm_Told_parts an_Told_parts cd_Told_parts ct_Told_parts), sl_Told_parts⟩) (mo_Told_parts : PySem.W.codeIn K cd_Told_parts "Told.parts" = true) (mk_Told_parts : PySem.W.keepIn K (.ref x_Told_parts) = true) (mi_Told_parts : PySem.W.isFn K (.ref x_Told_parts) = true)
    (mf_Die_parts : PySem.W.findIn K (.ref c_Die) "parts" = some (some (.ref x_Die_parts)))
    (ml_Die_parts : K.lookup x_Die_parts = some ⟨oc_Die_parts, od_Die_parts, .func (PySem.W.fnOf "parts" "Die.parts" (defArgs s_Die_parts) (defBody s_Die_parts) (defScope s_Die_parts) .none kV_Die_parts dc_Die_parts pm_Die_parts an_Die_parts cd_Die_parts ct_Die_parts), sl_Die_parts⟩) (mo_Die_parts : PySem.W.codeIn K cd_Die_parts "Die.parts" = true) (mk_Die_parts : PySem.W.keepIn K (.ref x_Die_parts) = true) (mi_Die_parts : PySem.W.isFn K (.ref x_Die_parts) = true)
    (mf_Die_after : PySem.W.findIn K (.ref c_Die) "after" = some (some (.ref x_Die_after)))
    (ml_Die_after : K.lookup x_Die_after = some ⟨oc_Die_after, od_Die_after, .func (PySem.W.fnOf "after" "Die.after" (defArgs s_Die_after) (defBody s_Die_after) (defScope s_Die_after) .none kV_Die_after dc_Die_after pm_Die_after an_Die_after cd_Die_after ct_Die_after), sl_Die_after⟩) (mo_Die_after : PySem.W.codeIn K cd_Die_after "Die.after" = true) (mk_Die_after : PySem.W.keepIn K (.ref x_Die_after) = true) (mi_Die_after : PySem.W.isFn K (.ref x_Die_after) = true)
    (lca_last_die : cd11 = .ref lc_last_die) (lct_last_die : K.lookup lc_last_die = some ⟨lo_last_die, lod_last_die, .fields lvs_last_die, lsl_last_die⟩) (lcq_last_die : lvs_last_die[11]? = some (.ref lp_last_die)) (lch_last_die : PySem.W.codeHdIn K lc_last_die lp_last_die = true)
    (lca_settled_make : cd10 = .ref lc_settled_make) (lct_settled_make : K.lookup lc_settled_make = some ⟨lo_settled_make, lod_settled_make, .fields lvs_settled_make, lsl_settled_make⟩) (lcq_settled_make : lvs_settled_make[11]? = some (.ref lp_settled_make)) (lch_settled_make : PySem.W.codeHdIn K lc_settled_make lp_settled_make = true)
    (ltnd : ([lp_last_die, lp_settled_make] : List Addr).Nodup)
    (z0 : PySem.W.nsIn K mainGlobals "abs" = some none)
    (z1 : PySem.W.nsIn K mainGlobals "bool" = some none)
    (z2 : PySem.W.nsIn K mainGlobals "enumerate" = some none)
    (z3 : PySem.W.nsIn K mainGlobals "int" = some none)
    (z4 : PySem.W.nsIn K mainGlobals "isinstance" = some none)
    (z5 : PySem.W.nsIn K mainGlobals "len" = some none)
    (z6 : PySem.W.nsIn K mainGlobals "list" = some none)
    (z7 : PySem.W.nsIn K mainGlobals "min" = some none)
    (z8 : PySem.W.nsIn K mainGlobals "range" = some none)
    (z9 : PySem.W.nsIn K mainGlobals "sorted" = some none)
    (z10 : PySem.W.nsIn K mainGlobals "sum" = some none)
    (z11 : PySem.W.nsIn K mainGlobals "tuple" = some none)  : ∃ a : Ad, Txt K mg a ∧ (tabs a).map (·.1) = [lp_last_die, lp_settled_make] := by
  refine ⟨{ f_greatest_divisor := f0, d_greatest_divisor := PySem.W.fnOf "greatest_divisor" "greatest_divisor" (defArgs s_greatest_divisor) (defBody s_greatest_divisor) (defScope s_greatest_divisor) .none kV0 dc0 pm0 an0 cd0 ct0, f_least_multiple := f1, d_least_multiple := PySem.W.fnOf "least_multiple" "least_multiple" (defArgs s_least_multiple) (defBody s_least_multiple) (defScope s_least_multiple) .none kV1 dc1 pm1 an1 cd1 ct1, f_share := f2, d_share := PySem.W.fnOf "share" "share" (defArgs s_share) (defBody s_share) (defScope s_share) .none kV2 dc2 pm2 an2 cd2 ct2, f_is_whole := f3, d_is_whole := PySem.W.fnOf "is_whole" "is_whole" (defArgs s_is_whole) (defBody s_is_whole) (defScope s_is_whole) .none kV3 dc3 pm3 an3 cd3 ct3, f_can_be_thrown := f4, d_can_be_thrown := PySem.W.fnOf "can_be_thrown" "can_be_thrown" (defArgs s_can_be_thrown) (defBody s_can_be_thrown) (defScope s_can_be_thrown) .none kV4 dc4 pm4 an4 cd4 ct4, f_drawn := f5, d_drawn := PySem.W.fnOf "drawn" "drawn" (defArgs s_drawn) (defBody s_drawn) (defScope s_drawn) .none kV5 dc5 pm5 an5 cd5 ct5, f_is_unsure := f6, d_is_unsure := PySem.W.fnOf "is_unsure" "is_unsure" (defArgs s_is_unsure) (defBody s_is_unsure) (defScope s_is_unsure) .none kV6 dc6 pm6 an6 cd6 ct6, f_duels := f7, d_duels := PySem.W.fnOf "duels" "duels" (defArgs s_duels) (defBody s_duels) (defScope s_duels) .none kV7 dc7 pm7 an7 cd7 ct7, f_settled := f8, d_settled := PySem.W.fnOf "settled" "settled" (defArgs s_settled) (defBody s_settled) (defScope s_settled) .none kV8 dc8 pm8 an8 cd8 ct8, f_open_node := f9, d_open_node := PySem.W.fnOf "open_node" "open_node" (defArgs s_open_node) (defBody s_open_node) (defScope s_open_node) .none kV9 dc9 pm9 an9 cd9 ct9, f_settled_make := f10, d_settled_make := PySem.W.fnOf "settled_make" "settled_make" (defArgs s_settled_make) (defBody s_settled_make) (defScope s_settled_make) .none kV10 dc10 pm10 an10 cd10 ct10, f_last_die := f11, d_last_die := PySem.W.fnOf "last_die" "last_die" (defArgs s_last_die) (defBody s_last_die) (defScope s_last_die) .none kV11 dc11 pm11 an11 cd11 ct11, f_duel_parts := f12, d_duel_parts := PySem.W.fnOf "duel_parts" "duel_parts" (defArgs s_duel_parts) (defBody s_duel_parts) (defScope s_duel_parts) .none kV12 dc12 pm12 an12 cd12 ct12, f_L_cell := f13, d_L_cell := PySem.W.fnOf "_law_cell" "_law_cell" (defArgs s_L_cell) (defBody s_L_cell) (defScope s_L_cell) .none kV13 dc13 pm13 an13 cd13 ct13, f_L_mix := f14, d_L_mix := PySem.W.fnOf "_law_mix" "_law_mix" (defArgs s_L_mix) (defBody s_L_mix) (defScope s_L_mix) .none kV14 dc14 pm14 an14 cd14 ct14, f_L_row := f15, d_L_row := PySem.W.fnOf "_law_row" "_law_row" (defArgs s_L_row) (defBody s_L_row) (defScope s_L_row) .none kV15 dc15 pm15 an15 cd15 ct15, f_L_low := f16, d_L_low := PySem.W.fnOf "_law_low" "_law_low" (defArgs s_L_low) (defBody s_L_low) (defScope s_L_low) .none kV16 dc16 pm16 an16 cd16 ct16, f_L_common := f17, d_L_common := PySem.W.fnOf "_law_common" "_law_common" (defArgs s_L_common) (defBody s_L_common) (defScope s_L_common) .none kV17 dc17 pm17 an17 cd17 ct17, f_L_shares := f18, d_L_shares := PySem.W.fnOf "_law_shares" "_law_shares" (defArgs s_L_shares) (defBody s_L_shares) (defScope s_L_shares) .none kV18 dc18 pm18 an18 cd18 ct18, f_L_order := f19, d_L_order := PySem.W.fnOf "_law_order" "_law_order" (defArgs s_L_order) (defBody s_L_order) (defScope s_L_order) .none kV19 dc19 pm19 an19 cd19 ct19, f_L_duel := f20, d_L_duel := PySem.W.fnOf "_law_duel" "_law_duel" (defArgs s_L_duel) (defBody s_L_duel) (defScope s_L_duel) .none kV20 dc20 pm20 an20 cd20 ct20, f_L_walk := f21, d_L_walk := PySem.W.fnOf "_law_walk" "_law_walk" (defArgs s_L_walk) (defBody s_L_walk) (defScope s_L_walk) .none kV21 dc21 pm21 an21 cd21 ct21, f_L_thrown := f22, d_L_thrown := PySem.W.fnOf "_law_thrown" "_law_thrown" (defArgs s_L_thrown) (defBody s_L_thrown) (defScope s_L_thrown) .none kV22 dc22 pm22 an22 cd22 ct22, f_law := f23, d_law := PySem.W.fnOf "law" "law" (defArgs s_law) (defBody s_law) (defScope s_law) .none kV23 dc23 pm23 an23 cd23 ct23, c_SpeakError := c_SpeakError, c_NoThrow := c_NoThrow, i_NoThrow := i_NoThrow, e_NoThrow := PySem.W.fnOf "__init__" "NoThrow.__init__" (defArgs s_NoThrow___init__) (defBody s_NoThrow___init__) (defScope s_NoThrow___init__) .none kV_NoThrow dc_NoThrow pm_NoThrow an_NoThrow cd_NoThrow ct_NoThrow, c_Node := c_Node, c_Told := c_Told, i_Told := i_Told, e_Told := PySem.W.fnOf "__init__" "Told.__init__" (defArgs s_Told___init__) (defBody s_Told___init__) (defScope s_Told___init__) .none kV_Told dc_Told pm_Told an_Told cd_Told ct_Told, c_Die := c_Die, i_Die := i_Die, e_Die := PySem.W.fnOf "__init__" "Die.__init__" (defArgs s_Die___init__) (defBody s_Die___init__) (defScope s_Die___init__) .none kV_Die dc_Die pm_Die an_Die cd_Die ct_Die, x_Told_is_told := x_Told_is_told, y_Told_is_told := PySem.W.fnOf "is_told" "Told.is_told" (defArgs s_Told_is_told) (defBody s_Told_is_told) (defScope s_Told_is_told) .none kV_Told_is_told dc_Told_is_told pm_Told_is_told an_Told_is_told cd_Told_is_told ct_Told_is_told, x_Die_is_told := x_Die_is_told, y_Die_is_told := PySem.W.fnOf "is_told" "Die.is_told" (defArgs s_Die_is_told) (defBody s_Die_is_told) (defScope s_Die_is_told) .none kV_Die_is_told dc_Die_is_told pm_Die_is_told an_Die_is_told cd_Die_is_told ct_Die_is_told, x_Told_kept := x_Told_kept, y_Told_kept := PySem.W.fnOf "kept" "Told.kept" (defArgs s_Told_kept) (defBody s_Told_kept) (defScope s_Told_kept) .none kV_Told_kept dc_Told_kept pm_Told_kept an_Told_kept cd_Told_kept ct_Told_kept, x_Die_kept := x_Die_kept, y_Die_kept := PySem.W.fnOf "kept" "Die.kept" (defArgs s_Die_kept) (defBody s_Die_kept) (defScope s_Die_kept) .none kV_Die_kept dc_Die_kept pm_Die_kept an_Die_kept cd_Die_kept ct_Die_kept, x_Told_sides := x_Told_sides, y_Told_sides := PySem.W.fnOf "sides" "Told.sides" (defArgs s_Told_sides) (defBody s_Told_sides) (defScope s_Told_sides) .none kV_Told_sides dc_Told_sides pm_Told_sides an_Told_sides cd_Told_sides ct_Told_sides, x_Die_sides := x_Die_sides, y_Die_sides := PySem.W.fnOf "sides" "Die.sides" (defArgs s_Die_sides) (defBody s_Die_sides) (defScope s_Die_sides) .none kV_Die_sides dc_Die_sides pm_Die_sides an_Die_sides cd_Die_sides ct_Die_sides, x_Told_parts := x_Told_parts, y_Told_parts := PySem.W.fnOf "parts" "Told.parts" (defArgs s_Told_parts) (defBody s_Told_parts) (defScope s_Told_parts) .none kV_Told_parts dc_Told_parts pm_Told_parts an_Told_parts cd_Told_parts ct_Told_parts, x_Die_parts := x_Die_parts, y_Die_parts := PySem.W.fnOf "parts" "Die.parts" (defArgs s_Die_parts) (defBody s_Die_parts) (defScope s_Die_parts) .none kV_Die_parts dc_Die_parts pm_Die_parts an_Die_parts cd_Die_parts ct_Die_parts, x_Die_after := x_Die_after, y_Die_after := PySem.W.fnOf "after" "Die.after" (defArgs s_Die_after) (defBody s_Die_after) (defScope s_Die_after) .none kV_Die_after dc_Die_after pm_Die_after an_Die_after cd_Die_after ct_Die_after, k_NOUGHT := k_NOUGHT, k_WHOLE := k_WHOLE, lc_last_die := lc_last_die, lp_last_die := lp_last_die, lc_settled_make := lc_settled_make, lp_settled_make := lp_settled_make }, ?_, rfl⟩
  exact {
    lcd_last_die := lca_last_die
    lch_last_die := lch_last_die
    lcd_settled_make := lca_settled_make
    lch_settled_make := lch_settled_make
    tnd := ltnd
    F_greatest_divisor := fun_mk (st := s_greatest_divisor) l0 c0 k0
    B_greatest_divisor := (fun_mk (st := s_greatest_divisor) l0 c0 k0).binds (ps := ["one", "other"]) fun _ _ _ _ _ _ us hl => (by obtain ⟨_, _, rfl⟩ := us2 hl; rfl)
    m_greatest_divisor := PySem.W.mg_of X G a0
    F_least_multiple := fun_mk (st := s_least_multiple) l1 c1 k1
    B_least_multiple := (fun_mk (st := s_least_multiple) l1 c1 k1).binds (ps := ["numbers"]) fun _ _ _ _ _ _ us hl => (by obtain ⟨_, rfl⟩ := us1 hl; rfl)
    m_least_multiple := PySem.W.mg_of X G a1
    F_share := fun_mk (st := s_share) l2 c2 k2
    B_share := (fun_mk (st := s_share) l2 c2 k2).binds (ps := ["top", "bottom"]) fun _ _ _ _ _ _ us hl => (by obtain ⟨_, _, rfl⟩ := us2 hl; rfl)
    m_share := PySem.W.mg_of X G a2
    F_is_whole := fun_mk (st := s_is_whole) l3 c3 k3
    B_is_whole := (fun_mk (st := s_is_whole) l3 c3 k3).binds (ps := ["thing", "low", "high"]) fun _ _ _ _ _ _ us hl => (by obtain ⟨_, _, _, rfl⟩ := us3 hl; rfl)
    m_is_whole := PySem.W.mg_of X G a3
    F_can_be_thrown := fun_mk (st := s_can_be_thrown) l4 c4 k4
    B_can_be_thrown := (fun_mk (st := s_can_be_thrown) l4 c4 k4).binds (ps := ["node", "throw"]) fun _ _ _ _ _ _ us hl => (by obtain ⟨_, _, rfl⟩ := us2 hl; rfl)
    m_can_be_thrown := PySem.W.mg_of X G a4
    F_drawn := fun_mk (st := s_drawn) l5 c5 k5
    B_drawn := (fun_mk (st := s_drawn) l5 c5 k5).binds (ps := ["node", "throws"]) fun _ _ _ _ _ _ us hl => (by obtain ⟨_, _, rfl⟩ := us2 hl; rfl)
    m_drawn := PySem.W.mg_of X G a5
    F_is_unsure := fun_mk (st := s_is_unsure) l6 c6 k6
    B_is_unsure := (fun_mk (st := s_is_unsure) l6 c6 k6).binds (ps := ["chance"]) fun _ _ _ _ _ _ us hl => (by obtain ⟨_, rfl⟩ := us1 hl; rfl)
    m_is_unsure := PySem.W.mg_of X G a6
    F_duels := fun_mk (st := s_duels) l7 c7 k7
    B_duels := (fun_mk (st := s_duels) l7 c7 k7).binds (ps := ["shares", "order"]) fun _ _ _ _ _ _ us hl => (by obtain ⟨_, _, rfl⟩ := us2 hl; rfl)
    m_duels := PySem.W.mg_of X G a7
    F_settled := fun_mk (st := s_settled) l8 c8 k8
    B_settled := (fun_mk (st := s_settled) l8 c8 k8).binds (ps := ["told", "taken"]) fun _ _ _ _ _ _ us hl => (by obtain ⟨_, _, rfl⟩ := us2 hl; rfl)
    m_settled := PySem.W.mg_of X G a8
    F_open_node := fun_mk (st := s_open_node) l9 c9 k9
    B_open_node := (fun_mk (st := s_open_node) l9 c9 k9).binds (ps := ["told", "taken"]) fun _ _ _ _ _ _ us hl => (by obtain ⟨_, _, rfl⟩ := us2 hl; rfl)
    m_open_node := PySem.W.mg_of X G a9
    F_settled_make := fun_mk (st := s_settled_make) l10 c10 k10
    B_settled_make := (fun_mk (st := s_settled_make) l10 c10 k10).binds (ps := ["told", "taken"]) fun _ _ _ _ _ _ us hl => (by obtain ⟨_, _, rfl⟩ := us2 hl; rfl)
    m_settled_make := PySem.W.mg_of X G a10
    F_last_die := fun_mk (st := s_last_die) l11 c11 k11
    B_last_die := (fun_mk (st := s_last_die) l11 c11 k11).binds (ps := ["last", "taken"]) fun _ _ _ _ _ _ us hl => (by obtain ⟨_, _, rfl⟩ := us2 hl; rfl)
    m_last_die := PySem.W.mg_of X G a11
    F_duel_parts := fun_mk (st := s_duel_parts) l12 c12 k12
    B_duel_parts := (fun_mk (st := s_duel_parts) l12 c12 k12).binds (ps := ["one", "other"]) fun _ _ _ _ _ _ us hl => (by obtain ⟨_, _, rfl⟩ := us2 hl; rfl)
    m_duel_parts := PySem.W.mg_of X G a12
    F_L_cell := fun_mk (st := s_L_cell) l13 c13 k13
    B_L_cell := (fun_mk (st := s_L_cell) l13 c13 k13).binds (ps := ["_law_script", "_law_k"]) fun _ _ _ _ _ _ us hl => (by obtain ⟨_, _, rfl⟩ := us2 hl; rfl)
    m_L_cell := PySem.W.mg_of X G a13
    F_L_mix := fun_mk (st := s_L_mix) l14 c14 k14
    B_L_mix := (fun_mk (st := s_L_mix) l14 c14 k14).binds (ps := ["_law_cell_here", "_law_k"]) fun _ _ _ _ _ _ us hl => (by obtain ⟨_, _, rfl⟩ := us2 hl; rfl)
    m_L_mix := PySem.W.mg_of X G a14
    F_L_row := fun_mk (st := s_L_row) l15 c15 k15
    B_L_row := (fun_mk (st := s_L_row) l15 c15 k15).binds (ps := ["_law_cell_here", "_law_bit", "_law_many", "_law_most"]) fun _ _ _ _ _ _ us hl => (by obtain ⟨_, _, _, _, rfl⟩ := us4 hl; rfl)
    m_L_row := PySem.W.mg_of X G a15
    F_L_low := fun_mk (st := s_L_low) l16 c16 k16
    B_L_low := (fun_mk (st := s_L_low) l16 c16 k16).binds (ps := ["_law_top", "_law_bottom"]) fun _ _ _ _ _ _ us hl => (by obtain ⟨_, _, rfl⟩ := us2 hl; rfl)
    m_L_low := PySem.W.mg_of X G a16
    F_L_common := fun_mk (st := s_L_common) l17 c17 k17
    B_L_common := (fun_mk (st := s_L_common) l17 c17 k17).binds (ps := ["_law_one", "_law_other"]) fun _ _ _ _ _ _ us hl => (by obtain ⟨_, _, rfl⟩ := us2 hl; rfl)
    m_L_common := PySem.W.mg_of X G a17
    F_L_shares := fun_mk (st := s_L_shares) l18 c18 k18
    B_L_shares := (fun_mk (st := s_L_shares) l18 c18 k18).binds (ps := ["_law_script", "_law_start", "_law_most"]) fun _ _ _ _ _ _ us hl => (by obtain ⟨_, _, _, rfl⟩ := us3 hl; rfl)
    m_L_shares := PySem.W.mg_of X G a18
    F_L_order := fun_mk (st := s_L_order) l19 c19 k19
    B_L_order := (fun_mk (st := s_L_order) l19 c19 k19).binds (ps := ["_law_cell_here", "_law_bit", "_law_many"]) fun _ _ _ _ _ _ us hl => (by obtain ⟨_, _, _, rfl⟩ := us3 hl; rfl)
    m_L_order := PySem.W.mg_of X G a19
    F_L_duel := fun_mk (st := s_L_duel) l20 c20 k20
    B_L_duel := (fun_mk (st := s_L_duel) l20 c20 k20).binds (ps := ["_law_first", "_law_second"]) fun _ _ _ _ _ _ us hl => (by obtain ⟨_, _, rfl⟩ := us2 hl; rfl)
    m_L_duel := PySem.W.mg_of X G a20
    F_L_walk := fun_mk (st := s_L_walk) l21 c21 k21
    B_L_walk := (fun_mk (st := s_L_walk) l21 c21 k21).binds (ps := ["_law_shares_here", "_law_order_here", "_law_throws"]) fun _ _ _ _ _ _ us hl => (by obtain ⟨_, _, _, rfl⟩ := us3 hl; rfl)
    m_L_walk := PySem.W.mg_of X G a21
    F_L_thrown := fun_mk (st := s_L_thrown) l22 c22 k22
    B_L_thrown := (fun_mk (st := s_L_thrown) l22 c22 k22).binds (ps := ["_law_node", "_law_rows", "_law_kept"]) fun _ _ _ _ _ _ us hl => (by obtain ⟨_, _, _, rfl⟩ := us3 hl; rfl)
    m_L_thrown := PySem.W.mg_of X G a22
    F_law := fun_mk (st := s_law) l23 c23 k23
    B_law := (fun_mk (st := s_law) l23 c23 k23).binds (ps := ["_law_script"]) fun _ _ _ _ _ _ us hl => (by obtain ⟨_, rfl⟩ := us1 hl; rfl)
    m_law := PySem.W.mg_of X G a23
    g_NOUGHT := ⟨_, PySem.W.mg_of X G b_NOUGHT, rfl⟩
    t_NOUGHT := bt_NOUGHT
    g_WHOLE := ⟨_, PySem.W.mg_of X G b_WHOLE, rfl⟩
    t_WHOLE := bt_WHOLE
    F_Told_is_told := fun_mk (st := s_Told_is_told) ml_Told_is_told mo_Told_is_told mk_Told_is_told
    B_Told_is_told := (fun_mk (st := s_Told_is_told) ml_Told_is_told mo_Told_is_told mk_Told_is_told).binds (ps := ["self"]) fun _ _ _ _ _ _ us hl => (by obtain ⟨_, rfl⟩ := us1 hl; rfl)
    F_Die_is_told := fun_mk (st := s_Die_is_told) ml_Die_is_told mo_Die_is_told mk_Die_is_told
    B_Die_is_told := (fun_mk (st := s_Die_is_told) ml_Die_is_told mo_Die_is_told mk_Die_is_told).binds (ps := ["self"]) fun _ _ _ _ _ _ us hl => (by obtain ⟨_, rfl⟩ := us1 hl; rfl)
    F_Told_kept := fun_mk (st := s_Told_kept) ml_Told_kept mo_Told_kept mk_Told_kept
    B_Told_kept := (fun_mk (st := s_Told_kept) ml_Told_kept mo_Told_kept mk_Told_kept).binds (ps := ["self"]) fun _ _ _ _ _ _ us hl => (by obtain ⟨_, rfl⟩ := us1 hl; rfl)
    F_Die_kept := fun_mk (st := s_Die_kept) ml_Die_kept mo_Die_kept mk_Die_kept
    B_Die_kept := (fun_mk (st := s_Die_kept) ml_Die_kept mo_Die_kept mk_Die_kept).binds (ps := ["self"]) fun _ _ _ _ _ _ us hl => (by obtain ⟨_, rfl⟩ := us1 hl; rfl)
    F_Told_sides := fun_mk (st := s_Told_sides) ml_Told_sides mo_Told_sides mk_Told_sides
    B_Told_sides := (fun_mk (st := s_Told_sides) ml_Told_sides mo_Told_sides mk_Told_sides).binds (ps := ["self"]) fun _ _ _ _ _ _ us hl => (by obtain ⟨_, rfl⟩ := us1 hl; rfl)
    F_Die_sides := fun_mk (st := s_Die_sides) ml_Die_sides mo_Die_sides mk_Die_sides
    B_Die_sides := (fun_mk (st := s_Die_sides) ml_Die_sides mo_Die_sides mk_Die_sides).binds (ps := ["self"]) fun _ _ _ _ _ _ us hl => (by obtain ⟨_, rfl⟩ := us1 hl; rfl)
    F_Told_parts := fun_mk (st := s_Told_parts) ml_Told_parts mo_Told_parts mk_Told_parts
    B_Told_parts := (fun_mk (st := s_Told_parts) ml_Told_parts mo_Told_parts mk_Told_parts).binds (ps := ["self"]) fun _ _ _ _ _ _ us hl => (by obtain ⟨_, rfl⟩ := us1 hl; rfl)
    F_Die_parts := fun_mk (st := s_Die_parts) ml_Die_parts mo_Die_parts mk_Die_parts
    B_Die_parts := (fun_mk (st := s_Die_parts) ml_Die_parts mo_Die_parts mk_Die_parts).binds (ps := ["self"]) fun _ _ _ _ _ _ us hl => (by obtain ⟨_, rfl⟩ := us1 hl; rfl)
    F_Die_after := fun_mk (st := s_Die_after) ml_Die_after mo_Die_after mk_Die_after
    B_Die_after := (fun_mk (st := s_Die_after) ml_Die_after mo_Die_after mk_Die_after).binds (ps := ["self", "throw"]) fun _ _ _ _ _ _ us hl => (by obtain ⟨_, _, rfl⟩ := us2 hl; rfl)
    mt_Told_is_told := ⟨mf_Told_is_told, mi_Told_is_told, mk_Told_is_told⟩
    mt_Die_is_told := ⟨mf_Die_is_told, mi_Die_is_told, mk_Die_is_told⟩
    mt_Told_kept := ⟨mf_Told_kept, mi_Told_kept, mk_Told_kept⟩
    mt_Die_kept := ⟨mf_Die_kept, mi_Die_kept, mk_Die_kept⟩
    mt_Told_sides := ⟨mf_Told_sides, mi_Told_sides, mk_Told_sides⟩
    mt_Die_sides := ⟨mf_Die_sides, mi_Die_sides, mk_Die_sides⟩
    mt_Told_parts := ⟨mf_Told_parts, mi_Told_parts, mk_Told_parts⟩
    mt_Die_parts := ⟨mf_Die_parts, mi_Die_parts, mk_Die_parts⟩
    mt_Die_after := ⟨mf_Die_after, mi_Die_after, mk_Die_after⟩
    mc_Node := PySem.W.mg_of X G ca_Node
    g_Node := ⟨_, PySem.W.mg_of X G ca_Node, rfl⟩
    cl_Node := ⟨pa_Node, pb_Node, pc_Node, pd_Node⟩
    ty_Node := fun H x dx fs e => .ins e ⟨pa_Node, pb_Node, pc_Node, pd_Node⟩ pe_Node pf_Node pg_Node ph_Node
    mc_Told := PySem.W.mg_of X G ca_Told
    g_Told := ⟨_, PySem.W.mg_of X G ca_Told, rfl⟩
    cl_Told := ⟨pa_Told, pb_Told, pc_Told, pd_Told⟩
    ty_Told := fun H x dx fs e => .ins e ⟨pa_Told, pb_Told, pc_Told, pd_Told⟩ pe_Told pf_Told pg_Told ph_Told
    mk_Told := ⟨qa_Told, qb_Told, qc_Told, qd_Told⟩
    na_Told_rising := qn_Told_rising
    Fi_Told := fun_mk (st := s_Told___init__) cl_Told co_Told ck_Told
    Bi_Told := (fun_mk (st := s_Told___init__) cl_Told co_Told ck_Told).binds (ps := ["self", "kept"]) fun _ _ _ _ _ _ us hl => (by obtain ⟨_, _, rfl⟩ := us2 hl; rfl)
    mc_Die := PySem.W.mg_of X G ca_Die
    g_Die := ⟨_, PySem.W.mg_of X G ca_Die, rfl⟩
    cl_Die := ⟨pa_Die, pb_Die, pc_Die, pd_Die⟩
    ty_Die := fun H x dx fs e => .ins e ⟨pa_Die, pb_Die, pc_Die, pd_Die⟩ pe_Die pf_Die pg_Die ph_Die
    mk_Die := ⟨qa_Die, qb_Die, qc_Die, qd_Die⟩
    na_Die_makes := qn_Die_makes
    Fi_Die := fun_mk (st := s_Die___init__) cl_Die co_Die ck_Die
    Bi_Die := (fun_mk (st := s_Die___init__) cl_Die co_Die ck_Die).binds (ps := ["self", "parts"]) fun _ _ _ _ _ _ us hl => (by obtain ⟨_, _, rfl⟩ := us2 hl; rfl)
    mc_SpeakError := PySem.W.mg_of X G ca_SpeakError
    g_SpeakError := ⟨_, PySem.W.mg_of X G ca_SpeakError, rfl⟩
    kc_SpeakError := cb_SpeakError
    xc_SpeakError := xc_of cc_SpeakError
    xh_SpeakError := xh_of cc_SpeakError
    xi_SpeakError := cx_SpeakError
    mc_NoThrow := PySem.W.mg_of X G ca_NoThrow
    g_NoThrow := ⟨_, PySem.W.mg_of X G ca_NoThrow, rfl⟩
    kc_NoThrow := cb_NoThrow
    xc_NoThrow := xc_of cc_NoThrow
    xh_NoThrow := xh_of cc_NoThrow
    xi_NoThrow := cx_NoThrow
    fn_NoThrow := cg_NoThrow
    Fi_NoThrow := fun_mk (st := s_NoThrow___init__) cl_NoThrow co_NoThrow ck_NoThrow
    Bi_NoThrow := (fun_mk (st := s_NoThrow___init__) cl_NoThrow co_NoThrow ck_NoThrow).binds (ps := ["self", "place"]) fun _ _ _ _ _ _ us hl => (by obtain ⟨_, _, rfl⟩ := us2 hl; rfl)
    sx_NoThrow_place := xs_of cs_NoThrow_place
    z_abs := PySem.W.mg_none_of X G z0
    z_bool := PySem.W.mg_none_of X G z1
    z_enumerate := PySem.W.mg_none_of X G z2
    z_int := PySem.W.mg_none_of X G z3
    z_isinstance := PySem.W.mg_none_of X G z4
    z_len := PySem.W.mg_none_of X G z5
    z_list := PySem.W.mg_none_of X G z6
    z_min := PySem.W.mg_none_of X G z7
    z_range := PySem.W.mg_none_of X G z8
    z_sorted := PySem.W.mg_none_of X G z9
    z_sum := PySem.W.mg_none_of X G z10
    z_tuple := PySem.W.mg_none_of X G z11
    bl := fun s u => .of_eq rfl }
end My
open PySem PySem.W PyProof.Rows
set_option maxRecDepth 100000 in
set_option maxHeartbeats 0 in
theorem PySem.Challenge.cw_fewspeak_k31_duels_thrown_holds : PySem.Challenge.rw_fewspeak_k31_duels_thrown.Holds := by
  w_on; o_law; k_head; (case hw => w_witness2)
  k_fill
  refine L2.walk_ofT (l := PySem.Challenge.rw_fewspeak_k31_duels_thrown) (n := 63) (k := My.lawK) (x := "_law_script") (CX := L2.CX0) (sp := My.spLaw) rfl (by decide) rfl ⟨rfl, by decide, by decide⟩ (fun w h Y => ⟨PySem.W.km_in_of Y, PySem.W.km_tabs_of Y⟩) ?F ?S ?C
  case F =>
    intro ts' hts w mg fa h KX G hmg
    have T : ∃ a, My.Txt (L2.KOf KX) mg a ∧ (My.tabs a).map (·.1) = ts' := by
      rw [hts]
      dsimp only [L2.KOf]
      refine' My.txt_mk KX G ?a0 ?l0 ?c0 ?k0 ?a1 ?l1 ?c1 ?k1 ?a2 ?l2 ?c2 ?k2 ?a3 ?l3 ?c3 ?k3 ?a4 ?l4 ?c4 ?k4 ?a5 ?l5 ?c5 ?k5 ?a6 ?l6 ?c6 ?k6 ?a7 ?l7 ?c7 ?k7 ?a8 ?l8 ?c8 ?k8 ?a9 ?l9 ?c9 ?k9 ?a10 ?l10 ?c10 ?k10 ?a11 ?l11 ?c11 ?k11 ?a12 ?l12 ?c12 ?k12 ?a13 ?l13 ?c13 ?k13 ?a14 ?l14 ?c14 ?k14 ?a15 ?l15 ?c15 ?k15 ?a16 ?l16 ?c16 ?k16 ?a17 ?l17 ?c17 ?k17 ?a18 ?l18 ?c18 ?k18 ?a19 ?l19 ?c19 ?k19 ?a20 ?l20 ?c20 ?k20 ?a21 ?l21 ?c21 ?k21 ?a22 ?l22 ?c22 ?k22 ?a23 ?l23 ?c23 ?k23 ?b_NOUGHT ?bt_NOUGHT ?b_WHOLE ?bt_WHOLE ?ca_SpeakError ?cb_SpeakError ?cc_SpeakError ?cx_SpeakError ?ca_NoThrow ?cb_NoThrow ?cc_NoThrow ?cf_NoThrow ?cx_NoThrow ?cg_NoThrow ?cl_NoThrow ?co_NoThrow ?ck_NoThrow ?cs_NoThrow_place ?ca_Node ?pa_Node ?pb_Node ?pc_Node ?pd_Node ?pe_Node ?pf_Node ?pg_Node ?ph_Node ?ca_Told ?pa_Told ?pb_Told ?pc_Told ?pd_Told ?pe_Told ?pf_Told ?pg_Told ?ph_Told ?qa_Told ?qb_Told ?qc_Told ?qd_Told ?qn_Told_rising ?cl_Told ?co_Told ?ck_Told ?ca_Die ?pa_Die ?pb_Die ?pc_Die ?pd_Die ?pe_Die ?pf_Die ?pg_Die ?ph_Die ?qa_Die ?qb_Die ?qc_Die ?qd_Die ?qn_Die_makes ?cl_Die ?co_Die ?ck_Die ?mf_Told_is_told ?ml_Told_is_told ?mo_Told_is_told ?mk_Told_is_told ?mi_Told_is_told ?mf_Die_is_told ?ml_Die_is_told ?mo_Die_is_told ?mk_Die_is_told ?mi_Die_is_told ?mf_Told_kept ?ml_Told_kept ?mo_Told_kept ?mk_Told_kept ?mi_Told_kept ?mf_Die_kept ?ml_Die_kept ?mo_Die_kept ?mk_Die_kept ?mi_Die_kept ?mf_Told_sides ?ml_Told_sides ?mo_Told_sides ?mk_Told_sides ?mi_Told_sides ?mf_Die_sides ?ml_Die_sides ?mo_Die_sides ?mk_Die_sides ?mi_Die_sides ?mf_Told_parts ?ml_Told_parts ?mo_Told_parts ?mk_Told_parts ?mi_Told_parts ?mf_Die_parts ?ml_Die_parts ?mo_Die_parts ?mk_Die_parts ?mi_Die_parts ?mf_Die_after ?ml_Die_after ?mo_Die_after ?mk_Die_after ?mi_Die_after ?lca_last_die ?lct_last_die ?lcq_last_die ?lch_last_die ?lca_settled_make ?lct_settled_make ?lcq_settled_make ?lch_settled_make ?ltnd ?z0 ?z1 ?z2 ?z3 ?z4 ?z5 ?z6 ?z7 ?z8 ?z9 ?z10 ?z11
      (case a0 => k_is)
      (case l0 => k_is)
      (case c0 => k_is)
      (case k0 => k_is)
      (case a1 => k_is)
      (case l1 => k_is)
      (case c1 => k_is)
      (case k1 => k_is)
      (case a2 => k_is)
      (case l2 => k_is)
      (case c2 => k_is)
      (case k2 => k_is)
      (case a3 => k_is)
      (case l3 => k_is)
      (case c3 => k_is)
      (case k3 => k_is)
      (case a4 => k_is)
      (case l4 => k_is)
      (case c4 => k_is)
      (case k4 => k_is)
      (case a5 => k_is)
      (case l5 => k_is)
      (case c5 => k_is)
      (case k5 => k_is)
      (case a6 => k_is)
      (case l6 => k_is)
      (case c6 => k_is)
      (case k6 => k_is)
      (case a7 => k_is)
      (case l7 => k_is)
      (case c7 => k_is)
      (case k7 => k_is)
      (case a8 => k_is)
      (case l8 => k_is)
      (case c8 => k_is)
      (case k8 => k_is)
      (case a9 => k_is)
      (case l9 => k_is)
      (case c9 => k_is)
      (case k9 => k_is)
      (case a10 => k_is)
      (case l10 => k_is)
      (case c10 => k_is)
      (case k10 => k_is)
      (case a11 => k_is)
      (case l11 => k_is)
      (case c11 => k_is)
      (case k11 => k_is)
      (case a12 => k_is)
      (case l12 => k_is)
      (case c12 => k_is)
      (case k12 => k_is)
      (case a13 => k_is)
      (case l13 => k_is)
      (case c13 => k_is)
      (case k13 => k_is)
      (case a14 => k_is)
      (case l14 => k_is)
      (case c14 => k_is)
      (case k14 => k_is)
      (case a15 => k_is)
      (case l15 => k_is)
      (case c15 => k_is)
      (case k15 => k_is)
      (case a16 => k_is)
      (case l16 => k_is)
      (case c16 => k_is)
      (case k16 => k_is)
      (case a17 => k_is)
      (case l17 => k_is)
      (case c17 => k_is)
      (case k17 => k_is)
      (case a18 => k_is)
      (case l18 => k_is)
      (case c18 => k_is)
      (case k18 => k_is)
      (case a19 => k_is)
      (case l19 => k_is)
      (case c19 => k_is)
      (case k19 => k_is)
      (case a20 => k_is)
      (case l20 => k_is)
      (case c20 => k_is)
      (case k20 => k_is)
      (case a21 => k_is)
      (case l21 => k_is)
      (case c21 => k_is)
      (case k21 => k_is)
      (case a22 => k_is)
      (case l22 => k_is)
      (case c22 => k_is)
      (case k22 => k_is)
      (case a23 => k_is)
      (case l23 => k_is)
      (case c23 => k_is)
      (case k23 => k_is)
      (case b_NOUGHT => k_is)
      (case bt_NOUGHT => kernel_rfl)
      (case b_WHOLE => k_is)
      (case bt_WHOLE => kernel_rfl)
      (case ca_SpeakError => k_is)
      (case cb_SpeakError => k_is)
      (case cc_SpeakError => kernel_rfl)
      (case cx_SpeakError => kernel_rfl)
      (case ca_NoThrow => k_is)
      (case cb_NoThrow => k_is)
      (case cc_NoThrow => kernel_rfl)
      (case cf_NoThrow => k_is)
      (case cx_NoThrow => kernel_rfl)
      (case cg_NoThrow => k_is)
      (case cl_NoThrow => k_is)
      (case co_NoThrow => k_is)
      (case ck_NoThrow => k_is)
      (case cs_NoThrow_place => kernel_rfl)
      (case ca_Node => k_is)
      (case pa_Node => (first | k_is | kernel_rfl))
      (case pb_Node => (first | k_is | kernel_rfl))
      (case pc_Node => (first | k_is | kernel_rfl))
      (case pd_Node => (first | k_is | kernel_rfl))
      (case pe_Node => (first | k_is | kernel_rfl))
      (case pf_Node => (first | k_is | kernel_rfl))
      (case pg_Node => (first | k_is | kernel_rfl))
      (case ph_Node => (first | k_is | kernel_rfl))
      (case ca_Told => k_is)
      (case pa_Told => (first | k_is | kernel_rfl))
      (case pb_Told => (first | k_is | kernel_rfl))
      (case pc_Told => (first | k_is | kernel_rfl))
      (case pd_Told => (first | k_is | kernel_rfl))
      (case pe_Told => (first | k_is | kernel_rfl))
      (case pf_Told => (first | k_is | kernel_rfl))
      (case pg_Told => (first | k_is | kernel_rfl))
      (case ph_Told => (first | k_is | kernel_rfl))
      (case qa_Told => (first | k_is | kernel_rfl))
      (case qb_Told => (first | k_is | kernel_rfl))
      (case qc_Told => (first | k_is | kernel_rfl))
      (case qd_Told => (first | k_is | kernel_rfl))
      (case qn_Told_rising => (first | k_is | kernel_rfl))
      (case cl_Told => k_is)
      (case co_Told => k_is)
      (case ck_Told => k_is)
      (case ca_Die => k_is)
      (case pa_Die => (first | k_is | kernel_rfl))
      (case pb_Die => (first | k_is | kernel_rfl))
      (case pc_Die => (first | k_is | kernel_rfl))
      (case pd_Die => (first | k_is | kernel_rfl))
      (case pe_Die => (first | k_is | kernel_rfl))
      (case pf_Die => (first | k_is | kernel_rfl))
      (case pg_Die => (first | k_is | kernel_rfl))
      (case ph_Die => (first | k_is | kernel_rfl))
      (case qa_Die => (first | k_is | kernel_rfl))
      (case qb_Die => (first | k_is | kernel_rfl))
      (case qc_Die => (first | k_is | kernel_rfl))
      (case qd_Die => (first | k_is | kernel_rfl))
      (case qn_Die_makes => (first | k_is | kernel_rfl))
      (case cl_Die => k_is)
      (case co_Die => k_is)
      (case ck_Die => k_is)
      (case mf_Told_is_told => (first | k_is | kernel_rfl))
      (case ml_Told_is_told => k_is)
      (case mo_Told_is_told => k_is)
      (case mk_Told_is_told => k_is)
      (case mi_Told_is_told => (first | k_is | kernel_rfl))
      (case mf_Die_is_told => (first | k_is | kernel_rfl))
      (case ml_Die_is_told => k_is)
      (case mo_Die_is_told => k_is)
      (case mk_Die_is_told => k_is)
      (case mi_Die_is_told => (first | k_is | kernel_rfl))
      (case mf_Told_kept => (first | k_is | kernel_rfl))
      (case ml_Told_kept => k_is)
      (case mo_Told_kept => k_is)
      (case mk_Told_kept => k_is)
      (case mi_Told_kept => (first | k_is | kernel_rfl))
      (case mf_Die_kept => (first | k_is | kernel_rfl))
      (case ml_Die_kept => k_is)
      (case mo_Die_kept => k_is)
      (case mk_Die_kept => k_is)
      (case mi_Die_kept => (first | k_is | kernel_rfl))
      (case mf_Told_sides => (first | k_is | kernel_rfl))
      (case ml_Told_sides => k_is)
      (case mo_Told_sides => k_is)
      (case mk_Told_sides => k_is)
      (case mi_Told_sides => (first | k_is | kernel_rfl))
      (case mf_Die_sides => (first | k_is | kernel_rfl))
      (case ml_Die_sides => k_is)
      (case mo_Die_sides => k_is)
      (case mk_Die_sides => k_is)
      (case mi_Die_sides => (first | k_is | kernel_rfl))
      (case mf_Told_parts => (first | k_is | kernel_rfl))
      (case ml_Told_parts => k_is)
      (case mo_Told_parts => k_is)
      (case mk_Told_parts => k_is)
      (case mi_Told_parts => (first | k_is | kernel_rfl))
      (case mf_Die_parts => (first | k_is | kernel_rfl))
      (case ml_Die_parts => k_is)
      (case mo_Die_parts => k_is)
      (case mk_Die_parts => k_is)
      (case mi_Die_parts => (first | k_is | kernel_rfl))
      (case mf_Die_after => (first | k_is | kernel_rfl))
      (case ml_Die_after => k_is)
      (case mo_Die_after => k_is)
      (case mk_Die_after => k_is)
      (case mi_Die_after => (first | k_is | kernel_rfl))
      (case lca_last_die => exact rfl)
      (case lct_last_die => k_is)
      (case lcq_last_die => exact rfl)
      (case lch_last_die => kernel_rfl)
      (case lca_settled_make => exact rfl)
      (case lct_settled_make => k_is)
      (case lcq_settled_make => exact rfl)
      (case lch_settled_make => kernel_rfl)
      (case ltnd => decide)
      (case z0 => k_is)
      (case z1 => k_is)
      (case z2 => k_is)
      (case z3 => k_is)
      (case z4 => k_is)
      (case z5 => k_is)
      (case z6 => k_is)
      (case z7 => k_is)
      (case z8 => k_is)
      (case z9 => k_is)
      (case z10 => k_is)
      (case z11 => k_is)

    obtain ⟨a, T, e1⟩ := T
    have e1 := e1.trans hts
    have e0 := hmg.symm.trans T.m_law
    cases e0
    refine' ⟨a.d_law, ?b, ?t, ?u, fun base kb nb hB => My.ok_law T hB ?v⟩
    case b => exact T.bl
    case t =>
      intro P hP
      have hP := e1.symm ▸ hP
      simp only [My.tabs, List.map_cons, List.map_nil, List.mem_cons, List.not_mem_nil, or_false] at hP
      rcases hP with rfl | rfl
      · exact ⟨_, T.lch_last_die⟩
      · exact ⟨_, T.lch_settled_make⟩
    case u =>
      intro P hP
      simp only [List.mem_cons, List.not_mem_nil, or_false] at hP
      rcases hP with rfl | rfl <;> kernel_rfl
    case v =>
      intro q hq
      rw [← e1]
      exact List.mem_map_of_mem hq
  case S => exact fun K H a ns hl hO hS => My.law_start hl hO hS
  case C => exact fun H s e s' z => z

