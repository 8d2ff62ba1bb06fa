import PyProof.Rows.All
import Wide.All
import OpenK.AllK
import Wide.FinOn
import Lean
import PyProof.EqAt
import PyProof.EqKinds
import PyProof.TupleCall
import PySem.Challenge.RW_fewspeak_k82_tables_refused
set_option Elab.async false
set_option linter.all false
set_option maxRecDepth 100000
/-! THE HAND LAYER, for ints, bools, texts, own classes, LISTS and tuples (index, slices, in, append, pop ..), calls, loops. Paste it whole ahead of your own text; what your proof does not reach may be deleted. -/
namespace L2
open PySem PySem.Spec PyProof.Rows

/-- a key: an int or a str -/
abbrev Key := Sum Int Str
def keyIs : Key → Value → Bool
  | .inl k, v => Value.isInt k v
  | .inr x, v => Value.isStrOf x v
def keyH (w : World) : Key → Int
  | .inl k => hashInt k
  | .inr x => hashStr w x
theorem keyIs_shape : ∀ {k : Key} {v : Value}, keyIs k v = true → (∃ i t, k = Sum.inl i ∧ v = Value.int i t) ∨ (∃ x t, k = Sum.inr x ∧ v = Value.str x t)
  | .inl i, v, h => by
    obtain ⟨t, e⟩ := Value.isInt_shape (k := i) (v := v) h
    exact .inl ⟨i, t, rfl, e⟩
  | .inr x, v, h => by
    obtain ⟨t, e⟩ := Value.isStrOf_shape (x := x) (v := v) h
    exact .inr ⟨x, t, rfl, e⟩
theorem keyIs_int (i : Int) (t : Tok) : keyIs (.inl i) (.int i t) = true := by simp [keyIs, Value.isInt]
theorem keyIs_str (x : Str) (t : Tok) : keyIs (.inr x) (.str x t) = true := by simp [keyIs, Value.isStrOf]
theorem key_ll (a b : Int) : decide ((Sum.inl a : Key) = Sum.inl b) = (a == b) := by
  by_cases e : a = b
  · subst e; simp
  · have h : ¬ (Sum.inl a : Key) = Sum.inl b := fun q => e (Sum.inl.inj q)
    rw [decide_eq_false h]
    exact (beq_eq_false_iff_ne.mpr e).symm
theorem key_rr (a b : Str) : decide ((Sum.inr a : Key) = Sum.inr b) = decide (a = b) := by
  by_cases e : a = b
  · subst e; simp
  · have h : ¬ (Sum.inr a : Key) = Sum.inr b := fun q => e (Sum.inr.inj q)
    rw [decide_eq_false h, decide_eq_false e]
theorem key_lr (a : Int) (b : Str) : decide ((Sum.inl a : Key) = Sum.inr b) = false := decide_eq_false (fun q => nomatch q)
theorem key_rl (a : Str) (b : Int) : decide ((Sum.inr a : Key) = Sum.inl b) = false := decide_eq_false (fun q => nomatch q)

def mixKind (prog : Program) (w : World) : PySem.KeyKind prog w Key where
  is := keyIs
  hash := keyH w
  inj := fun v a b ha hb => by
    rcases keyIs_shape ha with ⟨i, t, rfl, rfl⟩ | ⟨x, t, rfl, rfl⟩
    · rcases keyIs_shape hb with ⟨j, u, rfl, e⟩ | ⟨y, u, rfl, e⟩
      · injection e with e1 _; rw [e1]
      · exact nomatch e
    · rcases keyIs_shape hb with ⟨j, u, rfl, e⟩ | ⟨y, u, rfl, e⟩
      · exact nomatch e
      · injection e with e1 _; rw [e1]
  byValue := fun k v h => by
    rcases keyIs_shape h with ⟨i, t, rfl, rfl⟩ | ⟨x, t, rfl, rfl⟩ <;> rfl
  pyHash := fun hv h => by
    rcases keyIs_shape hv with ⟨i, t, rfl, rfl⟩ | ⟨x, t, rfl, rfl⟩
    · exact wpAny_pyHash_int h
    · exact wpAny_pyHash_str h
  eqBool := fun hu hv h => by
    rcases keyIs_shape hu with ⟨i, t, rfl, rfl⟩ | ⟨x, t, rfl, rfl⟩
    · rcases keyIs_shape hv with ⟨j, u, rfl, rfl⟩ | ⟨y, u, rfl, rfl⟩
      · rw [key_ll] at h; exact wpAny_eqBool_int h
      · rw [key_lr] at h; exact SeqAt.EqAt.int_str i t y u _ _ _ _ h
    · rcases keyIs_shape hv with ⟨j, u, rfl, rfl⟩ | ⟨y, u, rfl, rfl⟩
      · rw [key_rl] at h; exact SeqAt.EqAt.str_int x t j u _ _ _ _ h
      · rw [key_rr] at h; exact wpAny_eqBool_str h
  «strs» := fun k x t v h => by
    rcases keyIs_shape h with ⟨i, u, rfl, e⟩ | ⟨y, u, rfl, e⟩
    · exact nomatch e
    · injection e with e1 _
      subst e1
      cases v <;> rfl

theorem mixKind_int (prog : Program) (w : World) (i : Int) (t : Tok) : (mixKind prog w).is (.inl i) (.int i t) = true := keyIs_int i t
theorem mixKind_str (prog : Program) (w : World) (x : Str) (t : Tok) : (mixKind prog w).is (.inr x) (.str x t) = true := keyIs_str x t
end L2

namespace L2
open PySem PySem.Spec PyProof.Rows

/-- a value, without the heap -/
inductive V where
  | non | bl (b : Bool) | int (i : Int) | str (x : Str) | byt (b : Array UInt8) | flt (b : UInt64) | ref (a : Addr) | ty (n : String)
  deriving DecidableEq

def RelV : V → Value → Prop
  | .non, u => u = Value.none
  | .bl b, u => u = Value.bool b
  | .int i, u => ∃ t, u = Value.int i t
  | .str x, u => ∃ t, u = Value.str x t
  | .byt b, u => ∃ t, u = Value.bytes b t
  | .flt b, u => ∃ t, u = Value.float b t
  | .ref a, u => u = Value.ref a
  | .ty n, u => u = Value.type n

abbrev Vals : List V → List Value → Prop := Paired RelV
theorem Vals.length {xs : List V} {us : List Value} (r : Vals xs us) : xs.length = us.length := Paired.length r
theorem Vals.get : ∀ {xs : List V} {us : List Value} {i : Nat} {x : V}, Vals xs us → xs[i]? = some x → ∃ u, us[i]? = some u ∧ RelV x u
  | _, _, _, _, .nil, e => by simp at e
  | _, _, 0, _, .cons r _, e => by simp at e; subst e; exact ⟨_, rfl, r⟩
  | _, _, i + 1, x, .cons _ t, e => by
    obtain ⟨u, h1, h2⟩ := Vals.get (i := i) (x := x) t (by simpa using e)
    exact ⟨u, by simpa using h1, h2⟩
theorem Vals.set {x : V} {u : Value} (r : RelV x u) : ∀ {xs : List V} {us : List Value} (i : Nat), Vals xs us → Vals (xs.set i x) (us.set i u)
  | _, _, _, .nil => .nil
  | _, _, 0, .cons _ t => .cons r t
  | _, _, i + 1, .cons q t => .cons q (Vals.set r i t)
theorem Vals.append : ∀ {xs ys : List V} {us ws : List Value}, Vals xs us → Vals ys ws → Vals (xs ++ ys) (us ++ ws)
  | _, _, _, _, .nil, s => s
  | _, _, _, _, .cons r t, s => .cons r (Vals.append t s)
theorem Vals.take : ∀ {xs : List V} {us : List Value} (n : Nat), Vals xs us → Vals (xs.take n) (us.take n)
  | _, _, 0, _ => .nil
  | _, _, _ + 1, .nil => .nil
  | _, _, n + 1, .cons r t => .cons r (Vals.take n t)
theorem Vals.drop : ∀ {xs : List V} {us : List Value} (n : Nat), Vals xs us → Vals (xs.drop n) (us.drop n)
  | _, _, 0, r => r
  | _, _, _ + 1, .nil => .nil
  | _, _, n + 1, .cons _ t => Vals.drop n t
theorem Vals.none_of : ∀ {xs : List V} {us : List Value} {i : Nat}, Vals xs us → xs[i]? = none → us[i]? = none := fun {xs us i} r e => by
  have h1 := r.length
  have h2 : xs.length ≤ i := List.getElem?_eq_none_iff.mp e
  exact List.getElem?_eq_none_iff.mpr (by omega)

def RelO : Option V → Option Value → Prop
  | some v, some u => RelV v u
  | none, none => True
  | _, _ => False
def KV {κ : Type} : List (κ × V) → List (κ × Value) → Prop := Paired fun (p : κ × V) (q : κ × Value) => p.1 = q.1 ∧ RelV p.2 q.2

/-- a key of a dict (00_mix): an int or a text -/
def kV : Key → V
  | .inl i => .int i
  | .inr x => .str x

/-- what stands at a tracked address -/
inductive HO where
  /-- a list -/
  | lst (xs : List V)
  /-- a tuple (never changes) -/
  | tup (xs : List V)
  /-- a dict whose keys are ints and texts; one whose keys are tuples of ints and texts (the empty one is both) -/
  | dK (kvs : List (Key × V)) | dT (kvs : List (List Key × V))
  /-- a set of ints: its members, its size -/
  | set (S : Int → Bool) (n : Nat)
  /-- an instance of the class at C, its dict at dx, its attributes -/
  | ins (C dx : Addr) (fs : List (Str × V))
  /-- the dict of the instance at x -/
  | own (x : Addr)
  /-- the dict of an exception -/
  | xd (fs : List (Str × V))
  /-- a bound method, f of x -/
  | met (f x : Addr)
  /-- a range object lo, lo + 1, .. below hi -/
  | rng (lo hi : Int)
  /-- a thing that is known to the object (the script; a dict while a loop walks it): read, never written while it is so -/
  | frz (o : Obj) (u : HO)
  /-- a code object's table -/
  | tbl (ps : Array Value)
  /-- any other thing, by what is true of its one object (a def of one's own: SetO a S n := HO.ext fun h => ..) -/
  | ext (φ : Heap → Prop)

abbrev Hp := Addr → Option HO
def upd (H : Hp) (a : Addr) (o : HO) : Hp := fun b => if b = a then some o else H b
theorem upd_same {H : Hp} {a : Addr} {o : HO} : upd H a o a = some o := by unfold upd; rw [if_pos rfl]
theorem upd_ne {H : Hp} {a b : Addr} {o : HO} (h : b ≠ a) : upd H a o b = H b := by unfold upd; rw [if_neg h]
/-- two objects of different content stand apart -/
theorem ne_of {H : Hp} {a b : Addr} {o u : HO} (h : H a = some o) (h' : H b = some u) (d : o ≠ u) : a ≠ b := by
  intro e; subst e; rw [h] at h'; exact d (Option.some.inj h')
theorem ne_of_none {H : Hp} {a b : Addr} {o : HO} (h : H a = some o) (h' : H b = none) : a ≠ b := by
  intro e; subst e; rw [h] at h'; cases h'

section
variable (P : Program) (w : World)
def ObjOk (H : Hp) (h : Heap) (a : Addr) : HO → Prop
  | .lst xs => xs.length ≤ sizeLine ∧ ∃ (its : List Value) (n : Nat), Vals xs its ∧ h.get? a = some { cls := .type "list", data := .seq its.toArray n }
  | .tup xs => xs.length ≤ sizeLine ∧ ∃ its : List Value, Vals xs its ∧ IsTup h a its.toArray
  | .dK kvs => kvs.length ≤ sizeLine ∧ (a == sysModules) = false ∧ ∃ vs, KV kvs vs ∧ h.DictOf (mixKind P w) a vs
  | .dT kvs => kvs.length ≤ sizeLine ∧ (a == sysModules) = false ∧ ∃ xs : List (List Key × Addr × Value),
      Paired (fun (p : List Key × V) (q : List Key × Addr × Value) => p.1 = q.1 ∧ H q.2.1 = some (.tup (p.1.map kV)) ∧ RelV p.2 q.2.2) kvs xs ∧
      ∃ o es ep, h.get? a = some o ∧ o.ExactDict ∧ o.data = .dict es ep ∧ es.toList = xs.map (entryOfKey (tupleKind (mixKind P w))) ∧ (xs.map (·.1)).Nodup
  | .set S n => h.SetOf (intKind P w) a S n
  | .ins C dx fs => H dx = some (.own a) ∧ fs.length ≤ 1000 ∧ dx ≠ a ∧ h.get? a = some (PySem.W.instObj C dx) ∧
      ∃ mA, h.Ns1 dx mA ∧ (∀ f, RelO (fs.lookup f) (mA f)) ∧ PySem.Within mA (fs.map (·.1))
  | .own _ => ∃ o, h.get? a = some o
  | .xd fs => ∃ mA, h.Ns1 a mA ∧ ∀ f, RelO (fs.lookup f) (mA f)
  | .rng lo hi => ∃ t u v, h.get? a = some { cls := .type "range", data := .fields #[.int lo t, .int hi u, .int 1 v] }
  | .frz o u => h.get? a = some o ∧ ObjOk H h a u
  | .tbl ps => h.get? a = some { cls := .none, data := .fields ps }
  | .met f x => h.get? a = some (PySem.W.methodObj (.ref f) (.ref x))
  | .ext φ => φ h ∧ (∃ o, h.get? a = some o) ∧ ∀ h1 h2 : Heap, φ h1 → (∀ o, h1.get? a = some o → h2.get? a = some o) → φ h2
/-- the abstract heap is held -/
def HOk (H : Hp) (h : Heap) : Prop := ∀ a o, H a = some o → ObjOk P w H h a o
end

section
variable {P : Program} {w : World} {H H' : Hp} {h h' : Heap} {a : Addr} {o : HO}
theorem ObjOk.lt (x : ObjOk P w H h a o) : a < h.objs.size := by
  cases o with
  | lst xs => obtain ⟨_, _, _, _, e⟩ := x; exact Heap.lt_size e
  | tup xs => obtain ⟨_, _, _, p⟩ := x; exact p.lt
  | dK kvs => obtain ⟨_, _, _, _, o, _, _, e, _⟩ := x; exact Heap.lt_size e
  | dT kvs => obtain ⟨_, _, _, _, o, _, _, e, _⟩ := x; exact Heap.lt_size e
  | set S n => obtain ⟨o, _, _, _, e, _⟩ := x; exact Heap.lt_size e
  | ins C dx fs => obtain ⟨_, _, _, e, _⟩ := x; exact Heap.lt_size e
  | own y => obtain ⟨_, e⟩ := x; exact Heap.lt_size e
  | xd fs => obtain ⟨_, ⟨_, _, _, e, _⟩, _⟩ := x; exact Heap.lt_size e
  | rng lo hi => obtain ⟨_, _, _, e⟩ := x; exact Heap.lt_size e
  | frz ob u => obtain ⟨e, _⟩ := x; exact Heap.lt_size e
  | tbl ps => exact Heap.lt_size (show h.get? a = some _ from x)
  | met f y => exact Heap.lt_size (show h.get? a = some _ from x)
  | ext φ => obtain ⟨_, ⟨_, e⟩, _⟩ := x; exact Heap.lt_size e
theorem Paired.mapP {α β : Type} {F G : α → β → Prop} : ∀ {l₁ : List α} {l₂ : List β}, Paired F l₁ l₂ → (∀ a b, F a b → G a b) → Paired G l₁ l₂
  | _, _, .nil, _ => .nil
  | _, _, .cons r t, f => .cons (f _ _ r) (Paired.mapP t f)
/-- what an object's description leans on: its own object, its own dict, the tuples -/
theorem ObjOk.stay (x : ObjOk P w H h a o) (k : ∀ b u, (b = a ∨ H b = some (.own a)) → h.get? b = some u → h'.get? b = some u)
    (ho : ∀ b, H b = some (.own a) → H' b = some (.own a)) (ht : ∀ b xs, H b = some (.tup xs) → H' b = some (.tup xs)) : ObjOk P w H' h' a o := by
  induction o with
  | lst xs => obtain ⟨z, its, n, r, e⟩ := x; exact ⟨z, its, n, r, k _ _ (.inl rfl) e⟩
  | tup xs => obtain ⟨z, its, r, ob, e, c⟩ := x; exact ⟨z, its, r, ob, k _ _ (.inl rfl) e, c⟩
  | dK kvs => obtain ⟨z, y, vs, r, ob, es, ep, e, c⟩ := x; exact ⟨z, y, vs, r, ob, es, ep, k _ _ (.inl rfl) e, c⟩
  | dT kvs =>
    obtain ⟨z, y, xs, r, ob, es, ep, e, c⟩ := x
    exact ⟨z, y, xs, Paired.mapP r fun p q z => ⟨z.1, ht _ _ z.2.1, z.2.2⟩, ob, es, ep, k _ _ (.inl rfl) e, c⟩
  | set S n => obtain ⟨ob, es, ep, t, e, c⟩ := x; exact ⟨ob, es, ep, t, k _ _ (.inl rfl) e, c⟩
  | ins C dx fs =>
    obtain ⟨d, z, ne, e, mA, ⟨od, es, ep, e2, c⟩, r⟩ := x
    exact ⟨ho _ d, z, ne, k _ _ (.inl rfl) e, mA, ⟨od, es, ep, k _ _ (.inr d) e2, c⟩, r⟩
  | own y => obtain ⟨ob, e⟩ := x; exact ⟨ob, k _ _ (.inl rfl) e⟩
  | xd fs => obtain ⟨mA, ⟨od, es, ep, e, c⟩, r⟩ := x; exact ⟨mA, ⟨od, es, ep, k _ _ (.inl rfl) e, c⟩, r⟩
  | rng lo hi => obtain ⟨t, u, v, e⟩ := x; exact ⟨t, u, v, k _ _ (.inl rfl) e⟩
  | frz ob u ih => obtain ⟨e, q⟩ := x; exact ⟨k _ _ (.inl rfl) e, ih q⟩
  | tbl ps =>
    have e : h.get? a = some { cls := .none, data := .fields ps } := x
    show h'.get? a = some { cls := .none, data := .fields ps }
    exact k a _ (.inl rfl) e
  | met f y =>
    have e : h.get? a = some (PySem.W.methodObj (.ref f) (.ref y)) := x
    show h'.get? a = some (PySem.W.methodObj (.ref f) (.ref y))
    exact k a _ (.inl rfl) e
  | ext φ => obtain ⟨p, ⟨o, e⟩, st⟩ := x; exact ⟨st _ _ p fun o q => k _ _ (.inl rfl) q, ⟨o, k _ _ (.inl rfl) e⟩, st⟩
theorem HOk.lt (x : HOk P w H h) (e : H a = some o) : a < h.objs.size := (x a o e).lt
theorem HOk.fresh (x : HOk P w H h) (e : h.objs.size ≤ a) : H a = none := by
  cases q : H a with
  | none => rfl
  | some u => exact absurd (Nat.lt_of_lt_of_le (x.lt q) e) (Nat.lt_irrefl _)
/-- every object of the heap is kept -/
theorem HOk.kept (x : HOk P w H h) (k : ∀ b u, h.get? b = some u → h'.get? b = some u) : HOk P w H h' := fun a o e =>
  (x a o e).stay (fun b u _ q => k b u q) (fun _ q => q) fun _ _ q => q
/-- a new object is laid and tracked -/
theorem HOk.laid (x : HOk P w H h) (k : ∀ b u, h.get? b = some u → h'.get? b = some u) (hp : h.objs.size ≤ a) (new : ObjOk P w (upd H a o) h' a o) : HOk P w (upd H a o) h' := fun b u e => by
  have hn := x.fresh hp
  by_cases hb : b = a
  · subst hb; rw [upd_same] at e; cases e; exact new
  · rw [upd_ne hb] at e
    exact (x b u e).stay (fun c v _ q => k c v q) (fun c q => by rw [upd_ne (ne_of_none q hn)]; exact q) fun c xs q => by rw [upd_ne (ne_of_none q hn)]; exact q
end

/-- what may be read as u: it is u, or a known u -/
def Rd (H : Hp) (a : Addr) (u : HO) : Prop := H a = some u ∨ ∃ o, H a = some (.frz o u)
theorem Rd.of {H : Hp} {a : Addr} {u : HO} (h : H a = some u) : Rd H a u := .inl h
theorem Rd.ok {P : Program} {w : World} {H : Hp} {h : Heap} {a : Addr} {u : HO} (r : Rd H a u) (x : HOk P w H h) : ObjOk P w H h a u := by
  rcases r with r | ⟨o, r⟩
  · exact x a u r
  · obtain ⟨_, q⟩ := x a _ r
    exact q
/-- what may be written -/
def Mut : Option HO → Prop
  | some (.lst _) => True
  | some (.dK _) => True
  | some (.dT _) => True
  | some (.set _ _) => True
  | some (.ins _ _ _) => True
  | some (.ext _) => True
  | _ => False
section
variable {P : Program} {w : World} {H : Hp} {h h' : Heap} {x e : Addr} {o' : HO}
/-- the object at e is changed: x itself, or the dict of the instance x -/
theorem HOk.write (ok : HOk P w H h) (mu : Mut (H x)) (he : e = x ∨ H e = some (.own x)) (k : ∀ b u, b ≠ e → h.get? b = some u → h'.get? b = some u) (heo : ∃ u, h'.get? e = some u)
    (new : ObjOk P w (upd H x o') h' x o') : HOk P w (upd H x o') h' := fun b u q => by
  have nown : ∀ c y, H c = some (.own y) → c ≠ x := fun c y r z => by subst z; rw [r] at mu; exact mu
  have ntup : ∀ c xs, H c = some (.tup xs) → c ≠ x := fun c xs r z => by subst z; rw [r] at mu; exact mu
  by_cases hb : b = x
  · subst hb; rw [upd_same] at q; cases q; exact new
  · rw [upd_ne hb] at q
    by_cases hbe : b = e
    · have q' : H b = some (.own x) := by
        rcases he with z | z
        · exact absurd (hbe.trans z) hb
        · rw [hbe]; exact z
      rw [q] at q'; cases q'
      obtain ⟨v, hv⟩ := heo
      exact ⟨v, by rw [hbe]; exact hv⟩
    · refine (ok b u q).stay (fun c v hc r => k c v ?_ r) (fun c r => by rw [upd_ne (nown c b r)]; exact r) fun c xs r => by rw [upd_ne (ntup c xs r)]; exact r
      rcases hc with rfl | hc
      · exact hbe
      · rintro rfl
        rcases he with z | z
        · exact nown c b hc z
        · rw [hc] at z; cases z; exact hb rfl
end

/-! ### kept unless tracked; of the frames at fs (the callers') the slots may change (an exception that passes writes there); of the records at ex (iterators) nothing is said -/
structure Un (fs ex : List Addr) (H H' : Hp) (h h' : Heap) : Prop where
  keep : ∀ b o, h.get? b = some o → H b = none → b ∉ fs → b ∉ ex → h'.get? b = some o
  slot : ∀ b o, h.get? b = some o → H b = none → b ∈ fs → b ∉ ex → ∃ sl, h'.get? b = some { o with slots := sl }
  free : ∀ b o, h.get? b = some o → H b = none → b ∉ ex → H' b = none
  there : ∀ b o, h.get? b = some o → b ∉ ex → ∃ o', h'.get? b = some o'
  tups : ∀ b xs, H b = some (.tup xs) → H' b = some (.tup xs)
  frzs : ∀ b o u, H b = some (.frz o u) → H' b = some (.frz o u)
  tbls : ∀ b ps, H b = some (.tbl ps) → ∃ more, H' b = some (.tbl (ps ++ more))
section
variable {fs fs' ex ex' : List Addr} {H H1 H2 : Hp} {h h1 h2 h' : Heap} {a x e : Addr} {o : HO}
theorem Un.any (u : Un fs ex H H1 h h1) {b : Addr} {ob : Obj} (q : h.get? b = some ob) (n : H b = none) (hx : b ∉ ex) : ∃ sl, h1.get? b = some { ob with slots := sl } := by
  by_cases hb : b ∈ fs
  · exact u.slot b ob q n hb hx
  · exact ⟨ob.slots, u.keep b ob q n hb hx⟩
theorem Un.trans (a : Un fs ex H H1 h h1) (b : Un fs ex H1 H2 h1 h2) : Un fs ex H H2 h h2 where
  keep := fun c ob q n hc hx => b.keep c ob (a.keep c ob q n hc hx) (a.free c ob q n hx) hc hx
  slot := fun c ob q n hc hx => by
    obtain ⟨sl, e1⟩ := a.slot c ob q n hc hx
    obtain ⟨sl', e2⟩ := b.slot c _ e1 (a.free c ob q n hx) hc hx
    exact ⟨sl', e2⟩
  free := fun c ob q n hx => by
    obtain ⟨o', e1⟩ := a.there c ob q hx
    exact b.free c o' e1 (a.free c ob q n hx) hx
  there := fun c ob q hx => by
    obtain ⟨o', e1⟩ := a.there c ob q hx
    exact b.there c o' e1 hx
  tups := fun c xs q => b.tups c xs (a.tups c xs q)
  frzs := fun c ob xs q => b.frzs c ob xs (a.frzs c ob xs q)
  tbls := fun c ps q => by
    obtain ⟨m1, e1⟩ := a.tbls c ps q
    obtain ⟨m2, e2⟩ := b.tbls c _ e1
    exact ⟨m1 ++ m2, by rw [e2, Array.append_assoc]⟩
theorem Un.kept (k : ∀ b u, h.get? b = some u → h'.get? b = some u) : Un fs ex H H h h' :=
  ⟨fun b ob q _ _ _ => k b ob q, fun b ob q _ _ _ => ⟨ob.slots, k b ob q⟩, fun _ _ _ n _ => n, fun b ob q _ => ⟨ob, k b ob q⟩, fun _ _ q => q, fun _ _ _ q => q, fun _ ps q => ⟨#[], by rw [q]; simp⟩⟩
theorem Un.refl : Un fs ex H H h h := Un.kept fun _ _ q => q
theorem Un.laid (k : ∀ b u, h.get? b = some u → h'.get? b = some u) (hp : h.objs.size ≤ a) (hn : H a = none) : Un fs ex H (upd H a o) h h' where
  keep := fun b u q _ _ _ => k b u q
  slot := fun b u q _ _ _ => ⟨u.slots, k b u q⟩
  free := fun b u q n _ => by rw [upd_ne (Nat.ne_of_lt (Nat.lt_of_lt_of_le (Heap.lt_size q) hp))]; exact n
  there := fun b u q _ => ⟨u, k b u q⟩
  tups := fun b xs q => by rw [upd_ne (ne_of_none q hn)]; exact q
  frzs := fun b u xs q => by rw [upd_ne (ne_of_none q hn)]; exact q
  tbls := fun b ps q => ⟨#[], by rw [upd_ne (ne_of_none q hn), q]; simp⟩
theorem Un.write (mu : Mut (H x)) (he : e = x ∨ H e = some (.own x)) (k : ∀ b u, b ≠ e → h.get? b = some u → h'.get? b = some u) (heo : ∃ u, h'.get? e = some u) : Un fs ex H (upd H x o) h h' := by
  have hx : ∀ b, H b = none → b ≠ x := fun b n z => by subst z; rw [n] at mu; exact mu
  have hb : ∀ b, H b = none → b ≠ e := fun b n z => by
    subst z
    rcases he with r | r
    · exact hx b n r
    · rw [n] at r; cases r
  have hm : ∀ b u, H b = some u → ¬ Mut (some u) → b ≠ x := fun b u q nm z => by subst z; rw [q] at mu; exact nm mu
  refine ⟨fun b u q n _ _ => k b u (hb b n) q, fun b u q n _ _ => ⟨u.slots, k b u (hb b n) q⟩, fun b u q n _ => by rw [upd_ne (hx b n)]; exact n, fun b u q _ => ?_,
    fun b xs q => by rw [upd_ne (hm b _ q fun z => z)]; exact q, fun b u xs q => by rw [upd_ne (hm b _ q fun z => z)]; exact q, fun b ps q => ⟨#[], by rw [upd_ne (hm b _ q fun z => z), q]; simp⟩⟩
  by_cases hbe : b = e
  · subst hbe; exact heo
  · exact ⟨u, k b u hbe q⟩
theorem Un.mono (u : Un fs ex H H1 h h1) (hs : ∀ b ∈ fs, b ∈ fs') (hx : ∀ b ∈ ex, b ∈ ex') : Un fs' ex' H H1 h h1 :=
  ⟨fun b ob q n hb he => u.keep b ob q n (fun z => hb (hs b z)) fun z => he (hx b z), fun _ _ q n _ he => u.any q n fun z => he (hx _ z), fun b ob q n he => u.free b ob q n fun z => he (hx b z), fun b ob q he => u.there b ob q fun z => he (hx b z), u.tups, u.frzs, u.tbls⟩
end

/-! ### the heap without what is tracked -/
def trk (h : Heap) (H : Hp) : List Addr := (List.range h.objs.size).filter fun a => (H a).isSome
def hidT (h : Heap) (H : Hp) : Heap := PySem.W.hideAll h (trk h H)
theorem hidT_size (h : Heap) (H : Hp) : (hidT h H).objs.size = h.objs.size := PySem.W.hideAll_size _ _
theorem hidT_get {h : Heap} {H : Hp} {b : Addr} {o : Obj} (e : h.get? b = some o) (n : H b = none) : (hidT h H).get? b = some o :=
  PySem.W.hideAll_get _ e fun hm => by
    have q : (H b).isSome = true := (List.mem_filter.mp hm).2
    rw [n] at q; simp at q
theorem of_hidT {h : Heap} {H : Hp} {b : Addr} {o : Obj} (e : (hidT h H).get? b = some o) : h.get? b = some o ∧ H b = none := by
  have e' : h.get? b = some o := PySem.W.of_hideAll (trk h H) e
  refine ⟨e', ?_⟩
  cases q : H b with
  | none => rfl
  | some x =>
    have hm : b ∈ trk h H := List.mem_filter.mpr ⟨List.mem_range.mpr (Heap.lt_size e'), by simp [q]⟩
    have z : (hidT h H).get? b = none := PySem.W.hideAll_none (trk h H) hm
    rw [z] at e; cases e

/-! ### OpenK's ledger, filled with every new object but one -/
def allNews (g h : Heap) (L : Addr) : List (Addr × Obj) := (List.range h.objs.size).filterMap fun a => if a = L ∨ (g.get? a).isSome = true then none else (h.get? a).map fun o => (a, o)
def rest (g h : Heap) (L d : Addr) : List (Addr × Obj) := (allNews g h L).filter fun p => decide (p.1 ≠ d)
end L2

namespace L2
open PySem PySem.Spec PyProof.Rows

/-- the module's facts, over the base: the heap at the law's entry without what is tracked there -/
structure Mod (K : PySem.W.Frag) (mg : Str → Option Value) (base : Heap) : Prop where
  kin : K.In base
  glob : base.Ns mainGlobals mg
  blt : ∃ mb, base.Ns builtinsNs mb ∧ ∀ x : Str, x ≠ "__name__" → mb x = bootBuiltins x
  nolimit : base.NoLimit

/-- the context: a def's body (or a comprehension's block) running. base: fixed through the whole law; s₀, H₀: the entry; outer: the frames whose slots others may change (a def's callers); stack: all frames that run;
   ex: iterators that were made ahead of the entry and are walked here (a comprehension's); fn: the names whose cells were made at the entry (a def: all; a comprehension's block: its own); calm: not within an except suite; pn: pins that every state bears; xe: what is wanted of an exception that leaves the code -/
structure Cx where
  prog : Program
  w : World
  K : PySem.W.Frag
  mg : Str → Option Value
  base : Heap
  A : Around
  N : List Str
  s₀ : Shared
  H₀ : Hp
  env : Env
  outer : List Env
  stack : List Env
  ex : List Addr
  fn : Str → Bool
  calm : Bool
  pn : List (Addr × Obj)
  xe : Value → Shared → Prop
/-- the callers' frames -/
def frs (l : List Env) : List Addr := l.filterMap (·.frame)
abbrev Cx.fs (X : Cx) : List Addr := frs X.outer

def Vis (sc : Scope) (x : Str) : Prop := sc.names.lookup x = some .local ∨ sc.names.lookup x = some .cell ∨ sc.names.lookup x = some .free
def Loc (sc : Scope) (x : Str) : Prop := sc.names.lookup x = some .local ∨ sc.names.lookup x = some .cell
def Look (env : Env) (h : Heap) (m : Str → Option Value) (x : Str) (u : Value) : Prop :=
  (env.kindOf x = some .local ∧ m x = some u) ∨ ((env.kindOf x = some .cell ∨ env.kindOf x = some .free) ∧ ∃ c, env.cells.lookup x = some c ∧ h.IsCell c (some u))

structure Cx.Ok (X : Cx) : Prop where
  mod : Mod X.K X.mg X.base
  kind : X.env.scope.kind = .function
  glob : X.env.globals = mainGlobals
  blt : X.env.builtins = builtinsNs
  above : X.s₀.heap.objs.size ≤ X.env.locals
  inj : ∀ x y c, X.env.cells.lookup x = some c → X.env.cells.lookup y = some c → x = y
  has : ∀ x, (X.env.kindOf x = some .cell ∨ X.env.kindOf x = some .free) → ∃ c, X.env.cells.lookup x = some c
  cab : ∀ x c, X.fn x = true → X.env.cells.lookup x = some c → X.s₀.heap.objs.size ≤ c
  hd : X.calm = true → X.A.handled = none
  frames : X.A.frames = some X.stack
  stk : X.stack = X.outer ∨ (X.stack = X.env :: X.outer ∧ X.env.frame = some X.env.locals)
  exf : ∀ b ∈ X.ex, b ≠ X.env.locals ∧ ∀ x c, X.env.cells.lookup x = some c → c ≠ b
  bs : ∀ b o, X.base.get? b = some o → X.s₀.heap.get? b = some o ∧ X.H₀ b = none
  bsz : X.base.objs.size ≤ X.s₀.heap.objs.size
  noex : ∀ b o, X.base.get? b = some o → b ∉ X.ex
  exfs : ∀ b ∈ X.ex, b ∉ X.fs
  funs : X.s₀.heap.FunFrames X.base X.outer
  frf : ∀ b ∈ X.fs, X.H₀ b = none

structure Inv (X : Cx) (pins : List (Addr × Obj)) (σ : List (Option V)) (H : Hp) (s : Shared) : Prop where
  ok : X.Ok
  os : s.os = X.s₀.os
  bare : AllBare s.gens
  base : Un X.fs X.ex X.H₀ H X.s₀.heap s.heap
  loc : ∃ m, s.heap.Ns X.env.locals m ∧ ∀ (i : Nat) (x : Str) (v : V), X.N[i]? = some x → σ[i]? = some (some v) → Vis X.env.scope x → ∃ u, RelV v u ∧ Look X.env s.heap m x u
  cell : ∀ x c, X.env.cells.lookup x = some c → ∃ v, s.heap.IsCell c v
  free : H X.env.locals = none
  freeC : ∀ x c, X.env.cells.lookup x = some c → H c = none
  pin : ∀ p ∈ X.pn ++ pins, s.heap.get? p.1 = some p.2 ∧ H p.1 = none ∧ p.1 ≠ X.env.locals ∧ p.1 ∉ X.fs ∧ ∀ v, p.2.data ≠ .cell v
  hok : HOk X.prog X.w H s.heap
  len : σ.length = X.N.length

section
variable {X : Cx} {pins : List (Addr × Obj)} {σ : List (Option V)} {H H' : Hp} {s : Shared} {h' : Heap}

theorem Cx.Ok.nofr (ok : X.Ok) {b : Addr} {o : Obj} (e : X.base.get? b = some o) : b ∉ X.fs := fun hb => by
  have := (ok.funs.mem hb).1
  rw [e] at this; cases this
theorem Inv.bs (I : Inv X pins σ H s) : ∀ b o, X.base.get? b = some o → s.heap.get? b = some o ∧ H b = none := fun b o e =>
  ⟨I.base.keep b o (I.ok.bs b o e).1 (I.ok.bs b o e).2 (I.ok.nofr e) (I.ok.noex b o e), I.base.free b o (I.ok.bs b o e).1 (I.ok.bs b o e).2 (I.ok.noex b o e)⟩
theorem Inv.bk (I : Inv X pins σ H s) : ∀ b o, X.base.get? b = some o → s.heap.get? b = some o := fun b o e => (I.bs b o e).1
theorem Inv.mod (I : Inv X pins σ H s) : Mod X.K X.mg X.base := I.ok.mod
theorem Inv.kIn (I : Inv X pins σ H s) : X.K.In s.heap := I.ok.mod.kin.keeps I.bk
theorem Inv.nolimit (I : Inv X pins σ H s) : s.heap.NoLimit := I.ok.mod.nolimit.keeps I.bk
/-- the frame over the base: for OpenK's rules (K.In X.base is I.mod.kin) -/
theorem Inv.fr (I : Inv X pins σ H s) : ∃ m, Fr X.base X.env.locals s.heap m :=
  let ⟨m, hn, _⟩ := I.loc
  ⟨m, hn, I.bk, Nat.le_trans I.ok.bsz I.ok.above⟩
theorem Inv.lt (I : Inv X pins σ H s) : X.env.locals < s.heap.objs.size := let ⟨_, hn, _⟩ := I.loc; hn.lt
theorem Inv.sz (I : Inv X pins σ H s) : X.s₀.heap.objs.size ≤ s.heap.objs.size := Nat.le_trans I.ok.above (Nat.le_of_lt I.lt)
theorem Inv.nofs (I : Inv X pins σ H s) {a : Addr} (h : s.heap.objs.size ≤ a) : a ∉ X.fs := fun hb => by
  obtain ⟨_, o, ho, _⟩ := I.ok.funs.mem hb
  exact absurd (Nat.lt_of_lt_of_le (Heap.lt_size ho) (Nat.le_trans I.sz h)) (Nat.lt_irrefl _)
theorem Inv.cne (I : Inv X pins σ H s) : ∀ x c, X.env.cells.lookup x = some c → c ≠ X.env.locals := fun x c e z => by
  obtain ⟨v, o, ho, hd⟩ := I.cell x c e
  obtain ⟨m, ⟨o', es, ep, ho', hd', _⟩, _⟩ := I.loc
  rw [z, ho'] at ho; cases ho; rw [hd'] at hd; cases hd
theorem Inv.funs (I : Inv X pins σ H s) : s.heap.FunFrames X.base X.outer := by
  have all : ∀ (l : List Env), (∀ b ∈ frs l, b ∈ X.fs) → X.s₀.heap.FunFrames X.base l → s.heap.FunFrames X.base l := by
    intro l
    induction l with
    | nil => intro _ _; trivial
    | cons env r ih =>
      intro hs hl
      obtain ⟨hk, ⟨L, o, hf, hn, ho, hd⟩, hr⟩ := hl
      have hL : L ∈ X.fs := hs L (by unfold frs; rw [List.filterMap_cons, hf]; exact List.mem_cons_self)
      obtain ⟨sl, e⟩ := I.base.slot L o ho (I.ok.frf L hL) hL fun z => I.ok.exfs L z hL
      exact ⟨hk, ⟨L, _, hf, hn, e, hd⟩, ih (fun b hb => hs b (by unfold frs; rw [List.filterMap_cons, hf]; exact List.mem_cons_of_mem _ hb)) hr⟩
  exact all X.outer (fun _ hb => hb) I.ok.funs

/-- the frames that run, for a call -/
theorem Inv.stack (I : Inv X pins σ H s) : s.heap.FunFrames X.base X.stack := by
  rcases I.ok.stk with e | ⟨e, hf⟩
  · rw [e]; exact I.funs
  · rw [e]
    obtain ⟨m, hn, _⟩ := I.loc
    refine .cons (by rw [I.ok.kind]; decide) hf hn ?_ I.funs
    exact Heap.get?_none_of_le (Nat.le_trans I.ok.bsz I.ok.above)
theorem Inv.stkSub (I : Inv X pins σ H s) : ∀ b ∈ frs X.stack, b ∈ X.env.locals :: X.fs := fun b hb => by
  rcases I.ok.stk with e | ⟨e, hf⟩
  · rw [e] at hb; exact List.mem_cons_of_mem _ hb
  · rw [e] at hb
    unfold frs at hb
    rw [List.filterMap_cons, hf] at hb
    exact hb
theorem Inv.stkFree (I : Inv X pins σ H s) : ∀ b ∈ frs X.stack, H b = none := fun b hb => by
  rcases List.mem_cons.mp (I.stkSub b hb) with e | hb
  · rw [e]; exact I.free
  · obtain ⟨_, o, ho, _⟩ := I.ok.funs.mem hb
    exact I.base.free b o ho (I.ok.frf b hb) fun z => I.ok.exfs b z hb

/-- THE STEP: the untracked objects but the frame and the records at ch are kept (the callers' frames up to slots), the frame's map is kept, the new abstract heap is held -/
theorem Inv.step {g' : Array GenState} {t' : Nat} {d' : Drawn} {ch : List Addr} (I : Inv X pins σ H s)
    (hch : ∀ b ∈ ch, (b ∈ X.ex ∨ X.s₀.heap.objs.size ≤ b) ∧ b ≠ X.env.locals ∧ (∀ x c, X.env.cells.lookup x = some c → c ≠ b) ∧ ∀ p ∈ X.pn ++ pins, p.1 ≠ b)
    (keep : ∀ b o, b ≠ X.env.locals → b ∉ X.fs → b ∉ ch → s.heap.get? b = some o → H b = none → h'.get? b = some o)
    (slot : ∀ b o, b ≠ X.env.locals → b ∈ X.fs → b ∉ ch → s.heap.get? b = some o → H b = none → ∃ sl, h'.get? b = some { o with slots := sl }) (free : ∀ b o, b ∉ ch → s.heap.get? b = some o → H b = none → H' b = none)
    (there : ∀ b o, b ∉ ch → s.heap.get? b = some o → ∃ o', h'.get? b = some o')
    (tups : ∀ b xs, H b = some (.tup xs) → H' b = some (.tup xs)) (frzs : ∀ b o u, H b = some (.frz o u) → H' b = some (.frz o u)) (tbls : ∀ b ps, H b = some (.tbl ps) → ∃ more, H' b = some (.tbl (ps ++ more)))
    (ns : ∀ m, s.heap.Ns X.env.locals m → h'.Ns X.env.locals m) (hok : HOk X.prog X.w H' h') (hg : AllBare g') :
    Inv X pins σ H' { s with heap := h', gens := g', drawn := d', toks := t' } := by
  have neL : ∀ b o, X.s₀.heap.get? b = some o → b ≠ X.env.locals := fun b o e => Nat.ne_of_lt (Nat.lt_of_lt_of_le (Heap.lt_size e) I.ok.above)
  have neC : ∀ b o, X.s₀.heap.get? b = some o → b ∉ X.ex → b ∉ ch := fun b o e hx hb => by
    rcases (hch b hb).1 with z | z
    · exact hx z
    · exact absurd (Nat.lt_of_lt_of_le (Heap.lt_size e) z) (Nat.lt_irrefl _)
  have cellK : ∀ x c, X.env.cells.lookup x = some c → ∀ v, s.heap.IsCell c v → h'.IsCell c v := fun x c e v ⟨o, ho, hd⟩ => by
    have nch : c ∉ ch := fun z => (hch c z).2.2.1 x c e rfl
    by_cases hc : c ∈ X.fs
    · obtain ⟨sl, q⟩ := slot c o (I.cne x c e) hc nch ho (I.freeC x c e)
      exact ⟨_, q, hd⟩
    · exact ⟨o, keep c o (I.cne x c e) hc nch ho (I.freeC x c e), hd⟩
  refine ⟨I.ok, I.os, hg, ⟨fun b o e n hb hx => ?_, fun b o e n hb hx => ?_, fun b o e n hx => ?_, fun b o e hx => ?_, fun b xs e => tups b xs (I.base.tups b xs e), fun b o xs e => frzs b o xs (I.base.frzs b o xs e), fun b ps e => ?_⟩, ?_, fun x c e => ?_, ?_, fun x c e => ?_, fun p hp => ?_, hok, I.len⟩
  · exact keep b o (neL b o e) hb (neC b o e hx) (I.base.keep b o e n hb hx) (I.base.free b o e n hx)
  · obtain ⟨sl, e1⟩ := I.base.slot b o e n hb hx
    obtain ⟨sl', e2⟩ := slot b _ (neL b o e) hb (neC b o e hx) e1 (I.base.free b o e n hx)
    exact ⟨sl', e2⟩
  · obtain ⟨o', e1⟩ := I.base.there b o e hx
    exact free b o' (neC b o e hx) e1 (I.base.free b o e n hx)
  · obtain ⟨o', e1⟩ := I.base.there b o e hx
    exact there b o' (neC b o e hx) e1
  · obtain ⟨m1, e1⟩ := I.base.tbls b ps e
    obtain ⟨m2, e2⟩ := tbls b _ e1
    exact ⟨m1 ++ m2, by rw [e2, Array.append_assoc]⟩
  · obtain ⟨m, hn, hl⟩ := I.loc
    refine ⟨m, ns m hn, fun i x v e1 e2 e3 => ?_⟩
    obtain ⟨u, r, l⟩ := hl i x v e1 e2 e3
    refine ⟨u, r, ?_⟩
    rcases l with l | ⟨k, c, e, z⟩
    · exact .inl l
    · exact .inr ⟨k, c, e, cellK x c e _ z⟩
  · obtain ⟨v, z⟩ := I.cell x c e
    exact ⟨v, cellK x c e v z⟩
  · obtain ⟨m, ⟨o, _, _, ho, _⟩, _⟩ := I.loc
    exact free _ o (fun z => (hch _ z).2.1 rfl) ho I.free
  · obtain ⟨v, o, ho, hd⟩ := I.cell x c e
    exact free c o (fun z => (hch c z).2.2.1 x c e rfl) ho (I.freeC x c e)
  · obtain ⟨e, n, ne, nf, d⟩ := I.pin p hp
    have nch : p.1 ∉ ch := fun z => (hch p.1 z).2.2.2 p hp rfl
    exact ⟨keep p.1 p.2 ne nf nch e n, free p.1 p.2 nch e n, ne, nf, d⟩
/-- .. where the frame's own object is kept too -/
theorem Inv.un {t' : Nat} (I : Inv X pins σ H s) (u : Un X.fs [] H H' s.heap h') (hok : HOk X.prog X.w H' h') : Inv X pins σ H' { s with heap := h', toks := t' } := by
  obtain ⟨m, ⟨o, es, ep, ho, r⟩, _⟩ := id I.loc
  obtain ⟨sl, hL⟩ := u.any ho I.free (by simp)
  exact I.step (g' := s.gens) (d' := s.drawn) (ch := []) (fun _ z => nomatch z) (fun b o _ hb _ e n => u.keep b o e n hb (by simp)) (fun b o _ hb _ e n => u.slot b o e n hb (by simp)) (fun b o _ e n => u.free b o e n (by simp)) (fun b o _ e => u.there b o e (by simp)) u.tups u.frzs u.tbls (fun m' hm => by
    obtain ⟨o', es', ep', ho', r'⟩ := hm
    rw [ho] at ho'; cases ho'
    exact ⟨_, es', ep', hL, r'⟩) hok I.bare
/-- behind a call (or a comprehension's block): the slots of this frame may have changed too, the records at ch may have turned -/
theorem Inv.call {g' : Array GenState} {t' : Nat} {d' : Drawn} {ch : List Addr} (I : Inv X pins σ H s) (u : Un (frs X.stack) ch H H' s.heap h') (hok : HOk X.prog X.w H' h') (hg : AllBare g')
    (hch : ∀ b ∈ ch, (b ∈ X.ex ∨ X.s₀.heap.objs.size ≤ b) ∧ b ≠ X.env.locals ∧ (∀ x c, X.env.cells.lookup x = some c → c ≠ b) ∧ ∀ p ∈ X.pn ++ pins, p.1 ≠ b) :
    Inv X pins σ H' { s with heap := h', gens := g', drawn := d', toks := t' } := by
  obtain ⟨m, ⟨o, es, ep, ho, r⟩, _⟩ := id I.loc
  obtain ⟨sl, hL⟩ := u.any ho I.free fun z => (hch _ z).2.1 rfl
  exact I.step (ch := ch) hch (fun b o hL hb hc e n => u.keep b o e n (fun z => (List.mem_cons.mp (I.stkSub b z)).elim hL hb) hc) (fun b o _ _ hc e n => u.any e n hc) (fun b o hc e n => u.free b o e n hc) (fun b o hc e => u.there b o e hc) u.tups u.frzs u.tbls (fun m' hm => by
    obtain ⟨o', es', ep', ho', r'⟩ := hm
    rw [ho] at ho'; cases ho'
    exact ⟨_, es', ep', hL, r'⟩) hok hg
/-- an untracked record of ours (an iterator) has turned -/
theorem Inv.turned {t' : Nat} {it : Addr} (I : Inv X pins σ H s) (k : ∀ b o, b ≠ it → s.heap.get? b = some o → h'.get? b = some o) (hn : H it = none) (hL : it ≠ X.env.locals)
    (h1 : it ∈ X.ex ∨ X.s₀.heap.objs.size ≤ it) (h2 : ∀ x c, X.env.cells.lookup x = some c → c ≠ it) (h3 : ∀ p ∈ X.pn ++ pins, p.1 ≠ it) : Inv X pins σ H { s with heap := h', toks := t' } := by
  have nit : ∀ b u, H b = some u → b ≠ it := fun b u e z => by rw [z, hn] at e; cases e
  refine I.step (g' := s.gens) (d' := s.drawn) (ch := [it]) (fun b hb => ?_) (fun b o _ _ hc e _ => k b o (fun z => hc (by simp [z])) e) (fun b o _ _ hc e _ => ⟨o.slots, k b o (fun z => hc (by simp [z])) e⟩) (fun _ _ _ _ n => n)
    (fun b o hc e => ⟨o, k b o (fun z => hc (by simp [z])) e⟩) (fun _ _ e => e) (fun _ _ _ e => e) (fun b ps e => ⟨#[], by rw [e]; simp⟩) (fun m hm => ?_) (fun b u e => ?_) I.bare
  · have e : b = it := by simpa using hb
    subst e
    exact ⟨h1, hL, h2, h3⟩
  · obtain ⟨o, es, ep, ho, r⟩ := hm
    exact ⟨o, es, ep, k _ o (Ne.symm hL) ho, r⟩
  · refine (I.hok b u e).stay (fun c v hc q => k c v ?_ q) (fun _ q => q) fun _ _ q => q
    rcases hc with z | z
    · rw [z]; exact nit b u e
    · exact nit c _ z
theorem Inv.tok (I : Inv X pins σ H s) (t : Nat) : Inv X pins σ H { s with toks := t } := I.un (h' := s.heap) (t' := t) Un.refl I.hok
/-- all objects kept -/
theorem Inv.kept {t' : Nat} (I : Inv X pins σ H s) (k : ∀ b u, s.heap.get? b = some u → h'.get? b = some u) : Inv X pins σ H { s with heap := h', toks := t' } := I.un (Un.kept k) (I.hok.kept k)
/-- a new object laid and tracked -/
theorem Inv.laid {a : Addr} {o : HO} {t' : Nat} (I : Inv X pins σ H s) (k : ∀ b u, s.heap.get? b = some u → h'.get? b = some u) (hp : s.heap.objs.size ≤ a) (new : ObjOk X.prog X.w (upd H a o) h' a o) :
    Inv X pins σ (upd H a o) { s with heap := h', toks := t' } := I.un (Un.laid k hp (I.hok.fresh hp)) (I.hok.laid k hp new)
/-- an object written -/
theorem Inv.write {x e : Addr} {o : HO} {t' : Nat} (I : Inv X pins σ H s) (mu : Mut (H x)) (he : e = x ∨ H e = some (.own x)) (k : ∀ b u, b ≠ e → s.heap.get? b = some u → h'.get? b = some u) (heo : ∃ u, h'.get? e = some u)
    (new : ObjOk X.prog X.w (upd H x o) h' x o) : Inv X pins σ (upd H x o) { s with heap := h', toks := t' } := I.un (Un.write mu he k heo) (I.hok.write mu he k heo new)
/-- forgetting slots, pins -/
theorem Inv.weak {σ' : List (Option V)} (I : Inv X pins σ H s) (hl : σ'.length = σ.length) (w : ∀ (i : Nat) v, σ'[i]? = some (some v) → σ[i]? = some (some v)) : Inv X pins σ' H s :=
  ⟨I.ok, I.os, I.bare, I.base, let ⟨m, hn, hl'⟩ := I.loc; ⟨m, hn, fun i x v e1 e2 e3 => hl' i x v e1 (w i v e2) e3⟩, I.cell, I.free, I.freeC, I.pin, I.hok, hl.trans I.len⟩
theorem Inv.pins_of {pins' : List (Addr × Obj)} (I : Inv X pins σ H s) (h : ∀ p ∈ pins', s.heap.get? p.1 = some p.2 ∧ H p.1 = none ∧ p.1 ≠ X.env.locals ∧ p.1 ∉ X.fs ∧ ∀ v, p.2.data ≠ .cell v) : Inv X pins' σ H s :=
  ⟨I.ok, I.os, I.bare, I.base, I.loc, I.cell, I.free, I.freeC, fun p hp => (List.mem_append.mp hp).elim (fun z => I.pin p (List.mem_append_left _ z)) (h p), I.hok, I.len⟩

theorem nodup_ix {N : List Str} (hN : N.Nodup) {i j : Nat} {x : Str} (a : N[i]? = some x) (b : N[j]? = some x) : i = j := by
  obtain ⟨h1, e1⟩ := List.getElem?_eq_some_iff.mp a
  obtain ⟨h2, e2⟩ := List.getElem?_eq_some_iff.mp b
  exact (List.getElem_inj hN).mp (e1.trans e2.symm)

/-- a name is stored; what changed -/
theorem store_ok2 {M : Model} {A : Around} {E : Value → Shared → Prop} {i : Nat} {x : Str} {v : V} {u : Value} {Q : Unit → Shared → Prop} (I : Inv X pins σ H s) (hN : X.N.Nodup) (hi : X.N[i]? = some x) (hx : Loc X.env.scope x) (r : RelV v u)
    (h : ∀ s', Inv X pins (σ.set i (some v)) H s' → (∃ a, Heap.SameBut a s.heap s'.heap ∧ (a = X.env.locals ∨ X.env.cells.lookup x = some a)) → Q () s') (hf : X.fn x = true ∨ X.env.scope.names.lookup x = some .local := by first | exact .inl rfl | exact .inr rfl | assumption) : wpAny M A (storeName X.env x u) Q E s := by
  obtain ⟨m, hn, hl⟩ := id I.loc
  have hcls : (X.env.scope.kind == .class || (X.env.scope.kind == .module && X.env.locals != X.env.globals)) = false := by rw [I.ok.kind]; rfl
  have hiσ : i < σ.length := by rw [I.len]; exact (List.getElem?_eq_some_iff.mp hi).1
  have cne := I.cne
  have tracked : ∀ {a : Addr} {h' : Heap}, (∃ o, s.heap.get? a = some o ∧ H a = none) → Heap.SameBut a s.heap h' → HOk X.prog X.w H h' := fun {a h'} ha hs b ob e => by
    obtain ⟨_, _, hfree⟩ := ha
    refine (I.hok b ob e).stay (fun c w' hc q => (hs.2 c ?_).trans q) (fun _ q => q) fun _ _ q => q
    rintro rfl
    rcases hc with rfl | hc
    · rw [hfree] at e; cases e
    · rw [hfree] at hc; cases hc
  rcases hx with hk | hk
  · refine wpAny_storeName_local hk hn (fun h' hn' hs => ?_) hcls
    obtain ⟨oL, _, _, hoL, _⟩ := id hn
    refine h _ ⟨I.ok, I.os, I.bare, ⟨fun b o e n hb hx => ?_, fun b o e n hb hx => ?_, I.base.free, fun b o e hx => ?_, I.base.tups, I.base.frzs, I.base.tbls⟩, ⟨_, hn', fun j y v' e1 e2 e3 => ?_⟩, fun y c e => ?_, I.free, I.freeC, fun p hp => ?_, tracked ⟨oL, hoL, I.free⟩ hs, by simpa using I.len⟩ ⟨_, hs, .inl rfl⟩
    · exact (hs.2 b (Nat.ne_of_lt (Nat.lt_of_lt_of_le (Heap.lt_size e) I.ok.above))).trans (I.base.keep b o e n hb hx)
    · obtain ⟨sl, e1⟩ := I.base.slot b o e n hb hx
      exact ⟨sl, (hs.2 b (Nat.ne_of_lt (Nat.lt_of_lt_of_le (Heap.lt_size e) I.ok.above))).trans e1⟩
    · obtain ⟨o', e1⟩ := I.base.there b o e hx
      exact ⟨o', (hs.2 b (Nat.ne_of_lt (Nat.lt_of_lt_of_le (Heap.lt_size e) I.ok.above))).trans e1⟩
    · by_cases hj : j = i
      · subst hj
        rw [hi] at e1; cases e1
        rw [List.getElem?_set_self hiσ] at e2
        cases e2
        exact ⟨u, r, .inl ⟨hk, by simp⟩⟩
      · rw [List.getElem?_set_ne (Ne.symm hj)] at e2
        obtain ⟨u', r', q⟩ := hl j y v' e1 e2 e3
        refine ⟨u', r', ?_⟩
        rcases q with ⟨k, e⟩ | ⟨k, c, e, z⟩
        · refine .inl ⟨k, ?_⟩
          have : y ≠ x := fun e => hj (nodup_ix hN e1 (e ▸ hi))
          simp [this, e]
        · exact .inr ⟨k, c, e, z.sameBut hs (cne y c e)⟩
    · obtain ⟨w', z⟩ := I.cell y c e
      exact ⟨w', z.sameBut hs (cne y c e)⟩
    · obtain ⟨e, n, ne, nf, d⟩ := I.pin p hp
      exact ⟨(hs.2 p.1 ne).trans e, n, ne, nf, d⟩
  · have hfn : X.fn x = true := by
      rcases hf with z | z
      · exact z
      · rw [z] at hk; cases hk
    obtain ⟨c, hc⟩ := I.ok.has x (.inl hk)
    obtain ⟨w', z⟩ := I.cell x c hc
    refine wpAny_storeName_cell I.ok.kind hk hc z (fun h' hc' hs => ?_)
    obtain ⟨oc, hoc, hocd⟩ := id z
    refine h { s with heap := h' } ⟨I.ok, I.os, I.bare, ⟨fun b o e n hb hx => ?_, fun b o e n hb hx => ?_, I.base.free, fun b o e hx => ?_, I.base.tups, I.base.frzs, I.base.tbls⟩, ⟨m, hn.sameBut hs (Ne.symm (cne x c hc)), fun j y v' e1 e2 e3 => ?_⟩, fun y c' e => ?_, I.free, I.freeC, fun p hp => ?_, tracked ⟨oc, hoc, I.freeC x c hc⟩ hs, by simpa using I.len⟩ ⟨c, hs, .inr hc⟩
    · exact (hs.2 b (Nat.ne_of_lt (Nat.lt_of_lt_of_le (Heap.lt_size e) (I.ok.cab x c hfn hc)))).trans (I.base.keep b o e n hb hx)
    · obtain ⟨sl, e1⟩ := I.base.slot b o e n hb hx
      exact ⟨sl, (hs.2 b (Nat.ne_of_lt (Nat.lt_of_lt_of_le (Heap.lt_size e) (I.ok.cab x c hfn hc)))).trans e1⟩
    · obtain ⟨o', e1⟩ := I.base.there b o e hx
      exact ⟨o', (hs.2 b (Nat.ne_of_lt (Nat.lt_of_lt_of_le (Heap.lt_size e) (I.ok.cab x c hfn hc)))).trans e1⟩
    · by_cases hj : j = i
      · subst hj
        rw [hi] at e1; cases e1
        rw [List.getElem?_set_self hiσ] at e2
        cases e2
        exact ⟨u, r, .inr ⟨.inl hk, c, hc, hc'⟩⟩
      · rw [List.getElem?_set_ne (Ne.symm hj)] at e2
        obtain ⟨u', r', q⟩ := hl j y v' e1 e2 e3
        refine ⟨u', r', ?_⟩
        rcases q with q | ⟨k, c', e, z'⟩
        · exact .inl q
        · refine .inr ⟨k, c', e, z'.sameBut hs ?_⟩
          rintro rfl
          exact hj (nodup_ix hN e1 (I.ok.inj _ _ _ e hc ▸ hi))
    · by_cases hcc : c' = c
      · subst hcc; exact ⟨_, hc'⟩
      · obtain ⟨w2, z2⟩ := I.cell y c' e
        exact ⟨w2, z2.sameBut hs hcc⟩
    · obtain ⟨e, n, ne, nf, d⟩ := I.pin p hp
      refine ⟨(hs.2 p.1 ?_).trans e, n, ne, nf, d⟩
      intro q
      rw [q, hoc] at e
      have q' : oc = p.2 := Option.some.inj e
      exact d w' (by rw [← q']; exact hocd)
theorem store_ok {M : Model} {A : Around} {E : Value → Shared → Prop} {i : Nat} {x : Str} {v : V} {u : Value} {Q : Unit → Shared → Prop} (I : Inv X pins σ H s) (hN : X.N.Nodup) (hi : X.N[i]? = some x) (hx : Loc X.env.scope x) (r : RelV v u)
    (h : ∀ s', Inv X pins (σ.set i (some v)) H s' → Q () s') (hf : X.fn x = true ∨ X.env.scope.names.lookup x = some .local := by first | exact .inl rfl | exact .inr rfl | assumption) : wpAny M A (storeName X.env x u) Q E s :=
  store_ok2 I hN hi hx r (fun s' I' _ => h s' I') hf
/-- behind a call or a block, the state as it is -/
theorem Inv.call' {s' : Shared} {ch : List Addr} (I : Inv X pins σ H s) (ho : s'.os = s.os) (u : Un (frs X.stack) ch H H' s.heap s'.heap) (hok : HOk X.prog X.w H' s'.heap) (hg : AllBare s'.gens)
    (hch : ∀ b ∈ ch, (b ∈ X.ex ∨ X.s₀.heap.objs.size ≤ b) ∧ b ≠ X.env.locals ∧ (∀ x c, X.env.cells.lookup x = some c → c ≠ b) ∧ ∀ p ∈ X.pn ++ pins, p.1 ≠ b) : Inv X pins σ H' s' := by
  obtain ⟨h', g', d', t', o'⟩ := s'
  have e : o' = s.os := ho
  subst e
  exact I.call (g' := g') (t' := t') (d' := d') u hok hg hch
end

/-! ### the judgements -/
/-- an exception: its class, its own dict's address (where it has one), the abstract heap behind it -/
abbrev XK := Value → Option Addr → Hp → Prop
abbrev St := List (Option V)
abbrev VK := V → Hp → Prop
/-- an expression's reading; a test's; an argument list's -/
abbrev TE := St → Hp → VK → Prop
abbrev TT := St → Hp → (Bool → Hp → Prop) → Prop
abbrev TA := St → Hp → (List V → Hp → Prop) → Prop
/-- what is wanted behind a statement -/
structure Ends where
  nx : St → Hp → Prop
  rt : VK
  bk : St → Hp → Prop := fun _ _ => False
  ct : St → Hp → Prop := fun _ _ => False
abbrev TS := Ends → St → Hp → Prop

def EP (X : Cx) (pins : List (Addr × Obj)) (σ : St) (Q : VK) (u : Value) (s' : Shared) : Prop := ∃ v H', Inv X pins σ H' s' ∧ RelV v u ∧ Q v H'
def TP (X : Cx) (pins : List (Addr × Obj)) (σ : St) (Q : Bool → Hp → Prop) (b : Bool) (s' : Shared) : Prop := ∃ H', Inv X pins σ H' s' ∧ Q b H'
def AP (X : Cx) (pins : List (Addr × Obj)) (σ : St) (Q : List V → Hp → Prop) (us : List Value) (s' : Shared) : Prop := ∃ vs H', Inv X pins σ H' s' ∧ Vals vs us ∧ Q vs H'
def SP (X : Cx) (pins : List (Addr × Obj)) (D : Ends) (f : Flow) (s' : Shared) : Prop :=
  match f with
  | .next => ∃ σ' H', Inv X pins σ' H' s' ∧ D.nx σ' H'
  | .brk => ∃ σ' H', Inv X pins σ' H' s' ∧ D.bk σ' H'
  | .cont => ∃ σ' H', Inv X pins σ' H' s' ∧ D.ct σ' H'
  | .ret u => ∃ v σ' H', Inv X pins σ' H' s' ∧ RelV v u ∧ D.rt v H'

def PE (X : Cx) (e : Expr) (t : TE) : Prop :=
  ∀ (pins : List (Addr × Obj)) (s : Shared) (σ : St) (H : Hp) (Q : VK), Inv X pins σ H s → t σ H Q → wpAny (model X.prog X.w) X.A (eval e X.env) (EP X pins σ Q) X.xe s
def PT (X : Cx) (e : Expr) (t : TT) : Prop :=
  ∀ (pins : List (Addr × Obj)) (s : Shared) (σ : St) (H : Hp) (Q : Bool → Hp → Prop), Inv X pins σ H s → t σ H Q → wpAny (model X.prog X.w) X.A (isTrue e X.env (eval e X.env)) (TP X pins σ Q) X.xe s
/-- a test whatever its 'whole' is (and, or) -/
def PW (X : Cx) (e : Expr) (t : TT) : Prop :=
  ∀ (whole : Sem Value) (pins : List (Addr × Obj)) (s : Shared) (σ : St) (H : Hp) (Q : Bool → Hp → Prop), Inv X pins σ H s → t σ H Q → wpAny (model X.prog X.w) X.A (isTrue e X.env whole) (TP X pins σ Q) X.xe s
theorem PW.pt {X : Cx} {e : Expr} {t : TT} (h : PW X e t) : PT X e t := h _
/-- an argument list (no star), from the left -/
def PA (X : Cx) (es : List Expr) (t : TA) : Prop :=
  ∀ (pos : Pos) (pins : List (Addr × Obj)) (s : Shared) (σ : St) (H : Hp) (Q : List V → Hp → Prop), Inv X pins σ H s → t σ H Q → wpAny (model X.prog X.w) X.A (spliced (backTo pos (starEach es X.env))) (AP X pins σ Q) X.xe s
def PS (X : Cx) (st : Stmt) (t : TS) : Prop :=
  ∀ (pins : List (Addr × Obj)) (s : Shared) (σ : St) (H : Hp) (D : Ends), Inv X pins σ H s → t D σ H → wpAny (model X.prog X.w) X.A (exec st X.env) (SP X pins D) X.xe s
def PSs (X : Cx) (st : List Stmt) (t : TS) : Prop :=
  ∀ (pins : List (Addr × Obj)) (s : Shared) (σ : St) (H : Hp) (D : Ends), Inv X pins σ H s → t D σ H → wpAny (model X.prog X.w) X.A (execs st X.env) (SP X pins D) X.xe s
/-- weaken the end -/
theorem thn {α : Type} {t : Sem α} {Q Q' : α → Shared → Prop} {M : Model} {A : Around} {E : Value → Shared → Prop} {s : Shared} (h : wpAny M A t Q E s) (hQ : ∀ a s, Q a s → Q' a s) : wpAny M A t Q' E s := wpAny_mono h hQ fun _ _ x => x
end L2

namespace L2
open PySem PySem.Spec PyProof.Rows
section
variable {X : Cx}

/-! ### names and constants -/
def tVar (i : Nat) : TE := fun σ H Q => ∃ v, σ[i]? = some (some v) ∧ Q v H
def tC (v : V) : TE := fun _ H Q => Q v H
theorem pe_var {i : Nat} {x : Str} {pos : Pos} (hN : X.N[i]? = some x) (hv : Vis X.env.scope x) (hd : (x == ("__debug__" : Str)) = false := by decide) (hcd : (x == ("__classdict__" : Str)) = false := by decide) : PE X (.Name x pos) (tVar i) := by
  intro pins s σ H Q I h
  obtain ⟨v, e, h⟩ := h
  obtain ⟨m, hn, hl⟩ := I.loc
  obtain ⟨u, r, l⟩ := hl i x v hN e hv
  have fin : EP X pins σ Q u s := ⟨v, H, I, r, h⟩
  rcases l with ⟨hk, hm⟩ | ⟨hk, c, hc, hcell⟩
  · exact wpAny_Name (wpAny_loadName_local I.ok.kind hk hn hm fin) hd
  · rcases hk with hk | hk
    · exact wpAny_Name (wpAny_loadName_cell I.ok.kind hk hc hcell fin) hd
    · exact wpAny_Name (wpAny_loadName_free I.ok.kind hk hc hcell fin hcd) hd
theorem pe_int {i j pos} : PE X (.Constant (.int i) j pos) (tC (.int i)) := fun _ _ _ H _ I h => wpAny_Constant_int ⟨.int i, H, I.tok _, ⟨_, rfl⟩, h⟩
theorem pe_bl {b j pos} : PE X (.Constant (.bool b) j pos) (tC (.bl b)) := fun _ _ _ H _ I h => Constant_bool ⟨.bl b, H, I, rfl, h⟩
theorem pe_non {j pos} : PE X (.Constant .none j pos) (tC .non) := fun _ _ _ H _ I h => Constant_none ⟨.non, H, I, rfl, h⟩
theorem pe_str {x j pos} : PE X (.Constant (.str x) j pos) (tC (.str x)) := fun _ _ _ H _ I h => Calls.Constant_str ⟨.str x, H, I.tok _, ⟨_, rfl⟩, h⟩

/-- a global name of the def -/
def Gl (X : Cx) (x : Str) : Prop := X.env.kindOf x = some .globalImplicit
theorem ld_glob {E : Value → Shared → Prop} {pins : List (Addr × Obj)} {s : Shared} {σ : St} {H : Hp} {x : Str} {u : Value} {pos : Pos} {Q : Value → Shared → Prop} (I : Inv X pins σ H s) (hg : Gl X x) (hm : X.mg x = some u) (h : Q u s)
    (hd : (x == ("__debug__" : Str)) = false := by decide) : wpAny (model X.prog X.w) X.A (eval (.Name x pos) X.env) Q E s :=
  Calls.Name_function_global I.ok.kind hg (Calls.loadGlobal_global (by rw [I.ok.glob]; exact I.mod.glob.keeps I.bk) hm h) hd
theorem ld_blt {E : Value → Shared → Prop} {pins : List (Addr × Obj)} {s : Shared} {σ : St} {H : Hp} {x : Str} {u : Value} {pos : Pos} {Q : Value → Shared → Prop} (I : Inv X pins σ H s) (hg : Gl X x) (hm : X.mg x = none) (hv : bootBuiltins x = some u) (h : Q u s)
    (hn : x ≠ "__name__" := by decide) (hd : (x == ("__debug__" : Str)) = false := by decide) : wpAny (model X.prog X.w) X.A (eval (.Name x pos) X.env) Q E s := by
  obtain ⟨mb, h1, h2⟩ := I.mod.blt
  exact Calls.Name_function_global I.ok.kind hg (Calls.loadGlobal_builtin (by rw [I.ok.glob]; exact I.mod.glob.keeps I.bk) hm (by rw [I.ok.blt]; exact h1.keeps I.bk) ((h2 x hn).trans hv) h) hd
/-- a module's constant, a class, a function, as a value -/
theorem pe_glob {x : Str} {v : V} {u : Value} {pos : Pos} (hg : Gl X x) (hm : X.mg x = some u) (r : RelV v u) (hd : (x == ("__debug__" : Str)) = false := by decide) : PE X (.Name x pos) (tC v) :=
  fun _ _ _ H _ I h => ld_glob I hg hm ⟨v, H, I, r, h⟩ hd
theorem pe_bltn {x : Str} {v : V} {u : Value} {pos : Pos} (hg : Gl X x) (hm : X.mg x = none) (hv : bootBuiltins x = some u) (r : RelV v u) (hn : x ≠ "__name__" := by decide) (hd : (x == ("__debug__" : Str)) = false := by decide) : PE X (.Name x pos) (tC v) :=
  fun _ _ _ H _ I h => ld_blt I hg hm hv ⟨v, H, I, r, h⟩ hn hd

/-! ### arithmetic -/
variable {a b : Expr} {ta tb : TE} {pos : Pos}
/-! ### comparisons -/
/-! ### and, or, not -/
variable {tA tB' : TT} {rest : List Expr}
def tAnd (t u : TT) : TT := fun σ H Q => t σ H fun c H1 => if c = true then u σ H1 Q else Q false H1
def tOr (t u : TT) : TT := fun σ H Q => t σ H fun c H1 => if c = true then Q true H1 else u σ H1 Q
def tNot (t : TT) : TT := fun σ H Q => t σ H fun c H1 => Q (!c) H1
theorem pw_and1 (ha : PT X a tA) : PW X (.BoolOp .And [a] pos) tA := by
  intro wh pins s σ H Q I h
  refine isTrue_and (thn (ha pins s σ H Q I h) fun c s1 e => ?_)
  cases c with
  | true => exact isTrue_and_nil e
  | false => exact e
theorem pw_or1 (ha : PT X a tA) : PW X (.BoolOp .Or [a] pos) tA := by
  intro wh pins s σ H Q I h
  refine isTrue_or (thn (ha pins s σ H Q I h) fun c s1 e => ?_)
  cases c with
  | false => exact isTrue_or_nil e
  | true => exact e
theorem pw_and (ha : PT X a tA) (hb : PW X (.BoolOp .And (b :: rest) pos) tB') : PW X (.BoolOp .And (a :: b :: rest) pos) (tAnd tA tB') := by
  intro wh pins s σ H Q I h
  refine isTrue_and (thn (ha pins s σ H _ I h) fun c s1 ⟨H1, I1, q1⟩ => ?_)
  cases c with
  | true => exact hb wh pins s1 σ H1 Q I1 q1
  | false => exact ⟨H1, I1, q1⟩
theorem pw_or (ha : PT X a tA) (hb : PW X (.BoolOp .Or (b :: rest) pos) tB') : PW X (.BoolOp .Or (a :: b :: rest) pos) (tOr tA tB') := by
  intro wh pins s σ H Q I h
  refine isTrue_or (thn (ha pins s σ H _ I h) fun c s1 ⟨H1, I1, q1⟩ => ?_)
  cases c with
  | true => exact ⟨H1, I1, q1⟩
  | false => exact hb wh pins s1 σ H1 Q I1 q1
theorem pt_not (ha : PT X a tA) : PT X (.UnaryOp .Not a pos) (tNot tA) := by
  intro pins s σ H Q I h
  exact isTrue_not (ha pins s σ H (fun c H1 => Q (!c) H1) I h)
theorem pe_one {op} {t : TE} (h : PE X a t) : PE X (.BoolOp op [a] pos) t := fun pins s σ H Q I hw => BoolOp_one (h pins s σ H Q I hw)
/-- a if t else b -/
def tIf (t : TT) (ta tb : TE) : TE := fun σ H Q => t σ H fun c H1 => if c = true then ta σ H1 Q else tb σ H1 Q
theorem pe_ifExp {c : Expr} (hc : PT X c tA) (ha : PE X a ta) (hb : PE X b tb) : PE X (.IfExp c a b pos) (tIf tA ta tb) := by
  intro pins s σ H Q I h
  refine wpAny_IfExp (thn (hc pins s σ H _ I h) fun d s1 ⟨H1, I1, q1⟩ => ?_)
  cases d with
  | true => exact ha pins s1 σ H1 Q I1 q1
  | false => exact hb pins s1 σ H1 Q I1 q1
end
end L2

namespace L2
open PySem PySem.Spec PyProof.Rows

/-! ### a list, a tuple that is read: tracked, frozen, or an object of the module -/
def SqL (K : PySem.W.Frag) (H : Hp) (a : Addr) (xs : List V) : Prop :=
  Rd H a (.lst xs) ∨
    ∃ (o : Obj) (its : Array Value) (n : Nat), K.lookup a = some o ∧ o.cls = .type "list" ∧ o.dict = none ∧ o.data = .seq its n ∧ its.size ≤ sizeLine ∧ Vals xs its.toList
def SqT (K : PySem.W.Frag) (H : Hp) (a : Addr) (xs : List V) : Prop :=
  Rd H a (.tup xs) ∨
    ∃ (o : Obj) (its : Array Value) (n : Nat), K.lookup a = some o ∧ o.cls = .type "tuple" ∧ o.data = .seq its n ∧ its.size ≤ sizeLine ∧ Vals xs its.toList
def absV : Value → Option V
  | .none => some .non
  | .bool b => some (.bl b)
  | .int i _ => some (.int i)
  | .str x _ => some (.str x)
  | .bytes b _ => some (.byt b)
  | .float b _ => some (.flt b)
  | .ref a => some (.ref a)
  | .type n => some (.ty n)
  | _ => none
theorem RelV.abs {x : V} {u : Value} (r : RelV x u) : absV u = some x := by
  cases x with
  | non => cases r; rfl
  | bl _ => cases r; rfl
  | int _ => obtain ⟨t, rfl⟩ := r; rfl
  | str _ => obtain ⟨t, rfl⟩ := r; rfl
  | byt _ => obtain ⟨t, rfl⟩ := r; rfl
  | flt _ => obtain ⟨t, rfl⟩ := r; rfl
  | ref _ => cases r; rfl
  | ty _ => cases r; rfl
theorem RelV.inj {x y : V} {u : Value} (r : RelV x u) (q : RelV y u) : x = y := Option.some.inj (r.abs.symm.trans q.abs)
theorem Vals.inj : ∀ {xs ys : List V} {us : List Value}, Vals xs us → Vals ys us → xs = ys
  | _, _, _, .nil, .nil => rfl
  | _, _, _, .cons r t, .cons r' t' => by rw [r.inj r', Vals.inj t t']
section
variable {X : Cx} {pins : List (Addr × Obj)} {σ : St} {H : Hp} {s : Shared} {a : Addr} {xs ys : List V}
theorem SqL.of {K : PySem.W.Frag} (h : H a = some (.lst xs)) : SqL K H a xs := .inl (.inl h)
theorem SqT.of {K : PySem.W.Frag} (h : H a = some (.tup xs)) : SqT K H a xs := .inl (.inl h)
theorem Inv.list (I : Inv X pins σ H s) (h : SqL X.K H a xs) : ∃ its : List Value, Vals xs its ∧ PlainL s.heap a its.toArray ∧ xs.length ≤ sizeLine := by
  rcases h with h | ⟨o, its, n, hk, hc, hd, hs, hz, r⟩
  · obtain ⟨z, its, n, r, e⟩ := h.ok I.hok
    exact ⟨its, r, ⟨_, n, e, rfl, rfl, rfl⟩, z⟩
  · refine ⟨its.toList, r, ⟨o, n, I.kIn a o hk, hc, hd, by simpa using hs⟩, ?_⟩
    have e := r.length
    simp only [Array.length_toList] at e
    omega
theorem Inv.tuple (I : Inv X pins σ H s) (h : SqT X.K H a xs) : ∃ its : List Value, Vals xs its ∧ IsTup s.heap a its.toArray ∧ xs.length ≤ sizeLine := by
  rcases h with h | ⟨o, its, n, hk, hc, hs, hz, r⟩
  · obtain ⟨z, its, r, p⟩ := h.ok I.hok
    exact ⟨its, r, p, z⟩
  · refine ⟨its.toList, r, ⟨o, I.kIn a o hk, hc, n, by simpa using hs⟩, ?_⟩
    have e := r.length
    simp only [Array.length_toList] at e
    omega
theorem Inv.list_inj (I : Inv X pins σ H s) (h : SqL X.K H a xs) (h' : SqL X.K H a ys) : xs = ys := by
  obtain ⟨its, r, ⟨o, n, e, _, _, d⟩, _⟩ := I.list h
  obtain ⟨its', r', ⟨o', n', e', _, _, d'⟩, _⟩ := I.list h'
  rw [e] at e'; cases e'
  rw [d] at d'
  injection d' with d1 _
  have : its = its' := by simpa using congrArg Array.toList d1
  subst this
  exact r.inj r'
theorem Inv.tuple_inj (I : Inv X pins σ H s) (h : SqT X.K H a xs) (h' : SqT X.K H a ys) : xs = ys := by
  obtain ⟨its, r, ⟨o, e, _, n, d⟩, _⟩ := I.tuple h
  obtain ⟨its', r', ⟨o', e', _, n', d'⟩, _⟩ := I.tuple h'
  rw [e] at e'; cases e'
  rw [d] at d'
  injection d' with d1 _
  have : its = its' := by simpa using congrArg Array.toList d1
  subst this
  exact r.inj r'
end

/-! ### another wish about exceptions -/
abbrev Cx.wish (X : Cx) (E : Value → Shared → Prop) : Cx := { X with xe := E }
/-- no exception leaves -/
abbrev Cx.nox (X : Cx) : Cx := X.wish fun _ _ => False
theorem Cx.Ok.wish {X : Cx} (ok : X.Ok) (E : Value → Shared → Prop) : (X.wish E).Ok :=
  ⟨ok.mod, ok.kind, ok.glob, ok.blt, ok.above, ok.inj, ok.has, ok.cab, ok.hd, ok.frames, ok.stk, ok.exf, ok.bs, ok.bsz, ok.noex, ok.exfs, ok.funs, ok.frf⟩
theorem Cx.Ok.unwish {X : Cx} {E : Value → Shared → Prop} (ok : (X.wish E).Ok) : X.Ok :=
  ⟨ok.mod, ok.kind, ok.glob, ok.blt, ok.above, ok.inj, ok.has, ok.cab, ok.hd, ok.frames, ok.stk, ok.exf, ok.bs, ok.bsz, ok.noex, ok.exfs, ok.funs, ok.frf⟩
section
variable {X : Cx} {pins : List (Addr × Obj)} {σ : St} {H : Hp} {s : Shared} {E : Value → Shared → Prop}
theorem Inv.wish (I : Inv X pins σ H s) (E : Value → Shared → Prop) : Inv (X.wish E) pins σ H s := ⟨I.ok.wish E, I.os, I.bare, I.base, I.loc, I.cell, I.free, I.freeC, I.pin, I.hok, I.len⟩
theorem Inv.unwish (I : Inv (X.wish E) pins σ H s) : Inv X pins σ H s := ⟨I.ok.unwish, I.os, I.bare, I.base, I.loc, I.cell, I.free, I.freeC, I.pin, I.hok, I.len⟩
theorem SP.unwish {D : Ends} {f : Flow} {s' : Shared} (h : SP (X.wish E) pins D f s') : SP X pins D f s' := by
  cases f with
  | next => obtain ⟨σ', H', I, q⟩ := h; exact ⟨σ', H', I.unwish, q⟩
  | brk => obtain ⟨σ', H', I, q⟩ := h; exact ⟨σ', H', I.unwish, q⟩
  | cont => obtain ⟨σ', H', I, q⟩ := h; exact ⟨σ', H', I.unwish, q⟩
  | ret u => obtain ⟨v, σ', H', I, r, q⟩ := h; exact ⟨v, σ', H', I.unwish, r, q⟩
theorem PE.nox {e : Expr} {t : TE} (h : PE X.nox e t) : PE X e t := fun pins s σ H Q I hw =>
  wpAny_mono (h pins s σ H Q (I.wish _) hw) (fun _ _ ⟨v, H', I', r, q⟩ => ⟨v, H', I'.unwish, r, q⟩) fun _ _ z => False.elim z
theorem PT.nox {e : Expr} {t : TT} (h : PT X.nox e t) : PT X e t := fun pins s σ H Q I hw =>
  wpAny_mono (h pins s σ H Q (I.wish _) hw) (fun _ _ ⟨H', I', q⟩ => ⟨H', I'.unwish, q⟩) fun _ _ z => False.elim z
theorem PSs.nox {st : List Stmt} {t : TS} (h : PSs X.nox st t) : PSs X st t := fun pins s σ H D I hw =>
  wpAny_mono (h pins s σ H D (I.wish _) hw) (fun _ _ q => q.unwish) fun _ _ z => False.elim z
end

/-! ### blocks and small statements -/
section
variable {X : Cx} {st : Stmt} {rest : List Stmt} {t u : TS} {e : Expr} {te : TE} {pos : Pos}
def tNext : TS := fun D σ H => D.nx σ H
def tSeq (t u : TS) : TS := fun D σ H => t { D with nx := u D } σ H
theorem pss_nil : PSs X [] tNext := fun _ _ σ H _ I h => wpAny_execs_nil ⟨σ, H, I, h⟩
theorem pss_cons (h1 : PS X st t) (h2 : PSs X rest u) : PSs X (st :: rest) (tSeq t u) := by
  intro pins s σ H D I h
  refine wpAny_execs_cons (thn (h1 pins s σ H { D with nx := u D } I h) fun f s1 q => ?_)
  cases f with
  | next =>
    obtain ⟨σ', H', I', q⟩ := q
    exact h2 pins s1 σ' H' D I' q
  | ret v => exact q
  | brk => exact q
  | cont => exact q
theorem pss_one (h1 : PS X st t) : PSs X [st] t := by
  intro pins s σ H D I h
  refine wpAny_execs_cons (thn (h1 pins s σ H D I h) fun f s1 q => ?_)
  cases f with
  | next => exact wpAny_execs_nil q
  | ret v => exact q
  | brk => exact q
  | cont => exact q
/-- in a def's body nothing is shown -/
theorem Inv.quiet {pins : List (Addr × Obj)} {σ : St} {H : Hp} {s : Shared} (I : Inv X pins σ H s) : interactive X.env = false := by simp [interactive, I.ok.kind]
/-- an expression whose value is dropped -/
def tDrop (te : TE) : TS := fun D σ H => te σ H fun _ H1 => D.nx σ H1
theorem ps_expr (he : PE X e te) (hs : swapsWith e none pos.line X.env = pure false := by rfl) : PS X (.Expr e pos) (tDrop te) := by
  intro pins s σ H D I h
  exact wpAny_Expr_any (thn (he pins s σ H _ I h) fun v s1 ⟨x, H1, I1, r1, q1⟩ => ⟨σ, H1, I1, q1⟩) I.quiet hs
def tRet (te : TE) : TS := fun D σ H => te σ H D.rt
theorem ps_ret (he : PE X e te) : PS X (.Return (some e) pos) (tRet te) := by
  intro pins s σ H D I h
  exact wpAny_Return_some (thn (he pins s σ H _ I h) fun v s1 ⟨x, H1, I1, r1, q1⟩ => ⟨x, σ, H1, I1, r1, q1⟩)
def tIfS (c : TT) (t u : TS) : TS := fun D σ H => c σ H fun b H1 => if b = true then t D σ H1 else u D σ H1
theorem ps_if {c : Expr} {a b : List Stmt} {tc : TT} (hc : PT X c tc) (ha : PSs X a t) (hb : PSs X b u) : PS X (.If c a b pos) (tIfS tc t u) := by
  intro pins s σ H D I h
  refine wpAny_If (thn (hc pins s σ H _ I h) fun d s1 ⟨H1, I1, q1⟩ => ?_)
  cases d with
  | true => exact ha pins s1 σ H1 D I1 q1
  | false => exact hb pins s1 σ H1 D I1 q1
/-- code that the proof never comes to -/
def tNever : TS := fun _ _ _ => False
theorem ps_never : PS X st tNever := fun _ _ _ _ _ _ h => h.elim
end

/-! ### targets -/
abbrev TG := V → St → Hp → (St → Hp → Prop) → Prop
abbrev TGs := List V → St → Hp → (St → Hp → Prop) → Prop
def PG (X : Cx) (target : Expr) (t : TG) : Prop :=
  ∀ (pins : List (Addr × Obj)) (s : Shared) (σ : St) (H : Hp) (v : V) (u : Value) (Q : St → Hp → Prop), Inv X pins σ H s → RelV v u → t v σ H Q →
    wpAny (model X.prog X.w) X.A (assign target X.env u) (fun _ s' => ∃ σ' H', Inv X pins σ' H' s' ∧ Q σ' H') X.xe s
/-- several targets, one after another -/
def PGs (X : Cx) (ts : List Expr) (t : TGs) : Prop :=
  ∀ (pins : List (Addr × Obj)) (s : Shared) (σ : St) (H : Hp) (vs : List V) (us : List Value) (Q : St → Hp → Prop), Inv X pins σ H s → Vals vs us → t vs σ H Q →
    wpAny (model X.prog X.w) X.A (assignInOrder ((assignEach ts X.env).map (·.2)) us) (fun _ s' => ∃ σ' H', Inv X pins σ' H' s' ∧ Q σ' H') X.xe s
/-- o[i] = v, by values -/
abbrev TSet := V → V → V → Hp → (Hp → Prop) → Prop
def PSet (X : Cx) (t : TSet) : Prop :=
  ∀ (pins : List (Addr × Obj)) (s : Shared) (σ : St) (H : Hp) (o i v : V) (ov iv u : Value) (Q : Hp → Prop), Inv X pins σ H s → RelV o ov → RelV i iv → RelV v u → t o i v H Q →
    wpAny (model X.prog X.w) X.A (setItem ov iv u) (fun _ s' => ∃ H', Inv X pins σ H' s' ∧ Q H') X.xe s
section
variable {X : Cx} {pos : Pos}
def gName (i : Nat) : TG := fun v σ H Q => Q (σ.set i (some v)) H
theorem pg_name {i : Nat} {x : Str} (hN : X.N.Nodup) (hi : X.N[i]? = some x) (hx : Loc X.env.scope x) (hf : X.fn x = true ∨ X.env.scope.names.lookup x = some .local := by first | exact .inl rfl | exact .inr rfl | assumption) : PG X (.Name x pos) (gName i) := by
  intro pins s σ H v u Q I r h
  exact wpAny_assign_Name (store_ok I hN hi hx r (fun s' I' => ⟨_, H, I', h⟩) hf)
def gNil : TGs := fun vs σ H Q => vs = [] ∧ Q σ H
def gCons (t : TG) (u : TGs) : TGs := fun vs σ H Q => ∃ v r, vs = v :: r ∧ t v σ H fun σ' H' => u r σ' H' Q
theorem pgs_nil : PGs X [] gNil := by
  intro pins s σ H vs us Q I r h
  obtain ⟨e, h⟩ := h
  subst e
  cases r
  exact assignInOrder_nil ⟨σ, H, I, h⟩
theorem pgs_cons {e : Expr} {es : List Expr} {t : TG} {u : TGs} (h1 : PG X e t) (h2 : PGs X es u)
    (hs : (assignEach (e :: es) X.env).map (·.2) = assign e X.env :: (assignEach es X.env).map (·.2) := by rfl) : PGs X (e :: es) (gCons t u) := by
  intro pins s σ H vs us Q I r h
  obtain ⟨v, vr, e1, h⟩ := h
  subst e1
  cases r with
  | cons r rr =>
    rw [hs]
    refine assignInOrder_cons (thn (h1 pins s σ H _ _ _ I r h) fun _ s1 ⟨σ1, H1, I1, q1⟩ => ?_)
    exact h2 pins s1 σ1 H1 _ _ Q I1 rr q1
/-- (a, b, ..) = a tuple of that length -/
def gTup (K : PySem.W.Frag) (n : Nat) (t : TGs) : TG := fun v σ H Q => ∃ a xs, v = .ref a ∧ SqT K H a xs ∧ xs.length = n ∧ t xs σ H Q
theorem pg_tup {es : List Expr} {k : Nat} {t : TGs} {n : Nat} (hc : X.calm = true) (h : PGs X es t)
    (hn : (assignEach es X.env).length = n := by rfl) (hst : (assignEach es X.env).findIdx? (·.1) = none := by rfl) : PG X (.Tuple es k pos) (gTup X.K n t) := by
  intro pins s σ H v u Q I r hw
  obtain ⟨a, xs, e1, hq, hl, hw⟩ := hw
  subst e1
  cases r
  obtain ⟨its, rv, ht, hz⟩ := I.tuple hq
  refine assign_Tuple_tuple (I.ok.hd hc) ht (by simp [hn, ← hl, rv.length]) hst fun h' hx => ?_
  have I1 : Inv X pins σ H { s with heap := h' } := I.kept (t' := s.toks) fun b o e => hx b o (Nat.ne_of_lt (Heap.lt_size e)) e
  exact h pins _ σ H xs _ Q I1 (by simpa using rv) hw
/-- o[i] = .. -/
def gSub (to ti : TE) (t : TSet) : TG := fun v σ H Q => to σ H fun o H1 => ti σ H1 fun i H2 => t o i v H2 fun H3 => Q σ H3
theorem pg_sub {o i : Expr} {to ti : TE} {t : TSet} (ho : PE X o to) (hi : PE X i ti) (hs : PSet X t)
    (ha : ∀ v, assign (.Subscript o i pos) X.env v = (do
      let ov ← holding [v] (eval o X.env)
      let iv ← holding [v, ov] (eval i X.env)
      standAt pos
      holding [v, ov, iv] (setItem ov iv v)
      release [v, ov, iv] []) := by intro _; rfl) : PG X (.Subscript o i pos) (gSub to ti t) := by
  intro pins s σ H v u Q I r h
  rw [ha]
  refine wpAny_bind (wpAny_holding (thn (ho pins s σ H _ I h) fun ov s1 ⟨x, H1, I1, r1, q1⟩ => ?_))
  refine wpAny_bind (wpAny_holding (thn (hi pins s1 σ H1 _ I1 q1) fun iv s2 ⟨y, H2, I2, r2, q2⟩ => ?_))
  refine wpAny_bind (wpAny_standAt (wpAny_bind (wpAny_holding (thn (hs pins s2 σ H2 x y v ov iv u _ I2 r1 r2 r q2) fun _ s3 ⟨H3, I3, q3⟩ => ?_))))
  exact wpAny_release ⟨σ, H3, I3, q3⟩
/-- target = value -/
def tAsg (te : TE) (g : TG) : TS := fun D σ H => te σ H fun x H1 => g x σ H1 D.nx
theorem ps_asg {tg e : Expr} {te : TE} {g : TG} (he : PE X e te) (hg : PG X tg g) (hs : swapsWithSole [tg] e pos.line X.env = pure false := by rfl) (hw : swappedStores [tg] e X.env = pure none := by rfl)
    (h1 : (assignEach [tg] X.env).map (·.2) = [assign tg X.env] := by rfl) : PS X (.Assign [tg] e pos) (tAsg te g) := by
  intro pins s σ H D I h
  refine wpAny_Assign_stores (thn (he pins s σ H _ I h) fun v s1 ⟨x, H1, I1, r1, q1⟩ => ?_) hs hw
  rw [h1]
  exact thn (hg pins s1 σ H1 x v _ I1 r1 q1) fun _ s2 q => q
/-- name = value -/
theorem ps_set {i : Nat} {x : Str} {e : Expr} {te : TE} {pos' : Pos} (hN : X.N.Nodup) (hi : X.N[i]? = some x) (hx : Loc X.env.scope x) (he : PE X e te) (hs : swapsWith e (some (.Name x pos')) pos.line X.env = pure false := by rfl) (hf : X.fn x = true ∨ X.env.scope.names.lookup x = some .local := by first | exact .inl rfl | exact .inr rfl | assumption) :
    PS X (.Assign [.Name x pos'] e pos) (tAsg te (gName i)) := by
  intro pins s σ H D I h
  refine wpAny_Assign_Name (thn (he pins s σ H _ I h) fun v s1 ⟨y, H1, I1, r1, q1⟩ => ?_) hs
  exact store_ok I1 hN hi hx r1 (fun s2 I2 => ⟨_, H1, I2, q1⟩) hf
end

/-! ### while -/
section
variable {X : Cx} {pos : Pos}
end

/-! ### what a loop or a comprehension walks -/
/-- at turn i: it yields x (the heap may grow), or it stops -/
structure It where
  go : Nat → Hp → Prop
  yld : Nat → Hp → V → Hp → Prop
  stop : Nat → Hp → Prop
/-- the iterator's own objects may turn: they are not the frame's, not pinned, younger than the entry (or a comprehension's own) -/
def FpOk (X : Cx) (pins : List (Addr × Obj)) (H : Hp) (b : Addr) : Prop :=
  H b = none ∧ b ≠ X.env.locals ∧ b ∉ X.fs ∧ (b ∈ X.ex ∨ X.s₀.heap.objs.size ≤ b) ∧ (∀ x c, X.env.cells.lookup x = some c → c ≠ b) ∧ ∀ p ∈ X.pn ++ pins, p.1 ≠ b
theorem Inv.fpOk {X : Cx} {pins : List (Addr × Obj)} {σ : St} {H H' : Hp} {s : Shared} {b : Addr} (I : Inv X pins σ H s) (hb : s.heap.objs.size ≤ b) (hn : H' b = none) : FpOk X pins H' b := by
  refine ⟨hn, Nat.ne_of_gt (Nat.lt_of_lt_of_le I.lt hb), I.nofs hb, .inr (Nat.le_trans I.sz hb), fun x c e z => ?_, fun p hp z => ?_⟩
  · obtain ⟨v, q⟩ := I.cell x c e
    exact absurd (Nat.lt_of_lt_of_le q.lt (by rw [z]; exact hb)) (Nat.lt_irrefl _)
  · exact absurd (Nat.lt_of_lt_of_le (Heap.lt_size (I.pin p hp).1) (by rw [z]; exact hb)) (Nat.lt_irrefl _)
structure Turn (P : Program) (w : World) (K : PySem.W.Frag) (tg : Expr) (J : It) (fp : List Addr) (it : Addr) (tn : Nat → Heap → Prop) : Prop where
  mem : it ∈ fp
  obj : ∀ i h, tn i h → ∀ b ∈ fp, ∃ o, h.get? b = some o ∧ ∀ v, o.data ≠ .cell v
  keep : ∀ i h h', tn i h → (∀ b ∈ fp, ∀ o, h.get? b = some o → h'.get? b = some o) → tn i h'
  item : ∀ (X : Cx), X.prog = P → X.w = w → X.K = K → X.calm = true → ∀ (i : Nat) (pins : List (Addr × Obj)) (s : Shared) (σ : St) (H : Hp) (E : Value → Shared → Prop), Inv X pins σ H s → (∀ b ∈ fp, FpOk X pins H b) → tn i s.heap → J.go i H →
    wpAny (model P w) X.A (pyNext (.ref it)) (fun r s1 => ∃ u, r = some u ∧
      wpAny (model P w) X.A (letOwnedTupleGo tg (.ref it) u) (fun _ s2 => ∃ x H', Inv X pins σ H' s2 ∧ RelV x u ∧ J.yld i H x H' ∧ tn (i + 1) s2.heap ∧ ∀ b ∈ fp, H' b = none) E s1) E s
  done : ∀ (X : Cx), X.prog = P → X.w = w → X.K = K → X.calm = true → ∀ (i : Nat) (pins : List (Addr × Obj)) (s : Shared) (σ : St) (H : Hp) (E : Value → Shared → Prop), Inv X pins σ H s → (∀ b ∈ fp, FpOk X pins H b) → tn i s.heap → J.stop i H →
    wpAny (model P w) X.A (pyNext (.ref it)) (fun r s1 => r = none ∧ Inv X pins σ H s1) E s
  self : ∀ (A : Around) (i : Nat) (s : Shared) (Q : Value → Shared → Prop) (E : Value → Shared → Prop), tn i s.heap → Q (.ref it) s → wpAny (model P w) A (pyIter (.ref it)) Q E s
abbrev TI := St → Hp → (It → Hp → Prop) → Prop
/-- an iterator has come -/
def PIE (X : Cx) (pins : List (Addr × Obj)) (σ : St) (tg : Expr) (R : It → Hp → Prop) (itv : Value) (s2 : Shared) : Prop :=
  ∃ (it : Addr) (fp : List Addr) (tn : Nat → Heap → Prop) (J : It) (H' : Hp), itv = .ref it ∧ Inv X pins σ H' s2 ∧ Turn X.prog X.w X.K tg J fp it tn ∧ tn 0 s2.heap ∧ (∀ b ∈ fp, FpOk X pins H' b) ∧ R J H'
def PI (X : Cx) (tg iter : Expr) (wi : TI) : Prop :=
  ∀ (pins : List (Addr × Obj)) (s : Shared) (σ : St) (H : Hp) (R : It → Hp → Prop), Inv X pins σ H s → wi σ H R →
    wpAny (model X.prog X.w) X.A (eval iter X.env) (fun v s1 => wpAny (model X.prog X.w) X.A (pyIter v) (PIE X pins σ tg R) X.xe s1) X.xe s

/-- the step ahead of the store is nothing for an iterator that keeps no tuple -/
theorem go_of {M : Model} {A : Around} {E : Value → Shared → Prop} {s : Shared} {tg : Expr} {it : Addr} {u : Value} {o : Obj} {n : String} {vs : Array Value} {Q : Unit → Shared → Prop} (ho : s.heap.get? it = some o) (hc : o.cls = .type n) (hd : o.data = .fields vs)
    (hn : ["enumerate", "zip", "dict_itemiterator", "dict_reverseitemiterator", "odict_iterator", "itertools.zip_longest", "itertools.pairwise"].contains n = false) (hQ : Q () s) : wpAny M A (letOwnedTupleGo tg (.ref it) u) Q E s := by
  unfold letOwnedTupleGo
  cases tg <;> first
    | exact wpAny_pure hQ
    | (cases u <;> first
        | exact wpAny_pure hQ
        | (refine wpAny_bind (wpAny_load ho ?_)
           rw [hc, hd]
           show wpAny M A (if (["enumerate", "zip", "dict_itemiterator", "dict_reverseitemiterator", "odict_iterator", "itertools.zip_longest", "itertools.pairwise"].contains n && vs[0]? == some (rawInt _)) = true then _ else _) Q E s
           rw [if_neg (by intro h; rw [hn, Bool.false_and] at h; cases h)]
           exact wpAny_pure hQ))

/-- the list at a, as it stands at each turn (a loop may append to it) -/
def Itl (K : PySem.W.Frag) (a : Addr) : It :=
  ⟨fun i H => ∃ xs x, SqL K H a xs ∧ xs[i]? = some x, fun i H x H' => H' = H ∧ ∀ xs, SqL K H a xs → xs[i]? = some x, fun i H => ∃ xs, SqL K H a xs ∧ xs.length ≤ i⟩
def Itt (K : PySem.W.Frag) (a : Addr) : It :=
  ⟨fun i H => ∃ xs x, SqT K H a xs ∧ xs[i]? = some x, fun i H x H' => H' = H ∧ ∀ xs, SqT K H a xs → xs[i]? = some x, fun i H => ∃ xs, SqT K H a xs ∧ xs.length ≤ i⟩
/-- lo, lo + 1, .. (n of them) -/
def Itr (lo : Int) (n : Nat) : It := ⟨fun i _ => i < n, fun i H x H' => H' = H ∧ x = .int (lo + i), fun i _ => n ≤ i⟩
theorem turn_list {P : Program} {w : World} {K : PySem.W.Frag} {tg : Expr} (a it : Addr) : Turn P w K tg (Itl K a) [it] it (fun i h => h.IsListIter it a i) where
  mem := by simp
  obj := fun i h st b hb => by
    have e : b = it := by simpa using hb
    subst e
    obtain ⟨o, e, c, d⟩ := st
    exact ⟨o, e, fun v z => by rw [d] at z; cases z⟩
  keep := fun i h h' st k => st.at fun o e => k it (by simp) o e
  item := by
    intro X hP hw hK hc i pins s σ H E I hf st hg
    subst hP hw hK
    obtain ⟨xs, x, hq, hx⟩ := hg
    obtain ⟨its, rv, p, hz⟩ := I.list hq
    obtain ⟨u, hu, ru⟩ := rv.get hx
    obtain ⟨f0, f1, f2, f3, f4, f5⟩ := hf it (by simp)
    refine wpAny_pyNext_list_item st p.isList (x := u) (by simpa using hu) fun h' st' sb => ?_
    have I1 : Inv X pins σ H { s with heap := h' } := I.turned (t' := s.toks) (fun b o hb e => (sb.2 b hb).trans e) f0 f1 f3 f4 f5
    obtain ⟨o, e, c, d⟩ := id st'
    exact ⟨u, rfl, go_of (s := { s with heap := h' }) e c d (by decide) ⟨x, H, I1, ru, ⟨rfl, fun ys hy => by rw [I.list_inj hy hq]; exact hx⟩, st', fun b hb => (hf b hb).1⟩⟩
  done := by
    intro X hP hw hK hc i pins s σ H E I hf st hg
    subst hP hw hK
    obtain ⟨xs, hq, hx⟩ := hg
    obtain ⟨its, rv, p, hz⟩ := I.list hq
    obtain ⟨f0, f1, f2, f3, f4, f5⟩ := hf it (by simp)
    have hl := rv.length
    exact wpAny_pyNext_list_end (I.ok.hd hc) st p.isList (by simp; omega) fun h' eb => ⟨rfl, I.turned (t' := s.toks) (fun b o hb e => eb b o hb e) f0 f1 f3 f4 f5⟩
  self := fun _ _ _ _ _ st h => wpAny_pyIter_listiter st h
theorem turn_tuple {P : Program} {w : World} {K : PySem.W.Frag} {tg : Expr} (a it : Addr) : Turn P w K tg (Itt K a) [it] it (fun i h => h.IsTupleIter it a i) where
  mem := by simp
  obj := fun i h st b hb => by
    have e : b = it := by simpa using hb
    subst e
    obtain ⟨o, e, c, d⟩ := st
    exact ⟨o, e, fun v z => by rw [d] at z; cases z⟩
  keep := fun i h h' st k => st.at fun o e => k it (by simp) o e
  item := by
    intro X hP hw hK hc i pins s σ H E I hf st hg
    subst hP hw hK
    obtain ⟨xs, x, hq, hx⟩ := hg
    obtain ⟨its, rv, p, hz⟩ := I.tuple hq
    obtain ⟨u, hu, ru⟩ := rv.get hx
    obtain ⟨f0, f1, f2, f3, f4, f5⟩ := hf it (by simp)
    refine wpAny_pyNext_tuple_item st (show s.heap.IsTuple a its.toArray from p) (x := u) (by simpa using hu) fun h' st' sb => ?_
    have I1 : Inv X pins σ H { s with heap := h' } := I.turned (t' := s.toks) (fun b o hb e => (sb.2 b hb).trans e) f0 f1 f3 f4 f5
    obtain ⟨o, e, c, d⟩ := id st'
    exact ⟨u, rfl, go_of (s := { s with heap := h' }) e c d (by decide) ⟨x, H, I1, ru, ⟨rfl, fun ys hy => by rw [I.tuple_inj hy hq]; exact hx⟩, st', fun b hb => (hf b hb).1⟩⟩
  done := by
    intro X hP hw hK hc i pins s σ H E I hf st hg
    subst hP hw hK
    obtain ⟨xs, hq, hx⟩ := hg
    obtain ⟨its, rv, p, hz⟩ := I.tuple hq
    obtain ⟨f0, f1, f2, f3, f4, f5⟩ := hf it (by simp)
    have hl := rv.length
    exact wpAny_pyNext_tuple_end (I.ok.hd hc) st (show s.heap.IsTuple a its.toArray from p) (by simp; omega) fun h' eb => ⟨rfl, I.turned (t' := s.toks) (fun b o hb e => eb b o hb e) f0 f1 f3 f4 f5⟩
  self := fun _ _ _ _ _ st h => wpAny_pyIter_tupleiter st h
theorem turn_range {P : Program} {w : World} {K : PySem.W.Frag} {tg : Expr} (it : Addr) (lo : Int) (n : Nat) : Turn P w K tg (Itr lo n) [it] it (fun i h => IsRangeIter h it (lo + (i : Nat) * 1) ((n : Int) - (i : Nat)) 1) where
  mem := by simp
  obj := fun i h st b hb => by
    have e : b = it := by simpa using hb
    subst e
    exact ⟨_, st, fun v z => by
      have z' : Data.fields _ = Data.cell v := z
      cases z'⟩
  keep := fun i h h' st k => k it (by simp) _ st
  item := by
    intro X hP hw hK hc i pins s σ H E I hf st hg
    subst hP hw hK
    obtain ⟨f0, f1, f2, f3, f4, f5⟩ := hf it (by simp)
    have W := Walks.range (prog := X.prog) (w := X.w) (I.ok.hd hc) it lo 1 n
    refine W.item i s _ _ hg st fun v h' tk hv st' kk => ?_
    obtain ⟨t, rfl⟩ := hv
    have I1 : Inv X pins σ H { s with heap := h', toks := tk } := I.turned (fun b o hb e => kk b o (by simpa using hb) e) f0 f1 f3 f4 f5
    refine ⟨_, rfl, go_of (s := { s with heap := h', toks := tk }) (n := "range_iterator") st' rfl rfl (by decide) ⟨.int (lo + i), H, I1, ⟨t, ?_⟩, ⟨rfl, rfl⟩, st', fun b hb => (hf b hb).1⟩⟩
    rw [Int.mul_one]
  done := by
    intro X hP hw hK hc i pins s σ H E I hf st hg
    subst hP hw hK
    obtain ⟨f0, f1, f2, f3, f4, f5⟩ := hf it (by simp)
    exact wpAny_pyNext_range_end (I.ok.hd hc) st (by have : n ≤ i := hg; omega) fun h' eb => ⟨rfl, I.turned (t' := s.toks) (fun b o hb e => eb b o hb e) f0 f1 f3 f4 f5⟩
  self := fun _ _ _ _ _ st h => wpAny_pyIter_rangeiter st h
end L2

namespace L2
open PySem PySem.Spec PyProof.Rows
section
variable {X : Cx} {tg : Expr}
/-- a range object just made, walked -/
theorem range_it {pins : List (Addr × Obj)} {σ : St} {H : Hp} {s : Shared} {R : It → Hp → Prop} {E : Value → Shared → Prop} {lo hi : Int} {t u v : Tok} {tk : Nat} (I : Inv X pins σ H s) (h1 : -(2 ^ 62) ≤ lo) (h2 : lo < 2 ^ 62) (h3 : -(2 ^ 62) ≤ hi) (h4 : hi < 2 ^ 62)
    (q : R (Itr lo (hi - lo).toNat) H) : wpAny (model X.prog X.w) X.A (pyIter (.ref s.heap.objs.size)) (PIE X pins σ tg R) E { s with heap := s.heap.push { cls := .type "range", data := .fields #[.int lo t, .int hi u, .int 1 v] }, toks := tk } := by
  refine wpAny_pyIter_range (IsRange.new ..) (small_one h1 h2 h3 h4) ?_
  have I1 : Inv X pins σ H { s with heap := s.heap.push { cls := .type "range", data := .fields #[.int lo t, .int hi u, .int 1 v] }, toks := tk } := I.kept fun b o e => Heap.get?_push_of_some _ e
  refine ⟨(s.heap.push { cls := .type "range", data := .fields #[.int lo t, .int hi u, .int 1 v] }).objs.size, [(s.heap.push { cls := .type "range", data := .fields #[.int lo t, .int hi u, .int 1 v] }).objs.size], _, _, H, rfl,
    I1.kept (t' := tk) fun b o e => Heap.get?_push_of_some _ e, turn_range _ lo (hi - lo).toNat, ?_, fun b hb => ?_, q⟩
  · have e1 : lo + ((0 : Nat) : Int) * 1 = lo := by simp
    have e2 : (((hi - lo).toNat : Nat) : Int) - ((0 : Nat) : Int) = Builtin.Range.rangeSize lo hi 1 := by rw [rangeSize_one]; split <;> omega
    show IsRangeIter _ _ (lo + ((0 : Nat) : Int) * 1) ((((hi - lo).toNat : Nat) : Int) - ((0 : Nat) : Int)) 1
    rw [e1, e2]
    exact Heap.get?_push_size _ rfl
  · have e : b = (s.heap.push { cls := .type "range", data := .fields #[.int lo t, .int hi u, .int 1 v] }).objs.size := by simpa using hb
    subst e
    exact I1.fpOk (Nat.le_refl _) (I1.hok.fresh (Nat.le_refl _))
def iRng1 (ta : TA) : TI := fun σ H R => ta σ H fun vs H1 => ∃ j : Int, vs = [.int j] ∧ -(2 ^ 62) ≤ j ∧ j < 2 ^ 62 ∧ R (Itr 0 j.toNat) H1
theorem pi_range1 {a : Expr} {ta : TA} {p pos : Pos} (hg : Gl X "range") (hm : X.mg "range" = none) (ha : PA X [a] ta) (hs : starEach [a] X.env = [(false, eval a X.env)] := by rfl) : PI X tg (.Call (.Name "range" p) [a] [] pos) (iRng1 ta) := by
  intro pins s σ H R I h
  refine Call_ (ld_blt I hg hm boot_range (PyProof.Rows.callWith_type1 (thn (ha pos pins s σ H _ I h) fun us s1 ⟨vs, H1, I1, r1, q1⟩ => ?_) hs rfl))
  obtain ⟨j, e, q1, q2, q⟩ := q1
  subst e
  cases r1 with
  | cons r rr =>
    cases rr
    obtain ⟨t, rfl⟩ := r
    exact call_range_1 (range_it I1 (by omega) (by omega) q1 q2 (by simpa using q))
/-! ### for -/
/-- W: the invariant by the turn and a measure; N: what the body is to reach -/
def tFor (wi : TI) (g : TG) (tb : TS) : TS := fun D σ H => wi σ H fun J H1 => ∃ W : Nat → Nat → St → Hp → Prop, (∃ m, W 0 m σ H1) ∧ ∀ i m σ H, W i m σ H →
  (J.stop i H ∧ D.nx σ H) ∨ (J.go i H ∧ ∃ N : St → Hp → Prop, (∀ σ' H', N σ' H' → ∃ m', m' < m ∧ W (i + 1) m' σ' H') ∧ ∀ x H', J.yld i H x H' → g x σ H' fun σ2 H2 => tb { D with nx := N, ct := N, bk := D.nx } σ2 H2)
/-- the records at fp as they stand -/
def pinsAt (fp : List Addr) (h : Heap) : List (Addr × Obj) := fp.filterMap fun b => (h.get? b).map fun o => (b, o)
theorem mem_pinsAt {fp : List Addr} {h : Heap} {b : Addr} {o : Obj} (hb : b ∈ fp) (e : h.get? b = some o) : (b, o) ∈ pinsAt fp h := List.mem_filterMap.mpr ⟨b, hb, by rw [e]; rfl⟩
theorem of_pinsAt {fp : List Addr} {h : Heap} {p : Addr × Obj} (hp : p ∈ pinsAt fp h) : p.1 ∈ fp ∧ h.get? p.1 = some p.2 := by
  obtain ⟨b, hb, e⟩ := List.mem_filterMap.mp hp
  cases q : h.get? b with
  | none => rw [q] at e; cases e
  | some o =>
    rw [q] at e
    have e' : (b, o) = p := Option.some.inj e
    subst e'
    exact ⟨hb, q⟩
theorem Inv.pinned {pins : List (Addr × Obj)} {σ : St} {H : Hp} {s : Shared} {fp : List Addr} (I : Inv X pins σ H s) (hf : ∀ b ∈ fp, FpOk X pins H b) (ho : ∀ b ∈ fp, ∃ o, s.heap.get? b = some o ∧ ∀ v, o.data ≠ .cell v) : Inv X (pins ++ pinsAt fp s.heap) σ H s :=
  I.pins_of fun p hp => (List.mem_append.mp hp).elim (fun z => I.pin p (List.mem_append_right _ z)) fun z => by
    obtain ⟨hb, e⟩ := of_pinsAt z
    obtain ⟨f0, f1, f2, _⟩ := hf p.1 hb
    obtain ⟨o, e', d⟩ := ho p.1 hb
    rw [e] at e'; cases e'
    exact ⟨e, f0, f1, f2, d⟩
theorem Inv.unpinned {pins pl : List (Addr × Obj)} {σ : St} {H : Hp} {s : Shared} (I : Inv X (pins ++ pl) σ H s) : Inv X pins σ H s := I.pins_of fun p hp => I.pin p (List.mem_append_right _ (List.mem_append_left _ hp))
theorem ps_for {iter : Expr} {body : List Stmt} {wi : TI} {g : TG} {tb : TS} {pos : Pos} (hp : PassesOwn (model X.prog X.w) X.A X.env X.xe) (hc : X.calm = true) (hi : PI X tg iter wi) (hg : PG X tg g) (hb : PSs X body tb)
    (hs : ∀ x, foldedSetIterable iter X.env x = pure x := by intro _; rfl) : PS X (.For tg iter body [] pos) (tFor wi g tb) := by
  intro pins s σ H D I h
  refine wpAny_For (thn (hi pins s σ H _ I h) fun v s1 h1 => thn h1 fun itv s2 h2 => ?_) hs
  obtain ⟨it, fp, tn, J, H2, e, I2, T, st2, f2, W, ⟨m0, w0⟩, turn⟩ := h2
  subst e
  -- what stays true of the iterator's objects through the loop
  have stat : ∀ {H' : Hp}, (∀ b ∈ fp, H' b = none) → ∀ b ∈ fp, FpOk X pins H' b := fun hn b hb => ⟨hn b hb, (f2 b hb).2⟩
  refine codeAny_forLoop_any (fun n s' => ∃ i σ' H', Inv X pins σ' H' s' ∧ tn i s'.heap ∧ (∀ b ∈ fp, H' b = none) ∧ W i n σ' H') ?_ m0 ⟨0, σ, H2, I2, st2, fun b hb => (f2 b hb).1, w0⟩
  rintro n s3 ⟨i, σ3, H3, I3, st3, fr3, w3⟩
  rcases turn i n σ3 H3 w3 with ⟨stop, qn⟩ | ⟨go, N, hN, step⟩
  · refine wpAny_passesOwn hp (thn (T.done X rfl rfl rfl hc i pins s3 σ3 H3 X.xe I3 (stat fr3) st3 stop) fun r s4 ⟨hr, I4⟩ => ?_)
    subst hr
    exact wpAny_execs_nil ⟨σ3, H3, I4, qn⟩
  · refine wpAny_passesOwn hp (thn (T.item X rfl rfl rfl hc i pins s3 σ3 H3 X.xe I3 (stat fr3) st3 go) fun r s4 ⟨u, hr, h4⟩ => ?_)
    subst hr
    refine wpAny_passesOwn hp (thn h4 fun _ s5 ⟨x, H5, I5, r5, y5, st5, fr5⟩ => ?_)
    have I5' := I5.pinned (stat fr5) (T.obj _ _ st5)
    refine wpAny_passesOwn hp (thn (hg _ s5 σ3 H5 x u _ I5' r5 (step x H5 y5)) fun _ s6 ⟨σ6, H6, I6, q6⟩ => ?_)
    refine wpAny_passesOwn hp (thn (hb _ s6 σ6 H6 _ I6 q6) fun f s7 q7 => ?_)
    have again : ∀ {σ7 : St} {H7 : Hp}, Inv X (pins ++ pinsAt fp s5.heap) σ7 H7 s7 → N σ7 H7 → ∃ m, m < n ∧ ∃ i σ' H', Inv X pins σ' H' s7 ∧ tn i s7.heap ∧ (∀ b ∈ fp, H' b = none) ∧ W i m σ' H' := fun {σ7 H7} I7 n7 => by
      obtain ⟨m', hm, w7⟩ := hN σ7 H7 n7
      refine ⟨m', hm, i + 1, σ7, H7, I7.unpinned, T.keep _ _ _ st5 fun b hb o e => (I7.pin (b, o) (List.mem_append_right _ (List.mem_append_right _ (mem_pinsAt hb e)))).1, fun b hb => ?_, w7⟩
      obtain ⟨o, e, d⟩ := T.obj _ _ st5 b hb
      exact (I7.pin (b, o) (List.mem_append_right _ (List.mem_append_right _ (mem_pinsAt hb e)))).2.1
    cases f with
    | next => obtain ⟨σ7, H7, I7, n7⟩ := q7; exact again I7 n7
    | cont => obtain ⟨σ7, H7, I7, n7⟩ := q7; exact again I7 n7
    | brk => obtain ⟨σ7, H7, I7, q7⟩ := q7; exact ⟨σ7, H7, I7.unpinned, q7⟩
    | ret v => obtain ⟨x7, σ7, H7, I7, r7, q7⟩ := q7; exact ⟨x7, σ7, H7, I7.unpinned, r7, q7⟩
end

/-! ### the forms one uses -/
/-- over a list that the body leaves as it is -/
theorem for_list {K : PySem.W.Frag} {a : Addr} {xs : List V} {g : TG} {tb : TS} {D : Ends} {σ : St} {H : Hp} (Pv : Nat → St → Hp → Prop) (h0 : Pv 0 σ H) (hl : ∀ i σ H, i ≤ xs.length → Pv i σ H → SqL K H a xs)
    (hs : ∀ i x σ H, xs[i]? = some x → Pv i σ H → g x σ H fun σ2 H2 => tb { D with nx := Pv (i + 1), ct := Pv (i + 1), bk := D.nx } σ2 H2) (hd : ∀ σ H, Pv xs.length σ H → D.nx σ H) :
    ∃ W : Nat → Nat → St → Hp → Prop, (∃ m, W 0 m σ H) ∧ ∀ i m σ H, W i m σ H →
      ((Itl K a).stop i H ∧ D.nx σ H) ∨ ((Itl K a).go i H ∧ ∃ N : St → Hp → Prop, (∀ σ' H', N σ' H' → ∃ m', m' < m ∧ W (i + 1) m' σ' H') ∧ ∀ x H', (Itl K a).yld i H x H' → g x σ H' fun σ2 H2 => tb { D with nx := N, ct := N, bk := D.nx } σ2 H2) := by
  refine ⟨fun i m σ H => m = xs.length - i ∧ i ≤ xs.length ∧ Pv i σ H, ⟨xs.length, by simp, Nat.zero_le _, h0⟩, ?_⟩
  rintro i m σ H ⟨rfl, hi, p⟩
  have q := hl i σ H hi p
  by_cases hlt : i < xs.length
  · refine .inr ⟨⟨xs, xs[i], q, by simp [hlt]⟩, Pv (i + 1), fun σ' H' p' => ⟨xs.length - (i + 1), by omega, rfl, hlt, p'⟩, fun x H' y => ?_⟩
    obtain ⟨e, y⟩ := y
    subst e
    exact hs i x σ _ (y xs q) p
  · have e : i = xs.length := by omega
    subst e
    exact .inl ⟨⟨xs, q, Nat.le_refl _⟩, hd σ H p⟩
theorem for_range {lo : Int} {n : Nat} {g : TG} {tb : TS} {D : Ends} {σ : St} {H : Hp} (Pv : Nat → St → Hp → Prop) (h0 : Pv 0 σ H)
    (hs : ∀ i σ H, i < n → Pv i σ H → g (.int (lo + i)) σ H fun σ2 H2 => tb { D with nx := Pv (i + 1), ct := Pv (i + 1), bk := D.nx } σ2 H2) (hd : ∀ σ H, Pv n σ H → D.nx σ H) :
    ∃ W : Nat → Nat → St → Hp → Prop, (∃ m, W 0 m σ H) ∧ ∀ i m σ H, W i m σ H →
      ((Itr lo n).stop i H ∧ D.nx σ H) ∨ ((Itr lo n).go i H ∧ ∃ N : St → Hp → Prop, (∀ σ' H', N σ' H' → ∃ m', m' < m ∧ W (i + 1) m' σ' H') ∧ ∀ x H', (Itr lo n).yld i H x H' → g x σ H' fun σ2 H2 => tb { D with nx := N, ct := N, bk := D.nx } σ2 H2) := by
  refine ⟨fun i m σ H => m = n - i ∧ i ≤ n ∧ Pv i σ H, ⟨n, by simp, Nat.zero_le _, h0⟩, ?_⟩
  rintro i m σ H ⟨rfl, hi, p⟩
  by_cases hlt : i < n
  · refine .inr ⟨hlt, Pv (i + 1), fun σ' H' p' => ⟨n - (i + 1), by omega, rfl, hlt, p'⟩, fun x H' y => ?_⟩
    obtain ⟨e, y⟩ := y
    subst e y
    exact hs i σ _ hlt p
  · have e : i = n := by omega
    subst e
    exact .inl ⟨Nat.le_refl _, hd σ H p⟩
end L2

namespace L2
open PySem PySem.Spec PyProof.Rows

abbrev R2 := V → V → Hp → VK → Prop
/-- a two-place operation on values: f is binaryOp op, inplaceOp op or compareOp op -/
def OpR (X : Cx) (f : Value → Value → Sem Value) (r : R2) : Prop :=
  ∀ (pins : List (Addr × Obj)) (s : Shared) (σ : St) (H : Hp) (x y : V) (v u : Value) (Q : VK), Inv X pins σ H s → RelV x v → RelV y u → r x y H Q →
    wpAny (model X.prog X.w) X.A (f v u) (EP X pins σ Q) X.xe s
/-- a one-place operation -/
def UnR (X : Cx) (f : Value → Sem Value) (r : V → Hp → VK → Prop) : Prop :=
  ∀ (pins : List (Addr × Obj)) (s : Shared) (σ : St) (H : Hp) (x : V) (v : Value) (Q : VK), Inv X pins σ H s → RelV x v → r x H Q →
    wpAny (model X.prog X.w) X.A (f v) (EP X pins σ Q) X.xe s
/-- a call of a value that is known (a builtin, a type) with values -/
def CallR (X : Cx) (f : Value) (r : List V → Hp → VK → Prop) : Prop :=
  ∀ (pins : List (Addr × Obj)) (s : Shared) (σ : St) (H : Hp) (xs : List V) (us : List Value) (Q : VK), Inv X pins σ H s → Vals xs us → r xs H Q →
    wpAny (model X.prog X.w) X.A (call f us) (EP X pins σ Q) X.xe s
/-- a value's truth -/
def TruR (X : Cx) (r : V → Hp → (Bool → Hp → Prop) → Prop) : Prop :=
  ∀ (pins : List (Addr × Obj)) (s : Shared) (σ : St) (H : Hp) (x : V) (v : Value) (Q : Bool → Hp → Prop), Inv X pins σ H s → RelV x v → r x H Q →
    wpAny (model X.prog X.w) X.A (truthy v) (TP X pins σ Q) X.xe s

def tOp (r : R2) (ta tb : TE) : TE := fun σ H Q => ta σ H fun x H1 => tb σ H1 fun y H2 => r x y H2 Q
def tUn (r : V → Hp → VK → Prop) (ta : TE) : TE := fun σ H Q => ta σ H fun x H1 => r x H1 Q
/-- ints in, under C, and a value out -/
def rI (C : Int → Int → Prop) (g : Int → Int → V) : R2 := fun x y H Q => ∃ i j, x = .int i ∧ y = .int j ∧ C i j ∧ Q (g i j) H
def rI0 (g : Int → Int → V) : R2 := fun x y H Q => ∃ i j, x = .int i ∧ y = .int j ∧ Q (g i j) H
def rU (g : Int → V) : V → Hp → VK → Prop := fun x H Q => ∃ i, x = .int i ∧ Q (g i) H

section
variable {X : Cx} {a b c : Expr} {ta tb tc : TE} {pos : Pos}

theorem binT (ha : PE X a ta) (hb : PE X b tb) {pins : List (Addr × Obj)} {s : Shared} {σ : St} {H : Hp} {R : V → V → Hp → Prop} (I : Inv X pins σ H s)
    (h : ta σ H fun x H1 => tb σ H1 fun y H2 => R x y H2) {Q : Value → Shared → Prop} {f : Value → Value → Sem Value}
    (hf : ∀ v u s2 x y H2, Inv X pins σ H2 s2 → RelV x v → RelV y u → R x y H2 → wpAny (model X.prog X.w) X.A (f v u) Q X.xe s2) :
    wpAny (model X.prog X.w) X.A (eval a X.env) (fun v s₁ => wpAny (model X.prog X.w) X.A (eval b X.env) (fun u s₂ => wpAny (model X.prog X.w) X.A (f v u) Q X.xe s₂) X.xe s₁) X.xe s := by
  refine thn (ha pins s σ H _ I h) fun v s1 ⟨x, H1, I1, r1, q1⟩ => ?_
  refine thn (hb pins s1 σ H1 _ I1 q1) fun u s2 ⟨y, H2, I2, r2, q2⟩ => ?_
  exact hf v u s2 x y H2 I2 r1 r2 q2

theorem pe_op {op : Operator} {r : R2} (ho : OpR X (binaryOp op) r) (ha : PE X a ta) (hb : PE X b tb) : PE X (.BinOp a op b pos) (tOp r ta tb) := by
  intro pins s σ H Q I h
  exact wpAny_BinOp (binT ha hb I h fun v u s2 x y H2 I2 rx ry q => ho pins s2 σ H2 x y v u Q I2 rx ry q)
theorem pe_un {op : UnaryOp} {r : V → Hp → VK → Prop} (ho : UnR X (unaryOp op) r) (ha : PE X a ta) : PE X (.UnaryOp op a pos) (tUn r ta) := by
  intro pins s σ H Q I h
  exact UnaryOp_ (thn (ha pins s σ H _ I h) fun v s1 ⟨x, H1, I1, r1, q1⟩ => ho pins s1 σ H1 x v Q I1 r1 q1)
/-! ### ints -/
theorem opI {f : Value → Value → Sem Value} {C : Int → Int → Prop} {g : Int → Int → Int}
    (rule : ∀ (i j : Int) (t u : Tok) (s : Shared) (Q : Value → Shared → Prop) (E : Value → Shared → Prop), C i j → Q (.int (g i j) s.toks) { s with toks := s.toks + 1 } → wpAny (model X.prog X.w) X.A (f (.int i t) (.int j u)) Q E s) :
    OpR X f (rI C fun i j => .int (g i j)) := by
  intro pins s σ H x y v u Q I rx ry h
  obtain ⟨i, j, rfl, rfl, hc, q⟩ := h
  obtain ⟨t, rfl⟩ := rx
  obtain ⟨t', rfl⟩ := ry
  exact rule i j t t' s _ _ hc ⟨.int (g i j), H, I.tok _, ⟨_, rfl⟩, q⟩
theorem opI0 {f : Value → Value → Sem Value} {g : Int → Int → Int}
    (rule : ∀ (i j : Int) (t u : Tok) (s : Shared) (Q : Value → Shared → Prop) (E : Value → Shared → Prop), Q (.int (g i j) s.toks) { s with toks := s.toks + 1 } → wpAny (model X.prog X.w) X.A (f (.int i t) (.int j u)) Q E s) :
    OpR X f (rI0 fun i j => .int (g i j)) := by
  intro pins s σ H x y v u Q I rx ry h
  obtain ⟨i, j, rfl, rfl, q⟩ := h
  obtain ⟨t, rfl⟩ := rx
  obtain ⟨t', rfl⟩ := ry
  exact rule i j t t' s _ _ ⟨.int (g i j), H, I.tok _, ⟨_, rfl⟩, q⟩
theorem opB0 {f : Value → Value → Sem Value} {g : Int → Int → Bool}
    (rule : ∀ (i j : Int) (t u : Tok) (s : Shared) (Q : Value → Shared → Prop) (E : Value → Shared → Prop), Q (.bool (g i j)) s → wpAny (model X.prog X.w) X.A (f (.int i t) (.int j u)) Q E s) :
    OpR X f (rI0 fun i j => .bl (g i j)) := by
  intro pins s σ H x y v u Q I rx ry h
  obtain ⟨i, j, rfl, rfl, q⟩ := h
  obtain ⟨t, rfl⟩ := rx
  obtain ⟨t', rfl⟩ := ry
  exact rule i j t t' s _ _ ⟨.bl (g i j), H, I, rfl, q⟩

def CDiv (i j : Int) : Prop := 0 < j ∧ j < 1073741824
def CPow (i j : Int) : Prop := 0 ≤ j ∧ j ≤ 1000000 ∧ i.natAbs < 2 ^ 64
def CMul (i j : Int) : Prop := (-(2 ^ 64) < i ∧ i < 2 ^ 64) ∨ (-(2 ^ 64) < j ∧ j < 2 ^ 64)
theorem CMul.ok {i j : Int} (h : CMul i j) : IntMulOk i j := by
  rcases h with ⟨h1, h2⟩ | ⟨h1, h2⟩
  · exact .of_left (intBits_le_64 h1 h2)
  · exact .of_right (intBits_le_64 h1 h2)
theorem two_pow_nn (k : Nat) : (0 : Int) ≤ 2 ^ k := by
  rw [two_pow_cast]
  exact Int.natCast_nonneg _

theorem op_add : OpR X (binaryOp .Add) (rI0 fun i j => .int (i + j)) := opI0 fun _ _ _ _ _ _ _ q => add_int q
theorem op_sub : OpR X (binaryOp .Sub) (rI0 fun i j => .int (i - j)) := opI0 fun _ _ _ _ _ _ _ q => sub_int q
/-- % by a positive divisor of any size -/
theorem op_mod : OpR X (binaryOp .Mod) (rI (fun _ j => 0 < j) fun i j => .int (i % j)) := opI fun i j _ _ _ _ _ hc q => by
  have h1 : (0 : Int) < j := hc
  exact mod_int' (by omega) (by rw [Int.fmod_eq_emod_of_nonneg i (by omega)]; exact q)
theorem op_pow : OpR X (binaryOp .Pow) (rI CPow fun i j => .int (i ^ j.toNat)) := opI fun _ _ _ _ _ _ _ hc q => pow_int_small hc.1 hc.2.1 hc.2.2 q
theorem op_shr : OpR X (binaryOp .RShift) (rI (fun _ j => 0 ≤ j) fun i j => .int (i / 2 ^ j.toNat)) := opI fun i j _ _ _ _ _ hc q =>
  rshift_int hc (by rw [Int.fdiv_eq_ediv_of_nonneg i (two_pow_nn _)]; exact q)
theorem unI {f : Value → Sem Value} {g : Int → Int}
    (rule : ∀ (i : Int) (t : Tok) (s : Shared) (Q : Value → Shared → Prop) (E : Value → Shared → Prop), Q (.int (g i) s.toks) { s with toks := s.toks + 1 } → wpAny (model X.prog X.w) X.A (f (.int i t)) Q E s) :
    UnR X f (rU fun i => .int (g i)) := by
  intro pins s σ H x v Q I rx h
  obtain ⟨i, rfl, q⟩ := h
  obtain ⟨t, rfl⟩ := rx
  exact rule i t s _ _ ⟨.int (g i), H, I.tok _, ⟨_, rfl⟩, q⟩
theorem un_neg : UnR X (unaryOp .USub) (rU fun i => .int (-i)) := unI fun _ _ _ _ _ q => neg_int q
/-! ### bools among ints: n += (a < b) -/
end

/-! ### comparisons -/
/-- the scalars that == tells apart as data does -/
def scal : V → V → Bool
  | .non, .non => true | .non, .int _ => true | .int _, .non => true | .non, .bl _ => true | .bl _, .non => true | .non, .str _ => true | .str _, .non => true
  | .int _, .int _ => true | .bl _, .bl _ => true | .str _, .str _ => true | .byt _, .byt _ => true
  | .int _, .str _ => true | .str _, .int _ => true | .bl _, .str _ => true | .str _, .bl _ => true
  | _, _ => false
def rEq : R2 := fun x y H Q => scal x y = true ∧ Q (.bl (decide (x = y))) H
def rNe : R2 := fun x y H Q => scal x y = true ∧ Q (.bl (!decide (x = y))) H

theorem dec_int {i j : Int} : decide (V.int i = V.int j) = (i == j) := by
  rw [Bool.eq_iff_iff]
  simp
theorem dec_bl {i j : Bool} : decide (V.bl i = V.bl j) = (i == j) := by
  rw [Bool.eq_iff_iff]
  simp
theorem dec_str {i j : Str} : decide (V.str i = V.str j) = (i == j) := by
  rw [Bool.eq_iff_iff]
  simp
theorem dec_byt {i j : Array UInt8} : decide (V.byt i = V.byt j) = (i.toList == j.toList) := by
  rw [Bool.eq_iff_iff]
  cases i
  cases j
  simp

section
variable {X : Cx} {a b c : Expr} {ta tb tc : TE} {pos : Pos}
theorem fin_bl {pins : List (Addr × Obj)} {σ : St} {H : Hp} {s : Shared} {Q : VK} {k k' : Bool} (I : Inv X pins σ H s) (q : Q (.bl k) H) (e : k = k') : EP X pins σ Q (.bool k') s := by
  subst e
  exact ⟨.bl k, H, I, rfl, q⟩
theorem op_eq : OpR X (compareOp .Eq) rEq := by
  intro pins s σ H x y v u Q I rx ry h
  obtain ⟨hs, q⟩ := h
  cases x with
  | non =>
    cases rx
    cases y with
    | non => cases ry; exact PySem.EqNone.eq_none_none (fin_bl I q (by simp))
    | bl j => cases ry; exact PySem.EqNone.eq_none_bool (fin_bl I q (by simp))
    | int j => obtain ⟨t', rfl⟩ := ry; exact PySem.EqNone.eq_none_int (fin_bl I q (by simp))
    | str j => obtain ⟨t', rfl⟩ := ry; exact PySem.EqNone.eq_none_str (fin_bl I q (by simp))
    | _ => exact absurd (show false = true from hs) Bool.false_ne_true
  | bl i =>
    cases rx
    cases y with
    | non => cases ry; exact PySem.EqNone.eq_bool_none (fin_bl I q (by simp))
    | bl j => cases ry; exact eq_bool (fin_bl I q dec_bl)
    | str j => obtain ⟨t', rfl⟩ := ry; exact PySem.EqMixed.eq_bool_str (fin_bl I q (by simp))
    | _ => exact absurd (show false = true from hs) Bool.false_ne_true
  | int i =>
    obtain ⟨t, rfl⟩ := rx
    cases y with
    | non => cases ry; exact PySem.EqNone.eq_int_none (fin_bl I q (by simp))
    | int j => obtain ⟨t', rfl⟩ := ry; exact eq_int (fin_bl I q dec_int)
    | str j => obtain ⟨t', rfl⟩ := ry; exact PySem.EqMixed.eq_int_str (fin_bl I q (by simp))
    | _ => exact absurd (show false = true from hs) Bool.false_ne_true
  | str i =>
    obtain ⟨t, rfl⟩ := rx
    cases y with
    | non => cases ry; exact PySem.EqNone.eq_str_none (fin_bl I q (by simp))
    | bl j => cases ry; exact PySem.EqMixed.eq_str_bool (fin_bl I q (by simp))
    | int j => obtain ⟨t', rfl⟩ := ry; exact PySem.EqMixed.eq_str_int (fin_bl I q (by simp))
    | str j => obtain ⟨t', rfl⟩ := ry; exact eq_str (fin_bl I q dec_str)
    | _ => exact absurd (show false = true from hs) Bool.false_ne_true
  | byt i =>
    obtain ⟨t, rfl⟩ := rx
    cases y with
    | byt j => obtain ⟨t', rfl⟩ := ry; exact PySem.W.eq_bytes (fin_bl I q dec_byt)
    | _ => exact absurd (show false = true from hs) Bool.false_ne_true
  | _ => cases y <;> exact absurd (show false = true from hs) Bool.false_ne_true
theorem op_ne : OpR X (compareOp .NotEq) rNe := by
  intro pins s σ H x y v u Q I rx ry h
  obtain ⟨hs, q⟩ := h
  cases x with
  | non =>
    cases rx
    cases y with
    | non => cases ry; exact PySem.EqNone.ne_none_none (fin_bl I q (by simp))
    | bl j => cases ry; exact PySem.EqNone.ne_none_bool (fin_bl I q (by simp))
    | int j => obtain ⟨t', rfl⟩ := ry; exact PySem.EqNone.ne_none_int (fin_bl I q (by simp))
    | str j => obtain ⟨t', rfl⟩ := ry; exact PySem.EqNone.ne_none_str (fin_bl I q (by simp))
    | _ => exact absurd (show false = true from hs) Bool.false_ne_true
  | bl i =>
    cases rx
    cases y with
    | non => cases ry; exact PySem.EqNone.ne_bool_none (fin_bl I q (by simp))
    | bl j => cases ry; exact ne_bool (fin_bl I q (congrArg not dec_bl))
    | str j => obtain ⟨t', rfl⟩ := ry; exact PySem.EqMixed.ne_bool_str (fin_bl I q (by simp))
    | _ => exact absurd (show false = true from hs) Bool.false_ne_true
  | int i =>
    obtain ⟨t, rfl⟩ := rx
    cases y with
    | non => cases ry; exact PySem.EqNone.ne_int_none (fin_bl I q (by simp))
    | int j => obtain ⟨t', rfl⟩ := ry; exact ne_int (fin_bl I q (congrArg not dec_int))
    | str j => obtain ⟨t', rfl⟩ := ry; exact PySem.EqMixed.ne_int_str (fin_bl I q (by simp))
    | _ => exact absurd (show false = true from hs) Bool.false_ne_true
  | str i =>
    obtain ⟨t, rfl⟩ := rx
    cases y with
    | non => cases ry; exact PySem.EqNone.ne_str_none (fin_bl I q (by simp))
    | bl j => cases ry; exact PySem.EqMixed.ne_str_bool (fin_bl I q (by simp))
    | int j => obtain ⟨t', rfl⟩ := ry; exact PySem.EqMixed.ne_str_int (fin_bl I q (by simp))
    | str j => obtain ⟨t', rfl⟩ := ry; exact ne_str (fin_bl I q (congrArg not dec_str))
    | _ => exact absurd (show false = true from hs) Bool.false_ne_true
  | byt i =>
    obtain ⟨t, rfl⟩ := rx
    cases y with
    | byt j => obtain ⟨t', rfl⟩ := ry; exact PySem.W.ne_bytes (fin_bl I q (congrArg not dec_byt))
    | _ => exact absurd (show false = true from hs) Bool.false_ne_true
  | _ => cases y <;> exact absurd (show false = true from hs) Bool.false_ne_true

theorem op_lt : OpR X (compareOp .Lt) (rI0 fun i j => .bl (decide (i < j))) := opB0 fun _ _ _ _ _ _ _ q => lt_int q
theorem op_le : OpR X (compareOp .LtE) (rI0 fun i j => .bl (decide (i ≤ j))) := opB0 fun _ _ _ _ _ _ _ q => le_int q
theorem op_gt : OpR X (compareOp .Gt) (rI0 fun i j => .bl (decide (j < i))) := opB0 fun _ _ _ _ _ _ _ q => gt_int q
theorem op_ge : OpR X (compareOp .GtE) (rI0 fun i j => .bl (decide (j ≤ i))) := opB0 fun _ _ _ _ _ _ _ q => ge_int q
theorem op_lt_str : OpR X (compareOp .Lt) (fun x y H Q => ∃ i j, x = .str i ∧ y = .str j ∧ Q (.bl (decide (i.cps.toList < j.cps.toList))) H) := by
  intro pins s σ H x y v u Q I rx ry h
  obtain ⟨i, j, rfl, rfl, q⟩ := h
  obtain ⟨t, rfl⟩ := rx
  obtain ⟨t', rfl⟩ := ry
  exact lt_str (fin_bl I q rfl)
theorem op_notN : OpR X (compareOp .IsNot) (fun x y H Q => y = .non ∧ Q (.bl (!decide (x = .non))) H) := by
  intro pins s σ H x y v u Q I rx ry h
  obtain ⟨rfl, q⟩ := h
  cases ry
  refine isnot_none_gen (fin_bl I q ?_)
  cases x <;> first
    | (cases rx; rfl)
    | (obtain ⟨t, rfl⟩ := rx; rfl)

/-- is, is not of two objects that are tracked lists or instances -/
def isObj : HO → Bool
  | .lst _ => true
  | .ins _ _ _ => true
  | _ => false
/-- two rules for one operation: by cases -/
theorem OpR.or {f : Value → Value → Sem Value} {r r' : R2} (h : OpR X f r) (h' : OpR X f r') : OpR X f (fun x y H Q => r x y H Q ∨ r' x y H Q) := by
  intro pins s σ H x y v u Q I rx ry q
  rcases q with q | q
  · exact h pins s σ H x y v u Q I rx ry q
  · exact h' pins s σ H x y v u Q I rx ry q

theorem nomark (b : Expr) {op : CmpOp} (h : op ≠ .In := by decide) (h2 : op ≠ .NotIn := by decide) : behindInMarks op b = false := by
  have e1 : (op == CmpOp.In) = false := by cases op <;> first | rfl | exact absurd rfl h
  have e2 : (op == CmpOp.NotIn) = false := by cases op <;> first | rfl | exact absurd rfl h2
  cases b <;> simp [behindInMarks, e1, e2]
/-- a comparison as a value; hm: nomark b, or (for in, not in) by with_unfolding_all rfl -/
theorem pe_cmpR {op : CmpOp} {r : R2} (ho : OpR X (compareOp op) r) (ha : PE X a ta) (hb : PE X b tb) (hm : behindInMarks op b = false) : PE X (.Compare a [op] [b] pos) (tOp r ta tb) := by
  intro pins s σ H Q I h
  exact wpAny_Compare1 (binT ha hb I h fun v u s2 x y H2 I2 rx ry q => ho pins s2 σ H2 x y v u Q I2 rx ry q) hm
/-! ### truth -/
/-- a value's truth by the abstract heap -/
def TruV (K : PySem.W.Frag) (x : V) (H : Hp) (k : Bool) : Prop :=
  match x with
  | .non => k = false
  | .bl b => k = b
  | .int i => k = (i != 0)
  | .str y => y.length ≤ sizeLine ∧ k = ((y.length : Int) != 0)
  | .byt y => y.size ≤ sizeLine ∧ k = ((y.size : Int) != 0)
  | .ref p => (∃ xs, SqL K H p xs ∧ k = !xs.isEmpty) ∨ (∃ xs, SqT K H p xs ∧ k = !xs.isEmpty) ∨ ∃ kvs, H p = some (.dK kvs) ∧ k = !kvs.isEmpty
  | _ => False
theorem isEmpty_kv {κ : Type} {kvs : List (κ × V)} {vs : List (κ × Value)} (r : KV kvs vs) : (!vs.isEmpty) = !kvs.isEmpty := by
  cases r <;> rfl
theorem isEmpty_of {xs : List V} {its : List Value} (r : Vals xs its) : (!its.toArray.isEmpty) = !xs.isEmpty := by
  cases r <;> simp
theorem line63 : (sizeLine : Nat) < 2 ^ 63 := by rw [sizeLine_eq]; decide
theorem tru_ok : TruR X (fun x H Q => ∃ k, TruV X.K x H k ∧ Q k H) := by
  intro pins s σ H x v Q I rx h
  obtain ⟨k, e, q⟩ := h
  have hl := line63
  have hs : sizeLine = 16777216 := sizeLine_eq
  cases x with
  | non =>
    cases rx
    have e' : k = false := e
    subst e'
    exact truthy_none ⟨H, I, q⟩
  | bl b =>
    cases rx
    have e' : k = b := e
    subst e'
    exact wpAny_truthy_bool ⟨H, I, q⟩
  | int i =>
    obtain ⟨t, rfl⟩ := rx
    have e' : k = (i != 0) := e
    subst e'
    exact PySem.P.truthy_int ⟨H, I, q⟩
  | str y =>
    obtain ⟨t, rfl⟩ := rx
    obtain ⟨hy, e'⟩ : y.length ≤ sizeLine ∧ k = ((y.length : Int) != 0) := e
    subst e'
    exact PySem.P.truthy_str (by omega) ⟨H, I.tok _, q⟩
  | byt y =>
    obtain ⟨t, rfl⟩ := rx
    obtain ⟨hy, e'⟩ : y.size ≤ sizeLine ∧ k = ((y.size : Int) != 0) := e
    subst e'
    exact PySem.W.truthy_bytes (by omega) ⟨H, I.tok _, q⟩
  | ref p =>
    cases rx
    have e' : (∃ xs, SqL X.K H p xs ∧ k = !xs.isEmpty) ∨ (∃ xs, SqT X.K H p xs ∧ k = !xs.isEmpty) ∨ ∃ kvs, H p = some (.dK kvs) ∧ k = !kvs.isEmpty := e
    rcases e' with ⟨xs, hx, e'⟩ | ⟨xs, hx, e'⟩ | ⟨kvs, hx, e'⟩
    · subst e'
      obtain ⟨its, r, pl, hz⟩ := I.list hx
      have hlen := r.length
      exact wpAny_truthy_list pl.isList (by simp only [List.size_toArray]; omega) ⟨H, I.tok _, by rw [isEmpty_of r]; exact q⟩
    · subst e'
      obtain ⟨its, r, pl, hz⟩ := I.tuple hx
      have hlen := r.length
      exact truthy_tuple pl (by simp only [List.size_toArray]; omega) ⟨H, I.tok _, by rw [isEmpty_of r]; exact q⟩
    · subst e'
      obtain ⟨hz, hS, vs, r, m⟩ : kvs.length ≤ sizeLine ∧ (p == sysModules) = false ∧ ∃ vs, KV kvs vs ∧ s.heap.DictOf (mixKind X.prog X.w) p vs := I.hok p _ hx
      have hlen : kvs.length = vs.length := Paired.length r
      exact wpAny_truthy_dict hS m (by omega) ⟨H, I.tok _, by rw [isEmpty_kv r]; exact q⟩
  | _ => exact (show False from e).elim
/-- any expression whose test is its value's truth (a name, a call, a subscript, a field ..: he by fun _ => rfl) -/
theorem pt_truth (ha : PE X a ta) (he : ∀ whole, isTrue a X.env whole = (do let v ← whole; standAt a.pos; holding [v] (truthy v))) :
    PT X a (fun σ H Q => ta σ H fun x H' => ∃ k, TruV X.K x H' k ∧ Q k H') := by
  intro pins s σ H Q I h
  exact isTrue_plain (thn (ha pins s σ H _ I h) fun v s1 ⟨x, H1, I1, r1, q1⟩ => tru_ok pins s1 σ H1 x v Q I1 r1 q1) (he _)

/-! ### strs and bytes -/
theorem op_add_str : OpR X (binaryOp .Add) (fun x y H Q => ∃ i j, x = .str i ∧ y = .str j ∧ i.length + j.length ≤ sizeLine ∧ Q (.str (i ++ j)) H) := by
  intro pins s σ H x y v u Q I rx ry h
  obtain ⟨i, j, rfl, rfl, hz, q⟩ := h
  obtain ⟨t, rfl⟩ := rx
  obtain ⟨t', rfl⟩ := ry
  exact add_str (fun t' tk => ⟨.str (i ++ j), H, I.tok _, ⟨_, rfl⟩, q⟩) hz
/-! ### scalar builtins, by CallR -/
theorem vals1 {x : V} {us : List Value} (r : Vals [x] us) : ∃ u, us = [u] ∧ RelV x u := by
  cases r with
  | cons r1 r2 => cases r2; exact ⟨_, rfl, r1⟩
theorem vals2 {x y : V} {us : List Value} (r : Vals [x, y] us) : ∃ u w', us = [u, w'] ∧ RelV x u ∧ RelV y w' := by
  cases r with
  | cons r1 r2 =>
    cases r2 with
    | cons r3 r4 => cases r4; exact ⟨_, _, rfl, r1, r3⟩
theorem call_max2 (hc : X.calm = true) : CallR X (.builtin "max") (fun xs H Q => ∃ i j, xs = [.int i, .int j] ∧ Q (.int (if j > i then j else i)) H) := by
  intro pins s σ H xs us Q I r h
  obtain ⟨i, j, rfl, q⟩ := h
  obtain ⟨u, w', rfl, ⟨t, rfl⟩, ⟨t', rfl⟩⟩ := vals2 r
  refine max_two_ints (I.ok.hd hc) fun h' tk k => ⟨_, H, I.kept k, ?_, q⟩
  by_cases hj : j > i
  · rw [if_pos hj, if_pos hj]; exact ⟨_, rfl⟩
  · rw [if_neg hj, if_neg hj]; exact ⟨_, rfl⟩
theorem call_min2 (hc : X.calm = true) : CallR X (.builtin "min") (fun xs H Q => ∃ i j, xs = [.int i, .int j] ∧ Q (.int (if j < i then j else i)) H) := by
  intro pins s σ H xs us Q I r h
  obtain ⟨i, j, rfl, q⟩ := h
  obtain ⟨u, w', rfl, ⟨t, rfl⟩, ⟨t', rfl⟩⟩ := vals2 r
  refine min_two_ints (I.ok.hd hc) fun h' tk k => ⟨_, H, I.kept k, ?_, q⟩
  by_cases hj : j < i
  · rw [if_pos hj, if_pos hj]; exact ⟨_, rfl⟩
  · rw [if_neg hj, if_neg hj]; exact ⟨_, rfl⟩
theorem call_str_int : CallR X (.type "str") (fun xs H Q => ∃ i, xs = [.int i] ∧ i.natAbs.log2 < 1920 ∧ Q (.str (toString i)) H) := by
  intro pins s σ H xs us Q I r h
  obtain ⟨i, rfl, hz, q⟩ := h
  obtain ⟨u, rfl, t, rfl⟩ := vals1 r
  exact PySem.P.str_of_int hz ⟨.str _, H, I.tok _, ⟨_, rfl⟩, q⟩
end
end L2

namespace L2
open PySem PySem.Spec PyProof.Rows

/-! ### an instance, its attributes a map -/
structure ObjM (h : Heap) (x dx C : Addr) (mA : Str → Option Value) : Prop where
  obj : h.get? x = some (PySem.W.instObj C dx)
  ns : h.Ns1 dx mA
  ne : dx ≠ x

theorem lookIn_ns {h : Heap} {dx : Addr} {mA : Str → Option Value} (n : h.Ns1 dx mA) : ∃ od, h.get? dx = some od ∧ ∀ name, PySem.W.lookIn name od = some (mA name) := by
  obtain ⟨o, es, ep, ho, hd, hk, _, hm⟩ := n
  refine ⟨o, ho, fun name => ?_⟩
  have e := hm name
  unfold nsFind findBy at e
  rw [← Array.find?_toList] at e
  unfold PySem.W.lookIn
  rw [hd]
  dsimp only
  split
  · rename_i y q
    rw [q] at e
    exact congrArg some e
  · rename_i q
    rw [q] at e
    have a : es.toList.any (·.refKey) = false := by
      rw [List.any_eq_false]
      intro y hy
      obtain ⟨z, t, hkey⟩ := hk y (Array.mem_toList_iff.mp hy)
      simp [DictEntry.refKey, hkey]
    have a' : ¬ es.toList.any (·.refKey) = true := by rw [a]; exact Bool.false_ne_true
    rw [if_neg a']
    exact congrArg some e

theorem ObjM.look {h : Heap} {x dx C : Addr} {mA : Str → Option Value} (I : ObjM h x dx C mA) : ∃ od, PySem.W.InstAt h x (PySem.W.instObj C dx) C (some od) ∧ ∀ name, PySem.W.lookIn name od = some (mA name) :=
  let ⟨od, ho, hl⟩ := lookIn_ns I.ns
  ⟨od, ⟨I.obj, rfl, rfl, ho⟩, hl⟩

section
variable {prog : Program} {w : World} {A : Around} {E : Value → Shared → Prop} {s : Shared} {K : PySem.W.Frag} {x dx C f : Addr} {mA : Str → Option Value} {name : Str} {v : Value}

theorem get_map {expr : Bool} {Q : Value → Shared → Prop} (X : K.In s.heap) (I : ObjM s.heap x dx C mA) (hg : PySem.W.plainGet K C name = true) (hh : PySem.W.hasDictIn K C = true)
    (ha : PySem.W.findIn K (.ref C) name = some none) (hv : mA name = some v) (hv' : PySem.W.handedIn v = true) (h : Q v { s with toks := s.toks + 1 }) :
    wpAny (model prog w) A (getAttr (.ref x) name expr) Q E s := by
  obtain ⟨od, J, hl⟩ := I.look
  exact PySem.W.get_value X J (PySem.W.plainGet_of hg).1 (PySem.W.findObj_own hh ha rfl (by rw [hl, hv])) hv' h

theorem get_meth {pl : Sem Bool} {Q : Value × List Value → Shared → Prop} (X : K.In s.heap) (I : ObjM s.heap x dx C mA) (hg : PySem.W.plainGet K C name = true)
    (hf : PySem.W.findIn K (.ref C) name = some (some (.ref f))) (ht : PySem.W.isFn K (.ref f) = true) (hv : mA name = none) (h : Q (.ref f, [.ref x]) s) :
    wpAny (model prog w) A (getMethod (.ref x) name pl) Q E s := by
  obtain ⟨od, J, hl⟩ := I.look
  exact PySem.W.method_fn X J (PySem.W.plainGet_of hg).1 (PySem.W.plainGet_of hg).2 hf (beq_iff_eq.mp ht) (by show (PySem.W.lookIn name od).map (·.isSome) = some false; rw [hl, hv]; rfl) h

theorem set_map {ns : List Str} {Q : Unit → Shared → Prop} (X : K.In s.heap) (I : ObjM s.heap x dx C mA)
    (hs : PySem.W.findIn K (.ref C) "__setattr__" = some (some (.builtin "object.__setattr__"))) (hp : PySem.W.plainOver K C = true) (ht : PySem.W.takerIn K C name = some none) (hh : PySem.W.hasDictIn K C = true)
    (hw : PySem.Within mA ns) (hsz : ns.length ≤ sizeLine)
    (h : ∀ h', ObjM h' x dx C (fun y => if y = name then some v else mA y) → Heap.SameBut dx s.heap h' → Q () { s with heap := h', toks := s.toks + 2 }) :
    wpAny (model prog w) A (setAttr (.ref x) name v) Q E s := by
  obtain ⟨od, J, hl⟩ := I.look
  refine PySem.W.set_plain X J hs (PySem.W.osa_open (s := { s with toks := s.toks + 1 }) (r := none) X J hp ht fun b => ?_)
  obtain ⟨cd, hc, hd'⟩ := PySem.W.any_some hh
  have hx : s.heap.get? x = some ⟨.ref C, some dx, .plain, #[]⟩ := I.obj
  refine wpAny_bind (wpAny_pure (wpAny_bind (wpAny_bind (wpAny_loadPart hx (wpAny_bind (PySem.W.Looks.here (s := { s with toks := s.toks + 1 }) (PySem.W.looks_clsIn X hc) ?_))))))
  rw [hd']
  refine wpAny_pure (a := some dx) (wpAny_bind (wpAny_pure (wpAny_bind ?_)))
  refine wpAny_nsSet1 (s := { s with toks := s.toks + 1 }) I.ns fun h' hn2 hs2 => ?_
  obtain ⟨oD, esD, epD, hoD, hdD, hcD⟩ := hn2.count (PySem.Within.cons name v hw)
  refine wpAny_bind (wpAny_lookBehind hoD (by rw [hdD]; exact pastItsLine_dict (Nat.le_trans hcD (by rw [List.length_cons]; omega))) ?_)
  exact wpAny_pure (h _ ⟨(hs2.2 _ (Ne.symm I.ne)).trans I.obj, hn2, I.ne⟩ hs2)

/-- C(..): the dict at the heap's end, the instance behind it; then its __init__ -/
theorem make_map {R : Result → Shared → Prop} {vs : List Value} {kw : List (Str × Value)} (X : K.In s.heap) (hm : PySem.W.makesIn K C = true)
    (hi : PySem.W.findIn K (.ref C) "__init__" = some (some (.ref f))) (hf : PySem.W.typeIn K (.ref f) = some (.type "function"))
    (h : codeAny (model prog w) (A.under (.builtin "type.__call__" ⟨.ref C :: vs, kw⟩)) (.call (.ref f) ⟨.ref (s.heap.objs.size + 1) :: vs, kw⟩) (PySem.W.InitBack (s.heap.objs.size + 1) R)
      { s with heap := (s.heap.push PySem.W.emptyDict).push (PySem.W.instObj C s.heap.objs.size) }) :
    codeAny (model prog w) A (.call (.ref C) ⟨vs, kw⟩) R s := by
  obtain ⟨hh, g, d, t, os⟩ := s
  exact PySem.W.make_core (PySem.W.makes_of X hm) (PySem.W.looks_findIn X hi) (fun self => PySem.W.bind_fn X self hf) (.inl rfl) h
end

/-! ### the attributes as a list of pairs -/
def putF (f : Str) (v : V) : List (Str × V) → List (Str × V)
  | [] => [(f, v)]
  | (g, x) :: r => if g = f then (g, v) :: r else (g, x) :: putF f v r
theorem lookup_putF (f g : Str) (v : V) : ∀ fs : List (Str × V), (putF f v fs).lookup g = if g = f then some v else fs.lookup g
  | [] => by
    show List.lookup g [(f, v)] = _
    by_cases h : g = f
    · have hb : (g == f) = true := beq_iff_eq.mpr h
      simp only [List.lookup, hb, if_pos h]
    · have hb : (g == f) = false := beq_eq_false_iff_ne.mpr h
      simp only [List.lookup, hb, if_neg h]
  | (k, x) :: r => by
    have ih := lookup_putF f g v r
    rw [show putF f v ((k, x) :: r) = (if k = f then (k, v) :: r else (k, x) :: putF f v r) from rfl]
    by_cases hk : k = f
    · rw [if_pos hk]
      by_cases h : g = k
      · have hb : (g == k) = true := beq_iff_eq.mpr h
        simp only [List.lookup, hb, if_pos (h.trans hk)]
      · have hb : (g == k) = false := beq_eq_false_iff_ne.mpr h
        simp only [List.lookup, hb, if_neg (fun e : g = f => h (e.trans hk.symm))]
    · rw [if_neg hk]
      by_cases h : g = k
      · have hb : (g == k) = true := beq_iff_eq.mpr h
        simp only [List.lookup, hb, if_neg (fun e : g = f => hk (h.symm.trans e))]
      · have hb : (g == k) = false := beq_eq_false_iff_ne.mpr h
        simp only [List.lookup, hb]
        exact ih
theorem keys_putF (f : Str) (v : V) : ∀ fs : List (Str × V), f ∈ (putF f v fs).map (·.1) ∧ ∀ g, g ∈ fs.map (·.1) → g ∈ (putF f v fs).map (·.1)
  | [] => ⟨by simp [putF], fun g h => by simp at h⟩
  | (k, x) :: r => by
    obtain ⟨i1, i2⟩ := keys_putF f v r
    rw [show putF f v ((k, x) :: r) = (if k = f then (k, v) :: r else (k, x) :: putF f v r) from rfl]
    by_cases hk : k = f
    · rw [if_pos hk]
      subst hk
      exact ⟨by simp, fun g h => by simpa using h⟩
    · rw [if_neg hk]
      refine ⟨?_, fun g h => ?_⟩
      · rw [List.map_cons]
        exact List.mem_cons_of_mem _ i1
      · rw [List.map_cons] at h ⊢
        rcases List.mem_cons.mp h with e | e
        · exact List.mem_cons.mpr (.inl e)
        · exact List.mem_cons_of_mem _ (i2 g e)
theorem length_putF (f : Str) (v : V) : ∀ fs : List (Str × V), (putF f v fs).length ≤ fs.length + 1
  | [] => by simp [putF]
  | (k, x) :: r => by
    have ih := length_putF f v r
    rw [show putF f v ((k, x) :: r) = (if k = f then (k, v) :: r else (k, x) :: putF f v r) from rfl]
    by_cases hk : k = f
    · rw [if_pos hk, List.length_cons, List.length_cons]; omega
    · rw [if_neg hk, List.length_cons, List.length_cons]; omega

theorem RelO.some_of {v : V} {o : Option Value} (r : RelO (some v) o) : ∃ u, o = some u ∧ RelV v u := by
  cases o with
  | none => exact (show False from r).elim
  | some u => exact ⟨u, rfl, r⟩
theorem RelO.none_of {o : Option Value} (r : RelO none o) : o = none := by
  cases o with
  | none => rfl
  | some u => exact (show False from r).elim
theorem handed_of {v : V} {u : Value} (r : RelV v u) : PySem.W.handedIn u = true := by
  cases v with
  | non => cases (show u = Value.none from r); rfl
  | bl b => cases (show u = Value.bool b from r); rfl
  | int i => obtain ⟨t, e⟩ := (show ∃ t, u = Value.int i t from r); cases e; rfl
  | str x => obtain ⟨t, e⟩ := (show ∃ t, u = Value.str x t from r); cases e; rfl
  | byt b => obtain ⟨t, e⟩ := (show ∃ t, u = Value.bytes b t from r); cases e; rfl
  | flt b => obtain ⟨t, e⟩ := (show ∃ t, u = Value.float b t from r); cases e; rfl
  | ref a => cases (show u = Value.ref a from r); rfl
  | ty n => cases (show u = Value.type n from r); rfl

section
variable {P : Program} {w : World} {H H' : Hp} {h h' : Heap} {a C dx : Addr} {fs fs' : List (Str × V)}
theorem ins_get (hok : HOk P w H h) (e : H a = some (.ins C dx fs)) : ∃ mA, ObjM h a dx C mA ∧ (∀ f, RelO (fs.lookup f) (mA f)) ∧ PySem.Within mA (fs.map (·.1)) ∧ fs.length ≤ 1000 ∧ H dx = some (.own a) := by
  obtain ⟨d, z, ne, ob, mA, n, r, q⟩ := (show ObjOk P w H h a (.ins C dx fs) from hok a _ e)
  exact ⟨mA, ⟨ob, n, ne⟩, r, q, z, d⟩
end

/-! ### what of the text a class must have -/
structure Cls (K : PySem.W.Frag) (C : Addr) : Prop where
  pg : PySem.W.plainGet K C Str.empty = true
  hd : PySem.W.hasDictIn K C = true
  po : PySem.W.plainOver K C = true
  sa : PySem.W.findIn K (.ref C) "__setattr__" = some (some (.builtin "object.__setattr__"))
theorem Cls.get {K : PySem.W.Frag} {C : Addr} (c : Cls K C) (f : Str) : PySem.W.plainGet K C f = true := c.pg
/-- no class of it has the name -/
def NoAttr (K : PySem.W.Frag) (C : Addr) (f : Str) : Prop := PySem.W.findIn K (.ref C) f = some none
theorem NoAttr.taker {K : PySem.W.Frag} {C : Addr} {f : Str} (n : NoAttr K C f) : PySem.W.takerIn K C f = some none := by
  unfold PySem.W.takerIn
  rw [show PySem.W.findIn K (.ref C) f = some none from n]
  rfl
/-- a constant of the class -/
structure Con (K : PySem.W.Frag) (C : Addr) (f : Str) (v : V) (u : Value) : Prop where
  at_ : PySem.W.findIn K (.ref C) f = some (some u)
  rel : RelV v u
  get : PySem.W.specialIn K u "__get__" = some none
  cp : PySem.W.copiedNames.contains f = false
/-- a method: a plain def of the class or of one above it -/
structure Meth (K : PySem.W.Frag) (C : Addr) (m : Str) (f : Addr) : Prop where
  at_ : PySem.W.findIn K (.ref C) m = some (some (.ref f))
  fn : PySem.W.isFn K (.ref f) = true
  kp : PySem.W.keepIn K (.ref f) = true

section
variable {X : Cx} {pins : List (Addr × Obj)} {σ : St} {H : Hp} {s : Shared} {a C dx : Addr} {fs : List (Str × V)} {f : Str} {v : V} {A : Around} {E : Value → Shared → Prop}

theorem getattr_ok {b : Bool} {Q : Value → Shared → Prop} (I : Inv X pins σ H s) (e : H a = some (.ins C dx fs)) (c : Cls X.K C) (n : NoAttr X.K C f) (l : fs.lookup f = some v)
    (h : ∀ u s', Inv X pins σ H s' → RelV v u → Q u s') : wpAny (model X.prog X.w) A (getAttr (.ref a) f b) Q E s := by
  obtain ⟨mA, O, r, _, _, _⟩ := ins_get I.hok e
  obtain ⟨u, hu, ru⟩ := RelO.some_of (v := v) (o := mA f) (by rw [← l]; exact r f)
  exact get_map I.kIn O (c.get f) c.hd n hu (handed_of ru) (h u _ (I.tok _) ru)

theorem getmeth_ok {m : Str} {g : Addr} {pl : Sem Bool} {Q : Value × List Value → Shared → Prop} (I : Inv X pins σ H s) (e : H a = some (.ins C dx fs)) (c : Cls X.K C) (k : Meth X.K C m g) (l : fs.lookup m = none)
    (h : Q (.ref g, [.ref a]) s) : wpAny (model X.prog X.w) A (getMethod (.ref a) m pl) Q E s := by
  obtain ⟨mA, O, r, _, _, _⟩ := ins_get I.hok e
  have hn : mA m = none := RelO.none_of (by rw [← l]; exact r m)
  exact get_meth I.kIn O (c.get m) k.at_ k.fn hn h

theorem setattr_ok {y : V} {u : Value} {Q : Unit → Shared → Prop} (I : Inv X pins σ H s) (e : H a = some (.ins C dx fs)) (c : Cls X.K C) (n : NoAttr X.K C f) (hl : fs.length < 1000) (ry : RelV y u)
    (h : ∀ s', Inv X pins σ (upd H a (.ins C dx (putF f y fs))) s' → Q () s') : wpAny (model X.prog X.w) A (setAttr (.ref a) f u) Q E s := by
  obtain ⟨mA, O, r, wi, _, ho⟩ := ins_get I.hok e
  have hz : (fs.map (·.1)).length ≤ sizeLine := by rw [List.length_map, sizeLine_eq]; omega
  refine set_map I.kIn O c.sa c.po n.taker c.hd wi hz fun h' O' sb => h _ ?_
  have hd : ∃ o, h'.get? dx = some o := let ⟨o, _, _, e', _⟩ := O'.ns; ⟨o, e'⟩
  refine I.write (x := a) (e := dx) (by rw [e]; exact True.intro) (.inr ho) (fun b q hb z => (sb.2 b hb).trans z) hd ?_
  refine ⟨by rw [upd_ne O.ne]; exact ho, ?_, O.ne, O'.obj, _, O'.ns, fun g => ?_, fun g hg => ?_⟩
  · have := length_putF f y fs; omega
  · show RelO ((putF f y fs).lookup g) (if g = f then some u else mA g)
    rw [lookup_putF]
    by_cases q : g = f
    · rw [if_pos q, if_pos q]; exact ry
    · rw [if_neg q, if_neg q]; exact r g
  · by_cases q : g = f
    · rw [q]; exact (keys_putF f y fs).1
    · refine (keys_putF f y fs).2 g (wi g fun z => hg ?_)
      show (if g = f then some u else mA g) = none
      rw [if_neg q]; exact z

/-- a new instance, tracked, without attributes -/
theorem Inv.made (I : Inv X pins σ H s) : Inv X pins σ (upd (upd H s.heap.objs.size (.own (s.heap.objs.size + 1))) (s.heap.objs.size + 1) (.ins C s.heap.objs.size []))
    { s with heap := (s.heap.push PySem.W.emptyDict).push (PySem.W.instObj C s.heap.objs.size) } := by
  have e1 : (s.heap.push PySem.W.emptyDict).get? s.heap.objs.size = some PySem.W.emptyDict := Heap.get?_push_size s.heap rfl
  have e2 : ((s.heap.push PySem.W.emptyDict).push (PySem.W.instObj C s.heap.objs.size)).get? (s.heap.objs.size + 1) = some (PySem.W.instObj C s.heap.objs.size) := by
    have := Heap.get?_push_size (s.heap.push PySem.W.emptyDict) (o := PySem.W.instObj C s.heap.objs.size) rfl
    rwa [Heap.size_push] at this
  have e3 : (s.heap.push PySem.W.emptyDict).Ns s.heap.objs.size (fun _ => none) := ⟨PySem.W.emptyDict, #[], _, e1, rfl, (fun e he => absurd he (by simp)), fun _ => rfl⟩
  have I1 := I.laid (a := s.heap.objs.size) (o := .own (s.heap.objs.size + 1)) (h' := s.heap.push PySem.W.emptyDict) (t' := s.toks) (fun b u q => Heap.get?_push_of_some _ q) (Nat.le_refl _) ⟨_, e1⟩
  refine I1.laid (a := s.heap.objs.size + 1) (o := .ins C s.heap.objs.size []) (t' := s.toks) (fun b u q => Heap.get?_push_of_some _ q) (Nat.le_of_eq (Heap.size_push _ _)) ?_
  have ne : s.heap.objs.size ≠ s.heap.objs.size + 1 := Nat.ne_of_lt (Nat.lt_succ_self _)
  refine ⟨by rw [upd_ne ne, upd_same], Nat.zero_le _, ne, e2, fun _ => none, (Heap.Ns1.of_empty e3).at fun o q => Heap.get?_push_of_some _ q, fun _ => True.intro, fun y hy => absurd rfl hy⟩

/-- e.f where nothing but the object is asked: through attributeBase (super) and the last hold -/
theorem attr_of {prog : Program} {w : World} {env : Env} {e : Expr} {f : Str} {pos : Pos} {s : Shared} {Q : Value → Shared → Prop} (hb : attributeBase e f env (eval e env) = eval e env)
    (h : wpAny (model prog w) A (eval e env) (fun o s₁ => wpAny (model prog w) A (getAttr o f true) Q E s₁) E s) : wpAny (model prog w) A (eval (.Attribute e f pos) env) Q E s :=
  Attribute_any_ h (by rw [arm_eval_Attribute, hb])
end

/-! ### readings and rules -/
/-- e.f, an attribute of the instance -/
def tFld (K : PySem.W.Frag) (ta : TE) (f : Str) : TE := fun σ H Q => ta σ H fun x H1 => ∃ a C dx fs v, x = .ref a ∧ H1 a = some (.ins C dx fs) ∧ Cls K C ∧ NoAttr K C f ∧ fs.lookup f = some v ∧ Q v H1
/-- e.f = value -/
def sFld (K : PySem.W.Frag) (ta tv : TE) (f : Str) : TS := fun D σ H => tv σ H fun y H1 => ta σ H1 fun x H2 => ∃ a C dx fs, x = .ref a ∧ H2 a = some (.ins C dx fs) ∧ Cls K C ∧ NoAttr K C f ∧ fs.length < 1000 ∧
  D.nx σ (upd H2 a (.ins C dx (putF f y fs)))
section
variable {X : Cx} {o e value : Expr} {f : Str} {pos pos' tpos : Pos} {ta tv : TE}
theorem pe_fld (he : PE X e ta) (hb : attributeBase e f X.env (eval e X.env) = eval e X.env) : PE X (.Attribute e f pos) (tFld X.K ta f) := by
  intro pins s σ H Q I h
  refine attr_of hb (thn (he pins s σ H _ I h) fun u s1 ⟨x, H1, I1, rx, a, C, dx, fs, v, ex, ea, c, n, l, q⟩ => ?_)
  subst ex
  obtain rfl : u = Value.ref a := rx
  exact getattr_ok I1 ea c n l fun u' s2 I2 ru => ⟨v, H1, I2, ru, q⟩
theorem ps_fld (ha : PE X o ta) (hv : PE X value tv) (hs : swapsWith value (some (.Attribute o f pos')) pos.line X.env = pure false) : PS X (.Assign [.Attribute o f pos'] value pos) (sFld X.K ta tv f) := by
  intro pins s σ H D I h
  refine plainObj_wpAny_Assign_Attribute (thn (hv pins s σ H _ I h) fun u s1 ⟨y, H1, I1, ry, q⟩ => thn (ha pins s1 σ H1 _ I1 q) fun ov s2 ⟨x, H2, I2, rx, a, C, dx, fs, ex, ea, c, n, l, q2⟩ => ?_) hs
  subst ex
  obtain rfl : ov = Value.ref a := rx
  exact setattr_ok I2 ea c n l ry fun s3 I3 => ⟨σ, _, I3, q2⟩
end

/-! ### isinstance -/
section
variable {X : Cx} {pins : List (Addr × Obj)} {σ : St} {H : Hp} {s : Shared} {A : Around} {E : Value → Shared → Prop} {Q : Value → Shared → Prop} {c : Value} {b : Bool}
/-- the type of a value, as the fragment's deciders take it; for an instance its class -/
inductive TyOf (K : PySem.W.Frag) (H : Hp) : V → Value → Prop where
  | non : TyOf K H .non (.type "NoneType")
  | bl (x : Bool) : TyOf K H (.bl x) (.type "bool")
  | int (i : Int) : TyOf K H (.int i) (.type "int")
  | str (x : Str) : TyOf K H (.str x) (.type "str")
  | flt (x : UInt64) : TyOf K H (.flt x) (.type "float")
  | lst {a : Addr} {xs : List V} (e : H a = some (.lst xs)) : TyOf K H (.ref a) (.type "list")
  | frz {a : Addr} {o : Obj} {xs : List V} (e : H a = some (.frz o (.lst xs))) : TyOf K H (.ref a) (.type "list")
  | tup {a : Addr} {xs : List V} (e : H a = some (.tup xs)) : TyOf K H (.ref a) (.type "tuple")
  | dK {a : Addr} {kvs : List (Key × V)} (e : H a = some (.dK kvs)) : TyOf K H (.ref a) (.type "dict")
  | dT {a : Addr} {kvs : List (List Key × V)} (e : H a = some (.dT kvs)) : TyOf K H (.ref a) (.type "dict")
  | ins {a C dx : Addr} {fs : List (Str × V)} (e : H a = some (.ins C dx fs)) (cl : Cls K C) (ha : PySem.W.findIn K (.ref C) "__class__" = some (some (.builtin "object.__class__")))
      (hn : PySem.W.specialIn K (.builtin "object.__class__") "__get__" = some (some (.builtin "getset_descriptor.__get__"))) (htk : PySem.W.takesIn K (.builtin "object.__class__") = some true)
      (hm : PySem.W.mroIn K C (.type "object") = some true) : TyOf K H (.ref a) (.ref C)
end
end L2

namespace L2
open PySem PySem.Spec PyProof.Rows

/-! ### room -/
structure Room (k : Nat) (A : Around) : Prop where
  hd : A.handled = none
  dp : A.depth + 3 * k + 5 < recursionLimit
  un : A.units + 16 * k + 200 < cLine
theorem Room.mono {j k : Nat} {A : Around} (r : Room k A) (h : j ≤ k) : Room j A := ⟨r.hd, by have := r.dp; omega, by have := r.un; omega⟩
theorem Room.deeper {k : Nat} {A : Around} (r : Room (k + 1) A) (env : Env) : Room k (A.deeper env) :=
  ⟨r.hd, by have := r.dp; show A.depth + 1 + 3 * k + 5 < _; omega, by have := r.un; show A.units + 3 + 16 * k + 200 < _; omega⟩
theorem Room.in1 {k : Nat} {A : Around} (r : Room (k + 1) A) : Room k A.in1 :=
  ⟨r.hd, by have := r.dp; show A.depth + 3 * k + 5 < _; omega, by have := r.un; show A.units + 1 + 16 * k + 200 < _; omega⟩
theorem make_depth {A : Around} {C : Addr} {us : List Value} {kw : List (Str × Value)} : (A.under (.builtin "type.__call__" ⟨.ref C :: us, kw⟩)).depth = A.depth + 1 := by
  first | rfl | simp [Around.under, Code.weight, Code.isCreation, Code.isGuard, Code.isCaller, Code.frames, Code.isFrame, guardIds]
theorem make_units {A : Around} {C : Addr} {us : List Value} {kw : List (Str × Value)} : (A.under (.builtin "type.__call__" ⟨.ref C :: us, kw⟩)).units = A.units + 1 := by
  first | rfl | simp [Around.under, Code.cUnits, Code.frames, Code.isFrame]
theorem Room.make {k : Nat} {A : Around} (r : Room (k + 1) A) (C : Addr) (us : List Value) (kw : List (Str × Value)) : Room k (A.under (.builtin "type.__call__" ⟨.ref C :: us, kw⟩)) :=
  ⟨r.hd, by have := r.dp; rw [make_depth]; omega, by have := r.un; rw [make_units]; omega⟩
theorem Room.depth {k : Nat} {A : Around} (r : Room k A) : A.depth < recursionLimit := by have := r.dp; omega
theorem Room.units {k : Nat} {A : Around} (r : Room k A) : A.units + 64 < cLine := by have := r.un; omega
/-! ### argument lists and displays -/
def tNil : TA := fun _ H Q => Q [] H
def tCons (ta : TE) (tr : TA) : TA := fun σ H Q => ta σ H fun x H1 => tr σ H1 fun xs H2 => Q (x :: xs) H2
section
variable {X : Cx} {e : Expr} {es : List Expr} {te : TE} {t : TA} {pos : Pos}
theorem pa_nil : PA X [] tNil := fun _ _ _ _ H Q I h => Calls.spliced_nil ⟨[], H, I, .nil, h⟩
theorem pa_cons (ha : PE X e te) (hr : PA X es t) (hs : starEach (e :: es) X.env = (false, eval e X.env) :: starEach es X.env := by rfl) : PA X (e :: es) (tCons te t) := by
  intro pos pins s σ H Q I h
  rw [hs]
  show wpAny _ _ (spliced ((false, eval e X.env) :: backTo pos (starEach es X.env))) _ _ s
  refine Calls.spliced_cons (thn (ha pins s σ H _ I h) fun u s1 ⟨x, H1, I1, r1, q1⟩ => ?_)
  exact thn (hr pos pins s1 σ H1 _ I1 q1) fun us s2 ⟨xs, H2, I2, r2, q2⟩ => ⟨x :: xs, H2, I2, .cons r1 r2, q2⟩

/-- a tuple, a list of written items -/
def tTup (t : TA) : TE := fun σ H Q => t σ H fun xs H1 => xs.length ≤ sizeLine ∧ ∀ p, H1 p = none → Q (.ref p) (upd H1 p (.tup xs))
def tLst (t : TA) : TE := fun σ H Q => t σ H fun xs H1 => xs.length ≤ sizeLine ∧ ∀ p, H1 p = none → Q (.ref p) (upd H1 p (.lst xs))
theorem pe_tup {x1} (h : PA X es t) : PE X (.Tuple es x1 pos) (tTup t) := by
  intro pins s σ H Q I hq
  refine wpAny_Tuple_spliced (thn (h pos pins s σ H _ I hq) fun us s1 ⟨xs, H1, I1, r, z, q⟩ => ⟨by rw [← r.length]; exact z, ?_⟩)
  have hf : H1 s1.heap.objs.size = none := I1.hok.fresh (Nat.le_refl _)
  refine ⟨.ref s1.heap.objs.size, upd H1 s1.heap.objs.size (.tup xs), I1.laid (t' := s1.toks) (fun b u e => Heap.get?_push_of_some _ e) (Nat.le_refl _) ?_, rfl, q _ hf⟩
  exact ⟨z, us, r, ⟨_, Heap.get?_push_size _ rfl, rfl, _, rfl⟩⟩
theorem pe_lst (h : PA X es t) : PE X (.List es pos) (tLst t) := by
  intro pins s σ H Q I hq
  refine wpAny_List_spliced (thn (h pos pins s σ H _ I hq) fun us s1 ⟨xs, H1, I1, r, z, q⟩ => ⟨by rw [← r.length]; exact z, ?_⟩)
  have hf : H1 s1.heap.objs.size = none := I1.hok.fresh (Nat.le_refl _)
  refine ⟨.ref s1.heap.objs.size, upd H1 s1.heap.objs.size (.lst xs), I1.laid (t' := s1.toks) (fun b u e => Heap.get?_push_of_some _ e) (Nat.le_refl _) ?_, rfl, q _ hf⟩
  exact ⟨z, us, 0, r, Heap.get?_push_size _ rfl⟩
end

/-! ### what a def promises -/
/-- a def's promise: the bound arguments in the parameters' order, the heap, the wanted end, the wanted exception -/
abbrev Sp := List V → Hp → VK → XK → Prop
/-- how an exception lies behind a call (file 08 gives it): the callers' frames, abstract heap and state ahead of the call, the wish, the exception, the state -/
abbrev CXT := List Env → Hp → Shared → XK → Value → Shared → Prop

/-- the state at a call -/
structure Env0 (P : Program) (w : World) (K : PySem.W.Frag) (mg : Str → Option Value) (base : Heap) (A : Around) (outer : List Env) (s : Shared) (H : Hp) : Prop where
  frames : A.frames = some outer
  mod : Mod K mg base
  bs : ∀ b o, base.get? b = some o → s.heap.get? b = some o ∧ H b = none
  bsz : base.objs.size ≤ s.heap.objs.size
  funs : s.heap.FunFrames base outer
  frf : ∀ b ∈ frs outer, H b = none
  hok : HOk P w H s.heap
  bare : AllBare s.gens
/-- a call's end -/
def CE (outer : List Env) (P : Program) (w : World) (H : Hp) (s : Shared) (Q : VK) (u : Value) (s' : Shared) : Prop :=
  ∃ v H', s'.os = s.os ∧ AllBare s'.gens ∧ Un (frs outer) [] H H' s.heap s'.heap ∧ HOk P w H' s'.heap ∧ RelV v u ∧ Q v H'
def CR (CX : CXT) (outer : List Env) (P : Program) (w : World) (H : Hp) (s : Shared) (Q : VK) (E : XK) (r : Result) (s' : Shared) : Prop :=
  match r with
  | .ok (.ret u) => CE outer P w H s Q u s'
  | .ok _ => False
  | .error e => CX outer H s E e s'
structure FnOk (P : Program) (w : World) (K : PySem.W.Frag) (mg : Str → Option Value) (base : Heap) (CX : CXT) (k : Nat) (f : Addr) (fd : FuncData) (ps : List Str) (sp : Sp) : Prop where
  len : ∀ vs H Q E, sp vs H Q E → vs.length = ps.length
  run : ∀ (A : Around) (outer : List Env) (s : Shared) (H : Hp) (args : Args) (us : List Value) (vs : List V) (Q : VK) (E : XK), Room k A → Env0 P w K mg base A outer s H → BindsTo s fd args (ps.zip us) → Vals vs us → sp vs H Q E →
    codeAny (model P w) A (.call (.ref f) args) (CR CX outer P w H s Q E) s
theorem FnOk.mono {P : Program} {w : World} {K : PySem.W.Frag} {mg : Str → Option Value} {base : Heap} {CX : CXT} {j k : Nat} {f : Addr} {fd : FuncData} {ps : List Str} {sp : Sp} (F : FnOk P w K mg base CX j f fd ps sp) (h : j ≤ k) :
    FnOk P w K mg base CX k f fd ps sp := ⟨F.len, fun A outer s H args us vs Q E hr => F.run A outer s H args us vs Q E (hr.mono h)⟩
/-- a weaker promise -/
theorem FnOk.imp {P : Program} {w : World} {K : PySem.W.Frag} {mg : Str → Option Value} {base : Heap} {CX : CXT} {k : Nat} {f : Addr} {fd : FuncData} {ps : List Str} {sp sp' : Sp} (F : FnOk P w K mg base CX k f fd ps sp)
    (h : ∀ vs H Q E, sp' vs H Q E → sp vs H Q E) : FnOk P w K mg base CX k f fd ps sp' :=
  ⟨fun vs H Q E q => F.len vs H Q E (h _ _ _ _ q), fun A outer s H args us vs Q E hr he hb hv hs => F.run A outer s H args us vs Q E hr he hb hv (h _ _ _ _ hs)⟩

theorem Env0.make {P : Program} {w : World} {K : PySem.W.Frag} {mg : Str → Option Value} {base : Heap} {A : Around} {outer : List Env} {s : Shared} {H : Hp} (e : Env0 P w K mg base A outer s H) (C : Addr) (us : List Value) (kw : List (Str × Value)) :
    Env0 P w K mg base (A.under (.builtin "type.__call__" ⟨.ref C :: us, kw⟩)) outer s H := ⟨by first | exact e.frames | (simpa [Around.under, Code.envs, Code.isFrame, pushEnvs] using e.frames), e.mod, e.bs, e.bsz, e.funs, e.frf, e.hok, e.bare⟩
theorem Env0.in1 {P : Program} {w : World} {K : PySem.W.Frag} {mg : Str → Option Value} {base : Heap} {A : Around} {outer : List Env} {s : Shared} {H : Hp} (e : Env0 P w K mg base A outer s H) :
    Env0 P w K mg base A.in1 outer s H := ⟨e.frames, e.mod, e.bs, e.bsz, e.funs, e.frf, e.hok, e.bare⟩

section
variable {X : Cx} {pins : List (Addr × Obj)} {σ : St} {H : Hp} {s s' : Shared}
/-- from a body: what a callee wants -/
theorem Inv.env0 (I : Inv X pins σ H s) : Env0 X.prog X.w X.K X.mg X.base X.A X.stack s H :=
  ⟨I.ok.frames, I.ok.mod, I.bs, Nat.le_trans I.ok.bsz I.sz, I.stack, I.stkFree, I.hok, I.bare⟩
/-- behind a call -/
theorem Inv.after {Q : VK} {u : Value} (I : Inv X pins σ H s) (h : CE X.stack X.prog X.w H s Q u s') : EP X pins σ Q u s' := by
  obtain ⟨v, H', os, bare, un, hok, r, q⟩ := h
  obtain ⟨hh, g, d, t, os'⟩ := s'
  obtain rfl : os' = s.os := os
  exact ⟨v, H', I.call (h' := hh) (g' := g) (d' := d) (t' := t) (ch := []) un hok bare (fun b z => absurd z (by simp)), r, q⟩
end

/-! ### calls -/
/-- f(..): the written arguments, then the defaults dvs; E: what is wanted of an exception -/
def tCall (sp : Sp) (dvs : List V) (E : XK) (t : TA) : TE := fun σ H Q => t σ H fun vs H1 => sp (vs ++ dvs) H1 Q E
/-- o.m(..) of an instance of the class at C -/
def tMeth (C : Addr) (m : Str) (sp : Sp) (dvs : List V) (E : XK) (ta : TE) (t : TA) : TE := fun σ H Q => ta σ H fun x H1 => ∃ a dx fs, x = .ref a ∧ H1 a = some (.ins C dx fs) ∧ fs.lookup m = none ∧
  t σ H1 fun vs H2 => sp (x :: (vs ++ dvs)) H2 Q E
/-- C(..): a new instance and its dict, then __init__ -/
def tMake (C : Addr) (sp : Sp) (dvs : List V) (E : XK) (t : TA) : TE := fun σ H Q => t σ H fun vs H1 => ∀ x dx, H1 x = none → H1 dx = none → dx ≠ x →
  sp (.ref x :: (vs ++ dvs)) (upd (upd H1 dx (.own x)) x (.ins C dx [])) (fun v H2 => v = .non ∧ Q (.ref x) H2) E

/-- how the parameters are bound: us the positional arguments, kw the keywords' values by name, ds the defaults that fill up -/
def Binds (K : PySem.W.Frag) (fd : FuncData) (ps : List Str) (ds : List Value) : Prop :=
  ∀ (s : Shared) (us : List Value), K.In s.heap → (us ++ ds).length = ps.length → BindsTo s fd ⟨us, []⟩ (ps.zip (us ++ ds))
/-- every parameter is given -/
theorem Binds.all {K : PySem.W.Frag} {fd : FuncData} {ps : List Str} (h : ∀ us : List Value, us.length = ps.length → bindArgs fd ⟨us, []⟩ = pure (ps.zip us)) : Binds K fd ps [] := fun s us _ hl => by
  rw [List.append_nil] at hl ⊢
  exact .of_eq (h us hl)

/-- an exception of a callee reaches what this body wants of exceptions -/
def Passes (CX : CXT) (X : Cx) (E : XK) : Prop := ∀ (pins : List (Addr × Obj)) (σ : St) (H : Hp) (s : Shared) (e : Value) (s' : Shared), Inv X pins σ H s → CX X.stack H s E e s' → X.xe e s'

section
variable {X : Cx} {CX : CXT} {k : Nat} {f C : Addr} {fd : FuncData} {ps : List Str} {sp : Sp} {dvs : List V} {ds : List Value} {E : XK} {x m : Str} {p pos apos : Pos} {e o : Expr} {es : List Expr} {ta : TE} {t : TA}

/-- the callee runs -/
theorem run_fn {pins : List (Addr × Obj)} {σ : St} {H : Hp} {s : Shared} {Q : VK} {us : List Value} {vs : List V} (F : FnOk X.prog X.w X.K X.mg X.base CX k f fd ps sp) (hr : Room k X.A) (hb : Binds X.K fd ps ds) (hd : Vals dvs ds) (hx : Passes CX X E)
    (I : Inv X pins σ H s) (r : Vals vs us) (h : sp (vs ++ dvs) H Q E) : wpAny (model X.prog X.w) X.A (call (.ref f) us) (EP X pins σ Q) X.xe s := by
  have r2 : Vals (vs ++ dvs) (us ++ ds) := r.append hd
  have hl : (us ++ ds).length = ps.length := by rw [← r2.length]; exact F.len _ _ _ _ h
  refine wpAny_call (codeAny_mono (F.run X.A X.stack s H ⟨us, []⟩ (us ++ ds) (vs ++ dvs) Q E hr I.env0 (hb s us I.kIn hl) r2 h) fun r s' hq => ?_)
  cases r with
  | error e => exact hx pins σ H s e s' I hq
  | ok fl =>
    cases fl with
    | ret u => exact I.after hq
    | next => exact False.elim hq
    | brk => exact False.elim hq
    | cont => exact False.elim hq

theorem pe_call (F : FnOk X.prog X.w X.K X.mg X.base CX k f fd ps sp) (hr : Room k X.A) (hg : Gl X x) (hm : X.mg x = some (.ref f)) (hk : PySem.W.keepIn X.K (.ref f) = true) (hb : Binds X.K fd ps ds) (hd : Vals dvs ds) (hx : Passes CX X E)
    (ha : PA X (e :: es) t) (hdb : (x == ("__debug__" : Str)) = false := by decide) (he : starEach (e :: es) X.env = (false, eval e X.env) :: starEach es X.env := by rfl) (hpl : (backTo pos (starEach es X.env)).any (·.1) = false := by rfl) :
    PE X (.Call (.Name x p) (e :: es) [] pos) (tCall sp dvs E t) := by
  intro pins s σ H Q I h
  refine wpAny_Call_Name_kw (ld_glob I hg hm ?_ hdb)
  refine PySem.W.callWith_K (h₀ := X.base) I.ok.mod.kin hk (thn (ha pos pins s σ H _ I h) fun us s1 ⟨vs, H1, I1, r, q⟩ => ⟨I1.kIn, ?_⟩) he hpl
  exact run_fn F hr hb hd hx I1 r q
/-- o.m(e, ..) -/
theorem pe_meth {pl : Sem Bool} (he : PE X o ta) (c : Cls X.K C) (hm : Meth X.K C m f) (F : FnOk X.prog X.w X.K X.mg X.base CX k f fd ps sp) (hr : Room k X.A) (hb : Binds X.K fd ps ds) (hd : Vals dvs ds) (hx : Passes CX X E) (ha : PA X (e :: es) t)
    (hst : starEach (e :: es) X.env = (false, eval e X.env) :: starEach es X.env := by rfl) (hpl : (backTo pos (starEach es X.env)).any (·.1) = false := by rfl)
    (ht : eval (.Call (.Attribute o m apos) (e :: es) [] pos) X.env = (do
      let ov ← eval o X.env
      standAt apos.atName
      let (f, first) ← holding [ov] (getMethod ov m pl)
      callWith pos f first (backTo pos (starEach (e :: es) X.env)) (backToKw pos (keywordEach [] X.env))) := by rfl) :
    PE X (.Call (.Attribute o m apos) (e :: es) [] pos) (tMeth C m sp dvs E ta t) := by
  intro pins s σ H Q I h
  refine PySem.W.methodCall_KW (pl := pl) (thn (he pins s σ H _ I h) fun u s1 ⟨x, H1, I1, rx, a, dx, fs, ex, ea, l, q⟩ => ?_) ht
  subst ex
  obtain rfl : u = Value.ref a := rx
  refine getmeth_ok I1 ea c hm l ?_
  refine PySem.W.callWith_K (first := [.ref a]) (h₀ := X.base) I.ok.mod.kin hm.kp (thn (ha pos pins s1 σ H1 _ I1 q) fun us s2 ⟨vs, H2, I2, r, q2⟩ => ⟨I2.kIn, ?_⟩) hst hpl
  exact run_fn (us := .ref a :: us) (vs := .ref a :: vs) F hr hb hd hx I2 (.cons rfl r) q2
/-- what a class must have to be made -/
structure Mk (K : PySem.W.Frag) (C f : Addr) : Prop where
  makes : PySem.W.makesIn K C = true
  init : PySem.W.findIn K (.ref C) "__init__" = some (some (.ref f))
  fn : PySem.W.isFn K (.ref f) = true
  kp : PySem.W.keepIn K (.ref C) = true

theorem run_make {pins : List (Addr × Obj)} {σ : St} {H : Hp} {s : Shared} {Q : VK} {us : List Value} {vs : List V} (M : Mk X.K C f) (F : FnOk X.prog X.w X.K X.mg X.base CX k f fd ps sp) (hr : Room (k + 1) X.A) (hb : Binds X.K fd ps ds) (hd : Vals dvs ds)
    (hx : Passes CX X E) (I : Inv X pins σ H s) (r : Vals vs us)
    (h : ∀ x dx, H x = none → H dx = none → dx ≠ x → sp (.ref x :: (vs ++ dvs)) (upd (upd H dx (.own x)) x (.ins C dx [])) (fun v H2 => v = .non ∧ Q (.ref x) H2) E) :
    wpAny (model X.prog X.w) X.A (call (.ref C) us) (EP X pins σ Q) X.xe s := by
  have hq := h (s.heap.objs.size + 1) s.heap.objs.size (I.hok.fresh (Nat.le_succ _)) (I.hok.fresh (Nat.le_refl _)) (Nat.ne_of_lt (Nat.lt_succ_self _))
  have I2 := Inv.made (C := C) I
  have r2 : Vals (V.ref (s.heap.objs.size + 1) :: (vs ++ dvs)) (Value.ref (s.heap.objs.size + 1) :: (us ++ ds)) := .cons rfl (r.append hd)
  have hl : (Value.ref (s.heap.objs.size + 1) :: us ++ ds).length = ps.length := by
    have e := r2.length
    rw [F.len _ _ _ _ hq] at e
    exact e.symm
  refine wpAny_call (make_map (f := f) I.kIn M.makes M.init (beq_iff_eq.mp M.fn) (codeAny_mono (F.run _ X.stack _ _ ⟨Value.ref (s.heap.objs.size + 1) :: us, []⟩ (Value.ref (s.heap.objs.size + 1) :: (us ++ ds)) _ _ E (hr.make C us [])
    (I2.env0.make C us []) (hb _ (Value.ref (s.heap.objs.size + 1) :: us) I2.kIn hl) r2 hq) fun r s' hq' => ?_))
  cases r with
  | error e => exact hx pins σ _ _ e s' I2 hq'
  | ok fl =>
    cases fl with
    | ret u =>
      obtain ⟨v, H', I3, rv, ev, q3⟩ := I2.after hq'
      subst ev
      exact ⟨rv, ⟨V.ref (s.heap.objs.size + 1), H', I3, rfl, q3⟩⟩
    | next => exact False.elim hq'
    | brk => exact False.elim hq'
    | cont => exact False.elim hq'
theorem pe_make (M : Mk X.K C f) (F : FnOk X.prog X.w X.K X.mg X.base CX k f fd ps sp) (hr : Room (k + 1) X.A) (hg : Gl X x) (hm : X.mg x = some (.ref C)) (hb : Binds X.K fd ps ds) (hd : Vals dvs ds) (hx : Passes CX X E)
    (ha : PA X (e :: es) t) (hdb : (x == ("__debug__" : Str)) = false := by decide) (he : starEach (e :: es) X.env = (false, eval e X.env) :: starEach es X.env := by rfl) (hpl : (backTo pos (starEach es X.env)).any (·.1) = false := by rfl) :
    PE X (.Call (.Name x p) (e :: es) [] pos) (tMake C sp dvs E t) := by
  intro pins s σ H Q I h
  refine wpAny_Call_Name_kw (ld_glob I hg hm ?_ hdb)
  refine PySem.W.callWith_K (h₀ := X.base) I.ok.mod.kin M.kp (thn (ha pos pins s σ H _ I h) fun us s1 ⟨vs, H1, I1, r, q⟩ => ⟨I1.kIn, ?_⟩) he hpl
  exact run_make M F hr hb hd hx I1 r q
end

/-! ### keywords -/
section
variable {X : Cx} {CX : CXT} {k : Nat} {f C : Addr} {fd : FuncData} {ps ks : List Str} {sp : Sp} {E : XK} {x m : Str} {p pos apos kpos : Pos} {e o : Expr} {es : List Expr} {kws : List Keyword} {te ta : TE} {t tk : TA} {nm : Option Str}
/-- how a call with keywords binds: g puts the positional values us and the keywords' values ws (names ks) in the parameters' order, defaults among them -/
structure KBinds (K : PySem.W.Frag) (fd : FuncData) (ps ks : List Str) (g : List Value → List Value → List Value) (gV : List V → List V → List V) : Prop where
  to : ∀ (s : Shared) (us ws : List Value), K.In s.heap → (g us ws).length = ps.length → BindsTo s fd ⟨us, ks.zip ws⟩ (ps.zip (g us ws))
  rel : ∀ {vs : List V} {us : List Value} {zs : List V} {ws : List Value}, Vals vs us → Vals zs ws → Vals (gV vs zs) (g us ws)
variable {g : List Value → List Value → List Value} {gV : List V → List V → List V}
end

/-! ### a def's body keeps its promise -/
/-- names: the parameters first -/
structure FnScope (N P : List Str) (sc : Scope) : Prop where
  kind : sc.kind = .function
  co : sc.isCoroutine = false
  gen : sc.isGenerator = false
  nd : N.Nodup
  pre : N.take P.length = P
  par : ∀ x ∈ P, sc.names.lookup x = some .local ∨ sc.names.lookup x = some .cell
  nofree : ∀ y ∈ sc.names, y.2 ≠ .free

theorem bindL_out {kindOf : Str → Option NameKind} {x : Str} : ∀ {binds : List (Str × Value)} {m : Str → Option Value}, (∀ v, (x, v) ∉ binds) → bindL kindOf binds m x = m x
  | [], _, _ => rfl
  | (n, v) :: r, m, h => by
    unfold bindL
    rw [bindL_out fun w hw => h w (List.mem_cons_of_mem _ hw)]
    split
    · have : x ≠ n := by rintro rfl; exact h v List.mem_cons_self
      simp [this]
    · rfl
theorem bindC_out {kindOf : Str → Option NameKind} {x : Str} : ∀ {binds : List (Str × Value)} {m : Str → Option Value}, (∀ v, (x, v) ∉ binds) → bindC kindOf binds m x = m x
  | [], _, _ => rfl
  | (n, v) :: r, m, h => by
    unfold bindC
    rw [bindC_out fun w hw => h w (List.mem_cons_of_mem _ hw)]
    split
    · rfl
    · have : x ≠ n := by rintro rfl; exact h v List.mem_cons_self
      simp [this]
theorem bindL_get {kindOf : Str → Option NameKind} {x : Str} {v : Value} : ∀ {P : List Str} {vs : List Value} {i : Nat} {m : Str → Option Value}, P.Nodup → P[i]? = some x → vs[i]? = some v → kindOf x = some .local →
    bindL kindOf (P.zip vs) m x = some v
  | [], _, _, _, _, h, _, _ => by simp at h
  | _ :: _, [], _, _, _, _, h, _ => by simp at h
  | p :: P, w :: vs, 0, m, nd, h1, h2, hk => by
    simp at h1 h2; subst h1; subst h2
    show bindL kindOf ((p, w) :: P.zip vs) m p = _
    unfold bindL
    rw [bindL_out fun v hv => (List.nodup_cons.mp nd).1 (List.of_mem_zip hv).1, if_pos hk]
    simp
  | p :: P, w :: vs, i + 1, m, nd, h1, h2, hk => by
    show bindL kindOf ((p, w) :: P.zip vs) m x = _
    unfold bindL
    exact bindL_get (i := i) (List.nodup_cons.mp nd).2 (by simpa using h1) (by simpa using h2) hk
theorem bindC_get {kindOf : Str → Option NameKind} {x : Str} {v : Value} : ∀ {P : List Str} {vs : List Value} {i : Nat} {m : Str → Option Value}, P.Nodup → P[i]? = some x → vs[i]? = some v → kindOf x ≠ some .local →
    bindC kindOf (P.zip vs) m x = some v
  | [], _, _, _, _, h, _, _ => by simp at h
  | _ :: _, [], _, _, _, _, h, _ => by simp at h
  | p :: P, w :: vs, 0, m, nd, h1, h2, hk => by
    simp at h1 h2; subst h1; subst h2
    show bindC kindOf ((p, w) :: P.zip vs) m p = _
    unfold bindC
    rw [bindC_out fun v hv => (List.nodup_cons.mp nd).1 (List.of_mem_zip hv).1, if_neg hk]
    simp
  | p :: P, w :: vs, i + 1, m, nd, h1, h2, hk => by
    show bindC kindOf ((p, w) :: P.zip vs) m x = _
    unfold bindC
    exact bindC_get (i := i) (List.nodup_cons.mp nd).2 (by simpa using h1) (by simpa using h2) hk

/-- the names' values at the entry -/
def start (N : List Str) (vs : List V) : St := vs.map some ++ List.replicate (N.length - vs.length) none

/-- the context of a def's body, at its entry; an exception leaves the frame, then lies as CX says -/
def cxOf (CX : CXT) (P : Program) (w : World) (K : PySem.W.Frag) (mg : Str → Option Value) (base : Heap) (N : List Str) (qual : Str) (scope : Scope) (f : Addr) (cd : Value) (A : Around) (outer : List Env) (s : Shared) (H : Hp) (E : XK) : Cx where
  prog := P
  w := w
  K := K
  mg := mg
  base := base
  A := A.deeper (envOfC qual scope s.heap.objs.size f cd)
  N := N
  s₀ := s
  H₀ := H
  env := envOfC qual scope s.heap.objs.size f cd
  outer := outer
  stack := envOfC qual scope s.heap.objs.size f cd :: outer
  ex := []
  calm := true
  fn := fun _ => true
  pn := []
  xe := fun e s' => wpAny (model P w) (A.deeper (envOfC qual scope s.heap.objs.size f cd)) (leaving (envOfC qual scope s.heap.objs.size f cd) e) (fun _ s'' => CX outer H s E e s'') (fun e' s'' => CX outer H s E e' s'') s'

theorem cell_has {sc : Scope} {n : Nat} {x : Str} (h : sc.names.lookup x = some .cell) : ∃ c, (cellsFrom n sc.names []).lookup x = some c := by
  have q := PySem.W.cellsFrom_some sc.names n [] (.inl h)
  exact Option.isSome_iff_exists.mp q

theorem inv_start {CX : CXT} {P : Program} {w : World} {K : PySem.W.Frag} {mg : Str → Option Value} {base : Heap} {N ps : List Str} {qual : Str} {scope : Scope} {f : Addr} {cd : Value} {A : Around} {outer : List Env} {s s1 : Shared} {H : Hp} {E : XK} {us : List Value} {vs : List V}
    (S : FnScope N ps scope) (hd : A.handled = none) (e0 : Env0 P w K mg base A outer s H) (hl : vs.length = ps.length) (r : Vals vs us)
    (x : InCallC s s.heap.objs.size (bindL (envOfC qual scope s.heap.objs.size f cd).kindOf (ps.zip us) fun _ => none) (cellsFrom (s.heap.objs.size + 1) scope.names []) (bindC (envOfC qual scope s.heap.objs.size f cd).kindOf (ps.zip us) fun _ => none) s1) :
    Inv (cxOf CX P w K mg base N qual scope f cd A outer s H E) [] (start N vs) H s1 := by
  have hpl : ps.length ≤ N.length := by have := congrArg List.length S.pre; rw [List.length_take] at this; omega
  obtain ⟨h1, tk, rfl, hk⟩ := x.done
  have noA : ∀ b : Addr, b ∉ (cxOf CX P w K mg base N qual scope f cd A outer s H E).ex := fun b z => absurd (show b ∈ ([] : List Addr) from z) (by simp)
  refine ⟨⟨e0.mod, S.kind, rfl, rfl, Nat.le_refl _, fun y z c h1 h2 => ?_, fun y hy => ?_, fun y c _ h => ?_, fun _ => hd, Around.frames_deeper e0.frames, .inr ⟨rfl, rfl⟩, fun b z => absurd z (noA b), e0.bs, e0.bsz, fun b _ _ => noA b, fun b z => absurd z (noA b), e0.funs, e0.frf⟩,
    rfl, e0.bare, Un.kept hk, ⟨_, x.toInCall.ns, fun i y v h1 h2 h3 => ?_⟩, fun y c h => ⟨_, x.cell y c h⟩, e0.hok.fresh (Nat.le_refl _), fun y c h => ?_, fun p hp => absurd (show p ∈ ([] : List (Addr × Obj)) from hp) (by simp), e0.hok.kept hk, ?_⟩
  · exact name_of_addr x.apart (PySem.mem_of_lookup h1) (PySem.mem_of_lookup h2)
  · have hy : scope.names.lookup y = some .cell ∨ scope.names.lookup y = some .free := hy
    rcases hy with hy | hy
    · exact cell_has hy
    · exact absurd rfl (S.nofree _ (PySem.mem_of_lookup hy))
  · exact Nat.le_of_lt (x.above y c (PySem.mem_of_lookup h))
  · have hi : i < vs.length := by
      unfold start at h2
      by_cases hi : i < vs.length
      · exact hi
      · rw [List.getElem?_append_right (by simpa using hi)] at h2
        rw [List.getElem?_replicate] at h2
        split at h2 <;> cases h2
    have ha : vs[i]? = some v := by
      unfold start at h2
      rw [List.getElem?_append_left (by simpa using hi), List.getElem?_map] at h2
      cases e : vs[i]? with
      | none => rw [e] at h2; cases h2
      | some a => rw [e] at h2; cases h2; rfl
    obtain ⟨u, hu, rv⟩ := r.get ha
    have hp : ps[i]? = some y := by
      rw [← S.pre, List.getElem?_take_of_lt (by omega)]; exact h1
    have ndP : ps.Nodup := by rw [← S.pre]; exact S.nd.sublist (List.take_sublist _ _)
    refine ⟨u, rv, ?_⟩
    rcases S.par y (List.mem_of_getElem? hp) with k | k
    · exact .inl ⟨k, bindL_get ndP hp hu k⟩
    · obtain ⟨c, e⟩ := cell_has (n := s.heap.objs.size + 1) k
      refine .inr ⟨.inl k, c, e, ?_⟩
      have q := x.cell y c e
      rw [bindC_get ndP hp hu (by show scope.names.lookup y ≠ _; rw [k]; decide)] at q
      exact q
  · exact e0.hok.fresh (Nat.le_of_lt (x.above y c (PySem.mem_of_lookup h)))
  · unfold start
    show _ = N.length
    rw [List.length_append, List.length_map, List.length_replicate]
    omega

/-- THE RULE: a def (or a method) of the text, by its body. The body's reading t is chosen for each entry; it is run at the parameters' values -/
theorem fn_of {CX : CXT} {P : Program} {w : World} {K : PySem.W.Frag} {mg : Str → Option Value} {base : Heap} {k : Nat} {f : Addr} {name qual : Str} {params : Arguments} {body : List Stmt} {scope : Scope} {dV kV doc pm cdv ct oc : Value} {an od : Option Addr}
    {osl : Array (Option Value)} {N ps : List Str} {sp : Sp} (lk : K.lookup f = some ⟨oc, od, .func (PySem.W.fnOf name qual params body scope dV kV doc pm an cdv ct), osl⟩) (hcd : PySem.W.codeIn K cdv qual = true) (S : FnScope N ps scope)
    (len : ∀ vs H Q E, sp vs H Q E → vs.length = ps.length)
    (hbody : ∀ (A : Around) (outer : List Env) (s : Shared) (H : Hp) (vs : List V) (Q : VK) (E : XK), Room k (A.deeper (envOfC qual scope s.heap.objs.size f cdv)) → sp vs H Q E →
      ∃ t, PSs (cxOf CX P w K mg base N qual scope f cdv A outer s H E) body t ∧ t { nx := fun _ H' => Q .non H', rt := Q } (start N vs) H) :
    FnOk P w K mg base CX (k + 1) f (PySem.W.fnOf name qual params body scope dV kV doc pm an cdv ct) ps sp := by
  refine ⟨len, fun A outer s H args us vs Q E hr e0 hb r hsp => ?_⟩
  have hl := len _ _ _ _ hsp
  have KX : K.In s.heap := e0.mod.kin.keeps fun b o e => (e0.bs b o e).1
  have lim : s.heap.NoLimit := e0.mod.nolimit.keeps fun b o e => (e0.bs b o e).1
  have hkind : ∀ y ∈ ps.zip us, scope.names.lookup y.1 = some .local ∨ (scope.names.lookup y.1 = some .cell ∧ ((cellsFrom (s.heap.objs.size + 1) scope.names []).lookup y.1).isSome = true) := fun ⟨n, v⟩ hy => by
    rcases S.par n (List.of_mem_zip hy).1 with q | q
    · exact .inl q
    · exact .inr ⟨q, PySem.W.cellsFrom_some _ _ _ (.inl q)⟩
  refine codeAny_call_function hr.depth (KX _ _ lk) rfl S.co S.gen rfl (PySem.W.codeRec_of KX hcd) (hb _ _ _ _ ?_)
  refine wpAny_newFunctionEnv_cells S.kind hkind fun env he s1 x => ?_
  subst he
  refine ⟨lim.keeps x.toInCall.keep, codeAny_func ?_⟩
  obtain ⟨t, ht, hq⟩ := hbody A outer s H vs Q E (hr.deeper _) hsp
  have I : Inv (cxOf CX P w K mg base N qual scope f cdv A outer s H E) [] (start N vs) H s1 := inv_start S hr.hd e0 hl r x
  refine wpAny_mono (ht [] s1 (start N vs) H _ I hq) (fun fl s' hs => ?_) fun e s' hs => hs
  have fin : ∀ {σ' : St} {H' : Hp} {v : V} {u : Value}, Inv (cxOf CX P w K mg base N qual scope f cdv A outer s H E) [] σ' H' s' → RelV v u → Q v H' → CE outer P w H s Q u s' :=
    fun {σ' H' v u} J rv q => ⟨v, H', J.os, J.bare, J.base, J.hok, rv, q⟩
  cases fl with
  | ret u =>
    obtain ⟨v, σ', H', J, rv, q⟩ := hs
    exact fin J rv q
  | next =>
    obtain ⟨σ', H', J, q⟩ := hs
    exact fin (v := V.non) (u := Value.none) J rfl q
  | brk =>
    obtain ⟨_, _, _, q⟩ := hs
    exact False.elim q
  | cont =>
    obtain ⟨_, _, _, q⟩ := hs
    exact False.elim q
end L2

namespace L2
open PySem PySem.Spec PyProof.Rows
section
variable {X : Cx} {x : Str} {p pos : Pos} {e : Expr} {es : List Expr} {t : TA} {id T : String} {r : List V → Hp → VK → Prop}

def tCB (r : List V → Hp → VK → Prop) (t : TA) : TE := fun σ H Q => t σ H fun vs H1 => r vs H1 Q
/-- f(e, ..), f a built-in function -/
theorem pe_callB (hc : CallR X (.builtin id) r) (hg : Gl X x) (hm : X.mg x = none) (hv : bootBuiltins x = some (.builtin id)) (ha : PA X (e :: es) t) (hn : x ≠ "__name__" := by decide) (hdb : (x == ("__debug__" : Str)) = false := by decide)
    (he : starEach (e :: es) X.env = (false, eval e X.env) :: starEach es X.env := by rfl) (hpl : (backTo pos (starEach es X.env)).any (·.1) = false := by rfl) : PE X (.Call (.Name x p) (e :: es) [] pos) (tCB r t) := by
  intro pins s σ H Q I h
  refine wpAny_Call_Name_kw (ld_blt I hg hm hv ?_ hn hdb)
  exact PyProof.Rows.callWith_builtin1 (thn (ha pos pins s σ H _ I h) fun us s1 ⟨vs, H1, I1, r1, q1⟩ => hc pins s1 σ H1 vs us Q I1 r1 q1) he hpl
/-- T(e, ..), T a built-in type -/
theorem pe_callTy (hc : CallR X (.type T) r) (hg : Gl X x) (hm : X.mg x = none) (hv : bootBuiltins x = some (.type T)) (ha : PA X (e :: es) t) (hn : x ≠ "__name__" := by decide) (hdb : (x == ("__debug__" : Str)) = false := by decide)
    (he : starEach (e :: es) X.env = (false, eval e X.env) :: starEach es X.env := by rfl) (hpl : (backTo pos (starEach es X.env)).any (·.1) = false := by rfl) : PE X (.Call (.Name x p) (e :: es) [] pos) (tCB r t) := by
  intro pins s σ H Q I h
  refine wpAny_Call_Name_kw (ld_blt I hg hm hv ?_ hn hdb)
  exact PyProof.Rows.callWith_type1 (thn (ha pos pins s σ H _ I h) fun us s1 ⟨vs, H1, I1, r1, q1⟩ => hc pins s1 σ H1 vs us Q I1 r1 q1) he hpl
end
end L2

namespace HT
open PySem PyProof.Rows

section
open PySem.SeqAt
open PySem.AutoSeq1 (wpAny_loadPart')
open PySem.MeetsSeq PySem.MeetsSeq2 PySem.MeetsSeq3

end

section
variable {prog : Program} {w : World} {A : Around} {E : Value → Shared → Prop} {s : Shared}

/-- t + u, t not empty -/
theorem cat_tup {t b : Addr} {vs ws : List Value} {Q : Value → Shared → Prop} (ht : IsTup s.heap t vs.toArray) (hb : IsTup s.heap b ws.toArray) (hv : vs ≠ [])
    (h1 : ws = [] → Q (.ref t) s) (h2 : ws ≠ [] → Q (.ref s.heap.objs.size) { s with heap := s.heap.push { cls := .type "tuple", data := .seq (vs ++ ws).toArray } })
    (hsz : vs.length + ws.length ≤ sizeLine) : wpAny (model prog w) A (binaryOp .Add (.ref t) (.ref b)) Q E s := by
  obtain ⟨⟨cls, dd, data, sl⟩, ho, hc, n, hd⟩ := id ht
  obtain ⟨⟨cls2, dd2, data2, sl2⟩, ho2, hc2, n2, hd2⟩ := id hb
  simp only at hc hd hc2 hd2
  subst hc hd hc2 hd2
  have e : vs.toArray ++ ws.toArray = (vs ++ ws).toArray := by simp
  by_cases hw : ws = []
  · exact concat_meets ⟨_, ho, rfl⟩ ⟨_, ho2, rfl⟩ noFill_tuple_add seq_tuple_add PySem.F.slot_tuple_add PySem.F.entry_tuple_add (PySem.F.args_tuple_add_2 _ _)
      (tuple_addW1 t b vs.toArray ws.toArray n n2 dd dd2 sl sl2 (by simpa using hv) (by simp [hw])) ⟨ho, ho2, h1 hw⟩
  · refine concat_meets ⟨_, ho, rfl⟩ ⟨_, ho2, rfl⟩ noFill_tuple_add seq_tuple_add PySem.F.slot_tuple_add PySem.F.entry_tuple_add (PySem.F.args_tuple_add_2 _ _)
      (tuple_addW2 t b vs.toArray ws.toArray n n2 dd dd2 sl sl2 (by simpa using hv) (by simpa using hw) (by rw [List.size_toArray, List.size_toArray]; exact hsz)) ⟨ho, ho2, ?_⟩
    rw [e]
    exact h2 hw

/-! ### t[a:b], not the whole -/
/-- a slice's bound as a place among n (d where it is left out) -/
def sIx (n d : Nat) : Option Int → Nat
  | none => d
  | some v => if v < 0 then (v + (n : Int)).toNat else min v.toNat n
theorem sIx_none (n d : Nat) : sIx n d none = d := rfl
theorem sIx_nat (n d k : Nat) : sIx n d (some (k : Int)) = min k n := by
  show (if (k : Int) < 0 then ((k : Int) + (n : Int)).toNat else min (k : Int).toNat n) = min k n
  rw [if_neg (by omega), Int.toNat_natCast]
theorem sIx_le (n d : Nat) (hd : d ≤ n) (o : Option Int) : sIx n d o ≤ n := by
  cases o with
  | none => exact hd
  | some v =>
    show (if v < 0 then (v + (n : Int)).toNat else min v.toNat n) ≤ n
    by_cases hv : v < 0
    · rw [if_pos hv]; omega
    · rw [if_neg hv]; exact Nat.min_le_right _ _
theorem clip_eq (v : Int) (n d : Nat) : (if v < 0 then max (v + (n : Int)) 0 else min v (n : Int)) = ((sIx n d (some v) : Nat) : Int) := by
  show (if v < 0 then max (v + (n : Int)) 0 else min v (n : Int)) = (((if v < 0 then (v + (n : Int)).toNat else min v.toNat n) : Nat) : Int)
  by_cases hv : v < 0
  · simp only [if_pos hv]; omega
  · simp only [if_neg hv]; omega
theorem adjust_gen (lo hi : Option Int) (n : Nat) : Builtin.Slice.sliceAdjust lo hi 1 (n : Int) = (((sIx n 0 lo : Nat) : Int), ((sIx n n hi : Nat) : Int)) := by
  have h1 : ¬ ((1 : Int) < 0) := by omega
  unfold Builtin.Slice.sliceAdjust
  simp only [h1, if_false]
  refine Prod.ext ?_ ?_
  · cases lo with
    | none => rfl
    | some v => exact clip_eq v n 0
  · cases hi with
    | none => rfl
    | some v => exact clip_eq v n n
theorem places_gen (i j : Nat) : Builtin.Slice.slicePlaces (i : Int) (j : Int) 1 = j - i := by
  unfold Builtin.Slice.slicePlaces
  have h1 : (1 : Int) > 0 := by omega
  simp only [h1, if_true, Int.ediv_one]
  split <;> omega
theorem slicePart_ {v : Value} {o : Option Int} {Q : Option Int → Shared → Prop} (p : IsPart v o) (h : Q o s) : wpAny (model prog w) A (Builtin.Slice.slicePartIndex v) Q E s := by
  cases p with
  | none => exact slicePart_none h
  | int i t => exact slicePart_int h
theorem sliceApplied_gen {sl : Addr} {vl vu : Value} {lo hi : Option Int} {n : Nat} {Q : Int × Int × Nat → Shared → Prop} (hs : s.heap.IsSliceOf sl vl vu .none) (pl : IsPart vl lo) (pu : IsPart vu hi)
    (h : Q (((sIx n 0 lo : Nat) : Int), 1, sIx n n hi - sIx n 0 lo) s) : wpAny (model prog w) A (Builtin.Slice.sliceApplied (.ref sl) (pure (n : Int))) Q E s := by
  obtain ⟨os, hos, hcs, hds⟩ := id hs
  unfold Builtin.Slice.sliceApplied Builtin.Slice.sliceFields
  refine wpAny_bind (wpAny_bind (wpAny_field hos hds (x := vl) rfl (wpAny_bind (wpAny_field hos hds (x := vu) rfl (wpAny_bind (wpAny_field hos hds (x := .none) rfl (wpAny_pure ?_)))))))
  refine wpAny_bind (slicePart_none ?_)
  show wpAny _ _ (if ((1 : Int) == 0) = true then _ else _) _ _ s
  rw [if_neg (by decide)]
  refine wpAny_bind (slicePart_ pl (wpAny_bind (slicePart_ pu (wpAny_bind (wpAny_pure ?_)))))
  show wpAny _ _ (match Builtin.Slice.sliceAdjust lo hi 1 (n : Int) with | (lo, hi) => pure (lo, (1 : Int), Builtin.Slice.slicePlaces lo hi 1)) _ _ s
  rw [adjust_gen lo hi n]
  show wpAny _ _ (pure (((sIx n 0 lo : Nat) : Int), (1 : Int), Builtin.Slice.slicePlaces ((sIx n 0 lo : Nat) : Int) ((sIx n n hi : Nat) : Int) 1)) _ _ s
  rw [places_gen]
  exact wpAny_pure h
theorem pick_gen (xs : Array Value) (i k : Nat) : ((List.range k).filterMap fun (m : Nat) => xs[((i : Int) + (m : Int) * 1).toNat]?).toArray = ((xs.toList.drop i).take k).toArray := by
  have e : (fun (m : Nat) => xs[((i : Int) + (m : Int) * 1).toNat]?) = fun m => xs[i + m]? := by
    funext m
    have : ((i : Int) + (m : Int) * 1).toNat = i + m := by omega
    rw [this]
  rw [e]
  have := pick_run xs i k
  rw [List.filterMap_map] at this
  have e2 : ((fun x => xs[x]?) ∘ fun x => i + x) = fun m => xs[i + m]? := rfl
  rw [e2] at this
  rw [this]

theorem getItem_tuple_cut {t sl : Addr} {items : Array Value} {vl vu : Value} {lo hi : Option Int} {Q : Value → Shared → Prop} (ht : IsTup s.heap t items) (hs : s.heap.IsSliceOf sl vl vu .none) (pl : IsPart vl lo) (pu : IsPart vu hi)
    (hw : ¬ (sIx items.size 0 lo = 0 ∧ sIx items.size items.size hi = items.size))
    (h : Q (.ref s.heap.objs.size) { s with heap := s.heap.push { cls := .type "tuple", data := .seq ((items.toList.drop (sIx items.size 0 lo)).take (sIx items.size items.size hi - sIx items.size 0 lo)).toArray } })
    (hsz : items.size ≤ sizeLine) : wpAny (model prog w) A (getItem (.ref t) (.ref sl)) Q E s := by
  have htake : sizeOk (.seq ((items.toList.drop (sIx items.size 0 lo)).take (sIx items.size items.size hi - sIx items.size 0 lo)).toArray) := by
    show ((items.toList.drop (sIx items.size 0 lo)).take (sIx items.size items.size hi - sIx items.size 0 lo)).toArray.size ≤ sizeLine
    rw [List.size_toArray, List.length_take, List.length_drop, Array.length_toList]
    omega
  have hj : sIx items.size items.size hi ≤ items.size := sIx_le _ _ (Nat.le_refl _) hi
  obtain ⟨os, hos, hcs, hds⟩ := id hs
  have hTs : s.TypeIs (.ref sl) "slice" := ⟨os, hos, hcs⟩
  unfold getItem
  try with_reducible refine wpAny_holding ?_
  first | refine wpAny_bind (wpAny_pure ?_) | skip
  refine wpAny_bind (wpAny_sequenceKey ht.typeIs (by decide) ?_)
  refine wpAny_bind (wpAny_callSpecial?_slot (name := Str.ofString "__getitem__") ht.typeIs PyProof.Rows.slot_tuple_getitem
    (wpAny_call_entry PyProof.Rows.slot_tuple_getitem ht.typeIs entry_tuple_getitem ?_ (args_tuple_getitem _ _)))
  show wpAny _ _ (Builtin.Tuple.tupleItemsOf (.ref t) >>= _) _ _ s
  refine wpAny_bind (tupleItemsOf_ ht ?_)
  refine wpAny_bind (wpAny_typeOf hTs ?_)
  rw [if_pos (by decide)]
  refine wpAny_bind (sliceApplied_gen hs pl pu ?_)
  have hno : ¬ ((((sIx items.size 0 lo : Nat) : Int) == 0 && (1 : Int) == 1 && (sIx items.size items.size hi - sIx items.size 0 lo) == items.size) = true) := by
    intro q
    rw [Bool.and_eq_true, Bool.and_eq_true] at q
    have q1 : ((sIx items.size 0 lo : Nat) : Int) = 0 := eq_of_beq q.1.1
    have q2 : sIx items.size items.size hi - sIx items.size 0 lo = items.size := eq_of_beq q.2
    exact hw ⟨by omega, by omega⟩
  show wpAny _ _ (if (((sIx items.size 0 lo : Nat) : Int) == 0 && (1 : Int) == 1 && (sIx items.size items.size hi - sIx items.size 0 lo) == items.size) = true then _ else _) _ _ s
  rw [if_neg hno, pick_gen]
  first
    | exact wpAny_bind (m := Builtin.Tuple.tupleExact _) (wpAny_newObj_type (wpAny_pure ⟨_, rfl, wpAny_pure h⟩) htake)
    | exact wpAny_bind (m := Builtin.Tuple.tupleExact _) (wpAny_newObj_type (wpAny_bind (wpAny_pure (wpAny_pure ⟨_, rfl, wpAny_pure h⟩))) htake)
    | exact wpAny_bind (wpAny_bind (m := Builtin.Tuple.tupleExact _) (wpAny_newObj_type (wpAny_pure (wpAny_pure ⟨_, rfl, wpAny_pure h⟩)) htake))
    | exact wpAny_bind (wpAny_bind (m := Builtin.Tuple.tupleExact _) (wpAny_newObj_type (wpAny_pure ⟨_, rfl, wpAny_pure h⟩) htake))
end
end HT

namespace L2
open PySem PySem.Spec PyProof.Rows

/-! ### the parts of a slice -/
abbrev TO := St → Hp → (Option Int → Hp → Prop) → Prop
/-- a slice's part (left out, or an int) -/
def PO (X : Cx) (e : Option Expr) (t : TO) : Prop :=
  ∀ (pins : List (Addr × Obj)) (s : Shared) (σ : St) (H : Hp) (Q : Option Int → Hp → Prop), Inv X pins σ H s → t σ H Q →
    wpAny (model X.prog X.w) X.A (evalPart e X.env) (fun u s' => ∃ o H', Inv X pins σ H' s' ∧ IsPart u o ∧ Q o H') X.xe s
def tNoPart : TO := fun _ H Q => Q none H
def tPart (t : TE) : TO := fun σ H Q => t σ H fun x H1 => ∃ i, x = .int i ∧ Q (some i) H1

section
variable {X : Cx} {e : Expr} {te : TE} {lo hi : Option Expr} {tl th : TO} {pos p2 : Pos}

theorem po_none : PO X none tNoPart := by
  intro pins s σ H Q I h
  rw [evalPart_none]
  exact wpAny_pure ⟨none, H, I, .none, h⟩
theorem po_some (h : PE X e te) : PO X (some e) (tPart te) := by
  intro pins s σ H Q I hw
  rw [evalPart_some]
  refine thn (h pins s σ H _ I hw) fun u s1 ⟨x, H1, I1, r1, q1⟩ => ?_
  obtain ⟨i, rfl, q⟩ := q1
  obtain ⟨t, rfl⟩ := r1
  exact ⟨some i, H1, I1, .int i t, q⟩

/-- what a slice of a value is, by values: the slice object stands at sl -/
def SlR (X : Cx) (r : V → Option Int → Option Int → Hp → VK → Prop) : Prop :=
  ∀ (pins : List (Addr × Obj)) (s : Shared) (σ : St) (H : Hp) (x : V) (v vl vu : Value) (lo hi : Option Int) (sl : Addr) (Q : VK), Inv X pins σ H s → RelV x v → s.heap.IsSliceOf sl vl vu .none → IsPart vl lo → IsPart vu hi → r x lo hi H Q →
    ∃ T id, typeLookup (.type T) "__getitem__" = pure (some (.builtin id)) ∧ s.TypeIs v T ∧ wpAny (model X.prog X.w) X.A (getItem v (.ref sl)) (EP X pins σ Q) X.xe s
theorem SlR.or {r r' : V → Option Int → Option Int → Hp → VK → Prop} (h : SlR X r) (h' : SlR X r') : SlR X (fun x lo hi H Q => r x lo hi H Q ∨ r' x lo hi H Q) := by
  intro pins s σ H x v vl vu lo hi sl Q I rx hs pl pu q
  rcases q with q | q
  · exact h pins s σ H x v vl vu lo hi sl Q I rx hs pl pu q
  · exact h' pins s σ H x v vl vu lo hi sl Q I rx hs pl pu q
def tSl (r : V → Option Int → Option Int → Hp → VK → Prop) (te : TE) (tl th : TO) : TE := fun σ H Q => te σ H fun x H1 => tl σ H1 fun l H2 => th σ H2 fun u H3 => r x l u H3 Q
/-- a[lo:hi], any a -/
theorem pe_slice {r : V → Option Int → Option Int → Hp → VK → Prop} (hr : SlR X r) (he : PE X e te) (hl : PO X lo tl) (hu : PO X hi th) : PE X (.Subscript e (.Slice lo hi none p2) pos) (tSl r te tl th) := by
  intro pins s σ H Q I h
  refine Subscript_ (thn (he pins s σ H _ I h) fun v s1 ⟨x, H1, I1, r1, q1⟩ => ?_)
  refine wpAny_Slice (thn (hl pins s1 σ H1 _ I1 q1) fun vl s2 ⟨l, H2, I2, pl, q2⟩ => thn (hu pins s2 σ H2 _ I2 q2) fun vu s3 ⟨u, H3, I3, pu, q3⟩ => ?_)
  rw [evalPart_none]
  refine wpAny_pure ?_
  have I4 : Inv X pins σ H3 { s3 with heap := s3.heap.push { cls := .type "slice", data := .fields #[vl, vu, .none] } } := I3.kept (t' := s3.toks) fun b ob q => Heap.get?_push_of_some _ q
  obtain ⟨T, id, hT, ht, hg⟩ := hr pins { s3 with heap := s3.heap.push { cls := .type "slice", data := .fields #[vl, vu, .none] } } σ H3 x v vl vu l u s3.heap.objs.size Q I4 r1 (Heap.IsSliceOf.new ..) pl pu q3
  show wpAny (model X.prog X.w) X.A (subscriptTail e (.Slice lo hi none p2) v (.ref s3.heap.objs.size)) (EP X pins σ Q) X.xe { s3 with heap := s3.heap.push { cls := .type "slice", data := .fields #[vl, vu, .none] } }
  exact tail_any (ops := [.ref s3.heap.objs.size, v]) ht hT hg (by with_unfolding_all rfl)

/-- the items of xs[lo:hi] -/
def cutV (xs : List V) (lo hi : Option Int) : List V := (xs.drop (HT.sIx xs.length 0 lo)).take (HT.sIx xs.length xs.length hi - HT.sIx xs.length 0 lo)
theorem cutV_length (xs : List V) (lo hi : Option Int) : (cutV xs lo hi).length ≤ xs.length := by
  unfold cutV
  rw [List.length_take, List.length_drop]
  omega
/-- t[lo:hi], not the whole of it (the whole would be t itself) -/
def rSlT (K : PySem.W.Frag) : V → Option Int → Option Int → Hp → VK → Prop := fun x lo hi H Q => ∃ a xs, x = .ref a ∧ SqT K H a xs ∧
  ¬ (HT.sIx xs.length 0 lo = 0 ∧ HT.sIx xs.length xs.length hi = xs.length) ∧ ∀ p, H p = none → Q (.ref p) (upd H p (.tup (cutV xs lo hi)))
theorem sl_tup : SlR X (rSlT X.K) := by
  intro pins s σ H x v vl vu lo hi sl Q I rx hs pl pu h
  obtain ⟨a, xs, rfl, hx, hw, q⟩ := h
  cases rx
  obtain ⟨its, r, ht, hz⟩ := I.tuple hx
  have hlen : its.toArray.size = xs.length := by rw [List.size_toArray]; exact r.length.symm
  refine ⟨"tuple", _, PyProof.Rows.slot_tuple_getitem.lookup, ht.typeIs, ?_⟩
  refine HT.getItem_tuple_cut ht hs pl pu (by rw [hlen]; exact hw) ?_ (by rw [hlen]; exact hz)
  rw [hlen]
  refine ⟨.ref s.heap.objs.size, _, I.laid (t' := s.toks) (o := .tup (cutV xs lo hi)) (fun b ob q => Heap.get?_push_of_some _ q) (Nat.le_refl _) ?_, rfl, q _ (I.hok.fresh (Nat.le_refl _))⟩
  exact ⟨Nat.le_trans (cutV_length xs lo hi) hz, _, (r.drop (HT.sIx xs.length 0 lo)).take (HT.sIx xs.length xs.length hi - HT.sIx xs.length 0 lo), IsTup.new _ _⟩

/-! ### t < u, t + u -/
/-- t + u, t not empty: u empty gives t itself -/
def rCatT (K : PySem.W.Frag) : R2 := fun x y H Q => ∃ a b xs ys, x = .ref a ∧ y = .ref b ∧ SqT K H a xs ∧ SqT K H b ys ∧ xs ≠ [] ∧ xs.length + ys.length ≤ sizeLine ∧
  (ys = [] → Q (.ref a) H) ∧ (ys ≠ [] → ∀ p, H p = none → Q (.ref p) (upd H p (.tup (xs ++ ys))))
theorem Vals.nil_iff {xs : List V} {us : List Value} (r : Vals xs us) : us = [] ↔ xs = [] := by
  cases r with
  | nil => simp
  | cons _ _ => simp
theorem op_catT : OpR X (binaryOp .Add) (rCatT X.K) := by
  intro pins s σ H x y v u Q I rx ry h
  obtain ⟨a, b, xs, ys, rfl, rfl, ha, hb, hx, hz, q1, q2⟩ := h
  cases rx
  cases ry
  obtain ⟨its, r1, p1, _⟩ := I.tuple ha
  obtain ⟨its2, r2, p2, _⟩ := I.tuple hb
  refine HT.cat_tup p1 p2 (fun z => hx (r1.nil_iff.mp z)) (fun z => ⟨.ref a, H, I, rfl, q1 (r2.nil_iff.mp z)⟩) (fun z => ?_) (by rw [← r1.length, ← r2.length]; exact hz)
  refine ⟨.ref s.heap.objs.size, _, I.laid (t' := s.toks) (o := .tup (xs ++ ys)) (fun b ob q => Heap.get?_push_of_some _ q) (Nat.le_refl _) ?_, rfl, q2 (fun w => z (r2.nil_iff.mpr w)) _ (I.hok.fresh (Nat.le_refl _))⟩
  exact ⟨by rw [List.length_append]; exact hz, _, r1.append r2, IsTup.new _ _⟩
end
end L2

namespace L2
open PySem PySem.Spec PyProof.Rows

/-! ### places -/
/-- the place that an index of any sign means -/
def ixN (n : Nat) (i : Int) : Option Nat := if 0 ≤ i then (if i < n then some i.toNat else none) else if -(n : Int) ≤ i then some (i + n).toNat else none
def atI {α : Type} (xs : List α) (i : Int) : Option α := (ixN xs.length i).bind fun j => xs[j]?
theorem ixN_seq {n : Nat} {i : Int} {j : Nat} (h : ixN n i = some j) : seqIndex? i n = some j ∧ j < n ∧ -(n : Int) ≤ i ∧ i < n := by
  unfold ixN at h
  by_cases h0 : 0 ≤ i
  · rw [if_pos h0] at h
    by_cases h1 : i < n
    · rw [if_pos h1] at h
      have e : i.toNat = j := Option.some.inj h
      exact ⟨by rw [seqIndex_of h0 h1, e], by omega, by omega, h1⟩
    · rw [if_neg h1] at h; cases h
  · rw [if_neg h0] at h
    by_cases h1 : -(n : Int) ≤ i
    · rw [if_pos h1] at h
      have e : (i + n).toNat = j := Option.some.inj h
      exact ⟨by rw [seqIndex_neg (by omega) h1, e], by omega, h1, by omega⟩
    · rw [if_neg h1] at h; cases h
theorem atI_get {α : Type} {xs : List α} {i : Int} {v : α} (h : atI xs i = some v) : ∃ j, seqIndex? i xs.length = some j ∧ xs[j]? = some v ∧ j < xs.length ∧ -(xs.length : Int) ≤ i ∧ i < xs.length := by
  unfold atI at h
  cases e : ixN xs.length i with
  | none => rw [e] at h; cases h
  | some j =>
    rw [e] at h
    obtain ⟨h1, h2, h3, h4⟩ := ixN_seq e
    exact ⟨j, h1, h, h2, h3, h4⟩
theorem atI_nat {α : Type} {xs : List α} {j : Nat} {v : α} (h : xs[j]? = some v) : atI xs (j : Int) = some v := by
  have hj : j < xs.length := (List.getElem?_eq_some_iff.mp h).1
  have e : ixN xs.length (j : Int) = some j := by
    unfold ixN
    rw [if_pos (by omega), if_pos (by omega)]; simp
  unfold atI; rw [e]; exact h
/-! ### what may be subscripted -/
/-- what stands as an index of a plain subscript -/
def PlainIx (b : Expr) : Prop := ∀ o i, subscripted b false o i = operate [o, i] (getItem o i)
/-- a subscript by values -/
def IxR (X : Cx) (r : R2) : Prop :=
  ∀ (value slice : Expr) (pins : List (Addr × Obj)) (s : Shared) (σ : St) (H : Hp) (x y : V) (v u : Value) (Q : VK), Inv X pins σ H s → RelV x v → RelV y u → r x y H Q →
    subscripted slice false v u = operate [v, u] (getItem v u) → wpAny (model X.prog X.w) X.A (subscriptTail value slice v u) (EP X pins σ Q) X.xe s
/-- a call of a builtin's method by values: the receiver, the arguments -/
def MtR (X : Cx) (id : String) (r : V → List V → Hp → VK → Prop) : Prop :=
  ∀ (pins : List (Addr × Obj)) (s : Shared) (σ : St) (H : Hp) (x : V) (xs : List V) (v : Value) (us : List Value) (Q : VK), Inv X pins σ H s → RelV x v → Vals xs us → r x xs H Q →
    wpAny (model X.prog X.w) X.A (call (.builtin id) (v :: us)) (EP X pins σ Q) X.xe s
section
variable {X : Cx} {a b : Expr} {ta tb : TE} {pos : Pos}
theorem IxR.or {r r' : R2} (h : IxR X r) (h' : IxR X r') : IxR X (fun x y H Q => r x y H Q ∨ r' x y H Q) := by
  intro value slice pins s σ H x y v u Q I rx ry q hs
  rcases q with q | q
  · exact h value slice pins s σ H x y v u Q I rx ry q hs
  · exact h' value slice pins s σ H x y v u Q I rx ry q hs
theorem MtR.or {id : String} {r r' : V → List V → Hp → VK → Prop} (h : MtR X id r) (h' : MtR X id r') : MtR X id (fun x xs H Q => r x xs H Q ∨ r' x xs H Q) := by
  intro pins s σ H x xs v us Q I rx rs q
  rcases q with q | q
  · exact h pins s σ H x xs v us Q I rx rs q
  · exact h' pins s σ H x xs v us Q I rx rs q
/-- a[b] -/
theorem pe_ix {r : R2} (hr : IxR X r) (ha : PE X a ta) (hb : PE X b tb) (hs : PlainIx b) : PE X (.Subscript a b pos) (tOp r ta tb) := by
  intro pins s σ H Q I h
  exact Subscript_ (binT ha hb I h fun v u s2 x y H2 I2 rx ry q => hr a b pins s2 σ H2 x y v u Q I2 rx ry q (hs _ _))

def rIxL (K : PySem.W.Frag) : R2 := fun x y H Q => ∃ p xs i v, x = .ref p ∧ y = .int i ∧ SqL K H p xs ∧ atI xs i = some v ∧ Q v H
def rIxT (K : PySem.W.Frag) : R2 := fun x y H Q => ∃ p xs i v, x = .ref p ∧ y = .int i ∧ SqT K H p xs ∧ atI xs i = some v ∧ Q v H
def rIxS : R2 := fun x y H Q => ∃ z i c, x = .str z ∧ y = .int i ∧ z.length ≤ sizeLine ∧ atI z.cps.toList i = some c ∧ Q (.str ⟨#[c]⟩) H
theorem ix_list : IxR X (rIxL X.K) := by
  intro value slice pins s σ H x y v u Q I rx ry h hs
  obtain ⟨p, xs, i, z, rfl, rfl, hq, he, q⟩ := h
  cases rx
  obtain ⟨t, rfl⟩ := ry
  obtain ⟨its, r, pl, hz⟩ := I.list hq
  obtain ⟨j, h1, h2, h3, h4, h5⟩ := atI_get he
  obtain ⟨w, ew, rw'⟩ := r.get h2
  have hl := r.length
  have hn := line63
  have fin : EP X pins σ Q w s := ⟨z, H, I, rw', q⟩
  by_cases h0 : 0 ≤ i
  · have hj : i.toNat = j := by
      rw [seqIndex_of h0 h5] at h1
      exact Option.some.inj h1
    exact item_listR pl.isList h0 (by omega) (by rw [hj]; simpa using ew) fin hs
  · have hj : (i + (its.toArray.size : Int)).toNat = j := by
      rw [seqIndex_neg (by omega) h4] at h1
      rw [List.size_toArray, ← hl]
      exact Option.some.inj h1
    exact subscriptTail_builtinR (x := w) pl.isList.typeIs slot_list_getitem.lookup
      (wpAny_getItem_list_neg (Q := fun r s' => r = w ∧ EP X pins σ Q r s') pl.isList (by omega) (by rw [List.size_toArray] <;> omega) (by omega) (by rw [hj]; simpa using ew) ⟨rfl, fin⟩) hs
theorem ix_tup : IxR X (rIxT X.K) := by
  intro value slice pins s σ H x y v u Q I rx ry h hs
  obtain ⟨p, xs, i, z, rfl, rfl, hq, he, q⟩ := h
  cases rx
  obtain ⟨t, rfl⟩ := ry
  obtain ⟨its, r, pl, hz⟩ := I.tuple hq
  obtain ⟨j, h1, h2, h3, h4, h5⟩ := atI_get he
  obtain ⟨w, ew, rw'⟩ := r.get h2
  have hl := r.length
  have hn := line63
  have fin : EP X pins σ Q w s := ⟨z, H, I, rw', q⟩
  exact subscriptTail_builtinR (x := w) pl.typeIs slot_tuple_getitem.lookup
    (getItem_tuple (j := j) (Q := fun r s' => r = w ∧ EP X pins σ Q r s') pl (by omega) (by omega) (by rw [List.size_toArray, ← hl]; exact h1) (by simpa using ew) ⟨rfl, fin⟩) hs
theorem ix_str : IxR X rIxS := by
  intro value slice pins s σ H x y v u Q I rx ry h hs
  obtain ⟨z, i, c, rfl, rfl, hz, he, q⟩ := h
  obtain ⟨t, rfl⟩ := rx
  obtain ⟨t', rfl⟩ := ry
  obtain ⟨j, h1, h2, h3, h4, h5⟩ := atI_get he
  have hl : z.cps.toList.length = z.length := by simp [Str.length]
  rw [hl] at h1 h4 h5
  have hn := line63
  exact tail_any (typeIs_str s z t) slot_str_getitem.lookup (getItem_str (c := c) (by
    have e1 : decide (i < -(2 ^ 63 : Int)) = false := decide_eq_false (by omega)
    have e2 : decide (i ≥ 2 ^ 63) = false := decide_eq_false (by omega)
    rw [e1, e2, Bool.or_false]) (by rw [h1]; simpa using h2) ⟨.str ⟨#[c]⟩, H, I.tok _, ⟨_, rfl⟩, q⟩) hs
/-- list, tuple or str -/
def rIx (K : PySem.W.Frag) : R2 := fun x y H Q => rIxL K x y H Q ∨ rIxT K x y H Q ∨ rIxS x y H Q
theorem ix_seq : IxR X (rIx X.K) := ix_list.or (ix_tup.or ix_str)

/-! ### xs[i] = v, any sign -/
/-- the list's object behind a store -/
theorem mapSeq_set (its : List Value) (n j : Nat) (u : Value) : Obj.mapSeq (·.setIfInBounds j u) { cls := .type "list", data := .seq its.toArray n } = { cls := .type "list", data := .seq (its.set j u).toArray n } := by
  simp [Obj.mapSeq]
theorem Inv.lst {pins : List (Addr × Obj)} {σ : St} {H : Hp} {s : Shared} {p : Addr} {xs : List V} (I : Inv X pins σ H s) (h : H p = some (.lst xs)) :
    ∃ (its : List Value) (n : Nat), Vals xs its ∧ s.heap.get? p = some { cls := .type "list", data := .seq its.toArray n } ∧ xs.length ≤ sizeLine := by
  obtain ⟨z, its, n, r, e⟩ := I.hok p _ h
  exact ⟨its, n, r, e, z⟩
/-- the list at p is written by an update of its object -/
theorem Inv.lstUpd {pins : List (Addr × Obj)} {σ : St} {H : Hp} {s : Shared} {p : Addr} {xs ys : List V} {its its' : List Value} {n n' : Nat} {f : Obj → Obj} (I : Inv X pins σ H s) (h : H p = some (.lst xs))
    (ho : s.heap.get? p = some { cls := .type "list", data := .seq its.toArray n }) (hf : f { cls := .type "list", data := .seq its.toArray n } = { cls := .type "list", data := .seq its'.toArray n' }) (r : Vals ys its') (hz : ys.length ≤ sizeLine) (t : Nat) :
    Inv X pins σ (upd H p (.lst ys)) { s with heap := s.heap.update p f, toks := t } := by
  have e : (s.heap.update p f).get? p = some { cls := .type "list", data := .seq its'.toArray n' } := by
    rw [Heap.get?_update_self f ho (by rw [hf] <;> rfl), hf]
  refine I.write (x := p) (e := p) (by rw [h]; trivial) (.inl rfl) (fun b u hb q => (Heap.get?_update_other _ _ (Ne.symm hb)).trans q) ⟨_, e⟩ ?_
  exact ⟨hz, its', n', r, e⟩
def rSetL : V → V → V → Hp → (Hp → Prop) → Prop := fun o i v H Q => ∃ p xs k j, o = .ref p ∧ i = .int k ∧ H p = some (.lst xs) ∧ ixN xs.length k = some j ∧ Q (upd H p (.lst (xs.set j v)))
theorem set_list : PSet X rSetL := by
  intro pins s σ H o i v ov iv u Q I ro ri rv h
  obtain ⟨p, xs, k, j, rfl, rfl, hp, hj, q⟩ := h
  cases ro
  obtain ⟨t, rfl⟩ := ri
  obtain ⟨its, n, r, ho, hz⟩ := I.lst hp
  obtain ⟨h1, h2, h3, h4⟩ := ixN_seq hj
  have hl := r.length
  have hn := line63
  have I' : Inv X pins σ (upd H p (.lst (xs.set j v))) { s with heap := s.heap.update p (Obj.mapSeq (·.setIfInBounds j u)) } :=
    I.lstUpd hp ho (mapSeq_set its n j u) (r.set rv j) (by rw [List.length_set]; exact hz) s.toks
  by_cases h0 : 0 ≤ k
  · have hk : k.toNat = j := by
      rw [seqIndex_of h0 h4] at h1
      exact Option.some.inj h1
    exact PySem.W.ki_setAt ho h0 (by omega) (by rw [List.size_toArray, ← hl]; exact h4) (by rw [hk]; exact ⟨_, I', q⟩)
  · have hk : (k + (its.toArray.size : Int)).toNat = j := by
      rw [seqIndex_neg (by omega) h3] at h1
      rw [List.size_toArray, ← hl]
      exact Option.some.inj h1
    exact PySem.W.ki_setBack ho (by omega) (by rw [List.size_toArray, ← hl]; exact h3) (by omega) (by rw [hk]; exact ⟨_, I', q⟩)

/-! ### slices -/
theorem slice_bounds (lo hi : Option Int) (n : Nat) : (sliceBounds lo hi none n).1 = ((HT.sIx n 0 lo : Nat) : Int) ∧ (sliceBounds lo hi none n).2.1 = ((HT.sIx n n hi : Nat) : Int) ∧ (sliceBounds lo hi none n).2.2 = 1 := by
  refine ⟨?_, ?_, rfl⟩
  · cases lo with
    | none => simp [sliceBounds, HT.sIx]
    | some i =>
      simp only [sliceBounds, HT.sIx, Option.getD_none, show (1 : Int) > 0 by decide, if_true]
      by_cases h : i < 0
      · simp only [h, if_true] <;> omega
      · simp only [h, if_false] <;> omega
  · cases hi with
    | none => simp [sliceBounds, HT.sIx]
    | some i =>
      simp only [sliceBounds, HT.sIx, Option.getD_none, show (1 : Int) > 0 by decide, if_true]
      by_cases h : i < 0
      · simp only [h, if_true] <;> omega
      · simp only [h, if_false] <;> omega
theorem slicePick_cut (its : List Value) (lo hi : Option Int) : slicePick its.toArray lo hi none = ((its.drop (HT.sIx its.length 0 lo)).take (HT.sIx its.length its.length hi - HT.sIx its.length 0 lo)).toArray := by
  obtain ⟨h1, h2, h3⟩ := slice_bounds lo hi its.toArray.size
  unfold slicePick
  rw [h1, h2, h3]
  simp only [sliceRange_one, pick_run, List.size_toArray] <;> rfl
/-- xs[lo:hi] of a list: a new list -/
def rSlL (K : PySem.W.Frag) : V → Option Int → Option Int → Hp → VK → Prop := fun x lo hi H Q => ∃ a xs, x = .ref a ∧ SqL K H a xs ∧ ∀ p, H p = none → Q (.ref p) (upd H p (.lst (cutV xs lo hi)))
theorem sl_list : SlR X (rSlL X.K) := by
  intro pins s σ H x v vl vu lo hi sl Q I rx hs pl pu h
  obtain ⟨a, xs, rfl, hx, q⟩ := h
  cases rx
  obtain ⟨its, r, ht, hz⟩ := I.list hx
  have hlen := r.length
  refine ⟨"list", _, slot_list_getitem.lookup, ht.isList.typeIs, ?_⟩
  refine wpAny_getItem_list_slice ht.isList hs pl pu .none (by simp) ?_ (by rw [List.size_toArray] <;> omega)
  rw [slicePick_cut, ← hlen]
  refine ⟨.ref s.heap.objs.size, _, I.laid (t' := s.toks) (o := .lst (cutV xs lo hi)) (fun b ob q => Heap.get?_push_of_some _ q) (Nat.le_refl _) ?_, rfl, q _ (I.hok.fresh (Nat.le_refl _))⟩
  exact ⟨Nat.le_trans (cutV_length xs lo hi) hz, _, 0, (r.drop (HT.sIx xs.length 0 lo)).take (HT.sIx xs.length xs.length hi - HT.sIx xs.length 0 lo), Heap.get?_push_size _ rfl⟩

/-! ### in, not in: flat items -/
/-! ### len, list(x), tuple(x) of any list or tuple that is read -/
theorem call_len_seq : CallR X (.builtin "len") (fun xs H Q => ∃ p ys, xs = [.ref p] ∧ (SqL X.K H p ys ∨ SqT X.K H p ys) ∧ Q (.int ys.length) H) := by
  intro pins s σ H xs us Q I r h
  obtain ⟨p, ys, rfl, hq, q⟩ := h
  obtain ⟨u, rfl, rx⟩ := vals1 r
  cases rx
  have hn := line63
  rcases hq with hq | hq
  · obtain ⟨its, r', pl, hz⟩ := I.list hq
    have hlen := r'.length
    exact Calls.call_len_list pl.isList (by simp only [List.size_toArray] <;> omega) ⟨.int ys.length, H, I.tok _, ⟨s.toks + 1, by rw [List.size_toArray, hlen]⟩, q⟩
  · obtain ⟨its, r', pl, hz⟩ := I.tuple hq
    have hlen := r'.length
    exact len_tuple pl (by simp only [List.size_toArray] <;> omega) ⟨.int ys.length, H, I.tok _, ⟨s.toks + 1, by rw [List.size_toArray, hlen]⟩, q⟩
theorem call_len_str : CallR X (.builtin "len") (fun xs H Q => ∃ z, xs = [.str z] ∧ z.length ≤ sizeLine ∧ Q (.int z.length) H) := by
  intro pins s σ H xs us Q I r h
  obtain ⟨z, rfl, hz, q⟩ := h
  obtain ⟨u, rfl, t, rfl⟩ := vals1 r
  have hn := line63
  exact len_str (by omega) ⟨.int z.length, H, I.tok _, ⟨_, rfl⟩, q⟩
theorem CallR.or {f : Value} {r r' : List V → Hp → VK → Prop} (h : CallR X f r) (h' : CallR X f r') : CallR X f (fun xs H Q => r xs H Q ∨ r' xs H Q) := by
  intro pins s σ H xs us Q I rs q
  rcases q with q | q
  · exact h pins s σ H xs us Q I rs q
  · exact h' pins s σ H xs us Q I rs q
theorem call_list_of : CallR X (.type "list") (fun xs H Q => ∃ p ys, xs = [.ref p] ∧ (SqL X.K H p ys ∨ SqT X.K H p ys) ∧ ∀ l, H l = none → Q (.ref l) (upd H l (.lst ys))) := by
  intro pins s σ H xs us Q I r h
  obtain ⟨p, ys, rfl, hq, q⟩ := h
  obtain ⟨u, rfl, rx⟩ := vals1 r
  cases rx
  have fin : ∀ (its : List Value), Vals ys its → ys.length ≤ sizeLine → ∀ (h' : Heap) (c' : Nat), (∀ b o', s.heap.get? b = some o' → h'.get? b = some o') →
      h'.get? s.heap.objs.size = some { cls := .type "list", dict := none, data := .seq its.toArray c', slots := #[] } → EP X pins σ Q (.ref s.heap.objs.size) { s with heap := h' } := fun its r' hz h' c' kp e =>
    ⟨.ref s.heap.objs.size, _, I.laid (t' := s.toks) kp (Nat.le_refl _) (show ObjOk X.prog X.w _ h' _ (.lst ys) from ⟨hz, its, c', r', e⟩), rfl, q _ (I.hok.fresh (Nat.le_refl _))⟩
  rcases hq with hq | hq
  · obtain ⟨its, r', pl, hz⟩ := I.list hq
    have hlen := r'.length
    obtain ⟨o, ho, hc, n, hd⟩ := pl.isList
    exact call_list_seq p (.inl rfl) ho hc hd (fun h' c' kp e => fin its r' hz h' c' kp e) (by simp only [List.size_toArray] <;> omega)
  · obtain ⟨its, r', pl, hz⟩ := I.tuple hq
    have hlen := r'.length
    obtain ⟨o, ho, hc, n, hd⟩ := pl
    exact call_list_seq p (.inr rfl) ho hc hd (fun h' c' kp e => fin its r' hz h' c' kp e) (by simp only [List.size_toArray] <;> omega)
theorem call_tuple_of : CallR X (.type "tuple") (fun xs H Q => ∃ p ys, xs = [.ref p] ∧ ((SqL X.K H p ys ∧ ∀ l, H l = none → Q (.ref l) (upd H l (.tup ys))) ∨ (SqT X.K H p ys ∧ Q (.ref p) H))) := by
  intro pins s σ H xs us Q I r h
  obtain ⟨p, ys, rfl, h⟩ := h
  obtain ⟨u, rfl, rx⟩ := vals1 r
  cases rx
  rcases h with ⟨hq, q⟩ | ⟨hq, q⟩
  · obtain ⟨its, r', pl, hz⟩ := I.list hq
    have hlen := r'.length
    refine call_tuple_list pl.isList (fun h' kp => ?_) (by simp only [List.size_toArray] <;> omega)
    have I1 : Inv X pins σ H { s with heap := h' } := I.kept (t' := s.toks) kp
    have I2 : Inv X pins σ (upd H h'.objs.size (.tup ys)) { s with heap := h'.push { cls := .type "tuple", data := .seq its.toArray } } :=
      I1.laid (t' := s.toks) (fun b o e => Heap.get?_push_of_some _ e) (Nat.le_refl _) (show ObjOk X.prog X.w _ _ _ (.tup ys) from ⟨hz, its, r', IsTup.new _ _⟩)
    exact ⟨.ref h'.objs.size, _, I2, rfl, q _ (I1.hok.fresh (Nat.le_refl _))⟩
  · obtain ⟨its, r', pl, hz⟩ := I.tuple hq
    exact call_tuple_same pl ⟨.ref p, H, I, rfl, q⟩

/-! ### the call of a builtin's method: o.m(..) -/
/-- the value is of that builtin type -/
def tyV (K : PySem.W.Frag) (T : String) (x : V) (H : Hp) : Prop := match x with
  | .str _ => T = "str"
  | .int _ => T = "int"
  | .ref p => (T = "list" ∧ ∃ xs, SqL K H p xs) ∨ (T = "tuple" ∧ ∃ o, K.lookup p = some o ∧ o.cls = .type "tuple" ∧ o.dict = none) ∨
      (T = "dict" ∧ ((∃ kvs, H p = some (.dK kvs)) ∨ ∃ kvs, H p = some (.dT kvs))) ∨ (T = "set" ∧ ∃ S n, H p = some (.set S n))
  | _ => False
theorem tyV_is {pins : List (Addr × Obj)} {σ : St} {H : Hp} {s : Shared} {T : String} {x : V} {v : Value} (I : Inv X pins σ H s) (r : RelV x v) (ty : tyV X.K T x H) :
    s.TypeIs v T ∧ ∀ a, v = .ref a → ∃ ob, s.heap.get? a = some ob ∧ ob.dict = none := by
  cases x with
  | str z =>
    obtain ⟨t, rfl⟩ := r
    cases (show T = "str" from ty)
    exact ⟨typeIs_str s z t, fun _ e => nomatch e⟩
  | int i =>
    obtain ⟨t, rfl⟩ := r
    cases (show T = "int" from ty)
    exact ⟨typeIs_int s i t, fun _ e => nomatch e⟩
  | ref p =>
    cases r
    rcases ty with ⟨rfl, xs, hq⟩ | ⟨rfl, o, hk, hc, hd⟩ | ⟨rfl, hk⟩ | ⟨rfl, S, n, hk⟩
    · obtain ⟨its, _, pl, _⟩ := I.list hq
      refine ⟨pl.isList.typeIs, fun a e => ?_⟩
      cases e
      obtain ⟨o, n, e, c, hd, _⟩ := pl
      exact ⟨o, e, hd⟩
    · refine ⟨⟨o, I.kIn p o hk, hc⟩, fun a e => ?_⟩
      cases e
      exact ⟨o, I.kIn _ o hk, hd⟩
    · have z : ∃ o, s.heap.get? p = some o ∧ o.ExactDict := by
        rcases hk with ⟨kvs, hk⟩ | ⟨kvs, hk⟩
        · obtain ⟨_, _, _, _, o, _, _, e, ex, _⟩ := I.hok p _ hk
          exact ⟨o, e, ex⟩
        · obtain ⟨_, _, _, _, o, _, _, e, ex, _⟩ := I.hok p _ hk
          exact ⟨o, e, ex⟩
      obtain ⟨o, e, ex⟩ := z
      refine ⟨⟨o, e, ex.1⟩, fun a e2 => ?_⟩
      cases e2
      exact ⟨o, e, ex.2.1⟩
    · obtain ⟨o, _, _, _, e, ex, _⟩ := I.hok p _ hk
      refine ⟨⟨o, e, ex.1⟩, fun a e2 => ?_⟩
      cases e2
      exact ⟨o, e, ex.2.1⟩
  | _ => exact False.elim ty
def tBM0 (K : PySem.W.Frag) (T : String) (r : V → List V → Hp → VK → Prop) (to : TE) : TE := fun σ H Q => to σ H fun x H1 => tyV K T x H1 ∧ r x [] H1 Q
def tBM (K : PySem.W.Frag) (T : String) (r : V → List V → Hp → VK → Prop) (to : TE) (t : TA) : TE := fun σ H Q => to σ H fun x H1 => tyV K T x H1 ∧ t σ H1 fun xs H2 => r x xs H2 Q
variable {o e : Expr} {es : List Expr} {to : TE} {t : TA} {name : Str} {apos cpos : Pos} {T id : String} {r : V → List V → Hp → VK → Prop}
theorem pe_bm0 (pa : PlainAttrs T) (slot : Slot T name id) (hty : typeOf (.builtin id) = pure (.type "method_descriptor")) (hm : MtR X id r) (ho : PE X o to)
    (hbase : attributeBase o name X.env (eval o X.env) = eval o X.env := by rfl) (hline : (apos.endLine == cpos.line) = true := by rfl) : PE X (.Call (.Attribute o name apos) [] [] cpos) (tBM0 X.K T r to) := by
  intro pins s σ H Q I h
  refine wpAny_Call_method0_late hbase hline (thn (ho pins s σ H _ I h) fun v s1 ⟨x, H1, I1, r1, ty, q1⟩ => ?_)
  obtain ⟨h1, h2⟩ := tyV_is I1 r1 ty
  exact ⟨T, id, pa, slot, hty, h1, h2, Calls.callWith_builtin rfl (PySem.evalArgs_none (hm pins s1 σ H1 x [] v [] Q I1 r1 .nil q1))⟩
theorem pe_bm (pa : PlainAttrs T) (slot : Slot T name id) (hty : typeOf (.builtin id) = pure (.type "method_descriptor")) (hm : MtR X id r) (ho : PE X o to) (ha : PA X (e :: es) t)
    (hbase : attributeBase o name X.env (eval o X.env) = eval o X.env := by rfl)
    (hfew : ((backTo cpos (starEach (e :: es) X.env)).all (fun x => !x.1) && (backToKw cpos (keywordEach [] X.env)).all (fun x => x.1.isSome)
      && decide ((e :: es).length + ([] : List Keyword).length + (if ([] : List Keyword).isEmpty then 0 else 1) < 30)) = true := by rfl)
    (hline : (apos.endLine == cpos.line) = true := by rfl) (hs : starEach (e :: es) X.env = (false, eval e X.env) :: starEach es X.env := by rfl) (hplain : (backTo cpos (starEach es X.env)).any (·.1) = false := by rfl) :
    PE X (.Call (.Attribute o name apos) (e :: es) [] cpos) (tBM X.K T r to t) := by
  intro pins s σ H Q I h
  refine wpAny_Call_method_late hbase hfew hline rfl (thn (ho pins s σ H _ I h) fun v s1 ⟨x, H1, I1, r1, ty, q1⟩ => ?_)
  obtain ⟨h1, h2⟩ := tyV_is I1 r1 ty
  refine ⟨T, id, pa, slot, hty, h1, h2, ?_⟩
  have hA := ha cpos pins s1 σ H1 _ I1 q1
  rw [hs] at hA ⊢
  refine Calls.callWith_builtin (by show (false || (backTo cpos (starEach es X.env)).any (·.1)) = false; rw [hplain] <;> rfl) (Calls.evalArgs_plain ?_)
  exact thn hA fun us s2 ⟨vs, H2, I2, r2, q2⟩ => hm pins s2 σ H2 x vs v us Q I2 r1 r2 q2
/- xs.append(e), list.index on a module's tuple .. are MtR facts of 06m -/
end
end L2

namespace L2
open PySem PySem.Spec PyProof.Rows

def MtM (X : Cx) (id : String) (r : V → List V → Hp → VK → Prop) : Prop :=
  ∀ (pins : List (Addr × Obj)) (s : Shared) (σ : St) (H : Hp) (x : V) (xs : List V) (v : Value) (us : List Value) (Q : VK), Inv X pins σ H s → RelV x v → Vals xs us → r x xs H Q →
    wpAny (model X.prog X.w) X.A (call (.builtin id) (v :: us)) (EP X pins σ Q) X.xe s

/-! ### lists of values -/
theorem Vals.one : ∀ {x : V} {us : List Value}, Vals [x] us → ∃ u, us = [u] ∧ RelV x u
  | _, _, .cons r .nil => ⟨_, rfl, r⟩
theorem Vals.two : ∀ {x y : V} {us : List Value}, Vals [x, y] us → ∃ u v, us = [u, v] ∧ RelV x u ∧ RelV y v
  | _, _, _, .cons r (.cons q .nil) => ⟨_, _, rfl, r, q⟩
theorem Vals.zero : ∀ {us : List Value}, Vals [] us → us = []
  | _, .nil => rfl
theorem Vals.dropLast {xs : List V} {us : List Value} (h : Vals xs us) : Vals xs.dropLast us.dropLast := by
  induction h with
  | nil => exact .nil
  | cons r t ih =>
    cases t with
    | nil => exact .nil
    | cons q t' => exact .cons r ih
theorem Vals.eraseIdx : ∀ {xs : List V} {us : List Value} (i : Nat), Vals xs us → Vals (xs.eraseIdx i) (us.eraseIdx i)
  | _, _, _, .nil => .nil
  | _, _, 0, .cons _ t => t
  | _, _, i + 1, .cons r t => .cons r (Vals.eraseIdx i t)
theorem Vals.rep {xs : List V} {us : List Value} (h : Vals xs us) : ∀ k : Nat, Vals (List.replicate k xs).flatten (List.replicate k us).flatten
  | 0 => .nil
  | k + 1 => by
    rw [List.replicate_succ, List.replicate_succ, List.flatten_cons, List.flatten_cons]
    exact Vals.append h (Vals.rep h k)
theorem erase_last {α : Type} (l : List α) : l.eraseIdx (l.length - 1) = l.dropLast := by
  induction l with
  | nil => rfl
  | cons a r ih =>
    cases r with
    | nil => rfl
    | cons b r =>
      have e : (a :: b :: r).length - 1 = ((b :: r).length - 1) + 1 := by
        have h1 : (a :: b :: r).length = r.length + 2 := rfl
        have h2 : (b :: r).length = r.length + 1 := rfl
        omega
      rw [e, List.eraseIdx_cons_succ, ih]
      all_goals rfl
theorem foldl_rep (its : List Value) : ∀ (k : Nat) (acc : List Value),
    List.foldl (fun x1 x2 => x1 ++ x2) acc.toArray (List.replicate k its.toArray) = (acc ++ (List.replicate k its).flatten).toArray
  | 0, acc => by simp
  | k + 1, acc => by
    have e : acc.toArray ++ its.toArray = (acc ++ its).toArray := by simp
    have e2 : (acc ++ its) ++ (List.replicate k its).flatten = acc ++ (List.replicate (k + 1) its).flatten := by
      rw [List.replicate_succ, List.flatten_cons, List.append_assoc]
    rw [← e2, ← foldl_rep its k (acc ++ its), ← e, List.replicate_succ, List.foldl_cons]

section
variable {X : Cx} {pins : List (Addr × Obj)} {σ : St} {H : Hp} {s : Shared} {l b : Addr} {xs ys zs : List V}

/-! ### the two steps: a tracked list is rewritten, a new list is laid -/
theorem Inv.lset {its its' : List Value} {n : Nat} {f : Array Value → Array Value} {t' : Nat} (I : Inv X pins σ H s) (hH : H l = some (.lst xs))
    (e : s.heap.get? l = some { cls := .type "list", data := .seq its.toArray n }) (hf : f its.toArray = its'.toArray) (hv : Vals ys its') (hz : ys.length ≤ sizeLine) :
    Inv X pins σ (upd H l (.lst ys)) { s with heap := s.heap.update l (Obj.mapSeq f), toks := t' } := by
  have q := PySem.IsL.update e f
  rw [hf] at q
  refine I.write (x := l) (e := l) (by rw [hH]; exact trivial) (.inl rfl) (fun b' u hb hu => (Heap.get?_update_other s.heap (Obj.mapSeq f) (Ne.symm hb)).trans hu) ⟨_, q⟩ ?_
  exact ⟨hz, its', _, hv, q⟩
theorem Inv.lnew {its : List Value} {t' : Nat} (I : Inv X pins σ H s) (hv : Vals ys its) (hz : ys.length ≤ sizeLine) :
    Inv X pins σ (upd H s.heap.objs.size (.lst ys)) { s with heap := s.heap.push { cls := .type "list", data := .seq its.toArray }, toks := t' } :=
  I.laid (fun _ _ q => Heap.get?_push_of_some _ q) (Nat.le_refl _) ⟨hz, its, 0, hv, Heap.get?_push_size _ rfl⟩
theorem Inv.fresh (I : Inv X pins σ H s) : H s.heap.objs.size = none := I.hok.fresh (Nat.le_refl _)
theorem Inv.lstM (I : Inv X pins σ H s) (hH : H l = some (.lst xs)) : xs.length ≤ sizeLine ∧ ∃ (its : List Value) (n : Nat), Vals xs its ∧ xs.length = its.length ∧ s.heap.get? l = some { cls := .type "list", data := .seq its.toArray n } := by
  obtain ⟨z, its, n, r, e⟩ := I.hok l _ hH
  exact ⟨z, its, n, r, r.length, e⟩

theorem notLongL {n : Nat} (h : n ≤ sizeLine) : Builtin.List.listTooLong n = false := by
  unfold Builtin.List.listTooLong
  exact decide_eq_false (by omega)
end

section
variable {X : Cx}

/-! ### methods -/
def rAppend : V → List V → Hp → VK → Prop := fun x vs H Q => ∃ l xs y, x = .ref l ∧ vs = [y] ∧ H l = some (.lst xs) ∧ xs.length < sizeLine ∧ Q .non (upd H l (.lst (xs ++ [y])))
theorem mt_append : MtM X "list.append" rAppend := by
  intro pins s σ H x vs v us Q I rx rv h
  obtain ⟨l, xs, y, rfl, rfl, hH, hz, q⟩ := h
  cases rx
  obtain ⟨u, rfl, ru⟩ := rv.one
  obtain ⟨z, its, n, r, hl, e⟩ := I.lstM hH
  refine call_meets F.slot_list_append ⟨_, e, rfl⟩ F.entry_list_append (F.args_list_append_2 _ _) (PySem.list_append l its.toArray n u (by rw [List.size_toArray]; omega)) ⟨e, ?_⟩
  refine ⟨.non, _, I.lset (its' := its ++ [u]) hH e (by simp) (r.append (.cons ru .nil)) ?_, rfl, q⟩
  rw [List.length_append, List.length_singleton]
  omega

def rExtend : V → List V → Hp → VK → Prop := fun x vs H Q => ∃ l b xs zs, x = .ref l ∧ vs = [.ref b] ∧ H l = some (.lst xs) ∧ H b = some (.lst zs) ∧ xs.length + zs.length ≤ sizeLine ∧ Q .non (upd H l (.lst (xs ++ zs)))
theorem mt_extend : MtM X "list.extend" rExtend := by
  intro pins s σ H x vs v us Q I rx rv h
  obtain ⟨l, b, xs, zs, rfl, rfl, hH, hB, hz, q⟩ := h
  cases rx
  obtain ⟨u, rfl, ru⟩ := rv.one
  cases ru
  obtain ⟨z, its, n, r, hl, e⟩ := I.lstM hH
  obtain ⟨z2, its2, n2, r2, hl2, e2⟩ := I.lstM hB
  have hsz : its.toArray.size + its2.toArray.size ≤ sizeLine := by rw [List.size_toArray, List.size_toArray]; omega
  have hlong : ¬ (!its.toArray.isEmpty && Builtin.List.listTooLong (its.toArray.size + its2.toArray.size)) = true := by
    rw [notLongL hsz, Bool.and_false]
    exact Bool.false_ne_true
  refine call_meets F.slot_list_extend ⟨_, e, rfl⟩ F.entry_list_extend (F.args_list_extend_2 _ _)
    (AutoSeq1.list_extend_list_list_0 l its.toArray n b its2.toArray n2 hlong (by rw [List.size_toArray]; omega) (by omega)) ⟨e, e2, ?_⟩
  refine ⟨.non, _, I.lset (its' := its ++ its2) hH e (by simp) (r.append r2) ?_, rfl, q⟩
  rw [List.length_append]
  omega

def rPop : V → List V → Hp → VK → Prop := fun x vs H Q => ∃ l xs y, x = .ref l ∧ vs = [] ∧ H l = some (.lst xs) ∧ xs[xs.length - 1]? = some y ∧ Q y (upd H l (.lst xs.dropLast))
theorem mt_pop : MtM X "list.pop" rPop := by
  intro pins s σ H x vs v us Q I rx rv h
  obtain ⟨l, xs, y, rfl, rfl, hH, hy, q⟩ := h
  cases rx
  have hus := rv.zero
  subst hus
  obtain ⟨z, its, n, r, hl, e⟩ := I.lstM hH
  obtain ⟨u, hu, ru⟩ := r.get hy
  have hy' : its.toArray[its.toArray.size - 1]? = some u := by
    show its.toArray[its.length - 1]? = some u
    rw [← Array.getElem?_toList, ← hl]
    exact hu
  refine call_meets F.slot_list_pop ⟨_, e, rfl⟩ F.entry_list_pop (F.args_list_pop_1 _) (MeetsSeq.list_pop_last l its.toArray n u hy' (by rw [List.size_toArray]; omega)) ⟨e, ?_⟩
  refine ⟨y, _, I.lset (its' := its.dropLast) hH e ?_ r.dropLast ?_, ru, q⟩
  · show its.toArray.eraseIdxIfInBounds (its.toArray.size - 1) = its.dropLast.toArray
    rw [List.size_toArray, List.eraseIdxIfInBounds_toArray, erase_last]
  · rw [List.length_dropLast]
    omega

def rClear : V → List V → Hp → VK → Prop := fun x vs H Q => ∃ l xs, x = .ref l ∧ vs = [] ∧ H l = some (.lst xs) ∧ Q .non (upd H l (.lst []))
theorem mt_clear : MtM X "list.clear" rClear := by
  intro pins s σ H x vs v us Q I rx rv h
  obtain ⟨l, xs, rfl, rfl, hH, q⟩ := h
  cases rx
  have hus := rv.zero
  subst hus
  obtain ⟨z, its, n, r, hl, e⟩ := I.lstM hH
  refine call_meets F.slot_list_clear ⟨_, e, rfl⟩ F.entry_list_clear (F.args_list_clear_1 _) (AutoSeq1.list_clear_list_0 l its.toArray n (by rw [List.size_toArray]; omega)) ⟨e, ?_⟩
  exact ⟨.non, _, I.lset (its' := []) (ys := []) hH e rfl .nil (Nat.zero_le _), rfl, q⟩

/-! ### list + list, list += list, list * int -/
def rCat : R2 := fun x y H Q => ∃ l b xs zs, x = .ref l ∧ y = .ref b ∧ H l = some (.lst xs) ∧ H b = some (.lst zs) ∧ xs.length + zs.length ≤ sizeLine ∧ ∀ p, H p = none → Q (.ref p) (upd H p (.lst (xs ++ zs)))
theorem op_cat : OpR X (binaryOp .Add) rCat := by
  intro pins s σ H x y v u Q I rx ry h
  obtain ⟨l, b, xs, zs, rfl, rfl, hH, hB, hz, q⟩ := h
  cases rx
  cases ry
  obtain ⟨z, its, n, r, hl, e⟩ := I.lstM hH
  obtain ⟨z2, its2, n2, r2, hl2, e2⟩ := I.lstM hB
  refine PySem.P.add_list e e2 ?_ (by rw [List.size_toArray, List.size_toArray]; omega)
  have ea : its.toArray ++ its2.toArray = (its ++ its2).toArray := by simp
  rw [ea]
  exact ⟨.ref _, _, I.lnew (t' := s.toks) (r.append r2) (by rw [List.length_append]; omega), rfl, q _ I.fresh⟩
/-- a list times an int (a negative one is nothing) -/
def rRep : R2 := fun x y H Q => ∃ l k xs, x = .ref l ∧ y = .int k ∧ H l = some (.lst xs) ∧ -(2 ^ 63) ≤ k ∧ k < 2 ^ 63 ∧ xs.length * k.toNat ≤ sizeLine ∧
  ∀ p, H p = none → Q (.ref p) (upd H p (.lst (List.replicate k.toNat xs).flatten))
theorem len_rep {α : Type} (xs : List α) (k : Nat) : (List.replicate k xs).flatten.length = k * xs.length := by
  induction k with
  | zero => simp
  | succ k ih => rw [List.replicate_succ, List.flatten_cons, List.length_append, ih, Nat.succ_mul, Nat.add_comm]
theorem op_rep : OpR X (binaryOp .Mult) rRep := by
  intro pins s σ H x y v u Q I rx ry h
  obtain ⟨l, k, xs, rfl, rfl, hH, h1, h2, hz, q⟩ := h
  cases rx
  obtain ⟨t, rfl⟩ := ry
  obtain ⟨z, its, n, r, hl, e⟩ := I.lstM hH
  have hlen : its.toArray.size * k.toNat ≤ sizeLine := by rw [List.size_toArray, ← hl]; exact hz
  have hcap : ¬ its.toArray.size * k.toNat > (2 ^ 63 - 1) / 8 := by
    have : (sizeLine : Nat) ≤ (2 ^ 63 - 1) / 8 := by decide
    omega
  have hfit : ¬ (!Builtin.List.listFitsIndex k) = true := by
    rw [fitsIndex_both h1 h2]
    exact Bool.false_ne_true
  have hlong : ¬ Builtin.List.listTooLong (its.toArray.size * k.toNat) = true := by
    rw [notLongL hlen]
    exact Bool.false_ne_true
  have hnew : List.foldl (fun x1 x2 => x1 ++ x2) #[] (List.replicate (if its.toArray.isEmpty = true then 0 else k.toNat) its.toArray) = (List.replicate k.toNat its).flatten.toArray := by
    have f0 : ∀ m : Nat, List.foldl (fun x1 x2 => x1 ++ x2) #[] (List.replicate m its.toArray) = (List.replicate m its).flatten.toArray := fun m => by
      have := foldl_rep its m []
      rw [List.nil_append] at this
      exact this
    rw [f0]
    cases its with
    | nil => simp
    | cons a r' => rw [if_neg (by simp)]
  refine wpAny_binaryOp_repeat_ref (T := "list") (U := "int") (by decide) ⟨_, e, rfl⟩ (fun s' => typeIs_int s' k t) noFill_list_mul F.fills_int_mul F.slot_int_rmul repeat_list F.slot_int_index.lookup
    (call_meets F.slot_int_rmul (typeIs_int s k t) F.entry_int_rmul (F.args_int_rmul_2 _ _) (int___rmul___int_list k t l its.toArray n)
      ⟨e, rfl, ⟨_, e, rfl⟩, call_meets F.slot_list_mul ⟨_, e, rfl⟩ F.entry_list_mul (F.args_list_mul_2 _ _) (AutoListH.list___mul___list_int_3 l its.toArray n k t hfit hcap hlong) ⟨e, ?_⟩⟩)
  rw [hnew]
  exact ⟨.ref _, _, I.lnew (t' := s.toks) (r.rep k.toNat) (by rw [len_rep, Nat.mul_comm]; exact hz), rfl, q _ I.fresh⟩

/-! ### del xs[i] -/
end

/-! ### xs[a:b] = ys -/
section
variable {prog : Program} {w : World} {A : Around} {E : Value → Shared → Prop} {s : Shared}
set_option maxRecDepth 100000 in
end

section
variable {X : Cx}
end
end L2

namespace Att
open PySem PySem.W PySem.Calls PyProof.Rows

/-! ### the script -/
theorem ints_of_wellAll {P : Params} {h : Heap} : ∀ (ns : List Int) (vs : List Value), WellAll P h vs (ns.map WData.int) → IntsAre vs ns := by
  intro ns
  induction ns with
  | nil =>
    intro vs w
    rw [List.map_nil] at w
    cases w
    exact .nil
  | cons n ns ih =>
    intro vs w
    rw [List.map_cons] at w
    cases w with
    | cons a b =>
      cases a
      exact .cons _ _ (ih _ b)

theorem script_of {l : OpenLaw} {n : Nat} (hn : l.most = some n) {P : Params} {h : Heap} {args : List WData} {vals : List Value}
    (hpre : l.row.toRowW.claim.pre args = true) (hwl : WellAll P h vals args) :
    ∃ a vs ns, vals = [Value.ref a] ∧ args = [WData.list (ns.map WData.int)] ∧ h.get? a = some { cls := .type "list", data := .seq vs.toArray } ∧ IntsAre vs ns ∧ ns.length ≤ n := by
  have hsh : WShape.hasAll [] args [.list .int] = true := (pre_splitW hpre).1
  have hc : l.pre.holds [] { args := args } = true := (pre_splitW hpre).2
  obtain ⟨d, r, rfl, h1, h2⟩ := hasAllW_cons hsh
  obtain rfl := hasAllW_nil h2
  obtain ⟨xs, rfl, h3⟩ := hasW_list h1
  obtain ⟨ns, rfl⟩ := items_int h3
  have hlen : ns.length ≤ n := by
    unfold OpenLaw.pre at hc
    have h4 : (WTm.not (.lt (.lit (.int (n : Int))) (.len (.arg 0)))).holds [] { args := [.list (ns.map .int)] } = true := by
      have h4 := (holds_andW hc).1
      rw [hn] at h4
      exact h4
    have h5 := condW_of h4 (w_not (w_lt w_lit (w_len_list (w_arg rfl))))
    rw [List.length_map] at h5
    refine Nat.le_of_not_lt fun q => ?_
    have q' : (n : Int) < ((ns.length : Nat) : Int) := by omega
    first
      | (rw [decide_eq_true q'] at h5; exact absurd h5 (by decide))
      | (simp at h5; omega)
  cases hwl with
  | cons w1 w2 =>
    cases w2
    cases w1 with
    | list ho hall => exact ⟨_, _, ns, rfl, rfl, ho, ints_of_wellAll ns _ hall, hlen⟩

theorem post_true (l : OpenLaw) (args : List WData) : l.row.toRowW.claim.post args (.bool true) args = true :=
  postW_of (r := l.row.toRowW) (X := (true == true))
    (show WShape.has [] (.bool true) .bool = true by first | rfl | decide | simp [WShape.has, WShape.arms, WShape.armsAll])
    (show (WTm.eq .res (.lit (.bool true))).value [] { args := args, res := some (.bool true), after := args } = some (.bool (true == true)) from w_eq_bool (w_res rfl) w_lit) rfl

/-! ### the attachment: holds_open's last premise (the goal 'hc' behind k_head) from a wpAny of the law's body -/
/-- the same from a codeAny of the CALL (for a layer whose function contracts speak of calls) -/
theorem attach_call {l : OpenLaw} {n : Nat} {q : Program} {loose : List Str} {XP : (Str → Option Value) → Heap → Prop} {YP : World → Heap → Prop} {d : DefRec}
    (hn : l.most = some n) (hdf : d.params.defaults = [])
    (call : ∀ (w : World) (s₀ s₁ : Shared) (mg mb : Str → Option Value) (fa : Addr) (o : Obj) (pm cd doc : Value) (a : Addr) (vs : List Value) (ns : List Int),
      Ground q loose [] XP w s₀ mg mb s₁.heap → YP w s₁.heap →
      s₁.heap.get? fa = some o → o.data = .func (docDef d.name d.params d.body d.scope pm cd doc) → s₁.heap.CodeRec cd d.name → mg d.name = some (.ref fa) →
      s₁.heap.get? a = some { cls := .type "list", data := .seq vs.toArray } → IntsAre vs ns → ns.length ≤ n → s₁.gens = #[] →
      codeAny (model l.prog w) callerA (.call (.ref fa) ⟨[.ref a], []⟩) (fun r s' => r = .ok (.ret (.bool true)) ∧ OldK s₁.heap s'.heap ∧ s'.os = s₁.os ∧ AllBare s'.gens) s₁) :
    WalkO q loose XP YP l.row.toRowW d [] (fun f vs => PySem.call f vs) := by
  intro w s₀ s₁ mg mb G Y fa o pm cd doc dV kV ho hd hcd hD hmg hg args vals as hpre hlay hrd hwl hlo
  obtain rfl : dV = .none := Dflts.none hD hdf
  obtain rfl : kV = .none := Dflts.noKw hD
  obtain ⟨a, vs, ns, rfl, rfl, hobj, hints, hlen⟩ := script_of hn hpre hwl
  refine enter_call (codeAny_mono (call w s₀ s₁ mg mb fa o pm cd doc a vs ns G Y ho (fd_plain hd) hcd hmg hobj hints hlen hg) fun r s' hq => ?_)
  obtain ⟨rfl, h2, h3, h4⟩ := hq
  exact ⟨.inl ⟨.bool true, .bool true, [], rfl, fun _ => rfl, .bool true, post_true l _, fun _ => ⟨List.Pairwise.nil, fun _ hm => (nomatch hm)⟩⟩, h2, h3, h4⟩

/-! ### rules over ANY heap (no ledger) from facts about the written part K: the library's own take a ledger (News) for what they write -/
section
variable {prog : Program} {w : World} {A : Around} {E : Value → Shared → Prop} {s : Shared} {K : Frag}

/-! the whole heap as the ledger: makes every rule that writes through a ledger a rule over any heap -/
def ledger (h : Heap) (L d : Addr) : List (Addr × Obj) := (List.range h.objs.size).filterMap fun a => if a = L ∨ a = d then none else (h.get? a).map fun o => (a, o)
end
end Att

namespace L2
open PySem PySem.Spec PyProof.Rows

theorem vals_ints : ∀ {vs : List Value} {ns : List Int}, IntsAre vs ns → Vals (ns.map V.int) vs
  | _, _, .nil => .nil
  | _, _, .cons n t h => .cons ⟨t, rfl⟩ (vals_ints h)

/-- nothing is tracked but the script, known to the object (or it is an object of the module) -/
def Only (H : Hp) : Prop := ∀ b, H b = none ∨ ∃ o xs, H b = some (.frz o (.lst xs))

/-- THE HEAD: the law's promise, at the heap behind the top. F, the promise of the law's def, may use that base is part of the heap (so K.In base, base.Ns mainGlobals mg stand in Mod) -/
theorem law_call {P : Program} {w : World} {K : PySem.W.Frag} {mg mb : Str → Option Value} {CX : CXT} {k : Nat} {fa a : Addr} {fd : FuncData} {x : Str} {sp : Sp} {s₁ : Shared} {vs : List Value} {ns : List Int}
    (KX : K.In s₁.heap) (hns : s₁.heap.Ns mainGlobals mg) (hb : s₁.heap.Ns builtinsNs mb) (hbb : ∀ x : Str, x ≠ "__name__" → mb x = bootBuiltins x) (hlim : s₁.heap.NoLimit) (hg : s₁.gens = #[])
    (ha : s₁.heap.get? a = some { cls := .type "list", data := .seq vs.toArray }) (hi : IntsAre vs ns) (hl : ns.length ≤ sizeLine) (hr : Room k callerA)
    (F : ∀ base : Heap, K.In base → base.Ns mainGlobals mg → FnOk P w K mg base CX k fa fd [x] sp) (hbind : ∀ (s : Shared) (u : Value), BindsTo s fd ⟨[u], []⟩ [(x, u)])
    (hsp : ∀ H : Hp, Only H → SqL K H a (ns.map V.int) → sp [.ref a] H (fun v _ => v = .bl true) fun _ _ _ => False)
    (hCX : ∀ H e s', CX [] H s₁ (fun _ _ _ => False) e s' → False) :
    codeAny (model P w) callerA (.call (.ref fa) ⟨[.ref a], []⟩) (fun r s' => r = .ok (.ret (.bool true)) ∧ OldK s₁.heap s'.heap ∧ s'.os = s₁.os ∧ AllBare s'.gens) s₁ := by
  have rv := vals_ints hi
  have lenV := hi.length
  -- from an abstract heap in which nothing but the script may be tracked
  have core : ∀ H : Hp, Only H → SqL K H a (ns.map V.int) → HOk P w H s₁.heap → (∀ b, H b ≠ none → b = a) → (H a ≠ none → K.lookup a = none) →
      codeAny (model P w) callerA (.call (.ref fa) ⟨[.ref a], []⟩) (fun r s' => r = .ok (.ret (.bool true)) ∧ OldK s₁.heap s'.heap ∧ s'.os = s₁.os ∧ AllBare s'.gens) s₁ := by
    intro H hO hS hok hA hK
    have base_of : ∀ {b : Addr} {o : Obj}, s₁.heap.get? b = some o → H b = none → (hidT s₁.heap H).get? b = some o := fun e n => hidT_get e n
    have noA : ∀ {b : Addr} {o : Obj} {es : Array DictEntry} {ep : Nat}, s₁.heap.get? b = some o → o.data = .dict es ep → H b = none := fun {b o es ep} e d => by
      cases q : H b with
      | none => rfl
      | some u =>
        have e' : b = a := hA b (by rw [q]; simp)
        subst e'
        rw [ha] at e; cases e
        have d' : Data.seq vs.toArray _ = Data.dict es ep := d
        cases d'
    have nsK : ∀ {b : Addr} {m : Str → Option Value}, s₁.heap.Ns b m → (hidT s₁.heap H).Ns b m := fun {b m} ⟨o, es, ep, e, d, r⟩ => ⟨o, es, ep, base_of e (noA e d), d, r⟩
    have hKb : K.In (hidT s₁.heap H) := fun b o e => base_of (KX b o e) (by
      cases q : H b with
      | none => rfl
      | some u =>
        have e' : b = a := hA b (by rw [q]; simp)
        subst e'
        rw [hK (by rw [q]; simp)] at e; cases e)
    have hM : Mod K mg (hidT s₁.heap H) := ⟨hKb, nsK hns, ⟨mb, nsK hb, hbb⟩, let ⟨mc, h1, h2⟩ := hlim; ⟨mc, nsK h1, h2⟩⟩
    have e0 : Env0 P w K mg (hidT s₁.heap H) callerA [] s₁ H := ⟨rfl, hM, fun b o e => of_hidT e, Nat.le_of_eq (hidT_size _ _), trivial, fun b hb => absurd (show b ∈ ([] : List Addr) from hb) (by simp), hok, .of_eq hg⟩
    refine codeAny_mono ((F _ hKb (nsK hns)).run callerA [] s₁ H ⟨[.ref a], []⟩ [.ref a] [.ref a] _ _ hr e0 (hbind s₁ (.ref a)) (.cons rfl .nil) (hsp H hO hS)) fun r s' h => ?_
    cases r with
    | error e => exact (hCX H e s' h).elim
    | ok fl =>
      cases fl with
      | next => exact False.elim h
      | brk => exact False.elim h
      | cont => exact False.elim h
      | ret u =>
        obtain ⟨v, H', os, bare, un, hok', r', q⟩ := h
        have q' : v = .bl true := q
        subst q'
        obtain rfl : u = Value.bool true := r'
        refine ⟨rfl, OldK.of_keep fun b o e => ?_, os, bare⟩
        cases q : H b with
        | none => exact un.keep b o e q (by intro z; exact absurd (show b ∈ ([] : List Addr) from z) (by simp)) (by simp)
        | some u =>
          rcases hO b with z | ⟨ob, xs, z⟩
          · rw [q] at z; cases z
          · have z2 := un.frzs b ob _ z
            obtain ⟨e1, _⟩ := hok b _ z
            obtain ⟨e2, _⟩ := hok' b _ z2
            rw [e] at e1; cases e1
            exact e2
  cases hk : K.lookup a with
  | some o =>
    -- the script is one of the module's own objects
    have e := KX a o hk
    rw [ha] at e
    cases e
    refine core (fun _ => none) (fun _ => .inl rfl) (.inr ⟨_, vs.toArray, _, hk, rfl, rfl, rfl, by rw [List.size_toArray, lenV]; exact hl, by simpa using rv⟩) (fun b u z => by have z' : (none : Option HO) = some u := z; cases z') (fun b z => absurd rfl z) fun z => absurd rfl z
  | none =>
    refine core (fun b => if b = a then some (.frz { cls := .type "list", data := .seq vs.toArray } (.lst (ns.map V.int))) else none) (fun b => ?_) (.inl (.inr ⟨{ cls := .type "list", data := .seq vs.toArray }, if_pos rfl⟩)) (fun b u z => ?_) (fun b z => ?_) fun _ => hk
    · by_cases hb : b = a
      · exact .inr ⟨_, _, if_pos hb⟩
      · exact .inl (if_neg hb)
    · by_cases hb : b = a
      · have z' := (if_pos hb).symm.trans z
        cases z'
        subst hb
        exact ⟨ha, by rw [List.length_map]; exact hl, vs, _, rv, ha⟩
      · have z' := (if_neg hb).symm.trans z
        cases z'
    · by_cases hb : b = a
      · exact hb
      · exact absurd (if_neg hb) z
end L2

namespace L2
open PySem PySem.Spec PyProof.Rows

abbrev KOf {K : PySem.W.Frag} {h : Heap} (_ : K.In h) : PySem.W.Frag := K

/-- the goal that k_head leaves (case hc), from the law's promise. F gives the function object fd (K's own) once, then the promise over every base -/
theorem walk_of {l : PySem.W.OpenLaw} {n k : Nat} {q : Program} {loose : List Str} {XP : (Str → Option Value) → Heap → Prop} {YP : World → Heap → Prop} {d : DefRec} {K : Params → PySem.W.Frag} {CX : World → CXT} {sp : World → Sp} {x : Str}
    (hn : l.most = some n) (hn2 : n ≤ sizeLine) (hdf : d.params.defaults = []) (hr : Room k callerA)
    (hY : ∀ (w : World) (h : Heap), YP w h → (K w.params).In h)
    (F : ∀ (w : World) (mg : Str → Option Value) (fa : Addr) (h : Heap), (K w.params).In h → h.Ns mainGlobals mg → mg d.name = some (.ref fa) →
      ∃ fd : FuncData, (∀ (s : Shared) (u : Value), BindsTo s fd ⟨[u], []⟩ [(x, u)]) ∧
        ∀ base : Heap, (K w.params).In base → base.Ns mainGlobals mg → FnOk l.prog w (K w.params) mg base (CX w) k fa fd [x] (sp w))
    (hsp : ∀ (w : World) (H : Hp) (a : Addr) (ns : List Int), ns.length ≤ n → Only H → SqL (K w.params) H a (ns.map V.int) → sp w [.ref a] H (fun v _ => v = .bl true) fun _ _ _ => False)
    (hCX : ∀ (w : World) (H : Hp) (s : Shared) (e : Value) (s' : Shared), CX w [] H s (fun _ _ _ => False) e s' → False) :
    PySem.W.WalkO q loose XP YP l.row.toRowW d [] (fun f vs => PySem.call f vs) := by
  refine Att.attach_call hn hdf fun w s₀ s₁ mg mb fa o pm cd doc a vs ns G Y ho hd hcd hmg hobj hints hlen hg => ?_
  have KX := hY w _ Y
  obtain ⟨fd, hb, hF⟩ := F w mg fa _ KX G.T.g hmg
  exact law_call KX G.T.g G.T.b G.T.builtins G.T.nolimit hg hobj hints (Nat.le_trans hlen hn2) hr hF hb (fun H hO hS => hsp w H a ns hlen hO hS) fun H e s' => hCX w H s₁ e s'
/-- the same where the promise hangs on the written part alone: (sp := My.sp_law), no hole under a binder -/
theorem walk_ofK {l : PySem.W.OpenLaw} {n k : Nat} {q : Program} {loose : List Str} {XP : (Str → Option Value) → Heap → Prop} {YP : World → Heap → Prop} {d : DefRec} {K : Params → PySem.W.Frag} {CX : CXT} {sp : PySem.W.Frag → Sp} {x : Str}
    (hn : l.most = some n) (hn2 : n ≤ sizeLine) (hdf : d.params.defaults = []) (hr : Room k callerA)
    (hY : ∀ (w : World) (h : Heap), YP w h → (K w.params).In h)
    (F : ∀ (w : World) (mg : Str → Option Value) (fa : Addr) (h : Heap), (K w.params).In h → h.Ns mainGlobals mg → mg d.name = some (.ref fa) →
      ∃ fd : FuncData, (∀ (s : Shared) (u : Value), BindsTo s fd ⟨[u], []⟩ [(x, u)]) ∧
        ∀ base : Heap, (K w.params).In base → base.Ns mainGlobals mg → FnOk l.prog w (K w.params) mg base CX k fa fd [x] (sp (K w.params)))
    (hsp : ∀ (K : PySem.W.Frag) (H : Hp) (a : Addr) (ns : List Int), ns.length ≤ n → Only H → SqL K H a (ns.map V.int) → sp K [.ref a] H (fun v _ => v = .bl true) fun _ _ _ => False)
    (hCX : ∀ (H : Hp) (s : Shared) (e : Value) (s' : Shared), CX [] H s (fun _ _ _ => False) e s' → False) :
    PySem.W.WalkO q loose XP YP l.row.toRowW d [] (fun f vs => PySem.call f vs) :=
  walk_of (K := K) (CX := fun _ => CX) (sp := fun w => sp (K w.params)) hn hn2 hdf hr hY F (fun w H a ns h1 h2 h3 => hsp (K w.params) H a ns h1 h2 h3) fun _ H s e s' => hCX H s e s'
end L2



/-! SHORT WORDS over the layer: a def of the text, its body, what a loop and a test want. -/
namespace L2
open PySem PySem.Spec PyProof.Rows

/-! ### the text by places -/
/-- the j-th statement of a class's body -/
def inClass (s : Stmt) (j : Nat) : Stmt := match s with
  | .ClassDef _ _ _ body _ _ _ _ _ _ _ => body.getD j (.Pass ⟨0, 0, 0, 0⟩)
  | _ => .Pass ⟨0, 0, 0, 0⟩
def defArgs (s : Stmt) : Arguments := match s with
  | .FunctionDef _ a _ _ _ _ _ _ _ _ => a
  | _ => { posonlyargs := [], args := [], vararg := none, kwonlyargs := [], kw_defaults := [], kwarg := none, defaults := [] }
def defBody (s : Stmt) : List Stmt := match s with
  | .FunctionDef _ _ b _ _ _ _ _ _ _ => b
  | _ => []
def defScope (s : Stmt) : Scope := match s with
  | .FunctionDef _ _ _ _ _ _ sc _ _ _ => sc
  | _ => { kind := .function, names := [], isGenerator := false, isCoroutine := false }

/-! ### no exception leaves a def -/
abbrev CX0 : CXT := fun _ _ _ _ _ _ => False
abbrev E0 : XK := fun _ _ _ => False
theorem pass0 {X : Cx} : Passes CX0 X E0 := fun _ _ _ _ _ _ _ h => h.elim

/-! ### a def (or method) of the text as it stands behind the top -/
structure Fun (K : PySem.W.Frag) (x qual : Str) (st : Stmt) (f : Addr) (fd : FuncData) : Prop where
  ex : ∃ (oc : Value) (od : Option Addr) (kV doc pm : Value) (an : Option Addr) (cdv ct : Value) (osl : Array (Option Value)),
    fd = PySem.W.fnOf x qual (defArgs st) (defBody st) (defScope st) .none kV doc pm an cdv ct ∧ K.lookup f = some ⟨oc, od, .func fd, osl⟩ ∧ PySem.W.codeIn K cdv qual = true
  kp : PySem.W.keepIn K (.ref f) = true
section
variable {P : Program} {w : World} {K : PySem.W.Frag} {mg : Str → Option Value} {base : Heap}
/-- THE RULE for a def: its body as a term of rules, and the reading of that term -/
theorem Fun.ok {x qual : Str} {st : Stmt} {f : Addr} {fd : FuncData} {N ps : List Str} {k : Nat} {sp : Sp} (F : Fun K x qual st f fd) (S : FnScope N ps (defScope st)) (len : ∀ vs H Q E, sp vs H Q E → vs.length = ps.length)
    (hbody : ∀ (cdv : Value) (A : Around) (outer : List Env) (s : Shared) (H : Hp) (vs : List V) (Q : VK) (E : XK), Room k (A.deeper (envOfC qual (defScope st) s.heap.objs.size f cdv)) → sp vs H Q E →
      ∃ t, PSs (cxOf CX0 P w K mg base N qual (defScope st) f cdv A outer s H E).nox (defBody st) t ∧ t { nx := fun _ H' => Q .non H', rt := Q } (start N vs) H) : FnOk P w K mg base CX0 (k + 1) f fd ps sp := by
  obtain ⟨oc, od, kV, doc, pm, an, cdv, ct, osl, rfl, lk, hcd⟩ := F.ex
  refine fn_of lk hcd S len fun A outer s H vs Q E hr hsp => ?_
  obtain ⟨t, h, q⟩ := hbody cdv A outer s H vs Q E hr hsp
  exact ⟨t, h.nox, q⟩
/-- how its arguments bind (no defaults): h is «fun _ _ _ _ _ _ us hl => match us, hl with | [_, _], _ => rfl», one _ a parameter -/
theorem Fun.binds {x qual : Str} {st : Stmt} {f : Addr} {fd : FuncData} {ps : List Str} (F : Fun K x qual st f fd)
    (h : ∀ (kV doc pm : Value) (an : Option Addr) (cdv ct : Value) (us : List Value), us.length = ps.length → bindArgs (PySem.W.fnOf x qual (defArgs st) (defBody st) (defScope st) .none kV doc pm an cdv ct) ⟨us, []⟩ = pure (ps.zip us)) : Binds K fd ps [] := by
  obtain ⟨oc, od, kV, doc, pm, an, cdv, ct, osl, rfl, lk, hcd⟩ := F.ex
  exact .all (h kV doc pm an cdv ct)
theorem fun_mk {x qual : Str} {st : Stmt} {f : Addr} {oc : Value} {od an : Option Addr} {osl : Array (Option Value)} {kV doc pm cdv ct : Value} (l : K.lookup f = some ⟨oc, od, .func (PySem.W.fnOf x qual (defArgs st) (defBody st) (defScope st) .none kV doc pm an cdv ct), osl⟩)
    (c : PySem.W.codeIn K cdv qual = true) (k : PySem.W.keepIn K (.ref f) = true) : Fun K x qual st f (PySem.W.fnOf x qual (defArgs st) (defBody st) (defScope st) .none kV doc pm an cdv ct) := ⟨⟨oc, od, kV, doc, pm, an, cdv, ct, osl, rfl, l, c⟩, k⟩
end
/-! ### expressions in short: the name that stands in the i-th slot -/
section
variable {X : Cx}
end

/-! ### tests -/
theorem iteF {A B : Prop} (h : B) : if false = true then A else B := by
  rw [if_neg Bool.false_ne_true]
  exact h
theorem ite2 {c A B : Prop} [Decidable c] (h1 : c → A) (h2 : ¬ c → B) : if c then A else B := by
  by_cases h : c
  · rw [if_pos h]
    exact h1 h
  · rw [if_neg h]
    exact h2 h
theorem iteNS {c A B : Prop} [Decidable c] (hc : c) (h : B) : if (!decide c) = true then A else B := by
  rw [decide_eq_true hc]
  exact iteF h

/-! ### heaps -/
/-- all that was tracked is as it was -/
def Same (H H' : Hp) : Prop := ∀ b o, H b = some o → H' b = some o
theorem Same.refl (H : Hp) : Same H H := fun _ _ h => h
theorem Same.trans {H H1 H2 : Hp} (a : Same H H1) (b : Same H1 H2) : Same H H2 := fun c o h => b c o (a c o h)
theorem Same.free {H H' : Hp} (e : Same H H') {l : Addr} (h : H' l = Option.none) : H l = Option.none := by
  cases q : H l with
  | none => rfl
  | some o =>
    rw [e l o q] at h
    cases h
theorem Same.seq {K : PySem.W.Frag} {H H' : Hp} {a : Addr} {xs : List V} (e : Same H H') (h : SqL K H a xs) : SqL K H' a xs := by
  rcases h with (h | ⟨o, h⟩) | h
  · exact .inl (.inl (e _ _ h))
  · exact .inl (.inr ⟨o, e _ _ h⟩)
  · exact .inr h

end L2

set_option Elab.async false
set_option linter.all false
set_option maxRecDepth 100000
set_option maxHeartbeats 4000000
namespace L2
open PySem PySem.Spec PyProof.Rows

/-! ### the signs of a text, walked -/
def Its (x : Str) : It := ⟨fun i _ => i < x.cps.size, fun i H y H' => H' = H ∧ ∃ c, x.cps[i]? = some c ∧ y = .str ⟨#[c]⟩, fun i _ => x.cps.size ≤ i⟩
theorem turn_str {P : Program} {w : World} {K : PySem.W.Frag} {tg : Expr} (x : Str) (it : Addr) {ty : String} {t : Tok} (hty : ty = "str_ascii_iterator" ∨ ty = "str_iterator") :
    Turn P w K tg (Its x) [it] it (fun i h => h.IsStrIter it ty x t i) where
  mem := by simp
  obj := fun i h st b hb => by
    have e : b = it := by simpa using hb
    subst e
    obtain ⟨o, e, c, d⟩ := st
    exact ⟨o, e, fun v z => by rw [d] at z; cases z⟩
  keep := fun i h h' st k => by
    obtain ⟨o, e, r⟩ := st
    exact ⟨o, k it (by simp) o e, r⟩
  item := by
    intro X hP hw hK hc i pins s σ H E I hf st hg
    subst hP hw hK
    have hi : i < x.cps.size := hg
    obtain ⟨f0, f1, f2, f3, f4, f5⟩ := hf it (by simp)
    rcases hty with rfl | rfl
    · refine wpAny_pyNext_ascii_item st (c := x.cps[i]) (by simp [hi]) fun h' st' sb => ?_
      have I1 : Inv X pins σ H { s with heap := h', toks := s.toks + 1 } := I.turned (fun b o hb e => (sb.2 b hb).trans e) f0 f1 f3 f4 f5
      obtain ⟨o, e, c, d⟩ := id st'
      exact ⟨_, rfl, go_of (s := { s with heap := h', toks := s.toks + 1 }) e c d (by decide) ⟨.str ⟨#[x.cps[i]]⟩, H, I1, ⟨_, rfl⟩, ⟨rfl, x.cps[i], by simp [hi], rfl⟩, st', fun b hb => (hf b hb).1⟩⟩
    · refine wpAny_pyNext_wide_item st (c := x.cps[i]) (by simp [hi]) fun h' st' sb => ?_
      have I1 : Inv X pins σ H { s with heap := h', toks := s.toks + 1 } := I.turned (fun b o hb e => (sb.2 b hb).trans e) f0 f1 f3 f4 f5
      obtain ⟨o, e, c, d⟩ := id st'
      exact ⟨_, rfl, go_of (s := { s with heap := h', toks := s.toks + 1 }) e c d (by decide) ⟨.str ⟨#[x.cps[i]]⟩, H, I1, ⟨_, rfl⟩, ⟨rfl, x.cps[i], by simp [hi], rfl⟩, st', fun b hb => (hf b hb).1⟩⟩
  done := by
    intro X hP hw hK hc i pins s σ H E I hf st hg
    subst hP hw hK
    have hi : x.cps.size ≤ i := hg
    obtain ⟨f0, f1, f2, f3, f4, f5⟩ := hf it (by simp)
    rcases hty with rfl | rfl
    · exact wpAny_pyNext_ascii_end (I.ok.hd hc) st (by simp [hi]) fun h' eb => ⟨rfl, I.turned (t' := s.toks) (fun b o hb e => eb b o hb e) f0 f1 f3 f4 f5⟩
    · exact wpAny_pyNext_wide_end (I.ok.hd hc) st (by simp [hi]) fun h' eb => ⟨rfl, I.turned (t' := s.toks) (fun b o hb e => eb b o hb e) f0 f1 f3 f4 f5⟩
  self := fun _ _ _ _ _ st h => by
    rcases hty with rfl | rfl
    · exact wpAny_pyIter_striter_ascii st h
    · exact wpAny_pyIter_striter_wide st h
def iStr (tl : TE) : TI := fun σ H R => tl σ H fun x H1 => ∃ z, x = .str z ∧ R (Its z) H1
theorem pi_str {X : Cx} {tg l : Expr} {tl : TE} (hl : PE X l tl) : PI X tg l (iStr tl) := by
  intro pins s σ H R I h
  refine thn (hl pins s σ H _ I h) fun v s1 ⟨x, H1, I1, r1, q1⟩ => ?_
  obtain ⟨z, e, q⟩ := q1
  subst e
  obtain ⟨t, rfl⟩ := r1
  refine wpAny_pyIter_strU ?_
  refine ⟨s1.heap.objs.size, [s1.heap.objs.size], _, _, H1, rfl, I1.kept (t' := s1.toks) fun b o e => Heap.get?_push_of_some _ e, turn_str (ty := strIterType z) (t := t) z _ ?_, ⟨_, Heap.get?_push_size _ rfl, rfl, rfl⟩, fun b hb => ?_, q⟩
  · unfold strIterType
    split
    · exact .inl rfl
    · exact .inr rfl
  · have e : b = s1.heap.objs.size := by simpa using hb
    subst e
    exact I1.fpOk (Nat.le_refl _) (I1.hok.fresh (Nat.le_refl _))
end L2

set_option Elab.async false
set_option linter.all false
set_option maxRecDepth 100000
set_option maxHeartbeats 4000000
namespace L2
open PySem PySem.Spec PyProof.Rows

/-! ### a comprehension -/
def Wk : St → St → Prop
  | [], [] => True
  | Option.none :: r, _ :: q => Wk r q
  | some a :: r, b :: q => b = some a ∧ Wk r q
  | _, _ => False
theorem Wk.len : ∀ {a b : St}, Wk a b → a.length = b.length
  | [], [], _ => rfl
  | Option.none :: r, _ :: q, h => congrArg (· + 1) (Wk.len (a := r) (b := q) h)
  | some _ :: r, _ :: q, h => congrArg (· + 1) (Wk.len (a := r) (b := q) h.2)
  | [], _ :: _, h => h.elim
  | Option.none :: _, [], h => h.elim
  | some _ :: _, [], h => h.elim
theorem Wk.get : ∀ {a b : St}, Wk a b → ∀ (i : Nat) v, a[i]? = some (some v) → b[i]? = some (some v)
  | [], [], _, i, v, e => by simp at e
  | Option.none :: r, y :: q, h, 0, v, e => by simp at e
  | Option.none :: r, y :: q, h, i + 1, v, e => by simpa using Wk.get (a := r) (b := q) h i v (by simpa using e)
  | some x :: r, y :: q, h, 0, v, e => by
    have e' : x = v := by simpa using e
    rw [h.1, e'] <;> simp
  | some x :: r, y :: q, h, i + 1, v, e => by simpa using Wk.get (a := r) (b := q) h.2 i v (by simpa using e)
  | [], _ :: _, h, _, _, _ => h.elim
  | Option.none :: _, [], h, _, _, _ => h.elim
  | some _ :: _, [], h, _, _, _ => h.elim
def clOf (cells : List (Str × Addr)) : List (Str × NameKind) → List (Str × Addr) → List (Str × Addr)
  | [], acc => acc
  | (n, k) :: r, acc => if k == .free then clOf cells r ((n, (cells.lookup n).getD 0) :: acc) else clOf cells r acc
theorem closureFor_clOf {sc : Scope} {env : Env} (h : ∀ y ∈ sc.names, y.2 = .free → ∃ c, env.cells.lookup y.1 = some c) : closureFor sc env = pure (clOf env.cells sc.names []) := by
  unfold closureFor
  have key : ∀ (l : List (Str × NameKind)) (acc : List (Str × Addr)), (∀ y ∈ l, y.2 = .free → ∃ c, env.cells.lookup y.1 = some c) →
      (forIn l acc fun x r => match x with | (name, kind) => if (kind == .free) = true then do let a ← cellOf env name; pure (ForInStep.yield ((name, a) :: r)) else pure (ForInStep.yield r) : Sem (List (Str × Addr))) = pure (clOf env.cells l acc) := by
    intro l
    induction l with
    | nil => intro acc _; rfl
    | cons y r ih =>
      intro acc hy
      obtain ⟨n, k⟩ := y
      have hr : ∀ y ∈ r, y.2 = .free → ∃ c, env.cells.lookup y.1 = some c := fun y hm => hy y (List.mem_cons_of_mem _ hm)
      rw [List.forIn_cons]
      by_cases hk : k = .free
      · subst hk
        obtain ⟨c, hc⟩ := hy (n, .free) List.mem_cons_self rfl
        have e1 : cellOf env n = pure c := by unfold cellOf; rw [hc]
        have e2 : clOf env.cells ((n, .free) :: r) acc = clOf env.cells r ((n, c) :: acc) := by
          show (if (NameKind.free == NameKind.free) = true then clOf env.cells r ((n, (env.cells.lookup n).getD 0) :: acc) else clOf env.cells r acc) = _
          rw [if_pos (by decide), hc]; rfl
        rw [e2, ← ih ((n, c) :: acc) hr]
        show (do let x ← (if (NameKind.free == NameKind.free) = true then do let a ← cellOf env n; pure (ForInStep.yield ((n, a) :: acc)) else pure (ForInStep.yield acc) : Sem _); _) = _
        rw [if_pos (by decide), e1]
        rfl
      · have hb : (k == NameKind.free) = false := by simpa using hk
        have e2 : clOf env.cells ((n, k) :: r) acc = clOf env.cells r acc := by
          show (if (k == NameKind.free) = true then clOf env.cells r ((n, (env.cells.lookup n).getD 0) :: acc) else clOf env.cells r acc) = _
          rw [hb]; rfl
        rw [e2, ← ih acc hr]
        show (do let x ← (if (k == NameKind.free) = true then do let a ← cellOf env n; pure (ForInStep.yield ((n, a) :: acc)) else pure (ForInStep.yield acc) : Sem _); _) = _
        rw [hb]
        rfl
  have := key sc.names [] h
  first | exact this | (rw [this]; rfl) | simpa using this
theorem clOf_lookup {cells : List (Str × Addr)} : ∀ {l : List (Str × NameKind)} {acc : List (Str × Addr)} {n : Str} {c : Addr}, (∀ y ∈ l, y.2 = .free → ∃ c, cells.lookup y.1 = some c) → (∀ n c, acc.lookup n = some c → cells.lookup n = some c) →
    (clOf cells l acc).lookup n = some c → cells.lookup n = some c
  | [], acc, n, c, _, ha, e => ha n c e
  | (m, k) :: r, acc, n, c, hl, ha, e => by
    have hr : ∀ y ∈ r, y.2 = .free → ∃ c, cells.lookup y.1 = some c := fun y hm => hl y (List.mem_cons_of_mem _ hm)
    have e' : (if (k == NameKind.free) = true then clOf cells r ((m, (cells.lookup m).getD 0) :: acc) else clOf cells r acc).lookup n = some c := e
    by_cases hk : (k == NameKind.free) = true
    · rw [if_pos hk] at e'
      refine clOf_lookup hr (fun n c z => ?_) e'
      obtain ⟨d, hd⟩ := hl (m, k) List.mem_cons_self (by simpa using hk)
      rw [List.lookup_cons] at z
      by_cases hn : (n == m) = true
      · rw [hn] at z
        have : n = m := by simpa using hn
        subst this
        have hd' : cells.lookup n = some d := hd
        rw [hd'] at z ⊢
        simpa using z
      · have hn' : (n == m) = false := by simpa using hn
        rw [hn'] at z
        exact ha n c z
    · rw [if_neg hk] at e'
      exact clOf_lookup hr ha e'
theorem clOf_some {cells : List (Str × Addr)} : ∀ {l : List (Str × NameKind)} {acc : List (Str × Addr)} {n : Str}, ((n, NameKind.free) ∈ l ∨ ∃ c, acc.lookup n = some c) → ∃ c, (clOf cells l acc).lookup n = some c
  | [], acc, n, h => by
    rcases h with h | h
    · cases h
    · exact h
  | (m, k) :: r, acc, n, h => by
    show ∃ c, (if (k == NameKind.free) = true then clOf cells r ((m, (cells.lookup m).getD 0) :: acc) else clOf cells r acc).lookup n = some c
    have hcons : ∀ a, n = m ∨ (∃ c, acc.lookup n = some c) → ∃ c, ((m, a) :: acc).lookup n = some c := fun a z => by
      rw [List.lookup_cons]
      by_cases hn : (n == m) = true
      · rw [hn]; exact ⟨_, rfl⟩
      · have hn' : (n == m) = false := by simpa using hn
        rw [hn']
        rcases z with z | z
        · exact absurd (by simpa using z) hn
        · exact z
    by_cases hk : (k == NameKind.free) = true
    · rw [if_pos hk]
      refine clOf_some ?_
      rcases h with h | h
      · rcases List.mem_cons.mp h with e | h
        · exact .inr (hcons _ (.inl (congrArg Prod.fst e)))
        · exact .inl h
      · exact .inr (hcons _ (.inr h))
    · rw [if_neg hk]
      refine clOf_some ?_
      rcases h with h | h
      · rcases List.mem_cons.mp h with e | h
        · have : k = .free := (congrArg Prod.snd e).symm
          rw [this] at hk
          exact absurd (by decide) hk
        · exact .inl h
      · exact .inr h
def rlb (env : Env) (p : Str × NameKind) : Str × NameKind := if (p.2 == NameKind.free && env.scope.kind == ScopeKind.function && env.kindOf p.1 == some NameKind.cell) = true then (p.1, NameKind.cell) else p
theorem relabel_names (sc : Scope) (env : Env) : (relabel sc env).names = sc.names.map (rlb env) := rfl
theorem rlb_fst (env : Env) (p : Str × NameKind) : (rlb env p).1 = p.1 := by
  unfold rlb
  split <;> rfl
theorem rlb_free {env : Env} {p : Str × NameKind} (h : p.2 ≠ .cell) (h2 : (rlb env p).2 = .cell ∨ (rlb env p).2 = .free) : p.2 = .free := by
  unfold rlb at h2
  split at h2
  · rename_i q
    rw [Bool.and_eq_true, Bool.and_eq_true] at q
    simpa using q.1.1
  · rcases h2 with h2 | h2
    · exact absurd h2 h
    · exact h2
theorem relabel_free' {env : Env} : ∀ {names : List (Str × NameKind)} {x : Str} {k : NameKind}, (∀ y ∈ names, y.2 ≠ .cell) → (k = .cell ∨ k = .free) → (names.map (rlb env)).lookup x = some k → (x, NameKind.free) ∈ names
  | [], x, k, _, _, e => by simp at e
  | p :: r, x, k, hc, hk, e => by
    have hr : ∀ y ∈ r, y.2 ≠ .cell := fun y hm => hc y (List.mem_cons_of_mem _ hm)
    have e0 : rlb env p = (p.1, (rlb env p).2) := by rw [← rlb_fst env p]
    rw [List.map_cons, e0, List.lookup_cons] at e
    by_cases hx : x = p.1
    · have hb : (x == p.1) = true := by simpa using hx
      rw [hb] at e
      have e2 : (rlb env p).2 = k := Option.some.inj e
      have hj := rlb_free (env := env) (hc p List.mem_cons_self) (by rw [e2]; exact hk)
      have : (x, NameKind.free) = p := by rw [hx, ← hj]
      rw [this]
      exact List.mem_cons_self
    · have hb : (x == p.1) = false := by simpa using hx
      rw [hb] at e
      exact List.mem_cons_of_mem _ (relabel_free' hr hk e)
theorem relabel_free {env : Env} {sc : Scope} {x : Str} {k : NameKind} (hc : ∀ y ∈ sc.names, y.2 ≠ .cell) (hk : k = .cell ∨ k = .free) (e : (relabel sc env).names.lookup x = some k) : (x, NameKind.free) ∈ sc.names :=
  relabel_free' (env := env) hc hk (by rw [← relabel_names]; exact e)

/-- the values that a block sees at its start: of the names it takes from around it -/
def blkS (ix : List (Option Nat)) (σ : St) : St := ix.map fun o => o.bind fun i => (σ[i]?).join
def FreeOk (XN : List Str) (env : Env) (sc : Scope) : List Str → List (Option Nat) → Prop
  | [], [] => True
  | _ :: N, Option.none :: ix => FreeOk XN env sc N ix
  | y :: N, some i :: ix => XN[i]? = some y ∧ env.kindOf y = some .cell ∧ (relabel sc env).names.lookup y = some .cell ∧ FreeOk XN env sc N ix
  | _, _ => False
theorem FreeOk.len {XN : List Str} {env : Env} {sc : Scope} : ∀ {N : List Str} {ix : List (Option Nat)}, FreeOk XN env sc N ix → ix.length = N.length
  | [], [], _ => rfl
  | _ :: N, Option.none :: ix, h => congrArg (· + 1) (FreeOk.len (N := N) (ix := ix) h)
  | _ :: N, some _ :: ix, h => congrArg (· + 1) (FreeOk.len (N := N) (ix := ix) h.2.2.2)
  | [], _ :: _, h => h.elim
  | _ :: _, [], h => h.elim
theorem FreeOk.get {XN : List Str} {env : Env} {sc : Scope} : ∀ {N : List Str} {ix : List (Option Nat)}, FreeOk XN env sc N ix → ∀ (j : Nat) (y : Str) (i : Nat), N[j]? = some y → ix[j]? = some (some i) →
    XN[i]? = some y ∧ env.kindOf y = some .cell ∧ (relabel sc env).names.lookup y = some .cell
  | [], [], _, j, y, i, e, _ => by simp at e
  | _ :: N, Option.none :: ix, h, 0, y, i, e, e2 => by simp at e2
  | _ :: N, Option.none :: ix, h, j + 1, y, i, e, e2 => FreeOk.get (N := N) (ix := ix) h j y i (by simpa using e) (by simpa using e2)
  | z :: N, some k :: ix, h, 0, y, i, e, e2 => by
    have e' : z = y := by simpa using e
    have e2' : k = i := by simpa using e2
    subst e'; subst e2'
    exact ⟨h.1, h.2.1, h.2.2.1⟩
  | _ :: N, some _ :: ix, h, j + 1, y, i, e, e2 => FreeOk.get (N := N) (ix := ix) h.2.2.2 j y i (by simpa using e) (by simpa using e2)
  | [], _ :: _, h, _, _, _, _, _ => h.elim
  | _ :: _, [], h, _, _, _, _, _ => h.elim

/-- the context of a comprehension's block -/
def cxB (X : Cx) (sc : Scope) (C : Addr) (N : List Str) (s₀ : Shared) (H₀ : Hp) (fp : List Addr) : Cx :=
  { X with N := N, s₀ := s₀, H₀ := H₀, env := compEnvC sc (clOf X.env.cells sc.names []) C X.env, outer := X.stack, ex := fp, fn := fun _ => false, pn := [], xe := fun _ _ => False }
structure CompOk (X : Cx) (sc : Scope) (N : List Str) (ix : List (Option Nat)) : Prop where
  kind : sc.kind = .function
  nocell : (sc.names.all fun y => y.2 != .cell) = true
  names : (sc.names.all fun y => y.2 != .local || sc.names.lookup y.1 == some .local) = true
  free : (sc.names.all fun y => y.2 != .free || X.env.scope.names.lookup y.1 == some .cell) = true
  fr : FreeOk X.N X.env sc N ix
section
variable {X : Cx} {sc : Scope} {N : List Str} {ix : List (Option Nat)} {pins : List (Addr × Obj)} {σ : St} {H : Hp} {s : Shared}
theorem CompOk.cells (c : CompOk X sc N ix) (ok : X.Ok) : ∀ y ∈ sc.names, y.2 = .free → ∃ c, X.env.cells.lookup y.1 = some c := fun y hy e => by
  have h := List.all_eq_true.mp c.free y hy
  rw [e] at h
  have h' : X.env.scope.names.lookup y.1 = some .cell := by simpa using h
  exact ok.has y.1 (.inl h')
theorem CompOk.nc (c : CompOk X sc N ix) : ∀ y ∈ sc.names, y.2 ≠ .cell := fun y hy => by simpa using List.all_eq_true.mp c.nocell y hy
theorem CompOk.nm (c : CompOk X sc N ix) : ∀ y ∈ sc.names, y.2 = .local → sc.names.lookup y.1 = some .local := fun y hy e => by
  have h := List.all_eq_true.mp c.names y hy
  rw [e] at h
  simpa using h
/-- the block begins: s₂ the state at its entry (the iterator is made), s₄ behind the frame's making -/
theorem inv_block {C : Addr} {fp : List Addr} {h₁ : Heap} {t' : Nat} (c : CompOk X sc N ix) (I : Inv X pins σ H s) (hf : ∀ b ∈ fp, FpOk X pins H b) (hfp : ∀ b ∈ fp, b < s.heap.objs.size) (hC : s.heap.objs.size ≤ C)
    (hn : h₁.Ns C (fun _ => none)) (old : ∀ b o, s.heap.get? b = some o → h₁.get? b = some o) : Inv (cxB X sc C N s H fp) [] (blkS ix σ) H { s with heap := h₁, toks := t' } := by
  have hcells := c.cells I.ok
  have sub : ∀ n c, (clOf X.env.cells sc.names []).lookup n = some c → X.env.cells.lookup n = some c := fun n c e => clOf_lookup hcells (fun n c z => by simp at z) e
  refine ⟨⟨I.ok.mod, c.kind, I.ok.glob, I.ok.blt, hC, fun x y d h1 h2 => I.ok.inj x y d (sub x d h1) (sub y d h2), fun x hx => ?_, fun x d z => absurd z (by simp [cxB]), I.ok.hd, I.ok.frames, .inl rfl, fun b hb => ⟨?_, fun x d e => ?_⟩, I.bs, Nat.le_trans I.ok.bsz I.sz, fun b o e hb => ?_, fun b hb hs => ?_, I.stack, I.stkFree⟩,
    rfl, I.bare, Un.kept old, ⟨_, hn, fun j y v e1 e2 e3 => ?_⟩, fun x d e => ?_, I.hok.fresh hC, fun x d e => I.freeC x d (sub x d e), fun p hp => absurd (show p ∈ ([] : List (Addr × Obj)) from hp) (by simp), I.hok.kept old, ?_⟩
  · refine clOf_some (.inl ?_)
    rcases hx with hx | hx
    · exact relabel_free c.nc (.inl rfl) (show (relabel sc X.env).names.lookup x = some .cell from hx)
    · exact relabel_free c.nc (.inr rfl) (show (relabel sc X.env).names.lookup x = some .free from hx)
  · exact Nat.ne_of_lt (Nat.lt_of_lt_of_le (hfp b hb) hC)
  · exact (hf b hb).2.2.2.2.1 x d (sub x d e)
  · rcases (hf b hb).2.2.2.1 with z | z
    · exact I.ok.noex b o e z
    · exact absurd (Nat.lt_of_lt_of_le (Heap.lt_size e) (Nat.le_trans I.ok.bsz z)) (Nat.lt_irrefl _)
  · rcases List.mem_cons.mp (I.stkSub b hs) with z | z
    · exact (hf b hb).2.1 z
    · exact (hf b hb).2.2.1 z
  · have hj : ∃ i, ix[j]? = some (some i) ∧ σ[i]? = some (some v) := by
      unfold blkS at e2
      rw [List.getElem?_map] at e2
      cases q : ix[j]? with
      | none => rw [q] at e2; cases e2
      | some o =>
        rw [q] at e2
        cases o with
        | none => cases e2
        | some i =>
          refine ⟨i, rfl, ?_⟩
          have e2' : (σ[i]?).join = some v := Option.some.inj e2
          cases q2 : σ[i]? with
          | none => rw [q2] at e2'; cases e2'
          | some w => rw [q2] at e2'; exact congrArg some e2'
    obtain ⟨i, hi, hv⟩ := hj
    obtain ⟨k1, k2, k3⟩ := c.fr.get j y i e1 hi
    obtain ⟨m, hm, hl⟩ := I.loc
    obtain ⟨u, r, l⟩ := hl i y v k1 hv (.inr (.inl k2))
    refine ⟨u, r, ?_⟩
    rcases l with ⟨z, _⟩ | ⟨_, d, hd, hcell⟩
    · rw [k2] at z; cases z
    · obtain ⟨d', hd'⟩ : ∃ d', (clOf X.env.cells sc.names []).lookup y = some d' := clOf_some (.inl (relabel_free c.nc (.inl rfl) k3))
      have := sub y d' hd'
      rw [hd] at this
      cases this
      exact .inr ⟨.inl k3, d, hd', hcell.keeps old⟩
  · obtain ⟨v, z⟩ := I.cell x d (sub x d e)
    exact ⟨v, z.keeps old⟩
  · show (blkS ix σ).length = N.length
    unfold blkS
    rw [List.length_map, c.fr.len]
/-- the block ends -/
theorem inv_unblock {C : Addr} {fp : List Addr} {pins' : List (Addr × Obj)} {σ' : St} {H' : Hp} {s' : Shared} (I : Inv X pins σ H s) (hf : ∀ b ∈ fp, FpOk X pins H b) (J : Inv (cxB X sc C N s H fp) pins' σ' H' s') : Inv X pins σ H' s' := by
  refine I.call' (ch := fp) J.os J.base J.hok J.bare fun b hb => ?_
  obtain ⟨f0, f1, f2, f3, f4, f5⟩ := hf b hb
  exact ⟨f3, f1, f4, f5⟩
end
def PTs (X : Cx) (ifs : List Expr) (t : TT) : Prop :=
  ∀ (pins : List (Addr × Obj)) (s : Shared) (σ : St) (H : Hp) (Q : Bool → Hp → Prop), Inv X pins σ H s → t σ H Q →
    wpAny (model X.prog X.w) X.A (forIn ifs true fun c r => if r = true then do let ok ← isTrue c X.env (eval c X.env); pure (ForInStep.yield ok) else pure (ForInStep.yield r)) (TP X pins σ Q) X.xe s
def tAll : TT := fun _ H Q => Q true H
theorem pts_nil {X : Cx} : PTs X [] tAll := fun _ _ _ H _ I h => wpAny_tests_nil ⟨H, I, h⟩
theorem pts_one {X : Cx} {c : Expr} {t : TT} (h : PT X c t) : PTs X [c] t := fun pins s σ H Q I hw => wpAny_tests_one (h pins s σ H Q I hw)

/-- what a comprehension asks: W by the turn, a measure, the items so far -/
def CompW (J : It) (D : Addr) (σb : St) (g : TG) (tt : TT) (te : TE) (Q : Hp → List V → Prop) (W : Nat → Nat → List V → Hp → Prop) : Prop :=
  ∀ i m ys H, W i m ys H → H D = some (.lst ys) ∧ ((J.stop i H ∧ Q H ys) ∨ (J.go i H ∧ ∀ x H3, J.yld i H x H3 → g x σb H3 fun σ4 H4 => Wk σb σ4 ∧ tt σ4 H4 fun b H5 =>
    if b = true then te σ4 H5 fun y H6 => H6 D = some (.lst ys) ∧ ys.length < sizeLine ∧ ∃ m', m' < m ∧ W (i + 1) m' (ys ++ [y]) (upd H6 D (.lst (ys ++ [y]))) else ∃ m', m' < m ∧ W (i + 1) m' ys H5))
def tComp (ix : List (Option Nat)) (wi : TI) (g : TG) (tt : TT) (te : TE) : TE := fun σ H Q => wi σ H fun J H1 => ∀ D, H1 D = none → ∃ W, (∃ m, W 0 m [] (upd H1 D (.lst []))) ∧ CompW J D (blkS ix σ) g tt te (fun H _ => Q (.ref D) H) W

section
variable {X : Cx} {sc : Scope} {N : List Str} {ix : List (Option Nat)} {elt tg iter : Expr} {ifs : List Expr} {pos : Pos} {wi : TI} {g : TG} {tt : TT} {te : TE}
/-- the block's rules, in every context that it may run in -/
structure Blk (X : Cx) (sc : Scope) (N : List Str) (tg elt : Expr) (ifs : List Expr) (g : TG) (tt : TT) (te : TE) : Prop where
  tg : ∀ C s H fp, PG (cxB X sc C N s H fp) tg g
  tests : ∀ C s H fp, PTs (cxB X sc C N s H fp) ifs tt
  elt : ∀ C s H fp, PE (cxB X sc C N s H fp) elt te
theorem comp_loop {J : It} {fp : List Addr} {it D : Addr} {tn : Nat → Heap → Prop} {σb : St} {Q : Hp → List V → Prop} {R : Result → Shared → Prop} {W : Nat → Nat → List V → Hp → Prop}
    (hc : X.calm = true) (hxe : X.xe = fun _ _ => False) (T : Turn X.prog X.w X.K tg J fp it tn) (hg : PG X tg g) (ht : PTs X ifs tt) (he : PE X elt te) (turn : CompW J D σb g tt te Q W)
    (stat : ∀ {H' : Hp}, (∀ b ∈ fp, H' b = none) → ∀ b ∈ fp, FpOk X [] H' b)
    (fin : ∀ {σ' : St} {H' : Hp} {s' : Shared} {ys : List V}, Inv X [] σ' H' s' → Q H' ys → R (.ok .next) s')
    {m0 i0 : Nat} {ys0 : List V} {H0 : Hp} {s0 : Shared} (I0 : Inv X [] σb H0 s0) (st0 : tn i0 s0.heap) (fr0 : ∀ b ∈ fp, H0 b = none) (w0 : W i0 m0 ys0 H0) :
    codeAny (model X.prog X.w) X.A (.compLoop (.ListComp elt [⟨tg, iter, ifs, 0⟩] sc pos) 0 (.ref it) (.ref D) X.env) R s0 := by
  have noE : ∀ {E' : Value → Shared → Prop} (e : Value) (s' : Shared), X.xe e s' → E' e s' := fun {E'} e s' z => by rw [hxe] at z; exact z.elim
  refine codeAny_loop rfl (fun n s' => ∃ i ys H', Inv X [] σb H' s' ∧ tn i s'.heap ∧ (∀ b ∈ fp, H' b = none) ∧ W i n ys H') ?_ m0 ⟨i0, ys0, H0, I0, st0, fr0, w0⟩
  rintro n s3 ⟨i, ys, H3, I3, st3, fr3, w3⟩
  show wpAny _ X.A ((compTurn (.ListComp elt [⟨tg, iter, ifs, 0⟩] sc pos) 0 (.ref it) (.ref D) X.env).onRaise (fun x => do noteFrame x X.env; theTreesLotGoes x)) _ _ s3
  refine wpAny_noted ?_
  rw [compTurn_list]
  refine wpAny_bind (wpAny_standAt (wpAny_bind ?_))
  obtain ⟨hDl, next⟩ := turn i n ys H3 w3
  rcases next with ⟨stop, q⟩ | ⟨go, step⟩
  · refine thn (T.done X rfl rfl rfl hc i [] s3 σb H3 _ I3 (stat fr3) st3 stop) fun r s4 ⟨hr, I4⟩ => ?_
    subst hr
    exact wpAny_pure (fin I4 q)
  · refine thn (T.item X rfl rfl rfl hc i [] s3 σb H3 _ I3 (stat fr3) st3 go) fun r s4 ⟨u, hr, h4⟩ => ?_
    subst hr
    refine wpAny_bind (thn h4 fun _ s5 ⟨x, H5, I5, r5, y5, st5, fr5⟩ => ?_)
    have I5' := I5.pinned (stat fr5) (T.obj _ _ st5)
    have back : ∀ {σ' : St} {H' : Hp} {s' : Shared}, Inv X ([] ++ pinsAt fp s5.heap) σ' H' s' → Wk σb σ' → Inv X [] σb H' s' ∧ tn (i + 1) s'.heap ∧ ∀ b ∈ fp, H' b = none := fun {σ' H' s'} I7 wk => by
      refine ⟨(I7.unpinned).weak wk.len wk.get, T.keep _ _ _ st5 fun b hb o e => (I7.pin (b, o) (List.mem_append_right _ (List.mem_append_right _ (mem_pinsAt hb e)))).1, fun b hb => ?_⟩
      obtain ⟨o, e, d⟩ := T.obj _ _ st5 b hb
      exact (I7.pin (b, o) (List.mem_append_right _ (List.mem_append_right _ (mem_pinsAt hb e)))).2.1
    refine wpAny_bind (wpAny_mono (hg _ s5 σb H5 x u _ I5' r5 (step x H5 y5)) (fun _ s6 ⟨σ6, H6, I6, wk, q6⟩ => ?_) noE)
    refine wpAny_bind (wpAny_mono (ht _ s6 σ6 H6 _ I6 q6) (fun ok s7 ⟨H7, I7, q7⟩ => ?_) noE)
    cases ok with
    | false =>
      obtain ⟨m', hm, w7⟩ := q7
      obtain ⟨b1, b2, b3⟩ := back I7 wk
      exact wpAny_pure ⟨rfl, m', hm, i + 1, ys, H7, b1, b2, b3, w7⟩
    | true =>
      refine wpAny_bind (wpAny_bind (wpAny_mono (he _ s7 σ6 H7 _ I7 q7) (fun v s8 ⟨y, H8, I8, r8, hD8, hl8, m', hm, w8⟩ => ?_) noE))
      refine wpAny_bind (wpAny_mono (mt_append _ s8 σ6 H8 (.ref D) [y] (.ref D) [v] (fun _ H9 => H9 = upd H8 D (.lst (ys ++ [y]))) I8 rfl (.cons r8 .nil) ⟨D, ys, y, rfl, rfl, hD8, hl8, rfl⟩) (fun _ s9 ⟨z, H9, I9, _, e9⟩ => ?_) noE)
      subst e9
      obtain ⟨b1, b2, b3⟩ := back I9 wk
      exact wpAny_pure (wpAny_pure ⟨rfl, m', hm, i + 1, ys ++ [y], _, b1, b2, b3, w8⟩)
theorem comp_core {pins : List (Addr × Obj)} {σ : St} {H : Hp} {s : Shared} {E : Value → Shared → Prop} {RR : Value → Addr → Result → Shared → Prop} {it : Addr} {fp : List Addr} {tn : Nat → Heap → Prop} {J : It} {Q : Addr → Hp → List V → Prop}
    (hc : X.calm = true) (c : CompOk X sc N ix) (B : Blk X sc N tg elt ifs g tt te) (I : Inv X pins σ H s) (T : Turn X.prog X.w X.K tg J fp it tn) (st : tn 0 s.heap) (hf : ∀ b ∈ fp, FpOk X pins H b)
    (h : ∀ D, H D = none → ∃ W, (∃ m, W 0 m [] (upd H D (.lst []))) ∧ CompW J D (blkS ix σ) g tt te (Q D) W)
    (hR : ∀ D C H' s' ys, Inv X pins σ H' s' → FpOk X pins H' C → (∃ m, s'.heap.Ns C m) → Q D H' ys → RR (.ref D) C (.ok .next) s') :
    wpAny (model X.prog X.w) X.A (newList []) (fun acc s₃ => wpAny (model X.prog X.w) X.A (newFunctionEnv sc X.env.globals (clOf X.env.cells sc.names []) [] X.env.qual none .none (some X.env)) (fun cenv s₄ =>
      codeAny (model X.prog X.w) X.A (.compStart (.ListComp elt [⟨tg, iter, ifs, 0⟩] sc pos) 0 (.ref it) acc { cenv with scope := relabel sc X.env }) (RR acc cenv.locals) s₄) E s₃) E s := by
  have hlt : ∀ b ∈ fp, b < s.heap.objs.size := fun b hb => let ⟨o, e, _⟩ := T.obj _ _ st b hb; Heap.lt_size e
  refine wpAny_newObj_type ?_ (by show 0 ≤ sizeLine; exact Nat.zero_le _)
  have hD : H s.heap.objs.size = none := I.hok.fresh (Nat.le_refl _)
  obtain ⟨W, ⟨m0, w0⟩, turn⟩ := h s.heap.objs.size hD
  have I1 : Inv X pins σ (upd H s.heap.objs.size (.lst [])) { s with heap := s.heap.push { cls := .type "list", data := .seq ([] : List Value).toArray } } := I.lnew (t' := s.toks) (its := []) .nil (Nat.zero_le _)
  have k1 : ∀ b o, s.heap.get? b = some o → (s.heap.push { cls := .type "list", data := .seq ([] : List Value).toArray }).get? b = some o := fun b o e => Heap.get?_push_of_some _ e
  have hne : ∀ b ∈ fp, b ≠ s.heap.objs.size := fun b hb => Nat.ne_of_lt (hlt b hb)
  have hf1 : ∀ b ∈ fp, FpOk X pins (upd H s.heap.objs.size (.lst [])) b := fun b hb => ⟨by rw [upd_ne (hne b hb)]; exact (hf b hb).1, (hf b hb).2⟩
  have st1 : tn 0 (s.heap.push { cls := .type "list", data := .seq ([] : List Value).toArray }) := T.keep _ _ _ st fun b _ o e => k1 b o e
  generalize hs1 : ({ s with heap := s.heap.push { cls := .type "list", data := .seq ([] : List Value).toArray } } : Shared) = s1 at I1
  have hs1h : s1.heap = s.heap.push { cls := .type "list", data := .seq ([] : List Value).toArray } := by rw [← hs1]
  generalize hDe : s.heap.objs.size = D at *
  show wpAny _ _ _ _ _ s1
  refine wpAny_newFunctionEnv c.nc (by intro y hy; simp at hy) (fun h₁ hns₁ hsb₁ => ?_) c.kind
  have old : ∀ b o, s1.heap.get? b = some o → h₁.get? b = some o := fun b o e => (hsb₁.2 b (Nat.ne_of_lt (Heap.lt_size e))).trans (Heap.get?_push_of_some _ e)
  have hlt1 : ∀ b ∈ fp, b < s1.heap.objs.size := fun b hb => by
    obtain ⟨o, e, _⟩ := T.obj _ _ st1 b hb
    rw [hs1h]
    exact Heap.lt_size e
  have J0 := inv_block (h₁ := h₁) (t' := s1.toks + ([] : List (Str × Value)).length) c I1 hf1 hlt1 (Nat.le_refl _) (by simpa using hns₁) old
  have stB : tn 0 h₁ := T.keep _ _ _ (by rw [hs1h]; exact st1 : tn 0 s1.heap) fun b _ o e => old b o e
  have fpB : ∀ {H' : Hp}, (∀ b ∈ fp, H' b = none) → ∀ b ∈ fp, FpOk (cxB X sc s1.heap.objs.size N s1 (upd H D (.lst [])) fp) [] H' b := fun {H'} hn b hb => by
    obtain ⟨f0, f1, f2, f3, f4, f5⟩ := hf1 b hb
    refine ⟨hn b hb, Nat.ne_of_lt (hlt1 b hb), ?_, .inl hb, fun x d e => f4 x d (clOf_lookup (c.cells I.ok) (fun n c z => by simp at z) e), fun p hp => absurd (show p ∈ ([] : List (Addr × Obj)) from hp) (by simp)⟩
    intro z
    rcases List.mem_cons.mp (I1.stkSub b z) with q | q
    · exact f1 q
    · exact f2 q
  have fin : ∀ {σ' : St} {H' : Hp} {s' : Shared} {ys : List V}, Inv (cxB X sc s1.heap.objs.size N s1 (upd H D (.lst [])) fp) [] σ' H' s' → Q D H' ys → RR (.ref D) s1.heap.objs.size (.ok .next) s' := fun {σ' H' s' ys} J q =>
    hR D _ H' s' ys (inv_unblock I1 hf1 J) (I1.fpOk (Nat.le_refl _) J.free) (let ⟨m, hn, _⟩ := J.loc; ⟨m, hn⟩) q
  have loop : codeAny (model X.prog X.w) X.A (.compLoop (.ListComp elt [⟨tg, iter, ifs, 0⟩] sc pos) 0 (.ref it) (.ref D) (cxB X sc s1.heap.objs.size N s1 (upd H D (.lst [])) fp).env) (RR (.ref D) s1.heap.objs.size) { s1 with heap := h₁, toks := s1.toks + ([] : List (Str × Value)).length } :=
    comp_loop (X := cxB X sc s1.heap.objs.size N s1 (upd H D (.lst [])) fp) hc rfl T (B.tg _ _ _ _) (B.tests _ _ _ _) (B.elt _ _ _ _) turn fpB fin J0 stB (fun b hb => (hf1 b hb).1) w0
  exact codeAny_compStart_list loop (T.self _ 0 _ _ _ stB loop)
theorem pe_comp (hc : X.calm = true) (c : CompOk X sc N ix) (hi : PI X tg iter wi) (B : Blk X sc N tg elt ifs g tt te) (hs : ∀ x, foldedSetIterable iter X.env x = pure x := by intro _; rfl) : PE X (.ListComp elt [⟨tg, iter, ifs, 0⟩] sc pos) (tComp ix wi g tt te) := by
  intro pins s σ H Q I h
  rw [eval_ListComp]
  refine wpAny_comprehension_free (use := none) rfl hs (closureFor_clOf (c.cells I.ok)) c.kind c.nm (thn (hi pins s σ H _ I h) fun xv s₁ h₁ => thn h₁ fun itv s₂ h₂ => ?_)
  obtain ⟨it, fp, tn, J, H2, e, I2, T, st2, f2, q2⟩ := h₂
  subst e
  refine comp_core (RR := fun acc C => compPost (model X.prog X.w) X.A X.xe none (EP X pins σ Q) acc C) (Q := fun D H _ => Q (.ref D) H) hc c B I2 T st2 f2 q2 ?_
  intro D C H' s' ys I' fC ns q
  refine ⟨_, ns.choose_spec, fun h' sb => ⟨.ref D, H', ?_, rfl, q⟩⟩
  obtain ⟨f0, f1, f2, f3, f4, f5⟩ := fC
  exact I'.turned (t' := s'.toks) (fun b o hb e => (sb.2 b hb).trans e) f0 f1 f3 f4 f5
/-- name = [..]: the store comes ahead of the block's end -/
theorem ps_setC {i : Nat} {y : Str} {py spos : Pos} (hc : X.calm = true) (hN : X.N.Nodup) (hy : X.N[i]? = some y) (hl : X.env.scope.names.lookup y = some .local)
    (hsw : swapsWith (.ListComp elt [⟨tg, iter, ifs, 0⟩] sc pos) (some (.Name y py)) spos.line X.env = pure true)
    (c : CompOk X sc N ix) (hi : PI X tg iter wi) (B : Blk X sc N tg elt ifs g tt te) (hs : ∀ x, foldedSetIterable iter X.env x = pure x := by intro _; rfl) :
    PS X (.Assign [.Name y py] (.ListComp elt [⟨tg, iter, ifs, 0⟩] sc pos) spos) (tAsg (tComp ix wi g tt te) (gName i)) := by
  intro pins s σ H D0 I h
  rw [exec_Assign_Name_used _ _ _ _ hsw]
  refine wpAny_bind (wpAny_standAt (wpAny_bind ?_))
  show wpAny _ X.A (do let _ ← comprehension (.ListComp elt [⟨tg, iter, ifs, 0⟩] sc pos) sc X.env _ (newList []) false (eval iter X.env) (some (assign (.Name y py) X.env))) _ _ s
  refine wpAny_bind (wpAny_mono (wpAny_comprehension_free (use := some (assign (.Name y py) X.env)) (Q := fun _ s' => SP X pins D0 .next s') rfl hs (closureFor_clOf (c.cells I.ok)) c.kind c.nm
    (thn (hi pins s σ H _ I h) fun xv s₁ h₁ => thn h₁ fun itv s₂ h₂ => ?_)) (fun _ s' hq => wpAny_pure (wpAny_pure hq)) fun _ _ e => e)
  obtain ⟨it, fp, tn, J, H2, e, I2, T, st2, f2, q2⟩ := h₂
  subst e
  refine comp_core (RR := fun acc C => compPost (model X.prog X.w) X.A X.xe (some (assign (.Name y py) X.env)) (fun _ s' => SP X pins D0 .next s') acc C) (Q := fun D H _ => D0.nx (σ.set i (some (.ref D))) H) hc c B I2 T st2 f2 q2 ?_
  intro D C H' s' ys I' fC ns q
  show wpAny _ X.A (assign (.Name y py) X.env (.ref D)) _ _ _
  obtain ⟨f0, f1, f2, f3, f4, f5⟩ := fC
  refine wpAny_assign_Name (store_ok2 I' hN hy (.inl hl) (v := .ref D) rfl (fun s2 J2 ⟨a, sb, ha⟩ => ?_) (.inr hl))
  obtain ⟨m, hn⟩ := ns
  have neC : C ≠ a := by
    rcases ha with z | z
    · rw [z]; exact f1
    · exact fun e => f4 y a z e.symm
  refine ⟨m, hn.sameBut sb neC, fun h3 sb3 => ⟨_, H', ?_, q⟩⟩
  exact J2.turned (t' := s2.toks) (fun b o hb e => (sb3.2 b hb).trans e) f0 f1 f3 f4 f5
end
end L2



set_option Elab.async false
set_option linter.all false
set_option maxRecDepth 100000
namespace L2
open PySem PySem.Spec PyProof.Rows

/-! ### lists of pairs as tables -/
section
variable {κ : Type} [DecidableEq κ]
def valV (kvs : List (κ × V)) (k : κ) : Option V := (kvs.find? fun kv => decide (kv.1 = k)).map (·.2)
/-- in its place, or at the end -/
def putK (kvs : List (κ × V)) (k : κ) (v : V) : List (κ × V) :=
  if (kvs.any fun kv => decide (kv.1 = k)) = true then kvs.map (fun kv => if kv.1 = k then (kv.1, v) else kv) else kvs ++ [(k, v)]
def dropK (kvs : List (κ × V)) (k : κ) : List (κ × V) := kvs.filter fun kv => decide (kv.1 ≠ k)

theorem valV_pos {p : κ × V} {r : List (κ × V)} {k : κ} (e : p.1 = k) : valV (p :: r) k = some p.2 := by simp [valV, List.find?_cons, e]
theorem valV_neg {p : κ × V} {r : List (κ × V)} {k : κ} (e : ¬ p.1 = k) : valV (p :: r) k = valV r k := by simp [valV, List.find?_cons, e]
theorem valV_any (k : κ) : ∀ kvs : List (κ × V), (kvs.any fun kv => decide (kv.1 = k)) = (valV kvs k).isSome
  | [] => rfl
  | p :: r => by
    rw [List.any_cons]
    by_cases e : p.1 = k
    · simp only [valV_pos e, decide_eq_true e, Bool.true_or, Option.isSome_some]
    · rw [valV_neg e, decide_eq_false e, Bool.false_or]; exact valV_any k r
theorem putK_new {kvs : List (κ × V)} {k : κ} (v : V) (h : valV kvs k = none) : putK kvs k v = kvs ++ [(k, v)] := by
  unfold putK
  rw [valV_any, h]
  exact if_neg (by decide)

theorem RelO.isSome_eq {o : Option V} {u : Option Value} (r : RelO o u) : o.isSome = u.isSome := by
  cases o with
  | none => cases u with
    | none => rfl
    | some _ => exact (show False from r).elim
  | some _ => cases u with
    | none => exact (show False from r).elim
    | some _ => rfl
theorem RelO.getD {o : Option V} {u : Option Value} {d : V} {d' : Value} (r : RelO o u) (rd : RelV d d') : RelV (o.getD d) (u.getD d') := by
  cases o with
  | none => cases u with
    | none => exact rd
    | some _ => exact (show False from r).elim
  | some _ => cases u with
    | none => exact (show False from r).elim
    | some _ => exact r

/-- raw tables of the same keys -/
theorem KV.val {kvs : List (κ × V)} {vs : List (κ × Value)} (r : KV kvs vs) (k : κ) : RelO (valV kvs k) (valueAt vs k) := by
  unfold KV at r
  induction r with
  | nil => exact True.intro
  | @cons p q ps qs h t ih =>
    obtain ⟨h1, h2⟩ := h
    by_cases e : p.1 = k
    · have e' : q.1 = k := h1.symm.trans e
      have b : valueAt (q :: qs) k = some q.2 := by simp [valueAt, List.find?_cons, e']
      rw [valV_pos e, b]; exact h2
    · have e' : ¬ q.1 = k := fun z => e (h1.trans z)
      have b : valueAt (q :: qs) k = valueAt qs k := by simp [valueAt, List.find?_cons, e']
      rw [valV_neg e, b]; exact ih
theorem KV.any {kvs : List (κ × V)} {vs : List (κ × Value)} (r : KV kvs vs) (k : κ) : (kvs.any fun kv => decide (kv.1 = k)) = vs.any fun kv => decide (kv.1 = k) := by
  unfold KV at r
  induction r with
  | nil => rfl
  | cons h t ih => rw [List.any_cons, List.any_cons, ih, h.1]
theorem KV.repl {kvs : List (κ × V)} {vs : List (κ × Value)} (r : KV kvs vs) (k : κ) {y : V} {u : Value} (ry : RelV y u) :
    KV (kvs.map fun kv => if kv.1 = k then (kv.1, y) else kv) (vs.map fun kv => if kv.1 = k then (kv.1, u) else kv) := by
  unfold KV at r ⊢
  induction r with
  | nil => exact .nil
  | @cons p q ps qs h t ih =>
    rw [List.map_cons, List.map_cons]
    refine .cons ?_ ih
    obtain ⟨h1, h2⟩ := h
    by_cases e : p.1 = k
    · rw [if_pos e, if_pos (h1.symm.trans e)]; exact ⟨h1, ry⟩
    · rw [if_neg e, if_neg (fun z => e (h1.trans z))]; exact ⟨h1, h2⟩
theorem KV.put {kvs : List (κ × V)} {vs : List (κ × Value)} (r : KV kvs vs) (k : κ) {y : V} {u : Value} (ry : RelV y u) : KV (putK kvs k y) (stored vs k u) := by
  unfold putK stored
  rw [r.any k]
  by_cases e : (vs.any fun kv => decide (kv.1 = k)) = true
  · rw [if_pos e, if_pos e]; exact r.repl k ry
  · rw [if_neg e, if_neg e]; exact Paired.snoc r ⟨rfl, ry⟩
theorem KV.drop {kvs : List (κ × V)} {vs : List (κ × Value)} (r : KV kvs vs) (k : κ) : KV (dropK kvs k) (without vs k) := by
  unfold KV at r ⊢
  unfold dropK without
  induction r with
  | nil => exact .nil
  | @cons p q ps qs h t ih =>
    obtain ⟨h1, h2⟩ := h
    rw [List.filter_cons, List.filter_cons]
    by_cases e : p.1 = k
    · have a : ¬ decide (p.1 ≠ k) = true := by simp [e]
      have b : ¬ decide (q.1 ≠ k) = true := by simp [h1.symm.trans e]
      rw [if_neg a, if_neg b]; exact ih
    · have e' : ¬ q.1 = k := fun z => e (h1.trans z)
      have a : decide (p.1 ≠ k) = true := by simp [e]
      have b : decide (q.1 ≠ k) = true := by simp [e']
      rw [if_pos a, if_pos b]; exact .cons ⟨h1, h2⟩ ih
theorem KV.keys {kvs : List (κ × V)} {vs : List (κ × Value)} (r : KV kvs vs) : kvs.map (·.1) = vs.map (·.1) := by
  unfold KV at r
  induction r with
  | nil => rfl
  | cons h t ih => rw [List.map_cons, List.map_cons, ih, h.1]
theorem KV.length {kvs : List (κ × V)} {vs : List (κ × Value)} (r : KV kvs vs) : kvs.length = vs.length := Paired.length r
end


/-! ### a tracked dict, its keys ints and texts or tuples of these -/
theorem kV_is {P : Program} {w : World} {k : Key} {u : Value} (r : RelV (kV k) u) : (mixKind P w).is k u = true := by
  cases k with
  | inl i => obtain ⟨t, e⟩ := (show ∃ t, u = Value.int i t from r); subst e; exact mixKind_int P w i t
  | inr x => obtain ⟨t, e⟩ := (show ∃ t, u = Value.str x t from r); subst e; exact mixKind_str P w x t
/-- raw entries of a dict with tuple keys -/
abbrev KT (H : Hp) : List (List Key × V) → List (List Key × Addr × Value) → Prop := Paired fun p q => p.1 = q.1 ∧ H q.2.1 = some (.tup (p.1.map kV)) ∧ RelV p.2 q.2.2
theorem KT.val {H : Hp} {kvs : List (List Key × V)} {xs : List (List Key × Addr × Value)} (r : KT H kvs xs) (k : List Key) : RelO (valV kvs k) ((atKey xs k).map (·.2)) := by
  induction r with
  | nil => exact True.intro
  | @cons p q ps qs h t ih =>
    obtain ⟨h1, _, h2⟩ := h
    by_cases e : p.1 = k
    · have e' : q.1 = k := h1.symm.trans e
      have b : atKey (q :: qs) k = some q.2 := by simp [atKey, List.find?_cons, e']
      rw [valV_pos e, b]; exact h2
    · have e' : ¬ q.1 = k := fun z => e (h1.trans z)
      have b : atKey (q :: qs) k = atKey qs k := by simp [atKey, List.find?_cons, e']
      rw [valV_neg e, b]; exact ih
theorem KT.repl {H : Hp} {kvs : List (List Key × V)} {xs : List (List Key × Addr × Value)} (r : KT H kvs xs) (k : List Key) {y : V} {u : Value} (ry : RelV y u) :
    KT H (kvs.map fun kv => if kv.1 = k then (kv.1, y) else kv) (xs.map (putAt k u)) := by
  induction r with
  | nil => exact .nil
  | @cons p q ps qs h t ih =>
    rw [List.map_cons, List.map_cons]
    refine .cons ?_ ih
    obtain ⟨h1, h2, h3⟩ := h
    unfold putAt
    by_cases e : p.1 = k
    · rw [if_pos e, if_pos (h1.symm.trans e)]; exact ⟨h1, h2, ry⟩
    · rw [if_neg e, if_neg (fun z => e (h1.trans z))]; exact ⟨h1, h2, h3⟩
theorem KT.put {H : Hp} {kvs : List (List Key × V)} {xs : List (List Key × Addr × Value)} (r : KT H kvs xs) (k : List Key) {b : Addr} {y : V} {u : Value} (hb : H b = some (.tup (k.map kV))) (ry : RelV y u) :
    KT H (putK kvs k y) (storedH xs k b u) := by
  have e : (kvs.any fun kv => decide (kv.1 = k)) = (atKey xs k).isSome := by
    rw [valV_any, (r.val k).isSome_eq, Option.isSome_map]
  unfold putK storedH
  rw [e]
  by_cases q : (atKey xs k).isSome = true
  · rw [if_pos q, if_pos q]; exact r.repl k ry
  · rw [if_neg q, if_neg q]; exact Paired.snoc r ⟨rfl, hb, ry⟩
theorem KT.keeps {H H' : Hp} {kvs : List (List Key × V)} {xs : List (List Key × Addr × Value)} (r : KT H kvs xs) (ht : ∀ b ys, H b = some (.tup ys) → H' b = some (.tup ys)) : KT H' kvs xs :=
  Paired.mapP r fun _ _ z => ⟨z.1, ht _ _ z.2.1, z.2.2⟩

section
variable {P : Program} {w : World} {H : Hp} {h : Heap} {a : Addr}
theorem rd_of {u : HO} (ok : HOk P w H h) (e : Rd H a u) : ObjOk P w H h a u := e.ok ok
theorem dk_rd {kvs : List (Key × V)} (ok : HOk P w H h) (e : Rd H a (.dK kvs)) : kvs.length ≤ sizeLine ∧ (a == sysModules) = false ∧ ∃ vs, KV kvs vs ∧ h.DictOf (mixKind P w) a vs :=
  show ObjOk P w H h a (.dK kvs) from rd_of ok e
theorem dk_of {kvs : List (Key × V)} (ok : HOk P w H h) (e : H a = some (.dK kvs)) : kvs.length ≤ sizeLine ∧ (a == sysModules) = false ∧ ∃ vs, KV kvs vs ∧ h.DictOf (mixKind P w) a vs := dk_rd ok (.inl e)
end

/-- what the dict at a holds at the key y -/
def DGet (H : Hp) (a : Addr) (y : V) (r : Option V) : Prop :=
  (∃ kvs k, Rd H a (.dK kvs) ∧ y = kV k ∧ r = valV kvs k) ∨ ∃ kvs k b, Rd H a (.dT kvs) ∧ y = .ref b ∧ H b = some (.tup (k.map kV)) ∧ r = valV kvs k
/-- the heap behind a[y] = v -/
def DPut (H : Hp) (a : Addr) (y v : V) (H' : Hp) : Prop :=
  (∃ kvs k, H a = some (.dK kvs) ∧ y = kV k ∧ kvs.length < sizeLine ∧ H' = upd H a (.dK (putK kvs k v))) ∨
  ∃ kvs k b, H a = some (.dT kvs) ∧ y = .ref b ∧ H b = some (.tup (k.map kV)) ∧ kvs.length < sizeLine ∧ H' = upd H a (.dT (putK kvs k v))
theorem DGet.k {H : Hp} {a : Addr} {kvs : List (Key × V)} {k : Key} (e : H a = some (.dK kvs)) : DGet H a (kV k) (valV kvs k) := .inl ⟨kvs, k, .inl e, rfl, rfl⟩
theorem DGet.t {H : Hp} {a b : Addr} {kvs : List (List Key × V)} {k : List Key} (e : H a = some (.dT kvs)) (eb : H b = some (.tup (k.map kV))) : DGet H a (.ref b) (valV kvs k) := .inr ⟨kvs, k, b, .inl e, rfl, eb, rfl⟩
theorem DPut.k {H : Hp} {a : Addr} {kvs : List (Key × V)} {k : Key} {v : V} (e : H a = some (.dK kvs)) (hl : kvs.length < sizeLine) : DPut H a (kV k) v (upd H a (.dK (putK kvs k v))) := .inl ⟨kvs, k, e, rfl, hl, rfl⟩
theorem DPut.t {H : Hp} {a b : Addr} {kvs : List (List Key × V)} {k : List Key} {v : V} (e : H a = some (.dT kvs)) (eb : H b = some (.tup (k.map kV))) (hl : kvs.length < sizeLine) :
    DPut H a (.ref b) v (upd H a (.dT (putK kvs k v))) := .inr ⟨kvs, k, b, e, rfl, eb, hl, rfl⟩


section
variable {X : Cx} {pins : List (Addr × Obj)} {σ : St} {H : Hp} {s : Shared} {a : Addr} {y v : V} {u r : Value} {o : Option V} {A : Around} {E : Value → Shared → Prop}

/-- a dict's object is replaced -/
theorem d_write {h' : Heap} {t' : Nat} {ob : HO} (I : Inv X pins σ H s) (mu : Mut (H a)) (hs : Heap.SameBut a s.heap h') (he : ∃ q, h'.get? a = some q) (new : ObjOk X.prog X.w (upd H a ob) h' a ob) :
    Inv X pins σ (upd H a ob) { s with heap := h', toks := t' } :=
  I.write (x := a) (e := a) mu (.inl rfl) (fun b q hb z => (hs.2 b hb).trans z) he new
theorem dk_new {P : Program} {w : World} {H' : Hp} {h' : Heap} {kvs : List (Key × V)} {vs : List (Key × Value)} (z : kvs.length ≤ sizeLine) (hd : (a == sysModules) = false) (rel : KV kvs vs) (dd : h'.DictOf (mixKind P w) a vs) :
    ObjOk P w H' h' a (.dK kvs) := ⟨z, hd, vs, rel, dd⟩
end

section
variable {X : Cx} {pins : List (Addr × Obj)} {σ : St} {H : Hp} {s : Shared} {a : Addr} {kvs : List (Key × V)} {k : Key} {u : Value} {A : Around} {E : Value → Shared → Prop}
end


/-! ### readings and rules -/
section
variable {X : Cx} {o i e value : Expr} {pos pos' tpos : Pos} {td ty tv : TE}
end


/-! ### displays -/
section
variable {X : Cx} {pos : Pos}
end

/-! ### methods -/
/-- a method call o.m(e) of a built-in, with one argument: what must be seen of the text -/
structure M1 (X : Cx) (o : Expr) (m : Str) (apos : Pos) (e : Expr) (cpos : Pos) : Prop where
  base : attributeBase o m X.env (eval o X.env) = eval o X.env
  few : ((backTo cpos (starEach [e] X.env)).all (fun x => !x.1) && (backToKw cpos (keywordEach [] X.env)).all (fun x => x.1.isSome)
    && decide (([e] : List Expr).length + ([] : List Keyword).length + (if ([] : List Keyword).isEmpty then 0 else 1) < 30)) = true
  line : (apos.endLine == cpos.line) = true
  trees : backTo cpos (starEach [e] X.env) = [(false, eval e X.env)]
structure M2 (X : Cx) (o : Expr) (m : Str) (apos : Pos) (e f : Expr) (cpos : Pos) : Prop where
  base : attributeBase o m X.env (eval o X.env) = eval o X.env
  few : ((backTo cpos (starEach [e, f] X.env)).all (fun x => !x.1) && (backToKw cpos (keywordEach [] X.env)).all (fun x => x.1.isSome)
    && decide (([e, f] : List Expr).length + ([] : List Keyword).length + (if ([] : List Keyword).isEmpty then 0 else 1) < 30)) = true
  line : (apos.endLine == cpos.line) = true
  trees : backTo cpos (starEach [e, f] X.env) = [(false, eval e X.env), (false, eval f X.env)]

section
variable {X : Cx} {pins : List (Addr × Obj)} {σ : St} {H : Hp} {s : Shared} {a : Addr} {y d : V} {u r : Value} {o : Option V} {A : Around} {E : Value → Shared → Prop}
end

section
variable {X : Cx} {o e f : Expr} {apos cpos : Pos} {td ty tx : TE}
end

/-! ### dict(d): a copy -/
section
variable {X : Cx} {pins : List (Addr × Obj)} {σ : St} {H : Hp} {s : Shared} {a : Addr} {kvs : List (Key × V)} {A : Around} {E : Value → Shared → Prop}
end


section
variable {X : Cx} {pins : List (Addr × Obj)} {σ : St} {H : Hp} {s : Shared} {a : Addr} {y : V} {u : Value} {A : Around} {E : Value → Shared → Prop}
end
end L2

set_option Elab.async false
set_option linter.all false
set_option maxRecDepth 100000
set_option maxHeartbeats 4000000
namespace L2
open PySem PySem.Spec PyProof.Rows

theorem OpR.imp {X : Cx} {f : Value → Value → Sem Value} {r r' : R2} (h : OpR X f r) (i : ∀ x y H Q, r' x y H Q → r x y H Q) : OpR X f r' :=
  fun pins s σ H x y v u Q I rx ry q => h pins s σ H x y v u Q I rx ry (i x y H Q q)
theorem CallR.imp {X : Cx} {f : Value} {r r' : List V → Hp → VK → Prop} (h : CallR X f r) (i : ∀ xs H Q, r' xs H Q → r xs H Q) : CallR X f r' :=
  fun pins s σ H xs us Q I rs q => h pins s σ H xs us Q I rs (i xs H Q q)
/-- by what stands in the slot -/
def tV (i : Nat) : TE := fun σ H Q => match σ[i]? with
  | some (some v) => Q v H
  | _ => False
theorem vr {X : Cx} (i : Nat) {x : Str} {pos : Pos} (hN : X.N[i]? = some x := by rfl) (hv : Vis X.env.scope x := by first | exact Or.inl rfl | exact Or.inr (Or.inl rfl) | exact Or.inr (Or.inr rfl)) (hd : (x == ("__debug__" : Str)) = false := by decide)
    (hcd : (x == ("__classdict__" : Str)) = false := by decide) : PE X (.Name x pos) (tV i) := fun pins s σ H Q I h => by
  refine pe_var hN hv hd hcd pins s σ H Q I ?_
  unfold tV at h
  split at h
  · rename_i v e
    exact ⟨v, e, h⟩
  · exact h.elim

/-! ### operations, read by the values' shapes -/
def rI2 (g : Int → Int → V) : R2 := fun x y H Q => match x, y with
  | .int i, .int j => Q (g i j) H
  | _, _ => False
def rIC (C : Int → Int → Prop) (g : Int → Int → V) : R2 := fun x y H Q => match x, y with
  | .int i, .int j => C i j ∧ Q (g i j) H
  | _, _ => False
theorem OpR.i2 {X : Cx} {f : Value → Value → Sem Value} {g : Int → Int → V} (h : OpR X f (rI0 g)) : OpR X f (rI2 g) := h.imp fun x y H Q q => by
  cases x <;> cases y <;> first | exact ⟨_, _, rfl, rfl, q⟩ | exact (show False from q).elim
theorem OpR.ic {X : Cx} {f : Value → Value → Sem Value} {C : Int → Int → Prop} {g : Int → Int → V} (h : OpR X f (rI C g)) : OpR X f (rIC C g) := h.imp fun x y H Q q => by
  cases x <;> cases y <;> first | exact ⟨_, _, rfl, rfl, q.1, q.2⟩ | exact (show False from q).elim
section
variable {X : Cx}
def rAddM : R2 := fun x y H Q => match x, y with
  | .int i, .int j => Q (.int (i + j)) H
  | .str i, .str j => i.length + j.length ≤ sizeLine ∧ Q (.str (i ++ j)) H
  | _, _ => False
theorem o_add : OpR X (binaryOp .Add) rAddM := (op_add.or op_add_str).imp fun x y H Q q => by
  cases x <;> cases y <;> first | exact .inl ⟨_, _, rfl, rfl, q⟩ | exact .inr ⟨_, _, rfl, rfl, q.1, q.2⟩ | exact (show False from q).elim
theorem o_sub : OpR X (binaryOp .Sub) (rI2 fun i j => .int (i - j)) := op_sub.i2
def CPos (i j : Int) : Prop := 0 < j
def CNn (i j : Int) : Prop := 0 ≤ j
theorem cp {i j : Int} (h : 0 < j := by decide) : CPos i j := h
theorem cn {i j : Int} (h : 0 ≤ j := by decide) : CNn i j := h
theorem cd {i j : Int} (h : 0 < j := by decide) (h2 : j < 1073741824 := by decide) : CDiv i j := ⟨h, h2⟩
theorem cw {i j : Int} (h : 0 ≤ j := by decide) (h2 : j ≤ 1000000 := by decide) (h3 : i.natAbs < 2 ^ 64 := by decide) : CPow i j := ⟨h, h2, h3⟩
theorem cl {i j : Int} (h : -(2 ^ 64) < i := by decide) (h2 : i < 2 ^ 64 := by decide) : CMul i j := .inl ⟨h, h2⟩
theorem cr {i j : Int} (h : -(2 ^ 64) < j := by decide) (h2 : j < 2 ^ 64 := by decide) : CMul i j := .inr ⟨h, h2⟩
theorem o_mod : OpR X (binaryOp .Mod) (rIC CPos fun i j => .int (i % j)) := op_mod.ic
theorem o_pow : OpR X (binaryOp .Pow) (rIC CPow fun i j => .int (i ^ j.toNat)) := op_pow.ic
theorem o_shr : OpR X (binaryOp .RShift) (rIC CNn fun i j => .int (i / 2 ^ j.toNat)) := op_shr.ic
theorem op_le_str : OpR X (compareOp .LtE) (fun x y H Q => ∃ i j, x = .str i ∧ y = .str j ∧ Q (.bl (!decide (j.cps.toList < i.cps.toList))) H) := by
  intro pins s σ H x y v u Q I rx ry h
  obtain ⟨i, j, rfl, rfl, q⟩ := h
  obtain ⟨t, rfl⟩ := rx
  obtain ⟨t', rfl⟩ := ry
  exact PySem.P.le_str (fin_bl I q rfl)
def rCmpM (f : Int → Int → Bool) (g : Str → Str → Bool) : R2 := fun x y H Q => match x, y with
  | .int i, .int j => Q (.bl (f i j)) H
  | .str i, .str j => Q (.bl (g i j)) H
  | _, _ => False
theorem o_lt : OpR X (compareOp .Lt) (rCmpM (fun i j => decide (i < j)) fun i j => decide (i.cps.toList < j.cps.toList)) := (op_lt.or op_lt_str).imp fun x y H Q q => by
  cases x <;> cases y <;> first | exact .inl ⟨_, _, rfl, rfl, q⟩ | exact .inr ⟨_, _, rfl, rfl, q⟩ | exact (show False from q).elim
theorem o_le : OpR X (compareOp .LtE) (rCmpM (fun i j => decide (i ≤ j)) fun i j => !decide (j.cps.toList < i.cps.toList)) := (op_le.or op_le_str).imp fun x y H Q q => by
  cases x <;> cases y <;> first | exact .inl ⟨_, _, rfl, rfl, q⟩ | exact .inr ⟨_, _, rfl, rfl, q⟩ | exact (show False from q).elim
theorem o_gt : OpR X (compareOp .Gt) (rI2 fun i j => .bl (decide (j < i))) := op_gt.i2
theorem o_ge : OpR X (compareOp .GtE) (rI2 fun i j => .bl (decide (j ≤ i))) := op_ge.i2
/-- == of two values without objects; the deep one is o_eqD -/
def rEqM (neg : Bool) : R2 := fun x y H Q => match x, y with
  | .int i, .int j => Q (.bl (if neg then !decide (i = j) else decide (i = j))) H
  | .str i, .str j => Q (.bl (if neg then !decide (i = j) else decide (i = j))) H
  | .bl i, .bl j => Q (.bl (if neg then !decide (i = j) else decide (i = j))) H
  | .non, .non => Q (.bl (!neg)) H
  | .non, .int _ => Q (.bl neg) H
  | .non, .str _ => Q (.bl neg) H
  | .non, .bl _ => Q (.bl neg) H
  | .int _, .non => Q (.bl neg) H
  | .str _, .non => Q (.bl neg) H
  | .bl _, .non => Q (.bl neg) H
  | .int _, .str _ => Q (.bl neg) H
  | .str _, .int _ => Q (.bl neg) H
  | _, _ => False
theorem o_eq : OpR X (compareOp .Eq) (rEqM false) := op_eq.imp fun x y H Q q => by
  cases x <;> cases y <;> first | exact (show False from q).elim | (refine ⟨rfl, ?_⟩; revert q; simp [rEqM])
theorem o_ne : OpR X (compareOp .NotEq) (rEqM true) := op_ne.imp fun x y H Q q => by
  cases x <;> cases y <;> first | exact (show False from q).elim | (refine ⟨rfl, ?_⟩; revert q; simp [rEqM])
def rU1 (g : Int → V) : V → Hp → VK → Prop := fun x H Q => match x with
  | .int i => Q (g i) H
  | _ => False
theorem u_neg : UnR X (unaryOp .USub) (rU1 fun i => .int (-i)) := fun pins s σ H x v Q I r q => un_neg pins s σ H x v Q I r (by
  cases x <;> first | exact ⟨_, rfl, q⟩ | exact (show False from q).elim)
theorem o_isnot : OpR X (compareOp .IsNot) (fun x y H Q => match y with | .non => Q (.bl (!decide (x = .non))) H | _ => False) := op_notN.imp fun x y H Q q => by
  cases y <;> first | exact ⟨rfl, q⟩ | exact (show False from q).elim
/-! ### truths -/
def mB (Q : Bool → Hp → Prop) : VK := fun x H => match x with
  | .bl c => Q c H
  | _ => False
variable {a b c : Expr} {ta tb tc : TE} {pos : Pos} {rest : List Expr}
def mAnd (ta tb : TE) : TE := fun σ H Q => ta σ H (mB fun c H1 => if c = true then tb σ H1 Q else Q (.bl false) H1)
def mNot (ta : TE) : TE := fun σ H Q => ta σ H (mB fun c H1 => Q (.bl (!c)) H1)
theorem mB_iff {Q : Bool → Hp → Prop} {x : V} {H : Hp} (h : mB Q x H) : ∃ c, x = .bl c ∧ Q c H := by
  cases x <;> first | exact ⟨_, rfl, h⟩ | exact (show False from h).elim
theorem m_and (ha : PE X a ta) (hb : PE X (.BoolOp .And (b :: rest) pos) tb) : PE X (.BoolOp .And (a :: b :: rest) pos) (mAnd ta tb) := by
  intro pins s σ H Q I h
  refine BoolOp_and (thn (ha pins s σ H _ I h) fun v s1 ⟨x, H1, I1, r1, q1⟩ => ?_)
  obtain ⟨c, rfl, q1⟩ := mB_iff q1
  cases r1
  refine wpAny_truthy_bool ?_
  cases c with
  | true => exact hb pins s1 σ H1 Q I1 q1
  | false => exact ⟨.bl false, H1, I1, rfl, q1⟩
theorem m_not (ha : PE X a ta) : PE X (.UnaryOp .Not a pos) (mNot ta) := by
  intro pins s σ H Q I h
  refine UnaryOp_ (thn (ha pins s σ H _ I h) fun v s1 ⟨x, H1, I1, r1, q1⟩ => ?_)
  obtain ⟨c, rfl, q1⟩ := mB_iff q1
  cases r1
  exact not_of (wpAny_truthy_bool ⟨.bl (!c), H1, I1, rfl, q1⟩)
/-- a test that is a bool's expression -/
def mT (t : TE) : TT := fun σ H Q => t σ H (mB Q)
theorem t_val (h : PE X a ta) (he : ∀ whole, isTrue a X.env whole = (do let v ← whole; standAt a.pos; holding [v] (truthy v)) := by intro _; rfl) : PT X a (mT ta) := by
  intro pins s σ H Q I hw
  refine isTrue_plain (thn (h pins s σ H _ I hw) fun v s1 ⟨x, H1, I1, r1, q1⟩ => ?_) (he _)
  obtain ⟨d, rfl, q⟩ := mB_iff q1
  cases r1
  exact wpAny_truthy_bool ⟨H1, I1, q⟩
theorem t_cmp {op : CmpOp} {r : R2} (ho : OpR X (compareOp op) r) (ha : PE X a ta) (hb : PE X b tb) (hm : behindInMarks op b = false) : PT X (.Compare a [op] [b] pos) (mT (tOp r ta tb)) := by
  intro pins s σ H Q I h
  refine wpAny_isTrue_Compare1 (thn (ha pins s σ H _ I h) fun v s1 ⟨x, H1, I1, r1, q1⟩ => thn (hb pins s1 σ H1 _ I1 q1) fun u s2 ⟨y, H2, I2, r2, q2⟩ =>
    thn (ho pins s2 σ H2 x y v u _ I2 r1 r2 q2) fun c s3 ⟨z, H3, I3, r3, q3⟩ => ?_) hm
  obtain ⟨k, rfl, q3⟩ := mB_iff q3
  cases r3
  exact wpAny_truthy_bool ⟨H3, I3, q3⟩
def mChain (r r' : R2) (ta tb tc : TE) : TE := fun σ H Q => ta σ H fun x H1 => tb σ H1 fun y H2 => r x y H2 (mB fun k H3 => if k = true then tc σ H3 fun w' H4 => r' y w' H4 Q else Q (.bl false) H3)
theorem m_chain {op op' : CmpOp} {r r' : R2} (ho : OpR X (compareOp op) r) (ho' : OpR X (compareOp op') r') (ha : PE X a ta) (hb : PE X b tb) (hc : PE X c tc)
    (hm : lastMarks [op, op'] [b, c] = false := by with_unfolding_all rfl) : PE X (.Compare a [op, op'] [b, c] pos) (mChain r r' ta tb tc) := by
  intro pins s σ H Q I h
  refine Compare_chain (thn (ha pins s σ H _ I h) fun v s1 ⟨x, H1, I1, r1, q1⟩ => chain_link (thn (hb pins s1 σ H1 _ I1 q1) fun u s2 ⟨y, H2, I2, r2, q2⟩ =>
    thn (ho pins s2 σ H2 x y v u _ I2 r1 r2 q2) fun d s3 ⟨z, H3, I3, r3, q3⟩ => ?_)) hm
  obtain ⟨k, rfl, q3⟩ := mB_iff q3
  cases r3
  refine wpAny_truthy_bool ?_
  cases k with
  | false => exact ite_ff ⟨.bl false, H3, I3, rfl, q3⟩
  | true => exact ite_tt (chain_last (thn (hc pins s3 σ H3 _ I3 q3) fun w' s4 ⟨z', H4, I4, r4, q4⟩ => ho' pins s4 σ H4 y z' u w' Q I4 r2 r4 q4))
/-! ### isinstance -/
open PySem.W in
theorem kit_of {pins : List (Addr × Obj)} {σ : St} {H : Hp} {s : Shared} {x : V} {u t : Value} (I : Inv X pins σ H s) (rx : RelV x u) (ty : TyOf X.K H x t) :
    ∃ Hh : Heap → Prop, KitX X.K u t Hh ∧ Hh s.heap ∧ u ≠ .builtin "__main__.__loader__#opaque" := by
  cases ty with
  | non => cases (show u = Value.none from rx); exact ⟨_, PySem.W.kitx_none, True.intro, fun z => nomatch z⟩
  | bl y => cases (show u = Value.bool y from rx); exact ⟨_, PySem.W.kitx_bool, True.intro, fun z => nomatch z⟩
  | int i => obtain ⟨t, q⟩ := (show ∃ t, u = Value.int i t from rx); cases q; exact ⟨_, PySem.W.kitx_int, True.intro, fun z => nomatch z⟩
  | str y => obtain ⟨t, q⟩ := (show ∃ t, u = Value.str y t from rx); cases q; exact ⟨_, PySem.W.kitx_str, True.intro, fun z => nomatch z⟩
  | flt y => obtain ⟨t, q⟩ := (show ∃ t, u = Value.float y t from rx); cases q; exact ⟨_, PySem.W.kitx_float, True.intro, fun z => nomatch z⟩
  | @lst a xs ea =>
    cases (show u = Value.ref a from rx)
    obtain ⟨_, _, n, _, h1⟩ := (show ObjOk X.prog X.w H s.heap a (.lst xs) from I.hok a _ ea)
    exact ⟨_, PySem.W.kitx_list, ⟨_, h1, rfl⟩, fun z => nomatch z⟩
  | @frz a ob xs ea =>
    cases (show u = Value.ref a from rx)
    obtain ⟨_, _, _, n, _, h1⟩ := (show ObjOk X.prog X.w H s.heap a (.frz ob (.lst xs)) from I.hok a _ ea)
    exact ⟨_, PySem.W.kitx_list, ⟨_, h1, rfl⟩, fun z => nomatch z⟩
  | @tup a xs ea =>
    cases (show u = Value.ref a from rx)
    obtain ⟨_, _, _, p⟩ := (show ObjOk X.prog X.w H s.heap a (.tup xs) from I.hok a _ ea)
    obtain ⟨o, h1, h2, _⟩ := p
    exact ⟨_, PySem.W.kitx_tuple, ⟨o, h1, h2⟩, fun z => nomatch z⟩
  | @dK a kvs ea =>
    cases (show u = Value.ref a from rx)
    obtain ⟨_, _, vs, _, p⟩ := (show ObjOk X.prog X.w H s.heap a (.dK kvs) from I.hok a _ ea)
    obtain ⟨o, es, ep, h1, h2, _⟩ := p
    exact ⟨_, PySem.W.kitx_dict, ⟨o, h1, h2.1⟩, fun z => nomatch z⟩
  | @dT a kvs ea =>
    cases (show u = Value.ref a from rx)
    obtain ⟨_, _, xs, _, o, es, ep, h1, h2, _⟩ := (show ObjOk X.prog X.w H s.heap a (.dT kvs) from I.hok a _ ea)
    exact ⟨_, PySem.W.kitx_dict, ⟨o, h1, h2.1⟩, fun z => nomatch z⟩
  | @ins a C dx fs ea cl ha hn htk hm =>
    cases (show u = Value.ref a from rx)
    obtain ⟨mA, O, _⟩ := ins_get I.hok ea
    obtain ⟨od, J, _⟩ := O.look
    exact ⟨_, PySem.W.kitx_own (cl.get _) cl.hd ha hn htk hm, J, fun z => nomatch z⟩
def cVal : V → Value
  | .ty n => .type n
  | .ref a => .ref a
  | _ => .none
def isCls : V → Bool
  | .ty _ => true
  | .ref _ => true
  | _ => false
theorem cVal_of {c : V} {u : Value} (h : isCls c = true) (r : RelV c u) : u = cVal c := by
  cases c <;> first | exact r | exact absurd (show false = true from h) Bool.false_ne_true
/-- isinstance(x, C): the type of x, then kitOne's answer -/
def rIsi (K : PySem.W.Frag) : List V → Hp → VK → Prop := fun xs H Q => ∃ x c t b, xs = [x, c] ∧ isCls c = true ∧ TyOf K H x t ∧ PySem.W.kitOne K t (cVal c) = some b ∧ Q (.bl b) H
theorem call_isi : CallR X (.builtin "isinstance") (rIsi X.K) := by
  intro pins s σ H xs us Q I r h
  obtain ⟨x, c, t, b, rfl, hc, ty, e, q⟩ := h
  obtain ⟨u, w', rfl, rx, rc⟩ := vals2 r
  cases cVal_of hc rc
  obtain ⟨Hh, Z, p, hx⟩ := kit_of I rx ty
  exact PySem.W.kia_one Z I.kIn p e hx fun tk => ⟨.bl b, H, I.tok tk, rfl, q⟩

/-! ### all -/
/-! ### x in range(a, b) -/
end
end L2

set_option Elab.async false
set_option linter.all false
set_option maxRecDepth 100000
set_option maxHeartbeats 4000000
namespace L2
open PySem PySem.Spec PyProof.Rows

theorem and_if {Q : V → Prop} {p r : Prop} [Decidable p] [Decidable r] (q : Q (.bl (decide (p ∧ r)))) : if decide p = true then Q (.bl (decide r)) else Q (.bl false) := by
  by_cases h : p
  · rw [if_pos (decide_eq_true h)]
    have e : decide (p ∧ r) = decide r := by by_cases z : r <;> simp [h, z]
    rw [← e]; exact q
  · rw [if_neg (fun z => h (of_decide_eq_true z))]
    have e : decide (p ∧ r) = false := decide_eq_false fun z => h z.1
    rw [← e]; exact q
theorem ifP {c : Prop} [Decidable c] {A B : Prop} (hc : c) (h : A) : if decide c = true then A else B := by rw [if_pos (decide_eq_true hc)]; exact h
theorem ifN {c : Prop} [Decidable c] {A B : Prop} (hc : ¬ c) (h : B) : if decide c = true then A else B := by rw [if_neg (fun z => hc (of_decide_eq_true z))]; exact h
theorem ifC {c : Prop} [Decidable c] {A B : Prop} (h1 : c → A) (h2 : ¬ c → B) : if decide c = true then A else B := by
  by_cases h : c
  · exact ifP h (h1 h)
  · exact ifN h (h2 h)
theorem bt_len : bootBuiltins "len" = some (.builtin "len") := by decide +kernel
theorem bt_isinstance : bootBuiltins "isinstance" = some (.builtin "isinstance") := by decide +kernel
theorem bt_min : bootBuiltins "min" = some (.builtin "min") := by decide +kernel
theorem bt_max : bootBuiltins "max" = some (.builtin "max") := by decide +kernel
theorem bt_enumerate : bootBuiltins "enumerate" = some (.type "enumerate") := by decide +kernel
theorem bt_zip : bootBuiltins "zip" = some (.type "zip") := by decide +kernel
theorem bt_str : bootBuiltins "str" = some (.type "str") := by decide +kernel
theorem bt_int : bootBuiltins "int" = some (.type "int") := by decide +kernel
theorem bt_bool : bootBuiltins "bool" = some (.type "bool") := by decide +kernel
theorem bt_list : bootBuiltins "list" = some (.type "list") := by decide +kernel
theorem bt_tuple : bootBuiltins "tuple" = some (.type "tuple") := by decide +kernel
theorem bt_ValueError : bootBuiltins "ValueError" = some (.type "ValueError") := by decide +kernel

theorem pe_gl {X : Cx} {x : Str} {v : V} {pos : Pos} (hg : Gl X x) (h : ∃ u, X.mg x = some u ∧ RelV v u) (hd : (x == ("__debug__" : Str)) = false := by decide) : PE X (.Name x pos) (tC v) :=
  let ⟨_, e, r⟩ := h
  pe_glob hg e r hd

/-- what a loop walks, by the value -/
def iAny (K : PySem.W.Frag) (tl : TE) : TI := fun σ H R => tl σ H fun x H1 => match x with
  | .str z => R (Its z) H1
  | .ref a => ((∃ xs, SqL K H1 a xs) ∧ R (Itl K a) H1) ∨ ((∃ xs, SqT K H1 a xs) ∧ R (Itt K a) H1)
  | _ => False
theorem pi_any {X : Cx} {tg l : Expr} {tl : TE} (hl : PE X l tl) : PI X tg l (iAny X.K tl) := by
  intro pins s σ H R I h
  have hl1 : PE X l tl := hl
  refine thn (hl pins s σ H _ I h) fun v s1 ⟨x, H1, I1, r1, q1⟩ => ?_
  cases x with
  | str z =>
    have := pi_str (X := X) (tg := tg) (l := l) (tl := tC (.str z)) 
    obtain ⟨t, rfl⟩ := r1
    refine wpAny_pyIter_strU ?_
    refine ⟨s1.heap.objs.size, [s1.heap.objs.size], _, _, H1, rfl, I1.kept (t' := s1.toks) fun b o e => Heap.get?_push_of_some _ e, turn_str (ty := strIterType z) (t := t) z _ ?_, ⟨_, Heap.get?_push_size _ rfl, rfl, rfl⟩, fun b hb => ?_, q1⟩
    · unfold strIterType
      split
      · exact .inl rfl
      · exact .inr rfl
    · have e : b = s1.heap.objs.size := by simpa using hb
      subst e
      exact I1.fpOk (Nat.le_refl _) (I1.hok.fresh (Nat.le_refl _))
  | ref a =>
    cases r1
    rcases q1 with ⟨⟨xs, hq⟩, q⟩ | ⟨⟨xs, hq⟩, q⟩
    · obtain ⟨its, rv, p, hz⟩ := I1.list hq
      refine wpAny_pyIter_list p.isList ?_
      refine ⟨s1.heap.objs.size, [s1.heap.objs.size], _, _, H1, rfl, I1.kept (t' := s1.toks) fun b o e => Heap.get?_push_of_some _ e, turn_list a _, ⟨_, Heap.get?_push_size _ rfl, rfl, rfl⟩, fun b hb => ?_, q⟩
      have e : b = s1.heap.objs.size := by simpa using hb
      subst e
      exact I1.fpOk (Nat.le_refl _) (I1.hok.fresh (Nat.le_refl _))
    · obtain ⟨its, rv, p, hz⟩ := I1.tuple hq
      refine wpAny_pyIter_tuple (show s1.heap.IsTuple a its.toArray from p) ?_
      refine ⟨s1.heap.objs.size, [s1.heap.objs.size], _, _, H1, rfl, I1.kept (t' := s1.toks) fun b o e => Heap.get?_push_of_some _ e, turn_tuple a _, ⟨_, Heap.get?_push_size _ rfl, rfl, rfl⟩, fun b hb => ?_, q⟩
      have e : b = s1.heap.objs.size := by simpa using hb
      subst e
      exact I1.fpOk (Nat.le_refl _) (I1.hok.fresh (Nat.le_refl _))
  | _ => exact (show False from q1).elim

theorem call_lenM {X : Cx} : CallR X (.builtin "len") (fun xs H Q => match xs with
    | [.str z] => z.length ≤ sizeLine ∧ Q (.int z.length) H
    | [.ref p] => ∃ ys, (SqL X.K H p ys ∨ SqT X.K H p ys) ∧ Q (.int ys.length) H
    | _ => False) := (call_len_str.or call_len_seq).imp fun xs H Q q => by
  match xs, q with
  | [.str z], q => exact .inl ⟨z, rfl, q.1, q.2⟩
  | [.ref p], q => obtain ⟨ys, h, q⟩ := q; exact .inr ⟨p, ys, rfl, h, q⟩

/-! ### a comprehension, by what it walks -/
section
variable {D : Addr} {σb : St} {g : TG} {tt : TT} {te : TE} {Q : Hp → List V → Prop} {H : Hp} {K : PySem.W.Frag}
/-- what one turn asks -/
def CompT (D : Addr) (σb : St) (g : TG) (tt : TT) (te : TE) (x : V) (ys : List V) (H : Hp) (P : List V → Hp → Prop) : Prop :=
  g x σb H fun σ4 H4 => Wk σb σ4 ∧ tt σ4 H4 fun b H5 => if b = true then te σ4 H5 fun y H6 => H6 D = some (.lst ys) ∧ ys.length < sizeLine ∧ P (ys ++ [y]) (upd H6 D (.lst (ys ++ [y]))) else P ys H5
theorem comp_list {a : Addr} {xs : List V} (Pv : Nat → List V → Hp → Prop) (h0 : Pv 0 [] H) (hq : ∀ i ys H, Pv i ys H → SqL K H a xs) (hl : ∀ i ys H, Pv i ys H → H D = some (.lst ys))
    (hs : ∀ (i : Nat) x ys H P, xs[i]? = some x → Pv i ys H → (∀ a b, Pv (i + 1) a b → P a b) → CompT D σb g tt te x ys H P) (hd : ∀ ys H, Pv xs.length ys H → Q H ys) : ∃ W, (∃ m, W 0 m [] H) ∧ CompW (Itl K a) D σb g tt te Q W := by
  refine ⟨fun i m ys H => m = xs.length - i ∧ i ≤ xs.length ∧ Pv i ys H, ⟨_, rfl, Nat.zero_le _, h0⟩, ?_⟩
  rintro i m ys H ⟨rfl, hi, p⟩
  refine ⟨hl i ys H p, ?_⟩
  have q := hq i ys H p
  by_cases hlt : i < xs.length
  · refine .inr ⟨⟨xs, xs[i], q, by simp [hlt]⟩, fun x H3 y => ?_⟩
    obtain ⟨rfl, y⟩ := y
    exact hs i x ys _ (fun a b => ∃ m', m' < xs.length - i ∧ m' = xs.length - (i + 1) ∧ i + 1 ≤ xs.length ∧ Pv (i + 1) a b) (y xs q) p (fun a b q => ⟨xs.length - (i + 1), by omega, rfl, hlt, q⟩)
  · have e : i = xs.length := by omega
    subst e
    exact .inl ⟨⟨xs, q, Nat.le_refl _⟩, hd ys H p⟩
end

/-! ### heaps that have grown -/
theorem Same.new {H : Hp} {p : Addr} {o : HO} (h : H p = none) : Same H (upd H p o) := fun b u e => by rw [upd_ne (ne_of_none e h)]; exact e
theorem Same.sqT {K : PySem.W.Frag} {H H' : Hp} {a : Addr} {xs : List V} (e : Same H H') (h : SqT K H a xs) : SqT K H' a xs := by
  rcases h with (h | ⟨o, h⟩) | h
  · exact .inl (.inl (e _ _ h))
  · exact .inl (.inr ⟨o, e _ _ h⟩)
  · exact .inr h
/-! ### deep data -/
mutual
def DV (K : PySem.W.Frag) (H : Hp) : PyData → V → Prop
  | .none, x => x = .non
  | .bool b, x => x = .bl b
  | .int i, x => x = .int i
  | .str z, x => x = .str z
  | .list ds, x => ∃ a xs, x = .ref a ∧ SqL K H a xs ∧ DVs K H ds xs
  | .tuple ds, x => ∃ a xs, x = .ref a ∧ SqT K H a xs ∧ DVs K H ds xs
  | .dict _, _ => False
def DVs (K : PySem.W.Frag) (H : Hp) : List PyData → List V → Prop
  | [], xs => xs = []
  | d :: ds, xs => ∃ y ys, xs = y :: ys ∧ DV K H d y ∧ DVs K H ds ys
end
mutual
theorem DV.same {K : PySem.W.Frag} {H H' : Hp} (e : Same H H') : ∀ {d : PyData} {x : V}, DV K H d x → DV K H' d x
  | .none, x, h => by simpa [DV] using h
  | .bool b, x, h => by simpa [DV] using h
  | .int i, x, h => by simpa [DV] using h
  | .str z, x, h => by simpa [DV] using h
  | .list ds, x, h => by
    rw [DV] at h ⊢
    obtain ⟨a, xs, h1, h2, h3⟩ := h
    exact ⟨a, xs, h1, e.seq h2, DVs.same e h3⟩
  | .tuple ds, x, h => by
    rw [DV] at h ⊢
    obtain ⟨a, xs, h1, h2, h3⟩ := h
    exact ⟨a, xs, h1, e.sqT h2, DVs.same e h3⟩
  | .dict _, x, h => by rw [DV] at h; exact h.elim
theorem DVs.same {K : PySem.W.Frag} {H H' : Hp} (e : Same H H') : ∀ {ds : List PyData} {xs : List V}, DVs K H ds xs → DVs K H' ds xs
  | [], xs, h => by simpa [DVs] using h
  | d :: ds, xs, h => by
    rw [DVs] at h ⊢
    obtain ⟨y, ys, h1, h2, h3⟩ := h
    exact ⟨y, ys, h1, DV.same e h2, DVs.same e h3⟩
end
section
variable {X : Cx} {pins : List (Addr × Obj)} {σ : St} {H : Hp} {s : Shared}
mutual
theorem DV.reads (I : Inv X pins σ H s) : ∀ {d : PyData} {x : V} {u : Value}, DV X.K H d x → RelV x u → ∃ as, Reads s.heap u d as
  | .none, x, u, h, r => by
    rw [DV] at h; subst h; cases r; exact ⟨_, .none⟩
  | .bool b, x, u, h, r => by
    rw [DV] at h; subst h; cases r; exact ⟨_, .bool b⟩
  | .int i, x, u, h, r => by
    rw [DV] at h; subst h; obtain ⟨t, rfl⟩ := r; exact ⟨_, .int i t⟩
  | .str z, x, u, h, r => by
    rw [DV] at h; subst h; obtain ⟨t, rfl⟩ := r; exact ⟨_, .str z t⟩
  | .list ds, x, u, h, r => by
    rw [DV] at h
    obtain ⟨a, xs, rfl, h2, h3⟩ := h
    cases r
    obtain ⟨its, rv, ⟨o, n, e, c, _, d⟩, _⟩ := I.list h2
    obtain ⟨as, q⟩ := DVs.reads I h3 rv
    exact ⟨_, .list e c d (by simpa using q)⟩
  | .tuple ds, x, u, h, r => by
    rw [DV] at h
    obtain ⟨a, xs, rfl, h2, h3⟩ := h
    cases r
    obtain ⟨its, rv, ⟨o, e, c, n, d⟩, _⟩ := I.tuple h2
    obtain ⟨as, q⟩ := DVs.reads I h3 rv
    exact ⟨_, .tuple e c d (by simpa using q)⟩
  | .dict _, x, u, h, r => by rw [DV] at h; exact h.elim
theorem DVs.reads (I : Inv X pins σ H s) : ∀ {ds : List PyData} {xs : List V} {us : List Value}, DVs X.K H ds xs → Vals xs us → ∃ as, ReadsAll s.heap us ds as
  | [], xs, us, h, r => by
    rw [DVs] at h; subst h; cases r; exact ⟨_, .nil⟩
  | d :: ds, xs, us, h, r => by
    rw [DVs] at h
    obtain ⟨y, ys, rfl, h2, h3⟩ := h
    cases r with
    | cons r rs =>
      obtain ⟨as, q⟩ := DV.reads I h2 r
      obtain ⟨bs, p⟩ := DVs.reads I h3 rs
      exact ⟨_, .cons q p⟩
end
end
/-- == of data, whatever its depth -/
def rEqD (K : PySem.W.Frag) (neg : Bool) : R2 := fun x y H Q => ∃ d e, DV K H d x ∧ DV K H e y ∧ SeqAt.shaped d = true ∧ SeqAt.shaped e = true ∧ Q (.bl (if neg then !PyData.eqv d e else PyData.eqv d e)) H
theorem o_eqD {X : Cx} (hu : X.A.units + 64 < cLine) : OpR X (compareOp .Eq) (rEqD X.K false) := by
  intro pins s σ H x y v u Q I rx ry h
  obtain ⟨d, e, h1, h2, s1, s2, q⟩ := h
  obtain ⟨as, ra⟩ := h1.reads I rx
  obtain ⟨bs, rb⟩ := h2.reads I ry
  exact eq_dataH ra rb s1 s2 hu ⟨.bl _, H, I, rfl, q⟩
end L2

set_option Elab.async false
set_option linter.all false
set_option maxRecDepth 100000
set_option maxHeartbeats 4000000
namespace L2
open PySem PySem.Spec PyProof.Rows

/-! ### texts: slices, methods, numbers -/
section
variable {X : Cx}
theorem SlR.imp {r r' : V → Option Int → Option Int → Hp → VK → Prop} (h : SlR X r) (i : ∀ x lo hi H Q, r' x lo hi H Q → r x lo hi H Q) : SlR X r' :=
  fun pins s σ H x v vl vu lo hi sl Q I rx hs pl pu q => h pins s σ H x v vl vu lo hi sl Q I rx hs pl pu (i x lo hi H Q q)
theorem MtR.imp {id : String} {r r' : V → List V → Hp → VK → Prop} (h : MtR X id r) (i : ∀ x xs H Q, r' x xs H Q → r x xs H Q) : MtR X id r' :=
  fun pins s σ H x xs v us Q I rx rs q => h pins s σ H x xs v us Q I rx rs (i x xs H Q q)
/-- t.startswith(u) -/
def rStarts : V → List V → Hp → VK → Prop := fun x xs H Q => match x, xs with
  | .str z, [.str y] => Q (.bl (Txt.startswith z y)) H
  | _, _ => False
theorem mt_starts : MtR X "str.startswith" rStarts := by
  intro pins s σ H x xs v us Q I rx rs q
  match x, xs, q with
  | .str z, [.str y], q =>
    obtain ⟨t, rfl⟩ := rx
    obtain ⟨u, rfl, t', rfl⟩ := vals1 rs
    exact SC.startswith ⟨.bl _, H, I, rfl, q⟩
/-- str(i) -/
theorem call_strI : CallR X (.type "str") (fun xs H Q => match xs with
    | [.int i] => i.natAbs.log2 < 1920 ∧ Q (.str (toString i)) H
    | _ => False) := call_str_int.imp fun xs H Q q => by
  match xs, q with
  | [.int i], q => exact ⟨i, rfl, q.1, q.2⟩
variable {o e : Expr} {es : List Expr} {to : TE} {t : TA} {apos cpos : Pos}
theorem pe_m.startswith (ho : PE X o to) (ha : PA X (e :: es) t)
    (hbase : attributeBase o "startswith" X.env (eval o X.env) = eval o X.env := by rfl)
    (hfew : ((backTo cpos (starEach (e :: es) X.env)).all (fun x => !x.1) && (backToKw cpos (keywordEach [] X.env)).all (fun x => x.1.isSome)
      && decide ((e :: es).length + ([] : List Keyword).length + (if ([] : List Keyword).isEmpty then 0 else 1) < 30)) = true := by rfl)
    (hline : (apos.endLine == cpos.line) = true := by rfl) (hs : starEach (e :: es) X.env = (false, eval e X.env) :: starEach es X.env := by rfl) (hplain : (backTo cpos (starEach es X.env)).any (·.1) = false := by rfl) :
    PE X (.Call (.Attribute o "startswith" apos) (e :: es) [] cpos) (tBM X.K "str" rStarts to t) := pe_bm F.plainAttrs_str F.slot_str_startswith F.type_str_startswith mt_starts ho ha hbase hfew hline hs hplain
end
end L2

set_option Elab.async false
set_option linter.all false
set_option maxRecDepth 100000
set_option maxHeartbeats 4000000
namespace L2
open PySem PySem.Spec PyProof.Rows
/-! ### joins: what holds behind a part, said once -/
section
variable {X : Cx} {st : Stmt} {rest : List Stmt} {t u : TS} {e : Expr} {te : TE} {tt : TT}
def tSeqM (t u : TS) : TS := fun D σ H => ∃ M : St → Hp → Prop, t { D with nx := M } σ H ∧ ∀ σ' H', M σ' H' → u D σ' H'
theorem pss_consM (h1 : PS X st t) (h2 : PSs X rest u) : PSs X (st :: rest) (tSeqM t u) := by
  intro pins s σ H D I h
  obtain ⟨M, h, hm⟩ := h
  refine wpAny_execs_cons (thn (h1 pins s σ H { D with nx := M } I h) fun f s1 q => ?_)
  cases f with
  | next =>
    obtain ⟨σ', H', I', q⟩ := q
    exact h2 pins s1 σ' H' D I' (hm _ _ q)
  | ret v => exact q
  | brk => exact q
  | cont => exact q
end
end L2

set_option Elab.async false
set_option linter.all false
set_option maxRecDepth 100000
set_option maxHeartbeats 4000000
namespace L2
open PySem PySem.Spec PyProof.Rows
/-! ### iterators of several records; enumerate, zip -/
section
variable {X : Cx} {pins : List (Addr × Obj)} {σ : St} {H : Hp} {s : Shared} {h' : Heap}
/-- records of ours have turned, a thing may have been laid -/
theorem Inv.turnedNew {t' : Nat} {ch : List Addr} {a : Addr} {o : HO} (I : Inv X pins σ H s) (k : ∀ b u, b ∉ ch → s.heap.get? b = some u → h'.get? b = some u) (hf : ∀ b ∈ ch, FpOk X pins H b)
    (ha : s.heap.objs.size ≤ a) (new : ObjOk X.prog X.w (upd H a o) h' a o) : Inv X pins σ (upd H a o) { s with heap := h', toks := t' } := by
  have hna : H a = none := I.hok.fresh ha
  have nch : ∀ b u, H b = some u → b ∉ ch := fun b u e z => by
    rw [(hf b z).1] at e
    cases e
  have nea : ∀ b u, H b = some u → b ≠ a := fun b u e z => by
    rw [z, hna] at e
    cases e
  have old : ∀ b u, s.heap.get? b = some u → b ≠ a := fun b u e => Nat.ne_of_lt (Nat.lt_of_lt_of_le (Heap.lt_size e) ha)
  refine I.step (g' := s.gens) (d' := s.drawn) (ch := ch) (fun b hb => ?_) (fun b u _ _ hc e _ => k b u hc e) (fun b u _ _ hc e _ => ⟨u.slots, k b u hc e⟩) (fun b u _ e n => ?_) (fun b u hc e => ⟨u, k b u hc e⟩)
    (fun b xs e => ?_) (fun b u v e => ?_) (fun b ps e => ⟨#[], ?_⟩) (fun m hm => ?_) (fun b u e => ?_) I.bare
  · obtain ⟨_, f1, _, f3, f4, f5⟩ := hf b hb
    exact ⟨f3, f1, f4, f5⟩
  · rw [upd_ne (old b u e)]; exact n
  · rw [upd_ne (nea b _ e)]; exact e
  · rw [upd_ne (nea b _ e)]; exact e
  · rw [upd_ne (nea b _ e), e]; simp
  · obtain ⟨ob, es, ep, ho, r⟩ := hm
    exact ⟨ob, es, ep, k _ ob (fun z => (hf _ z).2.1 rfl) ho, r⟩
  · by_cases hb : b = a
    · subst hb
      rw [upd_same] at e
      cases e
      exact new
    · rw [upd_ne hb] at e
      refine (I.hok b u e).stay (fun c v hc q => k c v ?_ q) (fun c q => ?_) fun c xs q => ?_
      · rcases hc with z | z
        · rw [z]; exact nch b u e
        · exact nch c _ z
      · rw [upd_ne (nea c _ q)]; exact q
      · rw [upd_ne (nea c _ q)]; exact q
theorem Inv.turnedN {t' : Nat} {ch : List Addr} (I : Inv X pins σ H s) (k : ∀ b u, b ∉ ch → s.heap.get? b = some u → h'.get? b = some u) (hf : ∀ b ∈ ch, FpOk X pins H b) : Inv X pins σ H { s with heap := h', toks := t' } := by
  have nch : ∀ b u, H b = some u → b ∉ ch := fun b u e z => by
    rw [(hf b z).1] at e
    cases e
  refine I.step (g' := s.gens) (d' := s.drawn) (ch := ch) (fun b hb => ?_) (fun b u _ _ hc e _ => k b u hc e) (fun b u _ _ hc e _ => ⟨u.slots, k b u hc e⟩) (fun b u _ e n => n) (fun b u hc e => ⟨u, k b u hc e⟩)
    (fun b xs e => e) (fun b u v e => e) (fun b ps e => ⟨#[], by rw [e]; simp⟩) (fun m hm => ?_) (fun b u e => ?_) I.bare
  · obtain ⟨_, f1, _, f3, f4, f5⟩ := hf b hb
    exact ⟨f3, f1, f4, f5⟩
  · obtain ⟨ob, es, ep, ho, r⟩ := hm
    exact ⟨ob, es, ep, k _ ob (fun z => (hf _ z).2.1 rfl) ho, r⟩
  · refine (I.hok b u e).stay (fun c v hc q => k c v ?_ q) (fun c q => q) fun c xs q => q
    rcases hc with z | z
    · rw [z]; exact nch b u e
    · exact nch c _ z
end
/-- (i, the item) of the tracked list at a -/
def Ite (a : Addr) : It := ⟨fun i H => ∃ xs x, H a = some (.lst xs) ∧ xs[i]? = some x,
  fun i H x H' => ∃ p y, H p = none ∧ x = .ref p ∧ (∀ xs, H a = some (.lst xs) → xs[i]? = some y) ∧ H' = upd H p (.tup [.int (i : Nat), y]), fun i H => ∃ xs, H a = some (.lst xs) ∧ xs.length ≤ i⟩
theorem turn_enum {P : Program} {w : World} {K : PySem.W.Frag} {es : List Expr} {k : Nat} {pos : Pos} (a e it : Addr) (hne : e ≠ it) :
    Turn P w K (.Tuple es k pos) (Ite a) [e, it] e (fun i h => (∃ old, IsEnum h e it i old) ∧ h.IsListIter it a i) where
  mem := by simp
  obj := fun i h st b hb => by
    obtain ⟨⟨old, he⟩, o, h1, h2, h3⟩ := st
    rcases List.mem_cons.mp hb with rfl | hb
    · exact ⟨_, he, fun v z => by cases z⟩
    · rw [List.mem_singleton.mp hb]
      exact ⟨o, h1, fun v z => by rw [h3] at z; cases z⟩
  keep := fun i h h' st kp => by
    obtain ⟨⟨old, he⟩, o, h1, r⟩ := st
    exact ⟨⟨old, kp e (by simp) _ he⟩, o, kp it (by simp) o h1, r⟩
  item := by
    intro X hP hw hK hc i pins s σ H E I hf st hg
    subst hP hw hK
    obtain ⟨⟨old, he⟩, hit⟩ := st
    obtain ⟨xs, x, hl, hx⟩ := hg
    obtain ⟨z, its, n, r, hlen, eo⟩ := I.lstM hl
    obtain ⟨u, hu, ru⟩ := Vals.get r hx
    have hil : s.heap.IsList a its.toArray := ⟨_, eo, rfl, _, rfl⟩
    refine wpAny_pyNext_enum_item he hit hil (x := u) (by simpa using hu) hne fun h1 e1 e2 e3 e4 e5 => ?_
    refine ⟨_, rfl, wpAny_letOwnedTupleGo_enum e1 fun h2 e6 sb => ?_⟩
    have hps : s.heap.objs.size ≠ e := fun q => absurd (Heap.lt_size he) (by rw [← q]; exact Nat.lt_irrefl _)
    have hpi : s.heap.objs.size ≠ it := fun q => by
      obtain ⟨o, ho, _⟩ := hit
      exact absurd (Heap.lt_size ho) (by rw [← q]; exact Nat.lt_irrefl _)
    have hn : H s.heap.objs.size = none := I.hok.fresh (Nat.le_refl _)
    have e3' : h2.get? s.heap.objs.size = some { cls := .type "tuple", data := .seq #[.int i s.toks, u] } := (sb.2 _ hps).trans e3
    have J : Inv X pins σ (upd H s.heap.objs.size (.tup [.int (i : Nat), x])) { s with heap := h2, toks := s.toks + 1 } := by
      refine I.turnedNew (ch := [e, it]) (fun b o hb q => ?_) hf (Nat.le_refl _) ⟨by rw [sizeLine_eq]; show 2 ≤ 16777216; decide, [.int i s.toks, u], .cons ⟨_, rfl⟩ (.cons ru .nil), _, e3', rfl, 0, rfl⟩
      have b1 : b ≠ e := fun z => hb (by simp [z])
      have b2 : b ≠ it := fun z => hb (by simp [z])
      exact (sb.2 b b1).trans (e5 b o b1 b2 q)
    refine ⟨.ref s.heap.objs.size, _, J, rfl, ⟨s.heap.objs.size, x, hn, rfl, fun ys hy => ?_, rfl⟩, ⟨⟨u, ?_⟩, ?_⟩, fun b hb => ?_⟩
    · rw [hl] at hy
      cases hy
      exact hx
    · have e6' : IsEnum h2 e it ((i : Int) + 1) u := e6
      have e7 : ((i + 1 : Nat) : Int) = (i : Int) + 1 := by omega
      rw [e7]
      exact e6'
    · obtain ⟨o, ho, r⟩ := e2
      exact ⟨o, (sb.2 it (Ne.symm hne)).trans ho, r⟩
    · have hb' : b ≠ s.heap.objs.size := by
        rcases List.mem_cons.mp hb with rfl | hb
        · exact hps.symm
        · rw [List.mem_singleton.mp hb]; exact hpi.symm
      rw [upd_ne hb']
      exact (hf b hb).1
  done := by
    intro X hP hw hK hc i pins s σ H E I hf st hg
    subst hP hw hK
    obtain ⟨⟨old, he⟩, hit⟩ := st
    obtain ⟨xs, hl, hx⟩ := hg
    obtain ⟨z, its, n, r, hlen, eo⟩ := I.lstM hl
    have hil : s.heap.IsList a its.toArray := ⟨_, eo, rfl, _, rfl⟩
    refine wpAny_pyNext_enum_end (I.ok.hd hc) he hit hil (by simp; omega) fun h1 eb => ⟨rfl, I.turnedN (ch := [e, it]) (t' := s.toks) (fun b o hb q => eb b o (fun z => hb (by simp [z])) q) hf⟩
  self := fun _ _ _ _ _ st h => by
    obtain ⟨⟨old, he⟩, _⟩ := st
    exact wpAny_pyIter_enum he h
def iEnum (ta : TA) : TI := fun σ H R => ta σ H fun vs H1 => ∃ a xs, vs = [.ref a] ∧ H1 a = some (.lst xs) ∧ R (Ite a) H1
theorem pi_enum {X : Cx} {es : List Expr} {k : Nat} {tpos : Pos} {e : Expr} {ta : TA} {p pos : Pos} (hg : Gl X "enumerate") (hm : X.mg "enumerate" = none) (ha : PA X [e] ta) (hs : starEach [e] X.env = [(false, eval e X.env)] := by rfl) :
    PI X (.Tuple es k tpos) (.Call (.Name "enumerate" p) [e] [] pos) (iEnum ta) := by
  intro pins s σ H R I h
  refine wpAny_Call_Name_kw (ld_blt I hg hm bt_enumerate ?_ (by decide) (by decide))
  refine PyProof.Rows.callWith_type1 (thn (ha pos pins s σ H _ I h) fun us s1 ⟨vs, H1, I1, r1, a, xs, e1, hl, q⟩ => ?_) hs rfl
  subst e1
  obtain ⟨u, rfl, ru⟩ := vals1 r1
  cases ru
  obtain ⟨z, its, n, r, hlen, eo⟩ := I1.lstM hl
  refine call_enumerate_1 (n := n) eo fun h2 e1 e2 e3 e4 => ?_
  have I2 : Inv X pins σ H1 { s1 with heap := h2 } := I1.kept (t' := s1.toks) e4
  have hne : s1.heap.objs.size + 1 ≠ s1.heap.objs.size := Nat.succ_ne_self _
  refine wpAny_pyIter_enum e1 ?_
  refine ⟨s1.heap.objs.size + 1, [s1.heap.objs.size + 1, s1.heap.objs.size], _, _, H1, rfl, I2, turn_enum a _ _ hne, ⟨⟨_, e1⟩, e2⟩, fun b hb => ?_, q⟩
  have hb' : s1.heap.objs.size ≤ b := by
    rcases List.mem_cons.mp hb with rfl | hb
    · omega
    · rw [List.mem_singleton.mp hb]
      exact Nat.le_refl _
  exact I1.fpOk hb' (I1.hok.fresh hb')
/-- over enumerate(xs), the list stays -/
theorem for_enum {a : Addr} {xs : List V} {g : TG} {tb : TS} {D : Ends} {σ : St} {H : Hp} (Pv : Nat → St → Hp → Prop) (h0 : Pv 0 σ H) (hl : ∀ i σ H, Pv i σ H → H a = some (.lst xs))
    (hs : ∀ (i : Nat) x σ H p, xs[i]? = some x → Pv i σ H → H p = none → g (.ref p) σ (upd H p (.tup [.int (i : Nat), x])) fun σ2 H2 => tb { D with nx := Pv (i + 1), ct := Pv (i + 1), bk := D.nx } σ2 H2) (hd : ∀ σ H, Pv xs.length σ H → D.nx σ H) :
    ∃ W : Nat → Nat → St → Hp → Prop, (∃ m, W 0 m σ H) ∧ ∀ i m σ H, W i m σ H →
      ((Ite a).stop i H ∧ D.nx σ H) ∨ ((Ite a).go i H ∧ ∃ N : St → Hp → Prop, (∀ σ' H', N σ' H' → ∃ m', m' < m ∧ W (i + 1) m' σ' H') ∧ ∀ x H', (Ite a).yld i H x H' → g x σ H' fun σ2 H2 => tb { D with nx := N, ct := N, bk := D.nx } σ2 H2) := by
  refine ⟨fun i m σ H => m = xs.length - i ∧ i ≤ xs.length ∧ Pv i σ H, ⟨_, rfl, Nat.zero_le _, h0⟩, ?_⟩
  rintro i m σ H ⟨rfl, hi, p⟩
  have q := hl i σ H p
  by_cases hlt : i < xs.length
  · refine .inr ⟨⟨xs, xs[i], q, by simp [hlt]⟩, Pv (i + 1), fun σ' H' p' => ⟨_, by omega, rfl, hlt, p'⟩, fun x H' y => ?_⟩
    obtain ⟨b, v, hb, rfl, hv, rfl⟩ := y
    exact hs i v σ H b (hv xs q) p hb
  · have e : i = xs.length := by omega
    subst e
    exact .inl ⟨⟨xs, q, Nat.le_refl _⟩, hd σ H p⟩
theorem comp_enum {D : Addr} {σb : St} {g : TG} {tt : TT} {te : TE} {Q : Hp → List V → Prop} {H : Hp} {a : Addr} {xs : List V} (Pv : Nat → List V → Hp → Prop) (h0 : Pv 0 [] H) (hq : ∀ i ys H, Pv i ys H → H a = some (.lst xs)) (hl : ∀ i ys H, Pv i ys H → H D = some (.lst ys))
    (hs : ∀ (i : Nat) x ys H p P, xs[i]? = some x → Pv i ys H → H p = none → (∀ a b, Pv (i + 1) a b → P a b) → CompT D σb g tt te (.ref p) ys (upd H p (.tup [.int (i : Nat), x])) P) (hd : ∀ ys H, Pv xs.length ys H → Q H ys) : ∃ W, (∃ m, W 0 m [] H) ∧ CompW (Ite a) D σb g tt te Q W := by
  refine ⟨fun i m ys H => m = xs.length - i ∧ i ≤ xs.length ∧ Pv i ys H, ⟨_, rfl, Nat.zero_le _, h0⟩, ?_⟩
  rintro i m ys H ⟨rfl, hi, p⟩
  refine ⟨hl i ys H p, ?_⟩
  have q := hq i ys H p
  by_cases hlt : i < xs.length
  · refine .inr ⟨⟨xs, xs[i], q, by simp [hlt]⟩, fun x H3 y => ?_⟩
    obtain ⟨b, v, hb, rfl, hv, rfl⟩ := y
    exact hs i v ys H b (fun a b => ∃ m', m' < xs.length - i ∧ m' = xs.length - (i + 1) ∧ i + 1 ≤ xs.length ∧ Pv (i + 1) a b) (hv xs q) p hb fun a b r => ⟨_, by omega, rfl, hlt, r⟩
  · have e : i = xs.length := by omega
    subst e
    exact .inl ⟨⟨xs, q, Nat.le_refl _⟩, hd ys H p⟩
/-- pairs of the items of the tracked lists at a and b -/
def Itz (a b : Addr) : It := ⟨fun i H => ∃ xs ys x y, H a = some (.lst xs) ∧ H b = some (.lst ys) ∧ xs[i]? = some x ∧ ys[i]? = some y,
  fun i H v H' => ∃ p x y, H p = none ∧ v = .ref p ∧ (∀ xs, H a = some (.lst xs) → xs[i]? = some x) ∧ (∀ ys, H b = some (.lst ys) → ys[i]? = some y) ∧ H' = upd H p (.tup [x, y]),
  fun i H => ∃ xs ys, H a = some (.lst xs) ∧ H b = some (.lst ys) ∧ (xs.length ≤ i ∨ ys.length ≤ i)⟩
theorem turn_zip {P : Program} {w : World} {K : PySem.W.Frag} {es : List Expr} {k : Nat} {pos : Pos} (a b z TI TO i1 i2 : Addr) (nd : [z, TI, TO, i1, i2].Nodup) :
    Turn P w K (.Tuple es k pos) (Itz a b) [z, TI, TO, i1, i2] z (fun i h => IsZip h z TI TO .none ∧ IsPair h TI (.ref i1) (.ref i2) ∧ (∃ u v, IsPair h TO u v) ∧ h.IsListIter i1 a i ∧ h.IsListIter i2 b i) := by
  have n1 : TI ≠ z := fun e => by simp [e] at nd
  have n2 : TO ≠ z := fun e => by simp [e] at nd
  have n3 : i1 ≠ z := fun e => by simp [e] at nd
  have n4 : i2 ≠ z := fun e => by simp [e] at nd
  have n5 : TI ≠ TO := fun e => by simp [e] at nd
  have n6 : TI ≠ i1 := fun e => by simp [e] at nd
  have n7 : TI ≠ i2 := fun e => by simp [e] at nd
  have n8 : TO ≠ i1 := fun e => by simp [e] at nd
  have n9 : TO ≠ i2 := fun e => by simp [e] at nd
  have n0 : i1 ≠ i2 := fun e => by simp [e] at nd
  have apart : ∀ {H : Hp} {xs ys : List V}, (∀ c ∈ [z, TI, TO, i1, i2], H c = none) → H a = some (.lst xs) → H b = some (.lst ys) → ZipApart z TI TO i1 i2 a b := fun {H xs ys} hf ha hb =>
    ⟨n1, n2, n3, n4, n5, n6, n7, n8, n9, n0, ne_of_none ha (hf z (by simp)), ne_of_none ha (hf TO (by simp)), ne_of_none ha (hf i1 (by simp)), ne_of_none ha (hf i2 (by simp)),
      ne_of_none hb (hf z (by simp)), ne_of_none hb (hf TO (by simp)), ne_of_none hb (hf i1 (by simp)), ne_of_none hb (hf i2 (by simp))⟩
  refine { mem := by simp, obj := ?_, keep := ?_, item := ?_, done := ?_, self := ?_ }
  · rintro i h ⟨h1, h2, ⟨u, v, h3⟩, ⟨o4, h4, _, d4⟩, ⟨o5, h5, _, d5⟩⟩ c hc
    simp only [List.mem_cons, List.not_mem_nil, or_false] at hc
    rcases hc with rfl | rfl | rfl | rfl | rfl
    · exact ⟨_, h1, fun v z => by cases z⟩
    · exact ⟨_, h2, fun v z => by cases z⟩
    · exact ⟨_, h3, fun v z => by cases z⟩
    · exact ⟨_, h4, fun v z => by rw [d4] at z; cases z⟩
    · exact ⟨_, h5, fun v z => by rw [d5] at z; cases z⟩
  · rintro i h h' ⟨h1, h2, ⟨u, v, h3⟩, ⟨o4, h4, r4⟩, ⟨o5, h5, r5⟩⟩ kp
    exact ⟨kp z (by simp) _ h1, kp TI (by simp) _ h2, ⟨u, v, kp TO (by simp) _ h3⟩, ⟨o4, kp i1 (by simp) _ h4, r4⟩, ⟨o5, kp i2 (by simp) _ h5, r5⟩⟩
  · intro X hP hw hK hc i pins s σ H E I hf st hg
    subst hP hw hK
    obtain ⟨h1, h2, ⟨u, v, h3⟩, h4, h5⟩ := st
    obtain ⟨xs, ys, x, y, ha, hb, hx, hy⟩ := hg
    obtain ⟨_, its, n, r, hlen, eo⟩ := I.lstM ha
    obtain ⟨_, its2, m, r2, hlen2, eo2⟩ := I.lstM hb
    obtain ⟨ux, hux, rux⟩ := Vals.get r hx
    obtain ⟨uy, huy, ruy⟩ := Vals.get r2 hy
    have hn : H s.heap.objs.size = none := I.hok.fresh (Nat.le_refl _)
    have new : ∀ c ∈ [z, TI, TO, i1, i2], c ≠ s.heap.objs.size := fun c hc q => by
      have : ∃ o, s.heap.get? c = some o := by
        simp only [List.mem_cons, List.not_mem_nil, or_false] at hc
        obtain ⟨o4, h4, _⟩ := h4
        obtain ⟨o5, h5, _⟩ := h5
        rcases hc with rfl | rfl | rfl | rfl | rfl
        · exact ⟨_, h1⟩
        · exact ⟨_, h2⟩
        · exact ⟨_, h3⟩
        · exact ⟨_, h4⟩
        · exact ⟨_, h5⟩
      obtain ⟨o, ho⟩ := this
      exact absurd (Heap.lt_size ho) (by rw [q]; exact Nat.lt_irrefl _)
    refine wpAny_pyNext_zip_item (apart (fun c hc => (hf c hc).1) ha hb) h1 h2 h3 h4 h5 (xs := its.toArray) (ys := its2.toArray) ⟨_, eo, rfl, _, rfl⟩ ⟨_, eo2, rfl, _, rfl⟩ (x := ux) (y := uy) (by simpa using hux) (by simpa using huy)
      fun h6 e1 e2 e3 e4 e5 e6 e7 => ?_
    refine ⟨_, rfl, wpAny_letOwnedTupleGo_zip e1 fun h7 e8 sb => ?_⟩
    have J : Inv X pins σ (upd H s.heap.objs.size (.tup [x, y])) { s with heap := h7 } := by
      refine I.turnedNew (t' := s.toks) (ch := [z, TI, TO, i1, i2]) (fun c o hc q => ?_) hf (Nat.le_refl _) ⟨by rw [sizeLine_eq]; show 2 ≤ 16777216; decide, [ux, uy], .cons rux (.cons ruy .nil), _, (sb.2 _ (new z (by simp)).symm).trans e5, rfl, 0, rfl⟩
      have c1 : c ≠ z := fun w => hc (by simp [w])
      exact (sb.2 c c1).trans (e7 c o c1 (fun w => hc (by simp [w])) (fun w => hc (by simp [w])) (fun w => hc (by simp [w])) q)
    refine ⟨.ref s.heap.objs.size, _, J, rfl, ⟨s.heap.objs.size, x, y, hn, rfl, fun xs' h => by rw [ha] at h; cases h; exact hx, fun ys' h => by rw [hb] at h; cases h; exact hy, rfl⟩, ⟨e8, ?_, ⟨ux, uy, ?_⟩, ?_, ?_⟩, fun c hc => ?_⟩
    · exact (sb.2 TI n1).trans (e7 TI _ n1 n5 n6 n7 h2)
    · exact (sb.2 TO n2).trans e2
    · obtain ⟨o, ho, q⟩ := e3
      exact ⟨o, (sb.2 i1 n3).trans ho, q⟩
    · obtain ⟨o, ho, q⟩ := e4
      exact ⟨o, (sb.2 i2 n4).trans ho, q⟩
    · rw [upd_ne (new c hc)]
      exact (hf c hc).1
  · intro X hP hw hK hc i pins s σ H E I hf st hg
    subst hP hw hK
    obtain ⟨h1, h2, ⟨u, v, h3⟩, h4, h5⟩ := st
    obtain ⟨xs, ys, ha, hb, hx⟩ := hg
    obtain ⟨_, its, n, r, hlen, eo⟩ := I.lstM ha
    obtain ⟨_, its2, m, r2, hlen2, eo2⟩ := I.lstM hb
    refine wpAny_pyNext_zip_end (I.ok.hd hc) (apart (fun c hc => (hf c hc).1) ha hb) h1 h2 h3 h4 h5 (xs := its.toArray) (ys := its2.toArray) ⟨_, eo, rfl, _, rfl⟩ ⟨_, eo2, rfl, _, rfl⟩ (by simp; omega) fun h6 e7 => ?_
    exact ⟨rfl, I.turnedN (t' := s.toks) (ch := [z, TI, TO, i1, i2]) (fun c o hc q => e7 c o (fun w => hc (by simp [w])) (fun w => hc (by simp [w])) (fun w => hc (by simp [w])) (fun w => hc (by simp [w])) q) hf⟩
  · exact fun _ _ _ _ _ st h => wpAny_pyIter_zip st.1 h
def iZip (ta : TA) : TI := fun σ H R => ta σ H fun vs H1 => ∃ a b xs ys, vs = [.ref a, .ref b] ∧ H1 a = some (.lst xs) ∧ H1 b = some (.lst ys) ∧ R (Itz a b) H1
theorem pi_zip {X : Cx} {es : List Expr} {k : Nat} {tpos : Pos} {e f : Expr} {ta : TA} {p pos : Pos} (hg : Gl X "zip") (hm : X.mg "zip" = none) (ha : PA X [e, f] ta) (hs : starEach [e, f] X.env = (false, eval e X.env) :: starEach [f] X.env := by rfl)
    (hpl : (backTo pos (starEach [f] X.env)).any (·.1) = false := by rfl) : PI X (.Tuple es k tpos) (.Call (.Name "zip" p) [e, f] [] pos) (iZip ta) := by
  intro pins s σ H R I h
  refine wpAny_Call_Name_kw (ld_blt I hg hm bt_zip ?_ (by decide) (by decide))
  refine PyProof.Rows.callWith_type1 (thn (ha pos pins s σ H _ I h) fun us s1 ⟨vs, H1, I1, r1, a, b, xs, ys, e1, hl, hl2, q⟩ => ?_) hs hpl
  subst e1
  obtain ⟨u, v, rfl, ru, rv⟩ := vals2 r1
  cases ru
  cases rv
  obtain ⟨_, its, n, r, hlen, eo⟩ := I1.lstM hl
  obtain ⟨_, its2, m, r2, hlen2, eo2⟩ := I1.lstM hl2
  refine call_zip_2 (xs := its.toArray) (ys := its2.toArray) ⟨_, eo, rfl, _, rfl⟩ ⟨_, eo2, rfl, _, rfl⟩ fun h2 e1 e2 e3 e4 e5 e6 e7 => ?_
  have I2 : Inv X pins σ H1 { s1 with heap := h2 } := I1.kept (t' := s1.toks) e7
  refine wpAny_pyIter_zip e1 ?_
  refine ⟨s1.heap.objs.size + 4, [s1.heap.objs.size + 4, s1.heap.objs.size + 2, s1.heap.objs.size + 3, s1.heap.objs.size, s1.heap.objs.size + 1], _, _, H1, rfl, I2, turn_zip a b _ _ _ _ _ (by simp), ⟨e1, e2, ⟨_, _, e3⟩, e4, e5⟩, fun c hc => ?_, q⟩
  have hc' : s1.heap.objs.size ≤ c := by
    simp only [List.mem_cons, List.not_mem_nil, or_false] at hc
    rcases hc with z | z | z | z | z <;> rw [z] <;> first | exact Nat.le_refl _ | exact Nat.le_add_right _ _
  exact I1.fpOk hc' (I1.hok.fresh hc')
theorem comp_zip {D : Addr} {σb : St} {g : TG} {tt : TT} {te : TE} {Q : Hp → List V → Prop} {H : Hp} {a b : Addr} {xs ys : List V} (he : xs.length = ys.length) (Pv : Nat → List V → Hp → Prop) (h0 : Pv 0 [] H) (hq : ∀ i zs H, Pv i zs H → H a = some (.lst xs) ∧ H b = some (.lst ys)) (hl : ∀ i zs H, Pv i zs H → H D = some (.lst zs))
    (hs : ∀ (i : Nat) x y zs H p P, xs[i]? = some x → ys[i]? = some y → Pv i zs H → H p = none → (∀ a b, Pv (i + 1) a b → P a b) → CompT D σb g tt te (.ref p) zs (upd H p (.tup [x, y])) P) (hd : ∀ zs H, Pv xs.length zs H → Q H zs) : ∃ W, (∃ m, W 0 m [] H) ∧ CompW (Itz a b) D σb g tt te Q W := by
  refine ⟨fun i m zs H => m = xs.length - i ∧ i ≤ xs.length ∧ Pv i zs H, ⟨_, rfl, Nat.zero_le _, h0⟩, ?_⟩
  rintro i m zs H ⟨rfl, hi, p⟩
  refine ⟨hl i zs H p, ?_⟩
  obtain ⟨q1, q2⟩ := hq i zs H p
  by_cases hlt : i < xs.length
  · refine .inr ⟨⟨xs, ys, xs[i], ys[i]'(by omega), q1, q2, by simp [hlt], by simp [show i < ys.length by omega]⟩, fun v H3 y => ?_⟩
    obtain ⟨c, x, y, hc, rfl, hx, hy, rfl⟩ := y
    exact hs i x y zs H c (fun a b => ∃ m', m' < xs.length - i ∧ m' = xs.length - (i + 1) ∧ i + 1 ≤ xs.length ∧ Pv (i + 1) a b) (hx xs q1) (hy ys q2) p hc fun a b r => ⟨_, by omega, rfl, hlt, r⟩
  · have e : i = xs.length := by omega
    subst e
    exact .inl ⟨⟨xs, ys, q1, q2, .inl (Nat.le_refl _)⟩, hd zs H p⟩
end L2

set_option Elab.async false
set_option linter.all false
set_option maxRecDepth 100000
set_option maxHeartbeats 4000000
namespace NumM
open PySem PySem.NumText

theorem toNat_ofNat {c : Nat} (h : c < 128) : (Char.ofNat c).toNat = c := by
  have : c.isValidChar := Or.inl (by omega)
  simp [Char.ofNat, this, Char.toNat, Char.ofNatAux]
theorem back {cs : List Nat} (h : AllDigits cs) : (cs.map Char.ofNat).map Char.toNat = cs := by
  rw [List.map_map]
  induction cs with
  | nil => rfl
  | cons c cs ih =>
    rw [List.map_cons, ih h.tail]
    have := h.head
    show (Char.ofNat c).toNat :: cs = _
    rw [toNat_ofNat (by omega)]
end NumM
namespace L2
open PySem PySem.Spec PyProof.Rows
def mixed (c k : Int) : Int := if c % 4 = 1 then c / 2 ^ (2 + 40 * k).toNat % 2 ^ (40 : Int).toNat else
  ((((c + 7919 * k) % 2147483647 * 48271 + k) % 2147483647) * ((((c + 7919 * k) % 2147483647 * 48271 + k) % 2147483647) + 7) % 2147483629) * (((((c + 7919 * k) % 2147483647 * 48271 + k) % 2147483647) * ((((c + 7919 * k) % 2147483647 * 48271 + k) % 2147483647) + 7) % 2147483629) + 3) % 2147483587
theorem mixed_bd (c k : Int) : 0 ≤ mixed c k ∧ mixed c k < 1099511627776 := by
  unfold mixed
  split
  · rw [show ((2 : Int) ^ (40 : Int).toNat) = 1099511627776 by decide]
    omega
  · generalize (((c + 7919 * k) % 2147483647 * 48271 + k) % 2147483647) * ((((c + 7919 * k) % 2147483647 * 48271 + k) % 2147483647) + 7) % 2147483629 = n
    generalize n * (n + 3) = m
    omega
theorem small_log {i : Int} (h : i.natAbs < 2 ^ 64) : i.natAbs.log2 < 1920 := by
  by_cases h0 : i.natAbs = 0
  · rw [h0]; decide
  · have := (Nat.log2_lt h0).mpr h
    omega
def oV : Option Int → V
  | none => .non
  | some n => .int n
def within (lo hi : Int) : Option Int → Option Int
  | some n => if lo ≤ n ∧ n ≤ hi then some n else none
  | none => none
def madeB (t S : Str) (m : Int) : Bool := decide (1 ≤ (t.cps.size : Int) ∧ (t.cps.size : Int) ≤ m) && t.cps.toList.all fun c => decide (c ∈ S.cps.toList)
end L2

set_option Elab.async false
set_option linter.all false
set_option maxRecDepth 100000
set_option maxHeartbeats 4000000
namespace SplM
open PySem
/-- the parts between the signs c -/
def splitC (c : Nat) : List Nat → List (List Nat)
  | [] => [[]]
  | a :: l => if a = c then [] :: splitC c l else match splitC c l with
    | [] => [[a]]
    | p :: r => (a :: p) :: r
/-- the parts with c between -/
def joinC (c : Nat) : List (List Nat) → List Nat
  | [] => []
  | [p] => p
  | p :: q :: r => p ++ c :: joinC c (q :: r)
theorem splitC_ne (c : Nat) : ∀ l, splitC c l ≠ []
  | [] => by simp [splitC]
  | a :: l => by
    unfold splitC
    split
    · exact List.cons_ne_nil _ _
    · split <;> exact List.cons_ne_nil _ _
theorem joinC_cons (c : Nat) (p : List Nat) {r : List (List Nat)} (h : r ≠ []) : joinC c (p :: r) = p ++ c :: joinC c r := by
  cases r with
  | nil => exact absurd rfl h
  | cons q r => rfl
theorem split_app (c : Nat) : ∀ (p l : List Nat), c ∉ p → splitC c (p ++ c :: l) = p :: splitC c l
  | [], l, _ => by simp [splitC]
  | a :: p, l, h => by
    have ha : a ≠ c := fun e => h (by rw [e]; exact List.mem_cons_self)
    have ih := split_app c p l fun z => h (List.mem_cons_of_mem _ z)
    rw [List.cons_append, splitC, if_neg ha, ih]
theorem split_free (c : Nat) : ∀ (p : List Nat), c ∉ p → splitC c p = [p]
  | [], _ => rfl
  | a :: p, h => by
    have ha : a ≠ c := fun e => h (by rw [e]; exact List.mem_cons_self)
    unfold splitC
    rw [if_neg ha, split_free c p fun z => h (List.mem_cons_of_mem _ z)]
theorem split_join (c : Nat) : ∀ (ps : List (List Nat)), ps ≠ [] → (∀ p ∈ ps, c ∉ p) → splitC c (joinC c ps) = ps
  | [], h, _ => absurd rfl h
  | [p], _, h => split_free c p (h p List.mem_cons_self)
  | p :: q :: r, _, h => by
    rw [joinC, split_app c p _ (h p List.mem_cons_self), split_join c (q :: r) (List.cons_ne_nil _ _) fun x hx => h x (List.mem_cons_of_mem _ hx)]
theorem join_split (c : Nat) : ∀ l, joinC c (splitC c l) = l
  | [] => rfl
  | a :: l => by
    have ih := join_split c l
    unfold splitC
    split
    · rename_i e
      rw [joinC_cons c [] (splitC_ne c l), ih, e]; rfl
    · cases hs : splitC c l with
      | nil => exact absurd hs (splitC_ne c l)
      | cons p r =>
        rw [hs] at ih
        show joinC c ((a :: p) :: r) = a :: l
        cases r with
        | nil => rw [← ih]; rfl
        | cons q r => rw [← ih]; rfl
theorem split_len (c : Nat) : ∀ l, (splitC c l).length ≤ l.length + 1
  | [] => Nat.le_refl _
  | a :: l => by
    have ih := split_len c l
    unfold splitC
    split
    · simp only [List.length_cons]; omega
    · cases hs : splitC c l with
      | nil => simp
      | cons q r => rw [hs] at ih; simp only [List.length_cons] at ih ⊢; omega
theorem codes_join (c : Nat) : ∀ ts : List Str, (Str.join ⟨#[c]⟩ ts).cps.toList = joinC c (ts.map fun t => t.cps.toList)
  | [] => rfl
  | [t] => rfl
  | t :: u :: r => by
    have ih := codes_join c (u :: r)
    show (t ++ (⟨#[c]⟩ : Str) ++ Str.join ⟨#[c]⟩ (u :: r)).cps.toList = _
    rw [Str.cps_append, Str.cps_append, Array.toList_append, Array.toList_append, ih]
    show t.cps.toList ++ [c] ++ _ = t.cps.toList ++ c :: _
    rw [List.append_assoc]; rfl
/-- t.split(c), by the codes -/
theorem codes_split (x : Str) (c : Nat) : (Txt.split x ⟨#[c]⟩).map (fun t => t.cps.toList) = splitC c x.cps.toList := by
  have h1 := StrLaws.join_split x ⟨#[c]⟩
  have h2 := StrLaws.split_free x c
  have hne : Txt.split x ⟨#[c]⟩ ≠ [] := by
    unfold Txt.split
    split
    · exact List.cons_ne_nil _ _
    · split
      · exact List.cons_ne_nil _ _
      · rw [StrLaws.partsBetween_eq]
        obtain ⟨p, r, e⟩ := StrLaws.partsFrom_ne x (⟨#[c]⟩ : Str).length 0 (Builtin.Str.occurrences x ⟨#[c]⟩ 0 x.length (x.length + 1))
        rw [e]; exact List.cons_ne_nil _ _
  have h3 := codes_join c (Txt.split x ⟨#[c]⟩)
  rw [h1] at h3
  rw [h3, split_join c _ (by simpa using hne) ?_]
  intro p hp
  obtain ⟨t, ht, rfl⟩ := List.mem_map.mp hp
  exact h2 t ht
end SplM
namespace L2
open PySem PySem.Spec PyProof.Rows
/-! ### join, split, fields of texts, truth, list methods -/
section
variable {X : Cx}
theorem vals_strs : ∀ {ts : List Str} {us : List Value}, Vals (ts.map V.str) us → StrsAre us ts
  | [], us, r => by
    rw [List.map_nil] at r
    cases r
    exact .nil
  | t :: ts, us, r => by
    rw [List.map_cons] at r
    cases r with
    | cons r1 r2 =>
      obtain ⟨k, rfl⟩ := r1
      exact .cons t k (vals_strs r2)
/-- sep.join(texts), of a list or a tuple -/
def rJoin (K : PySem.W.Frag) : V → List V → Hp → VK → Prop := fun x xs H Q => ∃ (z : Str) (p : Addr) (ts : List Str), x = .str z ∧ xs = [.ref p] ∧ (SqL K H p (ts.map V.str) ∨ SqT K H p (ts.map V.str)) ∧
  (ts.map (·.length)).sum + ts.length * z.length ≤ 16777216 ∧ Q (.str (Txt.join z ts)) H
theorem mt_join : MtR X "str.join" (rJoin X.K) := by
  intro pins s σ H x xs v us Q I rx rs h
  obtain ⟨z, p, ts, rfl, rfl, hp, hz, q⟩ := h
  obtain ⟨t, rfl⟩ := rx
  obtain ⟨u, rfl, ru⟩ := vals1 rs
  cases ru
  rcases hp with hp | hp
  · obtain ⟨its, r, pl, _⟩ := I.list hp
    exact join_list pl.isList (by simpa using vals_strs r) hz fun t' k => ⟨.str _, H, I.tok _, ⟨_, rfl⟩, q⟩
  · obtain ⟨its, r, pl, _⟩ := I.tuple hp
    exact join_tuple pl (by simpa using vals_strs r) hz fun t' k => ⟨.str _, H, I.tok _, ⟨_, rfl⟩, q⟩
theorem vals_of_strs : ∀ (l : List (Str × Tok)), Vals ((l.map (·.1)).map V.str) (strValues l)
  | [] => .nil
  | p :: l => .cons ⟨p.2, rfl⟩ (vals_of_strs l)
open Builtin.Str in
theorem split_new {P : Program} {w : World} {A : Around} {E : Value → Shared → Prop} {s : Shared} {x y : Str} {t u : Tok} {Q : Value → Shared → Prop} (hy : (y.length == 0) = false) (hx : x.length ≤ sizeLine)
    (hp : (partsBetween x (occurrences x y 0 x.length (x.length + 1)) y.length).length ≤ sizeLine)
    (h : ∀ (l : List (Str × Tok)) (k : Nat), l.map (·.1) = Txt.split x y → Q (.ref s.heap.objs.size) { s with heap := s.heap.push { cls := .type "list", data := .seq (strValues l).toArray }, toks := k }) :
    wpAny (model P w) A (call (.builtin "str.split") [.str x t, .str y u]) Q E s := by
  by_cases h1 : (decide (x.length < y.length) || decide (strKind x < strKind y)) = true
  · refine call_meets F.slot_str_split (typeIs_str s x t) F.entry_str_split (F.args_str_split_2 _ _) (meets_str_split_cannot_occur x y t u h1) ?_
    exact h [(x, t)] s.toks (by unfold Txt.split; rw [if_pos h1]; rfl)
  · have h1' := eq_false_of_ne_true h1
    by_cases h2 : (occurrences x y 0 x.length (x.length + 1)).isEmpty = true
    · refine call_meets F.slot_str_split (typeIs_str s x t) F.entry_str_split (F.args_str_split_2 _ _) (meets_str_split_not_found x y t u h1' hy h2) ?_
      exact h [(x, t)] s.toks (by unfold Txt.split; rw [if_neg h1, if_pos h2]; rfl)
    · have h2' := eq_false_of_ne_true h2
      refine call_meets F.slot_str_split (typeIs_str s x t) F.entry_str_split (F.args_str_split_2 _ _) (meets_str_split_sep x y t u h1' hy h2' hx hp) ?_
      have := h (numbered s.toks (partsBetween x (occurrences x y 0 x.length (x.length + 1)) y.length)) (s.toks + (partsBetween x (occurrences x y 0 x.length (x.length + 1)) y.length).length)
        ((numbered_texts _ _).trans (by unfold Txt.split; rw [if_neg h1, if_neg h2]))
      rw [← strsFrom_eq] at this
      exact this
/-- text.split(sign): a new list -/
def rSplit : V → List V → Hp → VK → Prop := fun x xs H Q => ∃ (z : Str) (c : Nat), x = .str z ∧ xs = [.str ⟨#[c]⟩] ∧ z.cps.size + 2 ≤ sizeLine ∧
  ∀ (l : Addr) (ts : List Str), H l = none → ts.map (fun t => t.cps.toList) = SplM.splitC c z.cps.toList → Q (.ref l) (upd H l (.lst (ts.map V.str)))
theorem mt_split : MtR X "str.split" rSplit := by
  intro pins s σ H x xs v us Q I rx rs h
  obtain ⟨z, c, rfl, rfl, hz, q⟩ := h
  obtain ⟨t, rfl⟩ := rx
  obtain ⟨u, rfl, t', rfl⟩ := vals1 rs
  have hs : (Txt.split z ⟨#[c]⟩).length ≤ sizeLine := by
    have h1 := congrArg List.length (SplM.codes_split z c)
    have h2 := SplM.split_len c z.cps.toList
    rw [List.length_map] at h1
    simp only [Array.length_toList] at h2
    omega
  have hpl : (Builtin.Str.partsBetween z (Builtin.Str.occurrences z ⟨#[c]⟩ 0 z.length (z.length + 1)) (⟨#[c]⟩ : Str).length).length ≤ sizeLine := by
    have h1 := PySem.StrLaws.occ_length_le z ⟨#[c]⟩ 0 z.length (z.length + 1)
    rw [PySem.StrLaws.partsBetween_eq]
    have h3 : ∀ (cuts : List Nat) (a : Nat), (PySem.StrLaws.partsFrom z (⟨#[c]⟩ : Str).length a cuts).length = cuts.length + 1 := by
      intro cuts
      induction cuts with
      | nil => intro a; rfl
      | cons d cuts ih => intro a; show (_ :: _).length = _; rw [List.length_cons, ih]; rfl
    rw [h3]
    have h4 := PySem.StrLaws.occ_length_le_len z ⟨#[c]⟩ 0 z.length (z.length + 1)
    have e : z.length = z.cps.size := rfl
    omega
  refine split_new rfl (show z.cps.size ≤ sizeLine by omega) hpl fun l k e => ?_
  refine ⟨.ref s.heap.objs.size, _, I.lnew (t' := k) (ys := (l.map (·.1)).map V.str) (vals_of_strs l) (by rw [List.length_map, e]; exact hs), rfl, q _ _ (I.hok.fresh (Nat.le_refl _)) ?_⟩
  rw [e]
  exact SplM.codes_split z c

/-! fields of an f-string -/
variable {o e : Expr} {es : List Expr} {to : TE} {t : TA} {apos cpos : Pos}
theorem pe_m.join (ho : PE X o to) (ha : PA X (e :: es) t) (hbase : attributeBase o "join" X.env (eval o X.env) = eval o X.env := by rfl)
    (hfew : ((backTo cpos (starEach (e :: es) X.env)).all (fun x => !x.1) && (backToKw cpos (keywordEach [] X.env)).all (fun x => x.1.isSome) && decide ((e :: es).length + ([] : List Keyword).length + (if ([] : List Keyword).isEmpty then 0 else 1) < 30)) = true := by rfl)
    (hline : (apos.endLine == cpos.line) = true := by rfl) (hs : starEach (e :: es) X.env = (false, eval e X.env) :: starEach es X.env := by rfl) (hplain : (backTo cpos (starEach es X.env)).any (·.1) = false := by rfl) :
    PE X (.Call (.Attribute o "join" apos) (e :: es) [] cpos) (tBM X.K "str" (rJoin X.K) to t) := pe_bm F.plainAttrs_str F.slot_str_join F.type_str_join mt_join ho ha hbase hfew hline hs hplain
theorem pe_m.split (ho : PE X o to) (ha : PA X (e :: es) t) (hbase : attributeBase o "split" X.env (eval o X.env) = eval o X.env := by rfl)
    (hfew : ((backTo cpos (starEach (e :: es) X.env)).all (fun x => !x.1) && (backToKw cpos (keywordEach [] X.env)).all (fun x => x.1.isSome) && decide ((e :: es).length + ([] : List Keyword).length + (if ([] : List Keyword).isEmpty then 0 else 1) < 30)) = true := by rfl)
    (hline : (apos.endLine == cpos.line) = true := by rfl) (hs : starEach (e :: es) X.env = (false, eval e X.env) :: starEach es X.env := by rfl) (hplain : (backTo cpos (starEach es X.env)).any (·.1) = false := by rfl) :
    PE X (.Call (.Attribute o "split" apos) (e :: es) [] cpos) (tBM X.K "str" rSplit to t) := pe_bm F.plainAttrs_str F.slot_str_split F.type_str_split mt_split ho ha hbase hfew hline hs hplain
theorem pe_m.append (ho : PE X o to) (ha : PA X (e :: es) t) (hbase : attributeBase o "append" X.env (eval o X.env) = eval o X.env := by rfl)
    (hfew : ((backTo cpos (starEach (e :: es) X.env)).all (fun x => !x.1) && (backToKw cpos (keywordEach [] X.env)).all (fun x => x.1.isSome) && decide ((e :: es).length + ([] : List Keyword).length + (if ([] : List Keyword).isEmpty then 0 else 1) < 30)) = true := by rfl)
    (hline : (apos.endLine == cpos.line) = true := by rfl) (hs : starEach (e :: es) X.env = (false, eval e X.env) :: starEach es X.env := by rfl) (hplain : (backTo cpos (starEach es X.env)).any (·.1) = false := by rfl) :
    PE X (.Call (.Attribute o "append" apos) (e :: es) [] cpos) (tBM X.K "list" rAppend to t) := pe_bm F.plainAttrs_list F.slot_list_append F.type_list_append mt_append ho ha hbase hfew hline hs hplain
theorem pe_m.clear (ho : PE X o to) (hbase : attributeBase o "clear" X.env (eval o X.env) = eval o X.env := by rfl) (hline : (apos.endLine == cpos.line) = true := by rfl) :
    PE X (.Call (.Attribute o "clear" apos) [] [] cpos) (tBM0 X.K "list" rClear to) := pe_bm0 F.plainAttrs_list F.slot_list_clear F.type_list_clear mt_clear ho hbase hline
theorem pe_m.pop (ho : PE X o to) (hbase : attributeBase o "pop" X.env (eval o X.env) = eval o X.env := by rfl) (hline : (apos.endLine == cpos.line) = true := by rfl) :
    PE X (.Call (.Attribute o "pop" apos) [] [] cpos) (tBM0 X.K "list" rPop to) := pe_bm0 F.plainAttrs_list F.slot_list_pop F.type_list_pop mt_pop ho hbase hline
end
/-! ### tuples stay -/
def TK (H H' : Hp) : Prop := ∀ b xs, H b = some (.tup xs) → H' b = some (.tup xs)
theorem TK.refl (H : Hp) : TK H H := fun _ _ h => h
theorem TK.trans {H H1 H2 : Hp} (a : TK H H1) (b : TK H1 H2) : TK H H2 := fun c o h => b c o (a c o h)
theorem Same.tk {H H' : Hp} (e : Same H H') : TK H H' := fun b xs h => e b _ h
theorem TK.lst {H : Hp} {l : Addr} {xs ys : List V} (h : H l = some (.lst xs)) : TK H (upd H l (.lst ys)) := fun b zs e => by
  rw [upd_ne (ne_of e h (by intro z; cases z))]; exact e
theorem Same.put {H H' : Hp} {D : Addr} {o : HO} (e : Same H H') (h : H D = none) : Same H (upd H' D o) := fun b u q => by
  rw [upd_ne (ne_of_none q h)]; exact e b u q
theorem atI_cons {α : Type} {xs : List α} {i : Int} {v : α} (k : Nat) (hk : (k : Int) = i) (h : xs[k]? = some v) : atI xs i = some v := by rw [← hk]; exact atI_nat h
theorem cutV_take (xs : List V) (k : Nat) (h : k ≤ xs.length) : cutV xs none (some (k : Int)) = xs.take k := by
  unfold cutV
  rw [HT.sIx_nat, HT.sIx_none, List.drop_zero, Nat.sub_zero, Nat.min_eq_left h]
def nameB (t : Str) : Bool := madeB t "abcdefghijklmnopqrstuvwxyz" 8
end L2

set_option Elab.async false
set_option linter.all false
set_option maxRecDepth 100000
set_option maxHeartbeats 4000000
namespace L2
open PySem PySem.Spec PyProof.Rows
/-! ### units -/
structure U where
  name : Str
  value : Int
  size : Int
  path : List Str
def uV (p : Addr) (u : U) : List V := [.str u.name, .int u.value, .int u.size, .ref p]
def IsU (H : Hp) (u : U) (x : V) : Prop := ∃ a p, x = .ref a ∧ H a = some (.tup (uV p u)) ∧ H p = some (.tup (u.path.map V.str))
theorem IsU.tk {H H' : Hp} {u : U} {x : V} (k : TK H H') (h : IsU H u x) : IsU H' u x := let ⟨a, p, h1, h2, h3⟩ := h; ⟨a, p, h1, k a _ h2, k p _ h3⟩
abbrev AllU (H : Hp) : List U → List V → Prop := Paired (IsU H)
theorem AllU.tk {H H' : Hp} (k : TK H H') : ∀ {us : List U} {xs : List V}, AllU H us xs → AllU H' us xs
  | _, _, .nil => .nil
  | _, _, .cons r t => .cons (r.tk k) (AllU.tk k t)
theorem AllU.len {H : Hp} {us : List U} {xs : List V} (h : AllU H us xs) : us.length = xs.length := Paired.length h
theorem AllU.get {H : Hp} : ∀ {us : List U} {xs : List V} {i : Nat} {x : V}, AllU H us xs → xs[i]? = some x → ∃ u, us[i]? = some u ∧ IsU H u x
  | _, _, _, _, .nil, h => by cases h
  | _, _, 0, _, .cons r _, h => ⟨_, rfl, by cases h; exact r⟩
  | _, _, i + 1, _, .cons _ t, h => AllU.get (i := i) t h
theorem AllU.take {H : Hp} : ∀ {us : List U} {xs : List V} (k : Nat), AllU H us xs → AllU H (us.take k) (xs.take k)
  | _, _, 0, _ => by rw [List.take_zero, List.take_zero]; exact .nil
  | _, _, _ + 1, .nil => .nil
  | _, _, k + 1, .cons r t => .cons r (AllU.take k t)
theorem AllU.snoc {H : Hp} {u : U} {x : V} (r : IsU H u x) : ∀ {us : List U} {xs : List V}, AllU H us xs → AllU H (us ++ [u]) (xs ++ [x])
  | _, _, .nil => .cons r .nil
  | _, _, .cons q t => .cons q (AllU.snoc r t)
structure GoodU (u : U) : Prop where
  nm : nameB u.name = true
  v0 : -1000000000 ≤ u.value
  v1 : u.value ≤ 1000000000
  s0 : 1 ≤ u.size
  s1 : u.size ≤ 1000000
  pl : u.path.length ≤ 3
  pn : ∀ n ∈ u.path, nameB n = true
structure GoodL (us : List U) : Prop where
  l1 : 1 ≤ us.length
  l2 : us.length ≤ 24
  each : ∀ u ∈ us, GoodU u
  nd : (us.map U.name).Nodup
  pth : ∀ u ∈ us, ∀ v ∈ us, u.path.length = v.path.length
/-! deep data of units -/
def uD (u : U) : PyData := .tuple [.str u.name, .int u.value, .int u.size, .tuple (u.path.map PyData.str)]
theorem dvs_str {K : PySem.W.Frag} {H : Hp} : ∀ (l : List Str), DVs K H (l.map PyData.str) (l.map V.str)
  | [] => by simp [DVs]
  | c :: l => by
    rw [List.map_cons, List.map_cons, DVs]
    exact ⟨_, _, rfl, by simp [DV], dvs_str l⟩
theorem IsU.dv {K : PySem.W.Frag} {H : Hp} {u : U} {x : V} (h : IsU H u x) : DV K H (uD u) x := by
  obtain ⟨a, p, rfl, h2, h3⟩ := h
  rw [uD, DV]
  refine ⟨a, _, rfl, SqT.of h2, ?_⟩
  rw [uV, DVs]
  refine ⟨_, _, rfl, by simp [DV], ?_⟩
  rw [DVs]
  refine ⟨_, _, rfl, by simp [DV], ?_⟩
  rw [DVs]
  refine ⟨_, _, rfl, by simp [DV], ?_⟩
  rw [DVs]
  refine ⟨_, _, rfl, ?_, by simp [DVs]⟩
  rw [DV]
  exact ⟨p, _, rfl, SqT.of h3, dvs_str _⟩
theorem AllU.dvs {K : PySem.W.Frag} {H : Hp} : ∀ {us : List U} {xs : List V}, AllU H us xs → DVs K H (us.map uD) xs
  | _, _, .nil => by simp [DVs]
  | _, _, .cons r t => by
    rw [List.map_cons, DVs]
    exact ⟨_, _, rfl, r.dv, AllU.dvs t⟩
/-! the rules with the written part told apart (within a comprehension) -/
section
variable {X : Cx} {K : PySem.W.Frag}
theorem ix_seqK (h : X.K = K) : IxR X (rIx K) := h ▸ ix_seq
theorem pg_tupK (h : X.K = K) {es : List Expr} {k : Nat} {t : TGs} {n : Nat} {pos : Pos} (hc : X.calm = true) (hp : PGs X es t) (hn : (assignEach es X.env).length = n := by rfl) (hst : (assignEach es X.env).findIdx? (·.1) = none := by rfl) :
    PG X (.Tuple es k pos) (gTup K n t) := h ▸ pg_tup hc hp hn hst
end
end L2

set_option Elab.async false
set_option linter.all false
set_option maxRecDepth 100000
set_option maxHeartbeats 4000000
namespace L2
open PySem PySem.Spec PyProof.Rows

/-! ### an own exception's class, asked of an instance -/
structure XCls (K : PySem.W.Frag) (D : Addr) : Prop where
  ga : PySem.W.findIn K (.ref D) "__getattribute__" = some (some (.builtin "BaseException.__getattribute__"))
  gn : PySem.W.findIn K (.ref D) "__getattr__" = some none
  cl : PySem.W.findIn K (.ref D) "__class__" = some (some (.builtin "object.__class__"))
  mb : PySem.W.mroIn K D (.type "BaseException") = some true
  mo : PySem.W.mroIn K D (.type "object") = some true
  isc : (PySem.W.clsIn K D).isSome = true

section
variable {prog : Program} {w : World} {A : Around} {E : Value → Shared → Prop} {h : Heap} {g : Array GenState} {d : Drawn} {t : Nat} {os : OsState} {a D : Addr} {o : Obj} {K : PySem.W.Frag}
theorem xc_check {M : Model} {nameV : Value} {Q : Unit → Shared → Prop} (c : XCls K D) (X : K.In h) (hx : h.get? a = some o) (hc : o.cls = .ref D) (hq : Q () ⟨h, g, d, t, os⟩) :
    wpAny M A (checkBuiltinCall "BaseException.__getattribute__" ⟨[.ref a, nameV], []⟩) Q E ⟨h, g, d, t, os⟩ := by
  have hk : builtinKind "BaseException.__getattribute__" = some .slot := by decide +kernel
  have hsplit : splitId "BaseException.__getattribute__" = some ("BaseException", "__getattribute__") := by decide +kernel
  have ha := F.args_bexc_ga (.ref a) nameV
  simp only [checkBuiltinCall, hk, hsplit]
  refine wpAny_bind ?_
  unfold isInstance
  repeat (first | (with_reducible refine wpAny_loadPart_at hx ?_; rw [hc]) | with_reducible refine (PySem.W.looks_mroIn X c.mb).at ?_ | wp_step)
  exact hq
theorem xc_get {R : Result → Shared → Prop} (c : XCls K D) (X : K.In h) (hx : h.get? a = some o) (hc : o.cls = .ref D) (hq : R (.ok (.ret (.ref D))) ⟨h, g, d, t, os⟩) :
    codeAny (model prog w) A (.call (.builtin "getset_descriptor.__get__") ⟨[.builtin "object.__class__", .ref a, .ref D], []⟩) R ⟨h, g, d, t, os⟩ := by
  have hT5 : (⟨h, g, d, t, os⟩ : Shared).TypeIs (.builtin "object.__class__") "getset_descriptor" := F.typeOf_object_class
  have hO : PySem.W.Looks (model prog w) h (isSubtype (.ref D) (.type (".".intercalate ("object.__class__".cutAt '.').dropLast))) true := by
    rw [F.owner_object_class]; exact PySem.W.looks_mroIn X c.mo
  refine codeAny_call_builtin F.slot_gs_get.plain F.entry_gs_get (F.slot_gs_get.check _ _ _ _ _ _ _ _ hT5 (F.args_gs_get _ _ _) ?_)
  repeat (any_goals (first | assumption | (with_reducible refine wpAny_loadPart_at hx ?_; rw [hc]) | with_reducible refine hO.at ?_ | wp_step))
  refine ⟨Code.quiet_builtin _ (by decide +kernel), codeAny_builtin F.entry_object_class ?_⟩
  repeat (any_goals (first | assumption | (with_reducible refine wpAny_loadPart_at hx ?_; rw [hc]) | wp_step))
theorem xc_entry {tk : Tok} {Q : Fin → Shared → Prop} (c : XCls K D) (X : K.In h) (hx : h.get? a = some o) (hc : o.cls = .ref D) (hq : Q (.done (.ret (.ref D))) ⟨h, g, d, t, os⟩) :
    wpAny (model prog w) A (Builtin.«object.__getattribute__» ⟨[.ref a, .str "__class__" tk], []⟩) Q E ⟨h, g, d, t, os⟩ := by
  have hT5 : (⟨h, g, d, t, os⟩ : Shared).TypeIs (.builtin "object.__class__") "getset_descriptor" := F.typeOf_object_class
  have f5 := F.typeOf_object_class
  have f6 := F.slot_gs_get.lookup
  have f7 := F.slot_gs_set.lookup
  repeat (any_goals (first | assumption | (with_reducible refine wpAny_loadPart_at hx ?_; rw [hc]) | with_reducible refine (PySem.W.looks_findIn X c.cl).at ?_ | wp_step))
  refine xc_get c X hx hc ?_
  repeat (any_goals (first | assumption | wp_step))
theorem xc_by {tk : Tok} {fill expr : Bool} {Q : Value → Shared → Prop} (c : XCls K D) (X : K.In h) (hx : h.get? a = some o) (hc : o.cls = .ref D) (hq : Q (.ref D) ⟨h, g, d, t, os⟩) :
    wpAny (model prog w) A (getAttrBy (.ref a) (.str "__class__" tk) fill expr) Q E ⟨h, g, d, t, os⟩ := by
  have f3 := PySem.F.attrBase_ValueError.ga.bind (.ref a)
  have hx0 : (expr && onTheHeap (Value.builtin "BaseException.__getattribute__")) = false := by cases expr <;> rfl
  have hx2 : (Value.builtin "BaseException.__getattribute__" == Value.builtin "object.__getattribute__") = false := by decide +kernel
  have hx1 : (onTheHeap (Value.ref D) && Value.builtin "BaseException.__getattribute__" == Value.builtin "object.__getattribute__") = false := by rw [hx2]; rfl
  repeat (any_goals (first | assumption | (with_reducible refine wpAny_loadPart_at hx ?_; rw [hc]) | with_reducible refine (PySem.W.looks_findIn X c.ga).at ?_ | with_reducible refine (PySem.W.looks_findIn X c.gn).at ?_ | wp_step))
  refine codeAny_call_builtin PySem.F.attrBase_ValueError.ga.plain F.entry_bexc_ga (xc_check c X hx hc (xc_entry c X hx hc ?_))
  repeat (any_goals (first | assumption | wp_step))
theorem xc_attr {Q : Option Value → Shared → Prop} (c : XCls K D) (X : K.In h) (hx : h.get? a = some o) (hc : o.cls = .ref D) (hq : Q (some (.ref D)) ⟨h, g, d, t + 1, os⟩) :
    wpAny (model prog w) A (getAttr? (.ref a) "__class__") Q E ⟨h, g, d, t, os⟩ := by
  unfold getAttr? getAttrBy?
  repeat (any_goals (first | assumption | with_reducible apply xc_by c X hx hc | wp_step))
end
def XAt (a D : Addr) (h : Heap) : Prop := ∃ o, h.get? a = some o ∧ o.cls = .ref D
theorem kitx_exc {K : PySem.W.Frag} {a D : Addr} (c : XCls K D) : PySem.W.KitX K (.ref a) (.ref D) (XAt a D) where
  ty := fun M h _ p => by
    obtain ⟨o, h1, h2⟩ := p
    exact h2 ▸ (PySem.W.Looks.ld h1).andThen .now
  it := fun _ _ X _ => by
    obtain ⟨cdD, hcD⟩ := Option.isSome_iff_exists.mp c.isc
    unfold PySem.W.clsIn at hcD
    split at hcD
    · rename_i c' d' cd' sl' ho
      intro A' Q' E' s' k q
      unfold isType loadHead
      exact wpAny_bind (wpAny_loadPart (k _ _ (X _ _ ho)) (wpAny_pure q))
    · cases hcD
  ne := fun h tp dd its n sl X htp => by
    obtain ⟨cdD, hcD⟩ := Option.isSome_iff_exists.mp c.isc
    refine Bool.eq_false_iff.mpr fun q => ?_
    have e : D = tp := Value.ref.inj (beq_iff_eq.mp q)
    subst e
    unfold PySem.W.clsIn at hcD
    split at hcD
    · rename_i c' d' cd' sl' ho
      have z := (X _ _ ho).symm.trans htp
      cases z
    · cases hcD
  ca := fun {_ _ _ _ _ s} X p k => by
    obtain ⟨h, g, d, t, os⟩ := s
    obtain ⟨o, h1, h2⟩ := p
    exact xc_attr c X h1 h2 k
end L2

set_option Elab.async false
set_option linter.all false
set_option maxRecDepth 100000
set_option maxHeartbeats 4000000
namespace L2
open PySem PySem.Spec PyProof.Rows

/-! ### an own exception leaves -/
theorem un_more {fs : List Addr} {H0 H : Hp} {h0 h h2 : Heap} (u : Un fs [] H0 H h0 h) (k : ∀ b o, (∃ o', h0.get? b = some o') → b ∉ fs → h.get? b = some o → h2.get? b = some o)
    (sl : ∀ b o, b ∈ fs → h.get? b = some o → ∃ l, h2.get? b = some { o with slots := l }) : Un fs [] H0 H h0 h2 where
  keep := fun b o q n hf hx => k b o ⟨o, q⟩ hf (u.keep b o q n hf hx)
  slot := fun b o q n hf hx => by
    obtain ⟨l, e⟩ := u.slot b o q n hf hx
    obtain ⟨l', e'⟩ := sl b _ hf e
    exact ⟨l', e'⟩
  free := u.free
  there := fun b o q hx => by
    obtain ⟨o', e⟩ := u.there b o q hx
    by_cases hf : b ∈ fs
    · obtain ⟨l, e'⟩ := sl b o' hf e
      exact ⟨_, e'⟩
    · exact ⟨o', k b o' ⟨o, q⟩ hf e⟩
  tups := u.tups
  frzs := u.frzs
  tbls := u.tbls
theorem hok_more {P : Program} {w : World} {H : Hp} {h h2 : Heap} (x : HOk P w H h) (k : ∀ b o u, H b = some u → h.get? b = some o → h2.get? b = some o) : HOk P w H h2 := fun a o e =>
  (x a o e).stay (fun b u hb q => by
    rcases hb with z | z
    · rw [z] at q ⊢
      exact k a u o e q
    · exact k b u _ z q) (fun _ q => q) fun _ _ q => q
theorem ObjOk.isObj {P : Program} {w : World} {H : Hp} {h : Heap} {a : Addr} {o : HO} (x : ObjOk P w H h a o) : ∃ u, h.get? a = some u := by
  cases o with
  | lst xs => obtain ⟨_, _, _, _, e⟩ := x; exact ⟨_, e⟩
  | tup xs => obtain ⟨_, _, _, _, e, _⟩ := x; exact ⟨_, e⟩
  | dK kvs => obtain ⟨_, _, _, _, o, _, _, e, _⟩ := x; exact ⟨_, e⟩
  | dT kvs => obtain ⟨_, _, _, _, o, _, _, e, _⟩ := x; exact ⟨_, e⟩
  | set S n => obtain ⟨o, _, _, _, e, _⟩ := x; exact ⟨_, e⟩
  | ins C dx fs => obtain ⟨_, _, _, e, _⟩ := x; exact ⟨_, e⟩
  | own y => exact x
  | xd fs => obtain ⟨_, ⟨_, _, _, e, _⟩, _⟩ := x; exact ⟨_, e⟩
  | rng lo hi => obtain ⟨_, _, _, e⟩ := x; exact ⟨_, e⟩
  | frz ob u => exact ⟨_, x.1⟩
  | tbl ps => exact ⟨_, x⟩
  | met f y => exact ⟨_, x⟩
  | ext φ => exact x.2.1

/-- the exception at x, of the class at D, flies: B holds all of before (but the callers' frames) and all that is tracked -/
structure XF (P : Program) (w : World) (outer : List Env) (H : Hp) (s : Shared) (x D : Addr) (a0 : Value) (B : Heap) (H' : Hp) (s' : Shared) : Prop where
  os : s'.os = s.os
  bare : AllBare s'.gens
  un : Un (frs outer) [] H H' s.heap s'.heap
  hok : HOk P w H' s'.heap
  fly : Heap.FlyingW B outer x (.ref D) a0 s'.heap
  cov : ∀ b o, s'.heap.get? b = some o → ((∃ o', s.heap.get? b = some o') ∨ (∃ u, H' b = some u)) → b ∉ frs outer → B.get? b = some o
section
variable {P : Program} {w : World} {outer : List Env} {H H' : Hp} {s s' : Shared} {x D : Addr} {a0 : Value} {B : Heap}
theorem fly_out {h : Heap} (f : Heap.FlyingW B outer x (.ref D) a0 h) : x ∉ frs outer := fun hm => by
  obtain ⟨_, _, f3, oe, vs, T, oT, ts, he, _, hd, _⟩ := f
  obtain ⟨_, o, ho, hn⟩ := f3.mem hm
  rw [he] at ho
  cases ho
  exact hn vs hd
theorem XF.new (F : XF P w outer H s x D a0 B H' s') : ∀ o, s.heap.get? x ≠ some o := fun o e => by
  obtain ⟨o', e'⟩ := F.un.there x o e (by simp)
  have := F.cov x o' e' (.inl ⟨o, e⟩) (fly_out F.fly)
  rw [F.fly.2.1] at this
  cases this
theorem XF.free (F : XF P w outer H s x D a0 B H' s') : H' x = none := by
  cases q : H' x with
  | none => rfl
  | some u =>
    obtain ⟨o, e⟩ := (F.hok x u q).isObj
    have := F.cov x o e (.inr ⟨u, q⟩) (fly_out F.fly)
    rw [F.fly.2.1] at this
    cases this
end
section
variable {X : Cx} {pins : List (Addr × Obj)} {σ : St} {H H' : Hp} {s s' : Shared} {x D : Addr} {a0 : Value} {B h2 : Heap}
theorem old_out (J : Inv X pins σ H' s') {b : Addr} (h : ∃ o', X.s₀.heap.get? b = some o') (hn : b ∉ frs X.outer) : b ∉ frs X.stack := fun hb => by
  obtain ⟨o', e⟩ := h
  rcases List.mem_cons.mp (J.stkSub b hb) with z | z
  · have h1 := Heap.lt_size e
    have h2 := J.ok.above
    rw [z] at h1
    exact absurd (Nat.lt_of_lt_of_le h1 h2) (Nat.lt_irrefl _)
  · exact hn z
theorem trk_out (J : Inv X pins σ H' s') {b : Addr} {u : HO} (e : H' b = some u) : b ∉ frs X.stack := fun hb => by
  rw [J.stkFree b hb] at e
  cases e
end
section
variable {P : Program} {w : World} {K : PySem.W.Frag} {mg : Str → Option Value} {base : Heap} {N : List Str} {qual : Str} {scope : Scope} {f : Addr} {cdv : Value} {A : Around} {outer : List Env} {s0 : Shared} {H0 : Hp} {E : XK}
end
section
variable {P : Program} {w : World} {K : PySem.W.Frag} {mg : Str → Option Value} {base : Heap}
end
end L2

set_option Elab.async false
set_option linter.all false
set_option maxRecDepth 100000
set_option maxHeartbeats 4000000
namespace L2
open PySem PySem.Spec PyProof.Rows

/-! ### an own exception is caught -/
/-- what a class must have to be named behind except -/
structure XHd (K : PySem.W.Frag) (C : Addr) : Prop where
  isc : (PySem.W.clsIn K C).isSome = true
  ty : PySem.W.typeIn K (.ref C) = some (.type "type")
  mb : PySem.W.mroIn K C (.type "BaseException") = some true
theorem x_isType {K : PySem.W.Frag} {M : Model} {h : Heap} {C : Addr} (X : K.In h) (e : (PySem.W.clsIn K C).isSome = true) : PySem.W.Looks M h (isType (.ref C)) true := by
  obtain ⟨cdD, hcD⟩ := Option.isSome_iff_exists.mp e
  unfold PySem.W.clsIn at hcD
  split at hcD
  · rename_i c' d' cd' sl' ho
    intro A' Q' E' s' k q
    unfold isType loadHead
    exact wpAny_bind (wpAny_loadPart (k _ _ (X _ _ ho)) (wpAny_pure q))
  · cases hcD
theorem x_matches {K : PySem.W.Frag} {M : Model} {h : Heap} {C D x : Addr} {ob : Obj} (X : K.In h) (c : XHd K C) (hx : h.get? x = some ob) (hc : ob.cls = .ref D) (hm : PySem.W.mroIn K D (.ref C) = some true) :
    PySem.W.Looks M h (excMatches (.ref x) (.ref C)) true := by
  have L1 : PySem.W.Looks M h (typeOf (.ref C)) (.type "type") := PySem.W.looks_typeIn X c.ty
  have L2' : PySem.W.Looks M h (isSubtype (.type "type") (.type "tuple")) false := PySem.W.Looks.of_pure tc_notTuple
  have L3 : PySem.W.Looks M h (isInstance (.ref C) (.type "tuple")) false := L1.andThen L2'
  have L4 : PySem.W.Looks M h (isExcClass (.ref C)) true := by
    unfold isExcClass
    exact (x_isType X c.isc).andThen (PySem.W.looks_mroIn X c.mb)
  have L5 : PySem.W.Looks M h (typeOf (.ref x)) (.ref D) := hc ▸ (PySem.W.Looks.ld hx).andThen .now
  have L6 : PySem.W.Looks M h (isSubtype (.ref D) (.ref C)) true := PySem.W.looks_mroIn X hm
  intro A Q E s k q
  unfold excMatches
  refine wpAny_bind (L3 A _ E s k ?_)
  rw [if_neg Bool.false_ne_true]
  refine wpAny_bind (wpAny_pure ?_)
  simp only [List.forIn_cons, List.forIn_nil, bind_assoc, pure_bind]
  refine wpAny_bind (L4 A _ E s k ?_)
  simp only [Bool.not_true, Bool.false_eq_true, if_false, pure_bind]
  refine wpAny_bind (L5 A _ E s k ?_)
  refine wpAny_bind (L6 A _ E s k ?_)
  simp only [if_true, pure_bind]
  exact wpAny_pure q

/-- within the except suite that holds the exception at x -/
def Cx.inX (X : Cx) (x : Addr) : Cx := { X with A := X.A.mark (some (.ref x)), calm := false, xe := fun _ _ => False }
section
variable {X : Cx} {pins : List (Addr × Obj)} {σ : St} {H H' H1 : Hp} {s s' s1 : Shared} {x D C : Addr} {a0 : Value} {B h2 : Heap}
theorem Inv.inX (I : Inv X pins σ H s) (x : Addr) : Inv (X.inX x) pins σ H s :=
  ⟨⟨I.ok.mod, I.ok.kind, I.ok.glob, I.ok.blt, I.ok.above, I.ok.inj, I.ok.has, I.ok.cab, fun z => absurd (show false = true from z) Bool.false_ne_true, I.ok.frames, I.ok.stk, I.ok.exf, I.ok.bs, I.ok.bsz, I.ok.noex, I.ok.exfs, I.ok.funs, I.ok.frf⟩,
    I.os, I.bare, I.base, I.loc, I.cell, I.free, I.freeC, I.pin, I.hok, I.len⟩
theorem Inv.outX (hk : X.calm = true → X.A.handled = none) (I : Inv (X.inX x) pins σ H s) : Inv X pins σ H s :=
  ⟨⟨I.ok.mod, I.ok.kind, I.ok.glob, I.ok.blt, I.ok.above, I.ok.inj, I.ok.has, I.ok.cab, hk, I.ok.frames, I.ok.stk, I.ok.exf, I.ok.bs, I.ok.bsz, I.ok.noex, I.ok.exfs, I.ok.funs, I.ok.frf⟩,
    I.os, I.bare, I.base, I.loc, I.cell, I.free, I.freeC, I.pin, I.hok, I.len⟩
/-- a local name is taken away -/
theorem Inv.gone {i : Nat} {n : Str} {m : Str → Option Value} {v : Option Value} {h' : Heap} {t' : Nat} (I : Inv X pins σ H s) (hN : X.N.Nodup) (hi : X.N[i]? = some n) (hl : X.env.kindOf n = some .local)
    (hm : ∀ (j : Nat) (y : Str) (w : V), X.N[j]? = some y → σ[j]? = some (some w) → Vis X.env.scope y → ∃ u, RelV w u ∧ Look X.env s.heap m y u)
    (hn : h'.Ns X.env.locals (fun y => if y = n then v else m y)) (sb : Heap.SameBut X.env.locals s.heap h') : Inv X pins (σ.set i none) H { s with heap := h', toks := t' } := by
  have lt : i < σ.length := by rw [I.len]; exact (List.getElem?_eq_some_iff.mp hi).1
  have ne0 : ∀ b o, X.s₀.heap.get? b = some o → b ≠ X.env.locals := fun b o e => Nat.ne_of_lt (Nat.lt_of_lt_of_le (Heap.lt_size e) I.ok.above)
  have u := I.base
  refine ⟨I.ok, I.os, I.bare, ⟨fun b o e n hf hx => (sb.2 b (ne0 b o e)).trans (u.keep b o e n hf hx), fun b o e n hf hx => ?_, u.free, fun b o e hx => ?_, u.tups, u.frzs, u.tbls⟩, ⟨_, hn, fun j y w e1 e2 e3 => ?_⟩, fun x c e => ?_, I.free, I.freeC, fun p hp => ?_, ?_, by rw [List.length_set]; exact I.len⟩
  · obtain ⟨sl, e'⟩ := u.slot b o e n hf hx
    exact ⟨sl, (sb.2 b (ne0 b o e)).trans e'⟩
  · obtain ⟨o', e'⟩ := u.there b o e hx
    exact ⟨o', (sb.2 b (ne0 b o e)).trans e'⟩
  · have hij : i ≠ j := fun z => by
      subst z
      rw [List.getElem?_set_self lt] at e2
      cases e2
    rw [List.getElem?_set_ne hij] at e2
    have hy : y ≠ n := fun z => by
      subst z
      exact hij ((List.getElem?_inj (List.getElem?_eq_some_iff.mp hi).1 hN).mp (hi.trans e1.symm))
    obtain ⟨u', r, l⟩ := hm j y w e1 e2 e3
    refine ⟨u', r, ?_⟩
    rcases l with ⟨z1, z2⟩ | ⟨z1, c, z2, z3⟩
    · exact .inl ⟨z1, by simp only [if_neg hy]; exact z2⟩
    · exact .inr ⟨z1, c, z2, z3.sameBut sb (I.cne y c z2)⟩
  · obtain ⟨v', z⟩ := I.cell x c e
    exact ⟨v', z.sameBut sb (I.cne x c e)⟩
  · obtain ⟨p1, p2, p3, p4, p5⟩ := I.pin p hp
    exact ⟨(sb.2 _ p3).trans p1, p2, p3, p4, p5⟩
  · exact hok_more I.hok fun b o u' e q => (sb.2 b fun z => by rw [z, I.free] at e; cases e).trans q
end
end L2

set_option Elab.async false
set_option linter.all false
set_option maxRecDepth 100000
set_option maxHeartbeats 4000000
namespace L2
open PySem PySem.Spec PyProof.Rows

section
variable {X : Cx} {pins : List (Addr × Obj)} {σ : St} {H H' H1 : Hp} {s s' s1 : Shared} {x D C : Addr} {a0 : Value} {B h2 : Heap} {cn en : Str} {ie : Nat} {b₀ : Stmt} {suite : List Stmt} {cp hp : Pos} {ts : TS} {DE : Ends}
/-- what is wanted behind the suite: the name of the exception is gone -/
def Ends.asG (DE : Ends) (ie : Nat) : Ends := { nx := fun σ' H' => DE.nx (σ'.set ie none) H', rt := fun _ _ => False }
end
section
variable {X : Cx} {k ie : Nat} {f C : Addr} {fd : FuncData} {ps : List Str} {sp : Sp} {dvs : List V} {ds : List Value} {fx cn en : Str} {p pos p2 cp hp tp : Pos} {e : Expr} {es : List Expr} {t : TA} {b₀ : Stmt} {suite : List Stmt} {ts : TS}
end

/-! ### isinstance of such a one -/
def TyX (K : PySem.W.Frag) (H : Hp) (x : V) (t : Value) : Prop := TyOf K H x t ∨ ∃ a D φ, x = .ref a ∧ t = .ref D ∧ XCls K D ∧ H a = some (.ext φ) ∧ ∀ h, φ h → XAt a D h
section
variable {X : Cx}
open PySem.W in
theorem kit_ofX {pins : List (Addr × Obj)} {σ : St} {H : Hp} {s : Shared} {x : V} {u t : Value} (I : Inv X pins σ H s) (rx : RelV x u) (ty : TyX X.K H x t) :
    ∃ Hh : Heap → Prop, KitX X.K u t Hh ∧ Hh s.heap ∧ u ≠ .builtin "__main__.__loader__#opaque" := by
  rcases ty with ty | ⟨a, D, φ, rfl, rfl, c, e, hφ⟩
  · exact kit_of I rx ty
  · cases (show u = Value.ref a from rx)
    exact ⟨_, kitx_exc c, hφ _ (I.hok a _ e).1, fun z => nomatch z⟩
def rIsX (K : PySem.W.Frag) : List V → Hp → VK → Prop := fun xs H Q => ∃ x c t b, xs = [x, c] ∧ isCls c = true ∧ TyX K H x t ∧ PySem.W.kitOne K t (cVal c) = some b ∧ Q (.bl b) H
theorem call_isx : CallR X (.builtin "isinstance") (rIsX X.K) := by
  intro pins s σ H xs us Q I r h
  obtain ⟨x, c, t, b, rfl, hc, ty, e, q⟩ := h
  obtain ⟨u, w', rfl, rx, rc⟩ := vals2 r
  cases cVal_of hc rc
  obtain ⟨Hh, Z, p, hx⟩ := kit_ofX I rx ty
  exact PySem.W.kia_one Z I.kIn p e hx fun tk => ⟨.bl b, H, I.tok tk, rfl, q⟩
/-- isinstance(x, (C, ..)) -/
def rIsXT (K : PySem.W.Frag) : List V → Hp → VK → Prop := fun xs H Q => ∃ x p cs t b, xs = [x, .ref p] ∧ H p = some (.tup cs) ∧ (cs.all isCls) = true ∧ TyX K H x t ∧ PySem.W.kitAny K t (cs.map cVal) = some b ∧ Q (.bl b) H
theorem cVals_of : ∀ {cs : List V} {us : List Value}, (cs.all isCls) = true → Vals cs us → us = cs.map cVal
  | [], _, _, .nil => rfl
  | c :: cs, _, h, .cons r t => by
    rw [List.all_cons, Bool.and_eq_true] at h
    rw [List.map_cons, cVal_of h.1 r, cVals_of h.2 t]
theorem call_isxT : CallR X (.builtin "isinstance") (rIsXT X.K) := by
  intro pins s σ H xs us Q I r h
  obtain ⟨x, p, cs, t, b, rfl, hp, hc, ty, e, q⟩ := h
  obtain ⟨u, w', rfl, rx, rc⟩ := vals2 r
  cases (show w' = Value.ref p from rc)
  obtain ⟨_, its, rv, o, ho, hoc, n, hod⟩ := (show ObjOk X.prog X.w H s.heap p (.tup cs) from I.hok p _ hp)
  obtain ⟨oc, dd, dt, sl⟩ := o
  obtain rfl : oc = .type "tuple" := hoc
  obtain rfl : dt = _ := hod
  rw [cVals_of hc rv] at ho
  obtain ⟨Hh, Z, z, hx⟩ := kit_ofX I rx ty
  exact PySem.W.kia_tup Z I.kIn z ho e hx fun tk => ⟨.bl b, H, I.tok tk, rfl, q⟩
end
end L2

set_option Elab.async false
set_option linter.all false
set_option maxRecDepth 100000
set_option maxHeartbeats 4000000
namespace L2
open PySem PySem.Spec PyProof.Rows
section
variable {prog : Program} {w : World} {A : Around} {E : Value → Shared → Prop} {h : Heap} {g : Array GenState} {d : Drawn} {t : Nat} {os : OsState} {a D dx : Addr} {o : Obj} {vs : Array Value} {cd : ClassData} {K : PySem.W.Frag} {name : Str} {mA : Str → Option Value} {v : Value}
theorem xa_entry {tk : Tok} {Q : Fin → Shared → Prop} (X : K.In h) (na : PySem.W.findIn K (.ref D) name = some none) (hk : PySem.W.clsIn K D = some cd) (hkd : cd.hasDict = true) (hx : h.get? a = some o) (hc : o.cls = .ref D) (hdt : o.data = .fields vs) (hd : o.dict = some dx)
    (hn : h.Ns dx mA) (hv : mA name = some v) (hq : Q (.done (.ret v)) ⟨h, g, d, t, os⟩) : wpAny (model prog w) A (Builtin.«object.__getattribute__» ⟨[.ref a, .str name tk], []⟩) Q E ⟨h, g, d, t, os⟩ := by
  unfold Builtin.«object.__getattribute__»
  repeat (any_goals (first | assumption | (with_reducible refine wpAny_loadPart_at hx ?_; rw [hc]) | with_reducible refine (PySem.W.looks_findIn X na).at ?_ | wp_step))
  rw [hdt]
  show wpAny _ _ (instanceDict a false) _ _ _
  unfold instanceDict
  refine wpAny_bind (wpAny_loadPart_at hx ?_)
  rw [hc]
  refine wpAny_bind ((PySem.W.looks_clsIn X hk).at ?_)
  rw [hkd, hd]
  simp only [Bool.not_true, Bool.false_eq_true, if_false]
  refine wpAny_pure ?_
  unfold Builtin.ObjectAttr.inDict
  refine wpAny_nsGet hn ?_
  rw [hv]
  refine wpAny_bind (wpAny_rule (wpAny_pure ?_))
  exact wpAny_pure hq
theorem xa_by {tk : Tok} {fill expr : Bool} {Q : Value → Shared → Prop} (c : XCls K D) (X : K.In h) (na : PySem.W.findIn K (.ref D) name = some none) (hk : PySem.W.clsIn K D = some cd) (hkd : cd.hasDict = true) (hx : h.get? a = some o) (hc : o.cls = .ref D)
    (hdt : o.data = .fields vs) (hd : o.dict = some dx) (hn : h.Ns dx mA) (hv : mA name = some v) (hb : ∀ id, v ≠ .builtin id) (hq : Q v ⟨h, g, d, t, os⟩) :
    wpAny (model prog w) A (getAttrBy (.ref a) (.str name tk) fill expr) Q E ⟨h, g, d, t, os⟩ := by
  have f3 := PySem.F.attrBase_ValueError.ga.bind (.ref a)
  have hx0 : (expr && onTheHeap (Value.builtin "BaseException.__getattribute__")) = false := by cases expr <;> rfl
  have hx2 : (Value.builtin "BaseException.__getattribute__" == Value.builtin "object.__getattribute__") = false := by decide +kernel
  have hx1 : (onTheHeap (Value.ref D) && Value.builtin "BaseException.__getattribute__" == Value.builtin "object.__getattribute__") = false := by rw [hx2]; rfl
  repeat (any_goals (first | assumption | (with_reducible refine wpAny_loadPart_at hx ?_; rw [hc]) | with_reducible refine (PySem.W.looks_findIn X c.ga).at ?_ | with_reducible refine (PySem.W.looks_findIn X c.gn).at ?_ | wp_step))
  refine codeAny_call_builtin PySem.F.attrBase_ValueError.ga.plain F.entry_bexc_ga (xc_check c X hx hc (xa_entry X na hk hkd hx hc hdt hd hn hv ?_))
  repeat (any_goals (first | assumption | wp_step))
  cases v with
  | builtin id => exact absurd rfl (hb id)
  | _ => exact wpAny_pure hq
theorem xa_attr {expr : Bool} {Q : Value → Shared → Prop} (c : XCls K D) (X : K.In h) (na : PySem.W.findIn K (.ref D) name = some none) (hk : PySem.W.clsIn K D = some cd) (hkd : cd.hasDict = true) (hx : h.get? a = some o) (hc : o.cls = .ref D)
    (hdt : o.data = .fields vs) (hd : o.dict = some dx) (hn : h.Ns dx mA) (hv : mA name = some v) (hb : ∀ id, v ≠ .builtin id) (hq : Q v ⟨h, g, d, t + 1, os⟩) :
    wpAny (model prog w) A (getAttr (.ref a) name expr) Q E ⟨h, g, d, t, os⟩ := by
  unfold getAttr
  repeat (any_goals (first | assumption | with_reducible apply xa_by c X na hk hkd hx hc hdt hd hn hv hb | wp_step))

/-! setting -/
abbrev bmV : List Value := [.type "ValueError", .type "Exception", .type "BaseException", .type "object"]
def isRf : Value → Bool
  | .ref _ => true
  | _ => false
def vTail (l : List Value) : Bool := l.dropWhile isRf == bmV
theorem refuse_v (self : Value) : ∀ {l : List Value}, vTail l = true → refuseLoop self "__setattr__" l = pure ()
  | [], e => by cases e
  | x :: r, e => by
    by_cases hx : isRf x = true
    · have e' : vTail r = true := by
        unfold vTail at e ⊢
        rw [List.dropWhile_cons_of_pos hx] at e
        exact e
      cases x <;> first | exact absurd hx Bool.false_ne_true | (rw [refuseLoop_ref]; exact refuse_v self e')
    · unfold vTail at e
      rw [List.dropWhile_cons_of_neg hx] at e
      rw [beq_iff_eq.mp e]
      exact PySem.F.store_ValueError.passes self
/-- what a class must have that its instances take the attribute name -/
structure XSet (K : PySem.W.Frag) (D : Addr) (name : Str) (cd : ClassData) : Prop where
  k : PySem.W.clsIn K D = some cd
  dct : cd.hasDict = true
  mro : vTail cd.mro = true
  mo : PySem.W.mroIn K D (.type "object") = some true
  sa : PySem.W.findIn K (.ref D) "__setattr__" = some (some (.builtin "object.__setattr__"))
  na : PySem.W.findIn K (.ref D) name = some none
theorem xs_open {tk : Tok} {Q : Fin → Shared → Prop} (c : XSet K D name cd) (X : K.In h) (hx : h.get? a = some o) (hc : o.cls = .ref D)
    (hq : wpAny (model prog w) A (instanceDict a true) (fun r s' => wpAny (model prog w) A (match r with | some d' => Builtin.ObjectAttr.storeInDict d' (.str name tk) name v | none => Builtin.ObjectAttr.noDictFor (.ref a) (.ref D) name false) Q E s') E ⟨h, g, d, t, os⟩) :
    wpAny (model prog w) A (Builtin.«object.__setattr__» ⟨[.ref a, .str name tk, v], []⟩) Q E ⟨h, g, d, t, os⟩ := by
  have LT : PySem.W.Looks (model prog w) h (typeOf (.ref a)) (.ref D) := hc ▸ (PySem.W.Looks.ld hx).andThen .now
  have LM : PySem.W.Looks (model prog w) h (mroOf (.ref D)) cd.mro := (PySem.W.looks_clsIn X c.k).andThen .now
  rw [PySem.W.osa_eq, refuse_eq]
  refine wpAny_bind (wpAny_bind (LT.at (wpAny_bind (LM.at ?_))))
  rw [refuse_v _ c.mro]
  refine wpAny_pure (wpAny_bind (LT.at (wpAny_bind ((PySem.W.looks_findIn X c.na).at ?_))))
  refine wpAny_bind (wpAny_pure ?_)
  show wpAny _ _ (Builtin.ObjectAttr.storeInOwnDict (.ref a) (.ref D) (.str name tk) name v false) _ _ _
  unfold Builtin.ObjectAttr.storeInOwnDict
  refine wpAny_bind (wpAny_pure ?_)
  rw [if_neg (show ¬ ((Value.ref D == Value.type "module") = true) from fun z => by cases eq_of_beq z)]
  exact wpAny_bind hq
theorem xs_store {tk : Tok} {Q : Fin → Shared → Prop} {dd : Addr} {ns : List Str} (hn : h.Ns1 dd mA) (hw : PySem.Within mA ns) (hz : ns.length ≤ 1000)
    (hq : ∀ h', h'.Ns1 dd (fun y => if y = name then some v else mA y) → Heap.SameBut dd h h' → Q (.done (.ret .none)) ⟨h', g, d, t + 1, os⟩) :
    wpAny (model prog w) A (Builtin.ObjectAttr.storeInDict dd (.str name tk) name v) Q E ⟨h, g, d, t, os⟩ := by
  unfold Builtin.ObjectAttr.storeInDict Builtin.ObjectAttr.newKeyGuard
  refine wpAny_bind (wpAny_pure (wpAny_bind (wpAny_nsSet1 hn fun h1 n1 s1 => ?_)))
  obtain ⟨o1, es1, ep1, g1, d1, c1⟩ := n1.count (PySem.Within.cons name v hw)
  have z1 : es1.size ≤ sizeLine := Nat.le_trans c1 (by rw [List.length_cons, sizeLine_eq]; omega)
  refine wpAny_bind (wpAny_lookBehind g1 (by rw [d1]; exact pastItsLine_dict (Nat.le_succ_of_le z1)) ?_)
  exact wpAny_pure (hq h1 n1 s1)
/-- the first attribute: the dict is made -/
theorem xs_first {tk : Tok} {Q : Fin → Shared → Prop} (c : XSet K D name cd) (X : K.In h) (hx : h.get? a = some o) (hc : o.cls = .ref D) (hdt : o.data = .fields vs) (hd : o.dict = none)
    (hq : ∀ h', h'.Ns1 h.objs.size (fun y => if y = name then some v else none) → h'.get? a = some { o with dict := some h.objs.size } → (∀ b u, b ≠ a → h.get? b = some u → h'.get? b = some u) → Q (.done (.ret .none)) ⟨h', g, d, t + 1, os⟩) :
    wpAny (model prog w) A (Builtin.«object.__setattr__» ⟨[.ref a, .str name tk, v], []⟩) Q E ⟨h, g, d, t, os⟩ := by
  refine xs_open c X hx hc ?_
  have hx1 : (h.push { cls := .type "dict", data := .dict #[] }).get? a = some o := Heap.get?_push_of_some _ hx
  have hne : a ≠ h.objs.size := Nat.ne_of_lt (Heap.lt_size hx)
  unfold instanceDict
  refine wpAny_bind (wpAny_loadPart_at hx ?_)
  rw [hc]
  refine wpAny_bind ((PySem.W.looks_clsIn X c.k).at ?_)
  rw [c.dct, hd, hdt]
  simp only [Bool.not_true, Bool.false_eq_true, if_false]
  rw [if_neg (by simp [typeHasDict])]
  refine wpAny_bind (wpAny_alloc' (wpAny_bind (wpAny_update' hx1 (wpAny_pure ?_))))
  have e1 : ((h.push { cls := .type "dict", data := .dict #[] }).update a fun u => { u with dict := some h.objs.size }).get? h.objs.size = some { cls := .type "dict", data := .dict #[] } :=
    (Heap.get?_update_ne _ _ _ _ hne.symm).trans (Heap.get?_push_at rfl rfl)
  refine xs_store (Heap.Ns1.of_empty ⟨_, #[], _, e1, rfl, fun u hu => absurd hu (by simp), fun _ => rfl⟩) PySem.Within.nil (by simp) fun h2 n2 s2 => hq h2 n2 ?_ fun b u hb e => ?_
  · refine (s2.2 a hne).trans (Heap.get?_update_self _ hx1 ?_)
    rw [Obj.isFreed_of_fields (vs := vs)]
    exact hdt
  · exact (s2.2 b (Nat.ne_of_lt (Heap.lt_size e))).trans ((Heap.get?_update_ne _ _ _ _ hb).trans (Heap.get?_push_of_some _ e))
/-- a further one -/
theorem xs_next {tk : Tok} {Q : Fin → Shared → Prop} {ns : List Str} (c : XSet K D name cd) (X : K.In h) (hx : h.get? a = some o) (hc : o.cls = .ref D) (hd : o.dict = some dx) (hn : h.Ns1 dx mA) (hw : PySem.Within mA ns) (hz : ns.length ≤ 1000)
    (hq : ∀ h', h'.Ns1 dx (fun y => if y = name then some v else mA y) → Heap.SameBut dx h h' → Q (.done (.ret .none)) ⟨h', g, d, t + 1, os⟩) :
    wpAny (model prog w) A (Builtin.«object.__setattr__» ⟨[.ref a, .str name tk, v], []⟩) Q E ⟨h, g, d, t, os⟩ := by
  refine xs_open c X hx hc ?_
  unfold instanceDict
  refine wpAny_bind (wpAny_loadPart_at hx ?_)
  rw [hc]
  refine wpAny_bind ((PySem.W.looks_clsIn X c.k).at ?_)
  rw [c.dct, hd]
  simp only [Bool.not_true, Bool.false_eq_true, if_false]
  exact wpAny_pure (xs_store hn hw hz hq)
theorem xs_attr {Q : Unit → Shared → Prop} (c : XSet K D name cd) (X : K.In h) (hx : h.get? a = some o) (hc : o.cls = .ref D)
    (hq : ∀ (B : Around) (tk : Tok) (Q' : Fin → Shared → Prop) (E' : Value → Shared → Prop), (∀ s', Q () s' → Q' (.done (.ret .none)) s') → wpAny (model prog w) B (Builtin.«object.__setattr__» ⟨[.ref a, .str name tk, v], []⟩) Q' E' ⟨h, g, d, t + 1, os⟩) :
    wpAny (model prog w) A (setAttr (.ref a) name v) Q E ⟨h, g, d, t, os⟩ := by
  have f3 := PySem.F.store_ValueError.slot.bind (.ref a)
  have SF := PySem.F.store_ValueError
  have LT : PySem.W.Looks (model prog w) h (typeOf (.ref a)) (.ref D) := hc ▸ (PySem.W.Looks.ld hx).andThen .now
  have LO : PySem.W.Looks (model prog w) h (isInstance (.ref a) (.type "object")) true := LT.andThen (PySem.W.looks_mroIn X c.mo)
  unfold setAttr callSpecial? specialOf
  repeat (any_goals (first | assumption | (with_reducible refine wpAny_loadPart_at hx ?_; rw [hc]) | with_reducible refine (PySem.W.looks_findIn X c.sa).at ?_ | wp_step))
  refine codeAny_call_builtin SF.slot.plain SF.entry (@PySem.W.check_slot (model prog w) _ _ ⟨h, g, d, t + 1, os⟩ "object.__setattr__" "object" "__setattr__" (.ref a) [.str name t, v] [] _ SF.kind SF.split LO (SF.args (.ref a) (.str name t) v) ?_)
  exact hq _ t _ _ fun s' q => wpAny_pure (wpAny_pure q)
end

/-! making one whose class has its own __init__ -/
section
variable {prog : Program} {w : World} {A : Around} {E : Value → Shared → Prop} {h : Heap} {g : Array GenState} {d : Drawn} {t : Nat} {os : OsState}
variable {nm q : Str} {C N fI : Addr} {bs bm bmB : List Value} {hdct : Bool} {sn : List Str} {sub : List Value} {ab : Bool} {col : Option Bool} {dd : Option Addr} {k0 k1 k2 k3 k5 : Option Value} {B newId initId : String} {mN : Str → Option Value} {rest : List Value} {oI : Obj}
abbrev bareX (h : Heap) (C : Addr) (rest : List Value) : Heap := (h.push { cls := .type "tuple", data := .seq rest.toArray }).push { cls := .ref C, data := .fields #[.ref h.objs.size, .none, .none, .none, .bool false, .none] }
theorem xm_type {Q : Fin → Shared → Prop} (F : ExcBaseFacts B newId initId bmB) (T : OwnTail h bmB bm) (hC : h.get? C = some (excClassObj nm q C N bs bm hdct sn sub ab col dd k0 k1 k2 k3 k5 newId)) (hn : h.Ns N mN) (hi : mN "__init__" = some (.ref fI))
    (hf : h.get? fI = some oI) (hfc : oI.cls = .type "function") (hz : rest.length ≤ sizeLine)
    (hq : wpAny (model prog w) A (call (.ref fI) (.ref (h.objs.size + 1) :: rest)) (fun r s' => r = .none ∧ Q (.done (.ret (.ref (h.objs.size + 1)))) s') E ⟨bareX h C rest, g, d, t, os⟩) :
    wpAny (model prog w) A (Builtin.«type.__call__» ⟨.ref C :: rest, []⟩) Q E ⟨h, g, d, t, os⟩ := by
  have up : ∀ b o, h.get? b = some o → (bareX h C rest).get? b = some o := fun b o e => Heap.get?_push_of_some _ (Heap.get?_push_of_some _ e)
  have C1 := up C _ hC
  have N1 : (bareX h C rest).Ns N mN := hn.keeps up
  have T1 : OwnTail (bareX h C rest) bmB bm := T.keeps up
  have X1 : (bareX h C rest).get? (h.objs.size + 1) = some { cls := .ref C, data := .fields #[.ref h.objs.size, .none, .none, .none, .bool false, .none] } := by heap_get
  have self : (Value.ref C :: bm).contains (.ref C) = true := by simp
  repeat (first | with_reducible refine wpAny_loadPart_at hC ?_ | with_reducible refine wpAny_madeBy_exc hC ?_ | wp_step)
  refine codeAny_call_builtin_code (Code.quiet_builtin _ F.quiet) (wpAny_check_new_subT F T hC (codeAny_exc_new_subT F T hC ?_ hz))
  show wpAny _ _ _ _ _ ⟨bareX h C rest, g, d, t, os⟩
  unfold isInstance
  repeat (first | with_reducible refine wpAny_loadPart_at X1 ?_ | (with_reducible refine wpAny_isSubtype_exc C1 ?_; rw [self]) | wp_step)
  show wpAny _ _ (typeLookup (.ref C) _) _ _ _
  refine wpAny_typeLookup_tail C1 N1 T1 F.mroIs F.init.lookup ?_
  rw [hi]
  refine wpAny_holding (wpAny_bind ?_)
  unfold bindSpecial
  refine wpAny_bind (wpAny_typeOf (T := "function") ⟨oI, up fI _ hf, hfc⟩ ?_)
  rw [if_pos (by decide)]
  refine wpAny_pure (wpAny_bind (wpAny_mono hq (fun r s' hr => ?_) fun _ _ z => z))
  obtain ⟨rfl, hQ⟩ := hr
  wp_walk
  exact hQ
theorem xm_call {Q : Value → Shared → Prop} (F : ExcBaseFacts B newId initId bmB) (T : OwnTail h bmB bm) (hC : h.get? C = some (excClassObj nm q C N bs bm hdct sn sub ab col dd k0 k1 k2 k3 k5 newId)) (hn : h.Ns N mN) (hi : mN "__init__" = some (.ref fI))
    (hf : h.get? fI = some oI) (hfc : oI.cls = .type "function") (hz : rest.length ≤ sizeLine)
    (hq : wpAny (model prog w) (A.under (.builtin "type.__call__" ⟨.ref C :: rest, []⟩)) (call (.ref fI) (.ref (h.objs.size + 1) :: rest)) (fun r s' => r = .none ∧ Q (.ref (h.objs.size + 1)) s') E ⟨bareX h C rest, g, d, t, os⟩) :
    wpAny (model prog w) A (call (.ref C) rest) Q E ⟨h, g, d, t, os⟩ := by
  have l1 := tc_lookup
  have l2 := tc_bind (.ref C)
  have tyC : (⟨h, g, d, t, os⟩ : Shared).TypeIs (.ref C) "type" := ⟨_, hC, rfl⟩
  refine wpAny_call (codeAny_of_tree ?_)
  show wpAny _ _ (callAny (.ref C) _) _ _ _
  repeat (any_goals (first | assumption | with_reducible refine wpAny_loadPart_at hC ?_ | wp_step))
  exact ⟨rfl, codeAny_call_builtin_at (Code.quiet_builtin _ (by decide +kernel)) entry_typeCall (wpAny_check_type_call_sub hC (xm_type F T hC hn hi hf hfc hz hq))⟩
end
end L2

set_option Elab.async false
set_option linter.all false
set_option maxRecDepth 100000
set_option maxHeartbeats 4000000
namespace L2
open PySem PySem.Spec PyProof.Rows

/-! ### exceptions as values: made, their attributes -/
def XD0 (a D : Addr) : Heap → Prop := fun h => ∃ o vs, h.get? a = some o ∧ o.cls = .ref D ∧ o.data = .fields vs ∧ o.dict = none ∧ vs[1]? = some .none
def XD1 (a D dx : Addr) : Heap → Prop := fun h => ∃ o vs, h.get? a = some o ∧ o.cls = .ref D ∧ o.data = .fields vs ∧ o.dict = some dx ∧ vs[1]? = some .none
def XDct (dx : Addr) (fs : List (Str × V)) : Heap → Prop := fun h => ∃ mA, h.Ns1 dx mA ∧ ∀ f, RelO (fs.lookup f) (mA f)
theorem XD0.at {a D : Addr} {h : Heap} (x : XD0 a D h) : XAt a D h := let ⟨o, _, e, c, _⟩ := x; ⟨o, e, c⟩
theorem XD1.at {a D dx : Addr} {h : Heap} (x : XD1 a D dx h) : XAt a D h := let ⟨o, _, e, c, _⟩ := x; ⟨o, e, c⟩
section
variable {P : Program} {w : World} {H : Hp} {h : Heap} {a D dx : Addr} {fs : List (Str × V)}
theorem XD0.ok (x : XD0 a D h) : ObjOk P w H h a (.ext (XD0 a D)) := ⟨x, let ⟨o, _, e, _⟩ := x; ⟨o, e⟩, fun _ _ ⟨o, vs, e, r⟩ k => ⟨o, vs, k o e, r⟩⟩
theorem XD1.ok (x : XD1 a D dx h) : ObjOk P w H h a (.ext (XD1 a D dx)) := ⟨x, let ⟨o, _, e, _⟩ := x; ⟨o, e⟩, fun _ _ ⟨o, vs, e, r⟩ k => ⟨o, vs, k o e, r⟩⟩
theorem XDct.ok (x : XDct dx fs h) : ObjOk P w H h dx (.ext (XDct dx fs)) := ⟨x, let ⟨_, ⟨o, _, _, e, _⟩, _⟩ := x; ⟨o, e⟩, fun _ _ ⟨mA, n, r⟩ k => ⟨mA, n.at k, r⟩⟩
end
section
variable {X : Cx} {pins : List (Addr × Obj)} {σ : St} {H : Hp} {s : Shared} {h' : Heap} {x dx D : Addr} {φ : Heap → Prop} {ox od : HO}
/-- a new object, tracked -/
theorem Inv.tracked {t' : Nat} (I : Inv X pins σ H s) (k : ∀ b u, s.heap.get? b = some u → h'.get? b = some u) (hn : s.heap.get? x = none) (new : ObjOk X.prog X.w (upd H x ox) h' x ox) : Inv X pins σ (upd H x ox) { s with heap := h', toks := t' } := by
  have hx : H x = none := by
    cases q : H x with
    | none => rfl
    | some u =>
      obtain ⟨o, e⟩ := (I.hok x u q).isObj
      rw [hn] at e
      cases e
  have ne : ∀ b o, s.heap.get? b = some o → b ≠ x := fun b o e z => by rw [z, hn] at e; cases e
  have nh : ∀ b u, H b = some u → b ≠ x := fun b u e z => by rw [z, hx] at e; cases e
  refine I.un ⟨fun b o e _ _ _ => k b o e, fun b o e _ _ _ => ⟨o.slots, k b o e⟩, fun b o e n _ => ?_, fun b o e _ => ⟨o, k b o e⟩, fun b xs e => ?_, fun b o u e => ?_, fun b ps e => ⟨#[], ?_⟩⟩ fun b u e => ?_
  · rw [upd_ne (ne b o e)]; exact n
  · rw [upd_ne (nh b _ e)]; exact e
  · rw [upd_ne (nh b _ e)]; exact e
  · rw [upd_ne (nh b _ e), e]; simp
  · by_cases hb : b = x
    · subst hb
      rw [upd_same] at e
      cases e
      exact new
    · rw [upd_ne hb] at e
      exact (I.hok b u e).stay (fun c v _ q => k c v q) (fun c q => by rw [upd_ne (nh c _ q)]; exact q) fun c xs q => by rw [upd_ne (nh c _ q)]; exact q
/-- a thing of one's own changes, and a new object comes with it -/
theorem Inv.put2 {t' : Nat} (I : Inv X pins σ H s) (hx : H x = some (.ext φ)) (hd : s.heap.objs.size ≤ dx) (k : ∀ b u, b ≠ x → s.heap.get? b = some u → h'.get? b = some u) (n1 : ObjOk X.prog X.w (upd (upd H dx od) x ox) h' x ox)
    (n2 : ObjOk X.prog X.w (upd (upd H dx od) x ox) h' dx od) : Inv X pins σ (upd (upd H dx od) x ox) { s with heap := h', toks := t' } := by
  have hdn : H dx = none := I.hok.fresh hd
  have hxd : x ≠ dx := fun z => by rw [z, hdn] at hx; cases hx
  have ne : ∀ b o, s.heap.get? b = some o → b ≠ dx := fun b o e => Nat.ne_of_lt (Nat.lt_of_lt_of_le (Heap.lt_size e) hd)
  have nh : ∀ b u, H b = some u → b ≠ dx := fun b u e z => by rw [z, hdn] at e; cases e
  have nx : ∀ b, H b = none → b ≠ x := fun b e z => by rw [z, hx] at e; cases e
  have nt : ∀ b u, H b = some u → (∀ ψ, u ≠ .ext ψ) → b ≠ x := fun b u e n z => by
    rw [z, hx] at e
    cases e
    exact n φ rfl
  obtain ⟨ux, hux⟩ := n1.isObj
  refine I.un ⟨fun b o e n _ _ => k b o (nx b n) e, fun b o e n _ _ => ⟨o.slots, k b o (nx b n) e⟩, fun b o e n _ => ?_, fun b o e _ => ?_, fun b xs e => ?_, fun b o u e => ?_, fun b ps e => ⟨#[], ?_⟩⟩ fun b u e => ?_
  · rw [upd_ne (nx b n), upd_ne (ne b o e)]; exact n
  · by_cases hb : b = x
    · subst hb; exact ⟨ux, hux⟩
    · exact ⟨o, k b o hb e⟩
  · rw [upd_ne (nt b _ e fun _ z => nomatch z), upd_ne (nh b _ e)]; exact e
  · rw [upd_ne (nt b _ e fun _ z => nomatch z), upd_ne (nh b _ e)]; exact e
  · rw [upd_ne (nt b _ e fun _ z => nomatch z), upd_ne (nh b _ e), e]; simp
  · by_cases hb : b = x
    · subst hb
      rw [upd_same] at e
      cases e
      exact n1
    · by_cases hb2 : b = dx
      · subst hb2
        rw [upd_ne hb, upd_same] at e
        cases e
        exact n2
      · rw [upd_ne hb, upd_ne hb2] at e
        refine (I.hok b u e).stay (fun c v hc q => k c v ?_ q) (fun c q => ?_) fun c xs q => ?_
        · rintro rfl
          rcases hc with z | z
          · exact hb z.symm
          · rw [hx] at z; cases z
        · rw [upd_ne (nt c _ q fun _ z => nomatch z), upd_ne (nh c _ q)]; exact q
        · rw [upd_ne (nt c _ q fun _ z => nomatch z), upd_ne (nh c _ q)]; exact q
end
/-- self.f = value -/
def sFldX (K : PySem.W.Frag) (ta tv : TE) (f : Str) : TS := fun D σ H => tv σ H fun y H1 => ta σ H1 fun x H2 => ∃ a C cd, x = .ref a ∧ XSet K C f cd ∧
  ((H2 a = some (.ext (XD0 a C)) ∧ ∀ dx, H2 dx = none → dx ≠ a → D.nx σ (upd (upd H2 dx (.ext (XDct dx [(f, y)]))) a (.ext (XD1 a C dx)))) ∨
    ∃ dx fs, H2 a = some (.ext (XD1 a C dx)) ∧ H2 dx = some (.ext (XDct dx fs)) ∧ fs.length ≤ 900 ∧ D.nx σ (upd H2 dx (.ext (XDct dx ((f, y) :: fs)))))
theorem relV_nb {v : V} {u : Value} (r : RelV v u) : ∀ id, u ≠ .builtin id := fun id z => by
  subst z
  cases v with
  | non => cases r
  | bl b => cases r
  | int i => obtain ⟨_, z⟩ := r; cases z
  | str x => obtain ⟨_, z⟩ := r; cases z
  | byt b => obtain ⟨_, z⟩ := r; cases z
  | flt b => obtain ⟨_, z⟩ := r; cases z
  | ref a => cases r
  | ty n => cases r
theorem lookup_cons_if {f g : Str} {y : V} {fs : List (Str × V)} : List.lookup g ((f, y) :: fs) = if g = f then some y else fs.lookup g := by
  rw [List.lookup_cons]
  by_cases z : g = f
  · rw [if_pos z, show (g == f) = true by simpa using z]
  · rw [if_neg z, show (g == f) = false by simpa using z]
section
variable {X : Cx} {o e value : Expr} {f : Str} {pos pos' tpos : Pos} {ta tv : TE}
theorem ps_fldX (ha : PE X o ta) (hv : PE X value tv) (hs : swapsWith value (some (.Attribute o f pos')) pos.line X.env = pure false) : PS X (.Assign [.Attribute o f pos'] value pos) (sFldX X.K ta tv f) := by
  intro pins s σ H D I h
  refine plainObj_wpAny_Assign_Attribute (thn (hv pins s σ H _ I h) fun u s1 ⟨y, H1, I1, ry, q⟩ => thn (ha pins s1 σ H1 _ I1 q) fun ov s2 ⟨x, H2, I2, rx, a, C, cd, ex, c, q2⟩ => ?_) hs
  subst ex
  obtain rfl : ov = Value.ref a := rx
  obtain ⟨h2, g2, d2, t2, os2⟩ := s2
  rcases q2 with ⟨ea, q2⟩ | ⟨dx, fs, ea, ed, hl, q2⟩
  · obtain ⟨⟨ob, vs, e1, e2, e3, e4, e5⟩, _⟩ := I2.hok a _ ea
    refine xs_attr c I2.kIn e1 e2 fun B tk Q' E' hQ => xs_first c I2.kIn e1 e2 e3 e4 fun h' n' o' k' => hQ _ ?_
    have hf : H2 h2.objs.size = none := I2.hok.fresh (Nat.le_refl _)
    have hne : h2.objs.size ≠ a := Nat.ne_of_gt (Heap.lt_size e1)
    refine ⟨σ, _, I2.put2 (t' := t2 + 1 + 1) (h' := h') (x := a) (dx := h2.objs.size) (od := .ext (XDct h2.objs.size [(f, y)])) (ox := .ext (XD1 a C h2.objs.size)) ea (Nat.le_refl _) k' (XD1.ok ⟨_, vs, o', e2, e3, rfl, e5⟩) (XDct.ok ⟨_, n', fun g => ?_⟩), q2 _ hf hne⟩
    rw [lookup_cons_if]
    by_cases z : g = f
    · rw [if_pos z, if_pos z]; exact ry
    · rw [if_neg z, if_neg z]; exact True.intro
  · obtain ⟨⟨ob, vs, e1, e2, e3, e4, e5⟩, _⟩ := I2.hok a _ ea
    obtain ⟨⟨mA, nA, rA⟩, _⟩ := I2.hok dx _ ed
    have wi : PySem.Within mA (fs.map (·.1)) := fun g hg => by
      cases q : fs.lookup g with
      | none =>
        have := rA g
        rw [q] at this
        exact absurd (RelO.none_of this) hg
      | some v => exact List.mem_map.mpr ⟨(g, v), PySem.mem_of_lookup q, rfl⟩
    refine xs_attr c I2.kIn e1 e2 fun B tk Q' E' hQ => xs_next c I2.kIn e1 e2 e4 nA wi (by rw [List.length_map]; omega) fun h' n' sb => hQ _ ?_
    refine ⟨σ, _, I2.write (t' := t2 + 1 + 1) (h' := h') (x := dx) (e := dx) (o := .ext (XDct dx ((f, y) :: fs))) (by rw [ed]; exact True.intro) (.inl rfl) (fun b u hb e => (sb.2 b hb).trans e) (let ⟨o', _, _, e', _⟩ := n'; ⟨o', e'⟩) (XDct.ok ⟨_, n', fun g => ?_⟩), q2⟩
    rw [lookup_cons_if]
    by_cases z : g = f
    · rw [if_pos z, if_pos z]; exact ry
    · rw [if_neg z, if_neg z]; exact rA g
end
end L2

set_option Elab.async false
set_option linter.all false
set_option maxRecDepth 100000
set_option maxHeartbeats 4000000
namespace L2
open PySem PySem.Spec PyProof.Rows

/-! ### own exception classes, read off the text -/
theorem ns_some_of {K : PySem.W.Frag} {h : Heap} {N : Addr} {m : Str → Option Value} {n : Str} {v : Value} (X : K.In h) (G : h.Ns N m) (q : PySem.W.nsIn K N n = some (some v)) : m n = some v := by
  obtain ⟨ob, en, ep, gob, dob, _, fnd⟩ := G
  unfold PySem.W.nsIn at q
  split at q
  · rename_i c0 d0 en0 k0 sl0 lk
    have at0 := X _ _ lk
    rw [gob] at at0
    cases at0
    cases dob
    split at q
    · rename_i entry found
      cases q
      rw [← fnd]
      unfold nsFind findBy
      rw [← Array.find?_toList, found]
      rfl
    · split at q <;> cases q
  · cases q
def xIn (K : PySem.W.Frag) (C : Addr) (fI : Option Value) : Bool := match K.lookup C with
  | some ⟨.type "type", _, .cls cd, sl⟩ => (match cd.mro, sl.toList with
    | .ref C' :: bm, [_, _, _, _, some (.builtin n), _] => C' == C && n == "ValueError.__new__" && !cd.hasDel && PySem.W.tailIn K bmV bm && PySem.W.nsOkIn K cd.ns && PySem.W.nsIn K cd.ns "__init__" == some fI
    | _, _ => false)
  | _ => false
structure XObj (h : Heap) (C : Addr) (fI : Option Value) : Prop where
  obj : ∃ bm N nm q bs hdct sn sub ab col dd k0 k1 k2 k3 k5 mN, h.get? C = some (excClassObj nm q C N bs bm hdct sn sub ab col dd k0 k1 k2 k3 k5 "ValueError.__new__") ∧ h.Ns N mN ∧ mN "__init__" = fI ∧ OwnTail h bmV bm
theorem x_of_in {K : PySem.W.Frag} {h : Heap} {C : Addr} {fI : Option Value} (X : K.In h) (z : xIn K C fI = true) : XObj h C fI := by
  unfold xIn at z
  split at z
  · rename_i dct cld slt lk
    split at z
    · rename_i C' tl a0 a1 a2 a3 nid a5 hmro hsl
      simp only [Bool.and_eq_true, beq_iff_eq, Bool.not_eq_true'] at z
      obtain ⟨⟨⟨⟨⟨rfl, rfl⟩, hdel⟩, ht⟩, hok⟩, hin⟩ := z
      obtain ⟨nm, bs, mro, ns, qn, hd, sn, sub, ab, col, del⟩ := cld
      dsimp only at hmro hdel hok hin
      subst hmro hdel
      have es : slt = #[a0, a1, a2, a3, some (.builtin "ValueError.__new__"), a5] := by
        obtain ⟨l⟩ := slt
        simp only at hsl
        rw [hsl]
      subst es
      have hN : h.Ns ns (h.nsMap ns) := .of_isNs (PySem.W.isNs_of_in X hok)
      refine ⟨tl, ns, nm, qn, bs, hd, sn, sub, ab, col, dct, a0, a1, a2, a3, a5, _, X _ _ lk, hN, ?_, PySem.W.tail_of_in X ht⟩
      cases fI with
      | none => exact PySem.W.ns_none_of X hN hin
      | some v => exact ns_some_of X hN hin
    · cases z
  · cases z

def xcIn (K : PySem.W.Frag) (D : Addr) : Bool := PySem.W.findIn K (.ref D) "__getattribute__" == some (some (.builtin "BaseException.__getattribute__")) && PySem.W.findIn K (.ref D) "__getattr__" == some none &&
  PySem.W.findIn K (.ref D) "__class__" == some (some (.builtin "object.__class__")) && PySem.W.mroIn K D (.type "BaseException") == some true && PySem.W.mroIn K D (.type "object") == some true && (PySem.W.clsIn K D).isSome && PySem.W.typeIn K (.ref D) == some (.type "type")
theorem xc_of {K : PySem.W.Frag} {D : Addr} (h : xcIn K D = true) : XCls K D := by
  unfold xcIn at h
  simp only [Bool.and_eq_true, beq_iff_eq] at h
  obtain ⟨⟨⟨⟨⟨⟨h1, h2⟩, h3⟩, h4⟩, h5⟩, h6⟩, h7⟩ := h
  exact ⟨h1, h2, h3, h4, h5, h6⟩
theorem xh_of {K : PySem.W.Frag} {D : Addr} (h : xcIn K D = true) : XHd K D := by
  unfold xcIn at h
  simp only [Bool.and_eq_true, beq_iff_eq] at h
  obtain ⟨⟨⟨⟨⟨⟨h1, h2⟩, h3⟩, h4⟩, h5⟩, h6⟩, h7⟩ := h
  exact ⟨h6, h7, h4⟩
def xsIn (K : PySem.W.Frag) (D : Addr) (name : Str) : Bool := ((PySem.W.clsIn K D).any fun cd => cd.hasDict && vTail cd.mro) && PySem.W.mroIn K D (.type "object") == some true &&
  PySem.W.findIn K (.ref D) "__setattr__" == some (some (.builtin "object.__setattr__")) && PySem.W.findIn K (.ref D) name == some none
theorem xs_of {K : PySem.W.Frag} {D : Addr} {name : Str} (h : xsIn K D name = true) : ∃ cd, XSet K D name cd := by
  unfold xsIn at h
  simp only [Bool.and_eq_true, beq_iff_eq] at h
  obtain ⟨⟨⟨h1, h2⟩, h3⟩, h4⟩ := h
  obtain ⟨cd, e, e2⟩ := PySem.W.any_some h1
  rw [Bool.and_eq_true] at e2
  exact ⟨cd, e, e2.1, e2.2, h2, h3, h4⟩
section
variable {P : Program} {w : World} {K : PySem.W.Frag} {mg : Str → Option Value} {base : Heap} {N : List Str} {qual : Str} {scope : Scope} {f : Addr} {cdv : Value} {A : Around} {outer : List Env} {s0 : Shared} {H0 : Hp} {E : XK}
end

/-! ### C() and C(e, ..) -/
def tMkX0 (C : Addr) : TE := fun _ H Q => ∀ a, H a = none → Q (.ref a) (upd H a (.ext (XD0 a C)))
def tMkX (C : Addr) (sp : Sp) (t : TA) : TE := fun σ H Q => t σ H fun vs H1 => ∀ a, H1 a = none → sp (.ref a :: vs) (upd H1 a (.ext (XD0 a C))) (fun v H2 => v = .non ∧ Q (.ref a) H2) E0
section
variable {X : Cx} {k : Nat} {f C : Addr} {fd : FuncData} {ps : List Str} {sp : Sp} {x : Str} {p pos : Pos} {e : Expr} {es : List Expr} {t : TA}
theorem pe_mkX0 (z : xIn X.K C none = true) (kp : PySem.W.keepIn X.K (.ref C) = true) (hg : Gl X x) (hm : X.mg x = some (.ref C)) (hdb : (x == ("__debug__" : Str)) = false := by decide) : PE X (.Call (.Name x p) [] [] pos) (tMkX0 C) := by
  intro pins s σ H Q I h
  refine wpAny_Call_Name_kw (ld_glob I hg hm ?_ hdb)
  refine PySem.W.callWith_K0 I.kIn kp ?_
  obtain ⟨bm, N, nm, q, bs, hdct, sn, sub, ab, col, dd, k0, k1, k2, k3, k5, mN, hC, hN, hni, T⟩ := (x_of_in I.kIn z).obj
  obtain ⟨h0, g0, d0, t0, os0⟩ := s
  refine wpAny_call_exc_subT (rest := []) PySem.F.excBase_ValueError T hC hN hni (fun h' a hx => ?_) (Nat.zero_le _)
  obtain ⟨t1, ht, _, _⟩ := hx.there
  have hn : H a = none := by
    cases q : H a with
    | none => rfl
    | some u =>
      obtain ⟨o, e⟩ := (I.hok a u q).isObj
      have := hx.new
      rw [show h0.get? a = some o from e] at this
      cases this
  exact ⟨.ref a, _, I.tracked (t' := t0) hx.keeps hx.new (XD0.ok ⟨_, _, ht, rfl, rfl, rfl, rfl⟩), rfl, h a hn⟩
theorem pe_mkX (z : xIn X.K C (some (.ref f)) = true) (kp : PySem.W.keepIn X.K (.ref C) = true) (fn : PySem.W.isFn X.K (.ref f) = true) (F : FnOk X.prog X.w X.K X.mg X.base CX0 k f fd ps sp) (hr : Room (k + 1) X.A) (hg : Gl X x) (hm : X.mg x = some (.ref C))
    (hb : Binds X.K fd ps []) (ha : PA X (e :: es) t) (hz : ∀ vs H Q E, sp vs H Q E → vs.length ≤ 100) (hdb : (x == ("__debug__" : Str)) = false := by decide) (he : starEach (e :: es) X.env = (false, eval e X.env) :: starEach es X.env := by rfl)
    (hpl : (backTo pos (starEach es X.env)).any (·.1) = false := by rfl) : PE X (.Call (.Name x p) (e :: es) [] pos) (tMkX C sp t) := by
  intro pins s σ H Q I h
  refine wpAny_Call_Name_kw (ld_glob I hg hm ?_ hdb)
  refine PySem.W.callWith_K (h₀ := X.base) I.ok.mod.kin kp (thn (ha pos pins s σ H _ I h) fun us s1 ⟨vs, H1, I1, r, q⟩ => ⟨I1.kIn, ?_⟩) he hpl
  obtain ⟨bm, N, nm, qn, bs, hdct, sn, sub, ab, col, dd, k0, k1, k2, k3, k5, mN, hC, hN, hni, T⟩ := (x_of_in I1.kIn z).obj
  have q1 := q (s1.heap.objs.size + 1) (I1.hok.fresh (Nat.le_succ _))
  have hlen : us.length ≤ sizeLine := by
    have := hz _ _ _ _ q1
    rw [List.length_cons] at this
    rw [← r.length]
    exact Nat.le_trans (Nat.le_of_succ_le this) (by decide)
  have up : ∀ b o, s1.heap.get? b = some o → (bareX s1.heap C us).get? b = some o := fun b o e => Heap.get?_push_of_some _ (Heap.get?_push_of_some _ e)
  have e2 : (bareX s1.heap C us).get? (s1.heap.objs.size + 1) = some { cls := .ref C, data := .fields #[.ref s1.heap.objs.size, .none, .none, .none, .bool false, .none] } := by heap_get
  have I2 := I1.laid (t' := s1.toks) (h' := bareX s1.heap C us) (a := s1.heap.objs.size + 1) (o := .ext (XD0 (s1.heap.objs.size + 1) C)) up (Nat.le_succ _) (XD0.ok ⟨_, _, e2, rfl, rfl, rfl, rfl⟩)
  obtain ⟨oI, hfI, hfc⟩ : ∃ oI, s1.heap.get? f = some oI ∧ oI.cls = .type "function" := by
    have := beq_iff_eq.mp fn
    unfold PySem.W.typeIn at this
    obtain ⟨ob, lk, hcl⟩ := Option.map_eq_some_iff.mp this
    exact ⟨ob, I1.kIn _ _ lk, hcl⟩
  have r2 : Vals (V.ref (s1.heap.objs.size + 1) :: vs) (Value.ref (s1.heap.objs.size + 1) :: us) := .cons rfl r
  have hl2 : (Value.ref (s1.heap.objs.size + 1) :: us).length = ps.length := by rw [← r2.length]; exact F.len _ _ _ _ q1
  have b2 := hb { s1 with heap := bareX s1.heap C us, toks := s1.toks } (Value.ref (s1.heap.objs.size + 1) :: us) I2.kIn (by rw [List.append_nil]; exact hl2)
  rw [List.append_nil] at b2
  have goal : wpAny (model X.prog X.w) X.A (call (.ref C) us) (EP X pins σ Q) X.xe s1 := by
    obtain ⟨h1, g1, d1, t1, os1⟩ := s1
    refine xm_call PySem.F.excBase_ValueError T hC hN hni hfI hfc hlen ?_
    refine wpAny_call (codeAny_mono (F.run _ X.stack _ _ ⟨Value.ref (h1.objs.size + 1) :: us, []⟩ (Value.ref (h1.objs.size + 1) :: us) _ _ E0 (hr.make C us []) (I2.env0.make C us []) b2 r2 q1) fun r s' hq => ?_)
    cases r with
    | error e => exact False.elim hq
    | ok fl =>
      cases fl with
      | ret u =>
        obtain ⟨v, H', I3, rv, ev, q3⟩ := I2.after hq
        subst ev
        exact ⟨rv, ⟨V.ref (h1.objs.size + 1), H', I3, rfl, q3⟩⟩
      | next => exact False.elim hq
      | brk => exact False.elim hq
      | cont => exact False.elim hq
  exact goal
end
end L2

set_option Elab.async false
set_option linter.all false
set_option maxRecDepth 100000
set_option maxHeartbeats 4000000
namespace L2
open PySem PySem.Spec PyProof.Rows

/-! ### d.setdefault(k, v), in the order of coming -/
section
variable {prog : Program} {w : World} {KT : Type} [DecidableEq KT] {knd : KeyKind prog w KT} {A : Around} {E : Value → Shared → Prop} {s : Shared} {d : Addr} {kvs : List (KT × Value)} {k : KT} {key dflt : Value}
theorem sd_new {Q : Value → Shared → Prop} (hkey : knd.is k key = true) (hm : s.heap.DictOf knd d kvs) (hz : kvs.length ≤ sizeLine) (hno : valueAt kvs k = none)
    (h : ∀ h', h'.DictOf knd d (kvs ++ [(k, dflt)]) → Heap.SameBut d s.heap h' → Q dflt { s with heap := h', toks := s.toks + 1 }) : wpAny (model prog w) A (dictSetDefault d key dflt) Q E s := by
  obtain ⟨ob, en, ep, gob, xob, dob, kob, pob, nob⟩ := hm
  have ez : en.size ≤ sizeLine := by
    have l1 := pob.length
    have l2 : en.toList.length = en.size := by simp
    omega
  have hall : ∀ q ∈ kvs, q.1 ≠ k := fun q hq hqk => by
    unfold valueAt at hno
    rw [Option.map_eq_none_iff, List.find?_eq_none] at hno
    exact hno q hq (by simpa using hqk)
  have fnd : (en.findIdx? fun e => knd.is k e.key) = none := by
    have e1 : (en.findIdx? fun e => knd.is k e.key) = kvs.findIdx? fun q => decide (q.1 = k) := by
      rw [← pob.findIdx k]
      obtain ⟨l⟩ := en
      simp
    rw [e1, List.findIdx?_eq_none_iff]
    intro q hq
    simpa using hall q hq
  unfold dictSetDefault
  refine wpAny_holding (wpAny_bind (knd.pyHash hkey (wpAny_bind (wpAny_dictFind_of (s := { s with toks := s.toks + 1 }) hkey gob dob kob ?_))))
  rw [fnd]
  refine wpAny_bind (wpAny_rule (wpAny_bind (wpAny_updateDictKeys (hz := ez) (s := { s with toks := s.toks + 1 }) gob dob (wpAny_pure (h _ ⟨_, _, ep + 1, Heap.get?_update_self _ gob (Obj.isFreed_of_dict (Obj.data_mapDictKeys dob _)),
    xob.mapDictKeys _, Obj.data_mapDictKeys dob _, kob.push hkey _, ?_, ?_⟩ (Heap.SameBut.update ..))))))
  · have ap := pob.append hkey (knd.hash k) dflt
    obtain ⟨l⟩ := en
    simpa using ap
  · rw [List.map_append, List.nodup_append]
    refine ⟨nob, by simp, fun a ha b hb => ?_⟩
    obtain ⟨q, hq, rfl⟩ := List.mem_map.mp ha
    have hb' : b = k := by simpa using hb
    rw [hb']
    exact hall q hq
theorem sd_meets (hkey : knd.is k key = true) (hd : (d == sysModules) = false) (dflt : Value) : MeetsIn prog w (Builtin.«dict.setdefault» ⟨[.ref d, key, dflt], []⟩) (fun _ R s => ∃ kvs, s.heap.DictOf knd d kvs ∧ kvs.length ≤ sizeLine ∧
    (∀ v, valueAt kvs k = some v → R (.ok (.ret v)) { s with toks := s.toks + 1 }) ∧ (valueAt kvs k = none → ∀ h', h'.DictOf knd d (kvs ++ [(k, dflt)]) → Heap.SameBut d s.heap h' → R (.ok (.ret dflt)) { s with heap := h', toks := s.toks + 1 })) :=
  .of_wp fun A R s ⟨kvs, hm, hz, h1, h2⟩ => by
    have le : s.heap.DictLe d sizeLine := by
      obtain ⟨ob, en, ep, gob, xob, dob, kob, pob, nob⟩ := id hm
      intro o2 e2 p2 g2 d2
      rw [gob] at g2
      cases g2
      rw [dob] at d2
      cases d2
      have l1 := pob.length
      have l2 : en.toList.length = en.size := by simp
      omega
    unfold Builtin.«dict.setdefault»
    refine wpAny_bind ?_
    unfold Builtin.Dict.keyAndDefault
    refine wpAny_bind (wpAny_notOrdered_dict hm.typeIs (show wpAny _ _ (pure (d, key, some dflt)) _ _ s from wpAny_pure ?_))
    show wpAny _ _ (if (d == sysModules) = true then _ else (dictSetDefault d key dflt >>= _)) _ _ s
    rw [if_neg (by rw [hd]; exact Bool.false_ne_true)]
    cases hv : valueAt kvs k with
    | some v => exact wpAny_bind (wpAny_dictSetDefault_of (hz := le) hkey hm.mapOf (fun v' hv' => wpAny_pure ⟨v', rfl, h1 v' hv'⟩) fun hn => absurd hn (by rw [hv]; exact fun z => nomatch z))
    | none => exact wpAny_bind (sd_new hkey hm hz hv fun h' m' s' => wpAny_pure ⟨dflt, rfl, h2 hv h' m' s'⟩)
end
def rSetD : V → List V → Hp → VK → Prop := fun x vs H Q => ∃ (a : Addr) (kvs : List (Key × V)) (k : Key) (v : V), x = .ref a ∧ vs = [kV k, v] ∧ H a = some (.dK kvs) ∧ kvs.length < sizeLine ∧
  (∀ y, valV kvs k = some y → Q y H) ∧ (valV kvs k = none → Q v (upd H a (.dK (kvs ++ [(k, v)]))))
section
variable {X : Cx}
theorem mt_setD : MtR X "dict.setdefault" rSetD := by
  intro pins s σ H x vs v us Q I rx rv h
  obtain ⟨a, kvs, k, y, rfl, rfl, e, l, h1, h2⟩ := h
  cases rx
  obtain ⟨u1, u2, rfl, r1, r2⟩ := vals2 rv
  obtain ⟨z, hd, vs, rel, dd⟩ := dk_of I.hok e
  have hz : vs.length ≤ sizeLine := by rw [← rel.length]; exact z
  refine call_meetsIn PySem.F.slot_dict_setdefault dd.typeIs PySem.F.entry_dict_setdefault (PySem.F.args_dict_setdefault_3 _ _ _) (sd_meets (knd := mixKind X.prog X.w) (kV_is r1) hd u2) ⟨vs, dd, hz, fun v' hv' => ?_, fun hn h' m' s' => ?_⟩
  · have := rel.val k
    rw [hv'] at this
    cases q : valV kvs k with
    | none => rw [q] at this; exact False.elim this
    | some y' =>
      rw [q] at this
      exact ⟨y', H, I.tok _, this, h1 y' q⟩
  · have := rel.val k
    rw [hn] at this
    have q : valV kvs k = none := by
      cases q : valV kvs k with
      | none => rfl
      | some y' => rw [q] at this; exact False.elim this
    have e2 : KV (kvs ++ [(k, y)]) (vs ++ [(k, u2)]) := by
      have p := rel.put k r2
      have s1 : stored vs k u2 = vs ++ [(k, u2)] := by
        unfold stored
        rw [if_neg]
        intro w
        have w' := (rel.any k).trans w
        rw [valV_any, q] at w'
        cases w'
      rw [putK_new y q, s1] at p
      exact p
    have hl : (kvs ++ [(k, y)]).length ≤ sizeLine := by rw [List.length_append]; exact l
    have he : ∃ ob, h'.get? a = some ob := let ⟨ob, _, _, hq, _⟩ := m'; ⟨ob, hq⟩
    exact ⟨y, _, d_write I (by rw [e]; exact True.intro) s' he (dk_new hl hd e2 m'), r2, h2 q⟩
end
end L2

set_option Elab.async false
set_option linter.all false
set_option maxRecDepth 100000
set_option maxHeartbeats 4000000
namespace L2
open PySem PySem.Spec PyProof.Rows

/-! ### list(d.items()) -/
def IV (v d : Addr) : Heap → Prop := fun h => h.IsItemsView v d
def rItems : V → List V → Hp → VK → Prop := fun x vs H Q => ∃ (d : Addr) (kvs : List (Key × V)), x = .ref d ∧ vs = [] ∧ H d = some (.dK kvs) ∧ ∀ v, H v = none → Q (.ref v) (upd H v (.ext (IV v d)))
section
variable {X : Cx} {o e : Expr} {es : List Expr} {to : TE} {t : TA} {apos cpos : Pos}
theorem mt_items : MtR X "dict.items" rItems := by
  intro pins s σ H x vs v us Q I rx rv h
  obtain ⟨d, kvs, rfl, rfl, e, q⟩ := h
  cases rx
  cases rv
  obtain ⟨z, hd, ws, rel, dd⟩ := dk_of I.hok e
  refine call_meetsIn PySem.F.slot_dict_items dd.typeIs PySem.F.entry_dict_items (PySem.F.args_dict_items_1 _) (meets_dict_items (mixKind X.prog X.w) d hd) ⟨⟨ws, dd⟩, ?_⟩
  refine ⟨.ref s.heap.objs.size, _, I.laid (t' := s.toks) (a := s.heap.objs.size) (o := .ext (IV s.heap.objs.size d)) (fun b u e => Heap.get?_push_of_some _ e) (Nat.le_refl _) ?_, rfl, q _ (I.hok.fresh (Nat.le_refl _))⟩
  have g : (s.heap.push { cls := .type "dict_items", data := .fields #[.ref d] }).get? s.heap.objs.size = some { cls := .type "dict_items", data := .fields #[.ref d] } := Heap.get?_push_size _ rfl
  exact ⟨⟨_, g, rfl, rfl⟩, ⟨_, g⟩, fun h1 h2 ⟨ob, e1, r⟩ k => ⟨ob, k ob e1, r⟩⟩
end
section
variable {X : Cx} {o e : Expr} {es : List Expr} {to : TE} {t : TA} {apos cpos : Pos}
theorem pe_m.setdefault (ho : PE X o to) (ha : PA X (e :: es) t) (hbase : attributeBase o "setdefault" X.env (eval o X.env) = eval o X.env := by rfl)
    (hfew : ((backTo cpos (starEach (e :: es) X.env)).all (fun x => !x.1) && (backToKw cpos (keywordEach [] X.env)).all (fun x => x.1.isSome) && decide ((e :: es).length + ([] : List Keyword).length + (if ([] : List Keyword).isEmpty then 0 else 1) < 30)) = true := by rfl)
    (hline : (apos.endLine == cpos.line) = true := by rfl) (hs : starEach (e :: es) X.env = (false, eval e X.env) :: starEach es X.env := by rfl) (hplain : (backTo cpos (starEach es X.env)).any (·.1) = false := by rfl) :
    PE X (.Call (.Attribute o "setdefault" apos) (e :: es) [] cpos) (tBM X.K "dict" rSetD to t) := pe_bm F.plainAttrs_dict F.slot_dict_setdefault F.type_dict_setdefault mt_setD ho ha hbase hfew hline hs hplain
theorem pe_m.items (ho : PE X o to) (hbase : attributeBase o "items" X.env (eval o X.env) = eval o X.env := by rfl) (hline : (apos.endLine == cpos.line) = true := by rfl) :
    PE X (.Call (.Attribute o "items" apos) [] [] cpos) (tBM0 X.K "dict" rItems to) := pe_bm0 F.plainAttrs_dict F.slot_dict_items F.type_dict_items mt_items ho hbase hline
end
end L2

set_option Elab.async false
set_option linter.all false
set_option maxRecDepth 100000
set_option maxHeartbeats 4000000
namespace L2
open PySem PySem.Spec PyProof.Rows
section
variable {X : Cx}
end
end L2

set_option Elab.async false
set_option linter.all false
set_option maxRecDepth 100000
set_option maxHeartbeats 4000000
namespace L2
open PySem PySem.Spec PyProof.Rows
section
variable {M : Model} {A : Around} {E : Value → Shared → Prop} {s : Shared} {env : Env} {K : PySem.W.Frag} {D : Addr}
/-- raise of a thing that is an own exception already: it leaves as it is -/
theorem xr_stmt {x : Sem Value} {Q : Flow → Shared → Prop} (c : XCls K D) (hd : XHd K D) (hh : A.handled = none)
    (h : wpAny M A x (fun v s₁ => ∃ e ob vs, v = .ref e ∧ K.In s₁.heap ∧ s₁.heap.get? e = some ob ∧ ob.cls = .ref D ∧ ob.data = .fields vs ∧ vs[1]? = some .none ∧ E (.ref e) s₁) E s) : wpAny M A (raiseStmt env (some x) none) Q E s := by
  unfold raiseStmt
  refine wpAny_bind (wpAny_mono h (fun v s₁ h₁ => ?_) fun _ _ z => z)
  obtain ⟨e, ob, vs, rfl, X, ge, gc, gd, g1, hE⟩ := h₁
  obtain ⟨hp, g, d, tk, os⟩ := s₁
  repeat (first | with_reducible refine (PySem.W.looks_typeIn X hd.ty).at ?_ | (with_reducible refine wpAny_loadPart_at ge ?_; first | rw [gc] | rw [gd]) | with_reducible refine (PySem.W.looks_mroIn X c.mb).at ?_ | with_reducible refine wpAny_field ge gd g1 ?_ | wp_step)
  exact wpAny_raiseNew_none hh hE
end
end L2

set_option Elab.async false
set_option linter.all false
set_option maxRecDepth 100000
set_option maxHeartbeats 4000000
namespace L2
open PySem PySem.Spec PyProof.Rows

/-! ### an exception in flight, its dict kept in view -/
/-- the exception at e, its class, its dict, its newest trace at T, that trace's mark -/
def Fx (h : Heap) (e : Addr) (cls : Value) (dct : Option Addr) (fl : Value) (T : Addr) : Prop :=
  ∃ ob fs oT ts, h.get? e = some ob ∧ ob.cls = cls ∧ ob.dict = dct ∧ ob.data = .fields fs ∧ fs[1]? = some (.ref T) ∧ T ≠ e ∧ h.get? T = some oT ∧ oT.data = .fields ts ∧ ts[3]? = some fl
theorem dict_mapFields (f : Array Value → Array Value) (o : Obj) : (Obj.mapFields f o).dict = o.dict := by
  obtain ⟨c, d, dt, sl⟩ := o
  cases dt <;> rfl
theorem cls_mapF (f : Array Value → Array Value) (o : Obj) : (Obj.mapFields f o).cls = o.cls := Obj.cls_mapFields _ _
section
variable {M : Model} {A : Around} {E : Value → Shared → Prop} {s : Shared} {base : Heap} {env : Env} {outer : List Env} {L e : Addr} {ob : Obj} {fs : Array Value} {head : Value} {more : Bool}
/-- a new trace is laid before the others -/
theorem fx_entry {Q : Unit → Shared → Prop} (fr : A.frames = some (env :: outer)) (ff : s.heap.FunFrames base (env :: outer)) (fL : env.frame = some L) (ge : s.heap.get? e = some ob) (de : ob.data = .fields fs) (sz : 1 < fs.size)
    (h : ∀ h' T, Fx h' e ob.cls ob.dict (rawInt L) T → s.heap.get? T = none → (∀ b o, b ≠ e → b ∉ frs (env :: outer) → s.heap.get? b = some o → h'.get? b = some o) →
      (∀ b o, b ≠ e → s.heap.get? b = some o → ∃ sl, h'.get? b = some { o with slots := sl }) → Q () { s with heap := h' }) :
    wpAny M A (do let a ← frameOf env; let pl ← entryPlaceOf L more; let b ← EntryCells.newEntry head a .none (rawInt L) .none pl; setField (.ref e) 1 b) Q E s := by
  have out : e ∉ frs (env :: outer) := fun hm => by
    obtain ⟨_, o, go, nf⟩ := ff.mem hm
    rw [ge] at go
    cases go
    exact nf fs de
  refine wpAny_bind (wpAny_frameOf_fun fr ff fL fun h1 so => ?_)
  refine wpAny_bind (wpAny_entryPlaceOf fun pl isP => ?_)
  unfold EntryCells.newEntry newFields
  refine wpAny_bind (wpAny_newObj_type ?_ (isP.sizeOk5 _ _ _ _ _))
  have e1 : h1.get? e = some ob := (so.2.1 e out).trans ge
  have e2 := Heap.get?_push_of_some (h := h1) { cls := .type "traceback", dict := none, data := .fields ([head, .ref L, .none, rawInt L, .none] ++ (if pl.isEmpty then List.replicate 6 Value.none else pl)).toArray } e1
  have nT : h1.objs.size ≠ e := Nat.ne_of_gt (Heap.lt_size e1)
  have dm := Obj.data_mapFields de (·.setIfInBounds 1 (Value.ref h1.objs.size))
  have e3 := Heap.get?_update_self (Obj.mapFields (·.setIfInBounds 1 (Value.ref h1.objs.size))) e2 (Obj.isFreed_of_fields dm)
  have oth : ∀ b o, b ≠ e → h1.get? b = some o → ((h1.push { cls := .type "traceback", dict := none, data := .fields ([head, .ref L, .none, rawInt L, .none] ++ (if pl.isEmpty then List.replicate 6 Value.none else pl)).toArray }).update e (Obj.mapFields (·.setIfInBounds 1 (Value.ref h1.objs.size)))).get? b = some o :=
    fun b o nb gb => (Heap.get?_update_other _ _ (Ne.symm nb)).trans (Heap.get?_push_of_some _ gb)
  refine wpAny_setField e2 de sz (h _ h1.objs.size ⟨_, _, _, _, e3, cls_mapF _ _, dict_mapFields _ _, dm, by simp [sz], nT, (Heap.get?_update_other _ _ (Ne.symm nT)).trans (Heap.get?_push_size _ rfl), rfl, ?_⟩ ?_ (fun b o nb nf gb => oth b o nb ((so.2.1 b nf).trans gb)) fun b o nb gb => ?_)
  · simp
  · have : s.heap.objs.size = h1.objs.size := so.1.symm
    rw [← this]
    exact Heap.get?_none_of_le (Nat.le_refl _)
  · obtain ⟨sl, g1⟩ := so.2.2 b o gb
    exact ⟨sl, oth b _ nb g1⟩
end
end L2

set_option Elab.async false
set_option linter.all false
set_option maxRecDepth 100000
set_option maxHeartbeats 4000000
namespace L2
open PySem PySem.Spec PyProof.Rows
section
variable {M : Model} {A : Around} {E : Value → Shared → Prop} {s : Shared} {base : Heap} {env : Env} {outer : List Env} {L e T : Addr} {ob : Obj} {fs : Array Value} {cls fl : Value} {dct : Option Addr}
/-- what a walk of the traces leaves: of all but the things at xs the objects, of the frames up to slots -/
def KeptBut (xs fr : List Addr) (h h' : Heap) : Prop :=
  (∀ b o, b ∉ xs → b ∉ fr → h.get? b = some o → h'.get? b = some o) ∧ ∀ b o, b ∉ xs → h.get? b = some o → ∃ sl, h'.get? b = some { o with slots := sl }
theorem KeptBut.trans {xs ys fr : List Addr} {h h1 h2 : Heap} (a : KeptBut xs fr h h1) (b : KeptBut ys fr h1 h2) : KeptBut (xs ++ ys) fr h h2 :=
  ⟨fun c o n f g => b.1 c o (fun z => n (List.mem_append_right _ z)) f (a.1 c o (fun z => n (List.mem_append_left _ z)) f g), fun c o n g => by
    obtain ⟨s1, g1⟩ := a.2 c o (fun z => n (List.mem_append_left _ z)) g
    obtain ⟨s2, g2⟩ := b.2 c _ (fun z => n (List.mem_append_right _ z)) g1
    exact ⟨s2, g2⟩⟩
theorem fx_first {Q : Unit → Shared → Prop} (fr : A.frames = some (env :: outer)) (ff : s.heap.FunFrames base (env :: outer)) (fL : env.frame = some L) (ge : s.heap.get? e = some ob) (de : ob.data = .fields fs) (f1 : fs[1]? = some .none)
    (h : ∀ h' T, Fx h' e ob.cls ob.dict (rawInt L) T → s.heap.get? T = none → KeptBut [e] (frs (env :: outer)) s.heap h' → Q () { s with heap := h' }) : wpAny M A (noteFrame (.ref e) env) Q E s := by
  unfold noteFrame
  simp only [fL]
  refine wpAny_bind (wpAny_field ge de f1 ?_)
  rw [if_neg (by decide)]
  exact fx_entry fr ff fL ge de (Array.getElem?_eq_some_iff.mp f1).1 fun h' T x nT k1 k2 => h h' T x nT ⟨fun b o n f g => k1 b o (by simpa using n) f g, fun b o n g => k2 b o (by simpa using n) g⟩
theorem fx_next {Q : Unit → Shared → Prop} (fr : A.frames = some (env :: outer)) (ff : s.heap.FunFrames base (env :: outer)) (fL : env.frame = some L) (x : Fx s.heap e cls dct .none T)
    (h : ∀ h' T', Fx h' e cls dct (rawInt L) T' → s.heap.get? T' = none → KeptBut [T, e] (frs (env :: outer)) s.heap h' → Q () { s with heap := h' }) : wpAny M A (noteFrame (.ref e) env) Q E s := by
  obtain ⟨ob, fs, oT, ts, ge, rfl, rfl, de, f1, nT, gT, dT, t3⟩ := x
  unfold noteFrame
  simp only [fL]
  refine wpAny_bind (wpAny_field ge de f1 ?_)
  rw [if_pos (show (Value.ref T != Value.none) = true from by simp)]
  refine wpAny_bind (wpAny_field gT dT t3 ?_)
  rw [if_neg (show ¬ ((Value.none == rawInt L) = true) from by simp [rawInt])]
  refine wpAny_bind (wpAny_setField gT dT (Array.getElem?_eq_some_iff.mp t3).1 ?_)
  have oth : ∀ b, b ≠ T → (s.heap.update T (Obj.mapFields (·.setIfInBounds 3 Value.none))).get? b = s.heap.get? b := fun b nb => Heap.get?_update_other _ _ (Ne.symm nb)
  have nrec : ∀ b o, s.heap.get? b = some o → (∀ vs, o.data ≠ .fields vs) → b ≠ T := fun b o gb nf z => by
    rw [z, gT] at gb
    cases gb
    exact nf ts dT
  have gT' := Heap.get?_update_self (Obj.mapFields (·.setIfInBounds 3 Value.none)) gT (Obj.isFreed_of_fields (Obj.data_mapFields dT _))
  refine fx_entry fr (ff.of_keeps fun b o gb nf => ⟨o, (oth b (nrec b o gb nf)).trans gb, rfl⟩) fL ((oth e nT.symm).trans ge) de (Array.getElem?_eq_some_iff.mp f1).1 fun h' T' x' nT' k1 k2 => h h' T' x' ?_ ⟨fun b o n f g => ?_, fun b o n g => ?_⟩
  · cases q : s.heap.get? T' with
    | none => rfl
    | some o =>
      by_cases z : T' = T
      · rw [z, gT'] at nT'
        cases nT'
      · have nT'' := nT'
        rw [oth T' z, q] at nT''
        cases nT''
  · have n1 : b ≠ T := fun z => n (by rw [z]; exact List.mem_cons_self)
    have n2 : b ≠ e := fun z => n (by rw [z]; simp)
    exact k1 b o n2 f ((oth b n1).trans g)
  · have n1 : b ≠ T := fun z => n (by rw [z]; exact List.mem_cons_self)
    have n2 : b ≠ e := fun z => n (by rw [z]; simp)
    exact k2 b o n2 ((oth b n1).trans g)
theorem fx_flight {Q : Unit → Shared → Prop} {fr : List Addr} (x : Fx s.heap e cls dct fl T) (h : ∀ h', Fx h' e cls dct .none T → KeptBut [T] fr s.heap h' → Q () { s with heap := h' }) : wpAny M A (setFlight (.ref e) none) Q E s := by
  obtain ⟨ob, fs, oT, ts, ge, rfl, rfl, de, f1, nT, gT, dT, t3⟩ := x
  have z3 : 3 < ts.size := (Array.getElem?_eq_some_iff.mp t3).1
  have oth : ∀ b, b ≠ T → (s.heap.update T (Obj.mapFields (·.setIfInBounds 3 ((none : Option Addr).elim Value.none fun f => rawInt f)))).get? b = s.heap.get? b := fun b nb => Heap.get?_update_other _ _ (Ne.symm nb)
  unfold setFlight
  refine wpAny_bind (wpAny_field ge de f1 ?_)
  rw [if_pos (show (Value.ref T != Value.none) = true from by simp)]
  refine wpAny_setField gT dT z3 (h _ ⟨ob, fs, _, _, (oth e nT.symm).trans ge, rfl, rfl, de, f1, nT, Heap.get?_update_self _ gT (Obj.isFreed_of_fields (Obj.data_mapFields dT _)), Obj.data_mapFields dT _, by simp [z3]⟩ ⟨fun b o n _ g => ?_, fun b o n g => ?_⟩)
  · exact (oth b (by simpa using n)).trans g
  · exact ⟨o.slots, (oth b (by simpa using n)).trans g⟩
/-- it leaves a frame, traced already -/
theorem fx_leave {Q : Unit → Shared → Prop} (fr : A.frames = some (env :: outer)) (ff : s.heap.FunFrames base (env :: outer)) (fL : env.frame = some L) (x : Fx s.heap e cls dct .none T)
    (h : ∀ h' T', Fx h' e cls dct .none T' → s.heap.get? T' = none → KeptBut [T, e, T'] (frs (env :: outer)) s.heap h' → Q () { s with heap := h' }) : wpAny M A (leaving env (.ref e)) Q E s := by
  unfold leaving
  refine wpAny_bind (fx_next fr ff fL x fun h1 T1 x1 n1 k1 => fx_flight (s := { s with heap := h1 }) x1 fun h2 x2 k2 => h h2 T1 x2 n1 (k1.trans k2))
/-- it leaves its first frame -/
theorem fx_leave0 {Q : Unit → Shared → Prop} (fr : A.frames = some (env :: outer)) (ff : s.heap.FunFrames base (env :: outer)) (fL : env.frame = some L) (ge : s.heap.get? e = some ob) (de : ob.data = .fields fs) (f1 : fs[1]? = some .none)
    (h : ∀ h' T', Fx h' e ob.cls ob.dict .none T' → s.heap.get? T' = none → KeptBut [e, T'] (frs (env :: outer)) s.heap h' → Q () { s with heap := h' }) : wpAny M A (leaving env (.ref e)) Q E s := by
  unfold leaving
  refine wpAny_bind (fx_first fr ff fL ge de f1 fun h1 T1 x1 n1 k1 => fx_flight (s := { s with heap := h1 }) x1 fun h2 x2 k2 => h h2 T1 x2 n1 (k1.trans k2))
end
end L2

set_option Elab.async false
set_option linter.all false
set_option maxRecDepth 100000
set_option maxHeartbeats 4000000
namespace L2
open PySem PySem.Spec PyProof.Rows
/-! ### an own exception with attributes leaves -/
/-- the exception at x, of the class at D, with the dict dct, flies; it and its newest trace are new and untracked -/
structure XG (P : Program) (w : World) (outer : List Env) (H : Hp) (s : Shared) (x D : Addr) (dct : Option Addr) (T : Addr) (H' : Hp) (s' : Shared) : Prop where
  os : s'.os = s.os
  bare : AllBare s'.gens
  un : Un (frs outer) [] H H' s.heap s'.heap
  hok : HOk P w H' s'.heap
  fx : Fx s'.heap x (.ref D) dct .none T
  nx : s.heap.get? x = none
  nT : s.heap.get? T = none
  ux : H' x = none
  uT : H' T = none
def CXG (P : Program) (w : World) : CXT := fun outer H s E e s' => ∃ x D dct T H', e = .ref x ∧ XG P w outer H s x D dct T H' s' ∧ E (.ref D) dct H'
theorem gone_of_there {fs : List Addr} {H H' : Hp} {h h' : Heap} {b : Addr} (u : Un fs [] H H' h h') (n : h'.get? b = none) : h.get? b = none := by
  cases q : h.get? b with
  | none => rfl
  | some o =>
    obtain ⟨o', e⟩ := u.there b o q (by simp)
    rw [n] at e
    cases e
section
variable {P : Program} {w : World} {K : PySem.W.Frag} {mg : Str → Option Value} {base : Heap} {N : List Str} {qual : Str} {scope : Scope} {f : Addr} {cdv : Value} {A : Around} {outer : List Env} {s0 : Shared} {H0 : Hp} {E : XK}
abbrev cxG (P : Program) (w : World) (K : PySem.W.Frag) (mg : Str → Option Value) (base : Heap) (N : List Str) (qual : Str) (scope : Scope) (f : Addr) (cdv : Value) (A : Around) (outer : List Env) (s0 : Shared) (H0 : Hp) (E : XK) : Cx :=
  cxOf (CXG P w) P w K mg base N qual scope f cdv A outer s0 H0 E
theorem cxg_out {X : Cx} {pins : List (Addr × Obj)} {σ : St} {H' : Hp} {s' : Shared} {h2 : Heap} {x D T : Addr} {dct : Option Addr} {xs : List Addr} (J : Inv X pins σ H' s') (hex : X.ex = [])
    (k : KeptBut xs (frs X.stack) s'.heap h2) (hxs : ∀ b ∈ xs, X.s₀.heap.get? b = none ∧ H' b = none ∧ b ∉ frs X.outer) (fx : Fx h2 x (.ref D) dct .none T) (mx : x ∈ xs) (mT : T ∈ xs) :
    XG X.prog X.w X.outer X.H₀ X.s₀ x D dct T H' { s' with heap := h2 } := by
  have jb : Un (frs X.outer) [] X.H₀ H' X.s₀.heap s'.heap := by
    have := J.base
    rw [hex] at this
    exact this
  refine ⟨J.os, J.bare, un_more jb (fun b o h0 hf e => k.1 b o (fun z => ?_) (old_out J h0 hf) e) (fun b o hf e => k.2 b o (fun z => (hxs b z).2.2 hf) e), hok_more J.hok (fun b o u hu e => k.1 b o (fun z => ?_) (trk_out J hu) e), fx, (hxs x mx).1, (hxs T mT).1, (hxs x mx).2.1, (hxs T mT).2.1⟩
  · obtain ⟨o0, e0⟩ := h0
    rw [(hxs b z).1] at e0
    cases e0
  · rw [(hxs b z).2.1] at hu
    cases hu
theorem frs_out {X : Cx} {pins : List (Addr × Obj)} {σ : St} {H : Hp} {s : Shared} (I : Inv X pins σ H s) {b : Addr} (h : s.heap.get? b = none) : b ∉ frs X.outer := fun z => by
  obtain ⟨_, o, e, _⟩ := I.funs.mem z
  rw [h] at e
  cases e
theorem passG : Passes (CXG P w) (cxG P w K mg base N qual scope f cdv A outer s0 H0 E) E := by
  intro pins σ H s e s' I hx
  obtain ⟨x, D, dct, T, H', rfl, G, q⟩ := hx
  have J : Inv (cxG P w K mg base N qual scope f cdv A outer s0 H0 E) pins σ H' s' := I.call' (ch := []) G.os G.un G.hok G.bare (by simp)
  have ib : Un (frs outer) [] H0 H s0.heap s.heap := I.base
  have jb : Un (frs outer) [] H0 H' s0.heap s'.heap := J.base
  show wpAny _ _ (leaving _ (.ref x)) _ _ s'
  refine fx_leave I.ok.frames J.stack rfl G.fx fun h2 T2 x2 n2 k => ?_
  refine ⟨x, D, dct, T2, H', rfl, cxg_out J rfl k (fun b hb => ?_) x2 (by simp) (by simp), q⟩
  have hb' : b = T ∨ b = x ∨ b = T2 := by simpa using hb
  rcases hb' with rfl | rfl | rfl
  · exact ⟨gone_of_there ib G.nT, G.uT, frs_out I G.nT⟩
  · exact ⟨gone_of_there ib G.nx, G.ux, frs_out I G.nx⟩
  · refine ⟨gone_of_there jb n2, ?_, frs_out J n2⟩
    cases z : H' b with
    | none => rfl
    | some u =>
      obtain ⟨o, e⟩ := (J.hok b u z).isObj
      rw [n2] at e
      cases e
theorem ownG : PassesOwn (model P w) (cxG P w K mg base N qual scope f cdv A outer s0 H0 E).A (cxG P w K mg base N qual scope f cdv A outer s0 H0 E).env (cxG P w K mg base N qual scope f cdv A outer s0 H0 E).xe := PassesOwn.leaving
end
section
variable {P : Program} {w : World} {K : PySem.W.Frag} {mg : Str → Option Value} {base : Heap}
theorem Fun.okG {x qual : Str} {st : Stmt} {f : Addr} {fd : FuncData} {N ps : List Str} {k : Nat} {sp : Sp} (F : Fun K x qual st f fd) (S : FnScope N ps (defScope st)) (len : ∀ vs H Q E, sp vs H Q E → vs.length = ps.length)
    (hbody : ∀ (cdv : Value) (A : Around) (outer : List Env) (s : Shared) (H : Hp) (vs : List V) (Q : VK) (E : XK), Room k (A.deeper (envOfC qual (defScope st) s.heap.objs.size f cdv)) → sp vs H Q E →
      ∃ t, PSs (cxG P w K mg base N qual (defScope st) f cdv A outer s H E) (defBody st) t ∧ t { nx := fun _ H' => Q .non H', rt := Q } (start N vs) H) : FnOk P w K mg base (CXG P w) (k + 1) f fd ps sp := by
  obtain ⟨oc, od, kV, doc, pm, an, cdv, ct, osl, rfl, lk, hcd⟩ := F.ex
  exact fn_of lk hcd S len fun A outer s H vs Q E hr hsp => hbody cdv A outer s H vs Q E hr hsp
end
end L2

set_option Elab.async false
set_option linter.all false
set_option maxRecDepth 100000
set_option maxHeartbeats 4000000
namespace L2
open PySem PySem.Spec PyProof.Rows
/-! ### an own exception with attributes is raised -/
/-- the abstract heap without what stands at x -/
def untr (H : Hp) (x : Addr) : Hp := fun b => if b = x then none else H b
theorem untr_ne {H : Hp} {x b : Addr} (h : b ≠ x) : untr H x b = H b := by unfold untr; rw [if_neg h]
theorem untr_same {H : Hp} {x : Addr} : untr H x x = none := by unfold untr; rw [if_pos rfl]
/-- an exception that was made and never raised -/
def XU (a D : Addr) (dct : Option Addr) : Heap → Prop := fun h => ∃ o vs, h.get? a = some o ∧ o.cls = .ref D ∧ o.data = .fields vs ∧ o.dict = dct ∧ vs[1]? = some .none
theorem Inv.untr {X : Cx} {pins : List (Addr × Obj)} {σ : St} {H : Hp} {s : Shared} {x : Addr} {φ : Heap → Prop} (I : Inv X pins σ H s) (hx : H x = some (.ext φ)) : Inv X pins σ (untr H x) s := by
  have nt : ∀ b u, H b = some u → (∀ ψ, u ≠ .ext ψ) → b ≠ x := fun b u e n z => by
    rw [z, hx] at e
    cases e
    exact n φ rfl
  have fr : ∀ b, H b = none → L2.untr H x b = none := fun b e => by
    by_cases z : b = x
    · rw [z]; exact untr_same
    · rw [untr_ne z]; exact e
  have hok : HOk X.prog X.w (L2.untr H x) s.heap := fun b u e => by
    by_cases z : b = x
    · rw [z, untr_same] at e
      cases e
    · rw [untr_ne z] at e
      refine (I.hok b u e).stay (fun _ _ _ q => q) (fun c q => ?_) fun c xs q => ?_
      · rw [untr_ne (nt c _ q fun _ z => nomatch z)]; exact q
      · rw [untr_ne (nt c _ q fun _ z => nomatch z)]; exact q
  exact I.un (t' := s.toks) (h' := s.heap) ⟨fun b o e _ _ _ => e, fun b o e _ _ _ => ⟨o.slots, e⟩, fun b o e n _ => fr b n, fun b o e _ => ⟨o, e⟩, fun b xs e => by rw [untr_ne (nt b _ e fun _ z => nomatch z)]; exact e,
    fun b o u e => by rw [untr_ne (nt b _ e fun _ z => nomatch z)]; exact e, fun b ps e => ⟨#[], by rw [untr_ne (nt b _ e fun _ z => nomatch z), e]; simp⟩⟩ hok
section
variable {P : Program} {w : World} {K : PySem.W.Frag} {mg : Str → Option Value} {base : Heap} {N : List Str} {qual : Str} {scope : Scope} {f : Addr} {cdv : Value} {A : Around} {outer : List Env} {s0 : Shared} {H0 : Hp} {E : XK}
/-- raise e, e a new own exception -/
def tRaiseG (K : PySem.W.Frag) (H0 : Hp) (E : XK) (D : Addr) (te : TE) : TS := fun _ σ H => te σ H fun v H1 => ∃ x dct φ, v = .ref x ∧ H1 x = some (.ext φ) ∧ (∀ h, φ h → XU x D dct h) ∧ H0 x = none ∧ E (.ref D) dct (untr H1 x)
theorem ps_raiseG {ex : Expr} {te : TE} {D : Addr} {pos : Pos} (c : XCls K D) (hd : XHd K D) (he : PE (cxG P w K mg base N qual scope f cdv A outer s0 H0 E) ex te) :
    PS (cxG P w K mg base N qual scope f cdv A outer s0 H0 E) (.Raise (some ex) none pos) (tRaiseG K H0 E D te) := by
  intro pins s σ H DE I h
  rw [arm_exec_Raise]
  refine wpAny_bind (wpAny_standAt ?_)
  show wpAny _ _ (raiseStmt _ (some (do let v ← eval ex (cxG P w K mg base N qual scope f cdv A outer s0 H0 E).env; standAt pos; pure v)) none) _ _ s
  refine xr_stmt (K := K) (D := D) c hd (I.ok.hd rfl) (wpAny_bind (thn (he pins s σ H _ I h) fun v s1 ⟨y, H1, I1, ry, x, dct, φ, ey, hx, hφ, h0, q⟩ => wpAny_bind (wpAny_standAt (wpAny_pure ?_))))
  subst ey
  obtain rfl : v = Value.ref x := ry
  obtain ⟨ob, vs, g1, g2, g3, g4, g5⟩ := hφ _ (I1.hok x _ hx).1
  refine ⟨x, ob, vs, rfl, I1.kIn, g1, g2, g3, g5, ?_⟩
  show wpAny _ _ (leaving _ (.ref x)) _ _ s1
  have J := I1.untr hx
  have jb : Un (frs outer) [] H0 (untr H1 x) s0.heap s1.heap := J.base
  have ib : Un (frs outer) [] H0 H1 s0.heap s1.heap := I1.base
  have nx : s0.heap.get? x = none := by
    cases z : s0.heap.get? x with
    | none => rfl
    | some o =>
      have := ib.free x o z h0 (by simp)
      rw [hx] at this
      cases this
  refine fx_leave0 I1.ok.frames J.stack rfl g1 g3 g5 fun h2 T fx nT k => ?_
  rw [g2, g4] at fx
  refine ⟨x, D, dct, T, untr H1 x, rfl, cxg_out J rfl k (fun b hb => ?_) fx (by simp) (by simp), q⟩
  have hb' : b = x ∨ b = T := by simpa using hb
  rcases hb' with rfl | rfl
  · refine ⟨nx, untr_same, fun z => ?_⟩
    obtain ⟨_, o, e, nf⟩ := J.funs.mem z
    rw [g1] at e
    cases e
    exact nf vs g3
  · refine ⟨gone_of_there jb nT, ?_, frs_out J nT⟩
    cases z : untr H1 x b with
    | none => rfl
    | some u =>
      obtain ⟨o, e⟩ := (J.hok b u z).isObj
      rw [nT] at e
      cases e
end
end L2

set_option Elab.async false
set_option linter.all false
set_option maxRecDepth 100000
set_option maxHeartbeats 4000000
namespace L2
open PySem PySem.Spec PyProof.Rows
/-! ### an own exception with attributes is caught -/
def XCt (a D : Addr) (dct : Option Addr) : Heap → Prop := fun h => ∃ o vs, h.get? a = some o ∧ o.cls = .ref D ∧ o.data = .fields vs ∧ o.dict = dct
theorem XCt.at {a D : Addr} {dct : Option Addr} {h : Heap} (x : XCt a D dct h) : XAt a D h := let ⟨o, _, e, c, _⟩ := x; ⟨o, e, c⟩
section
variable {X : Cx} {pins : List (Addr × Obj)} {σ : St} {H H' : Hp} {s s' : Shared} {x D C T T2 : Addr} {dct : Option Addr} {fl : Value} {h2 : Heap} {xs : List Addr}
theorem landG (I : Inv X pins σ H s) (G : XG X.prog X.w X.stack H s x D dct T H' s') (k : KeptBut xs (frs X.stack) s'.heap h2) (hxs : ∀ b ∈ xs, s.heap.get? b = none ∧ H' b = none ∧ b ∉ frs X.stack) (fx : Fx h2 x (.ref D) dct fl T2) :
    Inv X pins σ (upd H' x (.ext (XCt x D dct))) { s' with heap := h2 } := by
  have hnx : ∀ b u, H' b = some u → b ≠ x := fun b u e z => by rw [z, G.ux] at e; cases e
  have trk : ∀ b u, H' b = some u → b ∉ frs X.stack := fun b u e hb => by
    obtain ⟨_, o, ho, _⟩ := I.stack.mem hb
    rw [G.un.free b o ho (I.stkFree b hb) (by simp)] at e
    cases e
  have u2 : Un (frs X.stack) [] H H' s.heap h2 := un_more G.un (fun b o h0 hf e => k.1 b o (fun z => by obtain ⟨o0, e0⟩ := h0; rw [(hxs b z).1] at e0; cases e0) hf e) (fun b o hf e => k.2 b o (fun z => (hxs b z).2.2 hf) e)
  have hk2 : HOk X.prog X.w H' h2 := hok_more G.hok (fun b o u hu e => k.1 b o (fun z => by rw [(hxs b z).2.1] at hu; cases hu) (trk b u hu) e)
  obtain ⟨ob, fs, _, _, gx, gc, gd, gf, _⟩ := fx
  refine I.call' (ch := []) (s' := { s' with heap := h2 }) G.os ⟨u2.keep, u2.slot, fun b o e n hx' => ?_, u2.there, fun b xs e => ?_, fun b o u e => ?_, fun b ps e => ?_⟩ (fun a o e => ?_) G.bare (by simp)
  · have : b ≠ x := fun z => by rw [z, G.nx] at e; cases e
    rw [upd_ne this]
    exact u2.free b o e n hx'
  · have e' := u2.tups b xs e
    rw [upd_ne (hnx b _ e')]
    exact e'
  · have e' := u2.frzs b o u e
    rw [upd_ne (hnx b _ e')]
    exact e'
  · obtain ⟨more, e'⟩ := u2.tbls b ps e
    exact ⟨more, by rw [upd_ne (hnx b _ e')]; exact e'⟩
  · by_cases ha : a = x
    · subst ha
      rw [upd_same] at e
      cases e
      exact ⟨⟨ob, fs, gx, gc, gf, gd⟩, ⟨ob, gx⟩, fun h1 h3 ⟨o, vs, e1, r⟩ kk => ⟨o, vs, kk o e1, r⟩⟩
    · rw [upd_ne ha] at e
      exact (hk2 a o e).stay (fun _ _ _ q => q) (fun b q => by rw [upd_ne (hnx b _ q)]; exact q) fun b xs q => by rw [upd_ne (hnx b _ q)]; exact q
end
section
variable {X : Cx} {pins : List (Addr × Obj)} {σ : St} {H H' : Hp} {s s' : Shared} {x D C T : Addr} {dct : Option Addr} {cn en : Str} {ie : Nat} {b₀ : Stmt} {suite : List Stmt} {cp hp : Pos} {ts : TS} {DE : Ends}
end
end L2

set_option Elab.async false
set_option linter.all false
set_option maxRecDepth 100000
set_option maxHeartbeats 4000000
namespace L2
open PySem PySem.Spec PyProof.Rows
section
variable {X : Cx} {k ie : Nat} {f C : Addr} {fd : FuncData} {ps : List Str} {sp : Sp} {dvs : List V} {ds : List Value} {fx cn en : Str} {p pos p2 cp hp tp : Pos} {e : Expr} {es : List Expr} {t : TA} {b₀ : Stmt} {suite : List Stmt} {ts : TS}
end
/-- e.f of one that was caught -/
def tFldC (K : PySem.W.Frag) (ta : TE) (f : Str) : TE := fun σ H Q => ta σ H fun x H1 => ∃ a C cd dx fs v φ, x = .ref a ∧ XSet K C f cd ∧ XCls K C ∧ H1 a = some (.ext φ) ∧ (∀ h, φ h → XCt a C (some dx) h) ∧ H1 dx = some (.ext (XDct dx fs)) ∧ fs.lookup f = some v ∧ Q v H1
theorem pe_fldC {X : Cx} {e : Expr} {f : Str} {pos : Pos} {ta : TE} (he : PE X e ta) (hb : attributeBase e f X.env (eval e X.env) = eval e X.env := by rfl) : PE X (.Attribute e f pos) (tFldC X.K ta f) := by
  intro pins s σ H Q I h
  refine attr_of hb (thn (he pins s σ H _ I h) fun u s1 ⟨x, H1, I1, rx, a, C, cd, dx, fs, v, φ, ex, c, cl, ea, hφ, ed, l, q⟩ => ?_)
  subst ex
  obtain rfl : u = Value.ref a := rx
  obtain ⟨h1, g1, d1, t1, os1⟩ := s1
  obtain ⟨ob, vs, e1, e2, e3, e4⟩ := hφ _ (I1.hok a _ ea).1
  obtain ⟨⟨mA, nA, rA⟩, _⟩ := I1.hok dx _ ed
  have := rA f
  rw [l] at this
  obtain ⟨u', hu, ru⟩ := RelO.some_of this
  exact xa_attr cl I1.kIn c.na c.k c.dct e1 e2 e3 e4 nA.ns hu (relV_nb ru) ⟨v, H1, I1.tok _, ru, q⟩
end L2

set_option linter.all false
namespace FrM
def Bt (n : Nat) (i : Int) : Prop := i.natAbs < 2 ^ n
theorem Bt.mono {m n : Nat} {i : Int} (h : Bt m i) (l : m ≤ n) : Bt n i := Nat.lt_of_lt_of_le h (Nat.pow_le_pow_right (by decide) l)
theorem Bt.le {n : Nat} {i j : Int} (h : Bt n i) (l : j.natAbs ≤ i.natAbs) : Bt n j := Nat.lt_of_le_of_lt l h
theorem Bt.sub {n : Nat} {i j : Int} (h : Bt n i) (h' : Bt n j) : Bt (n + 1) (i - j) := by
  unfold Bt at *
  rw [Nat.pow_succ]
  omega
theorem Bt.neg {n : Nat} {i : Int} (h : Bt n i) : Bt n (-i) := by
  unfold Bt at *
  omega
/-- what is told of a fraction -/
structure Low (T B t b : Int) : Prop where
  pos : 1 ≤ b
  cop : Int.gcd t b = 1
  eq : t * B = T * b
theorem low (t b : Int) (hb : 0 < b) : 0 < (Int.gcd t b : Int) ∧ (Int.gcd t b : Int) ≤ b ∧ Low t b (t / (Int.gcd t b : Int)) (b / (Int.gcd t b : Int)) ∧ (t / (Int.gcd t b : Int)).natAbs ≤ t.natAbs ∧ (b / (Int.gcd t b : Int)).natAbs ≤ b.natAbs := by
  have hg : 0 < Int.gcd t b := Int.gcd_pos_iff.mpr (.inr (by omega))
  have hgi : 0 < (Int.gcd t b : Int) := by omega
  have d1 := Int.gcd_dvd_left t b
  have d2 := Int.gcd_dvd_right t b
  have e1 := Int.ediv_mul_cancel d1
  have e2 := Int.ediv_mul_cancel d2
  have hle : (Int.gcd t b : Int) ≤ b := Int.le_of_dvd hb d2
  refine ⟨hgi, hle, ⟨?_, Int.gcd_ediv_gcd_ediv_gcd hg, ?_⟩, ?_, ?_⟩
  · have := Int.ediv_pos_of_pos_of_dvd hb (by omega) d2
    omega
  · rw [← Int.mul_ediv_assoc _ d2, Int.mul_comm, ← Int.mul_ediv_assoc _ d1, Int.mul_comm]
  · have := congrArg Int.natAbs e1
    rw [Int.natAbs_mul] at this
    rw [← this]
    exact Nat.le_mul_of_pos_right _ (by simpa using hg)
  · have := congrArg Int.natAbs e2
    rw [Int.natAbs_mul] at this
    rw [← this]
    exact Nat.le_mul_of_pos_right _ (by simpa using hg)
theorem Low.neg {T B t b : Int} (h : Low (-T) (-B) t b) : Low T B t b := ⟨h.pos, h.cop, by have := h.eq; rw [Int.mul_neg, Int.neg_mul] at this; omega⟩
theorem dvd_cop {b t b' : Int} (c : Int.gcd t b = 1) (h : b ∣ t * b') : b ∣ b' := by
  rw [← Int.natAbs_dvd_natAbs] at *
  rw [Int.natAbs_mul] at h
  exact Nat.Coprime.dvd_of_dvd_mul_left (by rw [Nat.coprime_comm]; exact c) h
/-- two fractions in lowest terms that are equal across are equal -/
theorem Low.uniq {T B t b t' b' : Int} (hB : B ≠ 0) (h : Low T B t b) (h' : Low T B t' b') : t = t' ∧ b = b' := by
  have e : t * b' = t' * b := by
    have : (t * b') * B = (t' * b) * B := by
      rw [Int.mul_assoc, Int.mul_comm b' B, ← Int.mul_assoc, h.eq, Int.mul_assoc t' b B, Int.mul_comm b B, ← Int.mul_assoc, h'.eq, Int.mul_assoc, Int.mul_assoc, Int.mul_comm b b']
    exact Int.eq_of_mul_eq_mul_right hB this
  have d1 : b ∣ b' := by
    have : b ∣ t * b' := ⟨t', by rw [e, Int.mul_comm]⟩
    exact dvd_cop h.cop this
  have d2 : b' ∣ b := by
    have : b' ∣ t' * b := ⟨t, by rw [← e, Int.mul_comm]⟩
    exact dvd_cop h'.cop this
  have eb : b = b' := Int.dvd_antisymm (by have := h.pos; omega) (by have := h'.pos; omega) d1 d2
  refine ⟨?_, eb⟩
  rw [eb] at e
  exact Int.eq_of_mul_eq_mul_right (by have := h'.pos; omega) e
end FrM

set_option linter.all false
set_option maxRecDepth 100000
namespace L2
open PySem PySem.Spec PyProof.Rows FrM
section
variable {X : Cx}
/-! ### products and quotients of great numbers -/
def CMulB (i j : Int) : Prop := (Bt 8000 i ∧ Bt 8000 j) ∨ CMul i j
theorem CMulB.ok {i j : Int} (h : CMulB i j) : IntMulOk i j := by
  rcases h with ⟨h1, h2⟩ | h
  · exact IntMulOk.of_le (m := 8000) (n := 8000) (intBits_le_iff.mpr h1) (intBits_le_iff.mpr h2) (by decide)
  · exact h.ok
def CDivB (i j : Int) : Prop := 0 < j ∧ Bt 8000 j
theorem CDivB.no {i j : Int} (h : CDivB i j) : Builtin.divisionGoesByPylong i j = false := by
  refine PyProof.noPylong_of_log2 ?_
  have h2 : j.natAbs < 2 ^ 8000 := h.2
  by_cases h0 : j.natAbs = 0
  · rw [h0]; decide +kernel
  · have : j.natAbs.log2 < 8000 := (Nat.log2_lt h0).mpr h2
    omega
theorem op_mulB : OpR X (binaryOp .Mult) (rI CMulB fun i j => .int (i * j)) := opI fun _ _ _ _ _ _ _ hc q => mul_int q hc.ok
theorem op_fdivB : OpR X (binaryOp .FloorDiv) (rI CDivB fun i j => .int (i / j)) := opI fun i j _ _ _ _ _ hc q => by
  have h1 : (0 : Int) < j := hc.1
  exact floordiv_int (by omega) (by rw [Int.fdiv_eq_ediv_of_nonneg i (by omega)]; exact q) (.inl hc.no)
theorem o_mulB : OpR X (binaryOp .Mult) (rIC CMulB fun i j => .int (i * j)) := op_mulB.ic
theorem o_fdivB : OpR X (binaryOp .FloorDiv) (rIC CDivB fun i j => .int (i / j)) := op_fdivB.ic
theorem clB {i j : Int} (h : -(2 ^ 64) < i := by decide) (h2 : i < 2 ^ 64 := by decide) : CMulB i j := .inr (cl h h2)
theorem crB {i j : Int} (h : -(2 ^ 64) < j := by decide) (h2 : j < 2 ^ 64 := by decide) : CMulB i j := .inr (cr h h2)
theorem cdB {i j : Int} {n : Nat} (h : 0 < j) (h' : Bt n j) (hn : n ≤ 8000 := by decide) : CDivB i j := ⟨h, h'.mono hn⟩
end
end L2

set_option Elab.async false
set_option linter.all false
set_option maxRecDepth 100000
set_option maxHeartbeats 4000000
namespace L2
open PySem PySem.Spec PyProof.Rows
/-! ### long rows of arguments (the layer's own rule is slow for them) -/
def isSt : Expr → Bool
  | .Starred .. => true
  | _ => false
theorem star_cons {e : Expr} {es : List Expr} {env : Env} (h : isSt e = false) : starEach (e :: es) env = (false, eval e env) :: starEach es env := by
  cases e <;> first | rfl | cases h
theorem pa_consQ {X : Cx} {e : Expr} {es : List Expr} {te : TE} {t : TA} (ha : PE X e te) (hr : PA X es t) (h : isSt e = false := by rfl) : PA X (e :: es) (tCons te t) := pa_cons ha hr (star_cons h)
/-- a text's last return of one of twelve told things; the judgment is kept whole (unfolding it is slow) -/
@[irreducible] def PSq (X : Cx) (sts : List Stmt) (t : TS) : Prop := PSs X sts t
theorem pss_consI {X : Cx} {st : Stmt} {sts : List Stmt} {t u : TS} (h1 : PS X st t) (h2 : PSq X sts u) : PSs X (st :: sts) (tSeq t u) := by
  unfold PSq at h2
  exact pss_cons h1 h2
/-- two promises of one def -/
theorem FnOk.or {P : Program} {w : World} {K : PySem.W.Frag} {mg : Str → Option Value} {base : Heap} {CX : CXT} {k : Nat} {f : Addr} {fd : FuncData} {ps : List Str} {sp sp' : Sp} (F : FnOk P w K mg base CX k f fd ps sp) (F' : FnOk P w K mg base CX k f fd ps sp') :
    FnOk P w K mg base CX k f fd ps (fun vs H Q E => sp vs H Q E ∨ sp' vs H Q E) :=
  ⟨fun vs H Q E h => h.elim (F.len vs H Q E) (F'.len vs H Q E), fun A outer s H args us vs Q E hr he hb hv hs => hs.elim (F.run A outer s H args us vs Q E hr he hb hv) (F'.run A outer s H args us vs Q E hr he hb hv)⟩
theorem pe_fldCK {X : Cx} {K : PySem.W.Frag} {e : Expr} {f : Str} {pos : Pos} {ta : TE} (h : X.K = K) (he : PE X e ta) (hb : attributeBase e f X.env (eval e X.env) = eval e X.env := by rfl) : PE X (.Attribute e f pos) (tFldC K ta f) := h ▸ pe_fldC he hb
theorem call_isxK {X : Cx} {K : PySem.W.Frag} (h : X.K = K) : CallR X (.builtin "isinstance") (rIsX K) := h ▸ call_isx
section
variable {X : Cx} {k ie ir : Nat} {f C : Addr} {fd : FuncData} {ps : List Str} {sp : Sp} {dvs : List V} {ds : List Value} {fx cn en rn : Str} {p pos p2 p3 cp hp tp : Pos} {e : Expr} {es : List Expr} {t : TA} {b₀ : Stmt} {suite : List Stmt} {ts : TS}
end
end L2

set_option linter.all false
namespace FrM
def lowP (t b : Int) : Int × Int := (t / (Int.gcd t b : Int), b / (Int.gcd t b : Int))
def sz (z : List Int) (k : Nat) : Int := z.getD k 0
def sumL (z : List Int) (l : List Nat) : Int := (l.map (sz z)).sum
def stay (z : List Int) (l : List Nat) (w : Int) : List Nat := l.filter fun k => decide (sz z k * w < sumL z l)
theorem stay_le (z : List Int) (l : List Nat) (w : Int) : (stay z l w).length ≤ l.length := List.length_filter_le _ _
def fin (z : List Int) (l : List Nat) (w : Int) : List Nat × Int :=
  if (stay z l w).length = l.length then (l, w) else fin z (stay z l w) (w - ((l.length : Int) - ((stay z l w).length : Int)))
termination_by l.length
decreasing_by
  have := stay_le z l w
  omega
theorem fin_stop {z : List Int} {l : List Nat} {w : Int} (h : (stay z l w).length = l.length) : fin z l w = (l, w) := by
  rw [fin, if_pos h]
theorem fin_go {z : List Int} {l : List Nat} {w : Int} (h : (stay z l w).length ≠ l.length) : fin z l w = fin z (stay z l w) (w - ((l.length : Int) - ((stay z l w).length : Int))) := by
  rw [fin, if_neg h]
theorem sumL_ge (z : List Int) : ∀ (l : List Nat), (∀ k ∈ l, 1 ≤ sz z k) → (l.length : Int) ≤ sumL z l
  | [], _ => by simp [sumL]
  | a :: l, h => by
    have := sumL_ge z l (fun k hk => h k (List.mem_cons_of_mem _ hk))
    have h1 := h a List.mem_cons_self
    unfold sumL at *
    rw [List.map_cons, List.sum_cons, List.length_cons]
    omega
theorem sum_ge_mul (z : List Int) (w S : Int) : ∀ (l : List Nat), (∀ k ∈ l, S ≤ sz z k * w) → (l.length : Int) * S ≤ sumL z l * w
  | [], _ => by simp [sumL]
  | a :: l, h => by
    have := sum_ge_mul z w S l (fun k hk => h k (List.mem_cons_of_mem _ hk))
    have h1 := h a List.mem_cons_self
    unfold sumL at *
    rw [List.map_cons, List.sum_cons, List.length_cons, Int.add_mul]
    have e : ((l.length + 1 : Nat) : Int) * S = (l.length : Int) * S + S := by rw [Int.natCast_add, Int.add_mul]; simp
    rw [e]
    omega
theorem stay_pos {z : List Int} {l : List Nat} {w : Int} (hz : ∀ k ∈ l, 1 ≤ sz z k) (hw : w < l.length) (hl : 0 < l.length) : 0 < (stay z l w).length := by
  by_cases h : 0 < (stay z l w).length
  · exact h
  · exfalso
    have e : stay z l w = [] := List.length_eq_zero_iff.mp (by omega)
    have hall : ∀ k ∈ l, sumL z l ≤ sz z k * w := fun k hk => by
      have := (List.filter_eq_nil_iff.mp e) k hk
      simp at this
      exact this
    have h1 := sum_ge_mul z w (sumL z l) l hall
    have h2 := sumL_ge z l hz
    have h3 : 0 < sumL z l := by omega
    rw [Int.mul_comm (sumL z l) w] at h1
    have := Int.le_of_mul_le_mul_right h1 h3
    omega
/-- what is kept round by round -/
structure Rnd (z : List Int) (n : Nat) (m : Int) (l : List Nat) (w : Int) : Prop where
  pos : 0 < l.length
  sub : ∀ k ∈ l, k < n
  lt : w < l.length
  dif : w - l.length = m - n
  fil : l = (List.range n).filter fun k => decide (k ∈ l)
theorem Rnd.len {z : List Int} {n : Nat} {m : Int} {l : List Nat} {w : Int} (h : Rnd z n m l w) : l.length ≤ n := by
  have e := congrArg List.length h.fil
  have := List.length_filter_le (fun k => decide (k ∈ l)) (List.range n)
  rw [List.length_range] at this
  omega
theorem Rnd.start {z : List Int} {n : Nat} {m : Int} (h0 : 0 < n) (hm : m < n) : Rnd z n m (List.range n) m := by
  refine ⟨by rw [List.length_range]; exact h0, fun k hk => List.mem_range.mp hk, by rw [List.length_range]; exact hm, by rw [List.length_range], ?_⟩
  rw [List.filter_eq_self.mpr]
  intro k hk
  exact decide_eq_true hk
theorem Rnd.step {z : List Int} {n : Nat} {m : Int} {l : List Nat} {w : Int} (hz : ∀ k, k < n → 1 ≤ sz z k) (h : Rnd z n m l w) : Rnd z n m (stay z l w) (w - ((l.length : Int) - ((stay z l w).length : Int))) := by
  have hp := stay_pos (fun k hk => hz k (h.sub k hk)) h.lt h.pos
  refine ⟨hp, fun k hk => h.sub k (List.mem_filter.mp hk).1, by have := h.lt; omega, by have := h.dif; omega, ?_⟩
  have e : (List.range n).filter (fun k => decide (k ∈ stay z l w)) = ((List.range n).filter fun k => decide (k ∈ l)).filter fun k => decide (sz z k * w < sumL z l) := by
    rw [List.filter_filter]
    refine List.filter_congr fun k _ => ?_
    rw [Bool.eq_iff_iff]
    simp [stay]
    exact And.comm
  rw [e, ← h.fil]
  rfl
theorem Rnd.fin {z : List Int} {n : Nat} {m : Int} (hz : ∀ k, k < n → 1 ≤ sz z k) : ∀ (c : Nat) (l : List Nat) (w : Int), l.length ≤ c → Rnd z n m l w → Rnd z n m (fin z l w).1 (fin z l w).2
  | 0, l, w, hc, h => absurd h.pos (by omega)
  | c + 1, l, w, hc, h => by
    by_cases e : (stay z l w).length = l.length
    · rw [fin_stop e]; exact h
    · rw [fin_go e]
      have := stay_le z l w
      exact Rnd.fin hz c _ _ (by omega) (h.step hz)
/-- the shares over one bottom -/
structure Top (m : Int) (n : Nat) (S : Int) (N : Nat → Int) : Prop where
  pos : 0 < S
  all : ((List.range n).map N).sum = m * S
/-- what is due -/
def due (z : List Int) (m : Int) : List (Int × Int) :=
  if (z.length : Int) ≤ m then z.map fun _ => (1, 1) else if m = 0 then z.map fun _ => (0, 1)
  else (List.range z.length).map fun k => if decide (k ∈ (fin z (List.range z.length) m).1) = true then lowP (sz z k * (fin z (List.range z.length) m).2) (sumL z (fin z (List.range z.length) m).1) else (1, 1)
end FrM

set_option Elab.async false
set_option linter.all false
set_option maxRecDepth 100000
set_option maxHeartbeats 4000000
namespace L2
open PySem PySem.Spec PyProof.Rows
/-! ### tuples of ints that the text holds -/
/-! ### isinstance of these, too -/
def TyS (K : PySem.W.Frag) (H : Hp) (x : V) (t : Value) : Prop := TyOf K H x t ∨ ∃ a xs, x = .ref a ∧ t = .type "tuple" ∧ SqT K H a xs
section
variable {X : Cx}
open PySem.W in
theorem kit_ofS {pins : List (Addr × Obj)} {σ : St} {H : Hp} {s : Shared} {x : V} {u t : Value} (I : Inv X pins σ H s) (rx : RelV x u) (ty : TyS X.K H x t) :
    ∃ Hh : Heap → Prop, KitX X.K u t Hh ∧ Hh s.heap ∧ u ≠ .builtin "__main__.__loader__#opaque" := by
  rcases ty with ty | ⟨a, xs, rfl, rfl, hq⟩
  · exact kit_of I rx ty
  · cases (show u = Value.ref a from rx)
    obtain ⟨its, rv, p, hz⟩ := I.tuple hq
    exact ⟨_, PySem.W.kitx_tuple, let ⟨o, e, c, _⟩ := p; ⟨o, e, c⟩, fun z => nomatch z⟩
/-! ### sum of ints -/
theorem bt_sum : bootBuiltins "sum" = some (.builtin "sum") := by decide +kernel
theorem ints_are : ∀ {ns : List Int} {us : List Value}, Vals (ns.map V.int) us → IntsAre us ns
  | [], _, .nil => .nil
  | n :: ns, _, .cons r t => by
    obtain ⟨t', rfl⟩ := r
    exact .cons _ _ (ints_are t)
theorem call_sumI (hc : X.calm = true) : CallR X (.builtin "sum") (fun xs H Q => ∃ (p : Addr) (ns : List Int), xs = [.ref p] ∧ SqL X.K H p (ns.map V.int) ∧ Q (.int ns.sum) H) := by
  intro pins s σ H xs us Q I r h
  obtain ⟨p, ns, rfl, hq, q⟩ := h
  obtain ⟨u, rfl, rx⟩ := vals1 r
  cases rx
  obtain ⟨its, rv, pl, hz⟩ := I.list hq
  have hi := ints_are rv
  obtain ⟨xs, ex⟩ := hi.allInts.items
  have e2 : (numsOf its) = ns := hi.numsOf
  refine sum_intListG (I.ok.hd hc) (xs := xs) (by rw [← ex]; exact pl.isList) fun h' tk t' hk => ?_
  have e3 : preSum (numAt xs) xs.size = ns.sum := by
    rw [preSum_eq, List.take_of_length_le (by simp), ← e2, ← nums_intItems, ← ex]
  rw [e3]
  exact ⟨.int ns.sum, H, I.kept hk, ⟨_, rfl⟩, q⟩
/-! ### list(range(n)) -/
/-! ### for k in range(a, b, c), c from 1 on -/
end
end L2

set_option Elab.async false
set_option linter.all false
set_option maxRecDepth 100000
set_option maxHeartbeats 4000000
namespace HT
open PySem PySem.Spec PyProof.Rows
section
variable {prog : Program} {w : World} {A : Around} {E : Value → Shared → Prop} {s : Shared}
end
end HT
namespace L2
open PySem PySem.Spec PyProof.Rows
section
variable {X : Cx}
/-! ### () + t is t itself -/
/-! ### long rows, kept whole (unfolding the judgment is slow) -/
@[irreducible] def PAq (X : Cx) (es : List Expr) (t : TA) : Prop := PA X es t
theorem paq_nil : PAq X [] tNil := by unfold PAq; exact pa_nil
theorem paq_cons {e : Expr} {es : List Expr} {te : TE} {t : TA} (ha : PE X e te) (hr : PAq X es t) (h : isSt e = false := by rfl) : PAq X (e :: es) (tCons te t) := by
  unfold PAq at hr ⊢
  exact pa_consQ ha hr h
theorem pe_lstQ {es : List Expr} {t : TA} {pos : Pos} (h : PAq X es t) : PE X (.List es pos) (tLst t) := by
  unfold PAq at h
  exact pe_lst h
end
end L2

set_option Elab.async false
set_option linter.all false
set_option maxRecDepth 100000
set_option maxHeartbeats 4000000
namespace L2
open PySem PySem.Spec PyProof.Rows
/-! ### try, with any body of ifs and calls, and several clauses -/
theorem x_nomatch {K : PySem.W.Frag} {M : Model} {h : Heap} {C D x : Addr} {ob : Obj} (X : K.In h) (c : XHd K C) (hx : h.get? x = some ob) (hc : ob.cls = .ref D) (hm : PySem.W.mroIn K D (.ref C) = some false) :
    PySem.W.Looks M h (excMatches (.ref x) (.ref C)) false := by
  have L1 : PySem.W.Looks M h (typeOf (.ref C)) (.type "type") := PySem.W.looks_typeIn X c.ty
  have L2' : PySem.W.Looks M h (isSubtype (.type "type") (.type "tuple")) false := PySem.W.Looks.of_pure tc_notTuple
  have L3 : PySem.W.Looks M h (isInstance (.ref C) (.type "tuple")) false := L1.andThen L2'
  have L4 : PySem.W.Looks M h (isExcClass (.ref C)) true := by
    unfold isExcClass
    exact (x_isType X c.isc).andThen (PySem.W.looks_mroIn X c.mb)
  have L5 : PySem.W.Looks M h (typeOf (.ref x)) (.ref D) := hc ▸ (PySem.W.Looks.ld hx).andThen .now
  have L6 : PySem.W.Looks M h (isSubtype (.ref D) (.ref C)) false := PySem.W.looks_mroIn X hm
  intro A Q E s k q
  unfold excMatches
  refine wpAny_bind (L3 A _ E s k ?_)
  rw [if_neg Bool.false_ne_true]
  refine wpAny_bind (wpAny_pure ?_)
  simp only [List.forIn_cons, List.forIn_nil, bind_assoc, pure_bind]
  refine wpAny_bind (L4 A _ E s k ?_)
  simp only [Bool.not_true, Bool.false_eq_true, if_false, pure_bind]
  refine wpAny_bind (L5 A _ E s k ?_)
  refine wpAny_bind (L6 A _ E s k ?_)
  simp only [Bool.false_eq_true, if_false, pure_bind]
  exact wpAny_pure q
/-- an exception has come to this frame's try -/
structure Lnd (X : Cx) (pins : List (Addr × Obj)) (σ : St) (H : Hp) (s : Shared) (x D : Addr) (dct : Option Addr) (T : Addr) (H' : Hp) (s' : Shared) (T4 : Addr) (h5 : Heap) : Prop where
  I : Inv X pins σ H s
  G : XG X.prog X.w X.stack H s x D dct T H' s'
  k : KeptBut ([T, x] ++ [T4]) (frs X.stack) s'.heap h5
  hxs : ∀ b, b = T ∨ b = x ∨ b = T4 → s.heap.get? b = none ∧ H' b = none ∧ b ∉ frs X.stack
  fx : Fx h5 x (.ref D) dct .none T4
abbrev TH := Addr → Option Addr → Addr → Ends → St → Hp → Prop
def PH (X : Cx) (hs : List ExceptHandler) (th : TH) : Prop :=
  ∀ (pins : List (Addr × Obj)) (σ : St) (H : Hp) (s : Shared) (x D : Addr) (dct : Option Addr) (T : Addr) (H' : Hp) (s' : Shared) (T4 : Addr) (h5 : Heap) (DE : Ends), Lnd X pins σ H s x D dct T H' s' T4 h5 → th D dct x DE σ (upd H' x (.ext (XCt x D dct))) →
    wpAny (model X.prog X.w) X.A (handleBy (.ref x) X.env hs) (SP X pins DE) X.xe { s' with heap := h5 }
theorem ph_nil {X : Cx} : PH X [] (fun _ _ _ _ _ _ => False) := fun _ _ _ _ _ _ _ _ _ _ _ _ _ _ q => False.elim q
section
variable {X : Cx} {C : Addr} {cn en : Str} {ie : Nat} {b₀ : Stmt} {suite : List Stmt} {cp hp : Pos} {ts : TS} {rest : List ExceptHandler} {tr : TH}
theorem Lnd.J {pins : List (Addr × Obj)} {σ : St} {H : Hp} {s : Shared} {x D : Addr} {dct : Option Addr} {T : Addr} {H' : Hp} {s' : Shared} {T4 : Addr} {h5 : Heap} (L : Lnd X pins σ H s x D dct T H' s' T4 h5) : Inv X pins σ (upd H' x (.ext (XCt x D dct))) { s' with heap := h5 } :=
  landG (h2 := h5) L.I L.G L.k (fun b hb => L.hxs b (by simpa using hb)) L.fx
theorem ph_as (hst : X.stack = X.env :: X.outer ∧ X.env.frame = some X.env.locals) (gC : Gl X cn) (mC : X.mg cn = some (.ref C)) (cC : XHd X.K C) (hN : X.N.Nodup) (hi : X.N[ie]? = some en) (hl : X.env.kindOf en = some .local)
    (hs : ∀ x, PSs (X.inX x) (b₀ :: suite) ts) (hr : PH X rest tr) (hdb : (cn == ("__debug__" : Str)) = false := by decide) :
    PH X (.ExceptHandler (some (.Name cn cp)) (some en) (b₀ :: suite) hp :: rest) (fun D dct x DE σ H1 => (PySem.W.mroIn X.K D (.ref C) = some true ∧ ts (DE.asG ie) (σ.set ie (some (.ref x))) H1) ∨ (PySem.W.mroIn X.K D (.ref C) = some false ∧ tr D dct x DE σ H1)) := by
  intro pins σ H s x D dct T H' s' T4 h5 DE L q
  have J5 := L.J
  obtain ⟨o5, ho5, hc5⟩ : ∃ o, h5.get? x = some o ∧ o.cls = .ref D := let ⟨o, _, _, _, e, c, _⟩ := L.fx; ⟨o, e, c⟩
  refine wpAny_handleBy_cons (codeAny_handlers_test (ld_glob (X := X.inX x) (J5.inX x) gC mC ?_ hdb)) (by intro z; cases z)
  rcases q with ⟨hm, q⟩ | ⟨hm, q⟩
  · refine (x_matches J5.kIn cC ho5 hc5 hm).at ?_
    refine codeAny_handlers_suite_as ?_
    refine fx_flight (s := { s' with heap := h5 }) (fr := frs (X.env :: X.outer)) L.fx fun h6 x6 k6 => ?_
    have k46 : KeptBut ([T, x] ++ [T4] ++ [T4]) (frs X.stack) s'.heap h6 := by
      have := L.k
      rw [hst.1] at this ⊢
      exact this.trans k6
    have J6 := landG (h2 := h6) L.I L.G k46 (fun b hb => L.hxs b (by
      have : b = T ∨ b = x ∨ b = T4 ∨ b = T4 := by simpa using hb
      rcases this with z | z | z | z
      · exact .inl z
      · exact .inr (.inl z)
      · exact .inr (.inr z)
      · exact .inr (.inr z))) x6
    refine store_ok J6 hN hi (.inl hl) (v := .ref x) rfl (fun s7 I7 => ?_) (.inr hl)
    refine wpAny_mono (hs x pins s7 _ _ _ (I7.inX x) q) (fun fl s8 hf => ?_) (fun _ _ z => False.elim z)
    cases fl with
    | next =>
      obtain ⟨σ8, H8, I8, q8⟩ := hf
      have J8 : Inv X pins σ8 H8 s8 := I8.outX L.I.ok.hd
      obtain ⟨m, hn, hlk⟩ := id J8.loc
      refine wpAny_nameGoes_keeps hl hn (by rw [L.I.ok.kind]; rfl) fun h9 v hn9 sb => ?_
      exact ⟨_, H8, J8.gone hN hi hl hlk hn9 sb, q8⟩
    | ret u => obtain ⟨_, _, _, _, _, z⟩ := hf; exact False.elim z
    | brk => obtain ⟨_, _, _, z⟩ := hf; exact False.elim z
    | cont => obtain ⟨_, _, _, z⟩ := hf; exact False.elim z
  · refine (x_nomatch J5.kIn cC ho5 hc5 hm).at ?_
    exact hr pins σ H s x D dct T H' s' T4 h5 DE L q
end
/-- where an exception comes from, within a try's body -/
def HX (X : Cx) (pins : List (Addr × Obj)) (hr : Value → Option Addr → St → Hp → Prop) (e : Value) (s' : Shared) : Prop := ∃ σ H s, Inv X pins σ H s ∧ CXG X.prog X.w X.stack H s (fun c d H' => hr c d σ H') e s'
abbrev TB := (St → Hp → Prop) → VK → (Value → Option Addr → St → Hp → Prop) → St → Hp → Prop
def PB1 (X : Cx) (st : Stmt) (t : TB) : Prop :=
  ∀ (pins : List (Addr × Obj)) (s : Shared) (σ : St) (H : Hp) (nx : St → Hp → Prop) (rt : VK) (hr : Value → Option Addr → St → Hp → Prop), Inv X pins σ H s → t nx rt hr σ H → wpAny (model X.prog X.w) X.A (exec st X.env) (SP X pins { nx := nx, rt := rt }) (HX X pins hr) s
def PB (X : Cx) (sts : List Stmt) (t : TB) : Prop :=
  ∀ (pins : List (Addr × Obj)) (s : Shared) (σ : St) (H : Hp) (nx : St → Hp → Prop) (rt : VK) (hr : Value → Option Addr → St → Hp → Prop), Inv X pins σ H s → t nx rt hr σ H → wpAny (model X.prog X.w) X.A (execs sts X.env) (SP X pins { nx := nx, rt := rt }) (HX X pins hr) s
section
variable {X : Cx}
theorem pb_one {st : Stmt} {t : TB} (h1 : PB1 X st t) : PB X [st] t := by
  intro pins s σ H nx rt hr I h
  refine wpAny_execs_cons (thn (h1 pins s σ H nx rt hr I h) fun f s1 q => ?_)
  cases f with
  | next => exact wpAny_execs_nil q
  | ret v => exact q
  | brk => exact q
  | cont => exact q
theorem pb1_if {c : Expr} {a b : List Stmt} {tc : TT} {t u : TB} {pos : Pos} (hc : PT X.nox c tc) (ha : PB X a t) (hb : PB X b u) : PB1 X (.If c a b pos) (fun nx rt hr σ H => tc σ H fun d H1 => if d = true then t nx rt hr σ H1 else u nx rt hr σ H1) := by
  intro pins s σ H nx rt hr I h
  refine wpAny_If (wpAny_mono (hc pins s σ H _ (I.wish _) h) (fun d s1 ⟨H1, I1, q1⟩ => ?_) fun _ _ z => False.elim z)
  cases d with
  | true => exact ha pins s1 σ H1 nx rt hr I1.unwish q1
  | false => exact hb pins s1 σ H1 nx rt hr I1.unwish q1
/-- an expression that may raise: a call of a def, of a class, of a method -/
def PX (X : Cx) (e : Expr) (t : VK → XK → St → Hp → Prop) : Prop :=
  ∀ (pins : List (Addr × Obj)) (s : Shared) (σ : St) (H : Hp) (Q : VK) (E : XK), Inv X pins σ H s → t Q E σ H →
    wpAny (model X.prog X.w) X.A (eval e X.env) (EP X pins σ Q) (fun e s' => ∃ H1 s1, Inv X pins σ H1 s1 ∧ CXG X.prog X.w X.stack H1 s1 E e s') s
theorem pb1_expr {e : Expr} {t : VK → XK → St → Hp → Prop} {pos : Pos} (h : PX X e t) (hsw : swapsWith e none pos.line X.env = pure false := by rfl) : PB1 X (.Expr e pos) (fun nx _ hr σ H => t (fun _ H1 => nx σ H1) (fun c d H' => hr c d σ H') σ H) := by
  intro pins s σ H nx rt hr I q
  refine wpAny_Expr_any (wpAny_mono (h pins s σ H _ _ I q) (fun u s1 ⟨v, H1, I1, r, q1⟩ => ?_) fun e s' ⟨H1, s1, I1, c⟩ => ⟨σ, H1, s1, I1, c⟩) I.quiet hsw
  exact ⟨σ, H1, I1, q1⟩
end
section
variable {X : Cx} {k : Nat} {f C : Addr} {fd : FuncData} {ps : List Str} {sp : Sp} {dvs : List V} {ds : List Value} {x m : Str} {p pos apos : Pos} {e o : Expr} {es : List Expr} {ta : TE} {t : TA}
theorem run_px {pins : List (Addr × Obj)} {σ : St} {H : Hp} {s : Shared} {Q : VK} {E : XK} {us : List Value} {vs : List V} (F : FnOk X.prog X.w X.K X.mg X.base (CXG X.prog X.w) k f fd ps sp) (hr : Room k X.A) (hb : Binds X.K fd ps ds) (hd : Vals dvs ds)
    (I : Inv X pins σ H s) (r : Vals vs us) (h : sp (vs ++ dvs) H Q E) : wpAny (model X.prog X.w) X.A (call (.ref f) us) (EP X pins σ Q) (fun e s' => ∃ H1 s1, Inv X pins σ H1 s1 ∧ CXG X.prog X.w X.stack H1 s1 E e s') s := by
  have r2 : Vals (vs ++ dvs) (us ++ ds) := r.append hd
  have hl : (us ++ ds).length = ps.length := by rw [← r2.length]; exact F.len _ _ _ _ h
  refine wpAny_call (codeAny_mono (F.run X.A X.stack s H ⟨us, []⟩ (us ++ ds) (vs ++ dvs) Q E hr I.env0 (hb s us I.kIn hl) r2 h) fun r s' hq => ?_)
  cases r with
  | error e => exact ⟨H, s, I, hq⟩
  | ok fl =>
    cases fl with
    | ret u => exact I.after hq
    | next => exact False.elim hq
    | brk => exact False.elim hq
    | cont => exact False.elim hq
theorem px_meth {pl : Sem Bool} (he : PE X.nox o ta) (c : Cls X.K C) (hm : Meth X.K C m f) (F : FnOk X.prog X.w X.K X.mg X.base (CXG X.prog X.w) k f fd ps sp) (hr : Room k X.A) (hb : Binds X.K fd ps ds) (hd : Vals dvs ds) (ha : PA X.nox (e :: es) t)
    (hst : starEach (e :: es) X.env = (false, eval e X.env) :: starEach es X.env := by rfl) (hpl : (backTo pos (starEach es X.env)).any (·.1) = false := by rfl)
    (ht : eval (.Call (.Attribute o m apos) (e :: es) [] pos) X.env = (do
      let ov ← eval o X.env
      standAt apos.atName
      let (f, first) ← holding [ov] (getMethod ov m pl)
      callWith pos f first (backTo pos (starEach (e :: es) X.env)) (backToKw pos (keywordEach [] X.env))) := by rfl) :
    PX X (.Call (.Attribute o m apos) (e :: es) [] pos) (fun Q E σ H => ta σ H fun x H1 => ∃ a dx fs, x = .ref a ∧ H1 a = some (.ins C dx fs) ∧ fs.lookup m = none ∧ t σ H1 fun vs H2 => sp (x :: (vs ++ dvs)) H2 Q E) := by
  intro pins s σ H Q E I h
  refine PySem.W.methodCall_KW (pl := pl) (wpAny_mono (he pins s σ H _ (I.wish _) h) (fun u s1 ⟨x, H1, I1, rx, a, dx, fs, ex, ea, l, q⟩ => ?_) fun _ _ z => False.elim z) ht
  subst ex
  obtain rfl : u = Value.ref a := rx
  have I1 := I1.unwish
  refine getmeth_ok I1 ea c hm l ?_
  refine PySem.W.callWith_K (first := [.ref a]) (h₀ := X.base) I.ok.mod.kin hm.kp (wpAny_mono (ha pos pins s1 σ H1 _ (I1.wish _) q) (fun us s2 ⟨vs, H2, I2, r, q2⟩ => ⟨I2.unwish.kIn, ?_⟩) fun _ _ z => False.elim z) hst hpl
  exact run_px (us := .ref a :: us) (vs := .ref a :: vs) F hr hb hd I2.unwish (.cons rfl r) q2
theorem run_pxmk {pins : List (Addr × Obj)} {σ : St} {H : Hp} {s : Shared} {Q : VK} {E : XK} {us : List Value} {vs : List V} (M : Mk X.K C f) (F : FnOk X.prog X.w X.K X.mg X.base (CXG X.prog X.w) k f fd ps sp) (hr : Room (k + 1) X.A) (hb : Binds X.K fd ps ds) (hd : Vals dvs ds)
    (I : Inv X pins σ H s) (r : Vals vs us)
    (h : ∀ x dx, H x = none → H dx = none → dx ≠ x → sp (.ref x :: (vs ++ dvs)) (upd (upd H dx (.own x)) x (.ins C dx [])) (fun v H2 => v = .non ∧ Q (.ref x) H2) E) :
    wpAny (model X.prog X.w) X.A (call (.ref C) us) (EP X pins σ Q) (fun e s' => ∃ H1 s1, Inv X pins σ H1 s1 ∧ CXG X.prog X.w X.stack H1 s1 E e s') s := by
  have hq := h (s.heap.objs.size + 1) s.heap.objs.size (I.hok.fresh (Nat.le_succ _)) (I.hok.fresh (Nat.le_refl _)) (Nat.ne_of_lt (Nat.lt_succ_self _))
  have I2 := Inv.made (C := C) I
  have r2 : Vals (V.ref (s.heap.objs.size + 1) :: (vs ++ dvs)) (Value.ref (s.heap.objs.size + 1) :: (us ++ ds)) := .cons rfl (r.append hd)
  have hl : (Value.ref (s.heap.objs.size + 1) :: us ++ ds).length = ps.length := by
    have e := r2.length
    rw [F.len _ _ _ _ hq] at e
    exact e.symm
  refine wpAny_call (make_map (f := f) I.kIn M.makes M.init (beq_iff_eq.mp M.fn) (codeAny_mono (F.run _ X.stack _ _ ⟨Value.ref (s.heap.objs.size + 1) :: us, []⟩ (Value.ref (s.heap.objs.size + 1) :: (us ++ ds)) _ _ E (hr.make C us [])
    (I2.env0.make C us []) (hb _ (Value.ref (s.heap.objs.size + 1) :: us) I2.kIn hl) r2 hq) fun r s' hq' => ?_))
  cases r with
  | error e => exact ⟨_, _, I2, hq'⟩
  | ok fl =>
    cases fl with
    | ret u =>
      obtain ⟨v, H', I3, rv, ev, q3⟩ := I2.after hq'
      subst ev
      exact ⟨rv, ⟨V.ref (s.heap.objs.size + 1), H', I3, rfl, q3⟩⟩
    | next => exact False.elim hq'
    | brk => exact False.elim hq'
    | cont => exact False.elim hq'
theorem px_make (M : Mk X.K C f) (F : FnOk X.prog X.w X.K X.mg X.base (CXG X.prog X.w) k f fd ps sp) (hr : Room (k + 1) X.A) (hg : Gl X x) (hm : X.mg x = some (.ref C)) (hb : Binds X.K fd ps ds) (hd : Vals dvs ds)
    (ha : PA X.nox (e :: es) t) (hdb : (x == ("__debug__" : Str)) = false := by decide) (he : starEach (e :: es) X.env = (false, eval e X.env) :: starEach es X.env := by rfl) (hpl : (backTo pos (starEach es X.env)).any (·.1) = false := by rfl) :
    PX X (.Call (.Name x p) (e :: es) [] pos) (fun Q E σ H => t σ H fun vs H1 => ∀ x dx, H1 x = none → H1 dx = none → dx ≠ x → sp (.ref x :: (vs ++ dvs)) (upd (upd H1 dx (.own x)) x (.ins C dx [])) (fun v H2 => v = .non ∧ Q (.ref x) H2) E) := by
  intro pins s σ H Q E I h
  refine wpAny_Call_Name_kw (ld_glob I hg hm ?_ hdb)
  refine PySem.W.callWith_K (h₀ := X.base) I.ok.mod.kin M.kp (wpAny_mono (ha pos pins s σ H _ (I.wish _) h) (fun us s1 ⟨vs, H1, I1, r, q⟩ => ⟨I1.unwish.kIn, ?_⟩) fun _ _ z => False.elim z) he hpl
  exact run_pxmk M F hr hb hd I1.unwish r q
theorem PX.or {t t' : VK → XK → St → Hp → Prop} {ex : Expr} (h : PX X ex t) (h' : PX X ex t') : PX X ex (fun Q E σ H => t Q E σ H ∨ t' Q E σ H) := fun pins s σ H Q E I q => q.elim (h pins s σ H Q E I) (h' pins s σ H Q E I)
/-- try .. except .. -/
theorem ps_tryN {body : List Stmt} {h₀ : ExceptHandler} {hs : List ExceptHandler} {tb : TB} {th : TH} {tp : Pos} (hst : X.stack = X.env :: X.outer ∧ X.env.frame = some X.env.locals) (hb : PB X body tb) (hh : PH X (h₀ :: hs) th) :
    PS X (.Try body (h₀ :: hs) [] [] tp) (fun DE σ H => tb DE.nx DE.rt (fun c dct σ' H' => ∃ D, c = .ref D ∧ ∀ x, H' x = none → th D dct x DE σ' (upd H' x (.ext (XCt x D dct)))) σ H) := by
  intro pins s σ H DE I h
  refine wpAny_Try_except ?_
  refine wpAny_mono (hb pins s σ H DE.nx DE.rt _ I h) (fun f s1 q => ?_) fun e s' z => ?_
  · cases f with
    | next => exact wpAny_execs_nil q
    | ret u => exact q
    | brk => obtain ⟨_, _, _, z⟩ := q; exact False.elim z
    | cont => obtain ⟨_, _, _, z⟩ := q; exact False.elim z
  · obtain ⟨σ1, H1, s1, I1, x, D, dct, T, H', rfl, G, D', eD, hq⟩ := z
    cases eD
    have J : Inv X pins σ1 H' s' := I1.call' (ch := []) G.os G.un G.hok G.bare (by simp)
    have st : s'.heap.FunFrames X.base (X.env :: X.outer) := hst.1 ▸ J.stack
    refine fx_next (by rw [I1.ok.frames, hst.1]) st hst.2 G.fx fun h4 T4 x4 n4 k4 => ?_
    refine fx_flight (s := { s' with heap := h4 }) (fr := frs (X.env :: X.outer)) x4 fun h5 x5 k5 => ?_
    have k45 : KeptBut ([T, x] ++ [T4]) (frs X.stack) s'.heap h5 := by rw [hst.1]; exact k4.trans k5
    have so : ∀ b, s1.heap.get? b = none → b ∉ frs X.stack := fun b n z => by
      obtain ⟨_, o, e, _⟩ := I1.stack.mem z
      rw [n] at e
      cases e
    have h4s : s1.heap.get? T4 = none := gone_of_there G.un n4
    have u4 : H' T4 = none := by
      cases z : H' T4 with
      | none => rfl
      | some u =>
        obtain ⟨o, e⟩ := (J.hok T4 u z).isObj
        rw [n4] at e
        cases e
    refine hh pins σ1 H1 s1 x D dct T H' s' T4 h5 DE ⟨I1, G, k45, fun b hb => ?_, x5⟩ (hq x G.ux)
    rcases hb with rfl | rfl | rfl
    · exact ⟨G.nT, G.uT, so _ G.nT⟩
    · exact ⟨G.nx, G.ux, so _ G.nx⟩
    · exact ⟨h4s, u4, so _ h4s⟩
end
end L2

set_option Elab.async false
set_option linter.all false
set_option maxRecDepth 100000
set_option maxHeartbeats 4000000
namespace L2
open PySem PySem.Spec PyProof.Rows
/-! ### judgments kept whole, for rows of rows (unfolding them is slow) -/
section
variable {X : Cx}
@[irreducible] def PEq (X : Cx) (e : Expr) (t : TE) : Prop := PE X e t
@[irreducible] def PSt (X : Cx) (st : Stmt) (t : TS) : Prop := PS X st t
theorem peq_of {e : Expr} {t : TE} (h : PE X e t) : PEq X e t := by unfold PEq; exact h
end
end L2

set_option Elab.async false
set_option linter.all false
set_option maxRecDepth 100000
set_option maxHeartbeats 4000000
namespace L2
open PySem PySem.Spec PyProof.Rows
/-! ### lambdas: a function object, its cells, its code, the table of the code that it stands in -/
structure LamD where
  qual : Str
  params : Arguments
  body : Expr
  scope : Scope
def CellX (c : Addr) (v : V) : Heap → Prop := fun h => ∃ o u, h.get? c = some o ∧ o.data = .cell (some u) ∧ RelV v u
def CodeX (c : Addr) (q : Str) : Heap → Prop := fun h => ∃ o vs t, h.get? c = some o ∧ o.data = .fields vs ∧ vs[1]? = some (.str q t)
section
variable {P : Program} {w : World} {H : Hp} {h : Heap}
end
/-! ### kept, but that tables grow -/
def notT : HO → Bool
  | .tbl _ => false
  | _ => true
def SameT (H H' : Hp) : Prop := ∀ b o, H b = some o → (notT o = true → H' b = some o) ∧ ∃ o', H' b = some o'
theorem SameT.refl {H : Hp} : SameT H H := fun b o e => ⟨fun _ => e, o, e⟩
theorem SameT.trans {H H1 H2 : Hp} (a : SameT H H1) (b : SameT H1 H2) : SameT H H2 := fun c o e => by
  obtain ⟨f, o', e'⟩ := a c o e
  obtain ⟨g, o2, e2⟩ := b c o' e'
  exact ⟨fun n => (b c o (f n)).1 n, o2, e2⟩
theorem Same.t {H H' : Hp} (s : Same H H') : SameT H H' := fun b o e => ⟨fun _ => s b o e, o, s b o e⟩
theorem SameT.at {H H' : Hp} (s : SameT H H') {a : Addr} {o : HO} (e : H a = some o) (n : notT o = true := by rfl) : H' a = some o := (s a o e).1 n
theorem SameT.free {H H' : Hp} (s : SameT H H') {a : Addr} (e : H' a = none) : H a = none := by
  cases q : H a with
  | none => rfl
  | some o => obtain ⟨_, o', e'⟩ := s a o q; rw [e] at e'; cases e'
theorem SameT.put {H H' : Hp} (s : SameT H H') {a : Addr} {o : HO} (e : H a = none) : SameT H (upd H' a o) := fun b u q => by
  have n : b ≠ a := fun z => by rw [z, e] at q; cases q
  rw [upd_ne n]
  exact s b u q
/-- a table of codes, in which the lambdas ls of its code may stand -/
def TabOk (H : Hp) (P : Addr) (ls : List (Pos × Str)) : Prop := ∃ ps, H P = some (.tbl ps) ∧ TriplesOk ps.toList ∧ ∀ l ∈ ls, codeAmong l.1 ps.toList = none ∨ ∃ c, codeAmong l.1 ps.toList = some (.ref c) ∧ H c = some (.ext (CodeX c l.2))
abbrev Tabs := List (Addr × List (Pos × Str))
def TabsOk (tabs : Tabs) (H : Hp) : Prop := ∀ q ∈ tabs, TabOk H q.1 q.2
theorem TabsOk.same {tabs : Tabs} {H H' : Hp} (t : TabsOk tabs H) (s : Same H H') : TabsOk tabs H' := fun q hq => by
  obtain ⟨ps, e1, e2, e3⟩ := t q hq
  exact ⟨ps, s _ _ e1, e2, fun l hl => (e3 l hl).imp id fun ⟨c, a, b⟩ => ⟨c, a, s _ _ b⟩⟩
theorem TabsOk.put {tabs : Tabs} {H : Hp} {r : Addr} {o : HO} (t : TabsOk tabs H) (h1 : ∀ ps, H r ≠ some (.tbl ps)) (h2 : ∀ φ, H r ≠ some (.ext φ)) : TabsOk tabs (upd H r o) := fun q hq => by
  obtain ⟨ps, e1, e2, e3⟩ := t q hq
  refine ⟨ps, ?_, e2, fun l hl => (e3 l hl).imp id fun ⟨c, a, b⟩ => ⟨c, a, ?_⟩⟩
  · rw [upd_ne fun z => h1 ps (by rw [← z]; exact e1)]; exact e1
  · rw [upd_ne fun z => h2 _ (by rw [← z]; exact b)]; exact b
/-- the module of the built-ins, at its place -/
def Bm (mg : Str → Option Value) (base : Heap) : Prop := ∃ bm ob, mg "__builtins__" = some (.ref bm) ∧ base.get? bm = some ob ∧ ob.cls = .type "module" ∧ ob.dict = some builtinsNs ∧ ob.data = .plain
end L2

set_option Elab.async false
set_option linter.all false
set_option maxRecDepth 100000
set_option maxHeartbeats 4000000
namespace L2
open PySem PySem.Spec PyProof.Rows
section
variable {X : Cx} {tabs : Tabs} {P c : Addr} {ls : List (Pos × Str)} {d : LamD} {clos : List (Str × Addr)} {pos : Pos}
end
end L2

set_option Elab.async false
set_option linter.all false
set_option maxRecDepth 100000
set_option maxHeartbeats 4000000
namespace L2
open PySem PySem.Spec PyProof.Rows
/-! ### a lambda called -/
abbrev CellsAt (H : Hp) : List (Str × Addr) → List V → Prop := Paired fun (p : Str × Addr) (v : V) => H p.2 = some (.ext (CellX p.2 v))
theorem CellsAt.mem {H : Hp} : ∀ {clos : List (Str × Addr)} {vals : List V}, CellsAt H clos vals → ∀ p ∈ clos, ∃ v, H p.2 = some (.ext (CellX p.2 v))
  | _, _, .nil, p, h => by cases h
  | _, _, .cons r t, p, h => by
    rcases List.mem_cons.mp h with rfl | h
    · exact ⟨_, r⟩
    · exact CellsAt.mem t p h
theorem CellsAt.get {H : Hp} : ∀ {clos : List (Str × Addr)} {vals : List V} {i : Nat} {v : V}, CellsAt H clos vals → vals[i]? = some v → ∃ p, clos[i]? = some p ∧ H p.2 = some (.ext (CellX p.2 v))
  | _, _, _, _, .nil, h => by cases h
  | _, _, 0, _, .cons r t, h => by cases h; exact ⟨_, rfl, r⟩
  | _, _, i + 1, _, .cons r t, h => CellsAt.get (i := i) t h
theorem CellsAt.at {H : Hp} {clos : List (Str × Addr)} {vals : List V} (ca : CellsAt H clos vals) {b : Addr} (hb : b ∈ clos.map (·.2)) : ∃ v, H b = some (.ext (CellX b v)) := by
  obtain ⟨p, hp, rfl⟩ := List.mem_map.mp hb
  exact ca.mem p hp
structure LamScope (d : LamD) (fv ps : List Str) : Prop where
  kind : d.scope.kind = .function
  co : d.scope.isCoroutine = false
  gen : d.scope.isGenerator = false
  nocell : ∀ x ∈ d.scope.names, x.2 ≠ .cell
  par : ∀ x ∈ ps, d.scope.names.lookup x = some .local
  free : ∀ x ∈ d.scope.names, x.2 = .free → x.1 ∈ fv
  fr : ∀ x ∈ fv, d.scope.names.lookup x = some .free
  nd : (ps ++ fv).Nodup
end L2

set_option Elab.async false
set_option linter.all false
set_option maxRecDepth 100000
set_option maxHeartbeats 4000000
namespace L2
open PySem PySem.Spec PyProof.Rows
section
variable {P : Program} {w : World} {K : PySem.W.Frag} {mg : Str → Option Value} {base : Heap}
end
/-- two readings of one expression -/
theorem PE.or {X : Cx} {e : Expr} {t t' : TE} (h : PE X e t) (h' : PE X e t') : PE X e (fun σ H Q => t σ H Q ∨ t' σ H Q) := fun pins s σ H Q I q => q.elim (h pins s σ H Q I) (h' pins s σ H Q I)
section
variable {X : Cx} {d : LamD} {fv ps : List Str} {k : Nat} {sp : List V → Sp} {x : Str} {p pos : Pos} {tf : TE} {t : TA} {e : Expr} {es : List Expr}
end
end L2

set_option Elab.async false
set_option linter.all false
set_option maxRecDepth 100000
set_option maxHeartbeats 4000000
namespace L2
open PySem PySem.Spec PyProof.Rows
/-! ### a def whose last statement tells a value, and whose cells live on -/
abbrev TR := VK → (V → St → Hp → Prop) → St → Hp → Prop
section
variable {X : Cx} {e : Expr} {te : TE} {pos : Pos} {st : Stmt} {rest : List Stmt} {t : TS} {u : TR}
end
section
variable {P : Program} {w : World} {K : PySem.W.Frag} {mg : Str → Option Value} {base : Heap}
end
end L2

set_option Elab.async false
set_option linter.all false
set_option maxRecDepth 100000
set_option maxHeartbeats 4000000
namespace L2
open PySem PySem.Spec PyProof.Rows
/-- THE HEAD of a law that comes to lambdas: the tables at ts are empty and tracked -/
theorem law_callT {P : Program} {w : World} {K : PySem.W.Frag} {mg mb : Str → Option Value} {CX : CXT} {k : Nat} {fa a : Addr} {fd : FuncData} {x : Str} {sp : Sp} {s₁ : Shared} {vs : List Value} {ns : List Int} {ts : List Addr}
    (KX : K.In s₁.heap) (hns : s₁.heap.Ns mainGlobals mg) (hb : s₁.heap.Ns builtinsNs mb) (hbb : ∀ x : Str, x ≠ "__name__" → mb x = bootBuiltins x) (hlim : s₁.heap.NoLimit) (hg : s₁.gens = #[])
    (ha : s₁.heap.get? a = some { cls := .type "list", data := .seq vs.toArray }) (hi : IntsAre vs ns) (hl : ns.length ≤ sizeLine) (hr : Room k callerA) (hbm : Bm mg s₁.heap)
    (htab : ∀ P ∈ ts, s₁.heap.get? P = some (PySem.W.tabObj #[])) (htc : ∀ P ∈ ts, ∃ c, PySem.W.codeHdIn K c P = true) (htK : ∀ P ∈ ts, K.lookup P = none)
    (F : ∀ base : Heap, K.In base → base.Ns mainGlobals mg → Bm mg base → FnOk P w K mg base CX k fa fd [x] sp) (hbind : ∀ (s : Shared) (u : Value), BindsTo s fd ⟨[u], []⟩ [(x, u)])
    (hsp : ∀ H : Hp, (∀ P ∈ ts, H P = some (.tbl #[])) → SqL K H a (ns.map V.int) → sp [.ref a] H (fun v _ => v = .bl true) fun _ _ _ => False)
    (hCX : ∀ H e s', CX [] H s₁ (fun _ _ _ => False) e s' → False) :
    codeAny (model P w) callerA (.call (.ref fa) ⟨[.ref a], []⟩) (fun r s' => r = .ok (.ret (.bool true)) ∧ OldK s₁.heap s'.heap ∧ s'.os = s₁.os ∧ AllBare s'.gens) s₁ := by
  have rv := vals_ints hi
  have lenV := hi.length
  have nat : a ∉ ts := fun z => by have := htab a z; rw [ha] at this; cases this
  have core : ∀ H : Hp, (∀ P ∈ ts, H P = some (.tbl #[])) → SqL K H a (ns.map V.int) → HOk P w H s₁.heap → (∀ b u, H b = some u → (b = a ∧ ∃ o xs, u = .frz o (.lst xs)) ∨ (b ∈ ts ∧ u = .tbl #[])) → (H a ≠ none → K.lookup a = none) →
      codeAny (model P w) callerA (.call (.ref fa) ⟨[.ref a], []⟩) (fun r s' => r = .ok (.ret (.bool true)) ∧ OldK s₁.heap s'.heap ∧ s'.os = s₁.os ∧ AllBare s'.gens) s₁ := by
    intro H hT hS hok hA hK
    have base_of : ∀ {b : Addr} {o : Obj}, s₁.heap.get? b = some o → H b = none → (hidT s₁.heap H).get? b = some o := fun e n => hidT_get e n
    have noA : ∀ {b : Addr} {o : Obj}, s₁.heap.get? b = some o → o.cls ≠ .none → (∀ its n, o.data ≠ .seq its n) → H b = none := fun {b o} e d1 d2 => by
      cases q : H b with
      | none => rfl
      | some u =>
        rcases hA b u q with ⟨rfl, _⟩ | ⟨hb, _⟩
        · rw [ha] at e; cases e; exact (d2 _ _ rfl).elim
        · rw [htab b hb] at e; cases e; exact (d1 rfl).elim
    have noD : ∀ {b : Addr} {o : Obj} {es : Array DictEntry} {ep : Nat}, s₁.heap.get? b = some o → o.data = .dict es ep → H b = none := fun {b o es ep} e d => by
      cases q : H b with
      | none => rfl
      | some u =>
        rcases hA b u q with ⟨rfl, _⟩ | ⟨hb, _⟩
        · rw [ha] at e; cases e
          have d' : Data.seq vs.toArray _ = Data.dict es ep := d
          cases d'
        · rw [htab b hb] at e; cases e; cases d
    have nsK : ∀ {b : Addr} {m : Str → Option Value}, s₁.heap.Ns b m → (hidT s₁.heap H).Ns b m := fun {b m} ⟨o, es, ep, e, d, r⟩ => ⟨o, es, ep, base_of e (noD e d), d, r⟩
    have hKb : K.In (hidT s₁.heap H) := fun b o e => base_of (KX b o e) (by
      cases q : H b with
      | none => rfl
      | some u =>
        rcases hA b u q with ⟨rfl, _⟩ | ⟨hb, _⟩
        · rw [hK (by rw [q]; simp)] at e; cases e
        · rw [htK b hb] at e; cases e)
    have hM : Mod K mg (hidT s₁.heap H) := ⟨hKb, nsK hns, ⟨mb, nsK hb, hbb⟩, let ⟨mc, h1, h2⟩ := hlim; ⟨mc, nsK h1, h2⟩⟩
    have hB : Bm mg (hidT s₁.heap H) := by
      obtain ⟨bm, ob, b1, b2, b3, b4, b5⟩ := hbm
      exact ⟨bm, ob, b1, base_of b2 (noA b2 (by rw [b3]; simp) (fun its n => by rw [b5]; intro z; cases z)), b3, b4, b5⟩
    have e0 : Env0 P w K mg (hidT s₁.heap H) callerA [] s₁ H := ⟨rfl, hM, fun b o e => of_hidT e, Nat.le_of_eq (hidT_size _ _), trivial, fun b hb => absurd (show b ∈ ([] : List Addr) from hb) (by simp), hok, .of_eq hg⟩
    refine codeAny_mono ((F _ hKb (nsK hns) hB).run callerA [] s₁ H ⟨[.ref a], []⟩ [.ref a] [.ref a] _ _ hr e0 (hbind s₁ (.ref a)) (.cons rfl .nil) (hsp H hT hS)) fun r s' h => ?_
    cases r with
    | error e => exact (hCX H e s' h).elim
    | ok fl =>
      cases fl with
      | next => exact False.elim h
      | brk => exact False.elim h
      | cont => exact False.elim h
      | ret u =>
        obtain ⟨v, H', os, bare, un, hok', r', q⟩ := h
        have q' : v = .bl true := q
        subst q'
        obtain rfl : u = Value.bool true := r'
        refine ⟨rfl, ⟨fun b o e => ?_, fun b o e => un.there b o e (by simp)⟩, os, bare⟩
        cases q : H b with
        | none => exact .inl (un.keep b o e q (by intro z; exact absurd (show b ∈ ([] : List Addr) from z) (by simp)) (by simp))
        | some u =>
          rcases hA b u q with ⟨_, ob, xs, rfl⟩ | ⟨hb, rfl⟩
          · have z2 := un.frzs b ob _ q
            obtain ⟨e1, _⟩ := hok b _ q
            obtain ⟨e2, _⟩ := hok' b _ z2
            rw [e] at e1; cases e1
            exact .inl e2
          · obtain ⟨c, hc⟩ := htc b hb
            have C := PySem.W.codeHd_of_K KX hc
            obtain ⟨more, z⟩ := un.tbls b _ q
            have z2 : s'.heap.get? b = some (PySem.W.tabObj (#[] ++ more)) := hok' b _ z
            rw [htab b hb] at e
            cases e
            exact .inr (.inl ⟨(C.tab (htab b hb)).isCodeTable, rfl, #[], more, rfl, z2⟩)
  let T : Hp := fun b => if b ∈ ts then some (.tbl #[]) else none
  cases hk : K.lookup a with
  | some o =>
    have e := KX a o hk
    rw [ha] at e
    cases e
    refine core T (fun P hP => if_pos hP) (.inr ⟨_, vs.toArray, _, hk, rfl, rfl, rfl, by rw [List.size_toArray, lenV]; exact hl, by simpa using rv⟩) (fun b u z => ?_) (fun b u z => ?_) fun z => absurd (if_neg nat) z
    · by_cases hb : b ∈ ts
      · have z' := (if_pos hb).symm.trans z
        cases z'
        exact htab b hb
      · have z' := (if_neg hb).symm.trans z
        cases z'
    · by_cases hb : b ∈ ts
      · have z' := (if_pos hb).symm.trans z
        cases z'
        exact .inr ⟨hb, rfl⟩
      · have z' := (if_neg hb).symm.trans z
        cases z'
  | none =>
    refine core (fun b => if b = a then some (.frz { cls := .type "list", data := .seq vs.toArray } (.lst (ns.map V.int))) else T b) (fun P hP => ?_) (.inl (.inr ⟨{ cls := .type "list", data := .seq vs.toArray }, if_pos rfl⟩)) (fun b u z => ?_) (fun b u z => ?_) fun _ => hk
    · have hne : P ≠ a := fun z => nat (by rw [← z]; exact hP)
      exact (if_neg hne).trans (if_pos hP)
    · by_cases hb : b = a
      · have z' := (if_pos hb).symm.trans z
        cases z'
        subst hb
        exact ⟨ha, by rw [List.length_map]; exact hl, vs, _, rv, ha⟩
      · have z' := (if_neg hb).symm.trans z
        by_cases hb : b ∈ ts
        · have z' := (if_pos hb).symm.trans z'
          cases z'
          exact htab b hb
        · have z' := (if_neg hb).symm.trans z'
          cases z'
    · by_cases hb : b = a
      · have z' := (if_pos hb).symm.trans z
        cases z'
        exact .inl ⟨hb, _, _, rfl⟩
      · have z' := (if_neg hb).symm.trans z
        by_cases hb : b ∈ ts
        · have z' := (if_pos hb).symm.trans z'
          cases z'
          exact .inr ⟨hb, rfl⟩
        · have z' := (if_neg hb).symm.trans z'
          cases z'
end L2

set_option Elab.async false
set_option linter.all false
set_option maxRecDepth 100000
set_option maxHeartbeats 4000000
namespace L2
open PySem PySem.Spec PyProof.Rows
/-! ### a lambda's place in the text -/
/-! ### sorted ints -/
end L2

set_option Elab.async false
set_option linter.all false
namespace L2
open PySem PySem.Spec PyProof.Rows
section
variable {X : Cx} {e : Expr} {es : List Expr} {pos : Pos}
end
end L2

set_option Elab.async false
set_option linter.all false
set_option maxRecDepth 100000
namespace L2
open PySem PySem.Spec PyProof.Rows
/-! ### (a, b, ..) = a list of that length -/
section
variable {X : Cx} {pos : Pos}
end
end L2

set_option Elab.async false
set_option linter.all false
set_option maxRecDepth 100000
namespace L2
open PySem PySem.Spec PyProof.Rows
section
variable {X : Cx}
/-! ### o[i] op= e over a list -/
/-! ### lists of the same objects -/
end
end L2

set_option Elab.async false
set_option linter.all false
set_option maxRecDepth 100000
namespace L2
open PySem PySem.Spec PyProof.Rows
section
variable {X : Cx} {k : Nat} {f : Addr} {fd : FuncData} {ps : List Str} {sp : Sp} {x : Str} {p pos : Pos} {e : Expr} {es : List Expr} {t : TA} {tf : TE} {ds : List Value} {dvs : List V} {CX : CXT} {E : XK}
/-! ### a def handed in, and called by its name here -/
end
end L2

set_option Elab.async false
set_option linter.all false
set_option maxRecDepth 100000
set_option maxHeartbeats 4000000
namespace L2
open PySem PySem.Spec PyProof.Rows
section
variable {X : Cx} {a b c d : Expr} {ta tb tc td : TE} {pos : Pos}
/-! ### a chain of three comparisons -/
def mChain3 (r r' r2 : R2) (ta tb tc td : TE) : TE := fun σ H Q => ta σ H fun x H1 => tb σ H1 fun y H2 => r x y H2 (mB fun k H3 => if k = true then tc σ H3 fun z H4 => r' y z H4 (mB fun k2 H5 => if k2 = true then td σ H5 fun w' H6 => r2 z w' H6 Q else Q (.bl false) H5) else Q (.bl false) H3)
theorem m_chain3 {op op' op2 : CmpOp} {r r' r2 : R2} (ho : OpR X (compareOp op) r) (ho' : OpR X (compareOp op') r') (ho2 : OpR X (compareOp op2) r2) (ha : PE X a ta) (hb : PE X b tb) (hc : PE X c tc) (hd : PE X d td)
    (hm : lastMarks [op, op', op2] [b, c, d] = false := by with_unfolding_all rfl) : PE X (.Compare a [op, op', op2] [b, c, d] pos) (mChain3 r r' r2 ta tb tc td) := by
  intro pins s σ H Q I h
  refine Compare_chain (thn (ha pins s σ H _ I h) fun v s1 ⟨x, H1, I1, r1, q1⟩ => chain_link (thn (hb pins s1 σ H1 _ I1 q1) fun u s2 ⟨y, H2, I2, r2, q2⟩ =>
    thn (ho pins s2 σ H2 x y v u _ I2 r1 r2 q2) fun d s3 ⟨z, H3, I3, r3, q3⟩ => ?_)) hm
  obtain ⟨k, rfl, q3⟩ := mB_iff q3
  cases r3
  refine wpAny_truthy_bool ?_
  cases k with
  | false => exact ite_ff ⟨.bl false, H3, I3, rfl, q3⟩
  | true =>
    refine ite_tt (chain_link (thn (hc pins s3 σ H3 _ I3 q3) fun w' s4 ⟨z', H4, I4, r4, q4⟩ => thn (ho' pins s4 σ H4 y z' u w' _ I4 r2 r4 q4) fun d' s5 ⟨z2, H5, I5, r5, q5⟩ => ?_))
    obtain ⟨k2, rfl, q5⟩ := mB_iff q5
    cases r5
    refine wpAny_truthy_bool ?_
    cases k2 with
    | false => exact ite_ff ⟨.bl false, H5, I5, rfl, q5⟩
    | true => exact ite_tt (chain_last (thn (hd pins s5 σ H5 _ I5 q5) fun w2 s6 ⟨z3, H6, I6, r6, q6⟩ => ho2 pins s6 σ H6 z' z3 w' w2 Q I6 r4 r6 q6))
end
section
variable {X : Cx} {o e : Expr} {es : List Expr} {to : TE} {t : TA} {apos cpos : Pos}
theorem pe_m.extend (ho : PE X o to) (ha : PA X (e :: es) t) (hbase : attributeBase o "extend" X.env (eval o X.env) = eval o X.env := by rfl)
    (hfew : ((backTo cpos (starEach (e :: es) X.env)).all (fun x => !x.1) && (backToKw cpos (keywordEach [] X.env)).all (fun x => x.1.isSome) && decide ((e :: es).length + ([] : List Keyword).length + (if ([] : List Keyword).isEmpty then 0 else 1) < 30)) = true := by rfl)
    (hline : (apos.endLine == cpos.line) = true := by rfl) (hs : starEach (e :: es) X.env = (false, eval e X.env) :: starEach es X.env := by rfl) (hplain : (backTo cpos (starEach es X.env)).any (·.1) = false := by rfl) :
    PE X (.Call (.Attribute o "extend" apos) (e :: es) [] cpos) (tBM X.K "list" rExtend to t) := pe_bm F.plainAttrs_list F.slot_list_extend F.type_list_extend mt_extend ho ha hbase hfew hline hs hplain
end
theorem call_isxTK {X : Cx} {K : PySem.W.Frag} (h : X.K = K) : CallR X (.builtin "isinstance") (rIsXT K) := h ▸ call_isxT
end L2

set_option Elab.async false
set_option linter.all false
set_option maxRecDepth 100000
set_option maxHeartbeats 4000000
namespace L2
open PySem PySem.Spec PyProof.Rows
/-! ### enumerate over a tuple -/
section
variable {prog : Program} {w : World} {A : Around} {E : Value → Shared → Prop} {s : Shared}
theorem nxt_tup {it tp : Addr} {j : Nat} {zs : Array Value} {y : Value} {Q : Value → Shared → Prop} (st : s.heap.IsTupleIter it tp j) (hz : s.heap.IsTuple tp zs) (hy : zs[j]? = some y)
    (q : ∀ g, g.IsTupleIter it tp (j + 1) → Heap.SameBut it s.heap g → Q y { s with heap := g }) : wpAny (model prog w) A (Builtin.SmallTypes.nextOf (.ref it)) Q E s := by
  obtain ⟨u, hu, uc, ud⟩ := id st
  obtain ⟨v, hv, _, vn, vd⟩ := hz
  unfold Builtin.SmallTypes.nextOf
  refine wpAny_bind (wpAny_callSpecial?_slot (name := Str.ofString "__next__") st.typeIs F.slot_tuple_iterator_next (wpAny_call_entry F.slot_tuple_iterator_next st.typeIs F.entry_tuple_iterator_next ?_ (F.args_tuple_iterator_next_1 _)))
  show wpAny _ _ (field (Value.ref it) 0 >>= _) _ _ s
  refine wpAny_bind (wpAny_field hu ud (x := .ref tp) rfl ?_)
  show wpAny _ _ (if (Value.ref tp == Value.none) = true then _ else _) _ _ s
  rw [if_neg (show ¬ ((Value.ref tp == Value.none) = true) from Bool.false_ne_true)]
  show wpAny _ _ (field (Value.ref it) 1 >>= _) _ _ s
  refine wpAny_bind (wpAny_field hu ud (x := .int j 0) rfl ?_)
  show wpAny _ _ (seqItems? (.ref tp) >>= _) _ _ s
  refine wpAny_bind (wpAny_seqItems hv vd ?_)
  simp only [Int.toNat_natCast, hy]
  refine wpAny_bind (wpAny_setField hu ud (by simp) (wpAny_pure ⟨y, rfl, wpAny_pure (q _ ?_ (Heap.SameBut.update ..))⟩))
  exact ⟨_, Heap.get?_update_self _ hu (Obj.isFreed_of_fields (Obj.data_mapFields ud _)), (Obj.cls_mapFields ..).trans uc, by rw [Obj.data_mapFields ud]; simp [rawInt]⟩
theorem nxt_tup_end {it tp : Addr} {j : Nat} {zs : Array Value} {Q : Value → Shared → Prop} (hh : A.handled = none) (st : s.heap.IsTupleIter it tp j) (hz : s.heap.IsTuple tp zs) (hy : zs[j]? = none)
    (q : ∀ g x, Heap.ExtBut it s.heap g → (∃ o, g.get? x = some o ∧ o.cls = .type "StopIteration") → E (.ref x) { s with heap := g }) : wpAny (model prog w) A (Builtin.SmallTypes.nextOf (.ref it)) Q E s := by
  obtain ⟨u, hu, uc, ud⟩ := id st
  obtain ⟨v, hv, _, vn, vd⟩ := hz
  unfold Builtin.SmallTypes.nextOf
  refine wpAny_bind (wpAny_callSpecial?_slot (name := Str.ofString "__next__") st.typeIs F.slot_tuple_iterator_next (wpAny_call_entry F.slot_tuple_iterator_next st.typeIs F.entry_tuple_iterator_next ?_ (F.args_tuple_iterator_next_1 _)))
  show wpAny _ _ (field (Value.ref it) 0 >>= _) _ _ s
  refine wpAny_bind (wpAny_field hu ud (x := .ref tp) rfl ?_)
  show wpAny _ _ (if (Value.ref tp == Value.none) = true then _ else _) _ _ s
  rw [if_neg (show ¬ ((Value.ref tp == Value.none) = true) from Bool.false_ne_true)]
  show wpAny _ _ (field (Value.ref it) 1 >>= _) _ _ s
  refine wpAny_bind (wpAny_field hu ud (x := .int j 0) rfl ?_)
  show wpAny _ _ (seqItems? (.ref tp) >>= _) _ _ s
  refine wpAny_bind (wpAny_seqItems hv vd ?_)
  simp only [Int.toNat_natCast, hy]
  refine wpAny_bind (wpAny_rule (wpAny_bind (wpAny_setField hu ud (by simp) ?_)))
  show wpAny _ _ (newExc (Value.type "StopIteration") [] >>= _) _ _ _
  refine wpAny_bind ?_; simp only [newExc, newTuple]; refine wpAny_bind (wpAny_newObj_type ?_ (by size_fits))
  refine wpAny_bind (m := firstArgMember _ _) (wpAny_of_eq (a := Value.none) (by first | rfl | (simp only [firstArgMember]; rfl)) ?_); refine wpAny_newObj_type ?_ (by size_fits)
  simp only [raiseNew]; refine wpAny_bind (wpAny_handled ?_)
  first | rw [show A.in1.handled = none from hh] | rw [hh] | rw [show A.in1.in1.handled = none from hh]
  refine wpAny_bind (wpAny_pure (wpAny_throw ?_))
  exact q _ _ (((Heap.SameBut.update ..).extBut.push _).push _) ⟨_, Heap.get?_push_size _ rfl, rfl⟩
theorem tup_draws {it tp : Addr} {zs : Array Value} (hne : tp ≠ it) (hh : A.handled = none) : Draws prog w A it [it, tp] zs.size (fun i x => zs[i]? = some x) (fun i g => g.IsTupleIter it tp i ∧ g.IsTuple tp zs) where
  live := fun i g st => let ⟨⟨o, ho, _⟩, _⟩ := st; ⟨o, ho⟩
  frame := fun i g g' st kp => by
    obtain ⟨⟨o, ho, r⟩, v, hv, r2⟩ := st
    exact ⟨⟨o, kp it (by simp) o ho, r⟩, v, kp tp (by simp) v hv, r2⟩
  item := fun i s Q E hi st q => by
    have ex : zs[i]? = some zs[i] := by simp [hi]
    exact nxt_tup st.1 st.2 ex fun g g1 sb => q _ g s.toks ex ⟨g1, st.2.extBut sb.extBut hne⟩ sb
  done := fun s Q E st q => nxt_tup_end hh st.1 st.2 (by simp) fun g x eb ho => q g x eb ho
theorem enum_newT (tp : Addr) (zs : Array Value) (m : Nat) (dt : Option Addr) (sl : Array (Option Value)) : Meets (Builtin.«enumerate.__new__» ⟨[.type "enumerate", .ref tp], []⟩) (fun _ R s => s.heap.get? tp = some { cls := .type "tuple", dict := dt, data := .seq zs m, slots := sl } ∧
      R (.ok (.ret (.ref (s.heap.push { cls := .type "tuple_iterator", data := .fields #[.ref tp, .int 0 0] }).objs.size))) { s with heap := (s.heap.push { cls := .type "tuple_iterator", data := .fields #[.ref tp, .int 0 0] }).push { cls := .type "enumerate", data := .fields #[.none, .bool false, .ref s.heap.objs.size, rawInt 0, .none, .none] } }) :=
  .of_wp fun prog w A R s h => by
    obtain ⟨hp, g, d, tk, os⟩ := s; obtain ⟨hq, h⟩ := h
    have hsub := sub_enumerate
    have hT : Heap.IsTuple (Shared.heap ⟨hp, g, d, tk, os⟩) tp zs := ⟨_, hq, rfl, m, rfl⟩
    wp_walk using PySem.AutoSeq1.wpAny_loadPart' hq
    refine wpAny_stack_any fun st => wpAny_pure ?_
    split
    · rename_i c _ _ _ _ _; cases (c == Value.type "enumerate")
      · wp_walk using PySem.AutoSeq1.wpAny_loadPart' hq, wpAny_pyIter_tuple hT
        exact ⟨_, rfl, h⟩
      · wp_walk using PySem.AutoSeq1.wpAny_loadPart' hq, wpAny_pyIter_tuple hT
        exact ⟨_, rfl, h⟩
    · wp_walk using PySem.AutoSeq1.wpAny_loadPart' hq, wpAny_pyIter_tuple hT
      exact ⟨_, rfl, h⟩
theorem call_enumT {tp : Addr} {zs : Array Value} {Q : Value → Shared → Prop} (hT : s.heap.IsTuple tp zs)
    (h : ∀ g, IsEnum g (s.heap.objs.size + 1) s.heap.objs.size 0 .none → g.IsTupleIter s.heap.objs.size tp 0 → g.objs.size = s.heap.objs.size + 2 → (∀ b o, s.heap.get? b = some o → g.get? b = some o) → Q (.ref (s.heap.objs.size + 1)) { s with heap := g }) :
    wpAny (model prog w) A (call (.type "enumerate") [.ref tp]) Q E s := by
  obtain ⟨⟨c, dct, dt, sl⟩, hl, hc, m, hd⟩ := hT
  replace hc : c = .type "tuple" := hc
  replace hd : dt = .seq zs m := hd
  subst hc hd
  refine callType_new F.called_enumerate (by decide) (F.typeCall_enumerate_1 _) (F.newCall_enumerate_1 _) (fun obj => F.args_object_init_2 obj _) F.entry_enumerate_new (enum_newT tp zs m dct sl) ⟨hl, ?_⟩
  have hz : (s.heap.push { cls := .type "tuple_iterator", data := .fields #[.ref tp, .int 0 0] }).objs.size = s.heap.objs.size + 1 := Heap.size_push ..
  show _ ∧ _; rw [hz]
  have he : IsEnum ((s.heap.push { cls := .type "tuple_iterator", data := .fields #[.ref tp, .int 0 0] }).push { cls := .type "enumerate", data := .fields #[.none, .bool false, .ref s.heap.objs.size, rawInt 0, .none, .none] }) (s.heap.objs.size + 1) s.heap.objs.size 0 .none := by
    have z := Heap.get?_push_size (s.heap.push { cls := .type "tuple_iterator", data := .fields #[.ref tp, .int 0 0] }) (o := { cls := .type "enumerate", data := .fields #[.none, .bool false, .ref s.heap.objs.size, rawInt 0, .none, .none] }) rfl
    rw [hz] at z; exact z
  exact ⟨⟨_, he, rfl⟩, h _ he ⟨_, Heap.get?_push_of_some _ (Heap.get?_push_size _ rfl), rfl, rfl⟩ (by rw [Heap.size_push, hz]) fun b o x => Heap.get?_push_of_some _ (Heap.get?_push_of_some _ x)⟩
end
/-- (i, the item) of the tracked tuple at a -/
def Itu (a : Addr) : It := ⟨fun i H => ∃ xs x, H a = some (.tup xs) ∧ xs[i]? = some x,
  fun i H x H' => ∃ p y, H p = none ∧ x = .ref p ∧ (∀ xs, H a = some (.tup xs) → xs[i]? = some y) ∧ H' = upd H p (.tup [.int (i : Nat), y]), fun i H => ∃ xs, H a = some (.tup xs) ∧ xs.length ≤ i⟩
theorem turn_enumT {P : Program} {w : World} {K : PySem.W.Frag} {es : List Expr} {k : Nat} {pos : Pos} (a e it : Addr) (hne : e ≠ it) (hat : a ≠ it) :
    Turn P w K (.Tuple es k pos) (Itu a) [e, it] e (fun i h => (∃ old, IsEnum h e it i old) ∧ h.IsTupleIter it a i) where
  mem := by simp
  obj := fun i h st b hb => by
    obtain ⟨⟨old, he⟩, o, h1, h2, h3⟩ := st
    rcases List.mem_cons.mp hb with rfl | hb
    · exact ⟨_, he, fun v z => by cases z⟩
    · rw [List.mem_singleton.mp hb]
      exact ⟨o, h1, fun v z => by rw [h3] at z; cases z⟩
  keep := fun i h h' st kp => by
    obtain ⟨⟨old, he⟩, o, h1, r⟩ := st
    exact ⟨⟨old, kp e (by simp) _ he⟩, o, kp it (by simp) o h1, r⟩
  item := by
    intro X hP hw hK hc i pins s σ H E I hf st hg
    subst hP hw hK
    obtain ⟨⟨old, he⟩, hit⟩ := st
    obtain ⟨xs, x, hl, hx⟩ := hg
    obtain ⟨_, its, rv, ot, hot, hoc, n, hod⟩ := (show ObjOk X.prog X.w H s.heap a (.tup xs) from I.hok a _ hl)
    obtain ⟨u, hu, ru⟩ := Vals.get rv hx
    have hT : s.heap.IsTuple a its.toArray := ⟨ot, hot, hoc, n, hod⟩
    have hsz : i < its.toArray.size := by
      have := (List.getElem?_eq_some_iff.mp hu).1
      simpa using this
    have hea : e ≠ a := fun z => by
      have he' := he
      unfold IsEnum at he'
      rw [z, hot] at he'
      cases he'
      exact absurd hoc (fun h => by injection h with h; exact absurd h (by decide))
    refine wpAny_pyNext_enum_itemD (tup_draws hat (I.ok.hd hc)) he ⟨hit, hT⟩ hsz hne (by simp [hne, hea]) fun u' h1 tk hP' e1 e2 e3 e4 e5 => ?_
    have eu : u' = u := by
      have z : its.toArray[i]? = some u := by simpa using hu
      rw [hP'] at z; cases z; rfl
    subst eu
    refine ⟨_, rfl, wpAny_letOwnedTupleGo_enum e1 fun h2 e6 sb => ?_⟩
    have hps : s.heap.objs.size ≠ e := fun q => absurd (Heap.lt_size he) (by rw [← q]; exact Nat.lt_irrefl _)
    have hpi : s.heap.objs.size ≠ it := fun q => by
      obtain ⟨o, ho, _⟩ := hit
      exact absurd (Heap.lt_size ho) (by rw [← q]; exact Nat.lt_irrefl _)
    have hn : H s.heap.objs.size = none := I.hok.fresh (Nat.le_refl _)
    have e3' : h2.get? s.heap.objs.size = some { cls := .type "tuple", data := .seq #[.int i tk, u'] } := (sb.2 _ hps).trans e3
    have J : Inv X pins σ (upd H s.heap.objs.size (.tup [.int (i : Nat), x])) { s with heap := h2, toks := tk + 1 } := by
      refine I.turnedNew (ch := [e, it]) (fun b o hb q => ?_) hf (Nat.le_refl _) ⟨by rw [sizeLine_eq]; show 2 ≤ 16777216; decide, [.int i tk, u'], .cons ⟨_, rfl⟩ (.cons ru .nil), _, e3', rfl, 0, rfl⟩
      have b1 : b ≠ e := fun z => hb (by simp [z])
      have b2 : b ≠ it := fun z => hb (by simp [z])
      exact (sb.2 b b1).trans (e5 b o b1 b2 q)
    refine ⟨.ref s.heap.objs.size, _, J, rfl, ⟨s.heap.objs.size, x, hn, rfl, fun ys hy => ?_, rfl⟩, ⟨⟨u', ?_⟩, ?_⟩, fun b hb => ?_⟩
    · rw [hl] at hy
      cases hy
      exact hx
    · have e6' : IsEnum h2 e it ((i : Int) + 1) u' := e6
      have e7 : ((i + 1 : Nat) : Int) = (i : Int) + 1 := by omega
      rw [e7]
      exact e6'
    · obtain ⟨⟨o, ho, r⟩, _⟩ := e2
      exact ⟨o, (sb.2 it (Ne.symm hne)).trans ho, r⟩
    · have hb' : b ≠ s.heap.objs.size := by
        rcases List.mem_cons.mp hb with rfl | hb
        · exact hps.symm
        · rw [List.mem_singleton.mp hb]; exact hpi.symm
      rw [upd_ne hb']
      exact (hf b hb).1
  done := by
    intro X hP hw hK hc i pins s σ H E I hf st hg
    subst hP hw hK
    obtain ⟨⟨old, he⟩, hit⟩ := st
    obtain ⟨xs, hl, hx⟩ := hg
    obtain ⟨_, its, rv, ot, hot, hoc, n, hod⟩ := (show ObjOk X.prog X.w H s.heap a (.tup xs) from I.hok a _ hl)
    have hT : s.heap.IsTuple a its.toArray := ⟨ot, hot, hoc, n, hod⟩
    have hl2 := rv.length
    have hno : its.toArray[i]? = none := by simp; omega
    unfold pyNext
    refine wpAny_bind (wpAny_attempt (wpAny_callSpecial?_slot (name := Str.ofString "__next__") (⟨_, he, rfl⟩ : s.TypeIs (.ref e) "enumerate") F.slot_enumerate_next (wpAny_call_entry F.slot_enumerate_next (⟨_, he, rfl⟩ : s.TypeIs (.ref e) "enumerate") F.entry_enumerate_next ?_ (F.args_enumerate_next_1 _))))
    show wpAny _ _ (field (Value.ref e) 2 >>= _) _ _ _
    refine wpAny_bind (wpAny_field he rfl (x := Value.ref it) rfl ?_)
    refine wpAny_bind (nxt_tup_end (I.ok.hd hc) hit hT hno fun h1 x1 eb hx1 => ?_)
    obtain ⟨o1, ho1, hc1⟩ := hx1
    refine wpAny_bind (wpAny_isInstance (T := "StopIteration") (b := true) ⟨o1, ho1, hc1⟩ isSubtype_stop (wpAny_pure ?_))
    exact ⟨rfl, I.turnedN (ch := [e, it]) (t' := s.toks) (fun b o hb q => eb b o (fun z => hb (by simp [z])) q) hf⟩
  self := fun _ _ _ _ _ st h => by
    obtain ⟨⟨old, he⟩, _⟩ := st
    exact wpAny_pyIter_enum he h
def iEnumT (ta : TA) : TI := fun σ H R => ta σ H fun vs H1 => ∃ a xs, vs = [.ref a] ∧ H1 a = some (.tup xs) ∧ R (Itu a) H1
theorem pi_enumT {X : Cx} {es : List Expr} {k : Nat} {tpos : Pos} {e : Expr} {ta : TA} {p pos : Pos} (hg : Gl X "enumerate") (hm : X.mg "enumerate" = none) (ha : PA X [e] ta) (hs : starEach [e] X.env = [(false, eval e X.env)] := by rfl) :
    PI X (.Tuple es k tpos) (.Call (.Name "enumerate" p) [e] [] pos) (iEnumT ta) := by
  intro pins s σ H R I h
  refine wpAny_Call_Name_kw (ld_blt I hg hm bt_enumerate ?_ (by decide) (by decide))
  refine PyProof.Rows.callWith_type1 (thn (ha pos pins s σ H _ I h) fun us s1 ⟨vs, H1, I1, r1, a, xs, e1, hl, q⟩ => ?_) hs rfl
  subst e1
  obtain ⟨u, rfl, ru⟩ := vals1 r1
  cases ru
  obtain ⟨_, its, rv, ot, hot, hoc, n, hod⟩ := (show ObjOk X.prog X.w H1 s1.heap a (.tup xs) from I1.hok a _ hl)
  refine call_enumT (zs := its.toArray) ⟨ot, hot, hoc, n, hod⟩ fun h2 e1 e2 e3 e4 => ?_
  have I2 : Inv X pins σ H1 { s1 with heap := h2 } := I1.kept (t' := s1.toks) e4
  have hne : s1.heap.objs.size + 1 ≠ s1.heap.objs.size := Nat.succ_ne_self _
  have hat : a ≠ s1.heap.objs.size := Nat.ne_of_lt (Heap.lt_size hot)
  refine wpAny_pyIter_enum e1 ?_
  refine ⟨s1.heap.objs.size + 1, [s1.heap.objs.size + 1, s1.heap.objs.size], _, _, H1, rfl, I2, turn_enumT a _ _ hne hat, ⟨⟨_, e1⟩, e2⟩, fun b hb => ?_, q⟩
  have hb' : s1.heap.objs.size ≤ b := by
    rcases List.mem_cons.mp hb with rfl | hb
    · omega
    · rw [List.mem_singleton.mp hb]
      exact Nat.le_refl _
  exact I1.fpOk hb' (I1.hok.fresh hb')
/-- over enumerate(xs), the tuple stays -/
theorem for_enumT {a : Addr} {xs : List V} {g : TG} {tb : TS} {D : Ends} {σ : St} {H : Hp} (Pv : Nat → St → Hp → Prop) (h0 : Pv 0 σ H) (hl : ∀ i σ H, Pv i σ H → H a = some (.tup xs))
    (hs : ∀ (i : Nat) x σ H p, xs[i]? = some x → Pv i σ H → H p = none → g (.ref p) σ (upd H p (.tup [.int (i : Nat), x])) fun σ2 H2 => tb { D with nx := Pv (i + 1), ct := Pv (i + 1), bk := D.nx } σ2 H2) (hd : ∀ σ H, Pv xs.length σ H → D.nx σ H) :
    ∃ W : Nat → Nat → St → Hp → Prop, (∃ m, W 0 m σ H) ∧ ∀ i m σ H, W i m σ H →
      ((Itu a).stop i H ∧ D.nx σ H) ∨ ((Itu a).go i H ∧ ∃ N : St → Hp → Prop, (∀ σ' H', N σ' H' → ∃ m', m' < m ∧ W (i + 1) m' σ' H') ∧ ∀ x H', (Itu a).yld i H x H' → g x σ H' fun σ2 H2 => tb { D with nx := N, ct := N, bk := D.nx } σ2 H2) := by
  refine ⟨fun i m σ H => m = xs.length - i ∧ i ≤ xs.length ∧ Pv i σ H, ⟨_, rfl, Nat.zero_le _, h0⟩, ?_⟩
  rintro i m σ H ⟨rfl, hi, p⟩
  have q := hl i σ H p
  by_cases hlt : i < xs.length
  · refine .inr ⟨⟨xs, xs[i], q, by simp [hlt]⟩, Pv (i + 1), fun σ' H' p' => ⟨_, by omega, rfl, hlt, p'⟩, fun x H' y => ?_⟩
    obtain ⟨b, v, hb, rfl, hv, rfl⟩ := y
    exact hs i v σ H b (hv xs q) p hb
  · have e : i = xs.length := by omega
    subst e
    exact .inl ⟨⟨xs, q, Nat.le_refl _⟩, hd σ H p⟩
end L2

set_option Elab.async false
set_option linter.all false
set_option maxRecDepth 100000
set_option maxHeartbeats 4000000
namespace My
open PySem L2 FrM
/-! the text, by places -/
def top (i : Nat) : Stmt := PySem.Challenge.pw_fewspeak_k82_tables_refused.main.body.getD i (.Pass ⟨0, 0, 0, 0⟩)
abbrev s_NoTable___init__ : Stmt := inClass (top 5) 0
abbrev s_greatest_divisor : Stmt := top 8
abbrev s_share : Stmt := top 9
abbrev s_is_whole : Stmt := top 11
abbrev s_is_row : Stmt := top 17
abbrev s_need_table : Stmt := top 18
abbrev s_word_of : Stmt := top 19
abbrev s_choices : Stmt := top 20
abbrev s_one_more : Stmt := top 21
abbrev s_Looks___init__ : Stmt := inClass (top 22) 0
abbrev s_Looks_endings : Stmt := inClass (top 22) 2
abbrev s_Looks_let_by : Stmt := inClass (top 22) 3
abbrev s_Looks_looked_at : Stmt := inClass (top 22) 4
abbrev s_endings_at : Stmt := top 23
abbrev s_L_cell : Stmt := top 25
abbrev s_L_mixed : Stmt := top 26
abbrev s_L_rows : Stmt := top 27
abbrev s_L_odd : Stmt := top 28
abbrev s_L_is_whole : Stmt := top 29
abbrev s_L_good : Stmt := top 30
abbrev s_L_due : Stmt := top 31
abbrev s_L_told : Stmt := top 32
abbrev s_L_no_lot : Stmt := top 33
abbrev s_L_lots : Stmt := top 34
abbrev s_law : Stmt := top 35
theorem sc_NoTable___init__ : FnScope ["self", "row"] ["self", "row"] (defScope s_NoTable___init__) := ⟨rfl, rfl, rfl, by decide +kernel, rfl, by decide +kernel, by decide +kernel⟩
theorem sc_share : FnScope ["top", "bottom", "divisor"] ["top", "bottom"] (defScope s_share) := ⟨rfl, rfl, rfl, by decide +kernel, rfl, by decide +kernel, by decide +kernel⟩
theorem sc_is_whole : FnScope ["thing", "low", "high"] ["thing", "low", "high"] (defScope s_is_whole) := ⟨rfl, rfl, rfl, by decide +kernel, rfl, by decide +kernel, by decide +kernel⟩
theorem sc_is_row : FnScope ["thing"] ["thing"] (defScope s_is_row) := ⟨rfl, rfl, rfl, by decide +kernel, rfl, by decide +kernel, by decide +kernel⟩
theorem sc_need_table : FnScope ["rows", "number", "row"] ["rows"] (defScope s_need_table) := ⟨rfl, rfl, rfl, by decide +kernel, rfl, by decide +kernel, by decide +kernel⟩
theorem sc_word_of : FnScope ["row", "found", "let", "turn"] ["row", "found"] (defScope s_word_of) := ⟨rfl, rfl, rfl, by decide +kernel, rfl, by decide +kernel, by decide +kernel⟩
theorem sc_choices : FnScope ["many", "some", "told", "number"] ["many", "some"] (defScope s_choices) := ⟨rfl, rfl, rfl, by decide +kernel, rfl, by decide +kernel, by decide +kernel⟩
theorem sc_one_more : FnScope ["ways"] ["ways"] (defScope s_one_more) := ⟨rfl, rfl, rfl, by decide +kernel, rfl, by decide +kernel, by decide +kernel⟩
theorem sc_Looks___init__ : FnScope ["self", "rows"] ["self", "rows"] (defScope s_Looks___init__) := ⟨rfl, rfl, rfl, by decide +kernel, rfl, by decide +kernel, by decide +kernel⟩
theorem sc_Looks_endings : FnScope ["self", "lot", "bad", "told", "ways", "number", "row"] ["self", "lot", "bad"] (defScope s_Looks_endings) := ⟨rfl, rfl, rfl, by decide +kernel, rfl, by decide +kernel, by decide +kernel⟩
theorem sc_Looks_let_by : FnScope ["self", "lot", "bad", "by"] ["self", "lot", "bad"] (defScope s_Looks_let_by) := ⟨rfl, rfl, rfl, by decide +kernel, rfl, by decide +kernel, by decide +kernel⟩
theorem sc_Looks_looked_at : FnScope ["self", "lot", "bad", "looks"] ["self", "lot", "bad"] (defScope s_Looks_looked_at) := ⟨rfl, rfl, rfl, by decide +kernel, rfl, by decide +kernel, by decide +kernel⟩
theorem sc_endings_at : FnScope ["row", "ways", "left", "bad", "looked", "sets", "told"] ["row", "ways", "left", "bad", "looked"] (defScope s_endings_at) := ⟨rfl, rfl, rfl, by decide +kernel, rfl, by decide +kernel, by decide +kernel⟩
theorem sc_L_cell : FnScope ["_law_script", "_law_k"] ["_law_script", "_law_k"] (defScope s_L_cell) := ⟨rfl, rfl, rfl, by decide +kernel, rfl, by decide +kernel, by decide +kernel⟩
theorem sc_L_mixed : FnScope ["_law_cell_here", "_law_k", "_law_number"] ["_law_cell_here", "_law_k"] (defScope s_L_mixed) := ⟨rfl, rfl, rfl, by decide +kernel, rfl, by decide +kernel, by decide +kernel⟩
theorem sc_L_rows : FnScope ["_law_cell_here", "_law_many", "_law_way", "_law_rows_here", "_law_k", "_law_number", "_law_let", "_law_turn"] ["_law_cell_here"] (defScope s_L_rows) := ⟨rfl, rfl, rfl, by decide +kernel, rfl, by decide +kernel, by decide +kernel⟩
theorem sc_L_odd : FnScope ["_law_row", "_law_number", "_law_far", "_law_some"] ["_law_row", "_law_number"] (defScope s_L_odd) := ⟨rfl, rfl, rfl, by decide +kernel, rfl, by decide +kernel, by decide +kernel⟩
theorem sc_L_is_whole : FnScope ["_law_thing"] ["_law_thing"] (defScope s_L_is_whole) := ⟨rfl, rfl, rfl, by decide +kernel, rfl, by decide +kernel, by decide +kernel⟩
theorem sc_L_good : FnScope ["_law_row"] ["_law_row"] (defScope s_L_good) := ⟨rfl, rfl, rfl, by decide +kernel, rfl, by decide +kernel, by decide +kernel⟩
theorem sc_L_due : FnScope ["_law_rows_here", "_law_k", "_law_row"] ["_law_rows_here"] (defScope s_L_due) := ⟨rfl, rfl, rfl, by decide +kernel, rfl, by decide +kernel, by decide +kernel⟩
theorem sc_L_told : FnScope ["_law_rows_here", "_law_told_here", "e"] ["_law_rows_here"] (defScope s_L_told) := ⟨rfl, rfl, rfl, by decide +kernel, rfl, by decide +kernel, by decide +kernel⟩
theorem sc_L_no_lot : FnScope ["_law_looks", "_law_way", "_law_lot", "_law_bad", "_law_error", "e"] ["_law_looks", "_law_way", "_law_lot", "_law_bad"] (defScope s_L_no_lot) := ⟨rfl, rfl, rfl, by decide +kernel, rfl, by decide +kernel, by decide +kernel⟩
theorem sc_L_lots : FnScope ["_law_rows_here", "_law_cell_here", "_law_looks", "_law_number", "_law_lot", "_law_far", "_law_odd_here", "_law_way", "_law_bad"] ["_law_rows_here", "_law_cell_here"] (defScope s_L_lots) := ⟨rfl, rfl, rfl, by decide +kernel, rfl, by decide +kernel, by decide +kernel⟩
theorem sc_law : FnScope ["_law_script", "_law_k", "_law_cell_here", "_law_rows_here", "_law_spoiled", "_law_j", "_law_at", "_law_due_here", "_law_told_here", "_law_things", "_law_thing", "_law_place"] ["_law_script"] (defScope s_law) := ⟨rfl, rfl, rfl, by decide +kernel, rfl, by decide +kernel, by decide +kernel⟩
theorem bt_ValueError : bootBuiltins "ValueError" = some (.type "ValueError") := by decide +kernel
def mroIn' (K : PySem.W.Frag) (D C : Addr) : Option Bool := PySem.W.mroIn K D (.ref C)
structure Ad where
  f_greatest_divisor : Addr
  d_greatest_divisor : FuncData
  f_share : Addr
  d_share : FuncData
  f_is_whole : Addr
  d_is_whole : FuncData
  f_is_row : Addr
  d_is_row : FuncData
  f_need_table : Addr
  d_need_table : FuncData
  f_word_of : Addr
  d_word_of : FuncData
  f_choices : Addr
  d_choices : FuncData
  f_one_more : Addr
  d_one_more : FuncData
  f_endings_at : Addr
  d_endings_at : FuncData
  f_L_cell : Addr
  d_L_cell : FuncData
  f_L_mixed : Addr
  d_L_mixed : FuncData
  f_L_rows : Addr
  d_L_rows : FuncData
  f_L_odd : Addr
  d_L_odd : FuncData
  f_L_is_whole : Addr
  d_L_is_whole : FuncData
  f_L_good : Addr
  d_L_good : FuncData
  f_L_due : Addr
  d_L_due : FuncData
  f_L_told : Addr
  d_L_told : FuncData
  f_L_no_lot : Addr
  d_L_no_lot : FuncData
  f_L_lots : Addr
  d_L_lots : FuncData
  f_law : Addr
  d_law : FuncData
  c_SpeakError : Addr
  c_NoUnits : Addr
  c_TooMany : Addr
  c_NoTable : Addr
  i_NoTable : Addr
  e_NoTable : FuncData
  c_NoLot : Addr
  c_Looks : Addr
  i_Looks : Addr
  e_Looks : FuncData
  x_Looks_endings : Addr
  y_Looks_endings : FuncData
  x_Looks_let_by : Addr
  y_Looks_let_by : FuncData
  x_Looks_looked_at : Addr
  y_Looks_looked_at : FuncData
structure Txt (K : PySem.W.Frag) (mg : Str → Option Value) (a : Ad) : Prop where
  F_greatest_divisor : Fun K "greatest_divisor" "greatest_divisor" s_greatest_divisor a.f_greatest_divisor a.d_greatest_divisor
  B_greatest_divisor : Binds K a.d_greatest_divisor ["one", "other"] []
  m_greatest_divisor : mg "greatest_divisor" = some (.ref a.f_greatest_divisor)
  F_share : Fun K "share" "share" s_share a.f_share a.d_share
  B_share : Binds K a.d_share ["top", "bottom"] []
  m_share : mg "share" = some (.ref a.f_share)
  F_is_whole : Fun K "is_whole" "is_whole" s_is_whole a.f_is_whole a.d_is_whole
  B_is_whole : Binds K a.d_is_whole ["thing", "low", "high"] []
  m_is_whole : mg "is_whole" = some (.ref a.f_is_whole)
  F_is_row : Fun K "is_row" "is_row" s_is_row a.f_is_row a.d_is_row
  B_is_row : Binds K a.d_is_row ["thing"] []
  m_is_row : mg "is_row" = some (.ref a.f_is_row)
  F_need_table : Fun K "need_table" "need_table" s_need_table a.f_need_table a.d_need_table
  B_need_table : Binds K a.d_need_table ["rows"] []
  m_need_table : mg "need_table" = some (.ref a.f_need_table)
  F_word_of : Fun K "word_of" "word_of" s_word_of a.f_word_of a.d_word_of
  B_word_of : Binds K a.d_word_of ["row", "found"] []
  m_word_of : mg "word_of" = some (.ref a.f_word_of)
  F_choices : Fun K "choices" "choices" s_choices a.f_choices a.d_choices
  B_choices : Binds K a.d_choices ["many", "some"] []
  m_choices : mg "choices" = some (.ref a.f_choices)
  F_one_more : Fun K "one_more" "one_more" s_one_more a.f_one_more a.d_one_more
  B_one_more : Binds K a.d_one_more ["ways"] []
  m_one_more : mg "one_more" = some (.ref a.f_one_more)
  F_endings_at : Fun K "endings_at" "endings_at" s_endings_at a.f_endings_at a.d_endings_at
  B_endings_at : Binds K a.d_endings_at ["row", "ways", "left", "bad", "looked"] []
  m_endings_at : mg "endings_at" = some (.ref a.f_endings_at)
  F_L_cell : Fun K "_law_cell" "_law_cell" s_L_cell a.f_L_cell a.d_L_cell
  B_L_cell : Binds K a.d_L_cell ["_law_script", "_law_k"] []
  m_L_cell : mg "_law_cell" = some (.ref a.f_L_cell)
  F_L_mixed : Fun K "_law_mixed" "_law_mixed" s_L_mixed a.f_L_mixed a.d_L_mixed
  B_L_mixed : Binds K a.d_L_mixed ["_law_cell_here", "_law_k"] []
  m_L_mixed : mg "_law_mixed" = some (.ref a.f_L_mixed)
  F_L_rows : Fun K "_law_rows" "_law_rows" s_L_rows a.f_L_rows a.d_L_rows
  B_L_rows : Binds K a.d_L_rows ["_law_cell_here"] []
  m_L_rows : mg "_law_rows" = some (.ref a.f_L_rows)
  F_L_odd : Fun K "_law_odd" "_law_odd" s_L_odd a.f_L_odd a.d_L_odd
  B_L_odd : Binds K a.d_L_odd ["_law_row", "_law_number"] []
  m_L_odd : mg "_law_odd" = some (.ref a.f_L_odd)
  F_L_is_whole : Fun K "_law_is_whole" "_law_is_whole" s_L_is_whole a.f_L_is_whole a.d_L_is_whole
  B_L_is_whole : Binds K a.d_L_is_whole ["_law_thing"] []
  m_L_is_whole : mg "_law_is_whole" = some (.ref a.f_L_is_whole)
  F_L_good : Fun K "_law_good" "_law_good" s_L_good a.f_L_good a.d_L_good
  B_L_good : Binds K a.d_L_good ["_law_row"] []
  m_L_good : mg "_law_good" = some (.ref a.f_L_good)
  F_L_due : Fun K "_law_due" "_law_due" s_L_due a.f_L_due a.d_L_due
  B_L_due : Binds K a.d_L_due ["_law_rows_here"] []
  m_L_due : mg "_law_due" = some (.ref a.f_L_due)
  F_L_told : Fun K "_law_told" "_law_told" s_L_told a.f_L_told a.d_L_told
  B_L_told : Binds K a.d_L_told ["_law_rows_here"] []
  m_L_told : mg "_law_told" = some (.ref a.f_L_told)
  F_L_no_lot : Fun K "_law_no_lot" "_law_no_lot" s_L_no_lot a.f_L_no_lot a.d_L_no_lot
  B_L_no_lot : Binds K a.d_L_no_lot ["_law_looks", "_law_way", "_law_lot", "_law_bad"] []
  m_L_no_lot : mg "_law_no_lot" = some (.ref a.f_L_no_lot)
  F_L_lots : Fun K "_law_lots" "_law_lots" s_L_lots a.f_L_lots a.d_L_lots
  B_L_lots : Binds K a.d_L_lots ["_law_rows_here", "_law_cell_here"] []
  m_L_lots : mg "_law_lots" = some (.ref a.f_L_lots)
  F_law : Fun K "law" "law" s_law a.f_law a.d_law
  B_law : Binds K a.d_law ["_law_script"] []
  m_law : mg "law" = some (.ref a.f_law)
  g_MOST_ROWS : ∃ u, mg "MOST_ROWS" = some u ∧ RelV (.int 24) u
  g_MOST_WARES : ∃ u, mg "MOST_WARES" = some u ∧ RelV (.int 24) u
  g_MOST_LET : ∃ u, mg "MOST_LET" = some u ∧ RelV (.int 24) u
  g_MOST_TURN : ∃ u, mg "MOST_TURN" = some u ∧ RelV (.int 25) u
  mc_SpeakError : mg "SpeakError" = some (.ref a.c_SpeakError)
  g_SpeakError : ∃ u, mg "SpeakError" = some u ∧ RelV (.ref a.c_SpeakError) u
  kc_SpeakError : PySem.W.keepIn K (.ref a.c_SpeakError) = true
  xc_SpeakError : XCls K a.c_SpeakError
  xh_SpeakError : XHd K a.c_SpeakError
  xi_SpeakError : xIn K a.c_SpeakError none = true
  mc_NoUnits : mg "NoUnits" = some (.ref a.c_NoUnits)
  g_NoUnits : ∃ u, mg "NoUnits" = some u ∧ RelV (.ref a.c_NoUnits) u
  kc_NoUnits : PySem.W.keepIn K (.ref a.c_NoUnits) = true
  xc_NoUnits : XCls K a.c_NoUnits
  xh_NoUnits : XHd K a.c_NoUnits
  xi_NoUnits : xIn K a.c_NoUnits none = true
  mc_TooMany : mg "TooMany" = some (.ref a.c_TooMany)
  g_TooMany : ∃ u, mg "TooMany" = some u ∧ RelV (.ref a.c_TooMany) u
  kc_TooMany : PySem.W.keepIn K (.ref a.c_TooMany) = true
  xc_TooMany : XCls K a.c_TooMany
  xh_TooMany : XHd K a.c_TooMany
  xi_TooMany : xIn K a.c_TooMany none = true
  mc_NoTable : mg "NoTable" = some (.ref a.c_NoTable)
  g_NoTable : ∃ u, mg "NoTable" = some u ∧ RelV (.ref a.c_NoTable) u
  kc_NoTable : PySem.W.keepIn K (.ref a.c_NoTable) = true
  xc_NoTable : XCls K a.c_NoTable
  xh_NoTable : XHd K a.c_NoTable
  xi_NoTable : xIn K a.c_NoTable (some (.ref a.i_NoTable)) = true
  fn_NoTable : PySem.W.isFn K (.ref a.i_NoTable) = true
  Fi_NoTable : Fun K "__init__" "NoTable.__init__" s_NoTable___init__ a.i_NoTable a.e_NoTable
  Bi_NoTable : Binds K a.e_NoTable ["self", "row"] []
  sx_NoTable_row : ∃ cd, XSet K a.c_NoTable "row" cd
  mc_NoLot : mg "NoLot" = some (.ref a.c_NoLot)
  g_NoLot : ∃ u, mg "NoLot" = some u ∧ RelV (.ref a.c_NoLot) u
  kc_NoLot : PySem.W.keepIn K (.ref a.c_NoLot) = true
  xc_NoLot : XCls K a.c_NoLot
  xh_NoLot : XHd K a.c_NoLot
  xi_NoLot : xIn K a.c_NoLot none = true
  mc_Looks : mg "Looks" = some (.ref a.c_Looks)
  g_Looks : ∃ u, mg "Looks" = some u ∧ RelV (.ref a.c_Looks) u
  cl_Looks : Cls K a.c_Looks
  ty_Looks : ∀ H x dx fs, H x = some (.ins a.c_Looks dx fs) → TyOf K H (.ref x) (.ref a.c_Looks)
  mk_Looks : Mk K a.c_Looks a.i_Looks
  Fi_Looks : Fun K "__init__" "Looks.__init__" s_Looks___init__ a.i_Looks a.e_Looks
  Bi_Looks : Binds K a.e_Looks ["self", "rows"] []
  na_Looks_rows : NoAttr K a.c_Looks "rows"
  mt_Looks_endings : Meth K a.c_Looks "endings" a.x_Looks_endings
  mt_Looks_let_by : Meth K a.c_Looks "let_by" a.x_Looks_let_by
  mt_Looks_looked_at : Meth K a.c_Looks "looked_at" a.x_Looks_looked_at
  F_Looks_endings : Fun K "endings" "Looks.endings" s_Looks_endings a.x_Looks_endings a.y_Looks_endings
  B_Looks_endings : Binds K a.y_Looks_endings ["self", "lot", "bad"] []
  F_Looks_let_by : Fun K "let_by" "Looks.let_by" s_Looks_let_by a.x_Looks_let_by a.y_Looks_let_by
  B_Looks_let_by : Binds K a.y_Looks_let_by ["self", "lot", "bad"] []
  F_Looks_looked_at : Fun K "looked_at" "Looks.looked_at" s_Looks_looked_at a.x_Looks_looked_at a.y_Looks_looked_at
  B_Looks_looked_at : Binds K a.y_Looks_looked_at ["self", "lot", "bad"] []
  tl : mroIn' K a.c_NoLot a.c_SpeakError = some true
  tt : mroIn' K a.c_NoTable a.c_SpeakError = some true
  t1 : PySem.W.kitOne K (.ref a.c_NoLot) (.ref a.c_NoLot) = some true
  t3 : PySem.W.kitAny K (.ref a.c_NoLot) [.ref a.c_NoTable, .ref a.c_NoUnits, .ref a.c_TooMany] = some false
  u1 : PySem.W.kitOne K (.ref a.c_NoTable) (.ref a.c_NoTable) = some true
  u2 : PySem.W.kitOne K (.ref a.c_NoTable) (.type "ValueError") = some true
  u3 : PySem.W.kitAny K (.ref a.c_NoTable) [.ref a.c_NoLot, .ref a.c_NoUnits, .ref a.c_TooMany] = some false
  z_ValueError : mg "ValueError" = none
  z_abs : mg "abs" = none
  z_bool : mg "bool" = none
  z_enumerate : mg "enumerate" = none
  z_int : mg "int" = none
  z_isinstance : mg "isinstance" = none
  z_len : mg "len" = none
  z_list : mg "list" = none
  z_max : mg "max" = none
  z_min : mg "min" = none
  z_range : mg "range" = none
  z_str : mg "str" = none
  z_sum : mg "sum" = none
  z_tuple : mg "tuple" = none
  z_zip : mg "zip" = none
  bl : ∀ (s : Shared) (u : Value), BindsTo s a.d_law ⟨[u], []⟩ [("_law_script", u)]
/-! promises -/
def spCell (K : PySem.W.Frag) : Sp := fun vs H Q _ => ∃ (p : Addr) (ns : List Int) (k : Int), vs = [.ref p, .int k] ∧ SqL K H p (ns.map V.int) ∧ ns.length ≤ 63 ∧ 0 ≤ k ∧ k ≤ 1000 ∧ ∀ c : Int, Q (.int c) H
def spMixed : Sp := fun vs H Q _ => ∃ (c k : Int), vs = [.int c, .int k] ∧ 0 ≤ k ∧ k ≤ 1000 ∧ ∀ r : Int, 0 ≤ r → r < 1099511627776 → Q (.int r) H
def spLaw (K : PySem.W.Frag) : Sp := fun vs H Q _ => ∃ (p : Addr) (ns : List Int), vs = [.ref p] ∧ SqL K H p (ns.map V.int) ∧ ns.length ≤ 63 ∧ ∀ H', Q (.bl true) H'
theorem law_start {K : PySem.W.Frag} {H : Hp} {a : Addr} {ns : List Int} (hl : ns.length ≤ 63) (_ : Only H) (hS : SqL K H a (ns.map V.int)) : spLaw K [.ref a] H (fun v _ => v = .bl true) fun _ _ _ => False := ⟨a, ns, rfl, hS, hl, fun _ => rfl⟩
/-- a thing for a number, and the whole number that it is -/
inductive Thing (H : Hp) : V → Option Int → Prop
  | int (i : Int) : Thing H (.int i) (some i)
  | bl (b : Bool) : Thing H (.bl b) none
  | non : Thing H .non none
  | str (t : Str) : Thing H (.str t) none
  | lst (p : Addr) (xs : List V) (e : H p = some (.lst xs)) : Thing H (.ref p) none
  | tup (p : Addr) (xs : List V) (e : H p = some (.tup xs)) : Thing H (.ref p) none
  | dK (p : Addr) (kvs : List (Key × V)) (e : H p = some (.dK kvs)) : Thing H (.ref p) none
theorem Thing.same {H H' : Hp} {x : V} {o : Option Int} (s : Same H H') (h : Thing H x o) : Thing H' x o := by
  cases h with
  | int i => exact .int i
  | bl b => exact .bl b
  | non => exact .non
  | str t => exact .str t
  | lst p xs e => exact .lst p xs (s _ _ e)
  | tup p xs e => exact .tup p xs (s _ _ e)
  | dK p kvs e => exact .dK p kvs (s _ _ e)
def inR (lo hi : Int) : Option Int → Bool
  | some i => decide (lo ≤ i ∧ i ≤ hi)
  | none => false
def spWhole3 : Sp := fun vs H Q _ => ∃ (x : V) (lo hi : Int) (o : Option Int), vs = [x, .int lo, .int hi] ∧ Thing H x o ∧ Q (.bl (inR lo hi o)) H
theorem inR_yes {lo hi i : Int} (h0 : lo ≤ i) (h1 : i ≤ hi) : inR lo hi (some i) = true := decide_eq_true ⟨h0, h1⟩
theorem pget {α : Type} {R : α → V → Prop} : ∀ {fs : List α} {xs : List V} {i : Nat} {x : V}, PySem.Paired R fs xs → xs[i]? = some x → ∃ f, fs[i]? = some f ∧ R f x
  | _, _, _, _, .nil, h => by cases h
  | _, _, 0, _, .cons r _, h => ⟨_, rfl, by cases h; exact r⟩
  | _, _, i + 1, _, .cons _ t, h => pget (i := i) t h
theorem made_same {H : Hp} {x dx : Addr} {C : Addr} (hx : H x = none) (hd : H dx = none) : Same H (upd (upd H dx (.own x)) x (.ins C dx [])) := fun b o e => by
  have b1 : b ≠ x := fun z => by rw [z, hx] at e; cases e
  have b2 : b ≠ dx := fun z => by rw [z, hd] at e; cases e
  rw [upd_ne b1, upd_ne b2]
  exact e
/-- a row of a table: let, turn -/
abbrev Rw := Int × Int
def OkR (r : Rw) : Prop := -1 ≤ r.1 ∧ r.1 ≤ 24 ∧ r.1 < r.2 ∧ r.2 ≤ 25
def IsR (H : Hp) (r : Rw) (x : V) : Prop := ∃ p, x = .ref p ∧ H p = some (.tup [.int r.1, .int r.2])
theorem IsR.same {H H' : Hp} {z : Rw} {x : V} (s : Same H H') (h : IsR H z x) : IsR H' z x := let ⟨p, e, q⟩ := h; ⟨p, e, s _ _ q⟩
theorem IsR.lst {H : Hp} {z : Rw} {x : V} {D : Addr} {vs ys : List V} (e : H D = some (.lst vs)) (h : IsR H z x) : IsR (upd H D (.lst ys)) z x := let ⟨p, e', q⟩ := h; ⟨p, e', by rw [upd_ne (fun w => by rw [w, e] at q; cases q)]; exact q⟩
abbrev AllR (H : Hp) : List Rw → List V → Prop := PySem.Paired (IsR H)
theorem AllR.same {H H' : Hp} (s : Same H H') : ∀ {zs : List Rw} {xs : List V}, AllR H zs xs → AllR H' zs xs
  | _, _, .nil => .nil
  | _, _, .cons r t => .cons (r.same s) (AllR.same s t)
theorem AllR.lst {H : Hp} {D : Addr} {vs ys : List V} (e : H D = some (.lst vs)) : ∀ {zs : List Rw} {xs : List V}, AllR H zs xs → AllR (upd H D (.lst ys)) zs xs
  | _, _, .nil => .nil
  | _, _, .cons r t => .cons (r.lst e) (AllR.lst e t)
theorem AllR.snoc {H : Hp} {z : Rw} {x : V} (r : IsR H z x) : ∀ {zs : List Rw} {xs : List V}, AllR H zs xs → AllR H (zs ++ [z]) (xs ++ [x])
  | _, _, .nil => .cons r .nil
  | _, _, .cons q t => .cons q (AllR.snoc r t)
theorem AllR.own {H : Hp} {x C dx : Addr} {fs gs : List (Str × V)} (e : H x = some (.ins C dx fs)) : ∀ {zs : List Rw} {xs : List V}, AllR H zs xs → AllR (upd H x (.ins C dx gs)) zs xs
  | _, _, .nil => .nil
  | _, _, .cons ⟨p, e', q⟩ t => .cons ⟨p, e', by rw [upd_ne (fun z => by rw [z, e] at q; cases q)]; exact q⟩ (AllR.own e t)
/-- a good table -/
structure Tab (rs : List Rw) : Prop where
  pos : 0 < rs.length
  len : rs.length ≤ 24
  ok : ∀ r ∈ rs, OkR r
  last : ∀ r, rs[rs.length - 1]? = some r → r.2 = r.1 + 1
structure TabAt (H : Hp) (l : Addr) (xs : List V) (rs : List Rw) : Prop where
  at_ : H l = some (.lst xs)
  all : AllR H rs xs
  tab : Tab rs
theorem TabAt.same {H H' : Hp} {l : Addr} {xs : List V} {rs : List Rw} (s : Same H H') (h : TabAt H l xs rs) : TabAt H' l xs rs := ⟨s _ _ h.at_, h.all.same s, h.tab⟩
theorem TabAt.xl {H : Hp} {l : Addr} {xs : List V} {rs : List Rw} (h : TabAt H l xs rs) : xs.length = rs.length := (Paired.length h.all).symm
def wd (r : Rw) (f : Int) : Str := if f ≤ r.1 then "by" else if f ≥ r.2 then "down" else "open"
theorem wd_cases (r : Rw) (f : Int) : wd r f = "by" ∨ wd r f = "down" ∨ wd r f = "open" := by
  unfold wd; split
  · exact .inl rfl
  · split
    · exact .inr (.inl rfl)
    · exact .inr (.inr rfl)
def spWord : Sp := fun vs H Q _ => ∃ (x : V) (r : Rw) (f : Int), vs = [x, .int f] ∧ IsR H r x ∧ Q (.str (wd r f)) H
/-- a table of looks -/
structure LkAt (a : Ad) (H : Hp) (x : Addr) (rs : List Rw) : Prop where
  ex : ∃ dx t xs, H x = some (.ins a.c_Looks dx [("rows", .ref t)]) ∧ H t = some (.tup xs) ∧ AllR H rs xs
  tab : Tab rs
theorem LkAt.same {a : Ad} {H H' : Hp} {x : Addr} {rs : List Rw} (s : Same H H') (h : LkAt a H x rs) : LkAt a H' x rs := let ⟨⟨dx, t, xs, h1, h2, h3⟩, h4⟩ := h; ⟨⟨dx, t, xs, s _ _ h1, s _ _ h2, h3.same s⟩, h4⟩
/-- a thing for a row: what it is -/
inductive RK | bad | pair (o1 o2 : Option Int)
inductive RT (H : Hp) : V → RK → Prop
  | non : RT H .non .bad
  | str (t : Str) : RT H (.str t) .bad
  | lst (p : Addr) (xs : List V) (h : H p = some (.lst xs)) : RT H (.ref p) .bad
  | tup (p : Addr) (xs : List V) (h : H p = some (.tup xs)) (hl : xs.length ≠ 2) : RT H (.ref p) .bad
  | pair (p : Addr) (x y : V) (o1 o2 : Option Int) (h : H p = some (.tup [x, y])) (t1 : Thing H x o1) (t2 : Thing H y o2) : RT H (.ref p) (.pair o1 o2)
theorem RT.same {H H' : Hp} {x : V} {k : RK} (s : Same H H') (h : RT H x k) : RT H' x k := by
  cases h with
  | non => exact .non
  | str t => exact .str t
  | lst p xs h => exact .lst p xs (s _ _ h)
  | tup p xs h hl => exact .tup p xs (s _ _ h) hl
  | pair p x y o1 o2 h t1 t2 => exact .pair p x y o1 o2 (s _ _ h) (t1.same s) (t2.same s)
abbrev AllK (H : Hp) : List RK → List V → Prop := PySem.Paired (fun k x => RT H x k)
theorem AllK.same {H H' : Hp} (s : Same H H') : ∀ {ks : List RK} {xs : List V}, AllK H ks xs → AllK H' ks xs
  | _, _, .nil => .nil
  | _, _, .cons r t => .cons (r.same s) (AllK.same s t)
def inNext (o1 o2 : Option Int) : Bool := match o1 with
  | some l => inR (l + 1) 25 o2
  | none => false
def goodK : RK → Bool
  | .bad => false
  | .pair o1 o2 => inR (-1) 24 o1 && inNext o1 o2
def lastOk : RK → Bool
  | .pair (some l) (some t) => decide (t = l + 1)
  | _ => false
theorem good_pair {k : RK} (h : goodK k = true) : ∃ l t, k = .pair (some l) (some t) ∧ -1 ≤ l ∧ l ≤ 24 ∧ l + 1 ≤ t ∧ t ≤ 25 := by
  cases k with
  | bad => cases h
  | pair o1 o2 =>
    cases o1 with
    | none => simp [goodK, inNext] at h
    | some l =>
      cases o2 with
      | none => simp [goodK, inNext, inR] at h
      | some t =>
        simp only [goodK, inNext, inR, Bool.and_eq_true, decide_eq_true_eq] at h
        exact ⟨l, t, rfl, h.1.1, h.1.2, h.2.1, h.2.2⟩
theorem iteNN {c A B : Prop} [Decidable c] (hc : ¬ c) (h : A) : if (!decide c) = true then A else B := by rw [if_pos (by rw [decide_eq_false hc]; rfl)]; exact h
theorem thing_int {H : Hp} {x : V} {l : Int} (h : Thing H x (some l)) : x = .int l := by cases h; rfl
def kat (ks : List RK) (i : Nat) : RK := ks.getD i .bad
theorem kat_get {ks : List RK} {i : Nat} {k : RK} (h : ks[i]? = some k) : kat ks i = k := by unfold kat; rw [List.getD, h]; rfl
/-- the number of the first thing that is wrong -/
def Due (ks : List RK) (r : Option Nat) : Prop :=
  (r = none ∧ (∀ j < ks.length, goodK (kat ks j) = true) ∧ lastOk (kat ks (ks.length - 1)) = true) ∨
  ∃ k, r = some k ∧ k < ks.length ∧ (∀ j < k, goodK (kat ks j) = true) ∧ (goodK (kat ks k) = false ∨ (k = ks.length - 1 ∧ lastOk (kat ks k) = false))
theorem Due.uniq {ks : List RK} {r r' : Option Nat} (hp : 0 < ks.length) (h : Due ks r) (h' : Due ks r') : r = r' := by
  rcases h with ⟨rfl, g, l⟩ | ⟨k, rfl, hk, g, b⟩
  · rcases h' with ⟨rfl, _⟩ | ⟨k', rfl, hk', g', b'⟩
    · rfl
    · rcases b' with b' | ⟨rfl, b'⟩
      · rw [g k' hk'] at b'; cases b'
      · rw [l] at b'; cases b'
  · rcases h' with ⟨rfl, g', l'⟩ | ⟨k', rfl, hk', g', b'⟩
    · rcases b with b | ⟨rfl, b⟩
      · rw [g' k hk] at b; cases b
      · rw [l'] at b; cases b
    · congr 1
      rcases Nat.lt_trichotomy k k' with c | c | c
      · rcases b with b | ⟨rfl, _⟩
        · rw [g' k c] at b; cases b
        · omega
      · exact c
      · rcases b' with b' | ⟨rfl, _⟩
        · rw [g k' c] at b'; cases b'
        · omega
def oI (r : Option Nat) : Option Int := r.map fun (n : Nat) => (n : Int)
/-- what is handed in for a table, and the number that it is refused with -/
inductive TT (H : Hp) : V → Option Int → Prop
  | non : TT H .non (some 0)
  | str (t : Str) : TT H (.str t) (some 0)
  | tup (p : Addr) (xs : List V) (h : H p = some (.tup xs)) : TT H (.ref p) (some 0)
  | nil (p : Addr) (h : H p = some (.lst [])) : TT H (.ref p) (some 0)
  | long (p : Addr) (xs : List V) (h : H p = some (.lst xs)) (hl : 24 < xs.length) : TT H (.ref p) (some 24)
  | lst (p : Addr) (xs : List V) (ks : List RK) (r : Option Nat) (h : H p = some (.lst xs)) (t : AllK H ks xs) (h0 : 0 < xs.length) (h1 : xs.length ≤ 24) (hd : Due ks r) : TT H (.ref p) (oI r)
theorem TT.same {H H' : Hp} {x : V} {r : Option Int} (s : Same H H') (h : TT H x r) : TT H' x r := by
  cases h with
  | non => exact .non
  | str t => exact .str t
  | tup p xs h => exact .tup p xs (s _ _ h)
  | nil p h => exact .nil p (s _ _ h)
  | long p xs h hl => exact .long p xs (s _ _ h) hl
  | lst p xs ks r h t h0 h1 hd => exact .lst p xs ks r (s _ _ h) (t.same s) h0 h1 hd
def kR (r : Rw) : RK := .pair (some r.1) (some r.2)
theorem AllR.k {H : Hp} : ∀ {rs : List Rw} {xs : List V}, AllR H rs xs → AllK H (rs.map kR) xs
  | _, _, .nil => .nil
  | _, _, .cons ⟨p, e, h⟩ t => .cons (by rw [e]; exact .pair p _ _ _ _ h (.int _) (.int _)) (AllR.k t)
theorem kat_map {rs : List Rw} {i : Nat} {r : Rw} (h : rs[i]? = some r) : kat (rs.map kR) i = kR r := kat_get (by rw [List.getElem?_map, h]; rfl)
theorem goodR {r : Rw} (h : OkR r) : goodK (kR r) = true := by
  obtain ⟨h1, h2, h3, h4⟩ := h
  show (inR (-1) 24 (some r.1) && inR (r.1 + 1) 25 (some r.2)) = true
  rw [inR_yes h1 h2, inR_yes (by omega) h4]; rfl
theorem Tab.due {rs : List Rw} (t : Tab rs) : Due (rs.map kR) none := by
  have hp := t.pos
  refine .inl ⟨rfl, fun j hj => ?_, ?_⟩
  · rw [List.length_map] at hj
    have e := List.getElem?_eq_getElem hj
    rw [kat_map e]
    exact goodR (t.ok _ (List.getElem_mem hj))
  · rw [List.length_map]
    have e := List.getElem?_eq_getElem (show rs.length - 1 < rs.length by omega)
    rw [kat_map e]
    exact decide_eq_true (t.last _ e)
/-- it is refused -/
def RefN (a : Ad) (H : Hp) (E : XK) (k : Int) : Prop := ∀ H' dx, Same H H' → H' dx = some (.ext (XDct dx [("row", .int k)])) → E (.ref a.c_NoTable) (some dx) H'
theorem RefN.same {a : Ad} {H H' : Hp} {E : XK} {k : Int} (s : Same H H') (h : RefN a H E k) : RefN a H' E k := fun H2 dx s2 e => h H2 dx (s.trans s2) e
def Ref (a : Ad) (H : Hp) (E : XK) : Prop := ∀ H', Same H H' → E (.ref a.c_NoLot) none H'
theorem Ref.same {a : Ad} {H H' : Hp} {E : XK} (s : Same H H') (h : Ref a H E) : Ref a H' E := fun H2 s2 => h H2 (s.trans s2)
def spI1 (c : Addr) (f1 : Str) : Sp := fun vs H Q _ => ∃ (x : Addr) (m : Int), vs = [.ref x, .int m] ∧ H x = some (.ext (XD0 x c)) ∧
  ∀ dx, H dx = none → dx ≠ x → Q .non (upd (upd H dx (.ext (XDct dx [(f1, .int m)]))) x (.ext (XD1 x c dx)))
theorem len1 {c : Addr} {f1 : Str} : ∀ vs H Q E, spI1 c f1 vs H Q E → vs.length ≤ 100 := by
  rintro _ _ _ _ ⟨_, _, rfl, _⟩; exact (by decide : 2 ≤ 100)
def spRowK : Sp := fun vs H Q _ => ∃ (x : V) (k : RK), vs = [x] ∧ RT H x k ∧ Q (.bl (goodK k)) H
def spNeedG (a : Ad) : Sp := fun vs H Q E => ∃ (v : V) (r : Option Int), vs = [v] ∧ TT H v r ∧ (r = none → ∀ H', Same H H' → Q .non H') ∧ ∀ k, r = some k → RefN a H E k
section
variable {P : Program} {w : World} {K : PySem.W.Frag} {mg : Str → Option Value} {base : Heap} {a : Ad}
theorem ok_cell (T : Txt K mg a) : FnOk P w K mg base CX0 1 a.f_L_cell a.d_L_cell ["_law_script", "_law_k"] (spCell K) := by
  refine T.F_L_cell.ok sc_L_cell (fun vs H Q E h => ?_) (fun cdv A outer s H vs Q E hr h => ?_)
  · obtain ⟨p, ns, k, rfl, _⟩ := h; rfl
  · obtain ⟨p, ns, k, rfl, hS, hl, h0, h1, q⟩ := h
    refine ⟨_, (pss_cons (ps_if (t_cmp o_lt (vr 1) (pe_callB call_lenM rfl T.z_len bt_len (pa_cons (vr 0) pa_nil)) (nomark _)) (pss_one (ps_ret (pe_ix ix_seq (vr 0) (vr 1) (fun _ _ => rfl)))) pss_nil) (pss_one (ps_ret (pe_op o_add (pe_op o_mulB pe_int (vr 1)) pe_int)))), ?_⟩
    refine ⟨ns.map V.int, .inl hS, ?_⟩
    rw [List.length_map]
    refine ite2 (fun c => ?_) (fun c => ?_)
    · have c' : k < (ns.length : Int) := of_decide_eq_true c
      refine .inl ⟨p, _, k, .int (ns.getD k.toNat 0), rfl, rfl, hS, ?_, q _⟩
      have e : ((k.toNat : Nat) : Int) = k := by omega
      rw [← e]
      refine atI_nat ?_
      have hk : k.toNat < ns.length := by omega
      rw [e]
      simp [List.getElem?_map, List.getD, hk]
    · exact ⟨clB, q _⟩
theorem ok_mixed (T : Txt K mg a) : FnOk P w K mg base CX0 1 a.f_L_mixed a.d_L_mixed ["_law_cell_here", "_law_k"] spMixed := by
  refine T.F_L_mixed.ok sc_L_mixed (fun vs H Q E h => ?_) (fun cdv A outer s H vs Q E hr h => ?_)
  · obtain ⟨c, k, rfl, _⟩ := h; rfl
  · obtain ⟨c, k, rfl, h0, h1, q0⟩ := h
    refine ⟨_, (pss_cons (ps_if (t_cmp o_eq (pe_op o_mod (vr 0) pe_int) pe_int (nomark _)) (pss_one (ps_ret (pe_op o_mod (pe_op o_shr (vr 0) (pe_op o_add pe_int (pe_op o_mulB pe_int (vr 1)))) (pe_op o_pow pe_int pe_int)))) pss_nil) (pss_cons (ps_set (i := 2) sc_L_mixed.nd rfl (Or.inl rfl) (pe_op o_mod (pe_op o_add (vr 0) (pe_op o_mulB pe_int (vr 1))) pe_int)) (pss_cons (ps_set (i := 2) sc_L_mixed.nd rfl (Or.inl rfl) (pe_op o_mod (pe_op o_add (pe_op o_mulB (vr 2) pe_int) (vr 1)) pe_int)) (pss_cons (ps_set (i := 2) sc_L_mixed.nd rfl (Or.inl rfl) (pe_op o_mod (pe_op o_mulB (vr 2) (pe_op o_add (vr 2) pe_int)) pe_int)) (pss_one (ps_ret (pe_op o_mod (pe_op o_mulB (vr 2) (pe_op o_add (vr 2) pe_int)) pe_int))))))), ?_⟩
    have q := q0 (mixed c k) (mixed_bd c k).1 (mixed_bd c k).2
    unfold mixed at q
    refine ⟨cp, ?_⟩
    refine ite2 (fun e => ?_) (fun e => ?_)
    · rw [if_pos (of_decide_eq_true e)] at q
      exact ⟨clB, cn (by omega), cw, cp, q⟩
    · rw [if_neg (fun z => e (decide_eq_true z))] at q
      exact ⟨clB, cp, crB, cp, clB (by omega) (by omega), cp, clB (by omega) (by omega), cp, q⟩
theorem ok_whole3 (T : Txt K mg a) : FnOk P w K mg base CX0 1 a.f_is_whole a.d_is_whole ["thing", "low", "high"] spWhole3 := by
  refine T.F_is_whole.ok sc_is_whole (fun vs H Q E h => ?_) (fun cdv A outer s H vs Q E hr h => ?_)
  · obtain ⟨x, lo, hi, o, rfl, _⟩ := h; rfl
  · obtain ⟨x, lo, hi, o, rfl, th, q⟩ := h
    refine ⟨_, (pss_one (ps_ret (m_and (pe_callB call_isi rfl T.z_isinstance bt_isinstance (pa_cons (vr 0) (pa_cons (pe_bltn (v := .ty "int") rfl T.z_int bt_int rfl) pa_nil))) (m_and (m_not (pe_callB call_isi rfl T.z_isinstance bt_isinstance (pa_cons (vr 0) (pa_cons (pe_bltn (v := .ty "bool") rfl T.z_bool bt_bool rfl) pa_nil)))) (pe_one (m_chain o_le o_le (vr 1) (vr 0) (vr 2))))))), ?_⟩
    cases th with
    | int i =>
      refine ⟨_, _, _, true, rfl, rfl, .int i, rfl, ?_⟩
      refine ⟨_, _, _, false, rfl, rfl, .int i, rfl, ?_⟩
      exact and_if (Q := fun v => Q v H) q
    | bl b => exact ⟨_, _, _, true, rfl, rfl, .bl b, rfl, ⟨_, _, _, true, rfl, rfl, .bl b, rfl, q⟩⟩
    | non => exact ⟨_, _, _, false, rfl, rfl, .non, rfl, q⟩
    | str t => exact ⟨_, _, _, false, rfl, rfl, .str t, rfl, q⟩
    | lst p xs e => exact ⟨_, _, _, false, rfl, rfl, .lst e, rfl, q⟩
    | tup p xs e => exact ⟨_, _, _, false, rfl, rfl, .tup e, rfl, q⟩
    | dK p kvs e => exact ⟨_, _, _, false, rfl, rfl, .dK e, rfl, q⟩
theorem ok_rowK (T : Txt K mg a) : FnOk P w K mg base CX0 2 a.f_is_row a.d_is_row ["thing"] spRowK := by
  have G_is_whole : FnOk P w K mg base CX0 1 _ _ _ spWhole3 := ok_whole3 T
  refine T.F_is_row.ok sc_is_row (fun vs H Q E h => ?_) (fun cdv A outer s H vs Q E hr h => ?_)
  · obtain ⟨x, k, rfl, _⟩ := h; rfl
  · obtain ⟨x, k, rfl, hR, q⟩ := h
    refine ⟨_, (pss_one (ps_ret (m_and (pe_callB call_isi rfl T.z_isinstance bt_isinstance (pa_cons (vr 0) (pa_cons (pe_bltn (v := .ty "tuple") rfl T.z_tuple bt_tuple rfl) pa_nil))) (m_and (pe_cmpR o_eq (pe_callB call_lenM rfl T.z_len bt_len (pa_cons (vr 0) pa_nil)) pe_int (nomark _)) (m_and (pe_call G_is_whole hr rfl T.m_is_whole T.F_is_whole.kp T.B_is_whole .nil pass0 (pa_cons (pe_ix ix_seq (vr 0) pe_int (fun _ _ => rfl)) (pa_cons (pe_un u_neg pe_int) (pa_cons (pe_gl rfl T.g_MOST_LET) pa_nil)))) (pe_one (pe_call G_is_whole hr rfl T.m_is_whole T.F_is_whole.kp T.B_is_whole .nil pass0 (pa_cons (pe_ix ix_seq (vr 0) pe_int (fun _ _ => rfl)) (pa_cons (pe_op o_add (pe_ix ix_seq (vr 0) pe_int (fun _ _ => rfl)) pe_int) (pa_cons (pe_gl rfl T.g_MOST_TURN) pa_nil)))))))))), ?_⟩
    cases hR with
    | non => exact ⟨_, _, _, false, rfl, rfl, .non, rfl, q⟩
    | str t => exact ⟨_, _, _, false, rfl, rfl, .str t, rfl, q⟩
    | lst p xs h => exact ⟨_, _, _, false, rfl, rfl, .lst h, rfl, q⟩
    | tup p xs h hl =>
      refine ⟨_, _, _, true, rfl, rfl, .tup h, rfl, ⟨_, .inr (SqT.of h), ?_⟩⟩
      have e : ¬ ((xs.length : Int) = 2) := by omega
      exact ifN e q
    | pair p x y o1 o2 h t1 t2 =>
      refine ⟨_, _, _, true, rfl, rfl, .tup h, rfl, ⟨_, .inr (SqT.of h), ?_⟩⟩
      refine .inr (.inl ⟨p, _, _, _, rfl, rfl, SqT.of h, atI_cons 0 rfl rfl, ?_⟩)
      refine ⟨_, _, _, _, rfl, t1, ?_⟩
      cases e1 : inR (-1) 24 o1 with
      | false =>
        have q' : Q (.bl (inR (-1) 24 o1 && inNext o1 o2)) H := q
        rw [e1] at q'
        exact q'
      | true =>
        obtain ⟨l, rfl⟩ : ∃ l, o1 = some l := by cases o1 with | none => cases e1 | some l => exact ⟨l, rfl⟩
        obtain rfl := thing_int t1
        have q' : Q (.bl (inR (-1) 24 (some l) && inR (l + 1) 25 o2)) H := q
        rw [e1, Bool.true_and] at q'
        refine .inr (.inl ⟨p, _, _, _, rfl, rfl, SqT.of h, atI_cons 1 rfl rfl, ?_⟩)
        refine .inr (.inl ⟨p, _, _, _, rfl, rfl, SqT.of h, atI_cons 0 rfl rfl, ?_⟩)
        exact ⟨_, _, _, _, rfl, t2, q'⟩
theorem oi_NoTable (T : Txt K mg a) : FnOk P w K mg base CX0 1 a.i_NoTable a.e_NoTable ["self", "row"] (spI1 a.c_NoTable "row") := by
  refine T.Fi_NoTable.ok sc_NoTable___init__ (fun vs H Q E h => ?_) (fun cdv A outer s H vs Q E hr h => ?_)
  · obtain ⟨x, m, rfl, _⟩ := h; rfl
  · obtain ⟨x, m, rfl, hx, q⟩ := h
    obtain ⟨cd1, s1⟩ := T.sx_NoTable_row
    refine ⟨_, (pss_one (ps_fldX (vr 0) (vr 1) rfl)), ?_⟩
    exact ⟨x, a.c_NoTable, cd1, rfl, s1, .inl ⟨hx, fun dx hd hne => q dx hd hne⟩⟩
theorem neg1 {n : Nat} (h : 0 < n) : ixN n (-1) = some (n - 1) := by
  unfold ixN
  rw [if_neg (by decide), if_pos (by omega)]
  congr 1
  omega
theorem last_get {xs : List V} (h : 0 < xs.length) : ∃ x, xs[xs.length - 1]? = some x ∧ atI xs (-1) = some x := by
  refine ⟨xs[xs.length - 1], List.getElem?_eq_getElem (by omega), ?_⟩
  unfold atI
  rw [neg1 h]
  exact List.getElem?_eq_getElem (by omega)
theorem ok_word (T : Txt K mg a) : FnOk P w K mg base CX0 1 a.f_word_of a.d_word_of ["row", "found"] spWord := by
  refine T.F_word_of.ok sc_word_of (fun vs H Q E h => ?_) (fun cdv A outer s H vs Q E hr h => ?_)
  · obtain ⟨x, r, f, rfl, _⟩ := h; rfl
  · obtain ⟨x, r, f, rfl, ⟨p, rfl, hp⟩, q⟩ := h
    refine ⟨_, (pss_cons (ps_asg (vr 0) (pg_tup rfl (pgs_cons (pg_name (i := 2) sc_word_of.nd rfl (Or.inl rfl)) (pgs_cons (pg_name (i := 3) sc_word_of.nd rfl (Or.inl rfl)) pgs_nil)))) (pss_cons (ps_if (t_cmp o_le (vr 1) (vr 2) (nomark _)) (pss_one (ps_ret pe_str)) pss_nil) (pss_cons (ps_if (t_cmp o_ge (vr 1) (vr 3) (nomark _)) (pss_one (ps_ret pe_str)) pss_nil) (pss_one (ps_ret pe_str))))), ?_⟩
    refine ⟨p, _, rfl, SqT.of hp, rfl, _, _, rfl, _, _, rfl, rfl, ?_⟩
    unfold wd at q
    refine ifC (fun c => ?_) (fun c => ?_)
    · rw [if_pos c] at q; exact q
    · rw [if_neg c] at q
      refine ifC (fun c2 => ?_) (fun c2 => ?_)
      · rw [if_pos c2] at q; exact q
      · rw [if_neg c2] at q; exact q
end
end My

set_option Elab.async false
set_option linter.all false
set_option maxRecDepth 100000
set_option maxHeartbeats 4000000
namespace My
open PySem L2 FrM
def spInitG (a : Ad) : Sp := fun vs H Q E => ∃ (x dx : Addr) (v : V) (r : Option Int), vs = [.ref x, v] ∧ H x = some (.ins a.c_Looks dx []) ∧ TT H v r ∧ (r = none → ∀ H', (∀ b o, b ≠ x → H b = some o → H' b = some o) → Q .non H') ∧ ∀ k, r = some k → RefN a H E k
section
variable {P : Program} {w : World} {K : PySem.W.Frag} {mg : Str → Option Value} {base : Heap} {a : Ad}
theorem ok_needG (T : Txt K mg a) : FnOk P w K mg base (CXG P w) 3 a.f_need_table a.d_need_table ["rows"] (spNeedG a) := by
  have G_is_row : FnOk P w K mg base CX0 2 _ _ _ spRowK := ok_rowK T
  have G_NoTable : FnOk P w K mg base CX0 1 _ _ _ (spI1 a.c_NoTable "row") := oi_NoTable T
  refine T.F_need_table.okG sc_need_table (fun vs H Q E h => ?_) (fun cdv A outer s H vs Q E hr h => ?_)
  · obtain ⟨v, r, rfl, _⟩ := h; rfl
  · obtain ⟨v, r, rfl, hT, q1, q2⟩ := h
    refine ⟨_, (pss_cons (ps_if (PW.pt (pw_or (pt_not (t_val (pe_callB call_isi rfl T.z_isinstance bt_isinstance (pa_cons (vr 0) (pa_cons (pe_bltn (v := .ty "list") rfl T.z_list bt_list rfl) pa_nil))))) (pw_or1 (pt_not (pt_truth (vr 0) (fun _ => rfl)))))) (pss_one (ps_raiseG T.xc_NoTable T.xh_NoTable (pe_mkX T.xi_NoTable T.kc_NoTable T.fn_NoTable G_NoTable hr rfl T.mc_NoTable T.Bi_NoTable (pa_cons pe_int pa_nil) len1))) pss_nil) (pss_cons (ps_if (t_cmp o_gt (pe_callB call_lenM rfl T.z_len bt_len (pa_cons (vr 0) pa_nil)) (pe_gl rfl T.g_MOST_ROWS) (nomark _)) (pss_one (ps_raiseG T.xc_NoTable T.xh_NoTable (pe_mkX T.xi_NoTable T.kc_NoTable T.fn_NoTable G_NoTable hr rfl T.mc_NoTable T.Bi_NoTable (pa_cons (pe_gl rfl T.g_MOST_ROWS) pa_nil) len1))) pss_nil) (pss_cons (ps_for ownG rfl (pi_enum rfl T.z_enumerate (pa_cons (vr 0) pa_nil)) (pg_tup rfl (pgs_cons (pg_name (i := 1) sc_need_table.nd rfl (Or.inl rfl)) (pgs_cons (pg_name (i := 2) sc_need_table.nd rfl (Or.inl rfl)) pgs_nil))) (pss_one (ps_if (pt_not (t_val (pe_call G_is_row hr rfl T.m_is_row T.F_is_row.kp T.B_is_row .nil pass0 (pa_cons (vr 2) pa_nil)))) (pss_one (ps_raiseG T.xc_NoTable T.xh_NoTable (pe_mkX T.xi_NoTable T.kc_NoTable T.fn_NoTable G_NoTable hr rfl T.mc_NoTable T.Bi_NoTable (pa_cons (vr 1) pa_nil) len1))) pss_nil))) (pss_one (ps_if (t_cmp o_ne (pe_ix ix_seq (pe_ix ix_seq (vr 0) (pe_un u_neg pe_int) (fun _ _ => rfl)) pe_int (fun _ _ => rfl)) (pe_op o_add (pe_ix ix_seq (pe_ix ix_seq (vr 0) (pe_un u_neg pe_int) (fun _ _ => rfl)) pe_int (fun _ _ => rfl)) pe_int) (nomark _)) (pss_one (ps_raiseG T.xc_NoTable T.xh_NoTable (pe_mkX T.xi_NoTable T.kc_NoTable T.fn_NoTable G_NoTable hr rfl T.mc_NoTable T.Bi_NoTable (pa_cons (pe_op o_sub (pe_callB call_lenM rfl T.z_len bt_len (pa_cons (vr 0) pa_nil)) pe_int) pa_nil) len1))) pss_nil))))), ?_⟩
    cases hT with
    | non =>
      refine ⟨_, _, _, false, rfl, rfl, .non, rfl, ?_⟩
      intro y hy
      refine ⟨y, _, rfl, upd_same, fun dz hd hne => ⟨rfl, y, some dz, _, rfl, upd_same, fun h z => z, (Same.refl H).free hy, ?_⟩⟩
      have hd' : H dz = none := by rw [upd_ne hne] at hd; exact hd
      refine q2 0 rfl _ dz (fun b o e => ?_) ?_
      · have e' := (Same.refl H) _ _ e
        have b1 : b ≠ y := fun z => by rw [z, hy] at e'; cases e'
        have b2 : b ≠ dz := fun z => by rw [z, hd'] at e'; cases e'
        rw [untr_ne b1, upd_ne b1, upd_ne b2, upd_ne b1]
        exact e'
      · rw [untr_ne hne, upd_ne hne]
        exact upd_same
    | str t =>
      refine ⟨_, _, _, false, rfl, rfl, .str t, rfl, ?_⟩
      intro y hy
      refine ⟨y, _, rfl, upd_same, fun dz hd hne => ⟨rfl, y, some dz, _, rfl, upd_same, fun h z => z, (Same.refl H).free hy, ?_⟩⟩
      have hd' : H dz = none := by rw [upd_ne hne] at hd; exact hd
      refine q2 0 rfl _ dz (fun b o e => ?_) ?_
      · have e' := (Same.refl H) _ _ e
        have b1 : b ≠ y := fun z => by rw [z, hy] at e'; cases e'
        have b2 : b ≠ dz := fun z => by rw [z, hd'] at e'; cases e'
        rw [untr_ne b1, upd_ne b1, upd_ne b2, upd_ne b1]
        exact e'
      · rw [untr_ne hne, upd_ne hne]
        exact upd_same
    | tup p xs h =>
      refine ⟨_, _, _, false, rfl, rfl, .tup h, rfl, ?_⟩
      intro y hy
      refine ⟨y, _, rfl, upd_same, fun dz hd hne => ⟨rfl, y, some dz, _, rfl, upd_same, fun h z => z, (Same.refl H).free hy, ?_⟩⟩
      have hd' : H dz = none := by rw [upd_ne hne] at hd; exact hd
      refine q2 0 rfl _ dz (fun b o e => ?_) ?_
      · have e' := (Same.refl H) _ _ e
        have b1 : b ≠ y := fun z => by rw [z, hy] at e'; cases e'
        have b2 : b ≠ dz := fun z => by rw [z, hd'] at e'; cases e'
        rw [untr_ne b1, upd_ne b1, upd_ne b2, upd_ne b1]
        exact e'
      · rw [untr_ne hne, upd_ne hne]
        exact upd_same
    | nil p h =>
      refine ⟨_, _, _, true, rfl, rfl, .lst h, rfl, ⟨_, .inl ⟨[], SqL.of h, rfl⟩, ?_⟩⟩
      intro y hy
      refine ⟨y, _, rfl, upd_same, fun dz hd hne => ⟨rfl, y, some dz, _, rfl, upd_same, fun h z => z, (Same.refl H).free hy, ?_⟩⟩
      have hd' : H dz = none := by rw [upd_ne hne] at hd; exact hd
      refine q2 0 rfl _ dz (fun b o e => ?_) ?_
      · have e' := (Same.refl H) _ _ e
        have b1 : b ≠ y := fun z => by rw [z, hy] at e'; cases e'
        have b2 : b ≠ dz := fun z => by rw [z, hd'] at e'; cases e'
        rw [untr_ne b1, upd_ne b1, upd_ne b2, upd_ne b1]
        exact e'
      · rw [untr_ne hne, upd_ne hne]
        exact upd_same
    | long p xs h hl =>
      refine ⟨_, _, _, true, rfl, rfl, .lst h, rfl, ⟨_, .inl ⟨xs, SqL.of h, rfl⟩, ?_⟩⟩
      have e1 : xs.isEmpty = false := by cases xs with | nil => simp at hl | cons _ _ => rfl
      rw [e1]
      refine ⟨_, .inl (SqL.of h), ?_⟩
      refine ifP (by show (xs.length : Int) > 24; omega) ?_
      intro y hy
      refine ⟨y, _, rfl, upd_same, fun dz hd hne => ⟨rfl, y, some dz, _, rfl, upd_same, fun h z => z, (Same.refl H).free hy, ?_⟩⟩
      have hd' : H dz = none := by rw [upd_ne hne] at hd; exact hd
      refine q2 24 rfl _ dz (fun b o e => ?_) ?_
      · have e' := (Same.refl H) _ _ e
        have b1 : b ≠ y := fun z => by rw [z, hy] at e'; cases e'
        have b2 : b ≠ dz := fun z => by rw [z, hd'] at e'; cases e'
        rw [untr_ne b1, upd_ne b1, upd_ne b2, upd_ne b1]
        exact e'
      · rw [untr_ne hne, upd_ne hne]
        exact upd_same
    | lst p xs ks r h t h0 h1 hd =>
      refine ⟨_, _, _, true, rfl, rfl, .lst h, rfl, ⟨_, .inl ⟨xs, SqL.of h, rfl⟩, ?_⟩⟩
      have e1 : xs.isEmpty = false := by cases xs with | nil => simp at h0 | cons _ _ => rfl
      rw [e1]
      have kl : ks.length = xs.length := Paired.length t
      refine ⟨_, .inl (SqL.of h), ?_⟩
      refine ifN (by show ¬ ((xs.length : Int) > 24); omega) ?_
      refine ⟨p, _, rfl, h, for_enum (a := p) (xs := xs) (fun i σ H' => Same H H' ∧ i ≤ xs.length ∧ (∀ j < i, goodK (kat ks j) = true) ∧ ∃ (x1 x2 : Option V), σ = [some (.ref p), x1, x2]) ⟨Same.refl H, Nat.zero_le _, (fun j hj => absurd hj (Nat.not_lt_zero _)), none, none, rfl⟩ (fun i σ H' h' => h'.1 _ _ h) ?_ ?_⟩
      · rintro i x σ H1 pt hx ⟨s1, hi, hg, x1, x2, rfl⟩ hpt
        obtain ⟨k, hk, hR⟩ := pget t hx
        have hlt : i < xs.length := (List.getElem?_eq_some_iff.mp hx).1
        have s2 := Same.new (o := .tup [.int (i : Nat), x]) hpt
        refine ⟨pt, _, rfl, SqT.of upd_same, rfl, _, _, rfl, _, _, rfl, rfl, ?_⟩
        have s3 := s1.trans s2
        generalize upd H1 pt (.tup [.int (i : Nat), x]) = H2 at s2 s3
        refine ⟨x, k, rfl, hR.same s3, ?_⟩
        cases eg : goodK k with
        | true =>
          refine ⟨s3, hlt, fun j hj => ?_, _, _, rfl⟩
          rcases Nat.lt_or_ge j i with c | c
          · exact hg j c
          · have : j = i := by omega
            subst this
            rw [kat_get hk]; exact eg
        | false =>
          have er : r = some i := hd.uniq (by omega) (.inr ⟨i, rfl, by omega, hg, .inl (by rw [kat_get hk]; exact eg)⟩)
          intro y hy
          refine ⟨y, _, rfl, upd_same, fun dz hd hne => ⟨rfl, y, some dz, _, rfl, upd_same, fun h z => z, (s3).free hy, ?_⟩⟩
          have hd' : H2 dz = none := by rw [upd_ne hne] at hd; exact hd
          refine q2 (i : Nat) (by rw [er]; rfl) _ dz (fun b o e => ?_) ?_
          · have e' := (s3) _ _ e
            have b1 : b ≠ y := fun z => by rw [z, hy] at e'; cases e'
            have b2 : b ≠ dz := fun z => by rw [z, hd'] at e'; cases e'
            rw [untr_ne b1, upd_ne b1, upd_ne b2, upd_ne b1]
            exact e'
          · rw [untr_ne hne, upd_ne hne]
            exact upd_same
      · rintro σ H1 ⟨s1, _, hg, x1, x2, rfl⟩
        obtain ⟨x, hx, hat⟩ := last_get (xs := xs) (by omega)
        obtain ⟨k, hk, hR⟩ := pget t hx
        have gk := hg (xs.length - 1) (by omega)
        rw [kat_get hk] at gk
        obtain ⟨l, tu, rfl, _⟩ := good_pair gk
        have hl1 := s1 _ _ h
        have hR1 := hR.same s1
        cases hR1 with
        | pair pp x y _ _ hpp t1 t2 =>
          obtain rfl := thing_int t1
          obtain rfl := thing_int t2
          refine .inl ⟨p, _, _, _, rfl, rfl, SqL.of hl1, hat, ?_⟩
          refine .inr (.inl ⟨pp, _, _, _, rfl, rfl, SqT.of hpp, atI_cons 1 rfl rfl, ?_⟩)
          refine .inl ⟨p, _, _, _, rfl, rfl, SqL.of hl1, hat, ?_⟩
          refine .inr (.inl ⟨pp, _, _, _, rfl, rfl, SqT.of hpp, atI_cons 0 rfl rfl, ?_⟩)
          by_cases c : tu = l + 1
          · refine iteNS c ?_
            have er : r = none := hd.uniq (by omega) (.inl ⟨rfl, fun j hj => hg j (by omega), by rw [kl, kat_get hk]; exact decide_eq_true c⟩)
            exact q1 (by rw [er]; rfl) _ s1
          · have er : r = some (xs.length - 1) := hd.uniq (by omega) (.inr ⟨xs.length - 1, rfl, by omega, fun j hj => hg j (by omega), .inr ⟨by omega, by rw [kat_get hk]; exact decide_eq_false c⟩⟩)
            refine iteNN c ?_
            refine ⟨_, .inl (SqL.of hl1), ?_⟩
            have e9 : ((xs.length : Int) - 1) = ((xs.length - 1 : Nat) : Int) := by omega
            have q3 : RefN a H E ((xs.length : Int) - 1) := by rw [e9]; exact q2 _ (by rw [er]; rfl)
            intro y hy
            refine ⟨y, _, rfl, upd_same, fun dz hd hne => ⟨rfl, y, some dz, _, rfl, upd_same, fun h z => z, (s1).free hy, ?_⟩⟩
            have hd' : H1 dz = none := by rw [upd_ne hne] at hd; exact hd
            refine q3 _ dz (fun b o e => ?_) ?_
            · have e' := (s1) _ _ e
              have b1 : b ≠ y := fun z => by rw [z, hy] at e'; cases e'
              have b2 : b ≠ dz := fun z => by rw [z, hd'] at e'; cases e'
              rw [untr_ne b1, upd_ne b1, upd_ne b2, upd_ne b1]
              exact e'
            · rw [untr_ne hne, upd_ne hne]
              exact upd_same
theorem oi_LooksG (T : Txt K mg a) : FnOk P w K mg base (CXG P w) 4 a.i_Looks a.e_Looks ["self", "rows"] (spInitG a) := by
  have G_need_table : FnOk P w K mg base (CXG P w) 3 _ _ _ (spNeedG a) := ok_needG T
  refine T.Fi_Looks.okG sc_Looks___init__ (fun vs H Q E h => ?_) (fun cdv A outer s H vs Q E hr h => ?_)
  · obtain ⟨x, dx, v, r, rfl, _⟩ := h; rfl
  · obtain ⟨x, dx, v, r, rfl, hx, hT, q1, q2⟩ := h
    refine ⟨_, (pss_cons (ps_expr (pe_call G_need_table hr rfl T.m_need_table T.F_need_table.kp T.B_need_table .nil passG (pa_cons (vr 1) pa_nil))) (pss_one (ps_fld (vr 0) (pe_callTy call_tuple_of rfl T.z_tuple bt_tuple (pa_cons (vr 1) pa_nil)) rfl))), ?_⟩
    refine ⟨v, r, rfl, hT, fun er H1 s1 => ?_, q2⟩
    subst er
    obtain ⟨p, xs, rfl, hp⟩ : ∃ p xs, v = .ref p ∧ H p = some (.lst xs) := by
      generalize hr : (none : Option Int) = r0 at hT
      cases hT with
      | lst p xs ks r h t h0 h1 hd => exact ⟨p, xs, rfl, h⟩
      | _ => cases hr
    refine ⟨p, xs, rfl, .inl ⟨SqL.of (s1 _ _ hp), fun t htn => ?_⟩⟩
    have s2 := Same.new (o := .tup xs) htn
    exact ⟨x, _, dx, _, rfl, s2 _ _ (s1 _ _ hx), T.cl_Looks, T.na_Looks_rows, by decide, q1 rfl _ fun b o hb e => by rw [upd_ne hb]; exact s2 _ _ (s1 _ _ e)⟩
end
end My

set_option Elab.async false
set_option linter.all false
set_option maxRecDepth 100000
set_option maxHeartbeats 4000000
namespace My
open PySem L2 FrM
def spRowC : Sp := fun vs H Q _ => ∃ (x : V) (r : Rw), vs = [x] ∧ IsR H r x ∧ OkR r ∧ Q (.bl true) H
def spNeedC : Sp := fun vs H Q _ => ∃ (l : Addr) (xs : List V) (rs : List Rw), vs = [.ref l] ∧ TabAt H l xs rs ∧ ∀ H', Same H H' → Q .non H'
def spInit (a : Ad) : Sp := fun vs H Q _ => ∃ (x dx l : Addr) (xs : List V) (rs : List Rw), vs = [.ref x, .ref l] ∧ H x = some (.ins a.c_Looks dx []) ∧ TabAt H l xs rs ∧ ∀ H', (∀ b o, b ≠ x → H b = some o → H' b = some o) → LkAt a H' x rs → Q .non H'
def spTold : Sp := fun vs H Q _ => ∃ (v : V) (r : Option Int), vs = [v] ∧ TT H v r ∧ ∀ H', Same H H' → Q (match r with | none => .non | some k => .int k) H'
def spChoices : Sp := fun vs H Q _ => ∃ (m k : Int), vs = [.int m, .int k] ∧ -100 ≤ m ∧ m ≤ 100 ∧ -100 ≤ k ∧ k ≤ 100 ∧ ∀ c : Int, Q (.int c) H
def Ws (B : Int) (ws : List Int) : Prop := 0 ≤ B ∧ ∀ v ∈ ws, 0 ≤ v ∧ v ≤ B
def spMore : Sp := fun vs H Q _ => ∃ (p : Addr) (ws : List Int) (B : Int), vs = [.ref p] ∧ H p = some (.lst (ws.map V.int)) ∧ ws.length ≤ 100 ∧ Ws B ws ∧ ∀ H' r us, Same H H' → H r = none → H' r = some (.lst (us.map V.int)) → us.length = ws.length + 1 → Ws (2 * B) us → Q (.ref r) H'
section
variable {P : Program} {w : World} {K : PySem.W.Frag} {mg : Str → Option Value} {base : Heap} {a : Ad}
theorem ok_rowC (T : Txt K mg a) : FnOk P w K mg base CX0 2 a.f_is_row a.d_is_row ["thing"] spRowC := by
  have G_is_whole : FnOk P w K mg base CX0 1 _ _ _ spWhole3 := ok_whole3 T
  refine T.F_is_row.ok sc_is_row (fun vs H Q E h => ?_) (fun cdv A outer s H vs Q E hr h => ?_)
  · obtain ⟨x, r, rfl, _⟩ := h; rfl
  · obtain ⟨x, r, rfl, ⟨p, rfl, hp⟩, ⟨r1, r2, r3, r4⟩, q⟩ := h
    refine ⟨_, (pss_one (ps_ret (m_and (pe_callB call_isi rfl T.z_isinstance bt_isinstance (pa_cons (vr 0) (pa_cons (pe_bltn (v := .ty "tuple") rfl T.z_tuple bt_tuple rfl) pa_nil))) (m_and (pe_cmpR o_eq (pe_callB call_lenM rfl T.z_len bt_len (pa_cons (vr 0) pa_nil)) pe_int (nomark _)) (m_and (pe_call G_is_whole hr rfl T.m_is_whole T.F_is_whole.kp T.B_is_whole .nil pass0 (pa_cons (pe_ix ix_seq (vr 0) pe_int (fun _ _ => rfl)) (pa_cons (pe_un u_neg pe_int) (pa_cons (pe_gl rfl T.g_MOST_LET) pa_nil)))) (pe_one (pe_call G_is_whole hr rfl T.m_is_whole T.F_is_whole.kp T.B_is_whole .nil pass0 (pa_cons (pe_ix ix_seq (vr 0) pe_int (fun _ _ => rfl)) (pa_cons (pe_op o_add (pe_ix ix_seq (vr 0) pe_int (fun _ _ => rfl)) pe_int) (pa_cons (pe_gl rfl T.g_MOST_TURN) pa_nil)))))))))), ?_⟩
    refine ⟨_, _, _, true, rfl, rfl, .tup hp, rfl, ⟨_, .inr (SqT.of hp), ?_⟩⟩
    refine .inr (.inl ⟨p, _, _, _, rfl, rfl, SqT.of hp, atI_cons 0 rfl rfl, ?_⟩)
    refine ⟨_, _, _, _, rfl, .int _, ?_⟩
    rw [inR_yes r1 r2]
    refine .inr (.inl ⟨p, _, _, _, rfl, rfl, SqT.of hp, atI_cons 1 rfl rfl, ?_⟩)
    refine .inr (.inl ⟨p, _, _, _, rfl, rfl, SqT.of hp, atI_cons 0 rfl rfl, ?_⟩)
    refine ⟨_, _, _, _, rfl, .int _, ?_⟩
    rw [inR_yes (by omega) r4]
    exact q
theorem ok_needC (T : Txt K mg a) : FnOk P w K mg base CX0 3 a.f_need_table a.d_need_table ["rows"] spNeedC := by
  have G_is_row : FnOk P w K mg base CX0 2 _ _ _ spRowC := ok_rowC T
  refine T.F_need_table.ok sc_need_table (fun vs H Q E h => ?_) (fun cdv A outer s H vs Q E hr h => ?_)
  · obtain ⟨l, xs, rs, rfl, _⟩ := h; rfl
  · obtain ⟨l, xs, rs, rfl, ht, q⟩ := h
    refine ⟨_, (pss_cons (ps_if (PW.pt (pw_or (pt_not (t_val (pe_callB call_isi rfl T.z_isinstance bt_isinstance (pa_cons (vr 0) (pa_cons (pe_bltn (v := .ty "list") rfl T.z_list bt_list rfl) pa_nil))))) (pw_or1 (pt_not (pt_truth (vr 0) (fun _ => rfl)))))) (pss_one ps_never) pss_nil) (pss_cons (ps_if (t_cmp o_gt (pe_callB call_lenM rfl T.z_len bt_len (pa_cons (vr 0) pa_nil)) (pe_gl rfl T.g_MOST_ROWS) (nomark _)) (pss_one ps_never) pss_nil) (pss_cons (ps_for PassesOwn.never rfl (pi_enum rfl T.z_enumerate (pa_cons (vr 0) pa_nil)) (pg_tup rfl (pgs_cons (pg_name (i := 1) sc_need_table.nd rfl (Or.inl rfl)) (pgs_cons (pg_name (i := 2) sc_need_table.nd rfl (Or.inl rfl)) pgs_nil))) (pss_one (ps_if (pt_not (t_val (pe_call G_is_row hr rfl T.m_is_row T.F_is_row.kp T.B_is_row .nil pass0 (pa_cons (vr 2) pa_nil)))) (pss_one ps_never) pss_nil))) (pss_one (ps_if (t_cmp o_ne (pe_ix ix_seq (pe_ix ix_seq (vr 0) (pe_un u_neg pe_int) (fun _ _ => rfl)) pe_int (fun _ _ => rfl)) (pe_op o_add (pe_ix ix_seq (pe_ix ix_seq (vr 0) (pe_un u_neg pe_int) (fun _ _ => rfl)) pe_int (fun _ _ => rfl)) pe_int) (nomark _)) (pss_one ps_never) pss_nil))))), ?_⟩
    have xl := ht.xl
    have hpos := ht.tab.pos
    have hlen := ht.tab.len
    refine ⟨_, _, _, true, rfl, rfl, .lst ht.at_, rfl, ?_⟩
    refine ⟨_, .inl ⟨xs, SqL.of ht.at_, rfl⟩, ?_⟩
    have e1 : xs.isEmpty = false := by cases xs with | nil => simp at xl; omega | cons _ _ => rfl
    rw [e1]
    refine ⟨_, .inl (SqL.of ht.at_), ?_⟩
    refine ifN (by show ¬ ((xs.length : Int) > 24); omega) ?_
    refine ⟨l, _, rfl, ht.at_, for_enum (a := l) (xs := xs) (fun i σ H' => Same H H' ∧ ∃ (x1 x2 : Option V), σ = [some (.ref l), x1, x2]) ⟨Same.refl H, none, none, rfl⟩ (fun i σ H' h => h.1 _ _ ht.at_) ?_ ?_⟩
    · rintro i x σ H1 pt hx ⟨s1, x1, x2, rfl⟩ hpt
      obtain ⟨r, hr, hR⟩ := pget ht.all hx
      have s2 := Same.new (o := .tup [.int (i : Nat), x]) hpt
      refine ⟨pt, _, rfl, SqT.of upd_same, rfl, _, _, rfl, _, _, rfl, rfl, ?_⟩
      exact ⟨x, r, rfl, hR.same (s1.trans s2), ht.tab.ok _ (List.mem_of_getElem? hr), ⟨s1.trans s2, _, _, rfl⟩⟩
    · rintro σ H1 ⟨s1, x1, x2, rfl⟩
      obtain ⟨x, hx, hat⟩ := last_get (xs := xs) (by omega)
      obtain ⟨r, hr, hR⟩ := pget ht.all hx
      obtain ⟨p, rfl, hp⟩ := hR.same s1
      rw [xl] at hr
      have e2 := ht.tab.last r hr
      have hl1 := s1 _ _ ht.at_
      refine .inl ⟨l, _, _, _, rfl, rfl, SqL.of hl1, hat, ?_⟩
      refine .inr (.inl ⟨p, _, _, _, rfl, rfl, SqT.of hp, atI_cons 1 rfl rfl, ?_⟩)
      refine .inl ⟨l, _, _, _, rfl, rfl, SqL.of hl1, hat, ?_⟩
      refine .inr (.inl ⟨p, _, _, _, rfl, rfl, SqT.of hp, atI_cons 0 rfl rfl, ?_⟩)
      exact iteNS e2 (q _ s1)
theorem oi_Looks (T : Txt K mg a) : FnOk P w K mg base CX0 4 a.i_Looks a.e_Looks ["self", "rows"] (spInit a) := by
  have G_need_table : FnOk P w K mg base CX0 3 _ _ _ spNeedC := ok_needC T
  refine T.Fi_Looks.ok sc_Looks___init__ (fun vs H Q E h => ?_) (fun cdv A outer s H vs Q E hr h => ?_)
  · obtain ⟨x, dx, l, xs, rs, rfl, _⟩ := h; rfl
  · obtain ⟨x, dx, l, xs, rs, rfl, hx, ht, q⟩ := h
    refine ⟨_, (pss_cons (ps_expr (pe_call G_need_table hr rfl T.m_need_table T.F_need_table.kp T.B_need_table .nil pass0 (pa_cons (vr 1) pa_nil))) (pss_one (ps_fld (vr 0) (pe_callTy call_tuple_of rfl T.z_tuple bt_tuple (pa_cons (vr 1) pa_nil)) rfl))), ?_⟩
    refine ⟨l, xs, rs, rfl, ht, fun H1 s1 => ?_⟩
    refine ⟨l, xs, rfl, .inl ⟨SqL.of (s1 _ _ ht.at_), fun t htn => ?_⟩⟩
    have s2 := Same.new (o := .tup xs) htn
    have hx2 := s2 _ _ (s1 _ _ hx)
    have ntx : t ≠ x := fun z => by rw [z, s1 _ _ hx] at htn; cases htn
    refine ⟨x, _, dx, _, rfl, hx2, T.cl_Looks, T.na_Looks_rows, by decide, ?_⟩
    refine q _ (fun b o hb e => by rw [upd_ne hb]; exact s2 _ _ (s1 _ _ e)) ⟨⟨dx, t, xs, upd_same, by rw [upd_ne ntx]; exact upd_same, ?_⟩, ht.tab⟩
    have h3 := ht.all.same (s1.trans s2)
    exact h3.own hx2
theorem ok_told (T : Txt K mg a) : FnOk P w K mg base CX0 6 a.f_L_told a.d_L_told ["_law_rows_here"] spTold := by
  have G_Looks : FnOk P w K mg base (CXG P w) 4 _ _ _ (spInitG a) := oi_LooksG T
  refine T.F_L_told.ok sc_L_told (fun vs H Q E h => ?_) (fun cdv A outer s H vs Q E hr h => ?_)
  · obtain ⟨v, r, rfl, _⟩ := h; rfl
  · obtain ⟨v, r, rfl, hT, q⟩ := h
    refine ⟨_, (pss_cons (ps_set (i := 1) sc_L_told.nd rfl (Or.inl rfl) pe_non) (pss_cons (ps_tryN ⟨rfl, rfl⟩ (pb_one (pb1_expr (px_make T.mk_Looks G_Looks hr rfl T.mc_Looks T.Bi_Looks .nil (pa_cons (vr 0) pa_nil)))) (ph_as ⟨rfl, rfl⟩ rfl T.mc_SpeakError T.xh_SpeakError sc_L_told.nd (ie := 2) rfl rfl (fun x => (pss_cons (ps_set (i := 1) sc_L_told.nd rfl (Or.inl rfl) pe_str) (pss_one (ps_if (PW.pt (pw_and (t_val (pe_callB (call_isxK (K := K) rfl) rfl T.z_isinstance bt_isinstance (pa_cons (vr 2) (pa_cons (pe_gl rfl T.g_NoTable) pa_nil)))) (pw_and (pt_not (t_val (pe_callB (call_isxTK (K := K) rfl) rfl T.z_isinstance bt_isinstance (pa_cons (vr 2) (pa_cons (pe_tup (pa_cons (pe_gl rfl T.g_NoLot) (pa_cons (pe_gl rfl T.g_NoUnits) (pa_cons (pe_gl rfl T.g_TooMany) pa_nil)))) pa_nil))))) (pw_and1 (t_val (pe_callB (call_isxK (K := K) rfl) rfl T.z_isinstance bt_isinstance (pa_cons (vr 2) (pa_cons (pe_bltn (v := .ty "ValueError") rfl T.z_ValueError bt_ValueError rfl) pa_nil)))))))) (pss_one (ps_set (i := 1) sc_L_told.nd rfl (Or.inl rfl) (pe_fldCK (K := K) rfl (vr 2)))) pss_nil)))) ph_nil)) (pss_one (ps_ret (vr 1))))), ?_⟩
    intro x dx hx hdx hne
    have s1 := made_same (C := a.c_Looks) hx hdx
    refine ⟨x, dx, v, r, rfl, upd_same, hT.same s1, fun er H1 fr => ?_, fun k er H9 dz s9 hdz => ?_⟩
    · subst er
      exact ⟨rfl, q _ fun b o e => fr _ _ (fun z => by rw [z, hx] at e; cases e) (s1 _ _ e)⟩
    · subst er
      refine ⟨_, rfl, fun y hy => .inl ⟨T.tt, ?_⟩⟩
      have sx := Same.new (o := .ext (XCt y a.c_NoTable (some dz))) hy
      have ty : ∀ H', Same (upd H9 y (.ext (XCt y a.c_NoTable (some dz)))) H' → TyX K H' (.ref y) (.ref a.c_NoTable) := fun H' e => .inr ⟨y, _, _, rfl, rfl, T.xc_NoTable, e _ _ upd_same, fun _ z => XCt.at z⟩
      refine ⟨_, _, _, _, rfl, rfl, ty _ (Same.refl _), T.u1, ?_⟩
      refine ⟨(by decide : 3 ≤ sizeLine), fun tp htp => ?_⟩
      have st := Same.new (o := .tup [.ref a.c_NoLot, .ref a.c_NoUnits, .ref a.c_TooMany]) htp
      refine ⟨.ref y, tp, _, _, _, rfl, upd_same, rfl, ty _ st, T.u3, ?_⟩
      refine ⟨_, _, _, _, rfl, rfl, ty _ st, T.u2, ?_⟩
      obtain ⟨cd1, sx1⟩ := T.sx_NoTable_row
      refine ⟨y, _, cd1, dz, _, _, _, rfl, sx1, T.xc_NoTable, st _ _ upd_same, fun _ z => z, (sx.trans st) _ _ hdz, rfl, ?_⟩
      exact q _ (s1.trans (s9.trans (sx.trans st)))
theorem ok_choices (T : Txt K mg a) : FnOk P w K mg base CX0 1 a.f_choices a.d_choices ["many", "some"] spChoices := by
  refine T.F_choices.ok sc_choices (fun vs H Q E h => ?_) (fun cdv A outer s H vs Q E hr h => ?_)
  · obtain ⟨m, k, rfl, _⟩ := h; rfl
  · obtain ⟨m, k, rfl, m0, m1, k0, k1, q⟩ := h
    refine ⟨_, (pss_cons (ps_if (PW.pt (pw_or (t_cmp o_lt (vr 1) pe_int (nomark _)) (pw_or1 (t_cmp o_gt (vr 1) (vr 0) (nomark _))))) (pss_one (ps_ret pe_int)) pss_nil) (pss_cons (ps_set (i := 2) sc_choices.nd rfl (Or.inl rfl) pe_int) (pss_cons (ps_for PassesOwn.never rfl (pi_range1 rfl T.z_range (pa_cons (vr 1) pa_nil)) (pg_name (i := 3) sc_choices.nd rfl (Or.inl rfl)) (pss_one (ps_set (i := 2) sc_choices.nd rfl (Or.inl rfl) (pe_op o_fdivB (pe_op o_mulB (vr 2) (pe_op o_sub (vr 0) (vr 3))) (pe_op o_add (vr 3) pe_int))))) (pss_one (ps_ret (vr 2)))))), ?_⟩
    refine ifC (fun _ => q _) (fun c1 => ifC (fun _ => q _) (fun c2 => ?_))
    have c1' : 0 ≤ k := by have z : ¬ k < 0 := c1; omega
    refine ⟨k, rfl, by omega, by omega, ?_⟩
    refine for_range (lo := 0) (n := k.toNat) (fun i σ H' => H' = H ∧ ∃ (t : Int) (x3 : Option V), σ = [some (.int m), some (.int k), some (.int t), x3]) ⟨rfl, 1, none, rfl⟩ ?_ ?_
    · rintro i σ H' hi ⟨rfl, t, x3, rfl⟩
      exact ⟨crB (by omega) (by omega), cdB (by omega) (show Bt 40 (0 + (i : Int) + 1) by unfold Bt; omega), rfl, _, _, rfl⟩
    · rintro σ H' ⟨rfl, t, x3, rfl⟩
      exact q _
theorem ok_more (T : Txt K mg a) : FnOk P w K mg base CX0 1 a.f_one_more a.d_one_more ["ways"] spMore := by
  refine T.F_one_more.ok sc_one_more (fun vs H Q E h => ?_) (fun cdv A outer s H vs Q E hr h => ?_)
  · obtain ⟨p, ws, B, rfl, _⟩ := h; rfl
  · obtain ⟨p, ws, B, rfl, hp, wl, hB, q⟩ := h
    refine ⟨_, (pss_one (ps_ret (pe_comp rfl (N := ["good", "bad"]) (ix := [none, none]) ⟨rfl, rfl, rfl, rfl, trivial⟩ (pi_zip rfl T.z_zip (pa_cons (pe_op op_cat (vr 0) (pe_lst (pa_cons pe_int pa_nil))) (pa_cons (pe_op op_cat (pe_lst (pa_cons pe_int pa_nil)) (vr 0)) pa_nil))) ⟨fun C s H fp => (pg_tupK (K := K) (n := 2) rfl rfl (pgs_cons (pg_name (i := 0) (show List.Nodup (["good", "bad"] : List Str) by decide +kernel) rfl (Or.inl rfl)) (pgs_cons (pg_name (i := 1) (show List.Nodup (["good", "bad"] : List Str) by decide +kernel) rfl (Or.inl rfl)) pgs_nil))), fun C s H fp => pts_nil, fun C s H fp => (pe_op o_add (vr 0) (vr 1))⟩))), ?_⟩
    have sl : sizeLine = 16777216 := sizeLine_eq
    refine ⟨(by decide : 1 ≤ sizeLine), fun p1 hp1 => ?_⟩
    have s1 := Same.new (o := .lst [.int 0]) hp1
    refine ⟨p, p1, _, _, rfl, rfl, s1 _ _ hp, upd_same, by rw [List.length_map]; show _ + 1 ≤ _; omega, fun p2 hp2 => ?_⟩
    have e1 : ws.map V.int ++ [.int 0] = (ws ++ [0]).map V.int := by rw [List.map_append]; rfl
    rw [e1]
    have s2 := s1.trans (Same.new (o := .lst ((ws ++ [0]).map V.int)) hp2)
    have h2 := upd_same (H := upd H p1 (.lst [.int 0])) (a := p2) (o := .lst ((ws ++ [0]).map V.int))
    generalize upd (upd H p1 (.lst [.int 0])) p2 (.lst ((ws ++ [0]).map V.int)) = H2 at s2 h2
    refine ⟨(by decide : 1 ≤ sizeLine), fun p3 hp3 => ?_⟩
    have s3 := Same.new (o := .lst [.int 0]) hp3
    refine ⟨p3, p, _, _, rfl, rfl, upd_same, s3 _ _ (s2 _ _ hp), by rw [List.length_map]; show 1 + _ ≤ _; omega, fun p4 hp4 => ?_⟩
    have e2 : [.int 0] ++ ws.map V.int = (0 :: ws).map V.int := rfl
    rw [e2]
    have s4 := s3.trans (Same.new (o := .lst ((0 :: ws).map V.int)) hp4)
    have h4 := upd_same (H := upd H2 p3 (.lst [.int 0])) (a := p4) (o := .lst ((0 :: ws).map V.int))
    have h24 := s4 _ _ h2
    have s24 := s2.trans s4
    generalize upd (upd H2 p3 (.lst [.int 0])) p4 (.lst ((0 :: ws).map V.int)) = H4 at s4 h4 h24 s24
    refine ⟨p2, p4, _, _, rfl, h24, h4, fun D hD => ?_⟩
    refine comp_zip (a := p2) (b := p4) (xs := (ws ++ [0]).map V.int) (ys := (0 :: ws).map V.int) (by simp) (fun i zs H' => Same H4 H' ∧ H' D = some (.lst zs) ∧ ∃ us : List Int, zs = us.map V.int ∧ us.length = i ∧ Ws (2 * B) us) ⟨Same.new hD, upd_same, [], rfl, rfl, by have := hB.1; omega, fun v hv => by cases hv⟩ (fun i zs H' h => ⟨h.1 _ _ h24, h.1 _ _ h4⟩) (fun i zs H' h => h.2.1) ?_ ?_
    · rintro j x y zs H' pz P' hx hy ⟨s6, hDz, us, rfl, ul, uB⟩ hpz hP
      have get : ∀ (l : List Int) (v : V), (l.map V.int)[j]? = some v → ∃ n, n ∈ l ∧ v = .int n := fun l v hv => by
        rw [List.getElem?_map] at hv
        cases hc : l[j]? with
        | none => rw [hc] at hv; cases hv
        | some z => rw [hc] at hv; cases hv; exact ⟨z, List.mem_of_getElem? hc, rfl⟩
      have hjl : j < ((ws ++ [0]).map V.int).length := (List.getElem?_eq_some_iff.mp hx).1
      rw [List.length_map, List.length_append] at hjl
      have hjl' : j < ws.length + 1 := hjl
      obtain ⟨m, hm, rfl⟩ := get _ _ hx
      obtain ⟨n, hn, rfl⟩ := get _ _ hy
      have b0 := hB.1
      have m1 : 0 ≤ m ∧ m ≤ B := by
        rcases List.mem_append.mp hm with h | h
        · exact hB.2 m h
        · rw [List.mem_singleton.mp h]; omega
      have n1 : 0 ≤ n ∧ n ≤ B := by
        rcases List.mem_cons.mp hn with h | h
        · rw [h]; omega
        · exact hB.2 n h
      have s7 := Same.new (o := .tup [.int m, .int n]) hpz
      refine ⟨pz, _, rfl, SqT.of upd_same, rfl, _, _, rfl, _, _, rfl, rfl, trivial, s7 _ _ hDz, ?_, hP _ _ ⟨(s6.trans s7).put hD, upd_same, us ++ [m + n], by rw [List.map_append]; rfl, by rw [List.length_append, ul]; rfl, by omega, fun v hv => ?_⟩⟩
      · rw [List.length_map]; omega
      · rcases List.mem_append.mp hv with h | h
        · exact uB.2 v h
        · rw [List.mem_singleton.mp h]; omega
    · rintro zs H6 ⟨s6, hDz, us, rfl, ul, uB⟩
      rw [List.length_map, List.length_append] at ul
      exact q _ D us (s24.trans s6) (s24.free hD) hDz ul uB
end
end My

set_option Elab.async false
set_option linter.all false
set_option maxRecDepth 100000
set_option maxHeartbeats 4000000
namespace My
open PySem L2 FrM
def IsE (H : Hp) (x : V) : Prop := ∃ p l f w m, x = .ref p ∧ H p = some (.tup [.int l, .int f, .str w, .int m]) ∧ (w = "by" ∨ w = "down" ∨ w = "open")
theorem IsE.same {H H' : Hp} {x : V} (s : Same H H') (h : IsE H x) : IsE H' x := let ⟨p, l, f, w, m, e, q, r⟩ := h; ⟨p, l, f, w, m, e, s _ _ q, r⟩
theorem IsE.lst {H : Hp} {x : V} {D : Addr} {vs ys : List V} (e : H D = some (.lst vs)) (h : IsE H x) : IsE (upd H D (.lst ys)) x := let ⟨p, l, f, w, m, e', q, r⟩ := h; ⟨p, l, f, w, m, e', by rw [upd_ne (fun z => by rw [z, e] at q; cases q)]; exact q, r⟩
theorem two_pow : ∀ n : Nat, n < 25 → (2 : Int) ^ n ≤ 16777216 := by decide +kernel
def spEndAt : Sp := fun vs H Q _ => ∃ (xr : V) (r : Rw) (p : Addr) (ws : List Int) (lf bad lk : Int), vs = [xr, .ref p, .int lf, .int bad, .int lk] ∧ IsR H r xr ∧ H p = some (.lst (ws.map V.int)) ∧ ws.length ≤ 30 ∧ Ws 16777216 ws ∧ -50 ≤ lf ∧ lf ≤ 50 ∧ 0 ≤ bad ∧ bad ≤ 50 ∧ ∀ H' q ys, Same H H' → H' q = some (.lst ys) → ys.length ≤ 30 → Q (.ref q) H'
def spEnds (a : Ad) : Sp := fun vs H Q _ => ∃ (x : Addr) (rs : List Rw) (L b : Int), vs = [.ref x, .int L, .int b] ∧ LkAt a H x rs ∧ (rs.length : Int) ≤ L ∧ L ≤ 24 ∧ 0 ≤ b ∧ b ≤ L ∧ ∀ H' q, Same H H' → Q (.ref q) H'
section
variable {P : Program} {w : World} {K : PySem.W.Frag} {mg : Str → Option Value} {base : Heap} {a : Ad}
theorem ok_endat (T : Txt K mg a) : FnOk P w K mg base CX0 2 a.f_endings_at a.d_endings_at ["row", "ways", "left", "bad", "looked"] spEndAt := by
  have G_choices : FnOk P w K mg base CX0 1 _ _ _ spChoices := ok_choices T
  have G_word_of : FnOk P w K mg base CX0 1 _ _ _ spWord := ok_word T
  refine T.F_endings_at.ok sc_endings_at (fun vs H Q E h => ?_) (fun cdv A outer s H vs Q E hr h => ?_)
  · obtain ⟨xr, r, p, ws, lf, bad, lk, rfl, _⟩ := h; rfl
  · obtain ⟨xr, r, p, ws, lf, bad, lk, rfl, hR, hp, wl, hW, l0, l1, b0, b1, q⟩ := h
    refine ⟨_, (pss_cons (ps_setC rfl (i := 5) sc_endings_at.nd rfl rfl (by with_unfolding_all rfl) (N := ["found", "many", "left", "bad"]) (ix := [none, none, some 2, some 3]) ⟨rfl, rfl, rfl, rfl, ⟨rfl, rfl, rfl, ⟨rfl, rfl, rfl, trivial⟩⟩⟩ (pi_enum rfl T.z_enumerate (pa_cons (vr 1) pa_nil)) ⟨fun C s H fp => (pg_tupK (K := K) (n := 2) rfl rfl (pgs_cons (pg_name (i := 0) (show List.Nodup (["found", "many", "left", "bad"] : List Str) by decide +kernel) rfl (Or.inl rfl)) (pgs_cons (pg_name (i := 1) (show List.Nodup (["found", "many", "left", "bad"] : List Str) by decide +kernel) rfl (Or.inl rfl)) pgs_nil))), fun C s H fp => pts_nil, fun C s H fp => (pe_op o_mulB (vr 1) (pe_call G_choices hr rfl T.m_choices T.F_choices.kp T.B_choices .nil pass0 (pa_cons (vr 2) (pa_cons (pe_op o_sub (vr 3) (vr 0)) pa_nil))))⟩) (pss_cons (ps_setC rfl (i := 6) sc_endings_at.nd rfl rfl (by with_unfolding_all rfl) (N := ["found", "many", "looked", "row"]) (ix := [none, none, some 4, some 0]) ⟨rfl, rfl, rfl, rfl, ⟨rfl, rfl, rfl, ⟨rfl, rfl, rfl, trivial⟩⟩⟩ (pi_enum rfl T.z_enumerate (pa_cons (vr 5) pa_nil)) ⟨fun C s H fp => (pg_tupK (K := K) (n := 2) rfl rfl (pgs_cons (pg_name (i := 0) (show List.Nodup (["found", "many", "looked", "row"] : List Str) by decide +kernel) rfl (Or.inl rfl)) (pgs_cons (pg_name (i := 1) (show List.Nodup (["found", "many", "looked", "row"] : List Str) by decide +kernel) rfl (Or.inl rfl)) pgs_nil))), fun C s H fp => pts_one (t_cmp o_gt (vr 1) pe_int (nomark _)), fun C s H fp => (pe_tup (pa_cons (vr 2) (pa_cons (vr 0) (pa_cons (pe_call G_word_of hr rfl T.m_word_of T.F_word_of.kp T.B_word_of .nil pass0 (pa_cons (vr 3) (pa_cons (vr 0) pa_nil))) (pa_cons (vr 1) pa_nil)))))⟩) (pss_one (ps_ret (pe_comp rfl (N := ["ending"]) (ix := [none]) ⟨rfl, rfl, rfl, rfl, trivial⟩ (pi_any (vr 6)) ⟨fun C s H fp => pg_name (i := 0) (show List.Nodup (["ending"] : List Str) by decide +kernel) rfl (Or.inl rfl), fun C s H fp => pts_one (t_cmp o_ne (pe_ix (ix_seqK (K := K) rfl) (vr 0) pe_int (fun _ _ => rfl)) pe_str (nomark _)), fun C s H fp => (vr 0)⟩))))), ?_⟩
    have sl : sizeLine = 16777216 := sizeLine_eq
    refine ⟨p, _, rfl, hp, fun D hD => ?_⟩
    refine comp_enum (a := p) (xs := ws.map V.int) (fun i ys H' => i ≤ ws.length ∧ Same H H' ∧ H' D = some (.lst ys) ∧ ∃ us : List Int, ys = us.map V.int ∧ us.length = i) ⟨Nat.zero_le _, Same.new hD, upd_same, [], rfl, rfl⟩ (fun i ys H' h => h.2.1 _ _ hp) (fun i ys H' h => h.2.2.1) ?_ ?_
    · rintro i v ys H1 pt P' hv ⟨hi, s1, hD1, us, rfl, ul⟩ hpt hP
      obtain ⟨w, hw, rfl⟩ : ∃ w, ws[i]? = some w ∧ v = .int w := by
        rw [List.getElem?_map] at hv
        cases hc : ws[i]? with
        | none => rw [hc] at hv; cases hv
        | some z => rw [hc] at hv; cases hv; exact ⟨z, rfl, rfl⟩
      have hlt : i < ws.length := (List.getElem?_eq_some_iff.mp hw).1
      obtain ⟨w0, w1⟩ := hW.2 w (List.mem_of_getElem? hw)
      have s2 := Same.new (o := .tup [.int (i : Nat), .int w]) hpt
      refine ⟨pt, _, rfl, SqT.of upd_same, rfl, _, _, rfl, _, _, rfl, rfl, ⟨rfl, rfl, trivial⟩, ?_⟩
      refine ⟨lf, _, rfl, by omega, by omega, by omega, by omega, fun c => ⟨clB (by omega) (by omega), s2 _ _ hD1, ?_, hP _ _ ⟨hlt, (s1.trans s2).put hD, upd_same, us ++ [w * c], by rw [List.map_append]; rfl, by rw [List.length_append, ul]; rfl⟩⟩⟩
      rw [List.length_map]; omega
    rintro ys H1 ⟨_, s1, hD1, us, rfl, ul⟩
    rw [List.length_map] at ul
    refine ⟨D, _, rfl, hD1, fun D2 hD2 => ?_⟩
    refine comp_enum (a := D) (xs := us.map V.int) (fun i ys H' => i ≤ us.length ∧ Same H1 H' ∧ H' D2 = some (.lst ys) ∧ ys.length ≤ i ∧ ∀ y ∈ ys, IsE H' y) ⟨Nat.zero_le _, Same.new hD2, upd_same, Nat.zero_le _, fun y hy => by cases hy⟩ (fun i ys H' h => h.2.1 _ _ hD1) (fun i ys H' h => h.2.2.1) ?_ ?_
    · rintro i v ys H2 pt P' hv ⟨hi, s2, hE2, yl, hall⟩ hpt hP
      obtain ⟨u, hu, rfl⟩ : ∃ u, us[i]? = some u ∧ v = .int u := by
        rw [List.getElem?_map] at hv
        cases hc : us[i]? with
        | none => rw [hc] at hv; cases hv
        | some z => rw [hc] at hv; cases hv; exact ⟨z, rfl, rfl⟩
      have hlt : i < us.length := (List.getElem?_eq_some_iff.mp hu).1
      have s3 := Same.new (o := .tup [.int (i : Nat), .int u]) hpt
      refine ⟨pt, _, rfl, SqT.of upd_same, rfl, _, _, rfl, _, _, rfl, rfl, ⟨rfl, rfl, trivial⟩, ?_⟩
      refine ifC (fun _ => ?_) (fun _ => hP _ _ ⟨hlt, s2.trans s3, s3 _ _ hE2, by omega, fun y hy => (hall y hy).same s3⟩)
      refine ⟨xr, r, _, rfl, ((hR.same s1).same s2).same s3, ?_⟩
      refine ⟨(by decide : 4 ≤ sizeLine), fun pe hpe => ?_⟩
      have s4 := s3.trans (Same.new (o := .tup [.int lk, .int (i : Nat), .str (wd r (i : Nat)), .int u]) hpe)
      have hE4 := s4 _ _ hE2
      refine ⟨hE4, by omega, hP _ _ ⟨hlt, (s2.trans s4).put hD2, upd_same, by rw [List.length_append]; show _ + 1 ≤ _; omega, fun y hy => ?_⟩⟩
      rcases List.mem_append.mp hy with hy | hy
      · exact ((hall y hy).same s4).lst hE4
      · rw [List.mem_singleton.mp hy]
        exact IsE.lst hE4 ⟨pe, _, _, _, _, rfl, upd_same, wd_cases _ _⟩
    rintro ys H2 ⟨_, s2, hE2, yl, hall⟩
    rw [List.length_map] at yl
    refine .inl ⟨⟨_, SqL.of hE2⟩, fun D3 hD3 => ?_⟩
    refine comp_list (K := K) (a := D2) (xs := ys) (fun j zs H' => j ≤ ys.length ∧ Same H2 H' ∧ H' D3 = some (.lst zs) ∧ zs.length ≤ j) ⟨Nat.zero_le _, Same.new hD3, upd_same, Nat.zero_le _⟩ (fun j zs H' h' => SqL.of (h'.2.1 _ _ hE2)) (fun j zs H' h' => h'.2.2.1) ?_ ?_
    · rintro j y zs H' P' hy ⟨hj, s3, hZ, zl⟩ hP
      have hlt : j < ys.length := (List.getElem?_eq_some_iff.mp hy).1
      obtain ⟨pe, l, f, w, m, rfl, hpe, hw⟩ := (hall y (List.mem_of_getElem? hy)).same s3
      have yes : H' D3 = some (.lst zs) ∧ zs.length < sizeLine ∧ P' (zs ++ [.ref pe]) (upd H' D3 (.lst (zs ++ [.ref pe]))) := ⟨hZ, by omega, hP _ _ ⟨hlt, s3.put hD3, upd_same, by rw [List.length_append]; show _ + 1 ≤ _; omega⟩⟩
      have no := hP zs H' ⟨hlt, s3, hZ, by omega⟩
      refine ⟨trivial, .inr (.inl ⟨pe, _, _, _, rfl, rfl, SqT.of hpe, atI_cons 2 rfl rfl, ?_⟩)⟩
      rcases hw with rfl | rfl | rfl
      · exact yes
      · exact yes
      · exact no
    rintro zs H3 ⟨_, s3, hZ, zl⟩
    exact q _ D3 zs ((s1.trans s2).trans s3) hZ (by omega)
theorem ok_ends (T : Txt K mg a) : FnOk P w K mg base CX0 3 a.x_Looks_endings a.y_Looks_endings ["self", "lot", "bad"] (spEnds a) := by
  have G_is_whole : FnOk P w K mg base CX0 2 _ _ _ spWhole3 := (ok_whole3 T).mono (by decide)
  have G_one_more : FnOk P w K mg base CX0 2 _ _ _ spMore := (ok_more T).mono (by decide)
  have G_endings_at : FnOk P w K mg base CX0 2 _ _ _ spEndAt := ok_endat T
  have G_word_of : FnOk P w K mg base CX0 2 _ _ _ spWord := (ok_word T).mono (by decide)
  refine T.F_Looks_endings.ok sc_Looks_endings (fun vs H Q E h => ?_) (fun cdv A outer s H vs Q E hr h => ?_)
  · obtain ⟨x, rs, L, b, rfl, _⟩ := h; rfl
  · obtain ⟨x, rs, L, b, rfl, ⟨⟨dx, t, xs, hx, ht, hall⟩, tab⟩, L0, L1, b0, b1, q⟩ := h
    refine ⟨_, (pss_cons (ps_if (PW.pt (pw_or (pt_not (t_val (pe_call G_is_whole hr rfl T.m_is_whole T.F_is_whole.kp T.B_is_whole .nil pass0 (pa_cons (vr 1) (pa_cons (pe_callB call_lenM rfl T.z_len bt_len (pa_cons (pe_fld (vr 0) rfl) pa_nil)) (pa_cons (pe_gl rfl T.g_MOST_WARES) pa_nil)))))) (pw_or1 (pt_not (t_val (pe_call G_is_whole hr rfl T.m_is_whole T.F_is_whole.kp T.B_is_whole .nil pass0 (pa_cons (vr 2) (pa_cons pe_int (pa_cons (vr 1) pa_nil))))))))) (pss_one ps_never) pss_nil) (pss_cons (ps_set (i := 3) sc_Looks_endings.nd rfl (Or.inl rfl) (pe_lst pa_nil)) (pss_cons (ps_set (i := 4) sc_Looks_endings.nd rfl (Or.inl rfl) (pe_lst (pa_cons pe_int pa_nil))) (pss_cons (ps_for PassesOwn.never rfl (pi_enumT rfl T.z_enumerate (pa_cons (pe_fld (vr 0) rfl) pa_nil)) (pg_tup rfl (pgs_cons (pg_name (i := 5) sc_Looks_endings.nd rfl (Or.inl rfl)) (pgs_cons (pg_name (i := 6) sc_Looks_endings.nd rfl (Or.inr rfl)) pgs_nil))) (pss_cons (ps_set (i := 4) sc_Looks_endings.nd rfl (Or.inl rfl) (pe_call G_one_more hr rfl T.m_one_more T.F_one_more.kp T.B_one_more .nil pass0 (pa_cons (vr 4) pa_nil))) (pss_cons (ps_expr (pe_m.extend (vr 3) (pa_cons (pe_call G_endings_at hr rfl T.m_endings_at T.F_endings_at.kp T.B_endings_at .nil pass0 (pa_consQ (vr 6) (pa_consQ (vr 4) (pa_consQ (pe_op o_sub (pe_op o_sub (vr 1) (vr 5)) pe_int) (pa_consQ (vr 2) (pa_consQ (pe_op o_add (vr 5) pe_int) pa_nil)))))) pa_nil))) (pss_one (ps_setC rfl (i := 4) sc_Looks_endings.nd rfl rfl (by with_unfolding_all rfl) (N := ["found", "many", "row"]) (ix := [none, none, some 6]) ⟨rfl, rfl, rfl, rfl, ⟨rfl, rfl, rfl, trivial⟩⟩ (pi_enum rfl T.z_enumerate (pa_cons (vr 4) pa_nil)) ⟨fun C s H fp => (pg_tupK (K := K) (n := 2) rfl rfl (pgs_cons (pg_name (i := 0) (show List.Nodup (["found", "many", "row"] : List Str) by decide +kernel) rfl (Or.inl rfl)) (pgs_cons (pg_name (i := 1) (show List.Nodup (["found", "many", "row"] : List Str) by decide +kernel) rfl (Or.inl rfl)) pgs_nil))), fun C s H fp => pts_nil, fun C s H fp => (pe_ifExp (t_cmp o_eq (pe_call G_word_of hr rfl T.m_word_of T.F_word_of.kp T.B_word_of .nil pass0 (pa_cons (vr 2) (pa_cons (vr 0) pa_nil))) pe_str (nomark _)) (vr 1) pe_int)⟩))))) (pss_one (ps_ret (vr 3))))))), ?_⟩
    have sl : sizeLine = 16777216 := sizeLine_eq
    have xl : xs.length = rs.length := (Paired.length hall).symm
    have r24 := tab.len
    refine ⟨x, _, dx, _, _, rfl, hx, T.cl_Looks, T.na_Looks_rows, rfl, ⟨_, .inr (SqT.of ht), ?_⟩⟩
    refine ⟨_, _, _, _, rfl, .int _, ?_⟩
    rw [inR_yes (by rw [xl]; exact L0) L1]
    refine ⟨_, _, _, _, rfl, .int _, ?_⟩
    rw [inR_yes b0 b1]
    refine ⟨Nat.zero_le _, fun D hD => ⟨(by decide : 1 ≤ sizeLine), fun p0 hp0 => ?_⟩⟩
    have fp0 : H p0 = none := (Same.new hD).free hp0
    have s0 := (Same.new (o := .lst []) hD).trans (Same.new (o := .lst [.int 1]) hp0)
    have nDp : D ≠ p0 := ne_of_none upd_same hp0
    refine ⟨x, _, dx, _, _, rfl, s0 _ _ hx, T.cl_Looks, T.na_Looks_rows, rfl, ⟨t, _, rfl, s0 _ _ ht, for_enumT (a := t) (xs := xs) (fun i σ H' => i ≤ xs.length ∧ Same H H' ∧ ∃ (ts : List V) (pw : Addr) (ws : List Int) (x5 x6 : Option V), H' D = some (.lst ts) ∧ ts.length ≤ 30 * i ∧ H' pw = some (.lst (ws.map V.int)) ∧ ws.length = i + 1 ∧ Ws (2 ^ i) ws ∧ σ = [some (.ref x), some (.int L), some (.int b), some (.ref D), some (.ref pw), x5, x6])
      ⟨Nat.zero_le _, s0, [], p0, [1], none, none, by rw [upd_ne nDp]; exact upd_same, Nat.le_refl _, upd_same, rfl, ⟨by decide, fun v hv => by rw [List.mem_singleton.mp hv]; decide⟩, rfl⟩ (fun i σ H' h => h.2.1 _ _ ht) ?_ ?_⟩⟩
    · rintro i xr σ H1 pt hxr ⟨hi, s1, ts, pw, ws, x5, x6, hD1, tl, hw1, wl, hW, rfl⟩ hpt
      have hlt : i < xs.length := (List.getElem?_eq_some_iff.mp hxr).1
      obtain ⟨r, hr', hR⟩ := pget hall hxr
      have s2 := Same.new (o := .tup [.int (i : Nat), xr]) hpt
      refine ⟨pt, _, rfl, SqT.of upd_same, rfl, _, _, rfl, _, _, rfl, rfl, ?_⟩
      have s02 := s1.trans s2
      have hD2 := s2 _ _ hD1
      have hw2 := s2 _ _ hw1
      generalize upd H1 pt (.tup [.int (i : Nat), xr]) = H2 at s2 s02 hD2 hw2
      refine ⟨pw, ws, _, rfl, hw2, by omega, hW, fun H3 pu us s3 fu hu3 ul hU => ?_⟩
      have hD3 := s3 _ _ hD2
      have s03 := s02.trans s3
      have e2 : (2 : Int) * 2 ^ i = 2 ^ (i + 1) := by rw [Int.pow_succ, Int.mul_comm]
      rw [e2] at hU
      have pb : (2 : Int) ^ (i + 1) ≤ 16777216 := two_pow (i + 1) (by omega)
      refine ⟨.inl ⟨rfl, _, SqL.of hD3⟩, ?_⟩
      refine ⟨xr, r, pu, us, _, b, _, rfl, hR.same s03, hu3, by omega, ⟨by decide, fun v hv => by have := hU.2 v hv; omega⟩, by omega, by omega, b0, by omega, fun H4 pq ys s4 hq4 yl => ?_⟩
      have hD4 := s4 _ _ hD3
      have hu4 := s4 _ _ hu3
      have nDq : True := trivial
      refine ⟨D, pq, _, _, rfl, rfl, hD4, hq4, by omega, ?_⟩
      have s05 := (s03.trans s4).put (o := .lst (ts ++ ys)) hD
      have hD5 := upd_same (H := H4) (a := D) (o := .lst (ts ++ ys))
      have hu5 : upd H4 D (.lst (ts ++ ys)) pu = some (.lst (us.map V.int)) := by
        by_cases c : pu = D
        · rw [c, hD2] at fu; cases fu
        · rw [upd_ne c]; exact hu4
      generalize upd H4 D (.lst (ts ++ ys)) = H5 at s05 hD5 hu5
      refine ⟨pu, _, rfl, hu5, fun D6 hD6 => ?_⟩
      refine comp_enum (a := pu) (xs := us.map V.int) (fun j zs H' => j ≤ us.length ∧ Same H5 H' ∧ H' D6 = some (.lst zs) ∧ ∃ vs : List Int, zs = vs.map V.int ∧ vs.length = j ∧ Ws (2 ^ (i + 1)) vs) ⟨Nat.zero_le _, Same.new hD6, upd_same, [], rfl, rfl, hU.1, fun v hv => by cases hv⟩ (fun j zs H' h => h.2.1 _ _ hu5) (fun j zs H' h => h.2.2.1) ?_ ?_
      · rintro j v zs H6 pz P' hv ⟨hj, s6, hD6', vs, rfl, vl, hV⟩ hpz hP
        obtain ⟨u, hu, rfl⟩ : ∃ u, us[j]? = some u ∧ v = .int u := by
          rw [List.getElem?_map] at hv
          cases hc : us[j]? with
          | none => rw [hc] at hv; cases hv
          | some z => rw [hc] at hv; cases hv; exact ⟨z, rfl, rfl⟩
        have hlt' : j < us.length := (List.getElem?_eq_some_iff.mp hu).1
        have hu1 := hU.2 u (List.mem_of_getElem? hu)
        have s7 := Same.new (o := .tup [.int (j : Nat), .int u]) hpz
        refine ⟨pz, _, rfl, SqT.of upd_same, rfl, _, _, rfl, _, _, rfl, rfl, ⟨rfl, trivial⟩, ?_⟩
        refine ⟨xr, r, _, rfl, hR.same (s05.trans (s6.trans s7)), ?_⟩
        have put : ∀ n : Int, 0 ≤ n → n ≤ 2 ^ (i + 1) → _ := fun n n0 n1 => (⟨s7 _ _ hD6', by rw [List.length_map]; omega, hP _ _ ⟨hlt', (s6.trans s7).put hD6, upd_same, vs ++ [n], by rw [List.map_append]; rfl, by rw [List.length_append, vl]; rfl, hU.1, fun v hv => by
          rcases List.mem_append.mp hv with h | h
          · exact hV.2 v h
          · rw [List.mem_singleton.mp h]; exact ⟨n0, n1⟩⟩⟩ : upd H6 pz (.tup [.int (j : Nat), .int u]) D6 = some (.lst (vs.map V.int)) ∧ (vs.map V.int).length < sizeLine ∧ P' (vs.map V.int ++ [.int n]) (upd (upd H6 pz (.tup [.int (j : Nat), .int u])) D6 (.lst (vs.map V.int ++ [.int n]))))
        rcases wd_cases r (j : Nat) with e | e | e
        · rw [e]; exact put 0 (Int.le_refl _) hU.1
        · rw [e]; exact put 0 (Int.le_refl _) hU.1
        · rw [e]; exact put u hu1.1 hu1.2
      rintro zs H6 ⟨_, s6, hD6', vs, rfl, vl, hV⟩
      rw [List.length_map] at vl
      exact ⟨hlt, s05.trans s6, ts ++ ys, D6, vs, _, _, s6 _ _ hD5, by rw [List.length_append]; omega, hD6', by omega, hV, rfl⟩
    · rintro σ H1 ⟨_, s1, ts, pw, ws, x5, x6, hD1, tl, hw1, wl, hW, rfl⟩
      exact q _ D s1
end
end My

set_option Elab.async false
set_option linter.all false
set_option maxRecDepth 100000
set_option maxHeartbeats 4000000
namespace My
open PySem L2 FrM
/-- lot and bad are none -/
def NoL (n : Nat) (o1 o2 : Option Int) : Prop := inR (n : Int) 24 o1 = false ∨ ∃ L, o1 = some L ∧ inR 0 L o2 = false
def spEndsR (a : Ad) : Sp := fun vs H Q E => ∃ (x : Addr) (rs : List Rw) (v u : V) (o1 o2 : Option Int), vs = [.ref x, v, u] ∧ LkAt a H x rs ∧ Thing H v o1 ∧ Thing H u o2 ∧ NoL rs.length o1 o2 ∧ Ref a H E
def spNo : Sp := fun _ _ _ _ => False
def spNoLot (a : Ad) : Sp := fun vs H Q _ => ∃ (x : Addr) (rs : List Rw) (wy : Int) (v u : V) (o1 o2 : Option Int), vs = [.ref x, .int wy, v, u] ∧ LkAt a H x rs ∧ Thing H v o1 ∧ Thing H u o2 ∧ NoL rs.length o1 o2 ∧ ∀ H', Same H H' → Q (.bl true) H'
section
variable {P : Program} {w : World} {K : PySem.W.Frag} {mg : Str → Option Value} {base : Heap} {a : Ad}
theorem ok_endsR (T : Txt K mg a) : FnOk P w K mg base (CXG P w) 3 a.x_Looks_endings a.y_Looks_endings ["self", "lot", "bad"] (spEndsR a) := by
  have G_is_whole : FnOk P w K mg base CX0 2 _ _ _ spWhole3 := (ok_whole3 T).mono (by decide)
  have G_one_more : FnOk P w K mg base CX0 2 _ _ _ spMore := (ok_more T).mono (by decide)
  have G_endings_at : FnOk P w K mg base CX0 2 _ _ _ spEndAt := ok_endat T
  have G_word_of : FnOk P w K mg base CX0 2 _ _ _ spWord := (ok_word T).mono (by decide)
  refine T.F_Looks_endings.okG sc_Looks_endings (fun vs H Q E h => ?_) (fun cdv A outer s H vs Q E hr h => ?_)
  · obtain ⟨x, rs, v, u, o1, o2, rfl, _⟩ := h; rfl
  · obtain ⟨x, rs, v, u, o1, o2, rfl, ⟨⟨dx, t, xs, hx, ht, hall⟩, tab⟩, t1, t2, hno, q⟩ := h
    refine ⟨_, (pss_cons (ps_if (PW.pt (pw_or (pt_not (t_val (pe_call G_is_whole hr rfl T.m_is_whole T.F_is_whole.kp T.B_is_whole .nil pass0 (pa_cons (vr 1) (pa_cons (pe_callB call_lenM rfl T.z_len bt_len (pa_cons (pe_fld (vr 0) rfl) pa_nil)) (pa_cons (pe_gl rfl T.g_MOST_WARES) pa_nil)))))) (pw_or1 (pt_not (t_val (pe_call G_is_whole hr rfl T.m_is_whole T.F_is_whole.kp T.B_is_whole .nil pass0 (pa_cons (vr 2) (pa_cons pe_int (pa_cons (vr 1) pa_nil))))))))) (pss_one (ps_raiseG T.xc_NoLot T.xh_NoLot (pe_mkX0 T.xi_NoLot T.kc_NoLot rfl T.mc_NoLot))) pss_nil) (pss_cons (ps_set (i := 3) sc_Looks_endings.nd rfl (Or.inl rfl) (pe_lst pa_nil)) (pss_cons (ps_set (i := 4) sc_Looks_endings.nd rfl (Or.inl rfl) (pe_lst (pa_cons pe_int pa_nil))) (pss_cons (ps_for ownG rfl (pi_enumT rfl T.z_enumerate (pa_cons (pe_fld (vr 0) rfl) pa_nil)) (pg_tup rfl (pgs_cons (pg_name (i := 5) sc_Looks_endings.nd rfl (Or.inl rfl)) (pgs_cons (pg_name (i := 6) sc_Looks_endings.nd rfl (Or.inr rfl)) pgs_nil))) (pss_cons (ps_set (i := 4) sc_Looks_endings.nd rfl (Or.inl rfl) (pe_call G_one_more hr rfl T.m_one_more T.F_one_more.kp T.B_one_more .nil pass0 (pa_cons (vr 4) pa_nil))) (pss_cons (ps_expr (pe_m.extend (vr 3) (pa_cons (pe_call G_endings_at hr rfl T.m_endings_at T.F_endings_at.kp T.B_endings_at .nil pass0 (pa_consQ (vr 6) (pa_consQ (vr 4) (pa_consQ (pe_op o_sub (pe_op o_sub (vr 1) (vr 5)) pe_int) (pa_consQ (vr 2) (pa_consQ (pe_op o_add (vr 5) pe_int) pa_nil)))))) pa_nil))) (pss_one (ps_setC rfl (i := 4) sc_Looks_endings.nd rfl rfl (by with_unfolding_all rfl) (N := ["found", "many", "row"]) (ix := [none, none, some 6]) ⟨rfl, rfl, rfl, rfl, ⟨rfl, rfl, rfl, trivial⟩⟩ (pi_enum rfl T.z_enumerate (pa_cons (vr 4) pa_nil)) ⟨fun C s H fp => (pg_tupK (K := K) (n := 2) rfl rfl (pgs_cons (pg_name (i := 0) (show List.Nodup (["found", "many", "row"] : List Str) by decide +kernel) rfl (Or.inl rfl)) (pgs_cons (pg_name (i := 1) (show List.Nodup (["found", "many", "row"] : List Str) by decide +kernel) rfl (Or.inl rfl)) pgs_nil))), fun C s H fp => pts_nil, fun C s H fp => (pe_ifExp (t_cmp o_eq (pe_call G_word_of hr rfl T.m_word_of T.F_word_of.kp T.B_word_of .nil pass0 (pa_cons (vr 2) (pa_cons (vr 0) pa_nil))) pe_str (nomark _)) (vr 1) pe_int)⟩))))) (pss_one (ps_ret (vr 3))))))), ?_⟩
    have xl : xs.length = rs.length := (Paired.length hall).symm
    have rz : ∀ y, H y = none → _ := fun y hy => q (untr (upd H y (.ext (XD0 y a.c_NoLot))) y) fun b o e => by
      have b1 : b ≠ y := fun z => by rw [z, hy] at e; cases e
      rw [untr_ne b1, upd_ne b1]
      exact e
    refine ⟨x, _, dx, _, _, rfl, hx, T.cl_Looks, T.na_Looks_rows, rfl, ⟨_, .inr (SqT.of ht), ?_⟩⟩
    refine ⟨_, _, _, _, rfl, t1, ?_⟩
    rw [xl]
    cases e1 : inR (rs.length : Int) 24 o1 with
    | false => exact fun y hy => ⟨y, none, _, rfl, upd_same, fun h z => z, hy, rz y hy⟩
    | true =>
      rcases hno with h | ⟨L, rfl, h⟩
      · rw [e1] at h; cases h
      obtain rfl := thing_int t1
      refine ⟨_, _, _, _, rfl, t2, ?_⟩
      rw [h]
      exact fun y hy => ⟨y, none, _, rfl, upd_same, fun h z => z, hy, rz y hy⟩
theorem ok_shareN (T : Txt K mg a) : FnOk P w K mg base CX0 3 a.f_share a.d_share ["top", "bottom"] spNo := by
  refine T.F_share.ok sc_share (fun vs H Q E h => False.elim h) (fun cdv A outer s H vs Q E hr h => False.elim h)
theorem ok_letR (T : Txt K mg a) : FnOk P w K mg base (CXG P w) 4 a.x_Looks_let_by a.y_Looks_let_by ["self", "lot", "bad"] (spEndsR a) := by
  have G_Looks_endings : FnOk P w K mg base (CXG P w) 3 _ _ _ (spEndsR a) := ok_endsR T
  have G_share : FnOk P w K mg base CX0 3 _ _ _ spNo := ok_shareN T
  have G_choices : FnOk P w K mg base CX0 3 _ _ _ spChoices := (ok_choices T).mono (by decide)
  refine T.F_Looks_let_by.okG sc_Looks_let_by (fun vs H Q E h => ?_) (fun cdv A outer s H vs Q E hr h => ?_)
  · obtain ⟨x, rs, v, u, o1, o2, rfl, _⟩ := h; rfl
  · obtain ⟨x, rs, v, u, o1, o2, rfl, lk, t1, t2, hno, q⟩ := h
    refine ⟨_, (pss_cons (ps_setC rfl (i := 3) sc_Looks_let_by.nd rfl rfl (by with_unfolding_all rfl) (N := ["looked", "found", "word", "many"]) (ix := [none, none, none, none]) ⟨rfl, rfl, rfl, rfl, trivial⟩ (pi_any (pe_meth (vr 0) T.cl_Looks T.mt_Looks_endings G_Looks_endings hr T.B_Looks_endings .nil passG (pa_cons (vr 1) (pa_cons (vr 2) pa_nil)))) ⟨fun C s H fp => (pg_tupK (K := K) (n := 4) rfl rfl (pgs_cons (pg_name (i := 0) (show List.Nodup (["looked", "found", "word", "many"] : List Str) by decide +kernel) rfl (Or.inl rfl)) (pgs_cons (pg_name (i := 1) (show List.Nodup (["looked", "found", "word", "many"] : List Str) by decide +kernel) rfl (Or.inl rfl)) (pgs_cons (pg_name (i := 2) (show List.Nodup (["looked", "found", "word", "many"] : List Str) by decide +kernel) rfl (Or.inl rfl)) (pgs_cons (pg_name (i := 3) (show List.Nodup (["looked", "found", "word", "many"] : List Str) by decide +kernel) rfl (Or.inl rfl)) pgs_nil))))), fun C s H fp => pts_one (t_cmp o_eq (vr 2) pe_str (nomark _)), fun C s H fp => (vr 3)⟩) (pss_one (ps_ret (pe_call G_share hr rfl T.m_share T.F_share.kp T.B_share .nil pass0 (pa_cons (pe_callB (call_sumI rfl) rfl T.z_sum bt_sum (pa_cons (vr 3) pa_nil)) (pa_cons (pe_call G_choices hr rfl T.m_choices T.F_choices.kp T.B_choices .nil pass0 (pa_cons (vr 1) (pa_cons (vr 2) pa_nil))) pa_nil)))))), ?_⟩
    obtain ⟨dx, t, xs, hx, _⟩ := lk.ex
    exact ⟨x, dx, _, rfl, hx, rfl, ⟨x, rs, v, u, o1, o2, rfl, lk, t1, t2, hno, q⟩⟩
theorem ok_lookR (T : Txt K mg a) : FnOk P w K mg base (CXG P w) 4 a.x_Looks_looked_at a.y_Looks_looked_at ["self", "lot", "bad"] (spEndsR a) := by
  have G_Looks_endings : FnOk P w K mg base (CXG P w) 3 _ _ _ (spEndsR a) := ok_endsR T
  have G_share : FnOk P w K mg base CX0 3 _ _ _ spNo := ok_shareN T
  have G_choices : FnOk P w K mg base CX0 3 _ _ _ spChoices := (ok_choices T).mono (by decide)
  refine T.F_Looks_looked_at.okG sc_Looks_looked_at (fun vs H Q E h => ?_) (fun cdv A outer s H vs Q E hr h => ?_)
  · obtain ⟨x, rs, v, u, o1, o2, rfl, _⟩ := h; rfl
  · obtain ⟨x, rs, v, u, o1, o2, rfl, lk, t1, t2, hno, q⟩ := h
    refine ⟨_, (pss_cons (ps_setC rfl (i := 3) sc_Looks_looked_at.nd rfl rfl (by with_unfolding_all rfl) (N := ["looked", "found", "word", "many"]) (ix := [none, none, none, none]) ⟨rfl, rfl, rfl, rfl, trivial⟩ (pi_any (pe_meth (vr 0) T.cl_Looks T.mt_Looks_endings G_Looks_endings hr T.B_Looks_endings .nil passG (pa_cons (vr 1) (pa_cons (vr 2) pa_nil)))) ⟨fun C s H fp => (pg_tupK (K := K) (n := 4) rfl rfl (pgs_cons (pg_name (i := 0) (show List.Nodup (["looked", "found", "word", "many"] : List Str) by decide +kernel) rfl (Or.inl rfl)) (pgs_cons (pg_name (i := 1) (show List.Nodup (["looked", "found", "word", "many"] : List Str) by decide +kernel) rfl (Or.inl rfl)) (pgs_cons (pg_name (i := 2) (show List.Nodup (["looked", "found", "word", "many"] : List Str) by decide +kernel) rfl (Or.inl rfl)) (pgs_cons (pg_name (i := 3) (show List.Nodup (["looked", "found", "word", "many"] : List Str) by decide +kernel) rfl (Or.inl rfl)) pgs_nil))))), fun C s H fp => pts_nil, fun C s H fp => (pe_op o_mulB (vr 0) (vr 3))⟩) (pss_one (ps_ret (pe_call G_share hr rfl T.m_share T.F_share.kp T.B_share .nil pass0 (pa_cons (pe_callB (call_sumI rfl) rfl T.z_sum bt_sum (pa_cons (vr 3) pa_nil)) (pa_cons (pe_call G_choices hr rfl T.m_choices T.F_choices.kp T.B_choices .nil pass0 (pa_cons (vr 1) (pa_cons (vr 2) pa_nil))) pa_nil)))))), ?_⟩
    obtain ⟨dx, t, xs, hx, _⟩ := lk.ex
    exact ⟨x, dx, _, rfl, hx, rfl, ⟨x, rs, v, u, o1, o2, rfl, lk, t1, t2, hno, q⟩⟩
theorem ok_nolot (T : Txt K mg a) : FnOk P w K mg base CX0 5 a.f_L_no_lot a.d_L_no_lot ["_law_looks", "_law_way", "_law_lot", "_law_bad"] (spNoLot a) := by
  have G_Looks_endings : FnOk P w K mg base (CXG P w) 4 _ _ _ (spEndsR a) := (ok_endsR T).mono (by decide)
  have G_Looks_let_by : FnOk P w K mg base (CXG P w) 4 _ _ _ (spEndsR a) := ok_letR T
  have G_Looks_looked_at : FnOk P w K mg base (CXG P w) 4 _ _ _ (spEndsR a) := ok_lookR T
  refine T.F_L_no_lot.ok sc_L_no_lot (fun vs H Q E h => ?_) (fun cdv A outer s H vs Q E hr h => ?_)
  · obtain ⟨x, rs, wy, v, u, o1, o2, rfl, _⟩ := h; rfl
  · obtain ⟨x, rs, wy, v, u, o1, o2, rfl, lk, t1, t2, hno, q⟩ := h
    refine ⟨_, (pss_cons (ps_set (i := 4) sc_L_no_lot.nd rfl (Or.inl rfl) pe_non) (pss_cons (ps_tryN ⟨rfl, rfl⟩ (pb_one (pb1_if (t_cmp o_eq (vr 1) pe_int (nomark _)) (pb_one (pb1_expr (px_meth (vr 0) T.cl_Looks T.mt_Looks_endings G_Looks_endings hr T.B_Looks_endings .nil (pa_cons (vr 2) (pa_cons (vr 3) pa_nil))))) (pb_one (pb1_if (t_cmp o_eq (vr 1) pe_int (nomark _)) (pb_one (pb1_expr (px_meth (vr 0) T.cl_Looks T.mt_Looks_let_by G_Looks_let_by hr T.B_Looks_let_by .nil (pa_cons (vr 2) (pa_cons (vr 3) pa_nil))))) (pb_one (pb1_expr (px_meth (vr 0) T.cl_Looks T.mt_Looks_looked_at G_Looks_looked_at hr T.B_Looks_looked_at .nil (pa_cons (vr 2) (pa_cons (vr 3) pa_nil))))))))) (ph_as ⟨rfl, rfl⟩ rfl T.mc_SpeakError T.xh_SpeakError sc_L_no_lot.nd (ie := 5) rfl rfl (fun x => (pss_one (ps_set (i := 4) sc_L_no_lot.nd rfl (Or.inl rfl) (vr 5)))) ph_nil)) (pss_one (ps_ret (m_and (pe_callB call_isx rfl T.z_isinstance bt_isinstance (pa_cons (vr 4) (pa_cons (pe_gl rfl T.g_NoLot) pa_nil))) (pe_one (m_not (pe_callB call_isxT rfl T.z_isinstance bt_isinstance (pa_cons (vr 4) (pa_cons (pe_tup (pa_cons (pe_gl rfl T.g_NoTable) (pa_cons (pe_gl rfl T.g_NoUnits) (pa_cons (pe_gl rfl T.g_TooMany) pa_nil)))) pa_nil)))))))))), ?_⟩
    obtain ⟨dx, t, xs, hx, _⟩ := lk.ex
    refine ifC (fun _ => ?_) (fun _ => ifC (fun _ => ?_) (fun _ => ?_))
    all_goals
      refine ⟨x, dx, _, rfl, hx, rfl, ⟨x, rs, v, u, o1, o2, rfl, lk, t1, t2, hno, fun H9 s9 => ⟨_, rfl, fun y hy => .inl ⟨T.tl, ?_⟩⟩⟩⟩
      have sx := Same.new (o := .ext (XCt y a.c_NoLot none)) hy
      have ty : ∀ H', Same (upd H9 y (.ext (XCt y a.c_NoLot none))) H' → TyX K H' (.ref y) (.ref a.c_NoLot) := fun H' e => .inr ⟨y, _, _, rfl, rfl, T.xc_NoLot, e _ _ upd_same, fun _ z => XCt.at z⟩
      refine ⟨_, _, _, _, rfl, rfl, ty _ (Same.refl _), T.t1, ?_⟩
      refine ⟨(by decide : 3 ≤ sizeLine), fun tp htp => ?_⟩
      have st := Same.new (o := .tup [.ref a.c_NoTable, .ref a.c_NoUnits, .ref a.c_TooMany]) htp
      refine ⟨.ref y, tp, _, _, _, rfl, upd_same, rfl, ty _ st, T.t3, ?_⟩
      exact q _ (s9.trans (sx.trans st))
end
end My

set_option Elab.async false
set_option linter.all false
set_option maxRecDepth 100000
set_option maxHeartbeats 4000000
namespace My
open PySem L2 FrM
def spOdd : Sp := fun vs H Q _ => ∃ (p : Addr) (r : Rw) (nu : Int), vs = [.ref p, .int nu] ∧ H p = some (.tup [.int r.1, .int r.2]) ∧ 0 ≤ nu ∧ ∀ H' v k, Same H H' → RT H' v k → Q v H'
def isI : Option Int → Bool
  | some _ => true
  | none => false
def spLWhole : Sp := fun vs H Q _ => ∃ (x : V) (o : Option Int), vs = [x] ∧ Thing H x o ∧ Q (.bl (isI o)) H
def spGood : Sp := fun vs H Q _ => ∃ (x : V) (k : RK), vs = [x] ∧ RT H x k ∧ Q (.bl (goodK k)) H
def oV (r : Option Nat) : V := match r with | none => .non | some k => .int (k : Nat)
def spDue : Sp := fun vs H Q _ => ∃ (p : Addr) (xs : List V) (ks : List RK), vs = [.ref p] ∧ H p = some (.lst xs) ∧ AllK H ks xs ∧ 0 < xs.length ∧ ∀ H' r, Same H H' → Due ks r → Q (oV r) H'
def spRows : Sp := fun vs H Q _ => ∃ (c : Int), vs = [.int c] ∧ ∀ H' l xs rs, Same H H' → H l = none → TabAt H' l xs rs → Q (.ref l) H'
theorem p_set {α : Type} {R : α → V → Prop} : ∀ {as : List α} {xs : List V} (n : Nat) {b : α} {x : V}, PySem.Paired R as xs → R b x → PySem.Paired R (as.set n b) (xs.set n x)
  | _, _, _, _, _, .nil, _ => .nil
  | _, _, 0, _, _, .cons _ t, r => .cons r t
  | _, _, n + 1, _, _, .cons q t, r => .cons q (p_set n t r)
section
variable {P : Program} {w : World} {K : PySem.W.Frag} {mg : Str → Option Value} {base : Heap} {a : Ad}
theorem ok_rows (T : Txt K mg a) : FnOk P w K mg base CX0 2 a.f_L_rows a.d_L_rows ["_law_cell_here"] spRows := by
  have G_L_mixed : FnOk P w K mg base CX0 1 _ _ _ spMixed := ok_mixed T
  refine T.F_L_rows.ok sc_L_rows (fun vs H Q E h => ?_) (fun cdv A outer s H vs Q E hr h => ?_)
  · obtain ⟨c, rfl, _⟩ := h; rfl
  · obtain ⟨c, rfl, q⟩ := h
    refine ⟨_, (pss_cons (ps_set (i := 1) sc_L_rows.nd rfl (Or.inl rfl) (pe_op o_add pe_int (pe_op o_mod (pe_call G_L_mixed hr rfl T.m_L_mixed T.F_L_mixed.kp T.B_L_mixed .nil pass0 (pa_cons (vr 0) (pa_cons pe_int pa_nil))) pe_int))) (pss_cons (ps_set (i := 2) sc_L_rows.nd rfl (Or.inl rfl) (pe_op o_mod (pe_call G_L_mixed hr rfl T.m_L_mixed T.F_L_mixed.kp T.B_L_mixed .nil pass0 (pa_cons (vr 0) (pa_cons pe_int pa_nil))) pe_int)) (pss_cons (ps_set (i := 3) sc_L_rows.nd rfl (Or.inl rfl) (pe_lst pa_nil)) (pss_cons (ps_for PassesOwn.never rfl (pi_range1 rfl T.z_range (pa_cons (vr 1) pa_nil)) (pg_name (i := 4) sc_L_rows.nd rfl (Or.inl rfl)) (pss_cons (ps_set (i := 5) sc_L_rows.nd rfl (Or.inl rfl) (pe_call G_L_mixed hr rfl T.m_L_mixed T.F_L_mixed.kp T.B_L_mixed .nil pass0 (pa_cons (vr 0) (pa_cons (pe_op o_add pe_int (vr 4)) pa_nil)))) (pss_cons (ps_set (i := 6) sc_L_rows.nd rfl (Or.inl rfl) (pe_op o_sub (pe_op o_mod (vr 5) pe_int) pe_int)) (pss_consM (ps_if (t_cmp o_gt (vr 2) pe_int (nomark _)) (pss_one (ps_set (i := 6) sc_L_rows.nd rfl (Or.inl rfl) (pe_callB (call_min2 rfl) rfl T.z_min bt_min (pa_cons pe_int (pa_cons (pe_op o_add (pe_op o_sub (pe_op o_fdivB (vr 4) (pe_op o_add pe_int (pe_op o_mod (pe_op o_fdivB (pe_call G_L_mixed hr rfl T.m_L_mixed T.F_L_mixed.kp T.B_L_mixed .nil pass0 (pa_cons (vr 0) (pa_cons pe_int pa_nil))) pe_int) pe_int))) pe_int) (pe_op o_mod (vr 5) pe_int)) pa_nil))))) pss_nil) (pss_cons (ps_set (i := 7) sc_L_rows.nd rfl (Or.inl rfl) (pe_op o_add (pe_op o_add (vr 6) pe_int) (pe_op o_mod (pe_op o_fdivB (vr 5) pe_int) (pe_op o_sub pe_int (vr 6))))) (pss_consM (ps_if (t_cmp o_gt (vr 2) pe_int (nomark _)) (pss_one (ps_set (i := 7) sc_L_rows.nd rfl (Or.inl rfl) (pe_callB (call_min2 rfl) rfl T.z_min bt_min (pa_cons pe_int (pa_cons (pe_op o_add (pe_op o_add (vr 6) pe_int) (pe_op o_mod (pe_op o_fdivB (vr 5) pe_int) pe_int)) pa_nil))))) pss_nil) (pss_one (ps_expr (pe_m.append (vr 3) (pa_cons (pe_tup (pa_cons (vr 6) (pa_cons (vr 7) pa_nil))) pa_nil)))))))))) (pss_cons (ps_asg (pe_tup (pa_cons (pe_ix ix_seq (pe_ix ix_seq (vr 3) (pe_un u_neg pe_int) (fun _ _ => rfl)) pe_int (fun _ _ => rfl)) (pa_cons (pe_op o_add (pe_ix ix_seq (pe_ix ix_seq (vr 3) (pe_un u_neg pe_int) (fun _ _ => rfl)) pe_int (fun _ _ => rfl)) pe_int) pa_nil))) (pg_sub (vr 3) (pe_un u_neg pe_int) set_list)) (pss_one (ps_ret (vr 3)))))))), ?_⟩
    have sl : sizeLine = 16777216 := sizeLine_eq
    refine ⟨c, 0, rfl, by decide, by decide, fun r0 r00 _ => ⟨cp, ?_⟩⟩
    refine ⟨c, 1, rfl, by decide, by decide, fun r1 r10 _ => ⟨cp, ?_⟩⟩
    refine ⟨Nat.zero_le _, fun D hD => ?_⟩
    refine ⟨_, rfl, by omega, by omega, ?_⟩
    refine for_range (lo := 0) (n := (1 + r0 % 24).toNat) (fun i σ H' => ∃ (xs : List V) (rs : List Rw) (x4 x5 x6 x7 : Option V), Same H H' ∧ H' D = some (.lst xs) ∧ AllR H' rs xs ∧ rs.length = i ∧ (∀ z ∈ rs, OkR z) ∧ σ = [some (.int c), some (.int (1 + r0 % 24)), some (.int (r1 % 3)), some (.ref D), x4, x5, x6, x7]) ⟨[], [], none, none, none, none, Same.new hD, upd_same, .nil, rfl, (fun z hz => by cases hz), rfl⟩ ?_ ?_
    · rintro i σ H1 hi ⟨xs, rs, x4, x5, x6, x7, s1, hD1, hall, hrl, hok, rfl⟩
      have xl : xs.length = i := by rw [← hrl]; exact (Paired.length hall).symm
      refine ⟨c, _, rfl, by omega, by omega, fun nu nu0 _ => ⟨cp, ?_⟩⟩
      refine ⟨fun σ' H' => ∃ le : Int, H' = H1 ∧ -1 ≤ le ∧ le ≤ 24 ∧ σ' = [some (.int c), some (.int (1 + r0 % 24)), some (.int (r1 % 3)), some (.ref D), some (.int (0 + (i : Int))), some (.int nu), some (.int le), x7], ?_, ?_⟩
      · refine ifC (fun _ => ?_) (fun _ => ⟨_, rfl, by omega, by omega, rfl⟩)
        refine ⟨c, 1, rfl, by decide, by decide, fun m m0 _ => ⟨cdB (by decide) (show Bt 40 (_ : Int) by unfold Bt; decide), cp, cdB (by omega) (show Bt 40 (2 + m / 3 % 4) by unfold Bt; omega), cp, ?_⟩⟩
        have k0 : 0 ≤ (0 + (i : Int)) / (2 + m / 3 % 4) := Int.ediv_nonneg (by omega) (by omega)
        refine ⟨_, _, rfl, ⟨_, rfl, ?_, ?_, rfl⟩⟩ <;> split <;> omega
      rintro σ' H' ⟨le, rfl, l0, l1, rfl⟩
      refine ⟨cdB (by decide) (show Bt 40 (_ : Int) by unfold Bt; decide), cp (by omega), ?_⟩
      have t0 := Int.emod_nonneg (nu / 32) (show 25 - le ≠ 0 by omega)
      have t1 := Int.emod_lt_of_pos (nu / 32) (show 0 < 25 - le by omega)
      refine ⟨fun σ' H2 => ∃ tu : Int, H2 = H' ∧ le < tu ∧ tu ≤ 25 ∧ σ' = [some (.int c), some (.int (1 + r0 % 24)), some (.int (r1 % 3)), some (.ref D), some (.int (0 + (i : Int))), some (.int nu), some (.int le), some (.int tu)], ?_, ?_⟩
      · refine ifC (fun _ => ?_) (fun _ => ⟨_, rfl, by omega, by omega, rfl⟩)
        refine ⟨cdB (by decide) (show Bt 40 (_ : Int) by unfold Bt; decide), cp, ?_⟩
        refine ⟨_, _, rfl, ⟨_, rfl, ?_, ?_, rfl⟩⟩ <;> split <;> omega
      rintro σ2 H2 ⟨tu, rfl, u0, u1, rfl⟩
      refine ⟨.inl ⟨rfl, _, SqL.of hD1⟩, ⟨by show 2 ≤ sizeLine; decide, fun pt hpt => ?_⟩⟩
      have s2 := Same.new (o := .tup [.int le, .int tu]) hpt
      have hD2 := s2 _ _ hD1
      refine ⟨D, _, _, rfl, rfl, hD2, by omega, ?_⟩
      refine ⟨xs ++ [.ref pt], rs ++ [(le, tu)], _, _, _, _, (s1.trans s2).put hD, upd_same, (AllR.snoc (z := (le, tu)) ⟨pt, rfl, upd_same⟩ (hall.same s2)).lst hD2, by rw [List.length_append, hrl]; rfl, ?_, rfl⟩
      intro z hz
      rcases List.mem_append.mp hz with hz | hz
      · exact hok z hz
      · rw [List.mem_singleton.mp hz]
        exact ⟨l0, l1, u0, u1⟩
    · rintro σ H1 ⟨xs, rs, x4, x5, x6, x7, s1, hD1, hall, hrl, hok, rfl⟩
      have xl : xs.length = rs.length := (Paired.length hall).symm
      obtain ⟨x, hx, hat⟩ := last_get (xs := xs) (by omega)
      obtain ⟨r, hr', hR⟩ := pget hall hx
      obtain ⟨p, rfl, hp⟩ := hR
      have okr := hok r (List.mem_of_getElem? hr')
      refine .inl ⟨D, _, _, _, rfl, rfl, SqL.of hD1, hat, ?_⟩
      refine .inr (.inl ⟨p, _, _, _, rfl, rfl, SqT.of hp, atI_cons 0 rfl rfl, ?_⟩)
      refine .inl ⟨D, _, _, _, rfl, rfl, SqL.of hD1, hat, ?_⟩
      refine .inr (.inl ⟨p, _, _, _, rfl, rfl, SqT.of hp, atI_cons 0 rfl rfl, ?_⟩)
      refine ⟨by show 2 ≤ sizeLine; decide, fun pt hpt => ?_⟩
      have s2 := Same.new (o := .tup [.int r.1, .int (r.1 + 1)]) hpt
      have hD2 := s2 _ _ hD1
      refine ⟨D, _, _, xs.length - 1, rfl, rfl, hD2, neg1 (by omega), ?_⟩
      have hall2 : AllR (upd (upd H1 pt (.tup [.int r.1, .int (r.1 + 1)])) D (.lst (xs.set (xs.length - 1) (.ref pt)))) (rs.set (rs.length - 1) (r.1, r.1 + 1)) (xs.set (xs.length - 1) (.ref pt)) := by
        rw [xl]
        exact p_set (rs.length - 1) ((hall.same s2).lst hD2) (IsR.lst (z := (r.1, r.1 + 1)) hD2 ⟨pt, rfl, upd_same⟩)
      refine q _ D _ _ ((s1.trans s2).put hD) hD ⟨upd_same, hall2, ⟨by rw [List.length_set]; omega, by rw [List.length_set]; omega, ?_, ?_⟩⟩
      · intro z hz
        rcases List.mem_or_eq_of_mem_set hz with hz | hz
        · exact hok z hz
        · rw [hz]
          exact ⟨okr.1, okr.2.1, by show r.1 < r.1 + 1; omega, by show r.1 + 1 ≤ 25; have := okr.2.1; omega⟩
      · intro z hz
        rw [List.length_set, List.getElem?_set_self (by omega)] at hz
        cases hz
        rfl
theorem ok_odd (T : Txt K mg a) : FnOk P w K mg base CX0 1 a.f_L_odd a.d_L_odd ["_law_row", "_law_number"] spOdd := by
  refine T.F_L_odd.ok sc_L_odd (fun vs H Q E h => ?_) (fun cdv A outer s H vs Q E hr h => ?_)
  · obtain ⟨p, r, nu, rfl, _⟩ := h; rfl
  · obtain ⟨p, r, nu, rfl, hrow, nu0, q⟩ := h
    refine ⟨_, (pss_cons (ps_set (i := 2) sc_L_odd.nd rfl (Or.inl rfl) (pe_op o_add (pe_op o_pow pe_int pe_int) (vr 1))) (pss_cons (ps_set (i := 3) sc_L_odd.nd rfl (Or.inl rfl) (pe_lstQ (paq_cons pe_non (paq_cons (pe_callTy call_list_of rfl T.z_list bt_list (pa_cons (vr 0) pa_nil)) (paq_cons (pe_slice sl_tup (vr 0) po_none (po_some pe_int)) (paq_cons (pe_op op_catT (vr 0) (pe_tup (pa_cons pe_int pa_nil))) (paq_cons pe_str (paq_cons (pe_tup (pa_cons (pe_ix ix_seq (vr 0) pe_int (fun _ _ => rfl)) (pa_cons (pe_ix ix_seq (vr 0) pe_int (fun _ _ => rfl)) pa_nil))) (paq_cons (pe_tup (pa_cons (pe_ix ix_seq (vr 0) pe_int (fun _ _ => rfl)) (pa_cons (pe_ix ix_seq (vr 0) pe_int (fun _ _ => rfl)) pa_nil))) (paq_cons (pe_tup (pa_cons (pe_un u_neg pe_int) (pa_cons pe_int pa_nil))) (paq_cons (pe_tup (pa_cons pe_int (pa_cons pe_int pa_nil))) paq_nil))))))))))) (pss_cons (ps_set (i := 3) sc_L_odd.nd rfl (Or.inl rfl) (pe_op op_cat (vr 3) (pe_lstQ (paq_cons (pe_tup (pa_cons (pe_ix ix_seq (vr 0) pe_int (fun _ _ => rfl)) (pa_cons pe_int pa_nil))) (paq_cons (pe_tup (pa_cons pe_bl (pa_cons pe_int pa_nil))) (paq_cons (pe_tup (pa_cons pe_int (pa_cons pe_bl pa_nil))) (paq_cons (pe_tup (pa_cons pe_int (pa_cons pe_non pa_nil))) (paq_cons (pe_tup (pa_cons pe_str (pa_cons pe_int pa_nil))) (paq_cons (pe_tup (pa_cons (pe_op o_sub pe_int (vr 2)) (pa_cons pe_int pa_nil))) (paq_cons (pe_tup (pa_cons pe_int (pa_cons (vr 2) pa_nil))) (paq_cons (pe_tup (pa_cons pe_int (pa_cons pe_int pa_nil))) (paq_cons (pe_tup (pa_cons (pe_un u_neg pe_int) (pa_cons pe_int pa_nil))) paq_nil)))))))))))) (pss_one (ps_ret (pe_ix ix_seq (vr 3) (pe_op o_mod (vr 1) (pe_callB call_lenM rfl T.z_len bt_len (pa_cons (vr 3) pa_nil))) (fun _ _ => rfl))))))), ?_⟩
    have e20 : (10 : Int) ^ (20 : Int).toNat = 100000000000000000000 := by decide +kernel
    refine ⟨cw, ?_⟩
    refine ⟨p, _, rfl, .inr (SqT.of hrow), fun p1 hp1 => ?_⟩
    have s1 := Same.new (o := .lst [.int r.1, .int r.2]) hp1
    have g1 := upd_same (H := H) (a := p1) (o := .lst [.int r.1, .int r.2])
    replace hrow := s1 _ _ hrow
    have S1 := s1
    generalize upd H p1 (.lst [.int r.1, .int r.2]) = H1 at s1 g1 S1 hrow
    refine ⟨1, rfl, p, _, rfl, SqT.of hrow, (by show ¬ (HT.sIx 2 0 none = 0 ∧ HT.sIx 2 2 (some 1) = 2); decide), fun p2 hp2 => ?_⟩
    have s2 := Same.new (o := .tup (cutV [.int r.1, .int r.2] none (some 1))) hp2
    have g2 := upd_same (H := H1) (a := p2) (o := .tup (cutV [.int r.1, .int r.2] none (some 1)))
    replace hrow := s2 _ _ hrow
    replace g1 := s2 _ _ g1
    have S2 := S1.trans s2
    generalize upd H1 p2 (.tup (cutV [.int r.1, .int r.2] none (some 1))) = H2 at s2 g2 S2 hrow g1
    refine ⟨(by decide : 1 ≤ sizeLine), fun p3 hp3 => ?_⟩
    have s3 := Same.new (o := .tup [.int 25]) hp3
    have g3 := upd_same (H := H2) (a := p3) (o := .tup [.int 25])
    replace hrow := s3 _ _ hrow
    replace g1 := s3 _ _ g1
    replace g2 := s3 _ _ g2
    have S3 := S2.trans s3
    generalize upd H2 p3 (.tup [.int 25]) = H3 at s3 g3 S3 hrow g1 g2
    refine ⟨p, p3, _, _, rfl, rfl, SqT.of hrow, SqT.of g3, by simp, (by show 2 + 1 ≤ sizeLine; decide), fun z => absurd z (by simp), fun _ p4 hp4 => ?_⟩
    have s4 := Same.new (o := .tup ([.int r.1, .int r.2] ++ [.int 25])) hp4
    have g4 := upd_same (H := H3) (a := p4) (o := .tup ([.int r.1, .int r.2] ++ [.int 25]))
    replace hrow := s4 _ _ hrow
    replace g1 := s4 _ _ g1
    replace g2 := s4 _ _ g2
    replace g3 := s4 _ _ g3
    have S4 := S3.trans s4
    generalize upd H3 p4 (.tup ([.int r.1, .int r.2] ++ [.int 25])) = H4 at s4 g4 S4 hrow g1 g2 g3
    refine .inr (.inl ⟨p, _, _, _, rfl, rfl, SqT.of hrow, atI_cons 1 rfl rfl, ?_⟩)
    refine .inr (.inl ⟨p, _, _, _, rfl, rfl, SqT.of hrow, atI_cons 0 rfl rfl, ?_⟩)
    refine ⟨(by decide : 2 ≤ sizeLine), fun p5 hp5 => ?_⟩
    have s5 := Same.new (o := .tup [.int r.2, .int r.1]) hp5
    have g5 := upd_same (H := H4) (a := p5) (o := .tup [.int r.2, .int r.1])
    replace hrow := s5 _ _ hrow
    replace g1 := s5 _ _ g1
    replace g2 := s5 _ _ g2
    replace g3 := s5 _ _ g3
    replace g4 := s5 _ _ g4
    have S5 := S4.trans s5
    generalize upd H4 p5 (.tup [.int r.2, .int r.1]) = H5 at s5 g5 S5 hrow g1 g2 g3 g4
    refine .inr (.inl ⟨p, _, _, _, rfl, rfl, SqT.of hrow, atI_cons 0 rfl rfl, ?_⟩)
    refine .inr (.inl ⟨p, _, _, _, rfl, rfl, SqT.of hrow, atI_cons 0 rfl rfl, ?_⟩)
    refine ⟨(by decide : 2 ≤ sizeLine), fun p6 hp6 => ?_⟩
    have s6 := Same.new (o := .tup [.int r.1, .int r.1]) hp6
    have g6 := upd_same (H := H5) (a := p6) (o := .tup [.int r.1, .int r.1])
    replace hrow := s6 _ _ hrow
    replace g1 := s6 _ _ g1
    replace g2 := s6 _ _ g2
    replace g3 := s6 _ _ g3
    replace g4 := s6 _ _ g4
    replace g5 := s6 _ _ g5
    have S6 := S5.trans s6
    generalize upd H5 p6 (.tup [.int r.1, .int r.1]) = H6 at s6 g6 S6 hrow g1 g2 g3 g4 g5
    refine ⟨(by decide : 2 ≤ sizeLine), fun p7 hp7 => ?_⟩
    have s7 := Same.new (o := .tup [.int (-2), .int 1]) hp7
    have g7 := upd_same (H := H6) (a := p7) (o := .tup [.int (-2), .int 1])
    replace hrow := s7 _ _ hrow
    replace g1 := s7 _ _ g1
    replace g2 := s7 _ _ g2
    replace g3 := s7 _ _ g3
    replace g4 := s7 _ _ g4
    replace g5 := s7 _ _ g5
    replace g6 := s7 _ _ g6
    have S7 := S6.trans s7
    generalize upd H6 p7 (.tup [.int (-2), .int 1]) = H7 at s7 g7 S7 hrow g1 g2 g3 g4 g5 g6
    refine ⟨(by decide : 2 ≤ sizeLine), fun p8 hp8 => ?_⟩
    have s8 := Same.new (o := .tup [.int 25, .int 26]) hp8
    have g8 := upd_same (H := H7) (a := p8) (o := .tup [.int 25, .int 26])
    replace hrow := s8 _ _ hrow
    replace g1 := s8 _ _ g1
    replace g2 := s8 _ _ g2
    replace g3 := s8 _ _ g3
    replace g4 := s8 _ _ g4
    replace g5 := s8 _ _ g5
    replace g6 := s8 _ _ g6
    replace g7 := s8 _ _ g7
    have S8 := S7.trans s8
    generalize upd H7 p8 (.tup [.int 25, .int 26]) = H8 at s8 g8 S8 hrow g1 g2 g3 g4 g5 g6 g7
    refine ⟨(by decide : 9 ≤ sizeLine), fun p9 hp9 => ?_⟩
    have s9 := Same.new (o := .lst [.non, .ref p1, .ref p2, .ref p4, .str "ab", .ref p5, .ref p6, .ref p7, .ref p8]) hp9
    have g9 := upd_same (H := H8) (a := p9) (o := .lst [.non, .ref p1, .ref p2, .ref p4, .str "ab", .ref p5, .ref p6, .ref p7, .ref p8])
    replace hrow := s9 _ _ hrow
    replace g1 := s9 _ _ g1
    replace g2 := s9 _ _ g2
    replace g3 := s9 _ _ g3
    replace g4 := s9 _ _ g4
    replace g5 := s9 _ _ g5
    replace g6 := s9 _ _ g6
    replace g7 := s9 _ _ g7
    replace g8 := s9 _ _ g8
    have S9 := S8.trans s9
    generalize upd H8 p9 (.lst [.non, .ref p1, .ref p2, .ref p4, .str "ab", .ref p5, .ref p6, .ref p7, .ref p8]) = H9 at s9 g9 S9 hrow g1 g2 g3 g4 g5 g6 g7 g8
    refine .inr (.inl ⟨p, _, _, _, rfl, rfl, SqT.of hrow, atI_cons 0 rfl rfl, ?_⟩)
    refine ⟨(by decide : 2 ≤ sizeLine), fun p10 hp10 => ?_⟩
    have s10 := Same.new (o := .tup [.int r.1, .int 26]) hp10
    have g10 := upd_same (H := H9) (a := p10) (o := .tup [.int r.1, .int 26])
    replace hrow := s10 _ _ hrow
    replace g1 := s10 _ _ g1
    replace g2 := s10 _ _ g2
    replace g3 := s10 _ _ g3
    replace g4 := s10 _ _ g4
    replace g5 := s10 _ _ g5
    replace g6 := s10 _ _ g6
    replace g7 := s10 _ _ g7
    replace g8 := s10 _ _ g8
    replace g9 := s10 _ _ g9
    have S10 := S9.trans s10
    generalize upd H9 p10 (.tup [.int r.1, .int 26]) = H10 at s10 g10 S10 hrow g1 g2 g3 g4 g5 g6 g7 g8 g9
    refine ⟨(by decide : 2 ≤ sizeLine), fun p11 hp11 => ?_⟩
    have s11 := Same.new (o := .tup [.bl true, .int 2]) hp11
    have g11 := upd_same (H := H10) (a := p11) (o := .tup [.bl true, .int 2])
    replace hrow := s11 _ _ hrow
    replace g1 := s11 _ _ g1
    replace g2 := s11 _ _ g2
    replace g3 := s11 _ _ g3
    replace g4 := s11 _ _ g4
    replace g5 := s11 _ _ g5
    replace g6 := s11 _ _ g6
    replace g7 := s11 _ _ g7
    replace g8 := s11 _ _ g8
    replace g9 := s11 _ _ g9
    replace g10 := s11 _ _ g10
    have S11 := S10.trans s11
    generalize upd H10 p11 (.tup [.bl true, .int 2]) = H11 at s11 g11 S11 hrow g1 g2 g3 g4 g5 g6 g7 g8 g9 g10
    refine ⟨(by decide : 2 ≤ sizeLine), fun p12 hp12 => ?_⟩
    have s12 := Same.new (o := .tup [.int 0, .bl true]) hp12
    have g12 := upd_same (H := H11) (a := p12) (o := .tup [.int 0, .bl true])
    replace hrow := s12 _ _ hrow
    replace g1 := s12 _ _ g1
    replace g2 := s12 _ _ g2
    replace g3 := s12 _ _ g3
    replace g4 := s12 _ _ g4
    replace g5 := s12 _ _ g5
    replace g6 := s12 _ _ g6
    replace g7 := s12 _ _ g7
    replace g8 := s12 _ _ g8
    replace g9 := s12 _ _ g9
    replace g10 := s12 _ _ g10
    replace g11 := s12 _ _ g11
    have S12 := S11.trans s12
    generalize upd H11 p12 (.tup [.int 0, .bl true]) = H12 at s12 g12 S12 hrow g1 g2 g3 g4 g5 g6 g7 g8 g9 g10 g11
    refine ⟨(by decide : 2 ≤ sizeLine), fun p13 hp13 => ?_⟩
    have s13 := Same.new (o := .tup [.int 0, .non]) hp13
    have g13 := upd_same (H := H12) (a := p13) (o := .tup [.int 0, .non])
    replace hrow := s13 _ _ hrow
    replace g1 := s13 _ _ g1
    replace g2 := s13 _ _ g2
    replace g3 := s13 _ _ g3
    replace g4 := s13 _ _ g4
    replace g5 := s13 _ _ g5
    replace g6 := s13 _ _ g6
    replace g7 := s13 _ _ g7
    replace g8 := s13 _ _ g8
    replace g9 := s13 _ _ g9
    replace g10 := s13 _ _ g10
    replace g11 := s13 _ _ g11
    replace g12 := s13 _ _ g12
    have S13 := S12.trans s13
    generalize upd H12 p13 (.tup [.int 0, .non]) = H13 at s13 g13 S13 hrow g1 g2 g3 g4 g5 g6 g7 g8 g9 g10 g11 g12
    refine ⟨(by decide : 2 ≤ sizeLine), fun p14 hp14 => ?_⟩
    have s14 := Same.new (o := .tup [.str "0", .int 1]) hp14
    have g14 := upd_same (H := H13) (a := p14) (o := .tup [.str "0", .int 1])
    replace hrow := s14 _ _ hrow
    replace g1 := s14 _ _ g1
    replace g2 := s14 _ _ g2
    replace g3 := s14 _ _ g3
    replace g4 := s14 _ _ g4
    replace g5 := s14 _ _ g5
    replace g6 := s14 _ _ g6
    replace g7 := s14 _ _ g7
    replace g8 := s14 _ _ g8
    replace g9 := s14 _ _ g9
    replace g10 := s14 _ _ g10
    replace g11 := s14 _ _ g11
    replace g12 := s14 _ _ g12
    replace g13 := s14 _ _ g13
    have S14 := S13.trans s14
    generalize upd H13 p14 (.tup [.str "0", .int 1]) = H14 at s14 g14 S14 hrow g1 g2 g3 g4 g5 g6 g7 g8 g9 g10 g11 g12 g13
    refine ⟨(by decide : 2 ≤ sizeLine), fun p15 hp15 => ?_⟩
    have s15 := Same.new (o := .tup [.int (0 - ((10 : Int) ^ (20 : Int).toNat + nu)), .int 1]) hp15
    have g15 := upd_same (H := H14) (a := p15) (o := .tup [.int (0 - ((10 : Int) ^ (20 : Int).toNat + nu)), .int 1])
    replace hrow := s15 _ _ hrow
    replace g1 := s15 _ _ g1
    replace g2 := s15 _ _ g2
    replace g3 := s15 _ _ g3
    replace g4 := s15 _ _ g4
    replace g5 := s15 _ _ g5
    replace g6 := s15 _ _ g6
    replace g7 := s15 _ _ g7
    replace g8 := s15 _ _ g8
    replace g9 := s15 _ _ g9
    replace g10 := s15 _ _ g10
    replace g11 := s15 _ _ g11
    replace g12 := s15 _ _ g12
    replace g13 := s15 _ _ g13
    replace g14 := s15 _ _ g14
    have S15 := S14.trans s15
    generalize upd H14 p15 (.tup [.int (0 - ((10 : Int) ^ (20 : Int).toNat + nu)), .int 1]) = H15 at s15 g15 S15 hrow g1 g2 g3 g4 g5 g6 g7 g8 g9 g10 g11 g12 g13 g14
    refine ⟨(by decide : 2 ≤ sizeLine), fun p16 hp16 => ?_⟩
    have s16 := Same.new (o := .tup [.int 0, .int ((10 : Int) ^ (20 : Int).toNat + nu)]) hp16
    have g16 := upd_same (H := H15) (a := p16) (o := .tup [.int 0, .int ((10 : Int) ^ (20 : Int).toNat + nu)])
    replace hrow := s16 _ _ hrow
    replace g1 := s16 _ _ g1
    replace g2 := s16 _ _ g2
    replace g3 := s16 _ _ g3
    replace g4 := s16 _ _ g4
    replace g5 := s16 _ _ g5
    replace g6 := s16 _ _ g6
    replace g7 := s16 _ _ g7
    replace g8 := s16 _ _ g8
    replace g9 := s16 _ _ g9
    replace g10 := s16 _ _ g10
    replace g11 := s16 _ _ g11
    replace g12 := s16 _ _ g12
    replace g13 := s16 _ _ g13
    replace g14 := s16 _ _ g14
    replace g15 := s16 _ _ g15
    have S16 := S15.trans s16
    generalize upd H15 p16 (.tup [.int 0, .int ((10 : Int) ^ (20 : Int).toNat + nu)]) = H16 at s16 g16 S16 hrow g1 g2 g3 g4 g5 g6 g7 g8 g9 g10 g11 g12 g13 g14 g15
    refine ⟨(by decide : 2 ≤ sizeLine), fun p17 hp17 => ?_⟩
    have s17 := Same.new (o := .tup [.int 0, .int 25]) hp17
    have g17 := upd_same (H := H16) (a := p17) (o := .tup [.int 0, .int 25])
    replace hrow := s17 _ _ hrow
    replace g1 := s17 _ _ g1
    replace g2 := s17 _ _ g2
    replace g3 := s17 _ _ g3
    replace g4 := s17 _ _ g4
    replace g5 := s17 _ _ g5
    replace g6 := s17 _ _ g6
    replace g7 := s17 _ _ g7
    replace g8 := s17 _ _ g8
    replace g9 := s17 _ _ g9
    replace g10 := s17 _ _ g10
    replace g11 := s17 _ _ g11
    replace g12 := s17 _ _ g12
    replace g13 := s17 _ _ g13
    replace g14 := s17 _ _ g14
    replace g15 := s17 _ _ g15
    replace g16 := s17 _ _ g16
    have S17 := S16.trans s17
    generalize upd H16 p17 (.tup [.int 0, .int 25]) = H17 at s17 g17 S17 hrow g1 g2 g3 g4 g5 g6 g7 g8 g9 g10 g11 g12 g13 g14 g15 g16
    refine ⟨(by decide : 2 ≤ sizeLine), fun p18 hp18 => ?_⟩
    have s18 := Same.new (o := .tup [.int (-1), .int 0]) hp18
    have g18 := upd_same (H := H17) (a := p18) (o := .tup [.int (-1), .int 0])
    replace hrow := s18 _ _ hrow
    replace g1 := s18 _ _ g1
    replace g2 := s18 _ _ g2
    replace g3 := s18 _ _ g3
    replace g4 := s18 _ _ g4
    replace g5 := s18 _ _ g5
    replace g6 := s18 _ _ g6
    replace g7 := s18 _ _ g7
    replace g8 := s18 _ _ g8
    replace g9 := s18 _ _ g9
    replace g10 := s18 _ _ g10
    replace g11 := s18 _ _ g11
    replace g12 := s18 _ _ g12
    replace g13 := s18 _ _ g13
    replace g14 := s18 _ _ g14
    replace g15 := s18 _ _ g15
    replace g16 := s18 _ _ g16
    replace g17 := s18 _ _ g17
    have S18 := S17.trans s18
    generalize upd H17 p18 (.tup [.int (-1), .int 0]) = H18 at s18 g18 S18 hrow g1 g2 g3 g4 g5 g6 g7 g8 g9 g10 g11 g12 g13 g14 g15 g16 g17
    refine ⟨(by decide : 9 ≤ sizeLine), fun p19 hp19 => ?_⟩
    have s19 := Same.new (o := .lst [.ref p10, .ref p11, .ref p12, .ref p13, .ref p14, .ref p15, .ref p16, .ref p17, .ref p18]) hp19
    have g19 := upd_same (H := H18) (a := p19) (o := .lst [.ref p10, .ref p11, .ref p12, .ref p13, .ref p14, .ref p15, .ref p16, .ref p17, .ref p18])
    replace hrow := s19 _ _ hrow
    replace g1 := s19 _ _ g1
    replace g2 := s19 _ _ g2
    replace g3 := s19 _ _ g3
    replace g4 := s19 _ _ g4
    replace g5 := s19 _ _ g5
    replace g6 := s19 _ _ g6
    replace g7 := s19 _ _ g7
    replace g8 := s19 _ _ g8
    replace g9 := s19 _ _ g9
    replace g10 := s19 _ _ g10
    replace g11 := s19 _ _ g11
    replace g12 := s19 _ _ g12
    replace g13 := s19 _ _ g13
    replace g14 := s19 _ _ g14
    replace g15 := s19 _ _ g15
    replace g16 := s19 _ _ g16
    replace g17 := s19 _ _ g17
    replace g18 := s19 _ _ g18
    have S19 := S18.trans s19
    generalize upd H18 p19 (.lst [.ref p10, .ref p11, .ref p12, .ref p13, .ref p14, .ref p15, .ref p16, .ref p17, .ref p18]) = H19 at s19 g19 S19 hrow g1 g2 g3 g4 g5 g6 g7 g8 g9 g10 g11 g12 g13 g14 g15 g16 g17 g18
    refine ⟨p9, p19, _, _, rfl, rfl, g9, g19, (by decide : 9 + 9 ≤ sizeLine), fun p20 hp20 => ?_⟩
    have s20 := Same.new (o := .lst ([.non, .ref p1, .ref p2, .ref p4, .str "ab", .ref p5, .ref p6, .ref p7, .ref p8] ++ [.ref p10, .ref p11, .ref p12, .ref p13, .ref p14, .ref p15, .ref p16, .ref p17, .ref p18])) hp20
    have g20 := upd_same (H := H19) (a := p20) (o := .lst ([.non, .ref p1, .ref p2, .ref p4, .str "ab", .ref p5, .ref p6, .ref p7, .ref p8] ++ [.ref p10, .ref p11, .ref p12, .ref p13, .ref p14, .ref p15, .ref p16, .ref p17, .ref p18]))
    replace hrow := s20 _ _ hrow
    replace g1 := s20 _ _ g1
    replace g2 := s20 _ _ g2
    replace g3 := s20 _ _ g3
    replace g4 := s20 _ _ g4
    replace g5 := s20 _ _ g5
    replace g6 := s20 _ _ g6
    replace g7 := s20 _ _ g7
    replace g8 := s20 _ _ g8
    replace g9 := s20 _ _ g9
    replace g10 := s20 _ _ g10
    replace g11 := s20 _ _ g11
    replace g12 := s20 _ _ g12
    replace g13 := s20 _ _ g13
    replace g14 := s20 _ _ g14
    replace g15 := s20 _ _ g15
    replace g16 := s20 _ _ g16
    replace g17 := s20 _ _ g17
    replace g18 := s20 _ _ g18
    replace g19 := s20 _ _ g19
    have S20 := S19.trans s20
    generalize upd H19 p20 (.lst ([.non, .ref p1, .ref p2, .ref p4, .str "ab", .ref p5, .ref p6, .ref p7, .ref p8] ++ [.ref p10, .ref p11, .ref p12, .ref p13, .ref p14, .ref p15, .ref p16, .ref p17, .ref p18])) = H20 at s20 g20 S20 hrow g1 g2 g3 g4 g5 g6 g7 g8 g9 g10 g11 g12 g13 g14 g15 g16 g17 g18 g19
    refine ⟨_, .inl (SqL.of g20), cp (by show (0 : Int) < 18; decide), ?_⟩
    obtain ⟨v, k, hat, hRT⟩ : ∃ v k, atI (([.non, .ref p1, .ref p2, .ref p4, .str "ab", .ref p5, .ref p6, .ref p7, .ref p8] : List V) ++ [.ref p10, .ref p11, .ref p12, .ref p13, .ref p14, .ref p15, .ref p16, .ref p17, .ref p18]) (nu % 18) = some v ∧ RT H20 v k := by
      have h18 : nu % 18 = ((0 : Nat) : Int) ∨ nu % 18 = ((1 : Nat) : Int) ∨ nu % 18 = ((2 : Nat) : Int) ∨ nu % 18 = ((3 : Nat) : Int) ∨ nu % 18 = ((4 : Nat) : Int) ∨ nu % 18 = ((5 : Nat) : Int) ∨ nu % 18 = ((6 : Nat) : Int) ∨ nu % 18 = ((7 : Nat) : Int) ∨ nu % 18 = ((8 : Nat) : Int) ∨ nu % 18 = ((9 : Nat) : Int) ∨ nu % 18 = ((10 : Nat) : Int) ∨ nu % 18 = ((11 : Nat) : Int) ∨ nu % 18 = ((12 : Nat) : Int) ∨ nu % 18 = ((13 : Nat) : Int) ∨ nu % 18 = ((14 : Nat) : Int) ∨ nu % 18 = ((15 : Nat) : Int) ∨ nu % 18 = ((16 : Nat) : Int) ∨ nu % 18 = ((17 : Nat) : Int) := by omega
      rcases h18 with e | e | e | e | e | e | e | e | e | e | e | e | e | e | e | e | e | e
      · exact ⟨_, _, atI_cons _ e.symm rfl, .non⟩
      · exact ⟨_, _, atI_cons _ e.symm rfl, .lst p1 _ g1⟩
      · exact ⟨_, _, atI_cons _ e.symm rfl, .tup p2 _ g2 (by show [V.int r.1].length ≠ 2; simp)⟩
      · exact ⟨_, _, atI_cons _ e.symm rfl, .tup p4 _ g4 (by show [V.int r.1, .int r.2, .int 25].length ≠ 2; simp)⟩
      · exact ⟨_, _, atI_cons _ e.symm rfl, .str _⟩
      · exact ⟨_, _, atI_cons _ e.symm rfl, .pair p5 _ _ _ _ g5 (.int _) (.int _)⟩
      · exact ⟨_, _, atI_cons _ e.symm rfl, .pair p6 _ _ _ _ g6 (.int _) (.int _)⟩
      · exact ⟨_, _, atI_cons _ e.symm rfl, .pair p7 _ _ _ _ g7 (.int _) (.int _)⟩
      · exact ⟨_, _, atI_cons _ e.symm rfl, .pair p8 _ _ _ _ g8 (.int _) (.int _)⟩
      · exact ⟨_, _, atI_cons _ e.symm rfl, .pair p10 _ _ _ _ g10 (.int _) (.int _)⟩
      · exact ⟨_, _, atI_cons _ e.symm rfl, .pair p11 _ _ _ _ g11 (.bl _) (.int _)⟩
      · exact ⟨_, _, atI_cons _ e.symm rfl, .pair p12 _ _ _ _ g12 (.int _) (.bl _)⟩
      · exact ⟨_, _, atI_cons _ e.symm rfl, .pair p13 _ _ _ _ g13 (.int _) .non⟩
      · exact ⟨_, _, atI_cons _ e.symm rfl, .pair p14 _ _ _ _ g14 (.str _) (.int _)⟩
      · exact ⟨_, _, atI_cons _ e.symm rfl, .pair p15 _ _ _ _ g15 (.int _) (.int _)⟩
      · exact ⟨_, _, atI_cons _ e.symm rfl, .pair p16 _ _ _ _ g16 (.int _) (.int _)⟩
      · exact ⟨_, _, atI_cons _ e.symm rfl, .pair p17 _ _ _ _ g17 (.int _) (.int _)⟩
      · exact ⟨_, _, atI_cons _ e.symm rfl, .pair p18 _ _ _ _ g18 (.int _) (.int _)⟩
    refine .inl ⟨p20, _, _, v, rfl, rfl, SqL.of g20, hat, ?_⟩
    exact q _ v k S20 hRT
theorem ok_lwhole (T : Txt K mg a) : FnOk P w K mg base CX0 1 a.f_L_is_whole a.d_L_is_whole ["_law_thing"] spLWhole := by
  refine T.F_L_is_whole.ok sc_L_is_whole (fun vs H Q E h => ?_) (fun cdv A outer s H vs Q E hr h => ?_)
  · obtain ⟨x, o, rfl, _⟩ := h; rfl
  · obtain ⟨x, o, rfl, th, q⟩ := h
    refine ⟨_, (pss_one (ps_ret (m_and (pe_callB call_isi rfl T.z_isinstance bt_isinstance (pa_cons (vr 0) (pa_cons (pe_bltn (v := .ty "int") rfl T.z_int bt_int rfl) pa_nil))) (pe_one (m_not (pe_callB call_isi rfl T.z_isinstance bt_isinstance (pa_cons (vr 0) (pa_cons (pe_bltn (v := .ty "bool") rfl T.z_bool bt_bool rfl) pa_nil)))))))), ?_⟩
    cases th with
    | int i => exact ⟨_, _, _, true, rfl, rfl, .int i, rfl, ⟨_, _, _, false, rfl, rfl, .int i, rfl, q⟩⟩
    | bl b => exact ⟨_, _, _, true, rfl, rfl, .bl b, rfl, ⟨_, _, _, true, rfl, rfl, .bl b, rfl, q⟩⟩
    | non => exact ⟨_, _, _, false, rfl, rfl, .non, rfl, q⟩
    | str t => exact ⟨_, _, _, false, rfl, rfl, .str t, rfl, q⟩
    | lst p xs e => exact ⟨_, _, _, false, rfl, rfl, .lst e, rfl, q⟩
    | tup p xs e => exact ⟨_, _, _, false, rfl, rfl, .tup e, rfl, q⟩
    | dK p xs e => exact ⟨_, _, _, false, rfl, rfl, .dK e, rfl, q⟩
theorem ok_good (T : Txt K mg a) : FnOk P w K mg base CX0 2 a.f_L_good a.d_L_good ["_law_row"] spGood := by
  have G_L_is_whole : FnOk P w K mg base CX0 1 _ _ _ spLWhole := ok_lwhole T
  refine T.F_L_good.ok sc_L_good (fun vs H Q E h => ?_) (fun cdv A outer s H vs Q E hr h => ?_)
  · obtain ⟨x, k, rfl, _⟩ := h; rfl
  · obtain ⟨x, k, rfl, hR, q⟩ := h
    refine ⟨_, (pss_cons (ps_if (PW.pt (pw_or (pt_not (t_val (pe_callB call_isi rfl T.z_isinstance bt_isinstance (pa_cons (vr 0) (pa_cons (pe_bltn (v := .ty "tuple") rfl T.z_tuple bt_tuple rfl) pa_nil))))) (pw_or (t_cmp o_ne (pe_callB call_lenM rfl T.z_len bt_len (pa_cons (vr 0) pa_nil)) pe_int (nomark _)) (pw_or (pt_not (t_val (pe_call G_L_is_whole hr rfl T.m_L_is_whole T.F_L_is_whole.kp T.B_L_is_whole .nil pass0 (pa_cons (pe_ix ix_seq (vr 0) pe_int (fun _ _ => rfl)) pa_nil)))) (pw_or1 (pt_not (t_val (pe_call G_L_is_whole hr rfl T.m_L_is_whole T.F_L_is_whole.kp T.B_L_is_whole .nil pass0 (pa_cons (pe_ix ix_seq (vr 0) pe_int (fun _ _ => rfl)) pa_nil))))))))) (pss_one (ps_ret pe_bl)) pss_nil) (pss_one (ps_ret (m_and (m_chain3 o_le o_lt o_le (pe_un u_neg pe_int) (pe_ix ix_seq (vr 0) pe_int (fun _ _ => rfl)) (pe_ix ix_seq (vr 0) pe_int (fun _ _ => rfl)) pe_int) (pe_one (pe_cmpR o_le (pe_ix ix_seq (vr 0) pe_int (fun _ _ => rfl)) pe_int (nomark _))))))), ?_⟩
    cases hR with
    | non => exact ⟨_, _, _, false, rfl, rfl, .non, rfl, q⟩
    | str t => exact ⟨_, _, _, false, rfl, rfl, .str t, rfl, q⟩
    | lst p xs h => exact ⟨_, _, _, false, rfl, rfl, .lst h, rfl, q⟩
    | tup p xs h hl =>
      refine ⟨_, _, _, true, rfl, rfl, .tup h, rfl, ⟨_, .inr (SqT.of h), ?_⟩⟩
      have e : ¬ ((xs.length : Int) = 2) := by omega
      exact iteNN e q
    | pair p x y o1 o2 h t1 t2 =>
      refine ⟨_, _, _, true, rfl, rfl, .tup h, rfl, ⟨_, .inr (SqT.of h), ?_⟩⟩
      refine .inr (.inl ⟨p, _, _, _, rfl, rfl, SqT.of h, atI_cons 0 rfl rfl, ?_⟩)
      refine ⟨_, _, rfl, t1, ?_⟩
      have q' : Q (.bl (inR (-1) 24 o1 && inNext o1 o2)) H := q
      cases o1 with
      | none => exact q'
      | some l =>
        obtain rfl := thing_int t1
        refine .inr (.inl ⟨p, _, _, _, rfl, rfl, SqT.of h, atI_cons 1 rfl rfl, ?_⟩)
        refine ⟨_, _, rfl, t2, ?_⟩
        cases o2 with
        | none =>
          have e : (inR (-1) 24 (some l) && inNext (some l) none) = false := by simp [inNext, inR]
          rw [e] at q'
          exact q'
        | some u =>
          obtain rfl := thing_int t2
          have e : (inR (-1) 24 (some l) && inNext (some l) (some u)) = decide (-1 ≤ l ∧ l < u ∧ u ≤ 25 ∧ l ≤ 24) := by
            simp only [inNext, inR]
            rw [← Bool.decide_and]
            exact decide_eq_decide.mpr ⟨fun h => by omega, fun h => by omega⟩
          rw [e] at q'
          have no : ¬ (-1 ≤ l ∧ l < u ∧ u ≤ 25 ∧ l ≤ 24) → Q (.bl false) H := fun c => by rw [decide_eq_false c] at q'; exact q'
          refine .inr (.inl ⟨p, _, _, _, rfl, rfl, SqT.of h, atI_cons 0 rfl rfl, ?_⟩)
          refine ifC (fun c1 => ?_) (fun c1 => no fun z => c1 z.1)
          refine .inr (.inl ⟨p, _, _, _, rfl, rfl, SqT.of h, atI_cons 1 rfl rfl, ?_⟩)
          refine ifC (fun c2 => ?_) (fun c2 => no fun z => c2 z.2.1)
          refine ifC (fun c3 => ?_) (fun c3 => no fun z => c3 z.2.2.1)
          refine .inr (.inl ⟨p, _, _, _, rfl, rfl, SqT.of h, atI_cons 0 rfl rfl, ?_⟩)
          have e4 : decide (-1 ≤ l ∧ l < u ∧ u ≤ 25 ∧ l ≤ 24) = decide (l ≤ 24) := decide_eq_decide.mpr ⟨fun z => z.2.2.2, fun z => ⟨c1, c2, c3, z⟩⟩
          rw [e4] at q'
          exact q'
theorem ok_due (T : Txt K mg a) : FnOk P w K mg base CX0 3 a.f_L_due a.d_L_due ["_law_rows_here"] spDue := by
  have G_L_good : FnOk P w K mg base CX0 2 _ _ _ spGood := ok_good T
  refine T.F_L_due.ok sc_L_due (fun vs H Q E h => ?_) (fun cdv A outer s H vs Q E hr h => ?_)
  · obtain ⟨p, xs, ks, rfl, _⟩ := h; rfl
  · obtain ⟨p, xs, ks, rfl, hp, t, h0, q⟩ := h
    refine ⟨_, (pss_cons (ps_for PassesOwn.never rfl (pi_enum rfl T.z_enumerate (pa_cons (vr 0) pa_nil)) (pg_tup rfl (pgs_cons (pg_name (i := 1) sc_L_due.nd rfl (Or.inl rfl)) (pgs_cons (pg_name (i := 2) sc_L_due.nd rfl (Or.inl rfl)) pgs_nil))) (pss_cons (ps_if (pt_not (t_val (pe_call G_L_good hr rfl T.m_L_good T.F_L_good.kp T.B_L_good .nil pass0 (pa_cons (vr 2) pa_nil)))) (pss_one (ps_ret (vr 1))) pss_nil) (pss_one (ps_if (PW.pt (pw_and (t_cmp o_eq (vr 1) (pe_op o_sub (pe_callB call_lenM rfl T.z_len bt_len (pa_cons (vr 0) pa_nil)) pe_int) (nomark _)) (pw_and1 (t_cmp o_ne (pe_ix ix_seq (vr 2) pe_int (fun _ _ => rfl)) (pe_op o_add (pe_ix ix_seq (vr 2) pe_int (fun _ _ => rfl)) pe_int) (nomark _))))) (pss_one (ps_ret (vr 1))) pss_nil)))) (pss_one (ps_ret pe_non))), ?_⟩
    have kl : ks.length = xs.length := Paired.length t
    refine ⟨p, _, rfl, hp, for_enum (a := p) (xs := xs) (fun i σ H' => Same H H' ∧ i ≤ xs.length ∧ (∀ j < i, goodK (kat ks j) = true) ∧ (i = xs.length → lastOk (kat ks (ks.length - 1)) = true) ∧ ∃ (x1 x2 : Option V), σ = [some (.ref p), x1, x2]) ⟨Same.refl H, Nat.zero_le _, (fun j hj => absurd hj (Nat.not_lt_zero _)), (fun z => by omega), none, none, rfl⟩ (fun i σ H' h' => h'.1 _ _ hp) ?_ ?_⟩
    · rintro i x σ H1 pt hx ⟨s1, hi, hg, _, x1, x2, rfl⟩ hpt
      obtain ⟨k, hk, hR⟩ := pget t hx
      have hlt : i < xs.length := (List.getElem?_eq_some_iff.mp hx).1
      have s2 := Same.new (o := .tup [.int (i : Nat), x]) hpt
      refine ⟨pt, _, rfl, SqT.of upd_same, rfl, _, _, rfl, _, _, rfl, rfl, ?_⟩
      have s3 := s1.trans s2
      generalize upd H1 pt (.tup [.int (i : Nat), x]) = H2 at s2 s3
      have hR3 := hR.same s3
      refine ⟨x, k, rfl, hR3, ?_⟩
      cases eg : goodK k with
      | false => exact q _ (some i) s3 (.inr ⟨i, rfl, by omega, hg, .inl (by rw [kat_get hk]; exact eg)⟩)
      | true =>
        have hg' : ∀ j < i + 1, goodK (kat ks j) = true := fun j hj => by
          rcases Nat.lt_or_ge j i with c | c
          · exact hg j c
          · have : j = i := by omega
            subst this
            rw [kat_get hk]; exact eg
        refine ⟨_, .inl (SqL.of (s3 _ _ hp)), ?_⟩
        refine ifC (fun c => ?_) (fun c => ⟨s3, hlt, hg', fun z => absurd (show ((i : Nat) : Int) = (xs.length : Int) - 1 by omega) c, _, _, rfl⟩)
        have c' : i = xs.length - 1 := by have z : ((i : Nat) : Int) = (xs.length : Int) - 1 := c; omega
        obtain ⟨l, u, rfl, _⟩ := good_pair eg
        cases hR3 with
        | pair pp x y _ _ hpp t1 t2 =>
          obtain rfl := thing_int t1
          obtain rfl := thing_int t2
          refine .inr (.inl ⟨pp, _, _, _, rfl, rfl, SqT.of hpp, atI_cons 1 rfl rfl, ?_⟩)
          refine .inr (.inl ⟨pp, _, _, _, rfl, rfl, SqT.of hpp, atI_cons 0 rfl rfl, ?_⟩)
          by_cases cc : u = l + 1
          · refine iteNS cc ⟨s3, hlt, hg', fun z => ?_, _, _, rfl⟩
            rw [kl, ← c', kat_get hk]
            exact decide_eq_true cc
          · refine iteNN cc ?_
            exact q _ (some i) s3 (.inr ⟨i, rfl, by omega, hg, .inr ⟨by omega, by rw [kat_get hk]; exact decide_eq_false cc⟩⟩)
    · rintro σ H1 ⟨s1, _, hg, hl, x1, x2, rfl⟩
      exact q _ none s1 (.inl ⟨rfl, fun j hj => hg j (by omega), hl rfl⟩)
end
end My

set_option Elab.async false
set_option linter.all false
set_option maxRecDepth 100000
set_option maxHeartbeats 4000000
namespace My
open PySem L2 FrM
theorem inR_no {lo hi i : Int} (h : ¬ (lo ≤ i ∧ i ≤ hi)) : inR lo hi (some i) = false := decide_eq_false h
def spLots (a : Ad) : Sp := fun vs H Q _ => ∃ (l : Addr) (xs : List V) (rs : List Rw) (c : Int), vs = [.ref l, .int c] ∧ TabAt H l xs rs ∧ ∀ H', Same H H' → Q (.bl true) H'
section
variable {P : Program} {w : World} {K : PySem.W.Frag} {mg : Str → Option Value} {base : Heap} {a : Ad}
theorem ok_lots (T : Txt K mg a) : FnOk P w K mg base CX0 6 a.f_L_lots a.d_L_lots ["_law_rows_here", "_law_cell_here"] (spLots a) := by
  have G_Looks : FnOk P w K mg base CX0 4 _ _ _ (spInit a) := oi_Looks T
  have G_L_mixed : FnOk P w K mg base CX0 5 _ _ _ spMixed := (ok_mixed T).mono (by decide)
  have G_L_no_lot : FnOk P w K mg base CX0 5 _ _ _ (spNoLot a) := ok_nolot T
  have G_Looks_endings : FnOk P w K mg base CX0 5 _ _ _ (spEnds a) := (ok_ends T).mono (by decide)
  refine T.F_L_lots.ok sc_L_lots (fun vs H Q E h => ?_) (fun cdv A outer s H vs Q E hr h => ?_)
  · obtain ⟨l, xs, rs, c, rfl, _⟩ := h; rfl
  · obtain ⟨l, xs, rs, c, rfl, tb, q⟩ := h
    refine ⟨_, (pss_cons (ps_set (i := 2) sc_L_lots.nd rfl (Or.inl rfl) (pe_make T.mk_Looks G_Looks hr rfl T.mc_Looks T.Bi_Looks .nil pass0 (pa_cons (pe_callTy call_list_of rfl T.z_list bt_list (pa_cons (vr 0) pa_nil)) pa_nil))) (pss_cons (ps_set (i := 3) sc_L_lots.nd rfl (Or.inl rfl) (pe_call G_L_mixed hr rfl T.m_L_mixed T.F_L_mixed.kp T.B_L_mixed .nil pass0 (pa_cons (vr 1) (pa_cons pe_int pa_nil)))) (pss_cons (ps_set (i := 4) sc_L_lots.nd rfl (Or.inl rfl) (pe_op o_add (pe_callB call_lenM rfl T.z_len bt_len (pa_cons (vr 0) pa_nil)) (pe_op o_mod (vr 3) (pe_op o_sub pe_int (pe_callB call_lenM rfl T.z_len bt_len (pa_cons (vr 0) pa_nil)))))) (pss_cons (ps_set (i := 5) sc_L_lots.nd rfl (Or.inl rfl) (pe_op o_add (pe_op o_pow pe_int pe_int) (vr 3))) (pss_cons (ps_set (i := 6) sc_L_lots.nd rfl (Or.inl rfl) (pe_lstQ (paq_cons (pe_op o_sub (pe_callB call_lenM rfl T.z_len bt_len (pa_cons (vr 0) pa_nil)) pe_int) (paq_cons pe_int (paq_cons (pe_op o_sub pe_int (vr 5)) (paq_cons (vr 5) (paq_cons pe_non (paq_cons pe_bl (paq_cons (pe_callTy call_strI rfl T.z_str bt_str (pa_cons (vr 4) pa_nil)) (paq_cons (pe_lst (pa_cons (vr 4) pa_nil)) paq_nil)))))))))) (pss_cons (ps_for PassesOwn.never rfl (pi_range1 rfl T.z_range (pa_cons pe_int pa_nil)) (pg_name (i := 7) sc_L_lots.nd rfl (Or.inl rfl)) (pss_cons (ps_if (pt_not (t_val (pe_call G_L_no_lot hr rfl T.m_L_no_lot T.F_L_no_lot.kp T.B_L_no_lot .nil pass0 (pa_cons (vr 2) (pa_cons (vr 7) (pa_cons (pe_ix ix_seq (vr 6) (pe_op o_mod (pe_op o_fdivB (vr 3) pe_int) pe_int) (fun _ _ => rfl)) (pa_cons pe_int pa_nil))))))) (pss_one (ps_ret pe_bl)) pss_nil) (pss_one (ps_for PassesOwn.never rfl (pi_any (pe_lstQ (paq_cons (pe_un u_neg pe_int) (paq_cons (pe_op o_add (vr 4) pe_int) (paq_cons (vr 5) (paq_cons pe_non (paq_cons pe_bl (paq_cons pe_str (paq_cons (pe_tup (pa_cons pe_int pa_nil)) paq_nil))))))))) (pg_name (i := 8) sc_L_lots.nd rfl (Or.inl rfl)) (pss_one (ps_if (pt_not (t_val (pe_call G_L_no_lot hr rfl T.m_L_no_lot T.F_L_no_lot.kp T.B_L_no_lot .nil pass0 (pa_cons (vr 2) (pa_cons (vr 7) (pa_cons (vr 4) (pa_cons (vr 8) pa_nil))))))) (pss_one (ps_ret pe_bl)) pss_nil)))))) (pss_cons (ps_expr (pe_meth (vr 2) T.cl_Looks T.mt_Looks_endings G_Looks_endings hr T.B_Looks_endings .nil pass0 (pa_cons (vr 4) (pa_cons (pe_op o_mod (pe_op o_fdivB (vr 3) pe_int) (pe_op o_add (vr 4) pe_int)) pa_nil)))) (pss_one (ps_ret pe_bl))))))))), ?_⟩
    have sl : sizeLine = 16777216 := sizeLine_eq
    have xl := tb.xl
    have r1 := tb.tab.pos
    have r24 := tb.tab.len
    refine ⟨l, _, rfl, .inl (SqL.of tb.at_), fun l2 hl2 => ?_⟩
    have s2 := Same.new (o := .lst xs) hl2
    have tb2 : TabAt (upd H l2 (.lst xs)) l2 xs rs := ⟨upd_same, tb.all.same s2, tb.tab⟩
    generalize upd H l2 (.lst xs) = H2 at s2 tb2
    intro x dx hx hdx hne
    have s3 := made_same (C := a.c_Looks) hx hdx
    refine ⟨x, dx, l2, xs, rs, rfl, upd_same, tb2.same s3, fun H3 fr lk => ⟨rfl, ?_⟩⟩
    have s23 : Same H2 H3 := fun b o e => fr _ _ (fun z => by rw [z, hx] at e; cases e) (s3 _ _ e)
    have s03 := s2.trans s23
    have hl3 := s03 _ _ tb.at_
    refine ⟨c, 40, rfl, by decide, by decide, fun nu nu0 nu1 => ?_⟩
    refine ⟨_, .inl (SqL.of hl3), ?_⟩
    refine ⟨_, .inl (SqL.of hl3), cp (by show 0 < 25 - (xs.length : Int); omega), ?_⟩
    have m0 := Int.emod_nonneg nu (show 25 - (xs.length : Int) ≠ 0 by omega)
    have m1 := Int.emod_lt_of_pos nu (show 0 < 25 - (xs.length : Int) by omega)
    have L0 : (rs.length : Int) ≤ (xs.length : Int) + nu % (25 - (xs.length : Int)) := by omega
    have L1 : (xs.length : Int) + nu % (25 - (xs.length : Int)) ≤ 24 := by omega
    have e20 : (10 : Int) ^ (20 : Int).toNat = 100000000000000000000 := by decide +kernel
    refine ⟨cw, ?_⟩
    refine ⟨_, .inl (SqL.of hl3), ⟨?_, ?_⟩⟩
    · exact small_log (by omega)
    refine ⟨(by decide : 1 ≤ sizeLine), fun p1 hp1 => ⟨(by decide : 8 ≤ sizeLine), fun p2 hp2 => ?_⟩⟩
    obtain ⟨L, hL⟩ : ∃ L : Int, L = (xs.length : Int) + nu % (25 - (xs.length : Int)) := ⟨_, rfl⟩
    obtain ⟨far, hfar⟩ : ∃ far : Int, far = (10 : Int) ^ (20 : Int).toNat + nu := ⟨_, rfl⟩
    have far1 : 100 < far := by rw [hfar, e20]; omega
    subst hL
    have s4 := (Same.new (o := .lst [.int ((xs.length : Int) + nu % (25 - (xs.length : Int)))]) hp1).trans (Same.new (o := .lst [.int ((xs.length : Int) - 1), .int 25, .int (0 - ((10 : Int) ^ (20 : Int).toNat + nu)), .int ((10 : Int) ^ (20 : Int).toNat + nu), .non, .bl true, .str (toString ((xs.length : Int) + nu % (25 - (xs.length : Int)))), .ref p1]) hp2)
    have g2 := upd_same (H := upd H3 p1 (.lst [.int ((xs.length : Int) + nu % (25 - (xs.length : Int)))])) (a := p2) (o := .lst [.int ((xs.length : Int) - 1), .int 25, .int (0 - ((10 : Int) ^ (20 : Int).toNat + nu)), .int ((10 : Int) ^ (20 : Int).toNat + nu), .non, .bl true, .str (toString ((xs.length : Int) + nu % (25 - (xs.length : Int)))), .ref p1])
    have g1 := Same.new (o := .lst [.int ((xs.length : Int) - 1), .int 25, .int (0 - ((10 : Int) ^ (20 : Int).toNat + nu)), .int ((10 : Int) ^ (20 : Int).toNat + nu), .non, .bl true, .str (toString ((xs.length : Int) + nu % (25 - (xs.length : Int)))), .ref p1]) hp2 _ _ (upd_same (H := H3) (a := p1) (o := .lst [.int ((xs.length : Int) + nu % (25 - (xs.length : Int)))]))
    refine ⟨3, rfl, by decide, by decide, ?_⟩
    refine for_range (lo := 0) (n := (3 : Int).toNat) (fun i σ H' => Same (upd (upd H3 p1 (.lst [.int ((xs.length : Int) + nu % (25 - (xs.length : Int)))])) p2 (.lst [.int ((xs.length : Int) - 1), .int 25, .int (0 - ((10 : Int) ^ (20 : Int).toNat + nu)), .int ((10 : Int) ^ (20 : Int).toNat + nu), .non, .bl true, .str (toString ((xs.length : Int) + nu % (25 - (xs.length : Int)))), .ref p1])) H' ∧ ∃ (x7 x8 : Option V), σ = [some (.ref l), some (.int c), some (.ref x), some (.int nu), some (.int ((xs.length : Int) + nu % (25 - (xs.length : Int)))), some (.int ((10 : Int) ^ (20 : Int).toNat + nu)), some (.ref p2), x7, x8]) ⟨Same.refl _, none, none, rfl⟩ ?_ ?_
    · rintro i σ H5 hi ⟨s5, x7, x8, rfl⟩
      have s45 := s4.trans s5
      have lk5 := lk.same s45
      have g15 := s5 _ _ g1
      obtain ⟨v, o, hat, th, hno⟩ : ∃ v o, atI [V.int ((xs.length : Int) - 1), .int 25, .int (0 - ((10 : Int) ^ (20 : Int).toNat + nu)), .int ((10 : Int) ^ (20 : Int).toNat + nu), .non, .bl true, .str (toString ((xs.length : Int) + nu % (25 - (xs.length : Int)))), .ref p1] (nu / 32 % 8) = some v ∧ Thing H5 v o ∧ inR (rs.length : Int) 24 o = false := by
        have h8 : nu / 32 % 8 = ((0 : Nat) : Int) ∨ nu / 32 % 8 = ((1 : Nat) : Int) ∨ nu / 32 % 8 = ((2 : Nat) : Int) ∨ nu / 32 % 8 = ((3 : Nat) : Int) ∨ nu / 32 % 8 = ((4 : Nat) : Int) ∨ nu / 32 % 8 = ((5 : Nat) : Int) ∨ nu / 32 % 8 = ((6 : Nat) : Int) ∨ nu / 32 % 8 = ((7 : Nat) : Int) := by omega
        rcases h8 with e | e | e | e | e | e | e | e
        · exact ⟨_, _, atI_cons _ e.symm rfl, .int _, inR_no (by omega)⟩
        · exact ⟨_, _, atI_cons _ e.symm rfl, .int _, inR_no (by omega)⟩
        · exact ⟨_, _, atI_cons _ e.symm rfl, .int _, inR_no (by omega)⟩
        · exact ⟨_, _, atI_cons _ e.symm rfl, .int _, inR_no (by omega)⟩
        · exact ⟨_, _, atI_cons _ e.symm rfl, .non, rfl⟩
        · exact ⟨_, _, atI_cons _ e.symm rfl, .bl _, rfl⟩
        · exact ⟨_, _, atI_cons _ e.symm rfl, .str _, rfl⟩
        · exact ⟨_, _, atI_cons _ e.symm rfl, .lst p1 _ g15, rfl⟩
      refine ⟨cdB (by decide) (show Bt 40 (32 : Int) by unfold Bt; decide), cp, ?_⟩
      refine .inl ⟨p2, _, _, v, rfl, rfl, SqL.of (s5 _ _ g2), hat, ?_⟩
      refine ⟨x, rs, _, v, _, o, _, rfl, lk5, th, .int 0, .inl hno, fun H6 s6 => ?_⟩
      refine ⟨(by decide : 1 ≤ sizeLine), fun q1 hq1 => ⟨(by decide : 7 ≤ sizeLine), fun q2 hq2 => ?_⟩⟩
      have s7 := (Same.new (o := .tup [.int 0]) hq1).trans (Same.new (o := .lst [.int (-1), .int ((xs.length : Int) + nu % (25 - (xs.length : Int)) + 1), .int ((10 : Int) ^ (20 : Int).toNat + nu), .non, .bl true, .str "0", .ref q1]) hq2)
      have k1 := Same.new (o := .lst [.int (-1), .int ((xs.length : Int) + nu % (25 - (xs.length : Int)) + 1), .int ((10 : Int) ^ (20 : Int).toNat + nu), .non, .bl true, .str "0", .ref q1]) hq2 _ _ (upd_same (H := H6) (a := q1) (o := .tup [.int 0]))
      have k2 := upd_same (H := upd H6 q1 (.tup [.int 0])) (a := q2) (o := .lst [.int (-1), .int ((xs.length : Int) + nu % (25 - (xs.length : Int)) + 1), .int ((10 : Int) ^ (20 : Int).toNat + nu), .non, .bl true, .str "0", .ref q1])
      have s57 := s5.trans (s6.trans s7)
      have lk7 := lk5.same (s6.trans s7)
      have hall : ∀ v ∈ [V.int (-1), .int ((xs.length : Int) + nu % (25 - (xs.length : Int)) + 1), .int ((10 : Int) ^ (20 : Int).toNat + nu), .non, .bl true, .str "0", .ref q1], ∃ o, Thing (upd (upd H6 q1 (.tup [.int 0])) q2 (.lst [.int (-1), .int ((xs.length : Int) + nu % (25 - (xs.length : Int)) + 1), .int ((10 : Int) ^ (20 : Int).toNat + nu), .non, .bl true, .str "0", .ref q1])) v o ∧ inR 0 ((xs.length : Int) + nu % (25 - (xs.length : Int))) o = false := by
        intro v hv
        simp only [List.mem_cons, List.not_mem_nil, or_false] at hv
        rcases hv with rfl | rfl | rfl | rfl | rfl | rfl | rfl
        · exact ⟨_, .int _, inR_no (by omega)⟩
        · exact ⟨_, .int _, inR_no (by omega)⟩
        · exact ⟨_, .int _, inR_no (by omega)⟩
        · exact ⟨_, .non, rfl⟩
        · exact ⟨_, .bl _, rfl⟩
        · exact ⟨_, .str _, rfl⟩
        · exact ⟨_, .tup q1 _ k1, rfl⟩
      refine .inl ⟨⟨_, SqL.of k2⟩, for_list (K := K) (a := q2) (xs := [V.int (-1), .int ((xs.length : Int) + nu % (25 - (xs.length : Int)) + 1), .int ((10 : Int) ^ (20 : Int).toNat + nu), .non, .bl true, .str "0", .ref q1]) (fun j σ H' => Same (upd (upd H6 q1 (.tup [.int 0])) q2 (.lst [.int (-1), .int ((xs.length : Int) + nu % (25 - (xs.length : Int)) + 1), .int ((10 : Int) ^ (20 : Int).toNat + nu), .non, .bl true, .str "0", .ref q1])) H' ∧ ∃ (x8 : Option V), σ = [some (.ref l), some (.int c), some (.ref x), some (.int nu), some (.int ((xs.length : Int) + nu % (25 - (xs.length : Int)))), some (.int ((10 : Int) ^ (20 : Int).toNat + nu)), some (.ref p2), some (.int (0 + (i : Int))), x8])
        ⟨Same.refl _, x8, rfl⟩ (fun j σ H' _ h => SqL.of (h.1 _ _ k2)) ?_ ?_⟩
      · rintro j u σ H8 hu ⟨s8, x8, rfl⟩
        obtain ⟨o, th, hbad⟩ := hall u (List.mem_of_getElem? hu)
        exact ⟨x, rs, _, _, u, _, o, rfl, lk7.same s8, .int _, th.same s8, .inr ⟨_, rfl, hbad⟩, fun H9 s9 => ⟨s8.trans s9, _, rfl⟩⟩
      · rintro σ H8 ⟨s8, x8, rfl⟩
        exact ⟨s57.trans s8, _, _, rfl⟩
    · rintro σ H5 ⟨s5, x7, x8, rfl⟩
      have lk5 := lk.same (s4.trans s5)
      obtain ⟨d5, _, _, hx5, _⟩ := lk5.ex
      have b0 := Int.emod_nonneg (nu / 32) (show (xs.length : Int) + nu % (25 - (xs.length : Int)) + 1 ≠ 0 by omega)
      have b1 := Int.emod_lt_of_pos (nu / 32) (show 0 < (xs.length : Int) + nu % (25 - (xs.length : Int)) + 1 by omega)
      refine ⟨x, d5, _, rfl, hx5, rfl, ⟨cdB (by decide) (show Bt 40 (32 : Int) by unfold Bt; decide), cp (by show 0 < (xs.length : Int) + nu % (25 - (xs.length : Int)) + 1; omega), ?_⟩⟩
      exact ⟨x, rs, _, _, rfl, lk5, L0, L1, b0, by omega, fun H6 r6 s6 => q _ (s03.trans ((s4.trans s5).trans s6))⟩
end
end My

set_option Elab.async false
set_option linter.all false
set_option maxRecDepth 100000
set_option maxHeartbeats 4000000
namespace My
open PySem L2 FrM
theorem TabAt.tt {H : Hp} {l : Addr} {xs : List V} {rs : List Rw} (h : TabAt H l xs rs) : TT H (.ref l) none := by
  have xl := h.xl
  have hp := h.tab.pos
  have hl := h.tab.len
  exact TT.lst l xs (rs.map kR) none h.at_ h.all.k (by omega) (by omega) h.tab.due
theorem Thing.upd {H : Hp} {D : Addr} {vs ys : List V} {x : V} {o : Option Int} (e : H D = some (.lst vs)) (h : Thing H x o) : Thing (L2.upd H D (.lst ys)) x o := by
  cases h with
  | int i => exact .int i
  | bl b => exact .bl b
  | non => exact .non
  | str t => exact .str t
  | lst p xs q =>
    by_cases c : p = D
    · subst c; exact .lst p ys upd_same
    · exact .lst p xs (by rw [upd_ne c]; exact q)
  | tup p xs q => exact .tup p xs (by rw [upd_ne (fun z => by rw [z, e] at q; cases q)]; exact q)
  | dK p xs q => exact .dK p xs (by rw [upd_ne (fun z => by rw [z, e] at q; cases q)]; exact q)
theorem RT.upd {H : Hp} {D : Addr} {vs ys : List V} {x : V} {k : RK} (e : H D = some (.lst vs)) (h : RT H x k) : RT (L2.upd H D (.lst ys)) x k := by
  cases h with
  | non => exact .non
  | str t => exact .str t
  | lst p xs q =>
    by_cases c : p = D
    · subst c; exact .lst p ys upd_same
    · exact .lst p xs (by rw [upd_ne c]; exact q)
  | tup p xs q hl => exact .tup p xs (by rw [upd_ne (fun z => by rw [z, e] at q; cases q)]; exact q) hl
  | pair p x y o1 o2 q t1 t2 => exact .pair p x y o1 o2 (by rw [upd_ne (fun z => by rw [z, e] at q; cases q)]; exact q) (t1.upd e) (t2.upd e)
theorem AllK.upd {H : Hp} {D : Addr} {vs ys : List V} (e : H D = some (.lst vs)) : ∀ {ks : List RK} {xs : List V}, AllK H ks xs → AllK (L2.upd H D (.lst ys)) ks xs
  | _, _, .nil => .nil
  | _, _, .cons r t => .cons (r.upd e) (AllK.upd e t)
section
variable {P : Program} {w : World} {K : PySem.W.Frag} {mg : Str → Option Value} {base : Heap} {a : Ad}
abbrev lawK : Nat := 8
theorem ok_law (T : Txt K mg a) : FnOk P w K mg base CX0 lawK a.f_law a.d_law ["_law_script"] (spLaw K) := by
  have G_L_cell : FnOk P w K mg base CX0 7 _ _ _ (spCell K) := (ok_cell T).mono (by decide)
  have G_L_mixed : FnOk P w K mg base CX0 7 _ _ _ spMixed := (ok_mixed T).mono (by decide)
  have G_L_rows : FnOk P w K mg base CX0 7 _ _ _ spRows := (ok_rows T).mono (by decide)
  have G_L_told : FnOk P w K mg base CX0 7 _ _ _ spTold := (ok_told T).mono (by decide)
  have G_L_lots : FnOk P w K mg base CX0 7 _ _ _ (spLots a) := (ok_lots T).mono (by decide)
  have G_L_odd : FnOk P w K mg base CX0 7 _ _ _ spOdd := (ok_odd T).mono (by decide)
  have G_L_due : FnOk P w K mg base CX0 7 _ _ _ spDue := (ok_due T).mono (by decide)
  refine T.F_law.ok sc_law (fun vs H Q E h => ?_) (fun cdv A outer s H vs Q E hr h => ?_)
  · obtain ⟨p, ns, rfl, _⟩ := h; rfl
  · obtain ⟨p, ns, rfl, hS, hlen, q⟩ := h
    refine ⟨_, (pss_cons (ps_for PassesOwn.never rfl (pi_range1 rfl T.z_range (pa_cons (pe_callB (call_max2 rfl) rfl T.z_max bt_max (pa_cons pe_int (pa_cons (pe_callB (call_min2 rfl) rfl T.z_min bt_min (pa_cons pe_int (pa_cons (pe_callB call_lenM rfl T.z_len bt_len (pa_cons (vr 0) pa_nil)) pa_nil))) pa_nil))) pa_nil)) (pg_name (i := 1) sc_law.nd rfl (Or.inl rfl)) (pss_cons (ps_set (i := 2) sc_law.nd rfl (Or.inl rfl) (pe_call G_L_cell hr rfl T.m_L_cell T.F_L_cell.kp T.B_L_cell .nil pass0 (pa_cons (vr 0) (pa_cons (vr 1) pa_nil)))) (pss_cons (ps_set (i := 3) sc_law.nd rfl (Or.inl rfl) (pe_call G_L_rows hr rfl T.m_L_rows T.F_L_rows.kp T.B_L_rows .nil pass0 (pa_cons (vr 2) pa_nil))) (pss_cons (ps_if (PW.pt (pw_or (t_cmp o_isnot (pe_call G_L_told hr rfl T.m_L_told T.F_L_told.kp T.B_L_told .nil pass0 (pa_cons (pe_callTy call_list_of rfl T.z_list bt_list (pa_cons (vr 3) pa_nil)) pa_nil)) pe_non (nomark _)) (pw_or1 (pt_not (t_val (pe_call G_L_lots hr rfl T.m_L_lots T.F_L_lots.kp T.B_L_lots .nil pass0 (pa_cons (vr 3) (pa_cons (vr 2) pa_nil)))))))) (pss_one (ps_ret pe_bl)) pss_nil) (pss_cons (ps_set (i := 4) sc_law.nd rfl (Or.inl rfl) (pe_callTy call_list_of rfl T.z_list bt_list (pa_cons (vr 3) pa_nil))) (pss_cons (ps_for PassesOwn.never rfl (pi_range1 rfl T.z_range (pa_cons (pe_op o_add pe_int (pe_op o_mod (pe_call G_L_mixed hr rfl T.m_L_mixed T.F_L_mixed.kp T.B_L_mixed .nil pass0 (pa_cons (vr 2) (pa_cons pe_int pa_nil))) pe_int)) pa_nil)) (pg_name (i := 5) sc_law.nd rfl (Or.inl rfl)) (pss_cons (ps_set (i := 6) sc_law.nd rfl (Or.inl rfl) (pe_op o_mod (pe_call G_L_mixed hr rfl T.m_L_mixed T.F_L_mixed.kp T.B_L_mixed .nil pass0 (pa_cons (vr 2) (pa_cons (pe_op o_add pe_int (vr 5)) pa_nil))) (pe_callB call_lenM rfl T.z_len bt_len (pa_cons (vr 3) pa_nil)))) (pss_one (ps_asg (pe_call G_L_odd hr rfl T.m_L_odd T.F_L_odd.kp T.B_L_odd .nil pass0 (pa_cons (pe_ix ix_seq (vr 3) (vr 6) (fun _ _ => rfl)) (pa_cons (pe_call G_L_mixed hr rfl T.m_L_mixed T.F_L_mixed.kp T.B_L_mixed .nil pass0 (pa_cons (vr 2) (pa_cons (pe_op o_add pe_int (vr 5)) pa_nil))) pa_nil))) (pg_sub (vr 4) (vr 6) set_list))))) (pss_cons (ps_set (i := 7) sc_law.nd rfl (Or.inl rfl) (pe_call G_L_due hr rfl T.m_L_due T.F_L_due.kp T.B_L_due .nil pass0 (pa_cons (vr 4) pa_nil))) (pss_cons (ps_set (i := 8) sc_law.nd rfl (Or.inl rfl) (pe_call G_L_told hr rfl T.m_L_told T.F_L_told.kp T.B_L_told .nil pass0 (pa_cons (vr 4) pa_nil))) (pss_consM (ps_if (PW.pt (pw_or (t_val (pe_callB call_isi rfl T.z_isinstance bt_isinstance (pa_cons (vr 8) (pa_cons (pe_bltn (v := .ty "bool") rfl T.z_bool bt_bool rfl) pa_nil)))) (pw_or1 (t_cmp o_ne (vr 8) (vr 7) (nomark _))))) (pss_one (ps_ret pe_bl)) pss_nil) (pss_cons (ps_set (i := 9) sc_law.nd rfl (Or.inl rfl) (pe_lstQ (paq_cons (pe_tup (pa_cons (pe_lst pa_nil) (pa_cons pe_int pa_nil))) (paq_cons (pe_tup (pa_cons pe_non (pa_cons pe_int pa_nil))) (paq_cons (pe_tup (pa_cons (pe_callTy call_tuple_of rfl T.z_tuple bt_tuple (pa_cons (vr 3) pa_nil)) (pa_cons pe_int pa_nil))) (paq_cons (pe_tup (pa_cons pe_str (pa_cons pe_int pa_nil))) (paq_cons (pe_tup (pa_cons (pe_slice sl_list (pe_op op_rep (vr 3) pe_int) po_none (po_some pe_int)) (pa_cons pe_int pa_nil))) (paq_cons (pe_tup (pa_cons (pe_op op_rep (pe_lst (pa_cons pe_non pa_nil)) pe_int) (pa_cons pe_int pa_nil))) paq_nil)))))))) (pss_one (ps_for PassesOwn.never rfl (pi_any (vr 9)) (pg_tup rfl (pgs_cons (pg_name (i := 10) sc_law.nd rfl (Or.inl rfl)) (pgs_cons (pg_name (i := 11) sc_law.nd rfl (Or.inl rfl)) pgs_nil))) (pss_one (ps_if (t_cmp o_ne (pe_call G_L_told hr rfl T.m_L_told T.F_L_told.kp T.B_L_told .nil pass0 (pa_cons (vr 10) pa_nil)) (vr 11) (nomark _)) (pss_one (ps_ret pe_bl)) pss_nil)))))))))))))) (pss_one (ps_ret pe_bl))), ?_⟩
    have sl : sizeLine = 16777216 := sizeLine_eq
    refine ⟨ns.map V.int, .inl hS, 20, _, rfl, 1, _, rfl, ?_⟩
    rw [List.length_map]
    obtain ⟨n, hn⟩ : ∃ n : Int, n = (if (if (ns.length : Int) < 20 then (ns.length : Int) else 20) > 1 then (if (ns.length : Int) < 20 then (ns.length : Int) else 20) else 1) := ⟨_, rfl⟩
    have n15 : 0 ≤ n ∧ n ≤ 20 := by rw [hn]; (repeat' split) <;> omega
    rw [← hn]
    refine ⟨n, rfl, by omega, by omega, ?_⟩
    refine for_range (lo := 0) (n := n.toNat) (fun i σ H' => Same H H' ∧ ∃ (x1 x2 x3 x4 x5 x6 x7 x8 x9 x10 x11 : Option V), σ = [some (.ref p), x1, x2, x3, x4, x5, x6, x7, x8, x9, x10, x11]) ⟨Same.refl H, none, none, none, none, none, none, none, none, none, none, none, rfl⟩ ?_ ?_
    · rintro i σ H1 hi ⟨s1, x1, x2, x3, x4, x5, x6, x7, x8, x9, x10, x11, rfl⟩
      refine ⟨p, ns, _, rfl, s1.seq hS, hlen, by omega, by omega, fun c => ?_⟩
      refine ⟨c, rfl, fun H2 l xs rs s2 fl tb => ?_⟩
      have xl := tb.xl
      have r1 := tb.tab.pos
      have r24 := tb.tab.len
      refine ⟨l, _, rfl, .inl (SqL.of tb.at_), fun l2 hl2 => ?_⟩
      have s3 := Same.new (o := .lst xs) hl2
      have tb2 : TabAt (upd H2 l2 (.lst xs)) l2 xs rs := ⟨upd_same, tb.all.same s3, tb.tab⟩
      refine ⟨_, none, rfl, tb2.tt, fun H4 s4 => ?_⟩
      have s24 := s3.trans s4
      refine ⟨l, xs, rs, c, rfl, tb.same s24, fun H5 s5 => ?_⟩
      have s25 := s24.trans s5
      have tb5 := tb.same s25
      refine ⟨l, _, rfl, .inl (SqL.of tb5.at_), fun D hD => ?_⟩
      have s6 := Same.new (o := .lst xs) hD
      have fD2 : H2 D = none := s25.free hD
      have s26 := s25.trans s6
      have hD6 := upd_same (H := H5) (a := D) (o := .lst xs)
      generalize upd H5 D (.lst xs) = H6 at s6 s26 hD6
      refine ⟨c, 42, rfl, by decide, by decide, fun m _ _ => ⟨cp, ?_⟩⟩
      refine ⟨_, rfl, by omega, by omega, ?_⟩
      refine for_range (lo := 0) (n := (1 + m % 2).toNat) (fun j σ H' => Same H2 H' ∧ ∃ (ys : List V) (ks : List RK) (x5 x6 : Option V), H' D = some (.lst ys) ∧ AllK H' ks ys ∧ ys.length = xs.length ∧ σ = [some (.ref p), some (.int (0 + (i : Int))), some (.int c), some (.ref l), some (.ref D), x5, x6, x7, x8, x9, x10, x11]) ⟨s26, xs, rs.map kR, x5, x6, hD6, (tb.same s26).all.k, rfl, rfl⟩ ?_ ?_
      · rintro j σ H7 hj ⟨s7, ys, ks, x5, x6, hD7, hall, yl, rfl⟩
        have tb7 := tb.same s7
        refine ⟨c, _, rfl, by omega, by omega, fun m2 m20 _ => ⟨_, .inl (SqL.of tb7.at_), cp (by show 0 < (xs.length : Int); omega), ?_⟩⟩
        obtain ⟨at_, hat⟩ : ∃ at_ : Nat, ((at_ : Nat) : Int) = m2 % (xs.length : Int) := ⟨(m2 % (xs.length : Int)).toNat, by have := Int.emod_nonneg m2 (show (xs.length : Int) ≠ 0 by omega); omega⟩
        have hatl : at_ < xs.length := by have := Int.emod_lt_of_pos m2 (show 0 < (xs.length : Int) by omega); omega
        obtain ⟨xr, hxr⟩ : ∃ xr, xs[at_]? = some xr := ⟨_, List.getElem?_eq_getElem hatl⟩
        obtain ⟨r, hr', pr, rfl, hpr⟩ := pget tb7.all hxr
        refine .inl ⟨l, _, _, _, rfl, rfl, SqL.of tb7.at_, (by show atI xs (m2 % (xs.length : Int)) = _; rw [← hat]; exact atI_nat hxr), ?_⟩
        refine ⟨c, _, rfl, by omega, by omega, fun m3 m30 _ => ?_⟩
        refine ⟨pr, r, m3, rfl, hpr, m30, fun H8 v k s8 hRT => ?_⟩
        have hD8 := s8 _ _ hD7
        refine ⟨D, _, _, at_, rfl, rfl, hD8, ?_, ?_⟩
        · show ixN ys.length (m2 % (xs.length : Int)) = some at_
          rw [← hat]
          unfold ixN
          rw [if_pos (by omega), if_pos (by omega)]
          simp
        · exact ⟨(s7.trans s8).put fD2, ys.set at_ v, ks.set at_ k, _, _, upd_same, p_set at_ ((hall.same s8).upd hD8) (hRT.upd hD8), by rw [List.length_set]; exact yl, rfl⟩
      rintro σ H7 ⟨s7, ys, ks, x5, x6, hD7, hall, yl, rfl⟩
      refine ⟨D, ys, ks, rfl, hD7, hall, by omega, fun H8 r s8 hd => ?_⟩
      have hD8 := s8 _ _ hD7
      refine ⟨.ref D, oI r, rfl, .lst D ys ks r hD8 (hall.same s8) (by omega) (by omega) hd, fun H9 s9 => ?_⟩
      have s29 := (s7.trans s8).trans s9
      have hrow := (tb.same s29).at_
      refine ⟨fun σ' H' => H' = H9 ∧ ∃ (x7 x8 : Option V), σ' = [some (.ref p), some (.int (0 + (i : Int))), some (.int c), some (.ref l), some (.ref D), x5, x6, x7, x8, x9, x10, x11], ?_, ?_⟩
      · cases r with
        | none => exact ⟨_, _, _, false, rfl, rfl, .non, rfl, ⟨rfl, _, _, rfl⟩⟩
        | some k => exact ⟨_, _, _, false, rfl, rfl, .int _, rfl, iteNS rfl ⟨rfl, _, _, rfl⟩⟩
      rintro σ' HB ⟨rfl, x7, x8, rfl⟩
      have S0 := s1.trans (s2.trans s29)
      refine ⟨Nat.zero_le _, fun q1 hq1 => ?_⟩
      have s1 := Same.new (o := .lst []) hq1
      have g1 := upd_same (H := HB) (a := q1) (o := .lst [])
      replace hrow := s1 _ _ hrow
      have S1 := s1
      generalize upd HB q1 (.lst []) = J1 at s1 g1 S1 hrow 
      refine ⟨(by decide : 2 ≤ sizeLine), fun q2 hq2 => ?_⟩
      have s2 := Same.new (o := .tup [.ref q1, .int 0]) hq2
      have g2 := upd_same (H := J1) (a := q2) (o := .tup [.ref q1, .int 0])
      replace g1 := s2 _ _ g1
      replace hrow := s2 _ _ hrow
      have S2 := S1.trans s2
      generalize upd J1 q2 (.tup [.ref q1, .int 0]) = J2 at s2 g2 S2 hrow g1
      refine ⟨(by decide : 2 ≤ sizeLine), fun q3 hq3 => ?_⟩
      have s3 := Same.new (o := .tup [.non, .int 0]) hq3
      have g3 := upd_same (H := J2) (a := q3) (o := .tup [.non, .int 0])
      replace g1 := s3 _ _ g1
      replace g2 := s3 _ _ g2
      replace hrow := s3 _ _ hrow
      have S3 := S2.trans s3
      generalize upd J2 q3 (.tup [.non, .int 0]) = J3 at s3 g3 S3 hrow g1 g2
      refine ⟨l, xs, rfl, .inl ⟨SqL.of hrow, fun q4 hq4 => ?_⟩⟩
      have s4 := Same.new (o := .tup xs) hq4
      have g4 := upd_same (H := J3) (a := q4) (o := .tup xs)
      replace g1 := s4 _ _ g1
      replace g2 := s4 _ _ g2
      replace g3 := s4 _ _ g3
      replace hrow := s4 _ _ hrow
      have S4 := S3.trans s4
      generalize upd J3 q4 (.tup xs) = J4 at s4 g4 S4 hrow g1 g2 g3
      refine ⟨(by decide : 2 ≤ sizeLine), fun q5 hq5 => ?_⟩
      have s5 := Same.new (o := .tup [.ref q4, .int 0]) hq5
      have g5 := upd_same (H := J4) (a := q5) (o := .tup [.ref q4, .int 0])
      replace g1 := s5 _ _ g1
      replace g2 := s5 _ _ g2
      replace g3 := s5 _ _ g3
      replace g4 := s5 _ _ g4
      replace hrow := s5 _ _ hrow
      have S5 := S4.trans s5
      generalize upd J4 q5 (.tup [.ref q4, .int 0]) = J5 at s5 g5 S5 hrow g1 g2 g3 g4
      refine ⟨(by decide : 2 ≤ sizeLine), fun q6 hq6 => ?_⟩
      have s6 := Same.new (o := .tup [.str "rows", .int 0]) hq6
      have g6 := upd_same (H := J5) (a := q6) (o := .tup [.str "rows", .int 0])
      replace g1 := s6 _ _ g1
      replace g2 := s6 _ _ g2
      replace g3 := s6 _ _ g3
      replace g4 := s6 _ _ g4
      replace g5 := s6 _ _ g5
      replace hrow := s6 _ _ hrow
      have S6 := S5.trans s6
      generalize upd J5 q6 (.tup [.str "rows", .int 0]) = J6 at s6 g6 S6 hrow g1 g2 g3 g4 g5
      refine ⟨l, 25, _, rfl, rfl, hrow, by decide, by decide, (by show xs.length * 25 ≤ sizeLine; omega), fun q7 hq7 => ?_⟩
      have s7 := Same.new (o := .lst (List.replicate (25 : Int).toNat xs).flatten) hq7
      have g7 := upd_same (H := J6) (a := q7) (o := .lst (List.replicate (25 : Int).toNat xs).flatten)
      replace g1 := s7 _ _ g1
      replace g2 := s7 _ _ g2
      replace g3 := s7 _ _ g3
      replace g4 := s7 _ _ g4
      replace g5 := s7 _ _ g5
      replace g6 := s7 _ _ g6
      replace hrow := s7 _ _ hrow
      have S7 := S6.trans s7
      generalize upd J6 q7 (.lst (List.replicate (25 : Int).toNat xs).flatten) = J7 at s7 g7 S7 hrow g1 g2 g3 g4 g5 g6
      refine ⟨25, rfl, q7, _, rfl, SqL.of g7, fun q8 hq8 => ?_⟩
      have s8 := Same.new (o := .lst (cutV (List.replicate (25 : Int).toNat xs).flatten none (some 25))) hq8
      have g8 := upd_same (H := J7) (a := q8) (o := .lst (cutV (List.replicate (25 : Int).toNat xs).flatten none (some 25)))
      replace g1 := s8 _ _ g1
      replace g2 := s8 _ _ g2
      replace g3 := s8 _ _ g3
      replace g4 := s8 _ _ g4
      replace g5 := s8 _ _ g5
      replace g6 := s8 _ _ g6
      replace g7 := s8 _ _ g7
      replace hrow := s8 _ _ hrow
      have S8 := S7.trans s8
      generalize upd J7 q8 (.lst (cutV (List.replicate (25 : Int).toNat xs).flatten none (some 25))) = J8 at s8 g8 S8 hrow g1 g2 g3 g4 g5 g6 g7
      refine ⟨(by decide : 2 ≤ sizeLine), fun q9 hq9 => ?_⟩
      have s9 := Same.new (o := .tup [.ref q8, .int 24]) hq9
      have g9 := upd_same (H := J8) (a := q9) (o := .tup [.ref q8, .int 24])
      replace g1 := s9 _ _ g1
      replace g2 := s9 _ _ g2
      replace g3 := s9 _ _ g3
      replace g4 := s9 _ _ g4
      replace g5 := s9 _ _ g5
      replace g6 := s9 _ _ g6
      replace g7 := s9 _ _ g7
      replace g8 := s9 _ _ g8
      replace hrow := s9 _ _ hrow
      have S9 := S8.trans s9
      generalize upd J8 q9 (.tup [.ref q8, .int 24]) = J9 at s9 g9 S9 hrow g1 g2 g3 g4 g5 g6 g7 g8
      refine ⟨(by decide : 1 ≤ sizeLine), fun q10 hq10 => ?_⟩
      have s10 := Same.new (o := .lst [.non]) hq10
      have g10 := upd_same (H := J9) (a := q10) (o := .lst [.non])
      replace g1 := s10 _ _ g1
      replace g2 := s10 _ _ g2
      replace g3 := s10 _ _ g3
      replace g4 := s10 _ _ g4
      replace g5 := s10 _ _ g5
      replace g6 := s10 _ _ g6
      replace g7 := s10 _ _ g7
      replace g8 := s10 _ _ g8
      replace g9 := s10 _ _ g9
      replace hrow := s10 _ _ hrow
      have S10 := S9.trans s10
      generalize upd J9 q10 (.lst [.non]) = J10 at s10 g10 S10 hrow g1 g2 g3 g4 g5 g6 g7 g8 g9
      refine ⟨q10, 30, _, rfl, rfl, g10, by decide, by decide, by decide, fun q11 hq11 => ?_⟩
      have s11 := Same.new (o := .lst (List.replicate (30 : Int).toNat [V.non]).flatten) hq11
      have g11 := upd_same (H := J10) (a := q11) (o := .lst (List.replicate (30 : Int).toNat [V.non]).flatten)
      replace g1 := s11 _ _ g1
      replace g2 := s11 _ _ g2
      replace g3 := s11 _ _ g3
      replace g4 := s11 _ _ g4
      replace g5 := s11 _ _ g5
      replace g6 := s11 _ _ g6
      replace g7 := s11 _ _ g7
      replace g8 := s11 _ _ g8
      replace g9 := s11 _ _ g9
      replace g10 := s11 _ _ g10
      replace hrow := s11 _ _ hrow
      have S11 := S10.trans s11
      generalize upd J10 q11 (.lst (List.replicate (30 : Int).toNat [V.non]).flatten) = J11 at s11 g11 S11 hrow g1 g2 g3 g4 g5 g6 g7 g8 g9 g10
      refine ⟨(by decide : 2 ≤ sizeLine), fun q12 hq12 => ?_⟩
      have s12 := Same.new (o := .tup [.ref q11, .int 24]) hq12
      have g12 := upd_same (H := J11) (a := q12) (o := .tup [.ref q11, .int 24])
      replace g1 := s12 _ _ g1
      replace g2 := s12 _ _ g2
      replace g3 := s12 _ _ g3
      replace g4 := s12 _ _ g4
      replace g5 := s12 _ _ g5
      replace g6 := s12 _ _ g6
      replace g7 := s12 _ _ g7
      replace g8 := s12 _ _ g8
      replace g9 := s12 _ _ g9
      replace g10 := s12 _ _ g10
      replace g11 := s12 _ _ g11
      replace hrow := s12 _ _ hrow
      have S12 := S11.trans s12
      generalize upd J11 q12 (.tup [.ref q11, .int 24]) = J12 at s12 g12 S12 hrow g1 g2 g3 g4 g5 g6 g7 g8 g9 g10 g11
      refine ⟨(by decide : 6 ≤ sizeLine), fun q13 hq13 => ?_⟩
      have s13 := Same.new (o := .lst [.ref q2, .ref q3, .ref q5, .ref q6, .ref q9, .ref q12]) hq13
      have g13 := upd_same (H := J12) (a := q13) (o := .lst [.ref q2, .ref q3, .ref q5, .ref q6, .ref q9, .ref q12])
      replace g1 := s13 _ _ g1
      replace g2 := s13 _ _ g2
      replace g3 := s13 _ _ g3
      replace g4 := s13 _ _ g4
      replace g5 := s13 _ _ g5
      replace g6 := s13 _ _ g6
      replace g7 := s13 _ _ g7
      replace g8 := s13 _ _ g8
      replace g9 := s13 _ _ g9
      replace g10 := s13 _ _ g10
      replace g11 := s13 _ _ g11
      replace g12 := s13 _ _ g12
      replace hrow := s13 _ _ hrow
      have S13 := S12.trans s13
      generalize upd J12 q13 (.lst [.ref q2, .ref q3, .ref q5, .ref q6, .ref q9, .ref q12]) = J13 at s13 g13 S13 hrow g1 g2 g3 g4 g5 g6 g7 g8 g9 g10 g11 g12
      have hl8 : 24 < (cutV (List.replicate (25 : Int).toNat xs).flatten none (some 25)).length := by
        have e : (List.replicate (25 : Int).toNat xs).flatten.length = 25 * xs.length := by rw [len_rep]; rfl
        rw [show (some (25 : Int)) = some ((25 : Nat) : Int) from rfl, cutV_take _ 25 (by omega), List.length_take]
        omega
      have hall : ∀ x ∈ [V.ref q2, .ref q3, .ref q5, .ref q6, .ref q9, .ref q12], ∃ pt v k, x = .ref pt ∧ J13 pt = some (.tup [v, .int k]) ∧ TT J13 v (some k) := by
        intro x hx
        simp only [List.mem_cons, List.not_mem_nil, or_false] at hx
        rcases hx with rfl | rfl | rfl | rfl | rfl | rfl
        · exact ⟨_, _, _, rfl, g2, .nil q1 g1⟩
        · exact ⟨_, _, _, rfl, g3, .non⟩
        · exact ⟨_, _, _, rfl, g5, .tup q4 _ g4⟩
        · exact ⟨_, _, _, rfl, g6, .str _⟩
        · exact ⟨_, _, _, rfl, g9, .long q8 _ g8 hl8⟩
        · exact ⟨_, _, _, rfl, g12, .long q11 _ g11 (by decide)⟩
      have SF := S0.trans S13
      refine .inl ⟨⟨_, SqL.of g13⟩, for_list (K := K) (a := q13) (xs := [V.ref q2, .ref q3, .ref q5, .ref q6, .ref q9, .ref q12]) (fun j σ H' => Same J13 H' ∧ ∃ (x10 x11 : Option V), σ = [some (.ref p), some (.int (0 + (i : Int))), some (.int c), some (.ref l), some (.ref D), x5, x6, x7, x8, some (.ref q13), x10, x11])
        ⟨Same.refl _, x10, x11, rfl⟩ (fun j σ H' _ h => SqL.of (h.1 _ _ g13)) ?_ ?_⟩
      · rintro j u σ H8 hu ⟨s8', x10, x11, rfl⟩
        obtain ⟨pt, v, k, rfl, hpt, ht⟩ := hall u (List.mem_of_getElem? hu)
        refine ⟨pt, _, rfl, SqT.of (s8' _ _ hpt), rfl, _, _, rfl, _, _, rfl, rfl, ?_⟩
        exact ⟨v, some k, rfl, ht.same s8', fun H9' s9' => iteNS rfl ⟨s8'.trans s9', _, _, rfl⟩⟩
      · rintro σ H8 ⟨s8', x10, x11, rfl⟩
        exact ⟨SF.trans s8', _, _, _, _, _, _, _, _, _, _, _, rfl⟩
    · rintro σ H' ⟨s1, x1, x2, x3, x4, x5, x6, x7, x8, x9, x10, x11, rfl⟩
      exact q _
end
end My

set_option Elab.async false
set_option linter.all false
set_option maxRecDepth 100000
set_option maxHeartbeats 4000000
namespace My
open PySem L2
theorem txt_mk {K : PySem.W.Frag} {h : Heap} {mg : Str → Option Value} {f0 : Addr} {od0 an0 : Option Addr} {sl0 : Array (Option Value)} {oc0 kV0 dc0 pm0 cd0 ct0 : Value} {f1 : Addr} {od1 an1 : Option Addr} {sl1 : Array (Option Value)} {oc1 kV1 dc1 pm1 cd1 ct1 : Value} {f2 : Addr} {od2 an2 : Option Addr} {sl2 : Array (Option Value)} {oc2 kV2 dc2 pm2 cd2 ct2 : Value} {f3 : Addr} {od3 an3 : Option Addr} {sl3 : Array (Option Value)} {oc3 kV3 dc3 pm3 cd3 ct3 : Value} {f4 : Addr} {od4 an4 : Option Addr} {sl4 : Array (Option Value)} {oc4 kV4 dc4 pm4 cd4 ct4 : Value} {f5 : Addr} {od5 an5 : Option Addr} {sl5 : Array (Option Value)} {oc5 kV5 dc5 pm5 cd5 ct5 : Value} {f6 : Addr} {od6 an6 : Option Addr} {sl6 : Array (Option Value)} {oc6 kV6 dc6 pm6 cd6 ct6 : Value} {f7 : Addr} {od7 an7 : Option Addr} {sl7 : Array (Option Value)} {oc7 kV7 dc7 pm7 cd7 ct7 : Value} {f8 : Addr} {od8 an8 : Option Addr} {sl8 : Array (Option Value)} {oc8 kV8 dc8 pm8 cd8 ct8 : Value} {f9 : Addr} {od9 an9 : Option Addr} {sl9 : Array (Option Value)} {oc9 kV9 dc9 pm9 cd9 ct9 : Value} {f10 : Addr} {od10 an10 : Option Addr} {sl10 : Array (Option Value)} {oc10 kV10 dc10 pm10 cd10 ct10 : Value} {f11 : Addr} {od11 an11 : Option Addr} {sl11 : Array (Option Value)} {oc11 kV11 dc11 pm11 cd11 ct11 : Value} {f12 : Addr} {od12 an12 : Option Addr} {sl12 : Array (Option Value)} {oc12 kV12 dc12 pm12 cd12 ct12 : Value} {f13 : Addr} {od13 an13 : Option Addr} {sl13 : Array (Option Value)} {oc13 kV13 dc13 pm13 cd13 ct13 : Value} {f14 : Addr} {od14 an14 : Option Addr} {sl14 : Array (Option Value)} {oc14 kV14 dc14 pm14 cd14 ct14 : Value} {f15 : Addr} {od15 an15 : Option Addr} {sl15 : Array (Option Value)} {oc15 kV15 dc15 pm15 cd15 ct15 : Value} {f16 : Addr} {od16 an16 : Option Addr} {sl16 : Array (Option Value)} {oc16 kV16 dc16 pm16 cd16 ct16 : Value} {f17 : Addr} {od17 an17 : Option Addr} {sl17 : Array (Option Value)} {oc17 kV17 dc17 pm17 cd17 ct17 : Value} {f18 : Addr} {od18 an18 : Option Addr} {sl18 : Array (Option Value)} {oc18 kV18 dc18 pm18 cd18 ct18 : Value} {f19 : Addr} {od19 an19 : Option Addr} {sl19 : Array (Option Value)} {oc19 kV19 dc19 pm19 cd19 ct19 : Value} {u0 : Value} {u1 : Value} {u2 : Value} {u3 : Value} {c_SpeakError : Addr} {c_NoUnits : Addr} {c_TooMany : Addr} {c_NoTable : Addr} {i_NoTable : Addr} {od_NoTable an_NoTable : Option Addr} {sl_NoTable : Array (Option Value)} {oc_NoTable kV_NoTable dc_NoTable pm_NoTable cd_NoTable ct_NoTable : Value} {c_NoLot : Addr} {c_Looks : Addr} {i_Looks : Addr} {od_Looks an_Looks : Option Addr} {sl_Looks : Array (Option Value)} {oc_Looks kV_Looks dc_Looks pm_Looks cd_Looks ct_Looks : Value} {x_Looks_endings : Addr} {od_Looks_endings an_Looks_endings : Option Addr} {sl_Looks_endings : Array (Option Value)} {oc_Looks_endings kV_Looks_endings dc_Looks_endings pm_Looks_endings cd_Looks_endings ct_Looks_endings : Value} {x_Looks_let_by : Addr} {od_Looks_let_by an_Looks_let_by : Option Addr} {sl_Looks_let_by : Array (Option Value)} {oc_Looks_let_by kV_Looks_let_by dc_Looks_let_by pm_Looks_let_by cd_Looks_let_by ct_Looks_let_by : Value} {x_Looks_looked_at : Addr} {od_Looks_looked_at an_Looks_looked_at : Option Addr} {sl_Looks_looked_at : Array (Option Value)} {oc_Looks_looked_at kV_Looks_looked_at dc_Looks_looked_at pm_Looks_looked_at cd_Looks_looked_at ct_Looks_looked_at : Value} (X : K.In h) (G : h.Ns mainGlobals mg)
    (a0 : PySem.W.nsIn K mainGlobals "greatest_divisor" = some (some (.ref f0))) (l0 : K.lookup f0 = some ⟨oc0, od0, .func (PySem.W.fnOf "greatest_divisor" "greatest_divisor" (defArgs s_greatest_divisor) (defBody s_greatest_divisor) (defScope s_greatest_divisor) .none kV0 dc0 pm0 an0 cd0 ct0), sl0⟩) (c0 : PySem.W.codeIn K cd0 "greatest_divisor" = true) (k0 : PySem.W.keepIn K (.ref f0) = true)
    (a1 : PySem.W.nsIn K mainGlobals "share" = some (some (.ref f1))) (l1 : K.lookup f1 = some ⟨oc1, od1, .func (PySem.W.fnOf "share" "share" (defArgs s_share) (defBody s_share) (defScope s_share) .none kV1 dc1 pm1 an1 cd1 ct1), sl1⟩) (c1 : PySem.W.codeIn K cd1 "share" = true) (k1 : PySem.W.keepIn K (.ref f1) = true)
    (a2 : PySem.W.nsIn K mainGlobals "is_whole" = some (some (.ref f2))) (l2 : K.lookup f2 = some ⟨oc2, od2, .func (PySem.W.fnOf "is_whole" "is_whole" (defArgs s_is_whole) (defBody s_is_whole) (defScope s_is_whole) .none kV2 dc2 pm2 an2 cd2 ct2), sl2⟩) (c2 : PySem.W.codeIn K cd2 "is_whole" = true) (k2 : PySem.W.keepIn K (.ref f2) = true)
    (a3 : PySem.W.nsIn K mainGlobals "is_row" = some (some (.ref f3))) (l3 : K.lookup f3 = some ⟨oc3, od3, .func (PySem.W.fnOf "is_row" "is_row" (defArgs s_is_row) (defBody s_is_row) (defScope s_is_row) .none kV3 dc3 pm3 an3 cd3 ct3), sl3⟩) (c3 : PySem.W.codeIn K cd3 "is_row" = true) (k3 : PySem.W.keepIn K (.ref f3) = true)
    (a4 : PySem.W.nsIn K mainGlobals "need_table" = some (some (.ref f4))) (l4 : K.lookup f4 = some ⟨oc4, od4, .func (PySem.W.fnOf "need_table" "need_table" (defArgs s_need_table) (defBody s_need_table) (defScope s_need_table) .none kV4 dc4 pm4 an4 cd4 ct4), sl4⟩) (c4 : PySem.W.codeIn K cd4 "need_table" = true) (k4 : PySem.W.keepIn K (.ref f4) = true)
    (a5 : PySem.W.nsIn K mainGlobals "word_of" = some (some (.ref f5))) (l5 : K.lookup f5 = some ⟨oc5, od5, .func (PySem.W.fnOf "word_of" "word_of" (defArgs s_word_of) (defBody s_word_of) (defScope s_word_of) .none kV5 dc5 pm5 an5 cd5 ct5), sl5⟩) (c5 : PySem.W.codeIn K cd5 "word_of" = true) (k5 : PySem.W.keepIn K (.ref f5) = true)
    (a6 : PySem.W.nsIn K mainGlobals "choices" = some (some (.ref f6))) (l6 : K.lookup f6 = some ⟨oc6, od6, .func (PySem.W.fnOf "choices" "choices" (defArgs s_choices) (defBody s_choices) (defScope s_choices) .none kV6 dc6 pm6 an6 cd6 ct6), sl6⟩) (c6 : PySem.W.codeIn K cd6 "choices" = true) (k6 : PySem.W.keepIn K (.ref f6) = true)
    (a7 : PySem.W.nsIn K mainGlobals "one_more" = some (some (.ref f7))) (l7 : K.lookup f7 = some ⟨oc7, od7, .func (PySem.W.fnOf "one_more" "one_more" (defArgs s_one_more) (defBody s_one_more) (defScope s_one_more) .none kV7 dc7 pm7 an7 cd7 ct7), sl7⟩) (c7 : PySem.W.codeIn K cd7 "one_more" = true) (k7 : PySem.W.keepIn K (.ref f7) = true)
    (a8 : PySem.W.nsIn K mainGlobals "endings_at" = some (some (.ref f8))) (l8 : K.lookup f8 = some ⟨oc8, od8, .func (PySem.W.fnOf "endings_at" "endings_at" (defArgs s_endings_at) (defBody s_endings_at) (defScope s_endings_at) .none kV8 dc8 pm8 an8 cd8 ct8), sl8⟩) (c8 : PySem.W.codeIn K cd8 "endings_at" = true) (k8 : PySem.W.keepIn K (.ref f8) = true)
    (a9 : PySem.W.nsIn K mainGlobals "_law_cell" = some (some (.ref f9))) (l9 : K.lookup f9 = some ⟨oc9, od9, .func (PySem.W.fnOf "_law_cell" "_law_cell" (defArgs s_L_cell) (defBody s_L_cell) (defScope s_L_cell) .none kV9 dc9 pm9 an9 cd9 ct9), sl9⟩) (c9 : PySem.W.codeIn K cd9 "_law_cell" = true) (k9 : PySem.W.keepIn K (.ref f9) = true)
    (a10 : PySem.W.nsIn K mainGlobals "_law_mixed" = some (some (.ref f10))) (l10 : K.lookup f10 = some ⟨oc10, od10, .func (PySem.W.fnOf "_law_mixed" "_law_mixed" (defArgs s_L_mixed) (defBody s_L_mixed) (defScope s_L_mixed) .none kV10 dc10 pm10 an10 cd10 ct10), sl10⟩) (c10 : PySem.W.codeIn K cd10 "_law_mixed" = true) (k10 : PySem.W.keepIn K (.ref f10) = true)
    (a11 : PySem.W.nsIn K mainGlobals "_law_rows" = some (some (.ref f11))) (l11 : K.lookup f11 = some ⟨oc11, od11, .func (PySem.W.fnOf "_law_rows" "_law_rows" (defArgs s_L_rows) (defBody s_L_rows) (defScope s_L_rows) .none kV11 dc11 pm11 an11 cd11 ct11), sl11⟩) (c11 : PySem.W.codeIn K cd11 "_law_rows" = true) (k11 : PySem.W.keepIn K (.ref f11) = true)
    (a12 : PySem.W.nsIn K mainGlobals "_law_odd" = some (some (.ref f12))) (l12 : K.lookup f12 = some ⟨oc12, od12, .func (PySem.W.fnOf "_law_odd" "_law_odd" (defArgs s_L_odd) (defBody s_L_odd) (defScope s_L_odd) .none kV12 dc12 pm12 an12 cd12 ct12), sl12⟩) (c12 : PySem.W.codeIn K cd12 "_law_odd" = true) (k12 : PySem.W.keepIn K (.ref f12) = true)
    (a13 : PySem.W.nsIn K mainGlobals "_law_is_whole" = some (some (.ref f13))) (l13 : K.lookup f13 = some ⟨oc13, od13, .func (PySem.W.fnOf "_law_is_whole" "_law_is_whole" (defArgs s_L_is_whole) (defBody s_L_is_whole) (defScope s_L_is_whole) .none kV13 dc13 pm13 an13 cd13 ct13), sl13⟩) (c13 : PySem.W.codeIn K cd13 "_law_is_whole" = true) (k13 : PySem.W.keepIn K (.ref f13) = true)
    (a14 : PySem.W.nsIn K mainGlobals "_law_good" = some (some (.ref f14))) (l14 : K.lookup f14 = some ⟨oc14, od14, .func (PySem.W.fnOf "_law_good" "_law_good" (defArgs s_L_good) (defBody s_L_good) (defScope s_L_good) .none kV14 dc14 pm14 an14 cd14 ct14), sl14⟩) (c14 : PySem.W.codeIn K cd14 "_law_good" = true) (k14 : PySem.W.keepIn K (.ref f14) = true)
    (a15 : PySem.W.nsIn K mainGlobals "_law_due" = some (some (.ref f15))) (l15 : K.lookup f15 = some ⟨oc15, od15, .func (PySem.W.fnOf "_law_due" "_law_due" (defArgs s_L_due) (defBody s_L_due) (defScope s_L_due) .none kV15 dc15 pm15 an15 cd15 ct15), sl15⟩) (c15 : PySem.W.codeIn K cd15 "_law_due" = true) (k15 : PySem.W.keepIn K (.ref f15) = true)
    (a16 : PySem.W.nsIn K mainGlobals "_law_told" = some (some (.ref f16))) (l16 : K.lookup f16 = some ⟨oc16, od16, .func (PySem.W.fnOf "_law_told" "_law_told" (defArgs s_L_told) (defBody s_L_told) (defScope s_L_told) .none kV16 dc16 pm16 an16 cd16 ct16), sl16⟩) (c16 : PySem.W.codeIn K cd16 "_law_told" = true) (k16 : PySem.W.keepIn K (.ref f16) = true)
    (a17 : PySem.W.nsIn K mainGlobals "_law_no_lot" = some (some (.ref f17))) (l17 : K.lookup f17 = some ⟨oc17, od17, .func (PySem.W.fnOf "_law_no_lot" "_law_no_lot" (defArgs s_L_no_lot) (defBody s_L_no_lot) (defScope s_L_no_lot) .none kV17 dc17 pm17 an17 cd17 ct17), sl17⟩) (c17 : PySem.W.codeIn K cd17 "_law_no_lot" = true) (k17 : PySem.W.keepIn K (.ref f17) = true)
    (a18 : PySem.W.nsIn K mainGlobals "_law_lots" = some (some (.ref f18))) (l18 : K.lookup f18 = some ⟨oc18, od18, .func (PySem.W.fnOf "_law_lots" "_law_lots" (defArgs s_L_lots) (defBody s_L_lots) (defScope s_L_lots) .none kV18 dc18 pm18 an18 cd18 ct18), sl18⟩) (c18 : PySem.W.codeIn K cd18 "_law_lots" = true) (k18 : PySem.W.keepIn K (.ref f18) = true)
    (a19 : PySem.W.nsIn K mainGlobals "law" = some (some (.ref f19))) (l19 : K.lookup f19 = some ⟨oc19, od19, .func (PySem.W.fnOf "law" "law" (defArgs s_law) (defBody s_law) (defScope s_law) .none kV19 dc19 pm19 an19 cd19 ct19), sl19⟩) (c19 : PySem.W.codeIn K cd19 "law" = true) (k19 : PySem.W.keepIn K (.ref f19) = true)
    (b0 : PySem.W.nsIn K mainGlobals "MOST_ROWS" = some (some u0))
    (b1 : PySem.W.nsIn K mainGlobals "MOST_WARES" = some (some u1))
    (b2 : PySem.W.nsIn K mainGlobals "MOST_LET" = some (some u2))
    (b3 : PySem.W.nsIn K mainGlobals "MOST_TURN" = some (some u3))
    (ca_SpeakError : PySem.W.nsIn K mainGlobals "SpeakError" = some (some (.ref c_SpeakError))) (cb_SpeakError : PySem.W.keepIn K (.ref c_SpeakError) = true) (cc_SpeakError : xcIn K c_SpeakError = true)
    (cx_SpeakError : xIn K c_SpeakError none = true)
    (ca_NoUnits : PySem.W.nsIn K mainGlobals "NoUnits" = some (some (.ref c_NoUnits))) (cb_NoUnits : PySem.W.keepIn K (.ref c_NoUnits) = true) (cc_NoUnits : xcIn K c_NoUnits = true)
    (cx_NoUnits : xIn K c_NoUnits none = true)
    (ca_TooMany : PySem.W.nsIn K mainGlobals "TooMany" = some (some (.ref c_TooMany))) (cb_TooMany : PySem.W.keepIn K (.ref c_TooMany) = true) (cc_TooMany : xcIn K c_TooMany = true)
    (cx_TooMany : xIn K c_TooMany none = true)
    (ca_NoTable : PySem.W.nsIn K mainGlobals "NoTable" = some (some (.ref c_NoTable))) (cb_NoTable : PySem.W.keepIn K (.ref c_NoTable) = true) (cc_NoTable : xcIn K c_NoTable = true)
    (cf_NoTable : PySem.W.findIn K (.ref c_NoTable) "__init__" = some (some (.ref i_NoTable))) (cx_NoTable : xIn K c_NoTable (some (.ref i_NoTable)) = true) (cg_NoTable : PySem.W.isFn K (.ref i_NoTable) = true)
    (cl_NoTable : K.lookup i_NoTable = some ⟨oc_NoTable, od_NoTable, .func (PySem.W.fnOf "__init__" "NoTable.__init__" (defArgs s_NoTable___init__) (defBody s_NoTable___init__) (defScope s_NoTable___init__) .none kV_NoTable dc_NoTable pm_NoTable an_NoTable cd_NoTable ct_NoTable), sl_NoTable⟩) (co_NoTable : PySem.W.codeIn K cd_NoTable "NoTable.__init__" = true) (ck_NoTable : PySem.W.keepIn K (.ref i_NoTable) = true)
    (cs_NoTable_row : xsIn K c_NoTable "row" = true)
    (ca_NoLot : PySem.W.nsIn K mainGlobals "NoLot" = some (some (.ref c_NoLot))) (cb_NoLot : PySem.W.keepIn K (.ref c_NoLot) = true) (cc_NoLot : xcIn K c_NoLot = true)
    (cx_NoLot : xIn K c_NoLot none = true)
    (ca_Looks : PySem.W.nsIn K mainGlobals "Looks" = some (some (.ref c_Looks))) (pa_Looks : PySem.W.plainGet K c_Looks Str.empty = true) (pb_Looks : PySem.W.hasDictIn K c_Looks = true) (pc_Looks : PySem.W.plainOver K c_Looks = true)
    (pd_Looks : PySem.W.findIn K (.ref c_Looks) "__setattr__" = some (some (.builtin "object.__setattr__"))) (pe_Looks : PySem.W.findIn K (.ref c_Looks) "__class__" = some (some (.builtin "object.__class__"))) (pf_Looks : PySem.W.specialIn K (.builtin "object.__class__") "__get__" = some (some (.builtin "getset_descriptor.__get__"))) (pg_Looks : PySem.W.takesIn K (.builtin "object.__class__") = some true) (ph_Looks : PySem.W.mroIn K c_Looks (.type "object") = some true)
    (qa_Looks : PySem.W.makesIn K c_Looks = true) (qb_Looks : PySem.W.findIn K (.ref c_Looks) "__init__" = some (some (.ref i_Looks))) (qc_Looks : PySem.W.isFn K (.ref i_Looks) = true) (qd_Looks : PySem.W.keepIn K (.ref c_Looks) = true)
    (qn_Looks_rows : PySem.W.findIn K (.ref c_Looks) "rows" = some none)
    (cl_Looks : K.lookup i_Looks = some ⟨oc_Looks, od_Looks, .func (PySem.W.fnOf "__init__" "Looks.__init__" (defArgs s_Looks___init__) (defBody s_Looks___init__) (defScope s_Looks___init__) .none kV_Looks dc_Looks pm_Looks an_Looks cd_Looks ct_Looks), sl_Looks⟩) (co_Looks : PySem.W.codeIn K cd_Looks "Looks.__init__" = true) (ck_Looks : PySem.W.keepIn K (.ref i_Looks) = true)
    (mf_Looks_endings : PySem.W.findIn K (.ref c_Looks) "endings" = some (some (.ref x_Looks_endings)))
    (ml_Looks_endings : K.lookup x_Looks_endings = some ⟨oc_Looks_endings, od_Looks_endings, .func (PySem.W.fnOf "endings" "Looks.endings" (defArgs s_Looks_endings) (defBody s_Looks_endings) (defScope s_Looks_endings) .none kV_Looks_endings dc_Looks_endings pm_Looks_endings an_Looks_endings cd_Looks_endings ct_Looks_endings), sl_Looks_endings⟩) (mo_Looks_endings : PySem.W.codeIn K cd_Looks_endings "Looks.endings" = true) (mk_Looks_endings : PySem.W.keepIn K (.ref x_Looks_endings) = true) (mi_Looks_endings : PySem.W.isFn K (.ref x_Looks_endings) = true)
    (mf_Looks_let_by : PySem.W.findIn K (.ref c_Looks) "let_by" = some (some (.ref x_Looks_let_by)))
    (ml_Looks_let_by : K.lookup x_Looks_let_by = some ⟨oc_Looks_let_by, od_Looks_let_by, .func (PySem.W.fnOf "let_by" "Looks.let_by" (defArgs s_Looks_let_by) (defBody s_Looks_let_by) (defScope s_Looks_let_by) .none kV_Looks_let_by dc_Looks_let_by pm_Looks_let_by an_Looks_let_by cd_Looks_let_by ct_Looks_let_by), sl_Looks_let_by⟩) (mo_Looks_let_by : PySem.W.codeIn K cd_Looks_let_by "Looks.let_by" = true) (mk_Looks_let_by : PySem.W.keepIn K (.ref x_Looks_let_by) = true) (mi_Looks_let_by : PySem.W.isFn K (.ref x_Looks_let_by) = true)
    (mf_Looks_looked_at : PySem.W.findIn K (.ref c_Looks) "looked_at" = some (some (.ref x_Looks_looked_at)))
    (ml_Looks_looked_at : K.lookup x_Looks_looked_at = some ⟨oc_Looks_looked_at, od_Looks_looked_at, .func (PySem.W.fnOf "looked_at" "Looks.looked_at" (defArgs s_Looks_looked_at) (defBody s_Looks_looked_at) (defScope s_Looks_looked_at) .none kV_Looks_looked_at dc_Looks_looked_at pm_Looks_looked_at an_Looks_looked_at cd_Looks_looked_at ct_Looks_looked_at), sl_Looks_looked_at⟩) (mo_Looks_looked_at : PySem.W.codeIn K cd_Looks_looked_at "Looks.looked_at" = true) (mk_Looks_looked_at : PySem.W.keepIn K (.ref x_Looks_looked_at) = true) (mi_Looks_looked_at : PySem.W.isFn K (.ref x_Looks_looked_at) = true)
    (fact_tl : mroIn' K c_NoLot c_SpeakError = some true)
    (fact_tt : mroIn' K c_NoTable c_SpeakError = some true)
    (fact_t1 : PySem.W.kitOne K (.ref c_NoLot) (.ref c_NoLot) = some true)
    (fact_t3 : PySem.W.kitAny K (.ref c_NoLot) [.ref c_NoTable, .ref c_NoUnits, .ref c_TooMany] = some false)
    (fact_u1 : PySem.W.kitOne K (.ref c_NoTable) (.ref c_NoTable) = some true)
    (fact_u2 : PySem.W.kitOne K (.ref c_NoTable) (.type "ValueError") = some true)
    (fact_u3 : PySem.W.kitAny K (.ref c_NoTable) [.ref c_NoLot, .ref c_NoUnits, .ref c_TooMany] = some false)
    (z0 : PySem.W.nsIn K mainGlobals "ValueError" = some none)
    (z1 : PySem.W.nsIn K mainGlobals "abs" = some none)
    (z2 : PySem.W.nsIn K mainGlobals "bool" = some none)
    (z3 : PySem.W.nsIn K mainGlobals "enumerate" = some none)
    (z4 : PySem.W.nsIn K mainGlobals "int" = some none)
    (z5 : PySem.W.nsIn K mainGlobals "isinstance" = some none)
    (z6 : PySem.W.nsIn K mainGlobals "len" = some none)
    (z7 : PySem.W.nsIn K mainGlobals "list" = some none)
    (z8 : PySem.W.nsIn K mainGlobals "max" = some none)
    (z9 : PySem.W.nsIn K mainGlobals "min" = some none)
    (z10 : PySem.W.nsIn K mainGlobals "range" = some none)
    (z11 : PySem.W.nsIn K mainGlobals "str" = some none)
    (z12 : PySem.W.nsIn K mainGlobals "sum" = some none)
    (z13 : PySem.W.nsIn K mainGlobals "tuple" = some none)
    (z14 : PySem.W.nsIn K mainGlobals "zip" = some none) (r0 : RelV (.int 24) u0) (r1 : RelV (.int 24) u1) (r2 : RelV (.int 24) u2) (r3 : RelV (.int 25) u3) : ∃ a : Ad, Txt K mg a := by
  refine ⟨{ f_greatest_divisor := f0, d_greatest_divisor := PySem.W.fnOf "greatest_divisor" "greatest_divisor" (defArgs s_greatest_divisor) (defBody s_greatest_divisor) (defScope s_greatest_divisor) .none kV0 dc0 pm0 an0 cd0 ct0, f_share := f1, d_share := PySem.W.fnOf "share" "share" (defArgs s_share) (defBody s_share) (defScope s_share) .none kV1 dc1 pm1 an1 cd1 ct1, f_is_whole := f2, d_is_whole := PySem.W.fnOf "is_whole" "is_whole" (defArgs s_is_whole) (defBody s_is_whole) (defScope s_is_whole) .none kV2 dc2 pm2 an2 cd2 ct2, f_is_row := f3, d_is_row := PySem.W.fnOf "is_row" "is_row" (defArgs s_is_row) (defBody s_is_row) (defScope s_is_row) .none kV3 dc3 pm3 an3 cd3 ct3, f_need_table := f4, d_need_table := PySem.W.fnOf "need_table" "need_table" (defArgs s_need_table) (defBody s_need_table) (defScope s_need_table) .none kV4 dc4 pm4 an4 cd4 ct4, f_word_of := f5, d_word_of := PySem.W.fnOf "word_of" "word_of" (defArgs s_word_of) (defBody s_word_of) (defScope s_word_of) .none kV5 dc5 pm5 an5 cd5 ct5, f_choices := f6, d_choices := PySem.W.fnOf "choices" "choices" (defArgs s_choices) (defBody s_choices) (defScope s_choices) .none kV6 dc6 pm6 an6 cd6 ct6, f_one_more := f7, d_one_more := PySem.W.fnOf "one_more" "one_more" (defArgs s_one_more) (defBody s_one_more) (defScope s_one_more) .none kV7 dc7 pm7 an7 cd7 ct7, f_endings_at := f8, d_endings_at := PySem.W.fnOf "endings_at" "endings_at" (defArgs s_endings_at) (defBody s_endings_at) (defScope s_endings_at) .none kV8 dc8 pm8 an8 cd8 ct8, f_L_cell := f9, d_L_cell := PySem.W.fnOf "_law_cell" "_law_cell" (defArgs s_L_cell) (defBody s_L_cell) (defScope s_L_cell) .none kV9 dc9 pm9 an9 cd9 ct9, f_L_mixed := f10, d_L_mixed := PySem.W.fnOf "_law_mixed" "_law_mixed" (defArgs s_L_mixed) (defBody s_L_mixed) (defScope s_L_mixed) .none kV10 dc10 pm10 an10 cd10 ct10, f_L_rows := f11, d_L_rows := PySem.W.fnOf "_law_rows" "_law_rows" (defArgs s_L_rows) (defBody s_L_rows) (defScope s_L_rows) .none kV11 dc11 pm11 an11 cd11 ct11, f_L_odd := f12, d_L_odd := PySem.W.fnOf "_law_odd" "_law_odd" (defArgs s_L_odd) (defBody s_L_odd) (defScope s_L_odd) .none kV12 dc12 pm12 an12 cd12 ct12, f_L_is_whole := f13, d_L_is_whole := PySem.W.fnOf "_law_is_whole" "_law_is_whole" (defArgs s_L_is_whole) (defBody s_L_is_whole) (defScope s_L_is_whole) .none kV13 dc13 pm13 an13 cd13 ct13, f_L_good := f14, d_L_good := PySem.W.fnOf "_law_good" "_law_good" (defArgs s_L_good) (defBody s_L_good) (defScope s_L_good) .none kV14 dc14 pm14 an14 cd14 ct14, f_L_due := f15, d_L_due := PySem.W.fnOf "_law_due" "_law_due" (defArgs s_L_due) (defBody s_L_due) (defScope s_L_due) .none kV15 dc15 pm15 an15 cd15 ct15, f_L_told := f16, d_L_told := PySem.W.fnOf "_law_told" "_law_told" (defArgs s_L_told) (defBody s_L_told) (defScope s_L_told) .none kV16 dc16 pm16 an16 cd16 ct16, f_L_no_lot := f17, d_L_no_lot := PySem.W.fnOf "_law_no_lot" "_law_no_lot" (defArgs s_L_no_lot) (defBody s_L_no_lot) (defScope s_L_no_lot) .none kV17 dc17 pm17 an17 cd17 ct17, f_L_lots := f18, d_L_lots := PySem.W.fnOf "_law_lots" "_law_lots" (defArgs s_L_lots) (defBody s_L_lots) (defScope s_L_lots) .none kV18 dc18 pm18 an18 cd18 ct18, f_law := f19, d_law := PySem.W.fnOf "law" "law" (defArgs s_law) (defBody s_law) (defScope s_law) .none kV19 dc19 pm19 an19 cd19 ct19, c_SpeakError := c_SpeakError, c_NoUnits := c_NoUnits, c_TooMany := c_TooMany, c_NoTable := c_NoTable, i_NoTable := i_NoTable, e_NoTable := PySem.W.fnOf "__init__" "NoTable.__init__" (defArgs s_NoTable___init__) (defBody s_NoTable___init__) (defScope s_NoTable___init__) .none kV_NoTable dc_NoTable pm_NoTable an_NoTable cd_NoTable ct_NoTable, c_NoLot := c_NoLot, c_Looks := c_Looks, i_Looks := i_Looks, e_Looks := PySem.W.fnOf "__init__" "Looks.__init__" (defArgs s_Looks___init__) (defBody s_Looks___init__) (defScope s_Looks___init__) .none kV_Looks dc_Looks pm_Looks an_Looks cd_Looks ct_Looks, x_Looks_endings := x_Looks_endings, y_Looks_endings := PySem.W.fnOf "endings" "Looks.endings" (defArgs s_Looks_endings) (defBody s_Looks_endings) (defScope s_Looks_endings) .none kV_Looks_endings dc_Looks_endings pm_Looks_endings an_Looks_endings cd_Looks_endings ct_Looks_endings, x_Looks_let_by := x_Looks_let_by, y_Looks_let_by := PySem.W.fnOf "let_by" "Looks.let_by" (defArgs s_Looks_let_by) (defBody s_Looks_let_by) (defScope s_Looks_let_by) .none kV_Looks_let_by dc_Looks_let_by pm_Looks_let_by an_Looks_let_by cd_Looks_let_by ct_Looks_let_by, x_Looks_looked_at := x_Looks_looked_at, y_Looks_looked_at := PySem.W.fnOf "looked_at" "Looks.looked_at" (defArgs s_Looks_looked_at) (defBody s_Looks_looked_at) (defScope s_Looks_looked_at) .none kV_Looks_looked_at dc_Looks_looked_at pm_Looks_looked_at an_Looks_looked_at cd_Looks_looked_at ct_Looks_looked_at }, ?_⟩
  exact {
    F_greatest_divisor := fun_mk (st := s_greatest_divisor) l0 c0 k0
    B_greatest_divisor := (fun_mk (st := s_greatest_divisor) l0 c0 k0).binds (ps := ["one", "other"]) fun _ _ _ _ _ _ us hl => match us, hl with | [_, _], _ => rfl
    m_greatest_divisor := PySem.W.mg_of X G a0
    F_share := fun_mk (st := s_share) l1 c1 k1
    B_share := (fun_mk (st := s_share) l1 c1 k1).binds (ps := ["top", "bottom"]) fun _ _ _ _ _ _ us hl => match us, hl with | [_, _], _ => rfl
    m_share := PySem.W.mg_of X G a1
    F_is_whole := fun_mk (st := s_is_whole) l2 c2 k2
    B_is_whole := (fun_mk (st := s_is_whole) l2 c2 k2).binds (ps := ["thing", "low", "high"]) fun _ _ _ _ _ _ us hl => match us, hl with | [_, _, _], _ => rfl
    m_is_whole := PySem.W.mg_of X G a2
    F_is_row := fun_mk (st := s_is_row) l3 c3 k3
    B_is_row := (fun_mk (st := s_is_row) l3 c3 k3).binds (ps := ["thing"]) fun _ _ _ _ _ _ us hl => match us, hl with | [_], _ => rfl
    m_is_row := PySem.W.mg_of X G a3
    F_need_table := fun_mk (st := s_need_table) l4 c4 k4
    B_need_table := (fun_mk (st := s_need_table) l4 c4 k4).binds (ps := ["rows"]) fun _ _ _ _ _ _ us hl => match us, hl with | [_], _ => rfl
    m_need_table := PySem.W.mg_of X G a4
    F_word_of := fun_mk (st := s_word_of) l5 c5 k5
    B_word_of := (fun_mk (st := s_word_of) l5 c5 k5).binds (ps := ["row", "found"]) fun _ _ _ _ _ _ us hl => match us, hl with | [_, _], _ => rfl
    m_word_of := PySem.W.mg_of X G a5
    F_choices := fun_mk (st := s_choices) l6 c6 k6
    B_choices := (fun_mk (st := s_choices) l6 c6 k6).binds (ps := ["many", "some"]) fun _ _ _ _ _ _ us hl => match us, hl with | [_, _], _ => rfl
    m_choices := PySem.W.mg_of X G a6
    F_one_more := fun_mk (st := s_one_more) l7 c7 k7
    B_one_more := (fun_mk (st := s_one_more) l7 c7 k7).binds (ps := ["ways"]) fun _ _ _ _ _ _ us hl => match us, hl with | [_], _ => rfl
    m_one_more := PySem.W.mg_of X G a7
    F_endings_at := fun_mk (st := s_endings_at) l8 c8 k8
    B_endings_at := (fun_mk (st := s_endings_at) l8 c8 k8).binds (ps := ["row", "ways", "left", "bad", "looked"]) fun _ _ _ _ _ _ us hl => match us, hl with | [_, _, _, _, _], _ => rfl
    m_endings_at := PySem.W.mg_of X G a8
    F_L_cell := fun_mk (st := s_L_cell) l9 c9 k9
    B_L_cell := (fun_mk (st := s_L_cell) l9 c9 k9).binds (ps := ["_law_script", "_law_k"]) fun _ _ _ _ _ _ us hl => match us, hl with | [_, _], _ => rfl
    m_L_cell := PySem.W.mg_of X G a9
    F_L_mixed := fun_mk (st := s_L_mixed) l10 c10 k10
    B_L_mixed := (fun_mk (st := s_L_mixed) l10 c10 k10).binds (ps := ["_law_cell_here", "_law_k"]) fun _ _ _ _ _ _ us hl => match us, hl with | [_, _], _ => rfl
    m_L_mixed := PySem.W.mg_of X G a10
    F_L_rows := fun_mk (st := s_L_rows) l11 c11 k11
    B_L_rows := (fun_mk (st := s_L_rows) l11 c11 k11).binds (ps := ["_law_cell_here"]) fun _ _ _ _ _ _ us hl => match us, hl with | [_], _ => rfl
    m_L_rows := PySem.W.mg_of X G a11
    F_L_odd := fun_mk (st := s_L_odd) l12 c12 k12
    B_L_odd := (fun_mk (st := s_L_odd) l12 c12 k12).binds (ps := ["_law_row", "_law_number"]) fun _ _ _ _ _ _ us hl => match us, hl with | [_, _], _ => rfl
    m_L_odd := PySem.W.mg_of X G a12
    F_L_is_whole := fun_mk (st := s_L_is_whole) l13 c13 k13
    B_L_is_whole := (fun_mk (st := s_L_is_whole) l13 c13 k13).binds (ps := ["_law_thing"]) fun _ _ _ _ _ _ us hl => match us, hl with | [_], _ => rfl
    m_L_is_whole := PySem.W.mg_of X G a13
    F_L_good := fun_mk (st := s_L_good) l14 c14 k14
    B_L_good := (fun_mk (st := s_L_good) l14 c14 k14).binds (ps := ["_law_row"]) fun _ _ _ _ _ _ us hl => match us, hl with | [_], _ => rfl
    m_L_good := PySem.W.mg_of X G a14
    F_L_due := fun_mk (st := s_L_due) l15 c15 k15
    B_L_due := (fun_mk (st := s_L_due) l15 c15 k15).binds (ps := ["_law_rows_here"]) fun _ _ _ _ _ _ us hl => match us, hl with | [_], _ => rfl
    m_L_due := PySem.W.mg_of X G a15
    F_L_told := fun_mk (st := s_L_told) l16 c16 k16
    B_L_told := (fun_mk (st := s_L_told) l16 c16 k16).binds (ps := ["_law_rows_here"]) fun _ _ _ _ _ _ us hl => match us, hl with | [_], _ => rfl
    m_L_told := PySem.W.mg_of X G a16
    F_L_no_lot := fun_mk (st := s_L_no_lot) l17 c17 k17
    B_L_no_lot := (fun_mk (st := s_L_no_lot) l17 c17 k17).binds (ps := ["_law_looks", "_law_way", "_law_lot", "_law_bad"]) fun _ _ _ _ _ _ us hl => match us, hl with | [_, _, _, _], _ => rfl
    m_L_no_lot := PySem.W.mg_of X G a17
    F_L_lots := fun_mk (st := s_L_lots) l18 c18 k18
    B_L_lots := (fun_mk (st := s_L_lots) l18 c18 k18).binds (ps := ["_law_rows_here", "_law_cell_here"]) fun _ _ _ _ _ _ us hl => match us, hl with | [_, _], _ => rfl
    m_L_lots := PySem.W.mg_of X G a18
    F_law := fun_mk (st := s_law) l19 c19 k19
    B_law := (fun_mk (st := s_law) l19 c19 k19).binds (ps := ["_law_script"]) fun _ _ _ _ _ _ us hl => match us, hl with | [_], _ => rfl
    m_law := PySem.W.mg_of X G a19
    F_Looks_endings := fun_mk (st := s_Looks_endings) ml_Looks_endings mo_Looks_endings mk_Looks_endings
    B_Looks_endings := (fun_mk (st := s_Looks_endings) ml_Looks_endings mo_Looks_endings mk_Looks_endings).binds (ps := ["self", "lot", "bad"]) fun _ _ _ _ _ _ us hl => match us, hl with | [_, _, _], _ => rfl
    F_Looks_let_by := fun_mk (st := s_Looks_let_by) ml_Looks_let_by mo_Looks_let_by mk_Looks_let_by
    B_Looks_let_by := (fun_mk (st := s_Looks_let_by) ml_Looks_let_by mo_Looks_let_by mk_Looks_let_by).binds (ps := ["self", "lot", "bad"]) fun _ _ _ _ _ _ us hl => match us, hl with | [_, _, _], _ => rfl
    F_Looks_looked_at := fun_mk (st := s_Looks_looked_at) ml_Looks_looked_at mo_Looks_looked_at mk_Looks_looked_at
    B_Looks_looked_at := (fun_mk (st := s_Looks_looked_at) ml_Looks_looked_at mo_Looks_looked_at mk_Looks_looked_at).binds (ps := ["self", "lot", "bad"]) fun _ _ _ _ _ _ us hl => match us, hl with | [_, _, _], _ => rfl
    mt_Looks_endings := ⟨mf_Looks_endings, mi_Looks_endings, mk_Looks_endings⟩
    mt_Looks_let_by := ⟨mf_Looks_let_by, mi_Looks_let_by, mk_Looks_let_by⟩
    mt_Looks_looked_at := ⟨mf_Looks_looked_at, mi_Looks_looked_at, mk_Looks_looked_at⟩
    mc_Looks := PySem.W.mg_of X G ca_Looks
    g_Looks := ⟨_, PySem.W.mg_of X G ca_Looks, rfl⟩
    cl_Looks := ⟨pa_Looks, pb_Looks, pc_Looks, pd_Looks⟩
    ty_Looks := fun H x dx fs e => .ins e ⟨pa_Looks, pb_Looks, pc_Looks, pd_Looks⟩ pe_Looks pf_Looks pg_Looks ph_Looks
    mk_Looks := ⟨qa_Looks, qb_Looks, qc_Looks, qd_Looks⟩
    na_Looks_rows := qn_Looks_rows
    Fi_Looks := fun_mk (st := s_Looks___init__) cl_Looks co_Looks ck_Looks
    Bi_Looks := (fun_mk (st := s_Looks___init__) cl_Looks co_Looks ck_Looks).binds (ps := ["self", "rows"]) fun _ _ _ _ _ _ us hl => match us, hl with | [_, _], _ => rfl
    g_MOST_ROWS := ⟨u0, PySem.W.mg_of X G b0, r0⟩
    g_MOST_WARES := ⟨u1, PySem.W.mg_of X G b1, r1⟩
    g_MOST_LET := ⟨u2, PySem.W.mg_of X G b2, r2⟩
    g_MOST_TURN := ⟨u3, PySem.W.mg_of X G b3, r3⟩
    mc_SpeakError := PySem.W.mg_of X G ca_SpeakError
    g_SpeakError := ⟨_, PySem.W.mg_of X G ca_SpeakError, rfl⟩
    kc_SpeakError := cb_SpeakError
    xc_SpeakError := xc_of cc_SpeakError
    xh_SpeakError := xh_of cc_SpeakError
    xi_SpeakError := cx_SpeakError
    mc_NoUnits := PySem.W.mg_of X G ca_NoUnits
    g_NoUnits := ⟨_, PySem.W.mg_of X G ca_NoUnits, rfl⟩
    kc_NoUnits := cb_NoUnits
    xc_NoUnits := xc_of cc_NoUnits
    xh_NoUnits := xh_of cc_NoUnits
    xi_NoUnits := cx_NoUnits
    mc_TooMany := PySem.W.mg_of X G ca_TooMany
    g_TooMany := ⟨_, PySem.W.mg_of X G ca_TooMany, rfl⟩
    kc_TooMany := cb_TooMany
    xc_TooMany := xc_of cc_TooMany
    xh_TooMany := xh_of cc_TooMany
    xi_TooMany := cx_TooMany
    mc_NoTable := PySem.W.mg_of X G ca_NoTable
    g_NoTable := ⟨_, PySem.W.mg_of X G ca_NoTable, rfl⟩
    kc_NoTable := cb_NoTable
    xc_NoTable := xc_of cc_NoTable
    xh_NoTable := xh_of cc_NoTable
    xi_NoTable := cx_NoTable
    fn_NoTable := cg_NoTable
    Fi_NoTable := fun_mk (st := s_NoTable___init__) cl_NoTable co_NoTable ck_NoTable
    Bi_NoTable := (fun_mk (st := s_NoTable___init__) cl_NoTable co_NoTable ck_NoTable).binds (ps := ["self", "row"]) fun _ _ _ _ _ _ us hl => match us, hl with | [_, _], _ => rfl
    sx_NoTable_row := xs_of cs_NoTable_row
    mc_NoLot := PySem.W.mg_of X G ca_NoLot
    g_NoLot := ⟨_, PySem.W.mg_of X G ca_NoLot, rfl⟩
    kc_NoLot := cb_NoLot
    xc_NoLot := xc_of cc_NoLot
    xh_NoLot := xh_of cc_NoLot
    xi_NoLot := cx_NoLot
    tl := fact_tl
    tt := fact_tt
    t1 := fact_t1
    t3 := fact_t3
    u1 := fact_u1
    u2 := fact_u2
    u3 := fact_u3
    z_ValueError := PySem.W.mg_none_of X G z0
    z_abs := PySem.W.mg_none_of X G z1
    z_bool := PySem.W.mg_none_of X G z2
    z_enumerate := PySem.W.mg_none_of X G z3
    z_int := PySem.W.mg_none_of X G z4
    z_isinstance := PySem.W.mg_none_of X G z5
    z_len := PySem.W.mg_none_of X G z6
    z_list := PySem.W.mg_none_of X G z7
    z_max := PySem.W.mg_none_of X G z8
    z_min := PySem.W.mg_none_of X G z9
    z_range := PySem.W.mg_none_of X G z10
    z_str := PySem.W.mg_none_of X G z11
    z_sum := PySem.W.mg_none_of X G z12
    z_tuple := PySem.W.mg_none_of X G z13
    z_zip := PySem.W.mg_none_of X G z14
    bl := fun s u => .of_eq rfl }
end My
open PySem PySem.W PyProof.Rows
set_option maxRecDepth 100000 in
set_option maxHeartbeats 0 in
theorem PySem.Challenge.cw_fewspeak_k82_tables_refused_holds : PySem.Challenge.rw_fewspeak_k82_tables_refused.Holds := by
  w_on; o_law; k_head; (case hw => w_witness2)
  k_fill
  refine L2.walk_ofK (l := PySem.Challenge.rw_fewspeak_k82_tables_refused) (n := 63) (k := My.lawK) (x := "_law_script") (CX := L2.CX0) (sp := My.spLaw) rfl (by decide) rfl ⟨rfl, by decide, by decide⟩ (fun w h Y => PySem.W.kIn_of Y) ?F ?S ?C
  case F =>
    intro w mg fa h KX G hmg
    have T : ∃ a, My.Txt (L2.KOf KX) mg a := by
      dsimp only [L2.KOf]
      refine' My.txt_mk KX G ?a0 ?l0 ?c0 ?k0 ?a1 ?l1 ?c1 ?k1 ?a2 ?l2 ?c2 ?k2 ?a3 ?l3 ?c3 ?k3 ?a4 ?l4 ?c4 ?k4 ?a5 ?l5 ?c5 ?k5 ?a6 ?l6 ?c6 ?k6 ?a7 ?l7 ?c7 ?k7 ?a8 ?l8 ?c8 ?k8 ?a9 ?l9 ?c9 ?k9 ?a10 ?l10 ?c10 ?k10 ?a11 ?l11 ?c11 ?k11 ?a12 ?l12 ?c12 ?k12 ?a13 ?l13 ?c13 ?k13 ?a14 ?l14 ?c14 ?k14 ?a15 ?l15 ?c15 ?k15 ?a16 ?l16 ?c16 ?k16 ?a17 ?l17 ?c17 ?k17 ?a18 ?l18 ?c18 ?k18 ?a19 ?l19 ?c19 ?k19 ?b0 ?b1 ?b2 ?b3 ?ca_SpeakError ?cb_SpeakError ?cc_SpeakError ?cx_SpeakError ?ca_NoUnits ?cb_NoUnits ?cc_NoUnits ?cx_NoUnits ?ca_TooMany ?cb_TooMany ?cc_TooMany ?cx_TooMany ?ca_NoTable ?cb_NoTable ?cc_NoTable ?cf_NoTable ?cx_NoTable ?cg_NoTable ?cl_NoTable ?co_NoTable ?ck_NoTable ?cs_NoTable_row ?ca_NoLot ?cb_NoLot ?cc_NoLot ?cx_NoLot ?ca_Looks ?pa_Looks ?pb_Looks ?pc_Looks ?pd_Looks ?pe_Looks ?pf_Looks ?pg_Looks ?ph_Looks ?qa_Looks ?qb_Looks ?qc_Looks ?qd_Looks ?qn_Looks_rows ?cl_Looks ?co_Looks ?ck_Looks ?mf_Looks_endings ?ml_Looks_endings ?mo_Looks_endings ?mk_Looks_endings ?mi_Looks_endings ?mf_Looks_let_by ?ml_Looks_let_by ?mo_Looks_let_by ?mk_Looks_let_by ?mi_Looks_let_by ?mf_Looks_looked_at ?ml_Looks_looked_at ?mo_Looks_looked_at ?mk_Looks_looked_at ?mi_Looks_looked_at ?fact_tl ?fact_tt ?fact_t1 ?fact_t3 ?fact_u1 ?fact_u2 ?fact_u3 ?z0 ?z1 ?z2 ?z3 ?z4 ?z5 ?z6 ?z7 ?z8 ?z9 ?z10 ?z11 ?z12 ?z13 ?z14 ?r0 ?r1 ?r2 ?r3
      (case a0 => k_is)
      (case l0 => k_is)
      (case c0 => k_is)
      (case k0 => k_is)
      (case a1 => k_is)
      (case l1 => k_is)
      (case c1 => k_is)
      (case k1 => k_is)
      (case a2 => k_is)
      (case l2 => k_is)
      (case c2 => k_is)
      (case k2 => k_is)
      (case a3 => k_is)
      (case l3 => k_is)
      (case c3 => k_is)
      (case k3 => k_is)
      (case a4 => k_is)
      (case l4 => k_is)
      (case c4 => k_is)
      (case k4 => k_is)
      (case a5 => k_is)
      (case l5 => k_is)
      (case c5 => k_is)
      (case k5 => k_is)
      (case a6 => k_is)
      (case l6 => k_is)
      (case c6 => k_is)
      (case k6 => k_is)
      (case a7 => k_is)
      (case l7 => k_is)
      (case c7 => k_is)
      (case k7 => k_is)
      (case a8 => k_is)
      (case l8 => k_is)
      (case c8 => k_is)
      (case k8 => k_is)
      (case a9 => k_is)
      (case l9 => k_is)
      (case c9 => k_is)
      (case k9 => k_is)
      (case a10 => k_is)
      (case l10 => k_is)
      (case c10 => k_is)
      (case k10 => k_is)
      (case a11 => k_is)
      (case l11 => k_is)
      (case c11 => k_is)
      (case k11 => k_is)
      (case a12 => k_is)
      (case l12 => k_is)
      (case c12 => k_is)
      (case k12 => k_is)
      (case a13 => k_is)
      (case l13 => k_is)
      (case c13 => k_is)
      (case k13 => k_is)
      (case a14 => k_is)
      (case l14 => k_is)
      (case c14 => k_is)
      (case k14 => k_is)
      (case a15 => k_is)
      (case l15 => k_is)
      (case c15 => k_is)
      (case k15 => k_is)
      (case a16 => k_is)
      (case l16 => k_is)
      (case c16 => k_is)
      (case k16 => k_is)
      (case a17 => k_is)
      (case l17 => k_is)
      (case c17 => k_is)
      (case k17 => k_is)
      (case a18 => k_is)
      (case l18 => k_is)
      (case c18 => k_is)
      (case k18 => k_is)
      (case a19 => k_is)
      (case l19 => k_is)
      (case c19 => k_is)
      (case k19 => k_is)
      (case b0 => k_is)
      (case b1 => k_is)
      (case b2 => k_is)
      (case b3 => k_is)
      (case ca_SpeakError => k_is)
      (case cb_SpeakError => k_is)
      (case cc_SpeakError => kernel_rfl)
      (case cx_SpeakError => kernel_rfl)
      (case ca_NoUnits => k_is)
      (case cb_NoUnits => k_is)
      (case cc_NoUnits => kernel_rfl)
      (case cx_NoUnits => kernel_rfl)
      (case ca_TooMany => k_is)
      (case cb_TooMany => k_is)
      (case cc_TooMany => kernel_rfl)
      (case cx_TooMany => kernel_rfl)
      (case ca_NoTable => k_is)
      (case cb_NoTable => k_is)
      (case cc_NoTable => kernel_rfl)
      (case cf_NoTable => k_is)
      (case cx_NoTable => kernel_rfl)
      (case cg_NoTable => k_is)
      (case cl_NoTable => k_is)
      (case co_NoTable => k_is)
      (case ck_NoTable => k_is)
      (case cs_NoTable_row => kernel_rfl)
      (case ca_NoLot => k_is)
      (case cb_NoLot => k_is)
      (case cc_NoLot => kernel_rfl)
      (case cx_NoLot => kernel_rfl)
      (case ca_Looks => k_is)
      (case pa_Looks => (first | k_is | kernel_rfl))
      (case pb_Looks => (first | k_is | kernel_rfl))
      (case pc_Looks => (first | k_is | kernel_rfl))
      (case pd_Looks => (first | k_is | kernel_rfl))
      (case pe_Looks => (first | k_is | kernel_rfl))
      (case pf_Looks => (first | k_is | kernel_rfl))
      (case pg_Looks => (first | k_is | kernel_rfl))
      (case ph_Looks => (first | k_is | kernel_rfl))
      (case qa_Looks => (first | k_is | kernel_rfl))
      (case qb_Looks => (first | k_is | kernel_rfl))
      (case qc_Looks => (first | k_is | kernel_rfl))
      (case qd_Looks => (first | k_is | kernel_rfl))
      (case qn_Looks_rows => (first | k_is | kernel_rfl))
      (case cl_Looks => k_is)
      (case co_Looks => k_is)
      (case ck_Looks => k_is)
      (case mf_Looks_endings => (first | k_is | kernel_rfl))
      (case ml_Looks_endings => k_is)
      (case mo_Looks_endings => k_is)
      (case mk_Looks_endings => k_is)
      (case mi_Looks_endings => (first | k_is | kernel_rfl))
      (case mf_Looks_let_by => (first | k_is | kernel_rfl))
      (case ml_Looks_let_by => k_is)
      (case mo_Looks_let_by => k_is)
      (case mk_Looks_let_by => k_is)
      (case mi_Looks_let_by => (first | k_is | kernel_rfl))
      (case mf_Looks_looked_at => (first | k_is | kernel_rfl))
      (case ml_Looks_looked_at => k_is)
      (case mo_Looks_looked_at => k_is)
      (case mk_Looks_looked_at => k_is)
      (case mi_Looks_looked_at => (first | k_is | kernel_rfl))
      (case fact_tl => kernel_rfl)
      (case fact_tt => kernel_rfl)
      (case fact_t1 => kernel_rfl)
      (case fact_t3 => kernel_rfl)
      (case fact_u1 => kernel_rfl)
      (case fact_u2 => kernel_rfl)
      (case fact_u3 => kernel_rfl)
      (case z0 => k_is)
      (case z1 => k_is)
      (case z2 => k_is)
      (case z3 => k_is)
      (case z4 => k_is)
      (case z5 => k_is)
      (case z6 => k_is)
      (case z7 => k_is)
      (case z8 => k_is)
      (case z9 => k_is)
      (case z10 => k_is)
      (case z11 => k_is)
      (case z12 => k_is)
      (case z13 => k_is)
      (case z14 => k_is)
      (case r0 => first | exact rfl | exact ⟨_, rfl⟩)
      (case r1 => first | exact rfl | exact ⟨_, rfl⟩)
      (case r2 => first | exact rfl | exact ⟨_, rfl⟩)
      (case r3 => first | exact rfl | exact ⟨_, rfl⟩)
    obtain ⟨a, T⟩ := T
    have e0 := hmg.symm.trans T.m_law
    cases e0
    refine' ⟨a.d_law, ?b, fun base kb nb => My.ok_law T⟩
    exact T.bl
  case S => exact fun K H a ns hl hO hS => My.law_start hl hO hS
  case C => exact fun H s e s' z => z

