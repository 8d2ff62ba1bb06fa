import PyProof.Rows.All
import Wide.All
import OpenK.AllK
import Wide.FinOn
import Lean
import PyProof.EqAt
import PyProof.EqKinds
import PyProof.TupleCall
import PySem.Challenge.RW_fewspeak_k79_whole_stretches_of_means
set_option Elab.async false
set_option linter.all false
set_option maxRecDepth 100000
/-! THE HAND LAYER, for ints, bools, texts, own classes, LISTS and tuples (index, slices, in, append, pop ..), calls, loops. Paste it whole ahead of your own text; what your proof does not reach may be deleted. -/
namespace L2
open PySem PySem.Spec PyProof.Rows

/-- a key: an int or a str -/
abbrev Key := Sum Int Str
def keyIs : Key → Value → Bool
  | .inl k, v => Value.isInt k v
  | .inr x, v => Value.isStrOf x v
def keyH (w : World) : Key → Int
  | .inl k => hashInt k
  | .inr x => hashStr w x
theorem keyIs_shape : ∀ {k : Key} {v : Value}, keyIs k v = true → (∃ i t, k = Sum.inl i ∧ v = Value.int i t) ∨ (∃ x t, k = Sum.inr x ∧ v = Value.str x t)
  | .inl i, v, h => by
    obtain ⟨t, e⟩ := Value.isInt_shape (k := i) (v := v) h
    exact .inl ⟨i, t, rfl, e⟩
  | .inr x, v, h => by
    obtain ⟨t, e⟩ := Value.isStrOf_shape (x := x) (v := v) h
    exact .inr ⟨x, t, rfl, e⟩
theorem keyIs_int (i : Int) (t : Tok) : keyIs (.inl i) (.int i t) = true := by simp [keyIs, Value.isInt]
theorem keyIs_str (x : Str) (t : Tok) : keyIs (.inr x) (.str x t) = true := by simp [keyIs, Value.isStrOf]
theorem key_ll (a b : Int) : decide ((Sum.inl a : Key) = Sum.inl b) = (a == b) := by
  by_cases e : a = b
  · subst e; simp
  · have h : ¬ (Sum.inl a : Key) = Sum.inl b := fun q => e (Sum.inl.inj q)
    rw [decide_eq_false h]
    exact (beq_eq_false_iff_ne.mpr e).symm
theorem key_rr (a b : Str) : decide ((Sum.inr a : Key) = Sum.inr b) = decide (a = b) := by
  by_cases e : a = b
  · subst e; simp
  · have h : ¬ (Sum.inr a : Key) = Sum.inr b := fun q => e (Sum.inr.inj q)
    rw [decide_eq_false h, decide_eq_false e]
theorem key_lr (a : Int) (b : Str) : decide ((Sum.inl a : Key) = Sum.inr b) = false := decide_eq_false (fun q => nomatch q)
theorem key_rl (a : Str) (b : Int) : decide ((Sum.inr a : Key) = Sum.inl b) = false := decide_eq_false (fun q => nomatch q)

def mixKind (prog : Program) (w : World) : PySem.KeyKind prog w Key where
  is := keyIs
  hash := keyH w
  inj := fun v a b ha hb => by
    rcases keyIs_shape ha with ⟨i, t, rfl, rfl⟩ | ⟨x, t, rfl, rfl⟩
    · rcases keyIs_shape hb with ⟨j, u, rfl, e⟩ | ⟨y, u, rfl, e⟩
      · injection e with e1 _; rw [e1]
      · exact nomatch e
    · rcases keyIs_shape hb with ⟨j, u, rfl, e⟩ | ⟨y, u, rfl, e⟩
      · exact nomatch e
      · injection e with e1 _; rw [e1]
  byValue := fun k v h => by
    rcases keyIs_shape h with ⟨i, t, rfl, rfl⟩ | ⟨x, t, rfl, rfl⟩ <;> rfl
  pyHash := fun hv h => by
    rcases keyIs_shape hv with ⟨i, t, rfl, rfl⟩ | ⟨x, t, rfl, rfl⟩
    · exact wpAny_pyHash_int h
    · exact wpAny_pyHash_str h
  eqBool := fun hu hv h => by
    rcases keyIs_shape hu with ⟨i, t, rfl, rfl⟩ | ⟨x, t, rfl, rfl⟩
    · rcases keyIs_shape hv with ⟨j, u, rfl, rfl⟩ | ⟨y, u, rfl, rfl⟩
      · rw [key_ll] at h; exact wpAny_eqBool_int h
      · rw [key_lr] at h; exact SeqAt.EqAt.int_str i t y u _ _ _ _ h
    · rcases keyIs_shape hv with ⟨j, u, rfl, rfl⟩ | ⟨y, u, rfl, rfl⟩
      · rw [key_rl] at h; exact SeqAt.EqAt.str_int x t j u _ _ _ _ h
      · rw [key_rr] at h; exact wpAny_eqBool_str h
  «strs» := fun k x t v h => by
    rcases keyIs_shape h with ⟨i, u, rfl, e⟩ | ⟨y, u, rfl, e⟩
    · exact nomatch e
    · injection e with e1 _
      subst e1
      cases v <;> rfl

theorem mixKind_int (prog : Program) (w : World) (i : Int) (t : Tok) : (mixKind prog w).is (.inl i) (.int i t) = true := keyIs_int i t
theorem mixKind_str (prog : Program) (w : World) (x : Str) (t : Tok) : (mixKind prog w).is (.inr x) (.str x t) = true := keyIs_str x t
end L2

namespace L2
open PySem PySem.Spec PyProof.Rows

/-- a value, without the heap -/
inductive V where
  | non | bl (b : Bool) | int (i : Int) | str (x : Str) | byt (b : Array UInt8) | flt (b : UInt64) | ref (a : Addr) | ty (n : String)
  deriving DecidableEq

def RelV : V → Value → Prop
  | .non, u => u = Value.none
  | .bl b, u => u = Value.bool b
  | .int i, u => ∃ t, u = Value.int i t
  | .str x, u => ∃ t, u = Value.str x t
  | .byt b, u => ∃ t, u = Value.bytes b t
  | .flt b, u => ∃ t, u = Value.float b t
  | .ref a, u => u = Value.ref a
  | .ty n, u => u = Value.type n

abbrev Vals : List V → List Value → Prop := Paired RelV
theorem Vals.length {xs : List V} {us : List Value} (r : Vals xs us) : xs.length = us.length := Paired.length r
theorem Vals.get : ∀ {xs : List V} {us : List Value} {i : Nat} {x : V}, Vals xs us → xs[i]? = some x → ∃ u, us[i]? = some u ∧ RelV x u
  | _, _, _, _, .nil, e => by simp at e
  | _, _, 0, _, .cons r _, e => by simp at e; subst e; exact ⟨_, rfl, r⟩
  | _, _, i + 1, x, .cons _ t, e => by
    obtain ⟨u, h1, h2⟩ := Vals.get (i := i) (x := x) t (by simpa using e)
    exact ⟨u, by simpa using h1, h2⟩
theorem Vals.set {x : V} {u : Value} (r : RelV x u) : ∀ {xs : List V} {us : List Value} (i : Nat), Vals xs us → Vals (xs.set i x) (us.set i u)
  | _, _, _, .nil => .nil
  | _, _, 0, .cons _ t => .cons r t
  | _, _, i + 1, .cons q t => .cons q (Vals.set r i t)
theorem Vals.append : ∀ {xs ys : List V} {us ws : List Value}, Vals xs us → Vals ys ws → Vals (xs ++ ys) (us ++ ws)
  | _, _, _, _, .nil, s => s
  | _, _, _, _, .cons r t, s => .cons r (Vals.append t s)
theorem Vals.take : ∀ {xs : List V} {us : List Value} (n : Nat), Vals xs us → Vals (xs.take n) (us.take n)
  | _, _, 0, _ => .nil
  | _, _, _ + 1, .nil => .nil
  | _, _, n + 1, .cons r t => .cons r (Vals.take n t)
theorem Vals.drop : ∀ {xs : List V} {us : List Value} (n : Nat), Vals xs us → Vals (xs.drop n) (us.drop n)
  | _, _, 0, r => r
  | _, _, _ + 1, .nil => .nil
  | _, _, n + 1, .cons _ t => Vals.drop n t
theorem Vals.none_of : ∀ {xs : List V} {us : List Value} {i : Nat}, Vals xs us → xs[i]? = none → us[i]? = none := fun {xs us i} r e => by
  have h1 := r.length
  have h2 : xs.length ≤ i := List.getElem?_eq_none_iff.mp e
  exact List.getElem?_eq_none_iff.mpr (by omega)

def RelO : Option V → Option Value → Prop
  | some v, some u => RelV v u
  | none, none => True
  | _, _ => False
def KV {κ : Type} : List (κ × V) → List (κ × Value) → Prop := Paired fun (p : κ × V) (q : κ × Value) => p.1 = q.1 ∧ RelV p.2 q.2

/-- a key of a dict (00_mix): an int or a text -/
def kV : Key → V
  | .inl i => .int i
  | .inr x => .str x

/-- what stands at a tracked address -/
inductive HO where
  /-- a list -/
  | lst (xs : List V)
  /-- a tuple (never changes) -/
  | tup (xs : List V)
  /-- a dict whose keys are ints and texts; one whose keys are tuples of ints and texts (the empty one is both) -/
  | dK (kvs : List (Key × V)) | dT (kvs : List (List Key × V))
  /-- a set of ints: its members, its size -/
  | set (S : Int → Bool) (n : Nat)
  /-- an instance of the class at C, its dict at dx, its attributes -/
  | ins (C dx : Addr) (fs : List (Str × V))
  /-- the dict of the instance at x -/
  | own (x : Addr)
  /-- the dict of an exception -/
  | xd (fs : List (Str × V))
  /-- a bound method, f of x -/
  | met (f x : Addr)
  /-- a range object lo, lo + 1, .. below hi -/
  | rng (lo hi : Int)
  /-- a thing that is known to the object (the script; a dict while a loop walks it): read, never written while it is so -/
  | frz (o : Obj) (u : HO)
  /-- a code object's table -/
  | tbl (ps : Array Value)
  /-- any other thing, by what is true of its one object (a def of one's own: SetO a S n := HO.ext fun h => ..) -/
  | ext (φ : Heap → Prop)

abbrev Hp := Addr → Option HO
def upd (H : Hp) (a : Addr) (o : HO) : Hp := fun b => if b = a then some o else H b
theorem upd_same {H : Hp} {a : Addr} {o : HO} : upd H a o a = some o := by unfold upd; rw [if_pos rfl]
theorem upd_ne {H : Hp} {a b : Addr} {o : HO} (h : b ≠ a) : upd H a o b = H b := by unfold upd; rw [if_neg h]
/-- two objects of different content stand apart -/
theorem ne_of {H : Hp} {a b : Addr} {o u : HO} (h : H a = some o) (h' : H b = some u) (d : o ≠ u) : a ≠ b := by
  intro e; subst e; rw [h] at h'; exact d (Option.some.inj h')
theorem ne_of_none {H : Hp} {a b : Addr} {o : HO} (h : H a = some o) (h' : H b = none) : a ≠ b := by
  intro e; subst e; rw [h] at h'; cases h'

section
variable (P : Program) (w : World)
def ObjOk (H : Hp) (h : Heap) (a : Addr) : HO → Prop
  | .lst xs => xs.length ≤ sizeLine ∧ ∃ (its : List Value) (n : Nat), Vals xs its ∧ h.get? a = some { cls := .type "list", data := .seq its.toArray n }
  | .tup xs => xs.length ≤ sizeLine ∧ ∃ its : List Value, Vals xs its ∧ IsTup h a its.toArray
  | .dK kvs => kvs.length ≤ sizeLine ∧ (a == sysModules) = false ∧ ∃ vs, KV kvs vs ∧ h.DictOf (mixKind P w) a vs
  | .dT kvs => kvs.length ≤ sizeLine ∧ (a == sysModules) = false ∧ ∃ xs : List (List Key × Addr × Value),
      Paired (fun (p : List Key × V) (q : List Key × Addr × Value) => p.1 = q.1 ∧ H q.2.1 = some (.tup (p.1.map kV)) ∧ RelV p.2 q.2.2) kvs xs ∧
      ∃ o es ep, h.get? a = some o ∧ o.ExactDict ∧ o.data = .dict es ep ∧ es.toList = xs.map (entryOfKey (tupleKind (mixKind P w))) ∧ (xs.map (·.1)).Nodup
  | .set S n => h.SetOf (intKind P w) a S n
  | .ins C dx fs => H dx = some (.own a) ∧ fs.length ≤ 1000 ∧ dx ≠ a ∧ h.get? a = some (PySem.W.instObj C dx) ∧
      ∃ mA, h.Ns1 dx mA ∧ (∀ f, RelO (fs.lookup f) (mA f)) ∧ PySem.Within mA (fs.map (·.1))
  | .own _ => ∃ o, h.get? a = some o
  | .xd fs => ∃ mA, h.Ns1 a mA ∧ ∀ f, RelO (fs.lookup f) (mA f)
  | .rng lo hi => ∃ t u v, h.get? a = some { cls := .type "range", data := .fields #[.int lo t, .int hi u, .int 1 v] }
  | .frz o u => h.get? a = some o ∧ ObjOk H h a u
  | .tbl ps => h.get? a = some { cls := .none, data := .fields ps }
  | .met f x => h.get? a = some (PySem.W.methodObj (.ref f) (.ref x))
  | .ext φ => φ h ∧ (∃ o, h.get? a = some o) ∧ ∀ h1 h2 : Heap, φ h1 → (∀ o, h1.get? a = some o → h2.get? a = some o) → φ h2
/-- the abstract heap is held -/
def HOk (H : Hp) (h : Heap) : Prop := ∀ a o, H a = some o → ObjOk P w H h a o
end

section
variable {P : Program} {w : World} {H H' : Hp} {h h' : Heap} {a : Addr} {o : HO}
theorem ObjOk.lt (x : ObjOk P w H h a o) : a < h.objs.size := by
  cases o with
  | lst xs => obtain ⟨_, _, _, _, e⟩ := x; exact Heap.lt_size e
  | tup xs => obtain ⟨_, _, _, p⟩ := x; exact p.lt
  | dK kvs => obtain ⟨_, _, _, _, o, _, _, e, _⟩ := x; exact Heap.lt_size e
  | dT kvs => obtain ⟨_, _, _, _, o, _, _, e, _⟩ := x; exact Heap.lt_size e
  | set S n => obtain ⟨o, _, _, _, e, _⟩ := x; exact Heap.lt_size e
  | ins C dx fs => obtain ⟨_, _, _, e, _⟩ := x; exact Heap.lt_size e
  | own y => obtain ⟨_, e⟩ := x; exact Heap.lt_size e
  | xd fs => obtain ⟨_, ⟨_, _, _, e, _⟩, _⟩ := x; exact Heap.lt_size e
  | rng lo hi => obtain ⟨_, _, _, e⟩ := x; exact Heap.lt_size e
  | frz ob u => obtain ⟨e, _⟩ := x; exact Heap.lt_size e
  | tbl ps => exact Heap.lt_size (show h.get? a = some _ from x)
  | met f y => exact Heap.lt_size (show h.get? a = some _ from x)
  | ext φ => obtain ⟨_, ⟨_, e⟩, _⟩ := x; exact Heap.lt_size e
theorem Paired.mapP {α β : Type} {F G : α → β → Prop} : ∀ {l₁ : List α} {l₂ : List β}, Paired F l₁ l₂ → (∀ a b, F a b → G a b) → Paired G l₁ l₂
  | _, _, .nil, _ => .nil
  | _, _, .cons r t, f => .cons (f _ _ r) (Paired.mapP t f)
/-- what an object's description leans on: its own object, its own dict, the tuples -/
theorem ObjOk.stay (x : ObjOk P w H h a o) (k : ∀ b u, (b = a ∨ H b = some (.own a)) → h.get? b = some u → h'.get? b = some u)
    (ho : ∀ b, H b = some (.own a) → H' b = some (.own a)) (ht : ∀ b xs, H b = some (.tup xs) → H' b = some (.tup xs)) : ObjOk P w H' h' a o := by
  induction o with
  | lst xs => obtain ⟨z, its, n, r, e⟩ := x; exact ⟨z, its, n, r, k _ _ (.inl rfl) e⟩
  | tup xs => obtain ⟨z, its, r, ob, e, c⟩ := x; exact ⟨z, its, r, ob, k _ _ (.inl rfl) e, c⟩
  | dK kvs => obtain ⟨z, y, vs, r, ob, es, ep, e, c⟩ := x; exact ⟨z, y, vs, r, ob, es, ep, k _ _ (.inl rfl) e, c⟩
  | dT kvs =>
    obtain ⟨z, y, xs, r, ob, es, ep, e, c⟩ := x
    exact ⟨z, y, xs, Paired.mapP r fun p q z => ⟨z.1, ht _ _ z.2.1, z.2.2⟩, ob, es, ep, k _ _ (.inl rfl) e, c⟩
  | set S n => obtain ⟨ob, es, ep, t, e, c⟩ := x; exact ⟨ob, es, ep, t, k _ _ (.inl rfl) e, c⟩
  | ins C dx fs =>
    obtain ⟨d, z, ne, e, mA, ⟨od, es, ep, e2, c⟩, r⟩ := x
    exact ⟨ho _ d, z, ne, k _ _ (.inl rfl) e, mA, ⟨od, es, ep, k _ _ (.inr d) e2, c⟩, r⟩
  | own y => obtain ⟨ob, e⟩ := x; exact ⟨ob, k _ _ (.inl rfl) e⟩
  | xd fs => obtain ⟨mA, ⟨od, es, ep, e, c⟩, r⟩ := x; exact ⟨mA, ⟨od, es, ep, k _ _ (.inl rfl) e, c⟩, r⟩
  | rng lo hi => obtain ⟨t, u, v, e⟩ := x; exact ⟨t, u, v, k _ _ (.inl rfl) e⟩
  | frz ob u ih => obtain ⟨e, q⟩ := x; exact ⟨k _ _ (.inl rfl) e, ih q⟩
  | tbl ps =>
    have e : h.get? a = some { cls := .none, data := .fields ps } := x
    show h'.get? a = some { cls := .none, data := .fields ps }
    exact k a _ (.inl rfl) e
  | met f y =>
    have e : h.get? a = some (PySem.W.methodObj (.ref f) (.ref y)) := x
    show h'.get? a = some (PySem.W.methodObj (.ref f) (.ref y))
    exact k a _ (.inl rfl) e
  | ext φ => obtain ⟨p, ⟨o, e⟩, st⟩ := x; exact ⟨st _ _ p fun o q => k _ _ (.inl rfl) q, ⟨o, k _ _ (.inl rfl) e⟩, st⟩
theorem HOk.lt (x : HOk P w H h) (e : H a = some o) : a < h.objs.size := (x a o e).lt
theorem HOk.fresh (x : HOk P w H h) (e : h.objs.size ≤ a) : H a = none := by
  cases q : H a with
  | none => rfl
  | some u => exact absurd (Nat.lt_of_lt_of_le (x.lt q) e) (Nat.lt_irrefl _)
/-- every object of the heap is kept -/
theorem HOk.kept (x : HOk P w H h) (k : ∀ b u, h.get? b = some u → h'.get? b = some u) : HOk P w H h' := fun a o e =>
  (x a o e).stay (fun b u _ q => k b u q) (fun _ q => q) fun _ _ q => q
/-- a new object is laid and tracked -/
theorem HOk.laid (x : HOk P w H h) (k : ∀ b u, h.get? b = some u → h'.get? b = some u) (hp : h.objs.size ≤ a) (new : ObjOk P w (upd H a o) h' a o) : HOk P w (upd H a o) h' := fun b u e => by
  have hn := x.fresh hp
  by_cases hb : b = a
  · subst hb; rw [upd_same] at e; cases e; exact new
  · rw [upd_ne hb] at e
    exact (x b u e).stay (fun c v _ q => k c v q) (fun c q => by rw [upd_ne (ne_of_none q hn)]; exact q) fun c xs q => by rw [upd_ne (ne_of_none q hn)]; exact q
end

/-- what may be read as u: it is u, or a known u -/
def Rd (H : Hp) (a : Addr) (u : HO) : Prop := H a = some u ∨ ∃ o, H a = some (.frz o u)
theorem Rd.of {H : Hp} {a : Addr} {u : HO} (h : H a = some u) : Rd H a u := .inl h
theorem Rd.ok {P : Program} {w : World} {H : Hp} {h : Heap} {a : Addr} {u : HO} (r : Rd H a u) (x : HOk P w H h) : ObjOk P w H h a u := by
  rcases r with r | ⟨o, r⟩
  · exact x a u r
  · obtain ⟨_, q⟩ := x a _ r
    exact q
/-- what may be written -/
def Mut : Option HO → Prop
  | some (.lst _) => True
  | some (.dK _) => True
  | some (.dT _) => True
  | some (.set _ _) => True
  | some (.ins _ _ _) => True
  | some (.ext _) => True
  | _ => False
section
variable {P : Program} {w : World} {H : Hp} {h h' : Heap} {x e : Addr} {o' : HO}
/-- the object at e is changed: x itself, or the dict of the instance x -/
theorem HOk.write (ok : HOk P w H h) (mu : Mut (H x)) (he : e = x ∨ H e = some (.own x)) (k : ∀ b u, b ≠ e → h.get? b = some u → h'.get? b = some u) (heo : ∃ u, h'.get? e = some u)
    (new : ObjOk P w (upd H x o') h' x o') : HOk P w (upd H x o') h' := fun b u q => by
  have nown : ∀ c y, H c = some (.own y) → c ≠ x := fun c y r z => by subst z; rw [r] at mu; exact mu
  have ntup : ∀ c xs, H c = some (.tup xs) → c ≠ x := fun c xs r z => by subst z; rw [r] at mu; exact mu
  by_cases hb : b = x
  · subst hb; rw [upd_same] at q; cases q; exact new
  · rw [upd_ne hb] at q
    by_cases hbe : b = e
    · have q' : H b = some (.own x) := by
        rcases he with z | z
        · exact absurd (hbe.trans z) hb
        · rw [hbe]; exact z
      rw [q] at q'; cases q'
      obtain ⟨v, hv⟩ := heo
      exact ⟨v, by rw [hbe]; exact hv⟩
    · refine (ok b u q).stay (fun c v hc r => k c v ?_ r) (fun c r => by rw [upd_ne (nown c b r)]; exact r) fun c xs r => by rw [upd_ne (ntup c xs r)]; exact r
      rcases hc with rfl | hc
      · exact hbe
      · rintro rfl
        rcases he with z | z
        · exact nown c b hc z
        · rw [hc] at z; cases z; exact hb rfl
end

/-! ### kept unless tracked; of the frames at fs (the callers') the slots may change (an exception that passes writes there); of the records at ex (iterators) nothing is said -/
structure Un (fs ex : List Addr) (H H' : Hp) (h h' : Heap) : Prop where
  keep : ∀ b o, h.get? b = some o → H b = none → b ∉ fs → b ∉ ex → h'.get? b = some o
  slot : ∀ b o, h.get? b = some o → H b = none → b ∈ fs → b ∉ ex → ∃ sl, h'.get? b = some { o with slots := sl }
  free : ∀ b o, h.get? b = some o → H b = none → b ∉ ex → H' b = none
  there : ∀ b o, h.get? b = some o → b ∉ ex → ∃ o', h'.get? b = some o'
  tups : ∀ b xs, H b = some (.tup xs) → H' b = some (.tup xs)
  frzs : ∀ b o u, H b = some (.frz o u) → H' b = some (.frz o u)
  tbls : ∀ b ps, H b = some (.tbl ps) → ∃ more, H' b = some (.tbl (ps ++ more))
section
variable {fs fs' ex ex' : List Addr} {H H1 H2 : Hp} {h h1 h2 h' : Heap} {a x e : Addr} {o : HO}
theorem Un.any (u : Un fs ex H H1 h h1) {b : Addr} {ob : Obj} (q : h.get? b = some ob) (n : H b = none) (hx : b ∉ ex) : ∃ sl, h1.get? b = some { ob with slots := sl } := by
  by_cases hb : b ∈ fs
  · exact u.slot b ob q n hb hx
  · exact ⟨ob.slots, u.keep b ob q n hb hx⟩
theorem Un.trans (a : Un fs ex H H1 h h1) (b : Un fs ex H1 H2 h1 h2) : Un fs ex H H2 h h2 where
  keep := fun c ob q n hc hx => b.keep c ob (a.keep c ob q n hc hx) (a.free c ob q n hx) hc hx
  slot := fun c ob q n hc hx => by
    obtain ⟨sl, e1⟩ := a.slot c ob q n hc hx
    obtain ⟨sl', e2⟩ := b.slot c _ e1 (a.free c ob q n hx) hc hx
    exact ⟨sl', e2⟩
  free := fun c ob q n hx => by
    obtain ⟨o', e1⟩ := a.there c ob q hx
    exact b.free c o' e1 (a.free c ob q n hx) hx
  there := fun c ob q hx => by
    obtain ⟨o', e1⟩ := a.there c ob q hx
    exact b.there c o' e1 hx
  tups := fun c xs q => b.tups c xs (a.tups c xs q)
  frzs := fun c ob xs q => b.frzs c ob xs (a.frzs c ob xs q)
  tbls := fun c ps q => by
    obtain ⟨m1, e1⟩ := a.tbls c ps q
    obtain ⟨m2, e2⟩ := b.tbls c _ e1
    exact ⟨m1 ++ m2, by rw [e2, Array.append_assoc]⟩
theorem Un.kept (k : ∀ b u, h.get? b = some u → h'.get? b = some u) : Un fs ex H H h h' :=
  ⟨fun b ob q _ _ _ => k b ob q, fun b ob q _ _ _ => ⟨ob.slots, k b ob q⟩, fun _ _ _ n _ => n, fun b ob q _ => ⟨ob, k b ob q⟩, fun _ _ q => q, fun _ _ _ q => q, fun _ ps q => ⟨#[], by rw [q]; simp⟩⟩
theorem Un.refl : Un fs ex H H h h := Un.kept fun _ _ q => q
theorem Un.laid (k : ∀ b u, h.get? b = some u → h'.get? b = some u) (hp : h.objs.size ≤ a) (hn : H a = none) : Un fs ex H (upd H a o) h h' where
  keep := fun b u q _ _ _ => k b u q
  slot := fun b u q _ _ _ => ⟨u.slots, k b u q⟩
  free := fun b u q n _ => by rw [upd_ne (Nat.ne_of_lt (Nat.lt_of_lt_of_le (Heap.lt_size q) hp))]; exact n
  there := fun b u q _ => ⟨u, k b u q⟩
  tups := fun b xs q => by rw [upd_ne (ne_of_none q hn)]; exact q
  frzs := fun b u xs q => by rw [upd_ne (ne_of_none q hn)]; exact q
  tbls := fun b ps q => ⟨#[], by rw [upd_ne (ne_of_none q hn), q]; simp⟩
theorem Un.write (mu : Mut (H x)) (he : e = x ∨ H e = some (.own x)) (k : ∀ b u, b ≠ e → h.get? b = some u → h'.get? b = some u) (heo : ∃ u, h'.get? e = some u) : Un fs ex H (upd H x o) h h' := by
  have hx : ∀ b, H b = none → b ≠ x := fun b n z => by subst z; rw [n] at mu; exact mu
  have hb : ∀ b, H b = none → b ≠ e := fun b n z => by
    subst z
    rcases he with r | r
    · exact hx b n r
    · rw [n] at r; cases r
  have hm : ∀ b u, H b = some u → ¬ Mut (some u) → b ≠ x := fun b u q nm z => by subst z; rw [q] at mu; exact nm mu
  refine ⟨fun b u q n _ _ => k b u (hb b n) q, fun b u q n _ _ => ⟨u.slots, k b u (hb b n) q⟩, fun b u q n _ => by rw [upd_ne (hx b n)]; exact n, fun b u q _ => ?_,
    fun b xs q => by rw [upd_ne (hm b _ q fun z => z)]; exact q, fun b u xs q => by rw [upd_ne (hm b _ q fun z => z)]; exact q, fun b ps q => ⟨#[], by rw [upd_ne (hm b _ q fun z => z), q]; simp⟩⟩
  by_cases hbe : b = e
  · subst hbe; exact heo
  · exact ⟨u, k b u hbe q⟩
theorem Un.mono (u : Un fs ex H H1 h h1) (hs : ∀ b ∈ fs, b ∈ fs') (hx : ∀ b ∈ ex, b ∈ ex') : Un fs' ex' H H1 h h1 :=
  ⟨fun b ob q n hb he => u.keep b ob q n (fun z => hb (hs b z)) fun z => he (hx b z), fun _ _ q n _ he => u.any q n fun z => he (hx _ z), fun b ob q n he => u.free b ob q n fun z => he (hx b z), fun b ob q he => u.there b ob q fun z => he (hx b z), u.tups, u.frzs, u.tbls⟩
end

/-! ### the heap without what is tracked -/
def trk (h : Heap) (H : Hp) : List Addr := (List.range h.objs.size).filter fun a => (H a).isSome
def hidT (h : Heap) (H : Hp) : Heap := PySem.W.hideAll h (trk h H)
theorem hidT_size (h : Heap) (H : Hp) : (hidT h H).objs.size = h.objs.size := PySem.W.hideAll_size _ _
theorem hidT_get {h : Heap} {H : Hp} {b : Addr} {o : Obj} (e : h.get? b = some o) (n : H b = none) : (hidT h H).get? b = some o :=
  PySem.W.hideAll_get _ e fun hm => by
    have q : (H b).isSome = true := (List.mem_filter.mp hm).2
    rw [n] at q; simp at q
theorem of_hidT {h : Heap} {H : Hp} {b : Addr} {o : Obj} (e : (hidT h H).get? b = some o) : h.get? b = some o ∧ H b = none := by
  have e' : h.get? b = some o := PySem.W.of_hideAll (trk h H) e
  refine ⟨e', ?_⟩
  cases q : H b with
  | none => rfl
  | some x =>
    have hm : b ∈ trk h H := List.mem_filter.mpr ⟨List.mem_range.mpr (Heap.lt_size e'), by simp [q]⟩
    have z : (hidT h H).get? b = none := PySem.W.hideAll_none (trk h H) hm
    rw [z] at e; cases e

/-! ### OpenK's ledger, filled with every new object but one -/
def allNews (g h : Heap) (L : Addr) : List (Addr × Obj) := (List.range h.objs.size).filterMap fun a => if a = L ∨ (g.get? a).isSome = true then none else (h.get? a).map fun o => (a, o)
def rest (g h : Heap) (L d : Addr) : List (Addr × Obj) := (allNews g h L).filter fun p => decide (p.1 ≠ d)
end L2

namespace L2
open PySem PySem.Spec PyProof.Rows

/-- the module's facts, over the base: the heap at the law's entry without what is tracked there -/
structure Mod (K : PySem.W.Frag) (mg : Str → Option Value) (base : Heap) : Prop where
  kin : K.In base
  glob : base.Ns mainGlobals mg
  blt : ∃ mb, base.Ns builtinsNs mb ∧ ∀ x : Str, x ≠ "__name__" → mb x = bootBuiltins x
  nolimit : base.NoLimit

/-- the context: a def's body (or a comprehension's block) running. base: fixed through the whole law; s₀, H₀: the entry; outer: the frames whose slots others may change (a def's callers); stack: all frames that run;
   ex: iterators that were made ahead of the entry and are walked here (a comprehension's); fn: the names whose cells were made at the entry (a def: all; a comprehension's block: its own); calm: not within an except suite; pn: pins that every state bears; xe: what is wanted of an exception that leaves the code -/
structure Cx where
  prog : Program
  w : World
  K : PySem.W.Frag
  mg : Str → Option Value
  base : Heap
  A : Around
  N : List Str
  s₀ : Shared
  H₀ : Hp
  env : Env
  outer : List Env
  stack : List Env
  ex : List Addr
  fn : Str → Bool
  calm : Bool
  pn : List (Addr × Obj)
  xe : Value → Shared → Prop
/-- the callers' frames -/
def frs (l : List Env) : List Addr := l.filterMap (·.frame)
abbrev Cx.fs (X : Cx) : List Addr := frs X.outer

def Vis (sc : Scope) (x : Str) : Prop := sc.names.lookup x = some .local ∨ sc.names.lookup x = some .cell ∨ sc.names.lookup x = some .free
def Loc (sc : Scope) (x : Str) : Prop := sc.names.lookup x = some .local ∨ sc.names.lookup x = some .cell
def Look (env : Env) (h : Heap) (m : Str → Option Value) (x : Str) (u : Value) : Prop :=
  (env.kindOf x = some .local ∧ m x = some u) ∨ ((env.kindOf x = some .cell ∨ env.kindOf x = some .free) ∧ ∃ c, env.cells.lookup x = some c ∧ h.IsCell c (some u))

structure Cx.Ok (X : Cx) : Prop where
  mod : Mod X.K X.mg X.base
  kind : X.env.scope.kind = .function
  glob : X.env.globals = mainGlobals
  blt : X.env.builtins = builtinsNs
  above : X.s₀.heap.objs.size ≤ X.env.locals
  inj : ∀ x y c, X.env.cells.lookup x = some c → X.env.cells.lookup y = some c → x = y
  has : ∀ x, (X.env.kindOf x = some .cell ∨ X.env.kindOf x = some .free) → ∃ c, X.env.cells.lookup x = some c
  cab : ∀ x c, X.fn x = true → X.env.cells.lookup x = some c → X.s₀.heap.objs.size ≤ c
  hd : X.calm = true → X.A.handled = none
  frames : X.A.frames = some X.stack
  stk : X.stack = X.outer ∨ (X.stack = X.env :: X.outer ∧ X.env.frame = some X.env.locals)
  exf : ∀ b ∈ X.ex, b ≠ X.env.locals ∧ ∀ x c, X.env.cells.lookup x = some c → c ≠ b
  bs : ∀ b o, X.base.get? b = some o → X.s₀.heap.get? b = some o ∧ X.H₀ b = none
  bsz : X.base.objs.size ≤ X.s₀.heap.objs.size
  noex : ∀ b o, X.base.get? b = some o → b ∉ X.ex
  exfs : ∀ b ∈ X.ex, b ∉ X.fs
  funs : X.s₀.heap.FunFrames X.base X.outer
  frf : ∀ b ∈ X.fs, X.H₀ b = none

structure Inv (X : Cx) (pins : List (Addr × Obj)) (σ : List (Option V)) (H : Hp) (s : Shared) : Prop where
  ok : X.Ok
  os : s.os = X.s₀.os
  bare : AllBare s.gens
  base : Un X.fs X.ex X.H₀ H X.s₀.heap s.heap
  loc : ∃ m, s.heap.Ns X.env.locals m ∧ ∀ (i : Nat) (x : Str) (v : V), X.N[i]? = some x → σ[i]? = some (some v) → Vis X.env.scope x → ∃ u, RelV v u ∧ Look X.env s.heap m x u
  cell : ∀ x c, X.env.cells.lookup x = some c → ∃ v, s.heap.IsCell c v
  free : H X.env.locals = none
  freeC : ∀ x c, X.env.cells.lookup x = some c → H c = none
  pin : ∀ p ∈ X.pn ++ pins, s.heap.get? p.1 = some p.2 ∧ H p.1 = none ∧ p.1 ≠ X.env.locals ∧ p.1 ∉ X.fs ∧ ∀ v, p.2.data ≠ .cell v
  hok : HOk X.prog X.w H s.heap
  len : σ.length = X.N.length

section
variable {X : Cx} {pins : List (Addr × Obj)} {σ : List (Option V)} {H H' : Hp} {s : Shared} {h' : Heap}

theorem Cx.Ok.nofr (ok : X.Ok) {b : Addr} {o : Obj} (e : X.base.get? b = some o) : b ∉ X.fs := fun hb => by
  have := (ok.funs.mem hb).1
  rw [e] at this; cases this
theorem Inv.bs (I : Inv X pins σ H s) : ∀ b o, X.base.get? b = some o → s.heap.get? b = some o ∧ H b = none := fun b o e =>
  ⟨I.base.keep b o (I.ok.bs b o e).1 (I.ok.bs b o e).2 (I.ok.nofr e) (I.ok.noex b o e), I.base.free b o (I.ok.bs b o e).1 (I.ok.bs b o e).2 (I.ok.noex b o e)⟩
theorem Inv.bk (I : Inv X pins σ H s) : ∀ b o, X.base.get? b = some o → s.heap.get? b = some o := fun b o e => (I.bs b o e).1
theorem Inv.mod (I : Inv X pins σ H s) : Mod X.K X.mg X.base := I.ok.mod
theorem Inv.kIn (I : Inv X pins σ H s) : X.K.In s.heap := I.ok.mod.kin.keeps I.bk
theorem Inv.nolimit (I : Inv X pins σ H s) : s.heap.NoLimit := I.ok.mod.nolimit.keeps I.bk
/-- the frame over the base: for OpenK's rules (K.In X.base is I.mod.kin) -/
theorem Inv.fr (I : Inv X pins σ H s) : ∃ m, Fr X.base X.env.locals s.heap m :=
  let ⟨m, hn, _⟩ := I.loc
  ⟨m, hn, I.bk, Nat.le_trans I.ok.bsz I.ok.above⟩
theorem Inv.lt (I : Inv X pins σ H s) : X.env.locals < s.heap.objs.size := let ⟨_, hn, _⟩ := I.loc; hn.lt
theorem Inv.sz (I : Inv X pins σ H s) : X.s₀.heap.objs.size ≤ s.heap.objs.size := Nat.le_trans I.ok.above (Nat.le_of_lt I.lt)
theorem Inv.nofs (I : Inv X pins σ H s) {a : Addr} (h : s.heap.objs.size ≤ a) : a ∉ X.fs := fun hb => by
  obtain ⟨_, o, ho, _⟩ := I.ok.funs.mem hb
  exact absurd (Nat.lt_of_lt_of_le (Heap.lt_size ho) (Nat.le_trans I.sz h)) (Nat.lt_irrefl _)
theorem Inv.cne (I : Inv X pins σ H s) : ∀ x c, X.env.cells.lookup x = some c → c ≠ X.env.locals := fun x c e z => by
  obtain ⟨v, o, ho, hd⟩ := I.cell x c e
  obtain ⟨m, ⟨o', es, ep, ho', hd', _⟩, _⟩ := I.loc
  rw [z, ho'] at ho; cases ho; rw [hd'] at hd; cases hd
theorem Inv.funs (I : Inv X pins σ H s) : s.heap.FunFrames X.base X.outer := by
  have all : ∀ (l : List Env), (∀ b ∈ frs l, b ∈ X.fs) → X.s₀.heap.FunFrames X.base l → s.heap.FunFrames X.base l := by
    intro l
    induction l with
    | nil => intro _ _; trivial
    | cons env r ih =>
      intro hs hl
      obtain ⟨hk, ⟨L, o, hf, hn, ho, hd⟩, hr⟩ := hl
      have hL : L ∈ X.fs := hs L (by unfold frs; rw [List.filterMap_cons, hf]; exact List.mem_cons_self)
      obtain ⟨sl, e⟩ := I.base.slot L o ho (I.ok.frf L hL) hL fun z => I.ok.exfs L z hL
      exact ⟨hk, ⟨L, _, hf, hn, e, hd⟩, ih (fun b hb => hs b (by unfold frs; rw [List.filterMap_cons, hf]; exact List.mem_cons_of_mem _ hb)) hr⟩
  exact all X.outer (fun _ hb => hb) I.ok.funs

/-- the frames that run, for a call -/
theorem Inv.stack (I : Inv X pins σ H s) : s.heap.FunFrames X.base X.stack := by
  rcases I.ok.stk with e | ⟨e, hf⟩
  · rw [e]; exact I.funs
  · rw [e]
    obtain ⟨m, hn, _⟩ := I.loc
    refine .cons (by rw [I.ok.kind]; decide) hf hn ?_ I.funs
    exact Heap.get?_none_of_le (Nat.le_trans I.ok.bsz I.ok.above)
theorem Inv.stkSub (I : Inv X pins σ H s) : ∀ b ∈ frs X.stack, b ∈ X.env.locals :: X.fs := fun b hb => by
  rcases I.ok.stk with e | ⟨e, hf⟩
  · rw [e] at hb; exact List.mem_cons_of_mem _ hb
  · rw [e] at hb
    unfold frs at hb
    rw [List.filterMap_cons, hf] at hb
    exact hb
theorem Inv.stkFree (I : Inv X pins σ H s) : ∀ b ∈ frs X.stack, H b = none := fun b hb => by
  rcases List.mem_cons.mp (I.stkSub b hb) with e | hb
  · rw [e]; exact I.free
  · obtain ⟨_, o, ho, _⟩ := I.ok.funs.mem hb
    exact I.base.free b o ho (I.ok.frf b hb) fun z => I.ok.exfs b z hb

/-- THE STEP: the untracked objects but the frame and the records at ch are kept (the callers' frames up to slots), the frame's map is kept, the new abstract heap is held -/
theorem Inv.step {g' : Array GenState} {t' : Nat} {d' : Drawn} {ch : List Addr} (I : Inv X pins σ H s)
    (hch : ∀ b ∈ ch, (b ∈ X.ex ∨ X.s₀.heap.objs.size ≤ b) ∧ b ≠ X.env.locals ∧ (∀ x c, X.env.cells.lookup x = some c → c ≠ b) ∧ ∀ p ∈ X.pn ++ pins, p.1 ≠ b)
    (keep : ∀ b o, b ≠ X.env.locals → b ∉ X.fs → b ∉ ch → s.heap.get? b = some o → H b = none → h'.get? b = some o)
    (slot : ∀ b o, b ≠ X.env.locals → b ∈ X.fs → b ∉ ch → s.heap.get? b = some o → H b = none → ∃ sl, h'.get? b = some { o with slots := sl }) (free : ∀ b o, b ∉ ch → s.heap.get? b = some o → H b = none → H' b = none)
    (there : ∀ b o, b ∉ ch → s.heap.get? b = some o → ∃ o', h'.get? b = some o')
    (tups : ∀ b xs, H b = some (.tup xs) → H' b = some (.tup xs)) (frzs : ∀ b o u, H b = some (.frz o u) → H' b = some (.frz o u)) (tbls : ∀ b ps, H b = some (.tbl ps) → ∃ more, H' b = some (.tbl (ps ++ more)))
    (ns : ∀ m, s.heap.Ns X.env.locals m → h'.Ns X.env.locals m) (hok : HOk X.prog X.w H' h') (hg : AllBare g') :
    Inv X pins σ H' { s with heap := h', gens := g', drawn := d', toks := t' } := by
  have neL : ∀ b o, X.s₀.heap.get? b = some o → b ≠ X.env.locals := fun b o e => Nat.ne_of_lt (Nat.lt_of_lt_of_le (Heap.lt_size e) I.ok.above)
  have neC : ∀ b o, X.s₀.heap.get? b = some o → b ∉ X.ex → b ∉ ch := fun b o e hx hb => by
    rcases (hch b hb).1 with z | z
    · exact hx z
    · exact absurd (Nat.lt_of_lt_of_le (Heap.lt_size e) z) (Nat.lt_irrefl _)
  have cellK : ∀ x c, X.env.cells.lookup x = some c → ∀ v, s.heap.IsCell c v → h'.IsCell c v := fun x c e v ⟨o, ho, hd⟩ => by
    have nch : c ∉ ch := fun z => (hch c z).2.2.1 x c e rfl
    by_cases hc : c ∈ X.fs
    · obtain ⟨sl, q⟩ := slot c o (I.cne x c e) hc nch ho (I.freeC x c e)
      exact ⟨_, q, hd⟩
    · exact ⟨o, keep c o (I.cne x c e) hc nch ho (I.freeC x c e), hd⟩
  refine ⟨I.ok, I.os, hg, ⟨fun b o e n hb hx => ?_, fun b o e n hb hx => ?_, fun b o e n hx => ?_, fun b o e hx => ?_, fun b xs e => tups b xs (I.base.tups b xs e), fun b o xs e => frzs b o xs (I.base.frzs b o xs e), fun b ps e => ?_⟩, ?_, fun x c e => ?_, ?_, fun x c e => ?_, fun p hp => ?_, hok, I.len⟩
  · exact keep b o (neL b o e) hb (neC b o e hx) (I.base.keep b o e n hb hx) (I.base.free b o e n hx)
  · obtain ⟨sl, e1⟩ := I.base.slot b o e n hb hx
    obtain ⟨sl', e2⟩ := slot b _ (neL b o e) hb (neC b o e hx) e1 (I.base.free b o e n hx)
    exact ⟨sl', e2⟩
  · obtain ⟨o', e1⟩ := I.base.there b o e hx
    exact free b o' (neC b o e hx) e1 (I.base.free b o e n hx)
  · obtain ⟨o', e1⟩ := I.base.there b o e hx
    exact there b o' (neC b o e hx) e1
  · obtain ⟨m1, e1⟩ := I.base.tbls b ps e
    obtain ⟨m2, e2⟩ := tbls b _ e1
    exact ⟨m1 ++ m2, by rw [e2, Array.append_assoc]⟩
  · obtain ⟨m, hn, hl⟩ := I.loc
    refine ⟨m, ns m hn, fun i x v e1 e2 e3 => ?_⟩
    obtain ⟨u, r, l⟩ := hl i x v e1 e2 e3
    refine ⟨u, r, ?_⟩
    rcases l with l | ⟨k, c, e, z⟩
    · exact .inl l
    · exact .inr ⟨k, c, e, cellK x c e _ z⟩
  · obtain ⟨v, z⟩ := I.cell x c e
    exact ⟨v, cellK x c e v z⟩
  · obtain ⟨m, ⟨o, _, _, ho, _⟩, _⟩ := I.loc
    exact free _ o (fun z => (hch _ z).2.1 rfl) ho I.free
  · obtain ⟨v, o, ho, hd⟩ := I.cell x c e
    exact free c o (fun z => (hch c z).2.2.1 x c e rfl) ho (I.freeC x c e)
  · obtain ⟨e, n, ne, nf, d⟩ := I.pin p hp
    have nch : p.1 ∉ ch := fun z => (hch p.1 z).2.2.2 p hp rfl
    exact ⟨keep p.1 p.2 ne nf nch e n, free p.1 p.2 nch e n, ne, nf, d⟩
/-- .. where the frame's own object is kept too -/
theorem Inv.un {t' : Nat} (I : Inv X pins σ H s) (u : Un X.fs [] H H' s.heap h') (hok : HOk X.prog X.w H' h') : Inv X pins σ H' { s with heap := h', toks := t' } := by
  obtain ⟨m, ⟨o, es, ep, ho, r⟩, _⟩ := id I.loc
  obtain ⟨sl, hL⟩ := u.any ho I.free (by simp)
  exact I.step (g' := s.gens) (d' := s.drawn) (ch := []) (fun _ z => nomatch z) (fun b o _ hb _ e n => u.keep b o e n hb (by simp)) (fun b o _ hb _ e n => u.slot b o e n hb (by simp)) (fun b o _ e n => u.free b o e n (by simp)) (fun b o _ e => u.there b o e (by simp)) u.tups u.frzs u.tbls (fun m' hm => by
    obtain ⟨o', es', ep', ho', r'⟩ := hm
    rw [ho] at ho'; cases ho'
    exact ⟨_, es', ep', hL, r'⟩) hok I.bare
/-- behind a call (or a comprehension's block): the slots of this frame may have changed too, the records at ch may have turned -/
theorem Inv.call {g' : Array GenState} {t' : Nat} {d' : Drawn} {ch : List Addr} (I : Inv X pins σ H s) (u : Un (frs X.stack) ch H H' s.heap h') (hok : HOk X.prog X.w H' h') (hg : AllBare g')
    (hch : ∀ b ∈ ch, (b ∈ X.ex ∨ X.s₀.heap.objs.size ≤ b) ∧ b ≠ X.env.locals ∧ (∀ x c, X.env.cells.lookup x = some c → c ≠ b) ∧ ∀ p ∈ X.pn ++ pins, p.1 ≠ b) :
    Inv X pins σ H' { s with heap := h', gens := g', drawn := d', toks := t' } := by
  obtain ⟨m, ⟨o, es, ep, ho, r⟩, _⟩ := id I.loc
  obtain ⟨sl, hL⟩ := u.any ho I.free fun z => (hch _ z).2.1 rfl
  exact I.step (ch := ch) hch (fun b o hL hb hc e n => u.keep b o e n (fun z => (List.mem_cons.mp (I.stkSub b z)).elim hL hb) hc) (fun b o _ _ hc e n => u.any e n hc) (fun b o hc e n => u.free b o e n hc) (fun b o hc e => u.there b o e hc) u.tups u.frzs u.tbls (fun m' hm => by
    obtain ⟨o', es', ep', ho', r'⟩ := hm
    rw [ho] at ho'; cases ho'
    exact ⟨_, es', ep', hL, r'⟩) hok hg
/-- an untracked record of ours (an iterator) has turned -/
theorem Inv.turned {t' : Nat} {it : Addr} (I : Inv X pins σ H s) (k : ∀ b o, b ≠ it → s.heap.get? b = some o → h'.get? b = some o) (hn : H it = none) (hL : it ≠ X.env.locals)
    (h1 : it ∈ X.ex ∨ X.s₀.heap.objs.size ≤ it) (h2 : ∀ x c, X.env.cells.lookup x = some c → c ≠ it) (h3 : ∀ p ∈ X.pn ++ pins, p.1 ≠ it) : Inv X pins σ H { s with heap := h', toks := t' } := by
  have nit : ∀ b u, H b = some u → b ≠ it := fun b u e z => by rw [z, hn] at e; cases e
  refine I.step (g' := s.gens) (d' := s.drawn) (ch := [it]) (fun b hb => ?_) (fun b o _ _ hc e _ => k b o (fun z => hc (by simp [z])) e) (fun b o _ _ hc e _ => ⟨o.slots, k b o (fun z => hc (by simp [z])) e⟩) (fun _ _ _ _ n => n)
    (fun b o hc e => ⟨o, k b o (fun z => hc (by simp [z])) e⟩) (fun _ _ e => e) (fun _ _ _ e => e) (fun b ps e => ⟨#[], by rw [e]; simp⟩) (fun m hm => ?_) (fun b u e => ?_) I.bare
  · have e : b = it := by simpa using hb
    subst e
    exact ⟨h1, hL, h2, h3⟩
  · obtain ⟨o, es, ep, ho, r⟩ := hm
    exact ⟨o, es, ep, k _ o (Ne.symm hL) ho, r⟩
  · refine (I.hok b u e).stay (fun c v hc q => k c v ?_ q) (fun _ q => q) fun _ _ q => q
    rcases hc with z | z
    · rw [z]; exact nit b u e
    · exact nit c _ z
theorem Inv.tok (I : Inv X pins σ H s) (t : Nat) : Inv X pins σ H { s with toks := t } := I.un (h' := s.heap) (t' := t) Un.refl I.hok
/-- all objects kept -/
theorem Inv.kept {t' : Nat} (I : Inv X pins σ H s) (k : ∀ b u, s.heap.get? b = some u → h'.get? b = some u) : Inv X pins σ H { s with heap := h', toks := t' } := I.un (Un.kept k) (I.hok.kept k)
/-- a new object laid and tracked -/
theorem Inv.laid {a : Addr} {o : HO} {t' : Nat} (I : Inv X pins σ H s) (k : ∀ b u, s.heap.get? b = some u → h'.get? b = some u) (hp : s.heap.objs.size ≤ a) (new : ObjOk X.prog X.w (upd H a o) h' a o) :
    Inv X pins σ (upd H a o) { s with heap := h', toks := t' } := I.un (Un.laid k hp (I.hok.fresh hp)) (I.hok.laid k hp new)
/-- an object written -/
theorem Inv.write {x e : Addr} {o : HO} {t' : Nat} (I : Inv X pins σ H s) (mu : Mut (H x)) (he : e = x ∨ H e = some (.own x)) (k : ∀ b u, b ≠ e → s.heap.get? b = some u → h'.get? b = some u) (heo : ∃ u, h'.get? e = some u)
    (new : ObjOk X.prog X.w (upd H x o) h' x o) : Inv X pins σ (upd H x o) { s with heap := h', toks := t' } := I.un (Un.write mu he k heo) (I.hok.write mu he k heo new)
/-- forgetting slots, pins -/
theorem Inv.weak {σ' : List (Option V)} (I : Inv X pins σ H s) (hl : σ'.length = σ.length) (w : ∀ (i : Nat) v, σ'[i]? = some (some v) → σ[i]? = some (some v)) : Inv X pins σ' H s :=
  ⟨I.ok, I.os, I.bare, I.base, let ⟨m, hn, hl'⟩ := I.loc; ⟨m, hn, fun i x v e1 e2 e3 => hl' i x v e1 (w i v e2) e3⟩, I.cell, I.free, I.freeC, I.pin, I.hok, hl.trans I.len⟩
theorem Inv.pins_of {pins' : List (Addr × Obj)} (I : Inv X pins σ H s) (h : ∀ p ∈ pins', s.heap.get? p.1 = some p.2 ∧ H p.1 = none ∧ p.1 ≠ X.env.locals ∧ p.1 ∉ X.fs ∧ ∀ v, p.2.data ≠ .cell v) : Inv X pins' σ H s :=
  ⟨I.ok, I.os, I.bare, I.base, I.loc, I.cell, I.free, I.freeC, fun p hp => (List.mem_append.mp hp).elim (fun z => I.pin p (List.mem_append_left _ z)) (h p), I.hok, I.len⟩

theorem nodup_ix {N : List Str} (hN : N.Nodup) {i j : Nat} {x : Str} (a : N[i]? = some x) (b : N[j]? = some x) : i = j := by
  obtain ⟨h1, e1⟩ := List.getElem?_eq_some_iff.mp a
  obtain ⟨h2, e2⟩ := List.getElem?_eq_some_iff.mp b
  exact (List.getElem_inj hN).mp (e1.trans e2.symm)

/-- a name is stored; what changed -/
theorem store_ok2 {M : Model} {A : Around} {E : Value → Shared → Prop} {i : Nat} {x : Str} {v : V} {u : Value} {Q : Unit → Shared → Prop} (I : Inv X pins σ H s) (hN : X.N.Nodup) (hi : X.N[i]? = some x) (hx : Loc X.env.scope x) (r : RelV v u)
    (h : ∀ s', Inv X pins (σ.set i (some v)) H s' → (∃ a, Heap.SameBut a s.heap s'.heap ∧ (a = X.env.locals ∨ X.env.cells.lookup x = some a)) → Q () s') (hf : X.fn x = true ∨ X.env.scope.names.lookup x = some .local := by first | exact .inl rfl | exact .inr rfl | assumption) : wpAny M A (storeName X.env x u) Q E s := by
  obtain ⟨m, hn, hl⟩ := id I.loc
  have hcls : (X.env.scope.kind == .class || (X.env.scope.kind == .module && X.env.locals != X.env.globals)) = false := by rw [I.ok.kind]; rfl
  have hiσ : i < σ.length := by rw [I.len]; exact (List.getElem?_eq_some_iff.mp hi).1
  have cne := I.cne
  have tracked : ∀ {a : Addr} {h' : Heap}, (∃ o, s.heap.get? a = some o ∧ H a = none) → Heap.SameBut a s.heap h' → HOk X.prog X.w H h' := fun {a h'} ha hs b ob e => by
    obtain ⟨_, _, hfree⟩ := ha
    refine (I.hok b ob e).stay (fun c w' hc q => (hs.2 c ?_).trans q) (fun _ q => q) fun _ _ q => q
    rintro rfl
    rcases hc with rfl | hc
    · rw [hfree] at e; cases e
    · rw [hfree] at hc; cases hc
  rcases hx with hk | hk
  · refine wpAny_storeName_local hk hn (fun h' hn' hs => ?_) hcls
    obtain ⟨oL, _, _, hoL, _⟩ := id hn
    refine h _ ⟨I.ok, I.os, I.bare, ⟨fun b o e n hb hx => ?_, fun b o e n hb hx => ?_, I.base.free, fun b o e hx => ?_, I.base.tups, I.base.frzs, I.base.tbls⟩, ⟨_, hn', fun j y v' e1 e2 e3 => ?_⟩, fun y c e => ?_, I.free, I.freeC, fun p hp => ?_, tracked ⟨oL, hoL, I.free⟩ hs, by simpa using I.len⟩ ⟨_, hs, .inl rfl⟩
    · exact (hs.2 b (Nat.ne_of_lt (Nat.lt_of_lt_of_le (Heap.lt_size e) I.ok.above))).trans (I.base.keep b o e n hb hx)
    · obtain ⟨sl, e1⟩ := I.base.slot b o e n hb hx
      exact ⟨sl, (hs.2 b (Nat.ne_of_lt (Nat.lt_of_lt_of_le (Heap.lt_size e) I.ok.above))).trans e1⟩
    · obtain ⟨o', e1⟩ := I.base.there b o e hx
      exact ⟨o', (hs.2 b (Nat.ne_of_lt (Nat.lt_of_lt_of_le (Heap.lt_size e) I.ok.above))).trans e1⟩
    · by_cases hj : j = i
      · subst hj
        rw [hi] at e1; cases e1
        rw [List.getElem?_set_self hiσ] at e2
        cases e2
        exact ⟨u, r, .inl ⟨hk, by simp⟩⟩
      · rw [List.getElem?_set_ne (Ne.symm hj)] at e2
        obtain ⟨u', r', q⟩ := hl j y v' e1 e2 e3
        refine ⟨u', r', ?_⟩
        rcases q with ⟨k, e⟩ | ⟨k, c, e, z⟩
        · refine .inl ⟨k, ?_⟩
          have : y ≠ x := fun e => hj (nodup_ix hN e1 (e ▸ hi))
          simp [this, e]
        · exact .inr ⟨k, c, e, z.sameBut hs (cne y c e)⟩
    · obtain ⟨w', z⟩ := I.cell y c e
      exact ⟨w', z.sameBut hs (cne y c e)⟩
    · obtain ⟨e, n, ne, nf, d⟩ := I.pin p hp
      exact ⟨(hs.2 p.1 ne).trans e, n, ne, nf, d⟩
  · have hfn : X.fn x = true := by
      rcases hf with z | z
      · exact z
      · rw [z] at hk; cases hk
    obtain ⟨c, hc⟩ := I.ok.has x (.inl hk)
    obtain ⟨w', z⟩ := I.cell x c hc
    refine wpAny_storeName_cell I.ok.kind hk hc z (fun h' hc' hs => ?_)
    obtain ⟨oc, hoc, hocd⟩ := id z
    refine h { s with heap := h' } ⟨I.ok, I.os, I.bare, ⟨fun b o e n hb hx => ?_, fun b o e n hb hx => ?_, I.base.free, fun b o e hx => ?_, I.base.tups, I.base.frzs, I.base.tbls⟩, ⟨m, hn.sameBut hs (Ne.symm (cne x c hc)), fun j y v' e1 e2 e3 => ?_⟩, fun y c' e => ?_, I.free, I.freeC, fun p hp => ?_, tracked ⟨oc, hoc, I.freeC x c hc⟩ hs, by simpa using I.len⟩ ⟨c, hs, .inr hc⟩
    · exact (hs.2 b (Nat.ne_of_lt (Nat.lt_of_lt_of_le (Heap.lt_size e) (I.ok.cab x c hfn hc)))).trans (I.base.keep b o e n hb hx)
    · obtain ⟨sl, e1⟩ := I.base.slot b o e n hb hx
      exact ⟨sl, (hs.2 b (Nat.ne_of_lt (Nat.lt_of_lt_of_le (Heap.lt_size e) (I.ok.cab x c hfn hc)))).trans e1⟩
    · obtain ⟨o', e1⟩ := I.base.there b o e hx
      exact ⟨o', (hs.2 b (Nat.ne_of_lt (Nat.lt_of_lt_of_le (Heap.lt_size e) (I.ok.cab x c hfn hc)))).trans e1⟩
    · by_cases hj : j = i
      · subst hj
        rw [hi] at e1; cases e1
        rw [List.getElem?_set_self hiσ] at e2
        cases e2
        exact ⟨u, r, .inr ⟨.inl hk, c, hc, hc'⟩⟩
      · rw [List.getElem?_set_ne (Ne.symm hj)] at e2
        obtain ⟨u', r', q⟩ := hl j y v' e1 e2 e3
        refine ⟨u', r', ?_⟩
        rcases q with q | ⟨k, c', e, z'⟩
        · exact .inl q
        · refine .inr ⟨k, c', e, z'.sameBut hs ?_⟩
          rintro rfl
          exact hj (nodup_ix hN e1 (I.ok.inj _ _ _ e hc ▸ hi))
    · by_cases hcc : c' = c
      · subst hcc; exact ⟨_, hc'⟩
      · obtain ⟨w2, z2⟩ := I.cell y c' e
        exact ⟨w2, z2.sameBut hs hcc⟩
    · obtain ⟨e, n, ne, nf, d⟩ := I.pin p hp
      refine ⟨(hs.2 p.1 ?_).trans e, n, ne, nf, d⟩
      intro q
      rw [q, hoc] at e
      have q' : oc = p.2 := Option.some.inj e
      exact d w' (by rw [← q']; exact hocd)
theorem store_ok {M : Model} {A : Around} {E : Value → Shared → Prop} {i : Nat} {x : Str} {v : V} {u : Value} {Q : Unit → Shared → Prop} (I : Inv X pins σ H s) (hN : X.N.Nodup) (hi : X.N[i]? = some x) (hx : Loc X.env.scope x) (r : RelV v u)
    (h : ∀ s', Inv X pins (σ.set i (some v)) H s' → Q () s') (hf : X.fn x = true ∨ X.env.scope.names.lookup x = some .local := by first | exact .inl rfl | exact .inr rfl | assumption) : wpAny M A (storeName X.env x u) Q E s :=
  store_ok2 I hN hi hx r (fun s' I' _ => h s' I') hf
/-- behind a call or a block, the state as it is -/
theorem Inv.call' {s' : Shared} {ch : List Addr} (I : Inv X pins σ H s) (ho : s'.os = s.os) (u : Un (frs X.stack) ch H H' s.heap s'.heap) (hok : HOk X.prog X.w H' s'.heap) (hg : AllBare s'.gens)
    (hch : ∀ b ∈ ch, (b ∈ X.ex ∨ X.s₀.heap.objs.size ≤ b) ∧ b ≠ X.env.locals ∧ (∀ x c, X.env.cells.lookup x = some c → c ≠ b) ∧ ∀ p ∈ X.pn ++ pins, p.1 ≠ b) : Inv X pins σ H' s' := by
  obtain ⟨h', g', d', t', o'⟩ := s'
  have e : o' = s.os := ho
  subst e
  exact I.call (g' := g') (t' := t') (d' := d') u hok hg hch
end

/-! ### the judgements -/
/-- an exception: its class, its own dict's address (where it has one), the abstract heap behind it -/
abbrev XK := Value → Option Addr → Hp → Prop
abbrev St := List (Option V)
abbrev VK := V → Hp → Prop
/-- an expression's reading; a test's; an argument list's -/
abbrev TE := St → Hp → VK → Prop
abbrev TT := St → Hp → (Bool → Hp → Prop) → Prop
abbrev TA := St → Hp → (List V → Hp → Prop) → Prop
/-- what is wanted behind a statement -/
structure Ends where
  nx : St → Hp → Prop
  rt : VK
  bk : St → Hp → Prop := fun _ _ => False
  ct : St → Hp → Prop := fun _ _ => False
abbrev TS := Ends → St → Hp → Prop

def EP (X : Cx) (pins : List (Addr × Obj)) (σ : St) (Q : VK) (u : Value) (s' : Shared) : Prop := ∃ v H', Inv X pins σ H' s' ∧ RelV v u ∧ Q v H'
def TP (X : Cx) (pins : List (Addr × Obj)) (σ : St) (Q : Bool → Hp → Prop) (b : Bool) (s' : Shared) : Prop := ∃ H', Inv X pins σ H' s' ∧ Q b H'
def AP (X : Cx) (pins : List (Addr × Obj)) (σ : St) (Q : List V → Hp → Prop) (us : List Value) (s' : Shared) : Prop := ∃ vs H', Inv X pins σ H' s' ∧ Vals vs us ∧ Q vs H'
def SP (X : Cx) (pins : List (Addr × Obj)) (D : Ends) (f : Flow) (s' : Shared) : Prop :=
  match f with
  | .next => ∃ σ' H', Inv X pins σ' H' s' ∧ D.nx σ' H'
  | .brk => ∃ σ' H', Inv X pins σ' H' s' ∧ D.bk σ' H'
  | .cont => ∃ σ' H', Inv X pins σ' H' s' ∧ D.ct σ' H'
  | .ret u => ∃ v σ' H', Inv X pins σ' H' s' ∧ RelV v u ∧ D.rt v H'

def PE (X : Cx) (e : Expr) (t : TE) : Prop :=
  ∀ (pins : List (Addr × Obj)) (s : Shared) (σ : St) (H : Hp) (Q : VK), Inv X pins σ H s → t σ H Q → wpAny (model X.prog X.w) X.A (eval e X.env) (EP X pins σ Q) X.xe s
def PT (X : Cx) (e : Expr) (t : TT) : Prop :=
  ∀ (pins : List (Addr × Obj)) (s : Shared) (σ : St) (H : Hp) (Q : Bool → Hp → Prop), Inv X pins σ H s → t σ H Q → wpAny (model X.prog X.w) X.A (isTrue e X.env (eval e X.env)) (TP X pins σ Q) X.xe s
/-- a test whatever its 'whole' is (and, or) -/
def PW (X : Cx) (e : Expr) (t : TT) : Prop :=
  ∀ (whole : Sem Value) (pins : List (Addr × Obj)) (s : Shared) (σ : St) (H : Hp) (Q : Bool → Hp → Prop), Inv X pins σ H s → t σ H Q → wpAny (model X.prog X.w) X.A (isTrue e X.env whole) (TP X pins σ Q) X.xe s
theorem PW.pt {X : Cx} {e : Expr} {t : TT} (h : PW X e t) : PT X e t := h _
/-- an argument list (no star), from the left -/
def PA (X : Cx) (es : List Expr) (t : TA) : Prop :=
  ∀ (pos : Pos) (pins : List (Addr × Obj)) (s : Shared) (σ : St) (H : Hp) (Q : List V → Hp → Prop), Inv X pins σ H s → t σ H Q → wpAny (model X.prog X.w) X.A (spliced (backTo pos (starEach es X.env))) (AP X pins σ Q) X.xe s
def PS (X : Cx) (st : Stmt) (t : TS) : Prop :=
  ∀ (pins : List (Addr × Obj)) (s : Shared) (σ : St) (H : Hp) (D : Ends), Inv X pins σ H s → t D σ H → wpAny (model X.prog X.w) X.A (exec st X.env) (SP X pins D) X.xe s
def PSs (X : Cx) (st : List Stmt) (t : TS) : Prop :=
  ∀ (pins : List (Addr × Obj)) (s : Shared) (σ : St) (H : Hp) (D : Ends), Inv X pins σ H s → t D σ H → wpAny (model X.prog X.w) X.A (execs st X.env) (SP X pins D) X.xe s
/-- weaken the end -/
theorem thn {α : Type} {t : Sem α} {Q Q' : α → Shared → Prop} {M : Model} {A : Around} {E : Value → Shared → Prop} {s : Shared} (h : wpAny M A t Q E s) (hQ : ∀ a s, Q a s → Q' a s) : wpAny M A t Q' E s := wpAny_mono h hQ fun _ _ x => x
end L2

namespace L2
open PySem PySem.Spec PyProof.Rows
section
variable {X : Cx}

/-! ### names and constants -/
def tVar (i : Nat) : TE := fun σ H Q => ∃ v, σ[i]? = some (some v) ∧ Q v H
def tC (v : V) : TE := fun _ H Q => Q v H
theorem pe_var {i : Nat} {x : Str} {pos : Pos} (hN : X.N[i]? = some x) (hv : Vis X.env.scope x) (hd : (x == ("__debug__" : Str)) = false := by decide) (hcd : (x == ("__classdict__" : Str)) = false := by decide) : PE X (.Name x pos) (tVar i) := by
  intro pins s σ H Q I h
  obtain ⟨v, e, h⟩ := h
  obtain ⟨m, hn, hl⟩ := I.loc
  obtain ⟨u, r, l⟩ := hl i x v hN e hv
  have fin : EP X pins σ Q u s := ⟨v, H, I, r, h⟩
  rcases l with ⟨hk, hm⟩ | ⟨hk, c, hc, hcell⟩
  · exact wpAny_Name (wpAny_loadName_local I.ok.kind hk hn hm fin) hd
  · rcases hk with hk | hk
    · exact wpAny_Name (wpAny_loadName_cell I.ok.kind hk hc hcell fin) hd
    · exact wpAny_Name (wpAny_loadName_free I.ok.kind hk hc hcell fin hcd) hd
theorem pe_int {i j pos} : PE X (.Constant (.int i) j pos) (tC (.int i)) := fun _ _ _ H _ I h => wpAny_Constant_int ⟨.int i, H, I.tok _, ⟨_, rfl⟩, h⟩
theorem pe_bl {b j pos} : PE X (.Constant (.bool b) j pos) (tC (.bl b)) := fun _ _ _ H _ I h => Constant_bool ⟨.bl b, H, I, rfl, h⟩
theorem pe_non {j pos} : PE X (.Constant .none j pos) (tC .non) := fun _ _ _ H _ I h => Constant_none ⟨.non, H, I, rfl, h⟩
theorem pe_str {x j pos} : PE X (.Constant (.str x) j pos) (tC (.str x)) := fun _ _ _ H _ I h => Calls.Constant_str ⟨.str x, H, I.tok _, ⟨_, rfl⟩, h⟩

/-- a global name of the def -/
def Gl (X : Cx) (x : Str) : Prop := X.env.kindOf x = some .globalImplicit
theorem ld_glob {E : Value → Shared → Prop} {pins : List (Addr × Obj)} {s : Shared} {σ : St} {H : Hp} {x : Str} {u : Value} {pos : Pos} {Q : Value → Shared → Prop} (I : Inv X pins σ H s) (hg : Gl X x) (hm : X.mg x = some u) (h : Q u s)
    (hd : (x == ("__debug__" : Str)) = false := by decide) : wpAny (model X.prog X.w) X.A (eval (.Name x pos) X.env) Q E s :=
  Calls.Name_function_global I.ok.kind hg (Calls.loadGlobal_global (by rw [I.ok.glob]; exact I.mod.glob.keeps I.bk) hm h) hd
theorem ld_blt {E : Value → Shared → Prop} {pins : List (Addr × Obj)} {s : Shared} {σ : St} {H : Hp} {x : Str} {u : Value} {pos : Pos} {Q : Value → Shared → Prop} (I : Inv X pins σ H s) (hg : Gl X x) (hm : X.mg x = none) (hv : bootBuiltins x = some u) (h : Q u s)
    (hn : x ≠ "__name__" := by decide) (hd : (x == ("__debug__" : Str)) = false := by decide) : wpAny (model X.prog X.w) X.A (eval (.Name x pos) X.env) Q E s := by
  obtain ⟨mb, h1, h2⟩ := I.mod.blt
  exact Calls.Name_function_global I.ok.kind hg (Calls.loadGlobal_builtin (by rw [I.ok.glob]; exact I.mod.glob.keeps I.bk) hm (by rw [I.ok.blt]; exact h1.keeps I.bk) ((h2 x hn).trans hv) h) hd
/-- a module's constant, a class, a function, as a value -/
theorem pe_glob {x : Str} {v : V} {u : Value} {pos : Pos} (hg : Gl X x) (hm : X.mg x = some u) (r : RelV v u) (hd : (x == ("__debug__" : Str)) = false := by decide) : PE X (.Name x pos) (tC v) :=
  fun _ _ _ H _ I h => ld_glob I hg hm ⟨v, H, I, r, h⟩ hd
theorem pe_bltn {x : Str} {v : V} {u : Value} {pos : Pos} (hg : Gl X x) (hm : X.mg x = none) (hv : bootBuiltins x = some u) (r : RelV v u) (hn : x ≠ "__name__" := by decide) (hd : (x == ("__debug__" : Str)) = false := by decide) : PE X (.Name x pos) (tC v) :=
  fun _ _ _ H _ I h => ld_blt I hg hm hv ⟨v, H, I, r, h⟩ hn hd

/-! ### arithmetic -/
variable {a b : Expr} {ta tb : TE} {pos : Pos}
/-! ### comparisons -/
/-! ### and, or, not -/
variable {tA tB' : TT} {rest : List Expr}
def tAnd (t u : TT) : TT := fun σ H Q => t σ H fun c H1 => if c = true then u σ H1 Q else Q false H1
def tOr (t u : TT) : TT := fun σ H Q => t σ H fun c H1 => if c = true then Q true H1 else u σ H1 Q
def tNot (t : TT) : TT := fun σ H Q => t σ H fun c H1 => Q (!c) H1
theorem pw_and1 (ha : PT X a tA) : PW X (.BoolOp .And [a] pos) tA := by
  intro wh pins s σ H Q I h
  refine isTrue_and (thn (ha pins s σ H Q I h) fun c s1 e => ?_)
  cases c with
  | true => exact isTrue_and_nil e
  | false => exact e
theorem pw_or1 (ha : PT X a tA) : PW X (.BoolOp .Or [a] pos) tA := by
  intro wh pins s σ H Q I h
  refine isTrue_or (thn (ha pins s σ H Q I h) fun c s1 e => ?_)
  cases c with
  | false => exact isTrue_or_nil e
  | true => exact e
theorem pw_and (ha : PT X a tA) (hb : PW X (.BoolOp .And (b :: rest) pos) tB') : PW X (.BoolOp .And (a :: b :: rest) pos) (tAnd tA tB') := by
  intro wh pins s σ H Q I h
  refine isTrue_and (thn (ha pins s σ H _ I h) fun c s1 ⟨H1, I1, q1⟩ => ?_)
  cases c with
  | true => exact hb wh pins s1 σ H1 Q I1 q1
  | false => exact ⟨H1, I1, q1⟩
theorem pw_or (ha : PT X a tA) (hb : PW X (.BoolOp .Or (b :: rest) pos) tB') : PW X (.BoolOp .Or (a :: b :: rest) pos) (tOr tA tB') := by
  intro wh pins s σ H Q I h
  refine isTrue_or (thn (ha pins s σ H _ I h) fun c s1 ⟨H1, I1, q1⟩ => ?_)
  cases c with
  | true => exact ⟨H1, I1, q1⟩
  | false => exact hb wh pins s1 σ H1 Q I1 q1
theorem pt_not (ha : PT X a tA) : PT X (.UnaryOp .Not a pos) (tNot tA) := by
  intro pins s σ H Q I h
  exact isTrue_not (ha pins s σ H (fun c H1 => Q (!c) H1) I h)
theorem pe_one {op} {t : TE} (h : PE X a t) : PE X (.BoolOp op [a] pos) t := fun pins s σ H Q I hw => BoolOp_one (h pins s σ H Q I hw)
/-- a if t else b -/
def tIf (t : TT) (ta tb : TE) : TE := fun σ H Q => t σ H fun c H1 => if c = true then ta σ H1 Q else tb σ H1 Q
theorem pe_ifExp {c : Expr} (hc : PT X c tA) (ha : PE X a ta) (hb : PE X b tb) : PE X (.IfExp c a b pos) (tIf tA ta tb) := by
  intro pins s σ H Q I h
  refine wpAny_IfExp (thn (hc pins s σ H _ I h) fun d s1 ⟨H1, I1, q1⟩ => ?_)
  cases d with
  | true => exact ha pins s1 σ H1 Q I1 q1
  | false => exact hb pins s1 σ H1 Q I1 q1
end
end L2

namespace L2
open PySem PySem.Spec PyProof.Rows

/-! ### a list, a tuple that is read: tracked, frozen, or an object of the module -/
def SqL (K : PySem.W.Frag) (H : Hp) (a : Addr) (xs : List V) : Prop :=
  Rd H a (.lst xs) ∨
    ∃ (o : Obj) (its : Array Value) (n : Nat), K.lookup a = some o ∧ o.cls = .type "list" ∧ o.dict = none ∧ o.data = .seq its n ∧ its.size ≤ sizeLine ∧ Vals xs its.toList
def SqT (K : PySem.W.Frag) (H : Hp) (a : Addr) (xs : List V) : Prop :=
  Rd H a (.tup xs) ∨
    ∃ (o : Obj) (its : Array Value) (n : Nat), K.lookup a = some o ∧ o.cls = .type "tuple" ∧ o.data = .seq its n ∧ its.size ≤ sizeLine ∧ Vals xs its.toList
def absV : Value → Option V
  | .none => some .non
  | .bool b => some (.bl b)
  | .int i _ => some (.int i)
  | .str x _ => some (.str x)
  | .bytes b _ => some (.byt b)
  | .float b _ => some (.flt b)
  | .ref a => some (.ref a)
  | .type n => some (.ty n)
  | _ => none
theorem RelV.abs {x : V} {u : Value} (r : RelV x u) : absV u = some x := by
  cases x with
  | non => cases r; rfl
  | bl _ => cases r; rfl
  | int _ => obtain ⟨t, rfl⟩ := r; rfl
  | str _ => obtain ⟨t, rfl⟩ := r; rfl
  | byt _ => obtain ⟨t, rfl⟩ := r; rfl
  | flt _ => obtain ⟨t, rfl⟩ := r; rfl
  | ref _ => cases r; rfl
  | ty _ => cases r; rfl
theorem RelV.inj {x y : V} {u : Value} (r : RelV x u) (q : RelV y u) : x = y := Option.some.inj (r.abs.symm.trans q.abs)
theorem Vals.inj : ∀ {xs ys : List V} {us : List Value}, Vals xs us → Vals ys us → xs = ys
  | _, _, _, .nil, .nil => rfl
  | _, _, _, .cons r t, .cons r' t' => by rw [r.inj r', Vals.inj t t']
section
variable {X : Cx} {pins : List (Addr × Obj)} {σ : St} {H : Hp} {s : Shared} {a : Addr} {xs ys : List V}
theorem SqL.of {K : PySem.W.Frag} (h : H a = some (.lst xs)) : SqL K H a xs := .inl (.inl h)
theorem SqT.of {K : PySem.W.Frag} (h : H a = some (.tup xs)) : SqT K H a xs := .inl (.inl h)
theorem Inv.list (I : Inv X pins σ H s) (h : SqL X.K H a xs) : ∃ its : List Value, Vals xs its ∧ PlainL s.heap a its.toArray ∧ xs.length ≤ sizeLine := by
  rcases h with h | ⟨o, its, n, hk, hc, hd, hs, hz, r⟩
  · obtain ⟨z, its, n, r, e⟩ := h.ok I.hok
    exact ⟨its, r, ⟨_, n, e, rfl, rfl, rfl⟩, z⟩
  · refine ⟨its.toList, r, ⟨o, n, I.kIn a o hk, hc, hd, by simpa using hs⟩, ?_⟩
    have e := r.length
    simp only [Array.length_toList] at e
    omega
theorem Inv.tuple (I : Inv X pins σ H s) (h : SqT X.K H a xs) : ∃ its : List Value, Vals xs its ∧ IsTup s.heap a its.toArray ∧ xs.length ≤ sizeLine := by
  rcases h with h | ⟨o, its, n, hk, hc, hs, hz, r⟩
  · obtain ⟨z, its, r, p⟩ := h.ok I.hok
    exact ⟨its, r, p, z⟩
  · refine ⟨its.toList, r, ⟨o, I.kIn a o hk, hc, n, by simpa using hs⟩, ?_⟩
    have e := r.length
    simp only [Array.length_toList] at e
    omega
theorem Inv.list_inj (I : Inv X pins σ H s) (h : SqL X.K H a xs) (h' : SqL X.K H a ys) : xs = ys := by
  obtain ⟨its, r, ⟨o, n, e, _, _, d⟩, _⟩ := I.list h
  obtain ⟨its', r', ⟨o', n', e', _, _, d'⟩, _⟩ := I.list h'
  rw [e] at e'; cases e'
  rw [d] at d'
  injection d' with d1 _
  have : its = its' := by simpa using congrArg Array.toList d1
  subst this
  exact r.inj r'
theorem Inv.tuple_inj (I : Inv X pins σ H s) (h : SqT X.K H a xs) (h' : SqT X.K H a ys) : xs = ys := by
  obtain ⟨its, r, ⟨o, e, _, n, d⟩, _⟩ := I.tuple h
  obtain ⟨its', r', ⟨o', e', _, n', d'⟩, _⟩ := I.tuple h'
  rw [e] at e'; cases e'
  rw [d] at d'
  injection d' with d1 _
  have : its = its' := by simpa using congrArg Array.toList d1
  subst this
  exact r.inj r'
end

/-! ### another wish about exceptions -/
abbrev Cx.wish (X : Cx) (E : Value → Shared → Prop) : Cx := { X with xe := E }
/-- no exception leaves -/
abbrev Cx.nox (X : Cx) : Cx := X.wish fun _ _ => False
theorem Cx.Ok.wish {X : Cx} (ok : X.Ok) (E : Value → Shared → Prop) : (X.wish E).Ok :=
  ⟨ok.mod, ok.kind, ok.glob, ok.blt, ok.above, ok.inj, ok.has, ok.cab, ok.hd, ok.frames, ok.stk, ok.exf, ok.bs, ok.bsz, ok.noex, ok.exfs, ok.funs, ok.frf⟩
theorem Cx.Ok.unwish {X : Cx} {E : Value → Shared → Prop} (ok : (X.wish E).Ok) : X.Ok :=
  ⟨ok.mod, ok.kind, ok.glob, ok.blt, ok.above, ok.inj, ok.has, ok.cab, ok.hd, ok.frames, ok.stk, ok.exf, ok.bs, ok.bsz, ok.noex, ok.exfs, ok.funs, ok.frf⟩
section
variable {X : Cx} {pins : List (Addr × Obj)} {σ : St} {H : Hp} {s : Shared} {E : Value → Shared → Prop}
theorem Inv.wish (I : Inv X pins σ H s) (E : Value → Shared → Prop) : Inv (X.wish E) pins σ H s := ⟨I.ok.wish E, I.os, I.bare, I.base, I.loc, I.cell, I.free, I.freeC, I.pin, I.hok, I.len⟩
theorem Inv.unwish (I : Inv (X.wish E) pins σ H s) : Inv X pins σ H s := ⟨I.ok.unwish, I.os, I.bare, I.base, I.loc, I.cell, I.free, I.freeC, I.pin, I.hok, I.len⟩
theorem SP.unwish {D : Ends} {f : Flow} {s' : Shared} (h : SP (X.wish E) pins D f s') : SP X pins D f s' := by
  cases f with
  | next => obtain ⟨σ', H', I, q⟩ := h; exact ⟨σ', H', I.unwish, q⟩
  | brk => obtain ⟨σ', H', I, q⟩ := h; exact ⟨σ', H', I.unwish, q⟩
  | cont => obtain ⟨σ', H', I, q⟩ := h; exact ⟨σ', H', I.unwish, q⟩
  | ret u => obtain ⟨v, σ', H', I, r, q⟩ := h; exact ⟨v, σ', H', I.unwish, r, q⟩
theorem PE.nox {e : Expr} {t : TE} (h : PE X.nox e t) : PE X e t := fun pins s σ H Q I hw =>
  wpAny_mono (h pins s σ H Q (I.wish _) hw) (fun _ _ ⟨v, H', I', r, q⟩ => ⟨v, H', I'.unwish, r, q⟩) fun _ _ z => False.elim z
theorem PT.nox {e : Expr} {t : TT} (h : PT X.nox e t) : PT X e t := fun pins s σ H Q I hw =>
  wpAny_mono (h pins s σ H Q (I.wish _) hw) (fun _ _ ⟨H', I', q⟩ => ⟨H', I'.unwish, q⟩) fun _ _ z => False.elim z
theorem PSs.nox {st : List Stmt} {t : TS} (h : PSs X.nox st t) : PSs X st t := fun pins s σ H D I hw =>
  wpAny_mono (h pins s σ H D (I.wish _) hw) (fun _ _ q => q.unwish) fun _ _ z => False.elim z
end

/-! ### blocks and small statements -/
section
variable {X : Cx} {st : Stmt} {rest : List Stmt} {t u : TS} {e : Expr} {te : TE} {pos : Pos}
def tNext : TS := fun D σ H => D.nx σ H
def tSeq (t u : TS) : TS := fun D σ H => t { D with nx := u D } σ H
theorem pss_nil : PSs X [] tNext := fun _ _ σ H _ I h => wpAny_execs_nil ⟨σ, H, I, h⟩
theorem pss_cons (h1 : PS X st t) (h2 : PSs X rest u) : PSs X (st :: rest) (tSeq t u) := by
  intro pins s σ H D I h
  refine wpAny_execs_cons (thn (h1 pins s σ H { D with nx := u D } I h) fun f s1 q => ?_)
  cases f with
  | next =>
    obtain ⟨σ', H', I', q⟩ := q
    exact h2 pins s1 σ' H' D I' q
  | ret v => exact q
  | brk => exact q
  | cont => exact q
theorem pss_one (h1 : PS X st t) : PSs X [st] t := by
  intro pins s σ H D I h
  refine wpAny_execs_cons (thn (h1 pins s σ H D I h) fun f s1 q => ?_)
  cases f with
  | next => exact wpAny_execs_nil q
  | ret v => exact q
  | brk => exact q
  | cont => exact q
/-- in a def's body nothing is shown -/
theorem Inv.quiet {pins : List (Addr × Obj)} {σ : St} {H : Hp} {s : Shared} (I : Inv X pins σ H s) : interactive X.env = false := by simp [interactive, I.ok.kind]
/-- an expression whose value is dropped -/
def tDrop (te : TE) : TS := fun D σ H => te σ H fun _ H1 => D.nx σ H1
theorem ps_expr (he : PE X e te) (hs : swapsWith e none pos.line X.env = pure false := by rfl) : PS X (.Expr e pos) (tDrop te) := by
  intro pins s σ H D I h
  exact wpAny_Expr_any (thn (he pins s σ H _ I h) fun v s1 ⟨x, H1, I1, r1, q1⟩ => ⟨σ, H1, I1, q1⟩) I.quiet hs
def tRet (te : TE) : TS := fun D σ H => te σ H D.rt
theorem ps_ret (he : PE X e te) : PS X (.Return (some e) pos) (tRet te) := by
  intro pins s σ H D I h
  exact wpAny_Return_some (thn (he pins s σ H _ I h) fun v s1 ⟨x, H1, I1, r1, q1⟩ => ⟨x, σ, H1, I1, r1, q1⟩)
def tIfS (c : TT) (t u : TS) : TS := fun D σ H => c σ H fun b H1 => if b = true then t D σ H1 else u D σ H1
theorem ps_if {c : Expr} {a b : List Stmt} {tc : TT} (hc : PT X c tc) (ha : PSs X a t) (hb : PSs X b u) : PS X (.If c a b pos) (tIfS tc t u) := by
  intro pins s σ H D I h
  refine wpAny_If (thn (hc pins s σ H _ I h) fun d s1 ⟨H1, I1, q1⟩ => ?_)
  cases d with
  | true => exact ha pins s1 σ H1 D I1 q1
  | false => exact hb pins s1 σ H1 D I1 q1
/-- code that the proof never comes to -/
def tNever : TS := fun _ _ _ => False
theorem ps_never : PS X st tNever := fun _ _ _ _ _ _ h => h.elim
end

/-! ### targets -/
abbrev TG := V → St → Hp → (St → Hp → Prop) → Prop
abbrev TGs := List V → St → Hp → (St → Hp → Prop) → Prop
def PG (X : Cx) (target : Expr) (t : TG) : Prop :=
  ∀ (pins : List (Addr × Obj)) (s : Shared) (σ : St) (H : Hp) (v : V) (u : Value) (Q : St → Hp → Prop), Inv X pins σ H s → RelV v u → t v σ H Q →
    wpAny (model X.prog X.w) X.A (assign target X.env u) (fun _ s' => ∃ σ' H', Inv X pins σ' H' s' ∧ Q σ' H') X.xe s
/-- several targets, one after another -/
def PGs (X : Cx) (ts : List Expr) (t : TGs) : Prop :=
  ∀ (pins : List (Addr × Obj)) (s : Shared) (σ : St) (H : Hp) (vs : List V) (us : List Value) (Q : St → Hp → Prop), Inv X pins σ H s → Vals vs us → t vs σ H Q →
    wpAny (model X.prog X.w) X.A (assignInOrder ((assignEach ts X.env).map (·.2)) us) (fun _ s' => ∃ σ' H', Inv X pins σ' H' s' ∧ Q σ' H') X.xe s
/-- o[i] = v, by values -/
abbrev TSet := V → V → V → Hp → (Hp → Prop) → Prop
def PSet (X : Cx) (t : TSet) : Prop :=
  ∀ (pins : List (Addr × Obj)) (s : Shared) (σ : St) (H : Hp) (o i v : V) (ov iv u : Value) (Q : Hp → Prop), Inv X pins σ H s → RelV o ov → RelV i iv → RelV v u → t o i v H Q →
    wpAny (model X.prog X.w) X.A (setItem ov iv u) (fun _ s' => ∃ H', Inv X pins σ H' s' ∧ Q H') X.xe s
section
variable {X : Cx} {pos : Pos}
def gName (i : Nat) : TG := fun v σ H Q => Q (σ.set i (some v)) H
theorem pg_name {i : Nat} {x : Str} (hN : X.N.Nodup) (hi : X.N[i]? = some x) (hx : Loc X.env.scope x) (hf : X.fn x = true ∨ X.env.scope.names.lookup x = some .local := by first | exact .inl rfl | exact .inr rfl | assumption) : PG X (.Name x pos) (gName i) := by
  intro pins s σ H v u Q I r h
  exact wpAny_assign_Name (store_ok I hN hi hx r (fun s' I' => ⟨_, H, I', h⟩) hf)
def gNil : TGs := fun vs σ H Q => vs = [] ∧ Q σ H
def gCons (t : TG) (u : TGs) : TGs := fun vs σ H Q => ∃ v r, vs = v :: r ∧ t v σ H fun σ' H' => u r σ' H' Q
theorem pgs_nil : PGs X [] gNil := by
  intro pins s σ H vs us Q I r h
  obtain ⟨e, h⟩ := h
  subst e
  cases r
  exact assignInOrder_nil ⟨σ, H, I, h⟩
theorem pgs_cons {e : Expr} {es : List Expr} {t : TG} {u : TGs} (h1 : PG X e t) (h2 : PGs X es u)
    (hs : (assignEach (e :: es) X.env).map (·.2) = assign e X.env :: (assignEach es X.env).map (·.2) := by rfl) : PGs X (e :: es) (gCons t u) := by
  intro pins s σ H vs us Q I r h
  obtain ⟨v, vr, e1, h⟩ := h
  subst e1
  cases r with
  | cons r rr =>
    rw [hs]
    refine assignInOrder_cons (thn (h1 pins s σ H _ _ _ I r h) fun _ s1 ⟨σ1, H1, I1, q1⟩ => ?_)
    exact h2 pins s1 σ1 H1 _ _ Q I1 rr q1
/-- (a, b, ..) = a tuple of that length -/
def gTup (K : PySem.W.Frag) (n : Nat) (t : TGs) : TG := fun v σ H Q => ∃ a xs, v = .ref a ∧ SqT K H a xs ∧ xs.length = n ∧ t xs σ H Q
theorem pg_tup {es : List Expr} {k : Nat} {t : TGs} {n : Nat} (hc : X.calm = true) (h : PGs X es t)
    (hn : (assignEach es X.env).length = n := by rfl) (hst : (assignEach es X.env).findIdx? (·.1) = none := by rfl) : PG X (.Tuple es k pos) (gTup X.K n t) := by
  intro pins s σ H v u Q I r hw
  obtain ⟨a, xs, e1, hq, hl, hw⟩ := hw
  subst e1
  cases r
  obtain ⟨its, rv, ht, hz⟩ := I.tuple hq
  refine assign_Tuple_tuple (I.ok.hd hc) ht (by simp [hn, ← hl, rv.length]) hst fun h' hx => ?_
  have I1 : Inv X pins σ H { s with heap := h' } := I.kept (t' := s.toks) fun b o e => hx b o (Nat.ne_of_lt (Heap.lt_size e)) e
  exact h pins _ σ H xs _ Q I1 (by simpa using rv) hw
/-- o[i] = .. -/
def gSub (to ti : TE) (t : TSet) : TG := fun v σ H Q => to σ H fun o H1 => ti σ H1 fun i H2 => t o i v H2 fun H3 => Q σ H3
theorem pg_sub {o i : Expr} {to ti : TE} {t : TSet} (ho : PE X o to) (hi : PE X i ti) (hs : PSet X t)
    (ha : ∀ v, assign (.Subscript o i pos) X.env v = (do
      let ov ← holding [v] (eval o X.env)
      let iv ← holding [v, ov] (eval i X.env)
      standAt pos
      holding [v, ov, iv] (setItem ov iv v)
      release [v, ov, iv] []) := by intro _; rfl) : PG X (.Subscript o i pos) (gSub to ti t) := by
  intro pins s σ H v u Q I r h
  rw [ha]
  refine wpAny_bind (wpAny_holding (thn (ho pins s σ H _ I h) fun ov s1 ⟨x, H1, I1, r1, q1⟩ => ?_))
  refine wpAny_bind (wpAny_holding (thn (hi pins s1 σ H1 _ I1 q1) fun iv s2 ⟨y, H2, I2, r2, q2⟩ => ?_))
  refine wpAny_bind (wpAny_standAt (wpAny_bind (wpAny_holding (thn (hs pins s2 σ H2 x y v ov iv u _ I2 r1 r2 r q2) fun _ s3 ⟨H3, I3, q3⟩ => ?_))))
  exact wpAny_release ⟨σ, H3, I3, q3⟩
/-- target = value -/
def tAsg (te : TE) (g : TG) : TS := fun D σ H => te σ H fun x H1 => g x σ H1 D.nx
theorem ps_asg {tg e : Expr} {te : TE} {g : TG} (he : PE X e te) (hg : PG X tg g) (hs : swapsWithSole [tg] e pos.line X.env = pure false := by rfl) (hw : swappedStores [tg] e X.env = pure none := by rfl)
    (h1 : (assignEach [tg] X.env).map (·.2) = [assign tg X.env] := by rfl) : PS X (.Assign [tg] e pos) (tAsg te g) := by
  intro pins s σ H D I h
  refine wpAny_Assign_stores (thn (he pins s σ H _ I h) fun v s1 ⟨x, H1, I1, r1, q1⟩ => ?_) hs hw
  rw [h1]
  exact thn (hg pins s1 σ H1 x v _ I1 r1 q1) fun _ s2 q => q
/-- name = value -/
theorem ps_set {i : Nat} {x : Str} {e : Expr} {te : TE} {pos' : Pos} (hN : X.N.Nodup) (hi : X.N[i]? = some x) (hx : Loc X.env.scope x) (he : PE X e te) (hs : swapsWith e (some (.Name x pos')) pos.line X.env = pure false := by rfl) (hf : X.fn x = true ∨ X.env.scope.names.lookup x = some .local := by first | exact .inl rfl | exact .inr rfl | assumption) :
    PS X (.Assign [.Name x pos'] e pos) (tAsg te (gName i)) := by
  intro pins s σ H D I h
  refine wpAny_Assign_Name (thn (he pins s σ H _ I h) fun v s1 ⟨y, H1, I1, r1, q1⟩ => ?_) hs
  exact store_ok I1 hN hi hx r1 (fun s2 I2 => ⟨_, H1, I2, q1⟩) hf
/-- a, b = x, y with plain local names: stored from the right; the pair itself is not tracked (the opening rows as in PyProof/Rows/TupAssign.lean:23) -/
def tPar (i j : Nat) (ta : TA) : TS := fun D σ H => ta σ H fun vs H1 => ∃ v w, vs = [v, w] ∧ D.nx ((σ.set i (some v)).set j (some w)) H1
theorem ps_par {i j : Nat} {x y : Str} {a b : Expr} {ta : TA} {px py pt : Pos} {kt k2 pt2} (hc : X.calm = true) (hN : X.N.Nodup) (hi : X.N[i]? = some x) (hj : X.N[j]? = some y) (hij : i ≠ j)
    (hx : X.env.scope.names.lookup x = some .local) (hy : X.env.scope.names.lookup y = some .local) (ha : PA X [a, b] ta)
    (hw : swappedStores [.Tuple [.Name x px, .Name y py] kt pt] (.Tuple [a, b] k2 pt2) X.env = pure (some [x, y]))
    (hs : swapsWithSole [.Tuple [.Name x px, .Name y py] kt pt] (.Tuple [a, b] k2 pt2) pos.line X.env = pure false := by rfl) :
    PS X (.Assign [.Tuple [.Name x px, .Name y py] kt pt] (.Tuple [a, b] k2 pt2) pos) (tPar i j ta) := by
  intro pins s σ H D I h
  rw [exec_Assign_arm]
  refine wpAny_bind (wpAny_standAt ?_)
  rw [hs]
  refine wpAny_bind (wpAny_pure ?_)
  rw [if_neg (by decide)]
  refine wpAny_bind (Tuple_ (thn (ha _ pins s σ H _ I h) fun us s1 ⟨vs, H1, I1, r1, q1⟩ => ?_))
  obtain ⟨v, w, e1, q1⟩ := q1
  subst e1
  obtain ⟨u1, u2, rfl, rv, rw'⟩ : ∃ u1 u2, us = [u1, u2] ∧ RelV v u1 ∧ RelV w u2 := by
    cases r1 with
    | cons p q =>
      cases q with
      | cons p' q' =>
        cases q'
        exact ⟨_, _, rfl, p, p'⟩
  refine wpAny_newObj_type ?_ (by show 2 ≤ sizeLine; decide)
  have I2 : Inv X pins σ H1 { s1 with heap := s1.heap.push { cls := .type "tuple", data := .seq [u1, u2].toArray } } := I1.kept (t' := s1.toks) fun b o e => Heap.get?_push_of_some _ e
  rw [hw]
  refine wpAny_bind (wpAny_pure ?_)
  show wpAny (model X.prog X.w) X.A (do rule "assign.swapped-stores"; let items ← unpackItems (.ref s1.heap.objs.size) 2 none; assignInOrder [fun v => bindName X.env y v, fun v => bindName X.env x v] items.reverse; pure Flow.next) _ _ _
  refine wpAny_bind (wpAny_rule (wpAny_bind (unpackItems_tuple (items := #[u1, u2]) (I.ok.hd hc) (IsTup.new s1.heap _) fun h' hx' => ?_)))
  have I3 := I2.kept (h' := h') (t' := s1.toks) fun b o e => hx' b o (Nat.ne_of_lt (Heap.lt_size e)) e
  show wpAny _ _ (assignInOrder [fun v => bindName X.env y v, fun v => bindName X.env x v] [u2, u1] >>= fun _ => pure Flow.next) _ _ _
  refine wpAny_bind (assignInOrder_cons (wpAny_bindName (store_ok I3 hN hj (.inl hy) rw' (fun s2 I4 => ?_) (.inr hy))))
  refine assignInOrder_cons (wpAny_bindName (store_ok I4 hN hi (.inl hx) rv (fun s3 I5 => assignInOrder_nil (wpAny_pure ?_)) (.inr hx)))
  rw [List.set_comm _ _ (Ne.symm hij)] at I5
  exact ⟨_, H1, I5, q1⟩
end

/-! ### while -/
section
variable {X : Cx} {pos : Pos}
/-- the invariant W with its measure -/
def tWhile (c : TT) (tb : TS) : TS := fun D σ H => ∃ W : Nat → St → Hp → Prop, (∃ m, W m σ H) ∧ ∀ m σ H, W m σ H →
  c σ H fun b H1 => if b = true then ∃ N : St → Hp → Prop, (∀ σ' H', N σ' H' → ∃ m', m' < m ∧ W m' σ' H') ∧ tb { D with nx := N, ct := N, bk := D.nx } σ H1 else D.nx σ H1
theorem ps_while {c : Expr} {body : List Stmt} {tc : TT} {tb : TS} (hp : PassesOwn (model X.prog X.w) X.A X.env X.xe) (hc : PT X c tc) (hb : PSs X body tb) : PS X (.While c body [] pos) (tWhile tc tb) := by
  intro pins s σ H D I h
  obtain ⟨W, ⟨m0, w0⟩, turn⟩ := h
  refine wpAny_While (codeAny_whileLoop (fun n s' => ∃ σ' H', Inv X pins σ' H' s' ∧ W n σ' H') ?_ m0 ⟨σ, H, I, w0⟩)
  rintro n s1 ⟨σ1, H1, I1, w1⟩
  refine wpAny_passesOwn hp (thn (hc pins s1 σ1 H1 _ I1 (turn n σ1 H1 w1)) fun b s2 ⟨H2, I2, q2⟩ => ?_)
  cases b with
  | true =>
    obtain ⟨N, hN, q2⟩ := q2
    rw [if_pos rfl]
    refine wpAny_passesOwn hp (thn (hb pins s2 σ1 H2 _ I2 q2) fun f s3 q3 => ?_)
    cases f with
    | next =>
      obtain ⟨σ3, H3, I3, n3⟩ := q3
      obtain ⟨m', hm, w3⟩ := hN σ3 H3 n3
      exact ⟨m', hm, σ3, H3, I3, w3⟩
    | cont =>
      obtain ⟨σ3, H3, I3, n3⟩ := q3
      obtain ⟨m', hm, w3⟩ := hN σ3 H3 n3
      exact ⟨m', hm, σ3, H3, I3, w3⟩
    | brk => exact q3
    | ret v => exact q3
  | false =>
    rw [if_neg Bool.false_ne_true]
    exact wpAny_execs_nil ⟨σ1, H2, I2, q2⟩
end

/-! ### what a loop or a comprehension walks -/
/-- at turn i: it yields x (the heap may grow), or it stops -/
structure It where
  go : Nat → Hp → Prop
  yld : Nat → Hp → V → Hp → Prop
  stop : Nat → Hp → Prop
/-- the iterator's own objects may turn: they are not the frame's, not pinned, younger than the entry (or a comprehension's own) -/
def FpOk (X : Cx) (pins : List (Addr × Obj)) (H : Hp) (b : Addr) : Prop :=
  H b = none ∧ b ≠ X.env.locals ∧ b ∉ X.fs ∧ (b ∈ X.ex ∨ X.s₀.heap.objs.size ≤ b) ∧ (∀ x c, X.env.cells.lookup x = some c → c ≠ b) ∧ ∀ p ∈ X.pn ++ pins, p.1 ≠ b
theorem Inv.fpOk {X : Cx} {pins : List (Addr × Obj)} {σ : St} {H H' : Hp} {s : Shared} {b : Addr} (I : Inv X pins σ H s) (hb : s.heap.objs.size ≤ b) (hn : H' b = none) : FpOk X pins H' b := by
  refine ⟨hn, Nat.ne_of_gt (Nat.lt_of_lt_of_le I.lt hb), I.nofs hb, .inr (Nat.le_trans I.sz hb), fun x c e z => ?_, fun p hp z => ?_⟩
  · obtain ⟨v, q⟩ := I.cell x c e
    exact absurd (Nat.lt_of_lt_of_le q.lt (by rw [z]; exact hb)) (Nat.lt_irrefl _)
  · exact absurd (Nat.lt_of_lt_of_le (Heap.lt_size (I.pin p hp).1) (by rw [z]; exact hb)) (Nat.lt_irrefl _)
structure Turn (P : Program) (w : World) (K : PySem.W.Frag) (tg : Expr) (J : It) (fp : List Addr) (it : Addr) (tn : Nat → Heap → Prop) : Prop where
  mem : it ∈ fp
  obj : ∀ i h, tn i h → ∀ b ∈ fp, ∃ o, h.get? b = some o ∧ ∀ v, o.data ≠ .cell v
  keep : ∀ i h h', tn i h → (∀ b ∈ fp, ∀ o, h.get? b = some o → h'.get? b = some o) → tn i h'
  item : ∀ (X : Cx), X.prog = P → X.w = w → X.K = K → X.calm = true → ∀ (i : Nat) (pins : List (Addr × Obj)) (s : Shared) (σ : St) (H : Hp) (E : Value → Shared → Prop), Inv X pins σ H s → (∀ b ∈ fp, FpOk X pins H b) → tn i s.heap → J.go i H →
    wpAny (model P w) X.A (pyNext (.ref it)) (fun r s1 => ∃ u, r = some u ∧
      wpAny (model P w) X.A (letOwnedTupleGo tg (.ref it) u) (fun _ s2 => ∃ x H', Inv X pins σ H' s2 ∧ RelV x u ∧ J.yld i H x H' ∧ tn (i + 1) s2.heap ∧ ∀ b ∈ fp, H' b = none) E s1) E s
  done : ∀ (X : Cx), X.prog = P → X.w = w → X.K = K → X.calm = true → ∀ (i : Nat) (pins : List (Addr × Obj)) (s : Shared) (σ : St) (H : Hp) (E : Value → Shared → Prop), Inv X pins σ H s → (∀ b ∈ fp, FpOk X pins H b) → tn i s.heap → J.stop i H →
    wpAny (model P w) X.A (pyNext (.ref it)) (fun r s1 => r = none ∧ Inv X pins σ H s1) E s
  self : ∀ (A : Around) (i : Nat) (s : Shared) (Q : Value → Shared → Prop) (E : Value → Shared → Prop), tn i s.heap → Q (.ref it) s → wpAny (model P w) A (pyIter (.ref it)) Q E s
abbrev TI := St → Hp → (It → Hp → Prop) → Prop
/-- an iterator has come -/
def PIE (X : Cx) (pins : List (Addr × Obj)) (σ : St) (tg : Expr) (R : It → Hp → Prop) (itv : Value) (s2 : Shared) : Prop :=
  ∃ (it : Addr) (fp : List Addr) (tn : Nat → Heap → Prop) (J : It) (H' : Hp), itv = .ref it ∧ Inv X pins σ H' s2 ∧ Turn X.prog X.w X.K tg J fp it tn ∧ tn 0 s2.heap ∧ (∀ b ∈ fp, FpOk X pins H' b) ∧ R J H'
def PI (X : Cx) (tg iter : Expr) (wi : TI) : Prop :=
  ∀ (pins : List (Addr × Obj)) (s : Shared) (σ : St) (H : Hp) (R : It → Hp → Prop), Inv X pins σ H s → wi σ H R →
    wpAny (model X.prog X.w) X.A (eval iter X.env) (fun v s1 => wpAny (model X.prog X.w) X.A (pyIter v) (PIE X pins σ tg R) X.xe s1) X.xe s

/-- the step ahead of the store is nothing for an iterator that keeps no tuple -/
theorem go_of {M : Model} {A : Around} {E : Value → Shared → Prop} {s : Shared} {tg : Expr} {it : Addr} {u : Value} {o : Obj} {n : String} {vs : Array Value} {Q : Unit → Shared → Prop} (ho : s.heap.get? it = some o) (hc : o.cls = .type n) (hd : o.data = .fields vs)
    (hn : ["enumerate", "zip", "dict_itemiterator", "dict_reverseitemiterator", "odict_iterator", "itertools.zip_longest", "itertools.pairwise"].contains n = false) (hQ : Q () s) : wpAny M A (letOwnedTupleGo tg (.ref it) u) Q E s := by
  unfold letOwnedTupleGo
  cases tg <;> first
    | exact wpAny_pure hQ
    | (cases u <;> first
        | exact wpAny_pure hQ
        | (refine wpAny_bind (wpAny_load ho ?_)
           rw [hc, hd]
           show wpAny M A (if (["enumerate", "zip", "dict_itemiterator", "dict_reverseitemiterator", "odict_iterator", "itertools.zip_longest", "itertools.pairwise"].contains n && vs[0]? == some (rawInt _)) = true then _ else _) Q E s
           rw [if_neg (by intro h; rw [hn, Bool.false_and] at h; cases h)]
           exact wpAny_pure hQ))

/-- the list at a, as it stands at each turn (a loop may append to it) -/
def Itl (K : PySem.W.Frag) (a : Addr) : It :=
  ⟨fun i H => ∃ xs x, SqL K H a xs ∧ xs[i]? = some x, fun i H x H' => H' = H ∧ ∀ xs, SqL K H a xs → xs[i]? = some x, fun i H => ∃ xs, SqL K H a xs ∧ xs.length ≤ i⟩
def Itt (K : PySem.W.Frag) (a : Addr) : It :=
  ⟨fun i H => ∃ xs x, SqT K H a xs ∧ xs[i]? = some x, fun i H x H' => H' = H ∧ ∀ xs, SqT K H a xs → xs[i]? = some x, fun i H => ∃ xs, SqT K H a xs ∧ xs.length ≤ i⟩
/-- lo, lo + 1, .. (n of them) -/
def Itr (lo : Int) (n : Nat) : It := ⟨fun i _ => i < n, fun i H x H' => H' = H ∧ x = .int (lo + i), fun i _ => n ≤ i⟩
theorem turn_list {P : Program} {w : World} {K : PySem.W.Frag} {tg : Expr} (a it : Addr) : Turn P w K tg (Itl K a) [it] it (fun i h => h.IsListIter it a i) where
  mem := by simp
  obj := fun i h st b hb => by
    have e : b = it := by simpa using hb
    subst e
    obtain ⟨o, e, c, d⟩ := st
    exact ⟨o, e, fun v z => by rw [d] at z; cases z⟩
  keep := fun i h h' st k => st.at fun o e => k it (by simp) o e
  item := by
    intro X hP hw hK hc i pins s σ H E I hf st hg
    subst hP hw hK
    obtain ⟨xs, x, hq, hx⟩ := hg
    obtain ⟨its, rv, p, hz⟩ := I.list hq
    obtain ⟨u, hu, ru⟩ := rv.get hx
    obtain ⟨f0, f1, f2, f3, f4, f5⟩ := hf it (by simp)
    refine wpAny_pyNext_list_item st p.isList (x := u) (by simpa using hu) fun h' st' sb => ?_
    have I1 : Inv X pins σ H { s with heap := h' } := I.turned (t' := s.toks) (fun b o hb e => (sb.2 b hb).trans e) f0 f1 f3 f4 f5
    obtain ⟨o, e, c, d⟩ := id st'
    exact ⟨u, rfl, go_of (s := { s with heap := h' }) e c d (by decide) ⟨x, H, I1, ru, ⟨rfl, fun ys hy => by rw [I.list_inj hy hq]; exact hx⟩, st', fun b hb => (hf b hb).1⟩⟩
  done := by
    intro X hP hw hK hc i pins s σ H E I hf st hg
    subst hP hw hK
    obtain ⟨xs, hq, hx⟩ := hg
    obtain ⟨its, rv, p, hz⟩ := I.list hq
    obtain ⟨f0, f1, f2, f3, f4, f5⟩ := hf it (by simp)
    have hl := rv.length
    exact wpAny_pyNext_list_end (I.ok.hd hc) st p.isList (by simp; omega) fun h' eb => ⟨rfl, I.turned (t' := s.toks) (fun b o hb e => eb b o hb e) f0 f1 f3 f4 f5⟩
  self := fun _ _ _ _ _ st h => wpAny_pyIter_listiter st h
theorem turn_tuple {P : Program} {w : World} {K : PySem.W.Frag} {tg : Expr} (a it : Addr) : Turn P w K tg (Itt K a) [it] it (fun i h => h.IsTupleIter it a i) where
  mem := by simp
  obj := fun i h st b hb => by
    have e : b = it := by simpa using hb
    subst e
    obtain ⟨o, e, c, d⟩ := st
    exact ⟨o, e, fun v z => by rw [d] at z; cases z⟩
  keep := fun i h h' st k => st.at fun o e => k it (by simp) o e
  item := by
    intro X hP hw hK hc i pins s σ H E I hf st hg
    subst hP hw hK
    obtain ⟨xs, x, hq, hx⟩ := hg
    obtain ⟨its, rv, p, hz⟩ := I.tuple hq
    obtain ⟨u, hu, ru⟩ := rv.get hx
    obtain ⟨f0, f1, f2, f3, f4, f5⟩ := hf it (by simp)
    refine wpAny_pyNext_tuple_item st (show s.heap.IsTuple a its.toArray from p) (x := u) (by simpa using hu) fun h' st' sb => ?_
    have I1 : Inv X pins σ H { s with heap := h' } := I.turned (t' := s.toks) (fun b o hb e => (sb.2 b hb).trans e) f0 f1 f3 f4 f5
    obtain ⟨o, e, c, d⟩ := id st'
    exact ⟨u, rfl, go_of (s := { s with heap := h' }) e c d (by decide) ⟨x, H, I1, ru, ⟨rfl, fun ys hy => by rw [I.tuple_inj hy hq]; exact hx⟩, st', fun b hb => (hf b hb).1⟩⟩
  done := by
    intro X hP hw hK hc i pins s σ H E I hf st hg
    subst hP hw hK
    obtain ⟨xs, hq, hx⟩ := hg
    obtain ⟨its, rv, p, hz⟩ := I.tuple hq
    obtain ⟨f0, f1, f2, f3, f4, f5⟩ := hf it (by simp)
    have hl := rv.length
    exact wpAny_pyNext_tuple_end (I.ok.hd hc) st (show s.heap.IsTuple a its.toArray from p) (by simp; omega) fun h' eb => ⟨rfl, I.turned (t' := s.toks) (fun b o hb e => eb b o hb e) f0 f1 f3 f4 f5⟩
  self := fun _ _ _ _ _ st h => wpAny_pyIter_tupleiter st h
theorem turn_range {P : Program} {w : World} {K : PySem.W.Frag} {tg : Expr} (it : Addr) (lo : Int) (n : Nat) : Turn P w K tg (Itr lo n) [it] it (fun i h => IsRangeIter h it (lo + (i : Nat) * 1) ((n : Int) - (i : Nat)) 1) where
  mem := by simp
  obj := fun i h st b hb => by
    have e : b = it := by simpa using hb
    subst e
    exact ⟨_, st, fun v z => by
      have z' : Data.fields _ = Data.cell v := z
      cases z'⟩
  keep := fun i h h' st k => k it (by simp) _ st
  item := by
    intro X hP hw hK hc i pins s σ H E I hf st hg
    subst hP hw hK
    obtain ⟨f0, f1, f2, f3, f4, f5⟩ := hf it (by simp)
    have W := Walks.range (prog := X.prog) (w := X.w) (I.ok.hd hc) it lo 1 n
    refine W.item i s _ _ hg st fun v h' tk hv st' kk => ?_
    obtain ⟨t, rfl⟩ := hv
    have I1 : Inv X pins σ H { s with heap := h', toks := tk } := I.turned (fun b o hb e => kk b o (by simpa using hb) e) f0 f1 f3 f4 f5
    refine ⟨_, rfl, go_of (s := { s with heap := h', toks := tk }) (n := "range_iterator") st' rfl rfl (by decide) ⟨.int (lo + i), H, I1, ⟨t, ?_⟩, ⟨rfl, rfl⟩, st', fun b hb => (hf b hb).1⟩⟩
    rw [Int.mul_one]
  done := by
    intro X hP hw hK hc i pins s σ H E I hf st hg
    subst hP hw hK
    obtain ⟨f0, f1, f2, f3, f4, f5⟩ := hf it (by simp)
    exact wpAny_pyNext_range_end (I.ok.hd hc) st (by have : n ≤ i := hg; omega) fun h' eb => ⟨rfl, I.turned (t' := s.toks) (fun b o hb e => eb b o hb e) f0 f1 f3 f4 f5⟩
  self := fun _ _ _ _ _ st h => wpAny_pyIter_rangeiter st h
end L2

namespace L2
open PySem PySem.Spec PyProof.Rows
section
variable {X : Cx} {tg : Expr}
/-- a range object just made, walked -/
theorem range_it {pins : List (Addr × Obj)} {σ : St} {H : Hp} {s : Shared} {R : It → Hp → Prop} {E : Value → Shared → Prop} {lo hi : Int} {t u v : Tok} {tk : Nat} (I : Inv X pins σ H s) (h1 : -(2 ^ 62) ≤ lo) (h2 : lo < 2 ^ 62) (h3 : -(2 ^ 62) ≤ hi) (h4 : hi < 2 ^ 62)
    (q : R (Itr lo (hi - lo).toNat) H) : wpAny (model X.prog X.w) X.A (pyIter (.ref s.heap.objs.size)) (PIE X pins σ tg R) E { s with heap := s.heap.push { cls := .type "range", data := .fields #[.int lo t, .int hi u, .int 1 v] }, toks := tk } := by
  refine wpAny_pyIter_range (IsRange.new ..) (small_one h1 h2 h3 h4) ?_
  have I1 : Inv X pins σ H { s with heap := s.heap.push { cls := .type "range", data := .fields #[.int lo t, .int hi u, .int 1 v] }, toks := tk } := I.kept fun b o e => Heap.get?_push_of_some _ e
  refine ⟨(s.heap.push { cls := .type "range", data := .fields #[.int lo t, .int hi u, .int 1 v] }).objs.size, [(s.heap.push { cls := .type "range", data := .fields #[.int lo t, .int hi u, .int 1 v] }).objs.size], _, _, H, rfl,
    I1.kept (t' := tk) fun b o e => Heap.get?_push_of_some _ e, turn_range _ lo (hi - lo).toNat, ?_, fun b hb => ?_, q⟩
  · have e1 : lo + ((0 : Nat) : Int) * 1 = lo := by simp
    have e2 : (((hi - lo).toNat : Nat) : Int) - ((0 : Nat) : Int) = Builtin.Range.rangeSize lo hi 1 := by rw [rangeSize_one]; split <;> omega
    show IsRangeIter _ _ (lo + ((0 : Nat) : Int) * 1) ((((hi - lo).toNat : Nat) : Int) - ((0 : Nat) : Int)) 1
    rw [e1, e2]
    exact Heap.get?_push_size _ rfl
  · have e : b = (s.heap.push { cls := .type "range", data := .fields #[.int lo t, .int hi u, .int 1 v] }).objs.size := by simpa using hb
    subst e
    exact I1.fpOk (Nat.le_refl _) (I1.hok.fresh (Nat.le_refl _))
def iRng1 (ta : TA) : TI := fun σ H R => ta σ H fun vs H1 => ∃ j : Int, vs = [.int j] ∧ -(2 ^ 62) ≤ j ∧ j < 2 ^ 62 ∧ R (Itr 0 j.toNat) H1
theorem pi_range1 {a : Expr} {ta : TA} {p pos : Pos} (hg : Gl X "range") (hm : X.mg "range" = none) (ha : PA X [a] ta) (hs : starEach [a] X.env = [(false, eval a X.env)] := by rfl) : PI X tg (.Call (.Name "range" p) [a] [] pos) (iRng1 ta) := by
  intro pins s σ H R I h
  refine Call_ (ld_blt I hg hm boot_range (PyProof.Rows.callWith_type1 (thn (ha pos pins s σ H _ I h) fun us s1 ⟨vs, H1, I1, r1, q1⟩ => ?_) hs rfl))
  obtain ⟨j, e, q1, q2, q⟩ := q1
  subst e
  cases r1 with
  | cons r rr =>
    cases rr
    obtain ⟨t, rfl⟩ := r
    exact call_range_1 (range_it I1 (by omega) (by omega) q1 q2 (by simpa using q))
/-! ### for -/
/-- W: the invariant by the turn and a measure; N: what the body is to reach -/
def tFor (wi : TI) (g : TG) (tb : TS) : TS := fun D σ H => wi σ H fun J H1 => ∃ W : Nat → Nat → St → Hp → Prop, (∃ m, W 0 m σ H1) ∧ ∀ i m σ H, W i m σ H →
  (J.stop i H ∧ D.nx σ H) ∨ (J.go i H ∧ ∃ N : St → Hp → Prop, (∀ σ' H', N σ' H' → ∃ m', m' < m ∧ W (i + 1) m' σ' H') ∧ ∀ x H', J.yld i H x H' → g x σ H' fun σ2 H2 => tb { D with nx := N, ct := N, bk := D.nx } σ2 H2)
/-- the records at fp as they stand -/
def pinsAt (fp : List Addr) (h : Heap) : List (Addr × Obj) := fp.filterMap fun b => (h.get? b).map fun o => (b, o)
theorem mem_pinsAt {fp : List Addr} {h : Heap} {b : Addr} {o : Obj} (hb : b ∈ fp) (e : h.get? b = some o) : (b, o) ∈ pinsAt fp h := List.mem_filterMap.mpr ⟨b, hb, by rw [e]; rfl⟩
theorem of_pinsAt {fp : List Addr} {h : Heap} {p : Addr × Obj} (hp : p ∈ pinsAt fp h) : p.1 ∈ fp ∧ h.get? p.1 = some p.2 := by
  obtain ⟨b, hb, e⟩ := List.mem_filterMap.mp hp
  cases q : h.get? b with
  | none => rw [q] at e; cases e
  | some o =>
    rw [q] at e
    have e' : (b, o) = p := Option.some.inj e
    subst e'
    exact ⟨hb, q⟩
theorem Inv.pinned {pins : List (Addr × Obj)} {σ : St} {H : Hp} {s : Shared} {fp : List Addr} (I : Inv X pins σ H s) (hf : ∀ b ∈ fp, FpOk X pins H b) (ho : ∀ b ∈ fp, ∃ o, s.heap.get? b = some o ∧ ∀ v, o.data ≠ .cell v) : Inv X (pins ++ pinsAt fp s.heap) σ H s :=
  I.pins_of fun p hp => (List.mem_append.mp hp).elim (fun z => I.pin p (List.mem_append_right _ z)) fun z => by
    obtain ⟨hb, e⟩ := of_pinsAt z
    obtain ⟨f0, f1, f2, _⟩ := hf p.1 hb
    obtain ⟨o, e', d⟩ := ho p.1 hb
    rw [e] at e'; cases e'
    exact ⟨e, f0, f1, f2, d⟩
theorem Inv.unpinned {pins pl : List (Addr × Obj)} {σ : St} {H : Hp} {s : Shared} (I : Inv X (pins ++ pl) σ H s) : Inv X pins σ H s := I.pins_of fun p hp => I.pin p (List.mem_append_right _ (List.mem_append_left _ hp))
theorem ps_for {iter : Expr} {body : List Stmt} {wi : TI} {g : TG} {tb : TS} {pos : Pos} (hp : PassesOwn (model X.prog X.w) X.A X.env X.xe) (hc : X.calm = true) (hi : PI X tg iter wi) (hg : PG X tg g) (hb : PSs X body tb)
    (hs : ∀ x, foldedSetIterable iter X.env x = pure x := by intro _; rfl) : PS X (.For tg iter body [] pos) (tFor wi g tb) := by
  intro pins s σ H D I h
  refine wpAny_For (thn (hi pins s σ H _ I h) fun v s1 h1 => thn h1 fun itv s2 h2 => ?_) hs
  obtain ⟨it, fp, tn, J, H2, e, I2, T, st2, f2, W, ⟨m0, w0⟩, turn⟩ := h2
  subst e
  -- what stays true of the iterator's objects through the loop
  have stat : ∀ {H' : Hp}, (∀ b ∈ fp, H' b = none) → ∀ b ∈ fp, FpOk X pins H' b := fun hn b hb => ⟨hn b hb, (f2 b hb).2⟩
  refine codeAny_forLoop_any (fun n s' => ∃ i σ' H', Inv X pins σ' H' s' ∧ tn i s'.heap ∧ (∀ b ∈ fp, H' b = none) ∧ W i n σ' H') ?_ m0 ⟨0, σ, H2, I2, st2, fun b hb => (f2 b hb).1, w0⟩
  rintro n s3 ⟨i, σ3, H3, I3, st3, fr3, w3⟩
  rcases turn i n σ3 H3 w3 with ⟨stop, qn⟩ | ⟨go, N, hN, step⟩
  · refine wpAny_passesOwn hp (thn (T.done X rfl rfl rfl hc i pins s3 σ3 H3 X.xe I3 (stat fr3) st3 stop) fun r s4 ⟨hr, I4⟩ => ?_)
    subst hr
    exact wpAny_execs_nil ⟨σ3, H3, I4, qn⟩
  · refine wpAny_passesOwn hp (thn (T.item X rfl rfl rfl hc i pins s3 σ3 H3 X.xe I3 (stat fr3) st3 go) fun r s4 ⟨u, hr, h4⟩ => ?_)
    subst hr
    refine wpAny_passesOwn hp (thn h4 fun _ s5 ⟨x, H5, I5, r5, y5, st5, fr5⟩ => ?_)
    have I5' := I5.pinned (stat fr5) (T.obj _ _ st5)
    refine wpAny_passesOwn hp (thn (hg _ s5 σ3 H5 x u _ I5' r5 (step x H5 y5)) fun _ s6 ⟨σ6, H6, I6, q6⟩ => ?_)
    refine wpAny_passesOwn hp (thn (hb _ s6 σ6 H6 _ I6 q6) fun f s7 q7 => ?_)
    have again : ∀ {σ7 : St} {H7 : Hp}, Inv X (pins ++ pinsAt fp s5.heap) σ7 H7 s7 → N σ7 H7 → ∃ m, m < n ∧ ∃ i σ' H', Inv X pins σ' H' s7 ∧ tn i s7.heap ∧ (∀ b ∈ fp, H' b = none) ∧ W i m σ' H' := fun {σ7 H7} I7 n7 => by
      obtain ⟨m', hm, w7⟩ := hN σ7 H7 n7
      refine ⟨m', hm, i + 1, σ7, H7, I7.unpinned, T.keep _ _ _ st5 fun b hb o e => (I7.pin (b, o) (List.mem_append_right _ (List.mem_append_right _ (mem_pinsAt hb e)))).1, fun b hb => ?_, w7⟩
      obtain ⟨o, e, d⟩ := T.obj _ _ st5 b hb
      exact (I7.pin (b, o) (List.mem_append_right _ (List.mem_append_right _ (mem_pinsAt hb e)))).2.1
    cases f with
    | next => obtain ⟨σ7, H7, I7, n7⟩ := q7; exact again I7 n7
    | cont => obtain ⟨σ7, H7, I7, n7⟩ := q7; exact again I7 n7
    | brk => obtain ⟨σ7, H7, I7, q7⟩ := q7; exact ⟨σ7, H7, I7.unpinned, q7⟩
    | ret v => obtain ⟨x7, σ7, H7, I7, r7, q7⟩ := q7; exact ⟨x7, σ7, H7, I7.unpinned, r7, q7⟩
end

/-! ### the forms one uses -/
/-- over a list that the body leaves as it is -/
theorem for_list {K : PySem.W.Frag} {a : Addr} {xs : List V} {g : TG} {tb : TS} {D : Ends} {σ : St} {H : Hp} (Pv : Nat → St → Hp → Prop) (h0 : Pv 0 σ H) (hl : ∀ i σ H, i ≤ xs.length → Pv i σ H → SqL K H a xs)
    (hs : ∀ i x σ H, xs[i]? = some x → Pv i σ H → g x σ H fun σ2 H2 => tb { D with nx := Pv (i + 1), ct := Pv (i + 1), bk := D.nx } σ2 H2) (hd : ∀ σ H, Pv xs.length σ H → D.nx σ H) :
    ∃ W : Nat → Nat → St → Hp → Prop, (∃ m, W 0 m σ H) ∧ ∀ i m σ H, W i m σ H →
      ((Itl K a).stop i H ∧ D.nx σ H) ∨ ((Itl K a).go i H ∧ ∃ N : St → Hp → Prop, (∀ σ' H', N σ' H' → ∃ m', m' < m ∧ W (i + 1) m' σ' H') ∧ ∀ x H', (Itl K a).yld i H x H' → g x σ H' fun σ2 H2 => tb { D with nx := N, ct := N, bk := D.nx } σ2 H2) := by
  refine ⟨fun i m σ H => m = xs.length - i ∧ i ≤ xs.length ∧ Pv i σ H, ⟨xs.length, by simp, Nat.zero_le _, h0⟩, ?_⟩
  rintro i m σ H ⟨rfl, hi, p⟩
  have q := hl i σ H hi p
  by_cases hlt : i < xs.length
  · refine .inr ⟨⟨xs, xs[i], q, by simp [hlt]⟩, Pv (i + 1), fun σ' H' p' => ⟨xs.length - (i + 1), by omega, rfl, hlt, p'⟩, fun x H' y => ?_⟩
    obtain ⟨e, y⟩ := y
    subst e
    exact hs i x σ _ (y xs q) p
  · have e : i = xs.length := by omega
    subst e
    exact .inl ⟨⟨xs, q, Nat.le_refl _⟩, hd σ H p⟩
theorem for_range {lo : Int} {n : Nat} {g : TG} {tb : TS} {D : Ends} {σ : St} {H : Hp} (Pv : Nat → St → Hp → Prop) (h0 : Pv 0 σ H)
    (hs : ∀ i σ H, i < n → Pv i σ H → g (.int (lo + i)) σ H fun σ2 H2 => tb { D with nx := Pv (i + 1), ct := Pv (i + 1), bk := D.nx } σ2 H2) (hd : ∀ σ H, Pv n σ H → D.nx σ H) :
    ∃ W : Nat → Nat → St → Hp → Prop, (∃ m, W 0 m σ H) ∧ ∀ i m σ H, W i m σ H →
      ((Itr lo n).stop i H ∧ D.nx σ H) ∨ ((Itr lo n).go i H ∧ ∃ N : St → Hp → Prop, (∀ σ' H', N σ' H' → ∃ m', m' < m ∧ W (i + 1) m' σ' H') ∧ ∀ x H', (Itr lo n).yld i H x H' → g x σ H' fun σ2 H2 => tb { D with nx := N, ct := N, bk := D.nx } σ2 H2) := by
  refine ⟨fun i m σ H => m = n - i ∧ i ≤ n ∧ Pv i σ H, ⟨n, by simp, Nat.zero_le _, h0⟩, ?_⟩
  rintro i m σ H ⟨rfl, hi, p⟩
  by_cases hlt : i < n
  · refine .inr ⟨hlt, Pv (i + 1), fun σ' H' p' => ⟨n - (i + 1), by omega, rfl, hlt, p'⟩, fun x H' y => ?_⟩
    obtain ⟨e, y⟩ := y
    subst e y
    exact hs i σ _ hlt p
  · have e : i = n := by omega
    subst e
    exact .inl ⟨Nat.le_refl _, hd σ H p⟩
end L2

namespace L2
open PySem PySem.Spec PyProof.Rows

abbrev R2 := V → V → Hp → VK → Prop
/-- a two-place operation on values: f is binaryOp op, inplaceOp op or compareOp op -/
def OpR (X : Cx) (f : Value → Value → Sem Value) (r : R2) : Prop :=
  ∀ (pins : List (Addr × Obj)) (s : Shared) (σ : St) (H : Hp) (x y : V) (v u : Value) (Q : VK), Inv X pins σ H s → RelV x v → RelV y u → r x y H Q →
    wpAny (model X.prog X.w) X.A (f v u) (EP X pins σ Q) X.xe s
/-- a one-place operation -/
def UnR (X : Cx) (f : Value → Sem Value) (r : V → Hp → VK → Prop) : Prop :=
  ∀ (pins : List (Addr × Obj)) (s : Shared) (σ : St) (H : Hp) (x : V) (v : Value) (Q : VK), Inv X pins σ H s → RelV x v → r x H Q →
    wpAny (model X.prog X.w) X.A (f v) (EP X pins σ Q) X.xe s
/-- a call of a value that is known (a builtin, a type) with values -/
def CallR (X : Cx) (f : Value) (r : List V → Hp → VK → Prop) : Prop :=
  ∀ (pins : List (Addr × Obj)) (s : Shared) (σ : St) (H : Hp) (xs : List V) (us : List Value) (Q : VK), Inv X pins σ H s → Vals xs us → r xs H Q →
    wpAny (model X.prog X.w) X.A (call f us) (EP X pins σ Q) X.xe s
/-- a value's truth -/
def TruR (X : Cx) (r : V → Hp → (Bool → Hp → Prop) → Prop) : Prop :=
  ∀ (pins : List (Addr × Obj)) (s : Shared) (σ : St) (H : Hp) (x : V) (v : Value) (Q : Bool → Hp → Prop), Inv X pins σ H s → RelV x v → r x H Q →
    wpAny (model X.prog X.w) X.A (truthy v) (TP X pins σ Q) X.xe s

def tOp (r : R2) (ta tb : TE) : TE := fun σ H Q => ta σ H fun x H1 => tb σ H1 fun y H2 => r x y H2 Q
def tUn (r : V → Hp → VK → Prop) (ta : TE) : TE := fun σ H Q => ta σ H fun x H1 => r x H1 Q
/-- ints in, under C, and a value out -/
def rI (C : Int → Int → Prop) (g : Int → Int → V) : R2 := fun x y H Q => ∃ i j, x = .int i ∧ y = .int j ∧ C i j ∧ Q (g i j) H
def rI0 (g : Int → Int → V) : R2 := fun x y H Q => ∃ i j, x = .int i ∧ y = .int j ∧ Q (g i j) H
def rU (g : Int → V) : V → Hp → VK → Prop := fun x H Q => ∃ i, x = .int i ∧ Q (g i) H

section
variable {X : Cx} {a b c : Expr} {ta tb tc : TE} {pos : Pos}

theorem binT (ha : PE X a ta) (hb : PE X b tb) {pins : List (Addr × Obj)} {s : Shared} {σ : St} {H : Hp} {R : V → V → Hp → Prop} (I : Inv X pins σ H s)
    (h : ta σ H fun x H1 => tb σ H1 fun y H2 => R x y H2) {Q : Value → Shared → Prop} {f : Value → Value → Sem Value}
    (hf : ∀ v u s2 x y H2, Inv X pins σ H2 s2 → RelV x v → RelV y u → R x y H2 → wpAny (model X.prog X.w) X.A (f v u) Q X.xe s2) :
    wpAny (model X.prog X.w) X.A (eval a X.env) (fun v s₁ => wpAny (model X.prog X.w) X.A (eval b X.env) (fun u s₂ => wpAny (model X.prog X.w) X.A (f v u) Q X.xe s₂) X.xe s₁) X.xe s := by
  refine thn (ha pins s σ H _ I h) fun v s1 ⟨x, H1, I1, r1, q1⟩ => ?_
  refine thn (hb pins s1 σ H1 _ I1 q1) fun u s2 ⟨y, H2, I2, r2, q2⟩ => ?_
  exact hf v u s2 x y H2 I2 r1 r2 q2

theorem pe_op {op : Operator} {r : R2} (ho : OpR X (binaryOp op) r) (ha : PE X a ta) (hb : PE X b tb) : PE X (.BinOp a op b pos) (tOp r ta tb) := by
  intro pins s σ H Q I h
  exact wpAny_BinOp (binT ha hb I h fun v u s2 x y H2 I2 rx ry q => ho pins s2 σ H2 x y v u Q I2 rx ry q)
theorem pe_un {op : UnaryOp} {r : V → Hp → VK → Prop} (ho : UnR X (unaryOp op) r) (ha : PE X a ta) : PE X (.UnaryOp op a pos) (tUn r ta) := by
  intro pins s σ H Q I h
  exact UnaryOp_ (thn (ha pins s σ H _ I h) fun v s1 ⟨x, H1, I1, r1, q1⟩ => ho pins s1 σ H1 x v Q I1 r1 q1)
/-! ### ints -/
theorem opI {f : Value → Value → Sem Value} {C : Int → Int → Prop} {g : Int → Int → Int}
    (rule : ∀ (i j : Int) (t u : Tok) (s : Shared) (Q : Value → Shared → Prop) (E : Value → Shared → Prop), C i j → Q (.int (g i j) s.toks) { s with toks := s.toks + 1 } → wpAny (model X.prog X.w) X.A (f (.int i t) (.int j u)) Q E s) :
    OpR X f (rI C fun i j => .int (g i j)) := by
  intro pins s σ H x y v u Q I rx ry h
  obtain ⟨i, j, rfl, rfl, hc, q⟩ := h
  obtain ⟨t, rfl⟩ := rx
  obtain ⟨t', rfl⟩ := ry
  exact rule i j t t' s _ _ hc ⟨.int (g i j), H, I.tok _, ⟨_, rfl⟩, q⟩
theorem opI0 {f : Value → Value → Sem Value} {g : Int → Int → Int}
    (rule : ∀ (i j : Int) (t u : Tok) (s : Shared) (Q : Value → Shared → Prop) (E : Value → Shared → Prop), Q (.int (g i j) s.toks) { s with toks := s.toks + 1 } → wpAny (model X.prog X.w) X.A (f (.int i t) (.int j u)) Q E s) :
    OpR X f (rI0 fun i j => .int (g i j)) := by
  intro pins s σ H x y v u Q I rx ry h
  obtain ⟨i, j, rfl, rfl, q⟩ := h
  obtain ⟨t, rfl⟩ := rx
  obtain ⟨t', rfl⟩ := ry
  exact rule i j t t' s _ _ ⟨.int (g i j), H, I.tok _, ⟨_, rfl⟩, q⟩
theorem opB0 {f : Value → Value → Sem Value} {g : Int → Int → Bool}
    (rule : ∀ (i j : Int) (t u : Tok) (s : Shared) (Q : Value → Shared → Prop) (E : Value → Shared → Prop), Q (.bool (g i j)) s → wpAny (model X.prog X.w) X.A (f (.int i t) (.int j u)) Q E s) :
    OpR X f (rI0 fun i j => .bl (g i j)) := by
  intro pins s σ H x y v u Q I rx ry h
  obtain ⟨i, j, rfl, rfl, q⟩ := h
  obtain ⟨t, rfl⟩ := rx
  obtain ⟨t', rfl⟩ := ry
  exact rule i j t t' s _ _ ⟨.bl (g i j), H, I, rfl, q⟩

def CDiv (i j : Int) : Prop := 0 < j ∧ j < 1073741824
def CPow (i j : Int) : Prop := 0 ≤ j ∧ j ≤ 1000000 ∧ i.natAbs < 2 ^ 64
def CMul (i j : Int) : Prop := (-(2 ^ 64) < i ∧ i < 2 ^ 64) ∨ (-(2 ^ 64) < j ∧ j < 2 ^ 64)
theorem CMul.ok {i j : Int} (h : CMul i j) : IntMulOk i j := by
  rcases h with ⟨h1, h2⟩ | ⟨h1, h2⟩
  · exact .of_left (intBits_le_64 h1 h2)
  · exact .of_right (intBits_le_64 h1 h2)
theorem op_add : OpR X (binaryOp .Add) (rI0 fun i j => .int (i + j)) := opI0 fun _ _ _ _ _ _ _ q => add_int q
theorem op_sub : OpR X (binaryOp .Sub) (rI0 fun i j => .int (i - j)) := opI0 fun _ _ _ _ _ _ _ q => sub_int q
/-- % by a positive divisor of any size -/
theorem op_mod : OpR X (binaryOp .Mod) (rI (fun _ j => 0 < j) fun i j => .int (i % j)) := opI fun i j _ _ _ _ _ hc q => by
  have h1 : (0 : Int) < j := hc
  exact mod_int' (by omega) (by rw [Int.fmod_eq_emod_of_nonneg i (by omega)]; exact q)
theorem op_pow : OpR X (binaryOp .Pow) (rI CPow fun i j => .int (i ^ j.toNat)) := opI fun _ _ _ _ _ _ _ hc q => pow_int_small hc.1 hc.2.1 hc.2.2 q
theorem unI {f : Value → Sem Value} {g : Int → Int}
    (rule : ∀ (i : Int) (t : Tok) (s : Shared) (Q : Value → Shared → Prop) (E : Value → Shared → Prop), Q (.int (g i) s.toks) { s with toks := s.toks + 1 } → wpAny (model X.prog X.w) X.A (f (.int i t)) Q E s) :
    UnR X f (rU fun i => .int (g i)) := by
  intro pins s σ H x v Q I rx h
  obtain ⟨i, rfl, q⟩ := h
  obtain ⟨t, rfl⟩ := rx
  exact rule i t s _ _ ⟨.int (g i), H, I.tok _, ⟨_, rfl⟩, q⟩
theorem un_neg : UnR X (unaryOp .USub) (rU fun i => .int (-i)) := unI fun _ _ _ _ _ q => neg_int q
/-! ### bools among ints: n += (a < b) -/
end

/-! ### comparisons -/
/-- the scalars that == tells apart as data does -/
def scal : V → V → Bool
  | .non, .non => true | .non, .int _ => true | .int _, .non => true | .non, .bl _ => true | .bl _, .non => true | .non, .str _ => true | .str _, .non => true
  | .int _, .int _ => true | .bl _, .bl _ => true | .str _, .str _ => true | .byt _, .byt _ => true
  | .int _, .str _ => true | .str _, .int _ => true | .bl _, .str _ => true | .str _, .bl _ => true
  | _, _ => false
def rEq : R2 := fun x y H Q => scal x y = true ∧ Q (.bl (decide (x = y))) H
def rNe : R2 := fun x y H Q => scal x y = true ∧ Q (.bl (!decide (x = y))) H

theorem dec_int {i j : Int} : decide (V.int i = V.int j) = (i == j) := by
  rw [Bool.eq_iff_iff]
  simp
theorem dec_bl {i j : Bool} : decide (V.bl i = V.bl j) = (i == j) := by
  rw [Bool.eq_iff_iff]
  simp
theorem dec_str {i j : Str} : decide (V.str i = V.str j) = (i == j) := by
  rw [Bool.eq_iff_iff]
  simp
theorem dec_byt {i j : Array UInt8} : decide (V.byt i = V.byt j) = (i.toList == j.toList) := by
  rw [Bool.eq_iff_iff]
  cases i
  cases j
  simp

section
variable {X : Cx} {a b c : Expr} {ta tb tc : TE} {pos : Pos}
theorem fin_bl {pins : List (Addr × Obj)} {σ : St} {H : Hp} {s : Shared} {Q : VK} {k k' : Bool} (I : Inv X pins σ H s) (q : Q (.bl k) H) (e : k = k') : EP X pins σ Q (.bool k') s := by
  subst e
  exact ⟨.bl k, H, I, rfl, q⟩
theorem op_eq : OpR X (compareOp .Eq) rEq := by
  intro pins s σ H x y v u Q I rx ry h
  obtain ⟨hs, q⟩ := h
  cases x with
  | non =>
    cases rx
    cases y with
    | non => cases ry; exact PySem.EqNone.eq_none_none (fin_bl I q (by simp))
    | bl j => cases ry; exact PySem.EqNone.eq_none_bool (fin_bl I q (by simp))
    | int j => obtain ⟨t', rfl⟩ := ry; exact PySem.EqNone.eq_none_int (fin_bl I q (by simp))
    | str j => obtain ⟨t', rfl⟩ := ry; exact PySem.EqNone.eq_none_str (fin_bl I q (by simp))
    | _ => exact absurd (show false = true from hs) Bool.false_ne_true
  | bl i =>
    cases rx
    cases y with
    | non => cases ry; exact PySem.EqNone.eq_bool_none (fin_bl I q (by simp))
    | bl j => cases ry; exact eq_bool (fin_bl I q dec_bl)
    | str j => obtain ⟨t', rfl⟩ := ry; exact PySem.EqMixed.eq_bool_str (fin_bl I q (by simp))
    | _ => exact absurd (show false = true from hs) Bool.false_ne_true
  | int i =>
    obtain ⟨t, rfl⟩ := rx
    cases y with
    | non => cases ry; exact PySem.EqNone.eq_int_none (fin_bl I q (by simp))
    | int j => obtain ⟨t', rfl⟩ := ry; exact eq_int (fin_bl I q dec_int)
    | str j => obtain ⟨t', rfl⟩ := ry; exact PySem.EqMixed.eq_int_str (fin_bl I q (by simp))
    | _ => exact absurd (show false = true from hs) Bool.false_ne_true
  | str i =>
    obtain ⟨t, rfl⟩ := rx
    cases y with
    | non => cases ry; exact PySem.EqNone.eq_str_none (fin_bl I q (by simp))
    | bl j => cases ry; exact PySem.EqMixed.eq_str_bool (fin_bl I q (by simp))
    | int j => obtain ⟨t', rfl⟩ := ry; exact PySem.EqMixed.eq_str_int (fin_bl I q (by simp))
    | str j => obtain ⟨t', rfl⟩ := ry; exact eq_str (fin_bl I q dec_str)
    | _ => exact absurd (show false = true from hs) Bool.false_ne_true
  | byt i =>
    obtain ⟨t, rfl⟩ := rx
    cases y with
    | byt j => obtain ⟨t', rfl⟩ := ry; exact PySem.W.eq_bytes (fin_bl I q dec_byt)
    | _ => exact absurd (show false = true from hs) Bool.false_ne_true
  | _ => cases y <;> exact absurd (show false = true from hs) Bool.false_ne_true
theorem op_ne : OpR X (compareOp .NotEq) rNe := by
  intro pins s σ H x y v u Q I rx ry h
  obtain ⟨hs, q⟩ := h
  cases x with
  | non =>
    cases rx
    cases y with
    | non => cases ry; exact PySem.EqNone.ne_none_none (fin_bl I q (by simp))
    | bl j => cases ry; exact PySem.EqNone.ne_none_bool (fin_bl I q (by simp))
    | int j => obtain ⟨t', rfl⟩ := ry; exact PySem.EqNone.ne_none_int (fin_bl I q (by simp))
    | str j => obtain ⟨t', rfl⟩ := ry; exact PySem.EqNone.ne_none_str (fin_bl I q (by simp))
    | _ => exact absurd (show false = true from hs) Bool.false_ne_true
  | bl i =>
    cases rx
    cases y with
    | non => cases ry; exact PySem.EqNone.ne_bool_none (fin_bl I q (by simp))
    | bl j => cases ry; exact ne_bool (fin_bl I q (congrArg not dec_bl))
    | str j => obtain ⟨t', rfl⟩ := ry; exact PySem.EqMixed.ne_bool_str (fin_bl I q (by simp))
    | _ => exact absurd (show false = true from hs) Bool.false_ne_true
  | int i =>
    obtain ⟨t, rfl⟩ := rx
    cases y with
    | non => cases ry; exact PySem.EqNone.ne_int_none (fin_bl I q (by simp))
    | int j => obtain ⟨t', rfl⟩ := ry; exact ne_int (fin_bl I q (congrArg not dec_int))
    | str j => obtain ⟨t', rfl⟩ := ry; exact PySem.EqMixed.ne_int_str (fin_bl I q (by simp))
    | _ => exact absurd (show false = true from hs) Bool.false_ne_true
  | str i =>
    obtain ⟨t, rfl⟩ := rx
    cases y with
    | non => cases ry; exact PySem.EqNone.ne_str_none (fin_bl I q (by simp))
    | bl j => cases ry; exact PySem.EqMixed.ne_str_bool (fin_bl I q (by simp))
    | int j => obtain ⟨t', rfl⟩ := ry; exact PySem.EqMixed.ne_str_int (fin_bl I q (by simp))
    | str j => obtain ⟨t', rfl⟩ := ry; exact ne_str (fin_bl I q (congrArg not dec_str))
    | _ => exact absurd (show false = true from hs) Bool.false_ne_true
  | byt i =>
    obtain ⟨t, rfl⟩ := rx
    cases y with
    | byt j => obtain ⟨t', rfl⟩ := ry; exact PySem.W.ne_bytes (fin_bl I q (congrArg not dec_byt))
    | _ => exact absurd (show false = true from hs) Bool.false_ne_true
  | _ => cases y <;> exact absurd (show false = true from hs) Bool.false_ne_true

theorem op_lt : OpR X (compareOp .Lt) (rI0 fun i j => .bl (decide (i < j))) := opB0 fun _ _ _ _ _ _ _ q => lt_int q
theorem op_le : OpR X (compareOp .LtE) (rI0 fun i j => .bl (decide (i ≤ j))) := opB0 fun _ _ _ _ _ _ _ q => le_int q
theorem op_gt : OpR X (compareOp .Gt) (rI0 fun i j => .bl (decide (j < i))) := opB0 fun _ _ _ _ _ _ _ q => gt_int q
theorem op_lt_str : OpR X (compareOp .Lt) (fun x y H Q => ∃ i j, x = .str i ∧ y = .str j ∧ Q (.bl (decide (i.cps.toList < j.cps.toList))) H) := by
  intro pins s σ H x y v u Q I rx ry h
  obtain ⟨i, j, rfl, rfl, q⟩ := h
  obtain ⟨t, rfl⟩ := rx
  obtain ⟨t', rfl⟩ := ry
  exact lt_str (fin_bl I q rfl)
/-- is None, is not None: the right side a value none -/
theorem op_isN : OpR X (compareOp .Is) (fun x y H Q => y = .non ∧ Q (.bl (decide (x = .non))) H) := by
  intro pins s σ H x y v u Q I rx ry h
  obtain ⟨rfl, q⟩ := h
  cases ry
  refine is_none_gen (fin_bl I q ?_)
  cases x <;> first
    | (cases rx; rfl)
    | (obtain ⟨t, rfl⟩ := rx; rfl)
theorem op_notN : OpR X (compareOp .IsNot) (fun x y H Q => y = .non ∧ Q (.bl (!decide (x = .non))) H) := by
  intro pins s σ H x y v u Q I rx ry h
  obtain ⟨rfl, q⟩ := h
  cases ry
  refine isnot_none_gen (fin_bl I q ?_)
  cases x <;> first
    | (cases rx; rfl)
    | (obtain ⟨t, rfl⟩ := rx; rfl)

/-- is, is not of two objects that are tracked lists or instances -/
def isObj : HO → Bool
  | .lst _ => true
  | .ins _ _ _ => true
  | _ => false
/-- two rules for one operation: by cases -/
theorem OpR.or {f : Value → Value → Sem Value} {r r' : R2} (h : OpR X f r) (h' : OpR X f r') : OpR X f (fun x y H Q => r x y H Q ∨ r' x y H Q) := by
  intro pins s σ H x y v u Q I rx ry q
  rcases q with q | q
  · exact h pins s σ H x y v u Q I rx ry q
  · exact h' pins s σ H x y v u Q I rx ry q

theorem nomark (b : Expr) {op : CmpOp} (h : op ≠ .In := by decide) (h2 : op ≠ .NotIn := by decide) : behindInMarks op b = false := by
  have e1 : (op == CmpOp.In) = false := by cases op <;> first | rfl | exact absurd rfl h
  have e2 : (op == CmpOp.NotIn) = false := by cases op <;> first | rfl | exact absurd rfl h2
  cases b <;> simp [behindInMarks, e1, e2]
/-- a comparison as a value; hm: nomark b, or (for in, not in) by with_unfolding_all rfl -/
theorem pe_cmpR {op : CmpOp} {r : R2} (ho : OpR X (compareOp op) r) (ha : PE X a ta) (hb : PE X b tb) (hm : behindInMarks op b = false) : PE X (.Compare a [op] [b] pos) (tOp r ta tb) := by
  intro pins s σ H Q I h
  exact wpAny_Compare1 (binT ha hb I h fun v u s2 x y H2 I2 rx ry q => ho pins s2 σ H2 x y v u Q I2 rx ry q) hm
/-! ### truth -/
/-- a value's truth by the abstract heap -/
def TruV (K : PySem.W.Frag) (x : V) (H : Hp) (k : Bool) : Prop :=
  match x with
  | .non => k = false
  | .bl b => k = b
  | .int i => k = (i != 0)
  | .str y => y.length ≤ sizeLine ∧ k = ((y.length : Int) != 0)
  | .byt y => y.size ≤ sizeLine ∧ k = ((y.size : Int) != 0)
  | .ref p => (∃ xs, SqL K H p xs ∧ k = !xs.isEmpty) ∨ (∃ xs, SqT K H p xs ∧ k = !xs.isEmpty) ∨ ∃ kvs, H p = some (.dK kvs) ∧ k = !kvs.isEmpty
  | _ => False
theorem isEmpty_kv {κ : Type} {kvs : List (κ × V)} {vs : List (κ × Value)} (r : KV kvs vs) : (!vs.isEmpty) = !kvs.isEmpty := by
  cases r <;> rfl
theorem isEmpty_of {xs : List V} {its : List Value} (r : Vals xs its) : (!its.toArray.isEmpty) = !xs.isEmpty := by
  cases r <;> simp
theorem line63 : (sizeLine : Nat) < 2 ^ 63 := by rw [sizeLine_eq]; decide
theorem tru_ok : TruR X (fun x H Q => ∃ k, TruV X.K x H k ∧ Q k H) := by
  intro pins s σ H x v Q I rx h
  obtain ⟨k, e, q⟩ := h
  have hl := line63
  have hs : sizeLine = 16777216 := sizeLine_eq
  cases x with
  | non =>
    cases rx
    have e' : k = false := e
    subst e'
    exact truthy_none ⟨H, I, q⟩
  | bl b =>
    cases rx
    have e' : k = b := e
    subst e'
    exact wpAny_truthy_bool ⟨H, I, q⟩
  | int i =>
    obtain ⟨t, rfl⟩ := rx
    have e' : k = (i != 0) := e
    subst e'
    exact PySem.P.truthy_int ⟨H, I, q⟩
  | str y =>
    obtain ⟨t, rfl⟩ := rx
    obtain ⟨hy, e'⟩ : y.length ≤ sizeLine ∧ k = ((y.length : Int) != 0) := e
    subst e'
    exact PySem.P.truthy_str (by omega) ⟨H, I.tok _, q⟩
  | byt y =>
    obtain ⟨t, rfl⟩ := rx
    obtain ⟨hy, e'⟩ : y.size ≤ sizeLine ∧ k = ((y.size : Int) != 0) := e
    subst e'
    exact PySem.W.truthy_bytes (by omega) ⟨H, I.tok _, q⟩
  | ref p =>
    cases rx
    have e' : (∃ xs, SqL X.K H p xs ∧ k = !xs.isEmpty) ∨ (∃ xs, SqT X.K H p xs ∧ k = !xs.isEmpty) ∨ ∃ kvs, H p = some (.dK kvs) ∧ k = !kvs.isEmpty := e
    rcases e' with ⟨xs, hx, e'⟩ | ⟨xs, hx, e'⟩ | ⟨kvs, hx, e'⟩
    · subst e'
      obtain ⟨its, r, pl, hz⟩ := I.list hx
      have hlen := r.length
      exact wpAny_truthy_list pl.isList (by simp only [List.size_toArray]; omega) ⟨H, I.tok _, by rw [isEmpty_of r]; exact q⟩
    · subst e'
      obtain ⟨its, r, pl, hz⟩ := I.tuple hx
      have hlen := r.length
      exact truthy_tuple pl (by simp only [List.size_toArray]; omega) ⟨H, I.tok _, by rw [isEmpty_of r]; exact q⟩
    · subst e'
      obtain ⟨hz, hS, vs, r, m⟩ : kvs.length ≤ sizeLine ∧ (p == sysModules) = false ∧ ∃ vs, KV kvs vs ∧ s.heap.DictOf (mixKind X.prog X.w) p vs := I.hok p _ hx
      have hlen : kvs.length = vs.length := Paired.length r
      exact wpAny_truthy_dict hS m (by omega) ⟨H, I.tok _, by rw [isEmpty_kv r]; exact q⟩
  | _ => exact (show False from e).elim
/-- any expression whose test is its value's truth (a name, a call, a subscript, a field ..: he by fun _ => rfl) -/
theorem pt_truth (ha : PE X a ta) (he : ∀ whole, isTrue a X.env whole = (do let v ← whole; standAt a.pos; holding [v] (truthy v))) :
    PT X a (fun σ H Q => ta σ H fun x H' => ∃ k, TruV X.K x H' k ∧ Q k H') := by
  intro pins s σ H Q I h
  exact isTrue_plain (thn (ha pins s σ H _ I h) fun v s1 ⟨x, H1, I1, r1, q1⟩ => tru_ok pins s1 σ H1 x v Q I1 r1 q1) (he _)

/-! ### strs and bytes -/
theorem op_add_str : OpR X (binaryOp .Add) (fun x y H Q => ∃ i j, x = .str i ∧ y = .str j ∧ i.length + j.length ≤ sizeLine ∧ Q (.str (i ++ j)) H) := by
  intro pins s σ H x y v u Q I rx ry h
  obtain ⟨i, j, rfl, rfl, hz, q⟩ := h
  obtain ⟨t, rfl⟩ := rx
  obtain ⟨t', rfl⟩ := ry
  exact add_str (fun t' tk => ⟨.str (i ++ j), H, I.tok _, ⟨_, rfl⟩, q⟩) hz
/-! ### scalar builtins, by CallR -/
theorem vals1 {x : V} {us : List Value} (r : Vals [x] us) : ∃ u, us = [u] ∧ RelV x u := by
  cases r with
  | cons r1 r2 => cases r2; exact ⟨_, rfl, r1⟩
theorem vals2 {x y : V} {us : List Value} (r : Vals [x, y] us) : ∃ u w', us = [u, w'] ∧ RelV x u ∧ RelV y w' := by
  cases r with
  | cons r1 r2 =>
    cases r2 with
    | cons r3 r4 => cases r4; exact ⟨_, _, rfl, r1, r3⟩
theorem call_abs : CallR X (.builtin "abs") (fun xs H Q => ∃ i, xs = [.int i] ∧ Q (.int (if i < 0 then -i else i)) H) := by
  intro pins s σ H xs us Q I r h
  obtain ⟨i, rfl, q⟩ := h
  obtain ⟨u, rfl, t, rfl⟩ := vals1 r
  exact call_abs_int fun u tk => ⟨.int (if i < 0 then -i else i), H, I.tok _, ⟨_, rfl⟩, q⟩
end
end L2

namespace L2
open PySem PySem.Spec PyProof.Rows

/-! ### an instance, its attributes a map -/
structure ObjM (h : Heap) (x dx C : Addr) (mA : Str → Option Value) : Prop where
  obj : h.get? x = some (PySem.W.instObj C dx)
  ns : h.Ns1 dx mA
  ne : dx ≠ x

theorem lookIn_ns {h : Heap} {dx : Addr} {mA : Str → Option Value} (n : h.Ns1 dx mA) : ∃ od, h.get? dx = some od ∧ ∀ name, PySem.W.lookIn name od = some (mA name) := by
  obtain ⟨o, es, ep, ho, hd, hk, _, hm⟩ := n
  refine ⟨o, ho, fun name => ?_⟩
  have e := hm name
  unfold nsFind findBy at e
  rw [← Array.find?_toList] at e
  unfold PySem.W.lookIn
  rw [hd]
  dsimp only
  split
  · rename_i y q
    rw [q] at e
    exact congrArg some e
  · rename_i q
    rw [q] at e
    have a : es.toList.any (·.refKey) = false := by
      rw [List.any_eq_false]
      intro y hy
      obtain ⟨z, t, hkey⟩ := hk y (Array.mem_toList_iff.mp hy)
      simp [DictEntry.refKey, hkey]
    have a' : ¬ es.toList.any (·.refKey) = true := by rw [a]; exact Bool.false_ne_true
    rw [if_neg a']
    exact congrArg some e

theorem ObjM.look {h : Heap} {x dx C : Addr} {mA : Str → Option Value} (I : ObjM h x dx C mA) : ∃ od, PySem.W.InstAt h x (PySem.W.instObj C dx) C (some od) ∧ ∀ name, PySem.W.lookIn name od = some (mA name) :=
  let ⟨od, ho, hl⟩ := lookIn_ns I.ns
  ⟨od, ⟨I.obj, rfl, rfl, ho⟩, hl⟩

section
variable {prog : Program} {w : World} {A : Around} {E : Value → Shared → Prop} {s : Shared} {K : PySem.W.Frag} {x dx C f : Addr} {mA : Str → Option Value} {name : Str} {v : Value}

end

/-! ### the attributes as a list of pairs -/
theorem RelO.none_of {o : Option Value} (r : RelO none o) : o = none := by
  cases o with
  | none => rfl
  | some u => exact (show False from r).elim
section
variable {P : Program} {w : World} {H H' : Hp} {h h' : Heap} {a C dx : Addr} {fs fs' : List (Str × V)}
theorem ins_get (hok : HOk P w H h) (e : H a = some (.ins C dx fs)) : ∃ mA, ObjM h a dx C mA ∧ (∀ f, RelO (fs.lookup f) (mA f)) ∧ PySem.Within mA (fs.map (·.1)) ∧ fs.length ≤ 1000 ∧ H dx = some (.own a) := by
  obtain ⟨d, z, ne, ob, mA, n, r, q⟩ := (show ObjOk P w H h a (.ins C dx fs) from hok a _ e)
  exact ⟨mA, ⟨ob, n, ne⟩, r, q, z, d⟩
end

/-! ### what of the text a class must have -/
structure Cls (K : PySem.W.Frag) (C : Addr) : Prop where
  pg : PySem.W.plainGet K C Str.empty = true
  hd : PySem.W.hasDictIn K C = true
  po : PySem.W.plainOver K C = true
  sa : PySem.W.findIn K (.ref C) "__setattr__" = some (some (.builtin "object.__setattr__"))
theorem Cls.get {K : PySem.W.Frag} {C : Addr} (c : Cls K C) (f : Str) : PySem.W.plainGet K C f = true := c.pg
/-- a constant of the class -/
structure Con (K : PySem.W.Frag) (C : Addr) (f : Str) (v : V) (u : Value) : Prop where
  at_ : PySem.W.findIn K (.ref C) f = some (some u)
  rel : RelV v u
  get : PySem.W.specialIn K u "__get__" = some none
  cp : PySem.W.copiedNames.contains f = false
/-- a method: a plain def of the class or of one above it -/
structure Meth (K : PySem.W.Frag) (C : Addr) (m : Str) (f : Addr) : Prop where
  at_ : PySem.W.findIn K (.ref C) m = some (some (.ref f))
  fn : PySem.W.isFn K (.ref f) = true
  kp : PySem.W.keepIn K (.ref f) = true

section
variable {X : Cx} {pins : List (Addr × Obj)} {σ : St} {H : Hp} {s : Shared} {a C dx : Addr} {fs : List (Str × V)} {f : Str} {v : V} {A : Around} {E : Value → Shared → Prop}

/-- a new instance, tracked, without attributes -/
theorem Inv.made (I : Inv X pins σ H s) : Inv X pins σ (upd (upd H s.heap.objs.size (.own (s.heap.objs.size + 1))) (s.heap.objs.size + 1) (.ins C s.heap.objs.size []))
    { s with heap := (s.heap.push PySem.W.emptyDict).push (PySem.W.instObj C s.heap.objs.size) } := by
  have e1 : (s.heap.push PySem.W.emptyDict).get? s.heap.objs.size = some PySem.W.emptyDict := Heap.get?_push_size s.heap rfl
  have e2 : ((s.heap.push PySem.W.emptyDict).push (PySem.W.instObj C s.heap.objs.size)).get? (s.heap.objs.size + 1) = some (PySem.W.instObj C s.heap.objs.size) := by
    have := Heap.get?_push_size (s.heap.push PySem.W.emptyDict) (o := PySem.W.instObj C s.heap.objs.size) rfl
    rwa [Heap.size_push] at this
  have e3 : (s.heap.push PySem.W.emptyDict).Ns s.heap.objs.size (fun _ => none) := ⟨PySem.W.emptyDict, #[], _, e1, rfl, (fun e he => absurd he (by simp)), fun _ => rfl⟩
  have I1 := I.laid (a := s.heap.objs.size) (o := .own (s.heap.objs.size + 1)) (h' := s.heap.push PySem.W.emptyDict) (t' := s.toks) (fun b u q => Heap.get?_push_of_some _ q) (Nat.le_refl _) ⟨_, e1⟩
  refine I1.laid (a := s.heap.objs.size + 1) (o := .ins C s.heap.objs.size []) (t' := s.toks) (fun b u q => Heap.get?_push_of_some _ q) (Nat.le_of_eq (Heap.size_push _ _)) ?_
  have ne : s.heap.objs.size ≠ s.heap.objs.size + 1 := Nat.ne_of_lt (Nat.lt_succ_self _)
  refine ⟨by rw [upd_ne ne, upd_same], Nat.zero_le _, ne, e2, fun _ => none, (Heap.Ns1.of_empty e3).at fun o q => Heap.get?_push_of_some _ q, fun _ => True.intro, fun y hy => absurd rfl hy⟩

end

/-! ### readings and rules -/
section
variable {X : Cx} {o e value : Expr} {f : Str} {pos pos' tpos : Pos} {ta tv : TE}
end

/-! ### isinstance -/
section
variable {X : Cx} {pins : List (Addr × Obj)} {σ : St} {H : Hp} {s : Shared} {A : Around} {E : Value → Shared → Prop} {Q : Value → Shared → Prop} {c : Value} {b : Bool}
/-- the type of a value, as the fragment's deciders take it; for an instance its class -/
inductive TyOf (K : PySem.W.Frag) (H : Hp) : V → Value → Prop where
  | non : TyOf K H .non (.type "NoneType")
  | bl (x : Bool) : TyOf K H (.bl x) (.type "bool")
  | int (i : Int) : TyOf K H (.int i) (.type "int")
  | str (x : Str) : TyOf K H (.str x) (.type "str")
  | flt (x : UInt64) : TyOf K H (.flt x) (.type "float")
  | lst {a : Addr} {xs : List V} (e : H a = some (.lst xs)) : TyOf K H (.ref a) (.type "list")
  | frz {a : Addr} {o : Obj} {xs : List V} (e : H a = some (.frz o (.lst xs))) : TyOf K H (.ref a) (.type "list")
  | tup {a : Addr} {xs : List V} (e : H a = some (.tup xs)) : TyOf K H (.ref a) (.type "tuple")
  | dK {a : Addr} {kvs : List (Key × V)} (e : H a = some (.dK kvs)) : TyOf K H (.ref a) (.type "dict")
  | dT {a : Addr} {kvs : List (List Key × V)} (e : H a = some (.dT kvs)) : TyOf K H (.ref a) (.type "dict")
  | ins {a C dx : Addr} {fs : List (Str × V)} (e : H a = some (.ins C dx fs)) (cl : Cls K C) (ha : PySem.W.findIn K (.ref C) "__class__" = some (some (.builtin "object.__class__")))
      (hn : PySem.W.specialIn K (.builtin "object.__class__") "__get__" = some (some (.builtin "getset_descriptor.__get__"))) (htk : PySem.W.takesIn K (.builtin "object.__class__") = some true)
      (hm : PySem.W.mroIn K C (.type "object") = some true) : TyOf K H (.ref a) (.ref C)
end
end L2

namespace L2
open PySem PySem.Spec PyProof.Rows

/-! ### room -/
structure Room (k : Nat) (A : Around) : Prop where
  hd : A.handled = none
  dp : A.depth + 3 * k + 5 < recursionLimit
  un : A.units + 16 * k + 200 < cLine
theorem Room.mono {j k : Nat} {A : Around} (r : Room k A) (h : j ≤ k) : Room j A := ⟨r.hd, by have := r.dp; omega, by have := r.un; omega⟩
theorem Room.deeper {k : Nat} {A : Around} (r : Room (k + 1) A) (env : Env) : Room k (A.deeper env) :=
  ⟨r.hd, by have := r.dp; show A.depth + 1 + 3 * k + 5 < _; omega, by have := r.un; show A.units + 3 + 16 * k + 200 < _; omega⟩
theorem Room.in1 {k : Nat} {A : Around} (r : Room (k + 1) A) : Room k A.in1 :=
  ⟨r.hd, by have := r.dp; show A.depth + 3 * k + 5 < _; omega, by have := r.un; show A.units + 1 + 16 * k + 200 < _; omega⟩
theorem make_depth {A : Around} {C : Addr} {us : List Value} {kw : List (Str × Value)} : (A.under (.builtin "type.__call__" ⟨.ref C :: us, kw⟩)).depth = A.depth + 1 := by
  first | rfl | simp [Around.under, Code.weight, Code.isCreation, Code.isGuard, Code.isCaller, Code.frames, Code.isFrame, guardIds]
theorem make_units {A : Around} {C : Addr} {us : List Value} {kw : List (Str × Value)} : (A.under (.builtin "type.__call__" ⟨.ref C :: us, kw⟩)).units = A.units + 1 := by
  first | rfl | simp [Around.under, Code.cUnits, Code.frames, Code.isFrame]
theorem Room.make {k : Nat} {A : Around} (r : Room (k + 1) A) (C : Addr) (us : List Value) (kw : List (Str × Value)) : Room k (A.under (.builtin "type.__call__" ⟨.ref C :: us, kw⟩)) :=
  ⟨r.hd, by have := r.dp; rw [make_depth]; omega, by have := r.un; rw [make_units]; omega⟩
theorem Room.depth {k : Nat} {A : Around} (r : Room k A) : A.depth < recursionLimit := by have := r.dp; omega
theorem Room.units {k : Nat} {A : Around} (r : Room k A) : A.units + 64 < cLine := by have := r.un; omega
/-! ### argument lists and displays -/
def tNil : TA := fun _ H Q => Q [] H
def tCons (ta : TE) (tr : TA) : TA := fun σ H Q => ta σ H fun x H1 => tr σ H1 fun xs H2 => Q (x :: xs) H2
section
variable {X : Cx} {e : Expr} {es : List Expr} {te : TE} {t : TA} {pos : Pos}
theorem pa_nil : PA X [] tNil := fun _ _ _ _ H Q I h => Calls.spliced_nil ⟨[], H, I, .nil, h⟩
theorem pa_cons (ha : PE X e te) (hr : PA X es t) (hs : starEach (e :: es) X.env = (false, eval e X.env) :: starEach es X.env := by rfl) : PA X (e :: es) (tCons te t) := by
  intro pos pins s σ H Q I h
  rw [hs]
  show wpAny _ _ (spliced ((false, eval e X.env) :: backTo pos (starEach es X.env))) _ _ s
  refine Calls.spliced_cons (thn (ha pins s σ H _ I h) fun u s1 ⟨x, H1, I1, r1, q1⟩ => ?_)
  exact thn (hr pos pins s1 σ H1 _ I1 q1) fun us s2 ⟨xs, H2, I2, r2, q2⟩ => ⟨x :: xs, H2, I2, .cons r1 r2, q2⟩

/-- a tuple, a list of written items -/
def tTup (t : TA) : TE := fun σ H Q => t σ H fun xs H1 => xs.length ≤ sizeLine ∧ ∀ p, H1 p = none → Q (.ref p) (upd H1 p (.tup xs))
def tLst (t : TA) : TE := fun σ H Q => t σ H fun xs H1 => xs.length ≤ sizeLine ∧ ∀ p, H1 p = none → Q (.ref p) (upd H1 p (.lst xs))
theorem pe_tup {x1} (h : PA X es t) : PE X (.Tuple es x1 pos) (tTup t) := by
  intro pins s σ H Q I hq
  refine wpAny_Tuple_spliced (thn (h pos pins s σ H _ I hq) fun us s1 ⟨xs, H1, I1, r, z, q⟩ => ⟨by rw [← r.length]; exact z, ?_⟩)
  have hf : H1 s1.heap.objs.size = none := I1.hok.fresh (Nat.le_refl _)
  refine ⟨.ref s1.heap.objs.size, upd H1 s1.heap.objs.size (.tup xs), I1.laid (t' := s1.toks) (fun b u e => Heap.get?_push_of_some _ e) (Nat.le_refl _) ?_, rfl, q _ hf⟩
  exact ⟨z, us, r, ⟨_, Heap.get?_push_size _ rfl, rfl, _, rfl⟩⟩
theorem pe_lst (h : PA X es t) : PE X (.List es pos) (tLst t) := by
  intro pins s σ H Q I hq
  refine wpAny_List_spliced (thn (h pos pins s σ H _ I hq) fun us s1 ⟨xs, H1, I1, r, z, q⟩ => ⟨by rw [← r.length]; exact z, ?_⟩)
  have hf : H1 s1.heap.objs.size = none := I1.hok.fresh (Nat.le_refl _)
  refine ⟨.ref s1.heap.objs.size, upd H1 s1.heap.objs.size (.lst xs), I1.laid (t' := s1.toks) (fun b u e => Heap.get?_push_of_some _ e) (Nat.le_refl _) ?_, rfl, q _ hf⟩
  exact ⟨z, us, 0, r, Heap.get?_push_size _ rfl⟩
end

/-! ### what a def promises -/
/-- a def's promise: the bound arguments in the parameters' order, the heap, the wanted end, the wanted exception -/
abbrev Sp := List V → Hp → VK → XK → Prop
/-- how an exception lies behind a call (file 08 gives it): the callers' frames, abstract heap and state ahead of the call, the wish, the exception, the state -/
abbrev CXT := List Env → Hp → Shared → XK → Value → Shared → Prop

/-- the state at a call -/
structure Env0 (P : Program) (w : World) (K : PySem.W.Frag) (mg : Str → Option Value) (base : Heap) (A : Around) (outer : List Env) (s : Shared) (H : Hp) : Prop where
  frames : A.frames = some outer
  mod : Mod K mg base
  bs : ∀ b o, base.get? b = some o → s.heap.get? b = some o ∧ H b = none
  bsz : base.objs.size ≤ s.heap.objs.size
  funs : s.heap.FunFrames base outer
  frf : ∀ b ∈ frs outer, H b = none
  hok : HOk P w H s.heap
  bare : AllBare s.gens
/-- a call's end -/
def CE (outer : List Env) (P : Program) (w : World) (H : Hp) (s : Shared) (Q : VK) (u : Value) (s' : Shared) : Prop :=
  ∃ v H', s'.os = s.os ∧ AllBare s'.gens ∧ Un (frs outer) [] H H' s.heap s'.heap ∧ HOk P w H' s'.heap ∧ RelV v u ∧ Q v H'
def CR (CX : CXT) (outer : List Env) (P : Program) (w : World) (H : Hp) (s : Shared) (Q : VK) (E : XK) (r : Result) (s' : Shared) : Prop :=
  match r with
  | .ok (.ret u) => CE outer P w H s Q u s'
  | .ok _ => False
  | .error e => CX outer H s E e s'
structure FnOk (P : Program) (w : World) (K : PySem.W.Frag) (mg : Str → Option Value) (base : Heap) (CX : CXT) (k : Nat) (f : Addr) (fd : FuncData) (ps : List Str) (sp : Sp) : Prop where
  len : ∀ vs H Q E, sp vs H Q E → vs.length = ps.length
  run : ∀ (A : Around) (outer : List Env) (s : Shared) (H : Hp) (args : Args) (us : List Value) (vs : List V) (Q : VK) (E : XK), Room k A → Env0 P w K mg base A outer s H → BindsTo s fd args (ps.zip us) → Vals vs us → sp vs H Q E →
    codeAny (model P w) A (.call (.ref f) args) (CR CX outer P w H s Q E) s
theorem FnOk.mono {P : Program} {w : World} {K : PySem.W.Frag} {mg : Str → Option Value} {base : Heap} {CX : CXT} {j k : Nat} {f : Addr} {fd : FuncData} {ps : List Str} {sp : Sp} (F : FnOk P w K mg base CX j f fd ps sp) (h : j ≤ k) :
    FnOk P w K mg base CX k f fd ps sp := ⟨F.len, fun A outer s H args us vs Q E hr => F.run A outer s H args us vs Q E (hr.mono h)⟩
/-- a weaker promise -/
theorem FnOk.imp {P : Program} {w : World} {K : PySem.W.Frag} {mg : Str → Option Value} {base : Heap} {CX : CXT} {k : Nat} {f : Addr} {fd : FuncData} {ps : List Str} {sp sp' : Sp} (F : FnOk P w K mg base CX k f fd ps sp)
    (h : ∀ vs H Q E, sp' vs H Q E → sp vs H Q E) : FnOk P w K mg base CX k f fd ps sp' :=
  ⟨fun vs H Q E q => F.len vs H Q E (h _ _ _ _ q), fun A outer s H args us vs Q E hr he hb hv hs => F.run A outer s H args us vs Q E hr he hb hv (h _ _ _ _ hs)⟩

theorem Env0.make {P : Program} {w : World} {K : PySem.W.Frag} {mg : Str → Option Value} {base : Heap} {A : Around} {outer : List Env} {s : Shared} {H : Hp} (e : Env0 P w K mg base A outer s H) (C : Addr) (us : List Value) (kw : List (Str × Value)) :
    Env0 P w K mg base (A.under (.builtin "type.__call__" ⟨.ref C :: us, kw⟩)) outer s H := ⟨by first | exact e.frames | (simpa [Around.under, Code.envs, Code.isFrame, pushEnvs] using e.frames), e.mod, e.bs, e.bsz, e.funs, e.frf, e.hok, e.bare⟩
theorem Env0.in1 {P : Program} {w : World} {K : PySem.W.Frag} {mg : Str → Option Value} {base : Heap} {A : Around} {outer : List Env} {s : Shared} {H : Hp} (e : Env0 P w K mg base A outer s H) :
    Env0 P w K mg base A.in1 outer s H := ⟨e.frames, e.mod, e.bs, e.bsz, e.funs, e.frf, e.hok, e.bare⟩

section
variable {X : Cx} {pins : List (Addr × Obj)} {σ : St} {H : Hp} {s s' : Shared}
/-- from a body: what a callee wants -/
theorem Inv.env0 (I : Inv X pins σ H s) : Env0 X.prog X.w X.K X.mg X.base X.A X.stack s H :=
  ⟨I.ok.frames, I.ok.mod, I.bs, Nat.le_trans I.ok.bsz I.sz, I.stack, I.stkFree, I.hok, I.bare⟩
/-- behind a call -/
theorem Inv.after {Q : VK} {u : Value} (I : Inv X pins σ H s) (h : CE X.stack X.prog X.w H s Q u s') : EP X pins σ Q u s' := by
  obtain ⟨v, H', os, bare, un, hok, r, q⟩ := h
  obtain ⟨hh, g, d, t, os'⟩ := s'
  obtain rfl : os' = s.os := os
  exact ⟨v, H', I.call (h' := hh) (g' := g) (d' := d) (t' := t) (ch := []) un hok bare (fun b z => absurd z (by simp)), r, q⟩
end

/-! ### calls -/
/-- f(..): the written arguments, then the defaults dvs; E: what is wanted of an exception -/
def tCall (sp : Sp) (dvs : List V) (E : XK) (t : TA) : TE := fun σ H Q => t σ H fun vs H1 => sp (vs ++ dvs) H1 Q E
/-- how the parameters are bound: us the positional arguments, kw the keywords' values by name, ds the defaults that fill up -/
def Binds (K : PySem.W.Frag) (fd : FuncData) (ps : List Str) (ds : List Value) : Prop :=
  ∀ (s : Shared) (us : List Value), K.In s.heap → (us ++ ds).length = ps.length → BindsTo s fd ⟨us, []⟩ (ps.zip (us ++ ds))
/-- every parameter is given -/
theorem Binds.all {K : PySem.W.Frag} {fd : FuncData} {ps : List Str} (h : ∀ us : List Value, us.length = ps.length → bindArgs fd ⟨us, []⟩ = pure (ps.zip us)) : Binds K fd ps [] := fun s us _ hl => by
  rw [List.append_nil] at hl ⊢
  exact .of_eq (h us hl)

/-- an exception of a callee reaches what this body wants of exceptions -/
def Passes (CX : CXT) (X : Cx) (E : XK) : Prop := ∀ (pins : List (Addr × Obj)) (σ : St) (H : Hp) (s : Shared) (e : Value) (s' : Shared), Inv X pins σ H s → CX X.stack H s E e s' → X.xe e s'

section
variable {X : Cx} {CX : CXT} {k : Nat} {f C : Addr} {fd : FuncData} {ps : List Str} {sp : Sp} {dvs : List V} {ds : List Value} {E : XK} {x m : Str} {p pos apos : Pos} {e o : Expr} {es : List Expr} {ta : TE} {t : TA}

/-- the callee runs -/
theorem run_fn {pins : List (Addr × Obj)} {σ : St} {H : Hp} {s : Shared} {Q : VK} {us : List Value} {vs : List V} (F : FnOk X.prog X.w X.K X.mg X.base CX k f fd ps sp) (hr : Room k X.A) (hb : Binds X.K fd ps ds) (hd : Vals dvs ds) (hx : Passes CX X E)
    (I : Inv X pins σ H s) (r : Vals vs us) (h : sp (vs ++ dvs) H Q E) : wpAny (model X.prog X.w) X.A (call (.ref f) us) (EP X pins σ Q) X.xe s := by
  have r2 : Vals (vs ++ dvs) (us ++ ds) := r.append hd
  have hl : (us ++ ds).length = ps.length := by rw [← r2.length]; exact F.len _ _ _ _ h
  refine wpAny_call (codeAny_mono (F.run X.A X.stack s H ⟨us, []⟩ (us ++ ds) (vs ++ dvs) Q E hr I.env0 (hb s us I.kIn hl) r2 h) fun r s' hq => ?_)
  cases r with
  | error e => exact hx pins σ H s e s' I hq
  | ok fl =>
    cases fl with
    | ret u => exact I.after hq
    | next => exact False.elim hq
    | brk => exact False.elim hq
    | cont => exact False.elim hq

theorem pe_call (F : FnOk X.prog X.w X.K X.mg X.base CX k f fd ps sp) (hr : Room k X.A) (hg : Gl X x) (hm : X.mg x = some (.ref f)) (hk : PySem.W.keepIn X.K (.ref f) = true) (hb : Binds X.K fd ps ds) (hd : Vals dvs ds) (hx : Passes CX X E)
    (ha : PA X (e :: es) t) (hdb : (x == ("__debug__" : Str)) = false := by decide) (he : starEach (e :: es) X.env = (false, eval e X.env) :: starEach es X.env := by rfl) (hpl : (backTo pos (starEach es X.env)).any (·.1) = false := by rfl) :
    PE X (.Call (.Name x p) (e :: es) [] pos) (tCall sp dvs E t) := by
  intro pins s σ H Q I h
  refine wpAny_Call_Name_kw (ld_glob I hg hm ?_ hdb)
  refine PySem.W.callWith_K (h₀ := X.base) I.ok.mod.kin hk (thn (ha pos pins s σ H _ I h) fun us s1 ⟨vs, H1, I1, r, q⟩ => ⟨I1.kIn, ?_⟩) he hpl
  exact run_fn F hr hb hd hx I1 r q
/-- what a class must have to be made -/
structure Mk (K : PySem.W.Frag) (C f : Addr) : Prop where
  makes : PySem.W.makesIn K C = true
  init : PySem.W.findIn K (.ref C) "__init__" = some (some (.ref f))
  fn : PySem.W.isFn K (.ref f) = true
  kp : PySem.W.keepIn K (.ref C) = true

end

/-! ### keywords -/
section
variable {X : Cx} {CX : CXT} {k : Nat} {f C : Addr} {fd : FuncData} {ps ks : List Str} {sp : Sp} {E : XK} {x m : Str} {p pos apos kpos : Pos} {e o : Expr} {es : List Expr} {kws : List Keyword} {te ta : TE} {t tk : TA} {nm : Option Str}
/-- how a call with keywords binds: g puts the positional values us and the keywords' values ws (names ks) in the parameters' order, defaults among them -/
structure KBinds (K : PySem.W.Frag) (fd : FuncData) (ps ks : List Str) (g : List Value → List Value → List Value) (gV : List V → List V → List V) : Prop where
  to : ∀ (s : Shared) (us ws : List Value), K.In s.heap → (g us ws).length = ps.length → BindsTo s fd ⟨us, ks.zip ws⟩ (ps.zip (g us ws))
  rel : ∀ {vs : List V} {us : List Value} {zs : List V} {ws : List Value}, Vals vs us → Vals zs ws → Vals (gV vs zs) (g us ws)
variable {g : List Value → List Value → List Value} {gV : List V → List V → List V}
end

/-! ### a def's body keeps its promise -/
/-- names: the parameters first -/
structure FnScope (N P : List Str) (sc : Scope) : Prop where
  kind : sc.kind = .function
  co : sc.isCoroutine = false
  gen : sc.isGenerator = false
  nd : N.Nodup
  pre : N.take P.length = P
  par : ∀ x ∈ P, sc.names.lookup x = some .local ∨ sc.names.lookup x = some .cell
  nofree : ∀ y ∈ sc.names, y.2 ≠ .free

theorem bindL_out {kindOf : Str → Option NameKind} {x : Str} : ∀ {binds : List (Str × Value)} {m : Str → Option Value}, (∀ v, (x, v) ∉ binds) → bindL kindOf binds m x = m x
  | [], _, _ => rfl
  | (n, v) :: r, m, h => by
    unfold bindL
    rw [bindL_out fun w hw => h w (List.mem_cons_of_mem _ hw)]
    split
    · have : x ≠ n := by rintro rfl; exact h v List.mem_cons_self
      simp [this]
    · rfl
theorem bindC_out {kindOf : Str → Option NameKind} {x : Str} : ∀ {binds : List (Str × Value)} {m : Str → Option Value}, (∀ v, (x, v) ∉ binds) → bindC kindOf binds m x = m x
  | [], _, _ => rfl
  | (n, v) :: r, m, h => by
    unfold bindC
    rw [bindC_out fun w hw => h w (List.mem_cons_of_mem _ hw)]
    split
    · rfl
    · have : x ≠ n := by rintro rfl; exact h v List.mem_cons_self
      simp [this]
theorem bindL_get {kindOf : Str → Option NameKind} {x : Str} {v : Value} : ∀ {P : List Str} {vs : List Value} {i : Nat} {m : Str → Option Value}, P.Nodup → P[i]? = some x → vs[i]? = some v → kindOf x = some .local →
    bindL kindOf (P.zip vs) m x = some v
  | [], _, _, _, _, h, _, _ => by simp at h
  | _ :: _, [], _, _, _, _, h, _ => by simp at h
  | p :: P, w :: vs, 0, m, nd, h1, h2, hk => by
    simp at h1 h2; subst h1; subst h2
    show bindL kindOf ((p, w) :: P.zip vs) m p = _
    unfold bindL
    rw [bindL_out fun v hv => (List.nodup_cons.mp nd).1 (List.of_mem_zip hv).1, if_pos hk]
    simp
  | p :: P, w :: vs, i + 1, m, nd, h1, h2, hk => by
    show bindL kindOf ((p, w) :: P.zip vs) m x = _
    unfold bindL
    exact bindL_get (i := i) (List.nodup_cons.mp nd).2 (by simpa using h1) (by simpa using h2) hk
theorem bindC_get {kindOf : Str → Option NameKind} {x : Str} {v : Value} : ∀ {P : List Str} {vs : List Value} {i : Nat} {m : Str → Option Value}, P.Nodup → P[i]? = some x → vs[i]? = some v → kindOf x ≠ some .local →
    bindC kindOf (P.zip vs) m x = some v
  | [], _, _, _, _, h, _, _ => by simp at h
  | _ :: _, [], _, _, _, _, h, _ => by simp at h
  | p :: P, w :: vs, 0, m, nd, h1, h2, hk => by
    simp at h1 h2; subst h1; subst h2
    show bindC kindOf ((p, w) :: P.zip vs) m p = _
    unfold bindC
    rw [bindC_out fun v hv => (List.nodup_cons.mp nd).1 (List.of_mem_zip hv).1, if_neg hk]
    simp
  | p :: P, w :: vs, i + 1, m, nd, h1, h2, hk => by
    show bindC kindOf ((p, w) :: P.zip vs) m x = _
    unfold bindC
    exact bindC_get (i := i) (List.nodup_cons.mp nd).2 (by simpa using h1) (by simpa using h2) hk

/-- the names' values at the entry -/
def start (N : List Str) (vs : List V) : St := vs.map some ++ List.replicate (N.length - vs.length) none

/-- the context of a def's body, at its entry; an exception leaves the frame, then lies as CX says -/
def cxOf (CX : CXT) (P : Program) (w : World) (K : PySem.W.Frag) (mg : Str → Option Value) (base : Heap) (N : List Str) (qual : Str) (scope : Scope) (f : Addr) (cd : Value) (A : Around) (outer : List Env) (s : Shared) (H : Hp) (E : XK) : Cx where
  prog := P
  w := w
  K := K
  mg := mg
  base := base
  A := A.deeper (envOfC qual scope s.heap.objs.size f cd)
  N := N
  s₀ := s
  H₀ := H
  env := envOfC qual scope s.heap.objs.size f cd
  outer := outer
  stack := envOfC qual scope s.heap.objs.size f cd :: outer
  ex := []
  calm := true
  fn := fun _ => true
  pn := []
  xe := fun e s' => wpAny (model P w) (A.deeper (envOfC qual scope s.heap.objs.size f cd)) (leaving (envOfC qual scope s.heap.objs.size f cd) e) (fun _ s'' => CX outer H s E e s'') (fun e' s'' => CX outer H s E e' s'') s'

theorem cell_has {sc : Scope} {n : Nat} {x : Str} (h : sc.names.lookup x = some .cell) : ∃ c, (cellsFrom n sc.names []).lookup x = some c := by
  have q := PySem.W.cellsFrom_some sc.names n [] (.inl h)
  exact Option.isSome_iff_exists.mp q

theorem inv_start {CX : CXT} {P : Program} {w : World} {K : PySem.W.Frag} {mg : Str → Option Value} {base : Heap} {N ps : List Str} {qual : Str} {scope : Scope} {f : Addr} {cd : Value} {A : Around} {outer : List Env} {s s1 : Shared} {H : Hp} {E : XK} {us : List Value} {vs : List V}
    (S : FnScope N ps scope) (hd : A.handled = none) (e0 : Env0 P w K mg base A outer s H) (hl : vs.length = ps.length) (r : Vals vs us)
    (x : InCallC s s.heap.objs.size (bindL (envOfC qual scope s.heap.objs.size f cd).kindOf (ps.zip us) fun _ => none) (cellsFrom (s.heap.objs.size + 1) scope.names []) (bindC (envOfC qual scope s.heap.objs.size f cd).kindOf (ps.zip us) fun _ => none) s1) :
    Inv (cxOf CX P w K mg base N qual scope f cd A outer s H E) [] (start N vs) H s1 := by
  have hpl : ps.length ≤ N.length := by have := congrArg List.length S.pre; rw [List.length_take] at this; omega
  obtain ⟨h1, tk, rfl, hk⟩ := x.done
  have noA : ∀ b : Addr, b ∉ (cxOf CX P w K mg base N qual scope f cd A outer s H E).ex := fun b z => absurd (show b ∈ ([] : List Addr) from z) (by simp)
  refine ⟨⟨e0.mod, S.kind, rfl, rfl, Nat.le_refl _, fun y z c h1 h2 => ?_, fun y hy => ?_, fun y c _ h => ?_, fun _ => hd, Around.frames_deeper e0.frames, .inr ⟨rfl, rfl⟩, fun b z => absurd z (noA b), e0.bs, e0.bsz, fun b _ _ => noA b, fun b z => absurd z (noA b), e0.funs, e0.frf⟩,
    rfl, e0.bare, Un.kept hk, ⟨_, x.toInCall.ns, fun i y v h1 h2 h3 => ?_⟩, fun y c h => ⟨_, x.cell y c h⟩, e0.hok.fresh (Nat.le_refl _), fun y c h => ?_, fun p hp => absurd (show p ∈ ([] : List (Addr × Obj)) from hp) (by simp), e0.hok.kept hk, ?_⟩
  · exact name_of_addr x.apart (PySem.mem_of_lookup h1) (PySem.mem_of_lookup h2)
  · have hy : scope.names.lookup y = some .cell ∨ scope.names.lookup y = some .free := hy
    rcases hy with hy | hy
    · exact cell_has hy
    · exact absurd rfl (S.nofree _ (PySem.mem_of_lookup hy))
  · exact Nat.le_of_lt (x.above y c (PySem.mem_of_lookup h))
  · have hi : i < vs.length := by
      unfold start at h2
      by_cases hi : i < vs.length
      · exact hi
      · rw [List.getElem?_append_right (by simpa using hi)] at h2
        rw [List.getElem?_replicate] at h2
        split at h2 <;> cases h2
    have ha : vs[i]? = some v := by
      unfold start at h2
      rw [List.getElem?_append_left (by simpa using hi), List.getElem?_map] at h2
      cases e : vs[i]? with
      | none => rw [e] at h2; cases h2
      | some a => rw [e] at h2; cases h2; rfl
    obtain ⟨u, hu, rv⟩ := r.get ha
    have hp : ps[i]? = some y := by
      rw [← S.pre, List.getElem?_take_of_lt (by omega)]; exact h1
    have ndP : ps.Nodup := by rw [← S.pre]; exact S.nd.sublist (List.take_sublist _ _)
    refine ⟨u, rv, ?_⟩
    rcases S.par y (List.mem_of_getElem? hp) with k | k
    · exact .inl ⟨k, bindL_get ndP hp hu k⟩
    · obtain ⟨c, e⟩ := cell_has (n := s.heap.objs.size + 1) k
      refine .inr ⟨.inl k, c, e, ?_⟩
      have q := x.cell y c e
      rw [bindC_get ndP hp hu (by show scope.names.lookup y ≠ _; rw [k]; decide)] at q
      exact q
  · exact e0.hok.fresh (Nat.le_of_lt (x.above y c (PySem.mem_of_lookup h)))
  · unfold start
    show _ = N.length
    rw [List.length_append, List.length_map, List.length_replicate]
    omega

/-- THE RULE: a def (or a method) of the text, by its body. The body's reading t is chosen for each entry; it is run at the parameters' values -/
theorem fn_of {CX : CXT} {P : Program} {w : World} {K : PySem.W.Frag} {mg : Str → Option Value} {base : Heap} {k : Nat} {f : Addr} {name qual : Str} {params : Arguments} {body : List Stmt} {scope : Scope} {dV kV doc pm cdv ct oc : Value} {an od : Option Addr}
    {osl : Array (Option Value)} {N ps : List Str} {sp : Sp} (lk : K.lookup f = some ⟨oc, od, .func (PySem.W.fnOf name qual params body scope dV kV doc pm an cdv ct), osl⟩) (hcd : PySem.W.codeIn K cdv qual = true) (S : FnScope N ps scope)
    (len : ∀ vs H Q E, sp vs H Q E → vs.length = ps.length)
    (hbody : ∀ (A : Around) (outer : List Env) (s : Shared) (H : Hp) (vs : List V) (Q : VK) (E : XK), Room k (A.deeper (envOfC qual scope s.heap.objs.size f cdv)) → sp vs H Q E →
      ∃ t, PSs (cxOf CX P w K mg base N qual scope f cdv A outer s H E) body t ∧ t { nx := fun _ H' => Q .non H', rt := Q } (start N vs) H) :
    FnOk P w K mg base CX (k + 1) f (PySem.W.fnOf name qual params body scope dV kV doc pm an cdv ct) ps sp := by
  refine ⟨len, fun A outer s H args us vs Q E hr e0 hb r hsp => ?_⟩
  have hl := len _ _ _ _ hsp
  have KX : K.In s.heap := e0.mod.kin.keeps fun b o e => (e0.bs b o e).1
  have lim : s.heap.NoLimit := e0.mod.nolimit.keeps fun b o e => (e0.bs b o e).1
  have hkind : ∀ y ∈ ps.zip us, scope.names.lookup y.1 = some .local ∨ (scope.names.lookup y.1 = some .cell ∧ ((cellsFrom (s.heap.objs.size + 1) scope.names []).lookup y.1).isSome = true) := fun ⟨n, v⟩ hy => by
    rcases S.par n (List.of_mem_zip hy).1 with q | q
    · exact .inl q
    · exact .inr ⟨q, PySem.W.cellsFrom_some _ _ _ (.inl q)⟩
  refine codeAny_call_function hr.depth (KX _ _ lk) rfl S.co S.gen rfl (PySem.W.codeRec_of KX hcd) (hb _ _ _ _ ?_)
  refine wpAny_newFunctionEnv_cells S.kind hkind fun env he s1 x => ?_
  subst he
  refine ⟨lim.keeps x.toInCall.keep, codeAny_func ?_⟩
  obtain ⟨t, ht, hq⟩ := hbody A outer s H vs Q E (hr.deeper _) hsp
  have I : Inv (cxOf CX P w K mg base N qual scope f cdv A outer s H E) [] (start N vs) H s1 := inv_start S hr.hd e0 hl r x
  refine wpAny_mono (ht [] s1 (start N vs) H _ I hq) (fun fl s' hs => ?_) fun e s' hs => hs
  have fin : ∀ {σ' : St} {H' : Hp} {v : V} {u : Value}, Inv (cxOf CX P w K mg base N qual scope f cdv A outer s H E) [] σ' H' s' → RelV v u → Q v H' → CE outer P w H s Q u s' :=
    fun {σ' H' v u} J rv q => ⟨v, H', J.os, J.bare, J.base, J.hok, rv, q⟩
  cases fl with
  | ret u =>
    obtain ⟨v, σ', H', J, rv, q⟩ := hs
    exact fin J rv q
  | next =>
    obtain ⟨σ', H', J, q⟩ := hs
    exact fin (v := V.non) (u := Value.none) J rfl q
  | brk =>
    obtain ⟨_, _, _, q⟩ := hs
    exact False.elim q
  | cont =>
    obtain ⟨_, _, _, q⟩ := hs
    exact False.elim q
end L2

namespace L2
open PySem PySem.Spec PyProof.Rows
section
variable {X : Cx} {x : Str} {p pos : Pos} {e : Expr} {es : List Expr} {t : TA} {id T : String} {r : List V → Hp → VK → Prop}

def tCB (r : List V → Hp → VK → Prop) (t : TA) : TE := fun σ H Q => t σ H fun vs H1 => r vs H1 Q
/-- f(e, ..), f a built-in function -/
theorem pe_callB (hc : CallR X (.builtin id) r) (hg : Gl X x) (hm : X.mg x = none) (hv : bootBuiltins x = some (.builtin id)) (ha : PA X (e :: es) t) (hn : x ≠ "__name__" := by decide) (hdb : (x == ("__debug__" : Str)) = false := by decide)
    (he : starEach (e :: es) X.env = (false, eval e X.env) :: starEach es X.env := by rfl) (hpl : (backTo pos (starEach es X.env)).any (·.1) = false := by rfl) : PE X (.Call (.Name x p) (e :: es) [] pos) (tCB r t) := by
  intro pins s σ H Q I h
  refine wpAny_Call_Name_kw (ld_blt I hg hm hv ?_ hn hdb)
  exact PyProof.Rows.callWith_builtin1 (thn (ha pos pins s σ H _ I h) fun us s1 ⟨vs, H1, I1, r1, q1⟩ => hc pins s1 σ H1 vs us Q I1 r1 q1) he hpl
/-- T(e, ..), T a built-in type -/
theorem pe_callTy (hc : CallR X (.type T) r) (hg : Gl X x) (hm : X.mg x = none) (hv : bootBuiltins x = some (.type T)) (ha : PA X (e :: es) t) (hn : x ≠ "__name__" := by decide) (hdb : (x == ("__debug__" : Str)) = false := by decide)
    (he : starEach (e :: es) X.env = (false, eval e X.env) :: starEach es X.env := by rfl) (hpl : (backTo pos (starEach es X.env)).any (·.1) = false := by rfl) : PE X (.Call (.Name x p) (e :: es) [] pos) (tCB r t) := by
  intro pins s σ H Q I h
  refine wpAny_Call_Name_kw (ld_blt I hg hm hv ?_ hn hdb)
  exact PyProof.Rows.callWith_type1 (thn (ha pos pins s σ H _ I h) fun us s1 ⟨vs, H1, I1, r1, q1⟩ => hc pins s1 σ H1 vs us Q I1 r1 q1) he hpl
end
end L2

namespace HT
open PySem PyProof.Rows

section
open PySem.SeqAt
open PySem.AutoSeq1 (wpAny_loadPart')
open PySem.MeetsSeq PySem.MeetsSeq2 PySem.MeetsSeq3

end

section
variable {prog : Program} {w : World} {A : Around} {E : Value → Shared → Prop} {s : Shared}

/-! ### t[a:b], not the whole -/
/-- a slice's bound as a place among n (d where it is left out) -/
def sIx (n d : Nat) : Option Int → Nat
  | none => d
  | some v => if v < 0 then (v + (n : Int)).toNat else min v.toNat n
theorem sIx_le (n d : Nat) (hd : d ≤ n) (o : Option Int) : sIx n d o ≤ n := by
  cases o with
  | none => exact hd
  | some v =>
    show (if v < 0 then (v + (n : Int)).toNat else min v.toNat n) ≤ n
    by_cases hv : v < 0
    · rw [if_pos hv]; omega
    · rw [if_neg hv]; exact Nat.min_le_right _ _
theorem clip_eq (v : Int) (n d : Nat) : (if v < 0 then max (v + (n : Int)) 0 else min v (n : Int)) = ((sIx n d (some v) : Nat) : Int) := by
  show (if v < 0 then max (v + (n : Int)) 0 else min v (n : Int)) = (((if v < 0 then (v + (n : Int)).toNat else min v.toNat n) : Nat) : Int)
  by_cases hv : v < 0
  · simp only [if_pos hv]; omega
  · simp only [if_neg hv]; omega
theorem adjust_gen (lo hi : Option Int) (n : Nat) : Builtin.Slice.sliceAdjust lo hi 1 (n : Int) = (((sIx n 0 lo : Nat) : Int), ((sIx n n hi : Nat) : Int)) := by
  have h1 : ¬ ((1 : Int) < 0) := by omega
  unfold Builtin.Slice.sliceAdjust
  simp only [h1, if_false]
  refine Prod.ext ?_ ?_
  · cases lo with
    | none => rfl
    | some v => exact clip_eq v n 0
  · cases hi with
    | none => rfl
    | some v => exact clip_eq v n n
theorem places_gen (i j : Nat) : Builtin.Slice.slicePlaces (i : Int) (j : Int) 1 = j - i := by
  unfold Builtin.Slice.slicePlaces
  have h1 : (1 : Int) > 0 := by omega
  simp only [h1, if_true, Int.ediv_one]
  split <;> omega
theorem slicePart_ {v : Value} {o : Option Int} {Q : Option Int → Shared → Prop} (p : IsPart v o) (h : Q o s) : wpAny (model prog w) A (Builtin.Slice.slicePartIndex v) Q E s := by
  cases p with
  | none => exact slicePart_none h
  | int i t => exact slicePart_int h
theorem sliceApplied_gen {sl : Addr} {vl vu : Value} {lo hi : Option Int} {n : Nat} {Q : Int × Int × Nat → Shared → Prop} (hs : s.heap.IsSliceOf sl vl vu .none) (pl : IsPart vl lo) (pu : IsPart vu hi)
    (h : Q (((sIx n 0 lo : Nat) : Int), 1, sIx n n hi - sIx n 0 lo) s) : wpAny (model prog w) A (Builtin.Slice.sliceApplied (.ref sl) (pure (n : Int))) Q E s := by
  obtain ⟨os, hos, hcs, hds⟩ := id hs
  unfold Builtin.Slice.sliceApplied Builtin.Slice.sliceFields
  refine wpAny_bind (wpAny_bind (wpAny_field hos hds (x := vl) rfl (wpAny_bind (wpAny_field hos hds (x := vu) rfl (wpAny_bind (wpAny_field hos hds (x := .none) rfl (wpAny_pure ?_)))))))
  refine wpAny_bind (slicePart_none ?_)
  show wpAny _ _ (if ((1 : Int) == 0) = true then _ else _) _ _ s
  rw [if_neg (by decide)]
  refine wpAny_bind (slicePart_ pl (wpAny_bind (slicePart_ pu (wpAny_bind (wpAny_pure ?_)))))
  show wpAny _ _ (match Builtin.Slice.sliceAdjust lo hi 1 (n : Int) with | (lo, hi) => pure (lo, (1 : Int), Builtin.Slice.slicePlaces lo hi 1)) _ _ s
  rw [adjust_gen lo hi n]
  show wpAny _ _ (pure (((sIx n 0 lo : Nat) : Int), (1 : Int), Builtin.Slice.slicePlaces ((sIx n 0 lo : Nat) : Int) ((sIx n n hi : Nat) : Int) 1)) _ _ s
  rw [places_gen]
  exact wpAny_pure h
theorem pick_gen (xs : Array Value) (i k : Nat) : ((List.range k).filterMap fun (m : Nat) => xs[((i : Int) + (m : Int) * 1).toNat]?).toArray = ((xs.toList.drop i).take k).toArray := by
  have e : (fun (m : Nat) => xs[((i : Int) + (m : Int) * 1).toNat]?) = fun m => xs[i + m]? := by
    funext m
    have : ((i : Int) + (m : Int) * 1).toNat = i + m := by omega
    rw [this]
  rw [e]
  have := pick_run xs i k
  rw [List.filterMap_map] at this
  have e2 : ((fun x => xs[x]?) ∘ fun x => i + x) = fun m => xs[i + m]? := rfl
  rw [e2] at this
  rw [this]

theorem getItem_tuple_cut {t sl : Addr} {items : Array Value} {vl vu : Value} {lo hi : Option Int} {Q : Value → Shared → Prop} (ht : IsTup s.heap t items) (hs : s.heap.IsSliceOf sl vl vu .none) (pl : IsPart vl lo) (pu : IsPart vu hi)
    (hw : ¬ (sIx items.size 0 lo = 0 ∧ sIx items.size items.size hi = items.size))
    (h : Q (.ref s.heap.objs.size) { s with heap := s.heap.push { cls := .type "tuple", data := .seq ((items.toList.drop (sIx items.size 0 lo)).take (sIx items.size items.size hi - sIx items.size 0 lo)).toArray } })
    (hsz : items.size ≤ sizeLine) : wpAny (model prog w) A (getItem (.ref t) (.ref sl)) Q E s := by
  have htake : sizeOk (.seq ((items.toList.drop (sIx items.size 0 lo)).take (sIx items.size items.size hi - sIx items.size 0 lo)).toArray) := by
    show ((items.toList.drop (sIx items.size 0 lo)).take (sIx items.size items.size hi - sIx items.size 0 lo)).toArray.size ≤ sizeLine
    rw [List.size_toArray, List.length_take, List.length_drop, Array.length_toList]
    omega
  have hj : sIx items.size items.size hi ≤ items.size := sIx_le _ _ (Nat.le_refl _) hi
  obtain ⟨os, hos, hcs, hds⟩ := id hs
  have hTs : s.TypeIs (.ref sl) "slice" := ⟨os, hos, hcs⟩
  unfold getItem
  try with_reducible refine wpAny_holding ?_
  first | refine wpAny_bind (wpAny_pure ?_) | skip
  refine wpAny_bind (wpAny_sequenceKey ht.typeIs (by decide) ?_)
  refine wpAny_bind (wpAny_callSpecial?_slot (name := Str.ofString "__getitem__") ht.typeIs PyProof.Rows.slot_tuple_getitem
    (wpAny_call_entry PyProof.Rows.slot_tuple_getitem ht.typeIs entry_tuple_getitem ?_ (args_tuple_getitem _ _)))
  show wpAny _ _ (Builtin.Tuple.tupleItemsOf (.ref t) >>= _) _ _ s
  refine wpAny_bind (tupleItemsOf_ ht ?_)
  refine wpAny_bind (wpAny_typeOf hTs ?_)
  rw [if_pos (by decide)]
  refine wpAny_bind (sliceApplied_gen hs pl pu ?_)
  have hno : ¬ ((((sIx items.size 0 lo : Nat) : Int) == 0 && (1 : Int) == 1 && (sIx items.size items.size hi - sIx items.size 0 lo) == items.size) = true) := by
    intro q
    rw [Bool.and_eq_true, Bool.and_eq_true] at q
    have q1 : ((sIx items.size 0 lo : Nat) : Int) = 0 := eq_of_beq q.1.1
    have q2 : sIx items.size items.size hi - sIx items.size 0 lo = items.size := eq_of_beq q.2
    exact hw ⟨by omega, by omega⟩
  show wpAny _ _ (if (((sIx items.size 0 lo : Nat) : Int) == 0 && (1 : Int) == 1 && (sIx items.size items.size hi - sIx items.size 0 lo) == items.size) = true then _ else _) _ _ s
  rw [if_neg hno, pick_gen]
  first
    | exact wpAny_bind (m := Builtin.Tuple.tupleExact _) (wpAny_newObj_type (wpAny_pure ⟨_, rfl, wpAny_pure h⟩) htake)
    | exact wpAny_bind (m := Builtin.Tuple.tupleExact _) (wpAny_newObj_type (wpAny_bind (wpAny_pure (wpAny_pure ⟨_, rfl, wpAny_pure h⟩))) htake)
    | exact wpAny_bind (wpAny_bind (m := Builtin.Tuple.tupleExact _) (wpAny_newObj_type (wpAny_pure (wpAny_pure ⟨_, rfl, wpAny_pure h⟩)) htake))
    | exact wpAny_bind (wpAny_bind (m := Builtin.Tuple.tupleExact _) (wpAny_newObj_type (wpAny_pure ⟨_, rfl, wpAny_pure h⟩) htake))
end
end HT

namespace L2
open PySem PySem.Spec PyProof.Rows

/-! ### the parts of a slice -/
abbrev TO := St → Hp → (Option Int → Hp → Prop) → Prop
/-- a slice's part (left out, or an int) -/
def PO (X : Cx) (e : Option Expr) (t : TO) : Prop :=
  ∀ (pins : List (Addr × Obj)) (s : Shared) (σ : St) (H : Hp) (Q : Option Int → Hp → Prop), Inv X pins σ H s → t σ H Q →
    wpAny (model X.prog X.w) X.A (evalPart e X.env) (fun u s' => ∃ o H', Inv X pins σ H' s' ∧ IsPart u o ∧ Q o H') X.xe s
def tNoPart : TO := fun _ H Q => Q none H
def tPart (t : TE) : TO := fun σ H Q => t σ H fun x H1 => ∃ i, x = .int i ∧ Q (some i) H1

section
variable {X : Cx} {e : Expr} {te : TE} {lo hi : Option Expr} {tl th : TO} {pos p2 : Pos}

theorem po_none : PO X none tNoPart := by
  intro pins s σ H Q I h
  rw [evalPart_none]
  exact wpAny_pure ⟨none, H, I, .none, h⟩
theorem po_some (h : PE X e te) : PO X (some e) (tPart te) := by
  intro pins s σ H Q I hw
  rw [evalPart_some]
  refine thn (h pins s σ H _ I hw) fun u s1 ⟨x, H1, I1, r1, q1⟩ => ?_
  obtain ⟨i, rfl, q⟩ := q1
  obtain ⟨t, rfl⟩ := r1
  exact ⟨some i, H1, I1, .int i t, q⟩

/-- what a slice of a value is, by values: the slice object stands at sl -/
def SlR (X : Cx) (r : V → Option Int → Option Int → Hp → VK → Prop) : Prop :=
  ∀ (pins : List (Addr × Obj)) (s : Shared) (σ : St) (H : Hp) (x : V) (v vl vu : Value) (lo hi : Option Int) (sl : Addr) (Q : VK), Inv X pins σ H s → RelV x v → s.heap.IsSliceOf sl vl vu .none → IsPart vl lo → IsPart vu hi → r x lo hi H Q →
    ∃ T id, typeLookup (.type T) "__getitem__" = pure (some (.builtin id)) ∧ s.TypeIs v T ∧ wpAny (model X.prog X.w) X.A (getItem v (.ref sl)) (EP X pins σ Q) X.xe s
theorem SlR.or {r r' : V → Option Int → Option Int → Hp → VK → Prop} (h : SlR X r) (h' : SlR X r') : SlR X (fun x lo hi H Q => r x lo hi H Q ∨ r' x lo hi H Q) := by
  intro pins s σ H x v vl vu lo hi sl Q I rx hs pl pu q
  rcases q with q | q
  · exact h pins s σ H x v vl vu lo hi sl Q I rx hs pl pu q
  · exact h' pins s σ H x v vl vu lo hi sl Q I rx hs pl pu q
def tSl (r : V → Option Int → Option Int → Hp → VK → Prop) (te : TE) (tl th : TO) : TE := fun σ H Q => te σ H fun x H1 => tl σ H1 fun l H2 => th σ H2 fun u H3 => r x l u H3 Q
/-- a[lo:hi], any a -/
theorem pe_slice {r : V → Option Int → Option Int → Hp → VK → Prop} (hr : SlR X r) (he : PE X e te) (hl : PO X lo tl) (hu : PO X hi th) : PE X (.Subscript e (.Slice lo hi none p2) pos) (tSl r te tl th) := by
  intro pins s σ H Q I h
  refine Subscript_ (thn (he pins s σ H _ I h) fun v s1 ⟨x, H1, I1, r1, q1⟩ => ?_)
  refine wpAny_Slice (thn (hl pins s1 σ H1 _ I1 q1) fun vl s2 ⟨l, H2, I2, pl, q2⟩ => thn (hu pins s2 σ H2 _ I2 q2) fun vu s3 ⟨u, H3, I3, pu, q3⟩ => ?_)
  rw [evalPart_none]
  refine wpAny_pure ?_
  have I4 : Inv X pins σ H3 { s3 with heap := s3.heap.push { cls := .type "slice", data := .fields #[vl, vu, .none] } } := I3.kept (t' := s3.toks) fun b ob q => Heap.get?_push_of_some _ q
  obtain ⟨T, id, hT, ht, hg⟩ := hr pins { s3 with heap := s3.heap.push { cls := .type "slice", data := .fields #[vl, vu, .none] } } σ H3 x v vl vu l u s3.heap.objs.size Q I4 r1 (Heap.IsSliceOf.new ..) pl pu q3
  show wpAny (model X.prog X.w) X.A (subscriptTail e (.Slice lo hi none p2) v (.ref s3.heap.objs.size)) (EP X pins σ Q) X.xe { s3 with heap := s3.heap.push { cls := .type "slice", data := .fields #[vl, vu, .none] } }
  exact tail_any (ops := [.ref s3.heap.objs.size, v]) ht hT hg (by with_unfolding_all rfl)

/-- the items of xs[lo:hi] -/
def cutV (xs : List V) (lo hi : Option Int) : List V := (xs.drop (HT.sIx xs.length 0 lo)).take (HT.sIx xs.length xs.length hi - HT.sIx xs.length 0 lo)
theorem cutV_length (xs : List V) (lo hi : Option Int) : (cutV xs lo hi).length ≤ xs.length := by
  unfold cutV
  rw [List.length_take, List.length_drop]
  omega
/-- t[lo:hi], not the whole of it (the whole would be t itself) -/
def rSlT (K : PySem.W.Frag) : V → Option Int → Option Int → Hp → VK → Prop := fun x lo hi H Q => ∃ a xs, x = .ref a ∧ SqT K H a xs ∧
  ¬ (HT.sIx xs.length 0 lo = 0 ∧ HT.sIx xs.length xs.length hi = xs.length) ∧ ∀ p, H p = none → Q (.ref p) (upd H p (.tup (cutV xs lo hi)))
theorem sl_tup : SlR X (rSlT X.K) := by
  intro pins s σ H x v vl vu lo hi sl Q I rx hs pl pu h
  obtain ⟨a, xs, rfl, hx, hw, q⟩ := h
  cases rx
  obtain ⟨its, r, ht, hz⟩ := I.tuple hx
  have hlen : its.toArray.size = xs.length := by rw [List.size_toArray]; exact r.length.symm
  refine ⟨"tuple", _, PyProof.Rows.slot_tuple_getitem.lookup, ht.typeIs, ?_⟩
  refine HT.getItem_tuple_cut ht hs pl pu (by rw [hlen]; exact hw) ?_ (by rw [hlen]; exact hz)
  rw [hlen]
  refine ⟨.ref s.heap.objs.size, _, I.laid (t' := s.toks) (o := .tup (cutV xs lo hi)) (fun b ob q => Heap.get?_push_of_some _ q) (Nat.le_refl _) ?_, rfl, q _ (I.hok.fresh (Nat.le_refl _))⟩
  exact ⟨Nat.le_trans (cutV_length xs lo hi) hz, _, (r.drop (HT.sIx xs.length 0 lo)).take (HT.sIx xs.length xs.length hi - HT.sIx xs.length 0 lo), IsTup.new _ _⟩

/-! ### t < u, t + u -/
end
end L2

namespace L2
open PySem PySem.Spec PyProof.Rows

/-! ### places -/
/-- the place that an index of any sign means -/
def ixN (n : Nat) (i : Int) : Option Nat := if 0 ≤ i then (if i < n then some i.toNat else none) else if -(n : Int) ≤ i then some (i + n).toNat else none
def atI {α : Type} (xs : List α) (i : Int) : Option α := (ixN xs.length i).bind fun j => xs[j]?
theorem ixN_seq {n : Nat} {i : Int} {j : Nat} (h : ixN n i = some j) : seqIndex? i n = some j ∧ j < n ∧ -(n : Int) ≤ i ∧ i < n := by
  unfold ixN at h
  by_cases h0 : 0 ≤ i
  · rw [if_pos h0] at h
    by_cases h1 : i < n
    · rw [if_pos h1] at h
      have e : i.toNat = j := Option.some.inj h
      exact ⟨by rw [seqIndex_of h0 h1, e], by omega, by omega, h1⟩
    · rw [if_neg h1] at h; cases h
  · rw [if_neg h0] at h
    by_cases h1 : -(n : Int) ≤ i
    · rw [if_pos h1] at h
      have e : (i + n).toNat = j := Option.some.inj h
      exact ⟨by rw [seqIndex_neg (by omega) h1, e], by omega, h1, by omega⟩
    · rw [if_neg h1] at h; cases h
theorem atI_get {α : Type} {xs : List α} {i : Int} {v : α} (h : atI xs i = some v) : ∃ j, seqIndex? i xs.length = some j ∧ xs[j]? = some v ∧ j < xs.length ∧ -(xs.length : Int) ≤ i ∧ i < xs.length := by
  unfold atI at h
  cases e : ixN xs.length i with
  | none => rw [e] at h; cases h
  | some j =>
    rw [e] at h
    obtain ⟨h1, h2, h3, h4⟩ := ixN_seq e
    exact ⟨j, h1, h, h2, h3, h4⟩
theorem atI_nat {α : Type} {xs : List α} {j : Nat} {v : α} (h : xs[j]? = some v) : atI xs (j : Int) = some v := by
  have hj : j < xs.length := (List.getElem?_eq_some_iff.mp h).1
  have e : ixN xs.length (j : Int) = some j := by
    unfold ixN
    rw [if_pos (by omega), if_pos (by omega)]; simp
  unfold atI; rw [e]; exact h
/-! ### what may be subscripted -/
/-- what stands as an index of a plain subscript -/
def PlainIx (b : Expr) : Prop := ∀ o i, subscripted b false o i = operate [o, i] (getItem o i)
/-- a subscript by values -/
def IxR (X : Cx) (r : R2) : Prop :=
  ∀ (value slice : Expr) (pins : List (Addr × Obj)) (s : Shared) (σ : St) (H : Hp) (x y : V) (v u : Value) (Q : VK), Inv X pins σ H s → RelV x v → RelV y u → r x y H Q →
    subscripted slice false v u = operate [v, u] (getItem v u) → wpAny (model X.prog X.w) X.A (subscriptTail value slice v u) (EP X pins σ Q) X.xe s
/-- a call of a builtin's method by values: the receiver, the arguments -/
def MtR (X : Cx) (id : String) (r : V → List V → Hp → VK → Prop) : Prop :=
  ∀ (pins : List (Addr × Obj)) (s : Shared) (σ : St) (H : Hp) (x : V) (xs : List V) (v : Value) (us : List Value) (Q : VK), Inv X pins σ H s → RelV x v → Vals xs us → r x xs H Q →
    wpAny (model X.prog X.w) X.A (call (.builtin id) (v :: us)) (EP X pins σ Q) X.xe s
section
variable {X : Cx} {a b : Expr} {ta tb : TE} {pos : Pos}
theorem IxR.or {r r' : R2} (h : IxR X r) (h' : IxR X r') : IxR X (fun x y H Q => r x y H Q ∨ r' x y H Q) := by
  intro value slice pins s σ H x y v u Q I rx ry q hs
  rcases q with q | q
  · exact h value slice pins s σ H x y v u Q I rx ry q hs
  · exact h' value slice pins s σ H x y v u Q I rx ry q hs
theorem MtR.or {id : String} {r r' : V → List V → Hp → VK → Prop} (h : MtR X id r) (h' : MtR X id r') : MtR X id (fun x xs H Q => r x xs H Q ∨ r' x xs H Q) := by
  intro pins s σ H x xs v us Q I rx rs q
  rcases q with q | q
  · exact h pins s σ H x xs v us Q I rx rs q
  · exact h' pins s σ H x xs v us Q I rx rs q
/-- a[b] -/
theorem pe_ix {r : R2} (hr : IxR X r) (ha : PE X a ta) (hb : PE X b tb) (hs : PlainIx b) : PE X (.Subscript a b pos) (tOp r ta tb) := by
  intro pins s σ H Q I h
  exact Subscript_ (binT ha hb I h fun v u s2 x y H2 I2 rx ry q => hr a b pins s2 σ H2 x y v u Q I2 rx ry q (hs _ _))

def rIxL (K : PySem.W.Frag) : R2 := fun x y H Q => ∃ p xs i v, x = .ref p ∧ y = .int i ∧ SqL K H p xs ∧ atI xs i = some v ∧ Q v H
def rIxT (K : PySem.W.Frag) : R2 := fun x y H Q => ∃ p xs i v, x = .ref p ∧ y = .int i ∧ SqT K H p xs ∧ atI xs i = some v ∧ Q v H
def rIxS : R2 := fun x y H Q => ∃ z i c, x = .str z ∧ y = .int i ∧ z.length ≤ sizeLine ∧ atI z.cps.toList i = some c ∧ Q (.str ⟨#[c]⟩) H
theorem ix_list : IxR X (rIxL X.K) := by
  intro value slice pins s σ H x y v u Q I rx ry h hs
  obtain ⟨p, xs, i, z, rfl, rfl, hq, he, q⟩ := h
  cases rx
  obtain ⟨t, rfl⟩ := ry
  obtain ⟨its, r, pl, hz⟩ := I.list hq
  obtain ⟨j, h1, h2, h3, h4, h5⟩ := atI_get he
  obtain ⟨w, ew, rw'⟩ := r.get h2
  have hl := r.length
  have hn := line63
  have fin : EP X pins σ Q w s := ⟨z, H, I, rw', q⟩
  by_cases h0 : 0 ≤ i
  · have hj : i.toNat = j := by
      rw [seqIndex_of h0 h5] at h1
      exact Option.some.inj h1
    exact item_listR pl.isList h0 (by omega) (by rw [hj]; simpa using ew) fin hs
  · have hj : (i + (its.toArray.size : Int)).toNat = j := by
      rw [seqIndex_neg (by omega) h4] at h1
      rw [List.size_toArray, ← hl]
      exact Option.some.inj h1
    exact subscriptTail_builtinR (x := w) pl.isList.typeIs slot_list_getitem.lookup
      (wpAny_getItem_list_neg (Q := fun r s' => r = w ∧ EP X pins σ Q r s') pl.isList (by omega) (by rw [List.size_toArray] <;> omega) (by omega) (by rw [hj]; simpa using ew) ⟨rfl, fin⟩) hs
theorem ix_tup : IxR X (rIxT X.K) := by
  intro value slice pins s σ H x y v u Q I rx ry h hs
  obtain ⟨p, xs, i, z, rfl, rfl, hq, he, q⟩ := h
  cases rx
  obtain ⟨t, rfl⟩ := ry
  obtain ⟨its, r, pl, hz⟩ := I.tuple hq
  obtain ⟨j, h1, h2, h3, h4, h5⟩ := atI_get he
  obtain ⟨w, ew, rw'⟩ := r.get h2
  have hl := r.length
  have hn := line63
  have fin : EP X pins σ Q w s := ⟨z, H, I, rw', q⟩
  exact subscriptTail_builtinR (x := w) pl.typeIs slot_tuple_getitem.lookup
    (getItem_tuple (j := j) (Q := fun r s' => r = w ∧ EP X pins σ Q r s') pl (by omega) (by omega) (by rw [List.size_toArray, ← hl]; exact h1) (by simpa using ew) ⟨rfl, fin⟩) hs
theorem ix_str : IxR X rIxS := by
  intro value slice pins s σ H x y v u Q I rx ry h hs
  obtain ⟨z, i, c, rfl, rfl, hz, he, q⟩ := h
  obtain ⟨t, rfl⟩ := rx
  obtain ⟨t', rfl⟩ := ry
  obtain ⟨j, h1, h2, h3, h4, h5⟩ := atI_get he
  have hl : z.cps.toList.length = z.length := by simp [Str.length]
  rw [hl] at h1 h4 h5
  have hn := line63
  exact tail_any (typeIs_str s z t) slot_str_getitem.lookup (getItem_str (c := c) (by
    have e1 : decide (i < -(2 ^ 63 : Int)) = false := decide_eq_false (by omega)
    have e2 : decide (i ≥ 2 ^ 63) = false := decide_eq_false (by omega)
    rw [e1, e2, Bool.or_false]) (by rw [h1]; simpa using h2) ⟨.str ⟨#[c]⟩, H, I.tok _, ⟨_, rfl⟩, q⟩) hs
/-- list, tuple or str -/
def rIx (K : PySem.W.Frag) : R2 := fun x y H Q => rIxL K x y H Q ∨ rIxT K x y H Q ∨ rIxS x y H Q
theorem ix_seq : IxR X (rIx X.K) := ix_list.or (ix_tup.or ix_str)

/-! ### xs[i] = v, any sign -/
/-- the list's object behind a store -/
theorem mapSeq_set (its : List Value) (n j : Nat) (u : Value) : Obj.mapSeq (·.setIfInBounds j u) { cls := .type "list", data := .seq its.toArray n } = { cls := .type "list", data := .seq (its.set j u).toArray n } := by
  simp [Obj.mapSeq]
theorem Inv.lst {pins : List (Addr × Obj)} {σ : St} {H : Hp} {s : Shared} {p : Addr} {xs : List V} (I : Inv X pins σ H s) (h : H p = some (.lst xs)) :
    ∃ (its : List Value) (n : Nat), Vals xs its ∧ s.heap.get? p = some { cls := .type "list", data := .seq its.toArray n } ∧ xs.length ≤ sizeLine := by
  obtain ⟨z, its, n, r, e⟩ := I.hok p _ h
  exact ⟨its, n, r, e, z⟩
/-- the list at p is written by an update of its object -/
theorem Inv.lstUpd {pins : List (Addr × Obj)} {σ : St} {H : Hp} {s : Shared} {p : Addr} {xs ys : List V} {its its' : List Value} {n n' : Nat} {f : Obj → Obj} (I : Inv X pins σ H s) (h : H p = some (.lst xs))
    (ho : s.heap.get? p = some { cls := .type "list", data := .seq its.toArray n }) (hf : f { cls := .type "list", data := .seq its.toArray n } = { cls := .type "list", data := .seq its'.toArray n' }) (r : Vals ys its') (hz : ys.length ≤ sizeLine) (t : Nat) :
    Inv X pins σ (upd H p (.lst ys)) { s with heap := s.heap.update p f, toks := t } := by
  have e : (s.heap.update p f).get? p = some { cls := .type "list", data := .seq its'.toArray n' } := by
    rw [Heap.get?_update_self f ho (by rw [hf] <;> rfl), hf]
  refine I.write (x := p) (e := p) (by rw [h]; trivial) (.inl rfl) (fun b u hb q => (Heap.get?_update_other _ _ (Ne.symm hb)).trans q) ⟨_, e⟩ ?_
  exact ⟨hz, its', n', r, e⟩
def rSetL : V → V → V → Hp → (Hp → Prop) → Prop := fun o i v H Q => ∃ p xs k j, o = .ref p ∧ i = .int k ∧ H p = some (.lst xs) ∧ ixN xs.length k = some j ∧ Q (upd H p (.lst (xs.set j v)))
theorem set_list : PSet X rSetL := by
  intro pins s σ H o i v ov iv u Q I ro ri rv h
  obtain ⟨p, xs, k, j, rfl, rfl, hp, hj, q⟩ := h
  cases ro
  obtain ⟨t, rfl⟩ := ri
  obtain ⟨its, n, r, ho, hz⟩ := I.lst hp
  obtain ⟨h1, h2, h3, h4⟩ := ixN_seq hj
  have hl := r.length
  have hn := line63
  have I' : Inv X pins σ (upd H p (.lst (xs.set j v))) { s with heap := s.heap.update p (Obj.mapSeq (·.setIfInBounds j u)) } :=
    I.lstUpd hp ho (mapSeq_set its n j u) (r.set rv j) (by rw [List.length_set]; exact hz) s.toks
  by_cases h0 : 0 ≤ k
  · have hk : k.toNat = j := by
      rw [seqIndex_of h0 h4] at h1
      exact Option.some.inj h1
    exact PySem.W.ki_setAt ho h0 (by omega) (by rw [List.size_toArray, ← hl]; exact h4) (by rw [hk]; exact ⟨_, I', q⟩)
  · have hk : (k + (its.toArray.size : Int)).toNat = j := by
      rw [seqIndex_neg (by omega) h3] at h1
      rw [List.size_toArray, ← hl]
      exact Option.some.inj h1
    exact PySem.W.ki_setBack ho (by omega) (by rw [List.size_toArray, ← hl]; exact h3) (by omega) (by rw [hk]; exact ⟨_, I', q⟩)

/-! ### slices -/
/-! ### in, not in: flat items -/
def flatV : V → Bool
  | .non => true
  | .bl _ => true
  | .int _ => true
  | .str _ => true
  | _ => false
/-- == of flat values -/
def eqV : V → V → Bool
  | .non, .non => true
  | .bl a, .bl b => a == b
  | .bl a, .int b => (if a then 1 else 0) == b
  | .int a, .bl b => a == (if b then 1 else 0)
  | .int a, .int b => a == b
  | .str a, .str b => a == b
  | _, _ => false
theorem eqAt_V {A : Around} {s : Shared} {y x : V} {u v : Value} (ry : RelV y u) (rx : RelV x v) (fy : flatV y = true) (fx : flatV x = true) : SeqAt.EqAt A s u v (eqV y x) := by
  cases y with
  | non =>
    cases ry
    cases x with
    | non => cases rx; exact SeqAt.EqAt.same _
    | bl b => cases rx; exact SeqAt.EqAt.none_bool b
    | int b => obtain ⟨t, rfl⟩ := rx; exact SeqAt.EqAt.none_int b t
    | str b => obtain ⟨t, rfl⟩ := rx; exact SeqAt.EqAt.none_str b t
    | _ => exact absurd (show false = true from fx) Bool.false_ne_true
  | bl a =>
    cases ry
    cases x with
    | non => cases rx; exact SeqAt.EqAt.bool_none a
    | bl b => cases rx; exact SeqAt.EqAt.bool_bool a b
    | int b => obtain ⟨t, rfl⟩ := rx; exact SeqAt.EqAt.bool_int a b t
    | str b => obtain ⟨t, rfl⟩ := rx; exact SeqAt.EqAt.bool_str a b t
    | _ => exact absurd (show false = true from fx) Bool.false_ne_true
  | int a =>
    obtain ⟨t', rfl⟩ := ry
    cases x with
    | non => cases rx; exact SeqAt.EqAt.int_none a t'
    | bl b => cases rx; exact SeqAt.EqAt.int_bool a t' b
    | int b => obtain ⟨t, rfl⟩ := rx; exact SeqAt.EqAt.int_int a t' b t
    | str b => obtain ⟨t, rfl⟩ := rx; exact SeqAt.EqAt.int_str a t' b t
    | _ => exact absurd (show false = true from fx) Bool.false_ne_true
  | str a =>
    obtain ⟨t', rfl⟩ := ry
    cases x with
    | non => cases rx; exact SeqAt.EqAt.str_none a t'
    | bl b => cases rx; exact SeqAt.EqAt.str_bool a t' b
    | int b => obtain ⟨t, rfl⟩ := rx; exact SeqAt.EqAt.str_int a t' b t
    | str b => obtain ⟨t, rfl⟩ := rx; exact SeqAt.EqAt.str_str a t' b t
    | _ => exact absurd (show false = true from fx) Bool.false_ne_true
  | _ => exact absurd (show false = true from fy) Bool.false_ne_true
/-- the items' answers, read off the values (a value's own answer does not lean on its token) -/
def eqU (x : V) (u : Value) : Bool := match u with
  | .none => eqV .non x
  | .bool b => eqV (.bl b) x
  | .int i _ => eqV (.int i) x
  | .str z _ => eqV (.str z) x
  | _ => false
theorem eqU_of {x y : V} {u : Value} (r : RelV y u) (f : flatV y = true) : eqU x u = eqV y x := by
  cases y with
  | non => cases r; rfl
  | bl b => cases r; rfl
  | int i => obtain ⟨t, rfl⟩ := r; rfl
  | str z => obtain ⟨t, rfl⟩ := r; rfl
  | _ => exact absurd (show false = true from f) Bool.false_ne_true
theorem any_eqU {x : V} : ∀ {xs : List V} {us : List Value}, Vals xs us → xs.all flatV = true → us.any (eqU x) = xs.any fun y => eqV y x
  | _, _, .nil, _ => rfl
  | y :: xs, u :: us, .cons r t, f => by
    rw [List.all_cons, Bool.and_eq_true] at f
    rw [List.any_cons, List.any_cons, eqU_of r f.1, any_eqU t f.2]
theorem mem_eqAt {A : Around} {s : Shared} {x : V} {v : Value} (rx : RelV x v) (fx : flatV x = true) : ∀ {xs : List V} {us : List Value}, Vals xs us → xs.all flatV = true → ∀ u ∈ us, SeqAt.EqAt A s u v (eqU x u)
  | _, _, .nil, _ => fun u hu => by cases hu
  | y :: xs, u :: us, .cons r t, f => fun u' hu => by
    rw [List.all_cons, Bool.and_eq_true] at f
    rcases List.mem_cons.mp hu with rfl | hu
    · rw [eqU_of r f.1]; exact eqAt_V r rx f.1 fx
    · exact mem_eqAt rx fx t f.2 u' hu
def inV (x : V) (xs : List V) : Bool := xs.any fun y => eqV y x
/-- x in a list or tuple of flat items -/
def rIn (K : PySem.W.Frag) (neg : Bool) : R2 := fun x y H Q => ∃ p xs, y = .ref p ∧ (SqL K H p xs ∨ SqT K H p xs) ∧ flatV x = true ∧ xs.all flatV = true ∧ Q (.bl (if neg then !inV x xs else inV x xs)) H
theorem op_in_seq : OpR X (compareOp .In) (rIn X.K false) := by
  intro pins s σ H x y v u Q I rx ry h
  obtain ⟨p, xs, rfl, hq, fx, fs, q⟩ := h
  cases ry
  rcases hq with hq | hq
  · obtain ⟨its, r, pl, hz⟩ := I.list hq
    refine SeqAt.in_listAt (eqU x) pl.isList (fun w hw => mem_eqAt rx fx r fs w (by simpa using hw)) ⟨.bl _, H, I, rfl, ?_⟩
    rw [show its.toArray.any (eqU x) = its.any (eqU x) by simp, any_eqU r fs]
    exact q
  · obtain ⟨its, r, pl, hz⟩ := I.tuple hq
    refine SeqAt.in_tupleAt (eqU x) pl (fun w hw => mem_eqAt rx fx r fs w (by simpa using hw)) ⟨.bl _, H, I, rfl, ?_⟩
    rw [show its.toArray.any (eqU x) = its.any (eqU x) by simp, any_eqU r fs]
    exact q
/-! ### len, list(x), tuple(x) of any list or tuple that is read -/
theorem call_len_seq : CallR X (.builtin "len") (fun xs H Q => ∃ p ys, xs = [.ref p] ∧ (SqL X.K H p ys ∨ SqT X.K H p ys) ∧ Q (.int ys.length) H) := by
  intro pins s σ H xs us Q I r h
  obtain ⟨p, ys, rfl, hq, q⟩ := h
  obtain ⟨u, rfl, rx⟩ := vals1 r
  cases rx
  have hn := line63
  rcases hq with hq | hq
  · obtain ⟨its, r', pl, hz⟩ := I.list hq
    have hlen := r'.length
    exact Calls.call_len_list pl.isList (by simp only [List.size_toArray] <;> omega) ⟨.int ys.length, H, I.tok _, ⟨s.toks + 1, by rw [List.size_toArray, hlen]⟩, q⟩
  · obtain ⟨its, r', pl, hz⟩ := I.tuple hq
    have hlen := r'.length
    exact len_tuple pl (by simp only [List.size_toArray] <;> omega) ⟨.int ys.length, H, I.tok _, ⟨s.toks + 1, by rw [List.size_toArray, hlen]⟩, q⟩
theorem call_len_str : CallR X (.builtin "len") (fun xs H Q => ∃ z, xs = [.str z] ∧ z.length ≤ sizeLine ∧ Q (.int z.length) H) := by
  intro pins s σ H xs us Q I r h
  obtain ⟨z, rfl, hz, q⟩ := h
  obtain ⟨u, rfl, t, rfl⟩ := vals1 r
  have hn := line63
  exact len_str (by omega) ⟨.int z.length, H, I.tok _, ⟨_, rfl⟩, q⟩
theorem CallR.or {f : Value} {r r' : List V → Hp → VK → Prop} (h : CallR X f r) (h' : CallR X f r') : CallR X f (fun xs H Q => r xs H Q ∨ r' xs H Q) := by
  intro pins s σ H xs us Q I rs q
  rcases q with q | q
  · exact h pins s σ H xs us Q I rs q
  · exact h' pins s σ H xs us Q I rs q
theorem call_list_of : CallR X (.type "list") (fun xs H Q => ∃ p ys, xs = [.ref p] ∧ (SqL X.K H p ys ∨ SqT X.K H p ys) ∧ ∀ l, H l = none → Q (.ref l) (upd H l (.lst ys))) := by
  intro pins s σ H xs us Q I r h
  obtain ⟨p, ys, rfl, hq, q⟩ := h
  obtain ⟨u, rfl, rx⟩ := vals1 r
  cases rx
  have fin : ∀ (its : List Value), Vals ys its → ys.length ≤ sizeLine → ∀ (h' : Heap) (c' : Nat), (∀ b o', s.heap.get? b = some o' → h'.get? b = some o') →
      h'.get? s.heap.objs.size = some { cls := .type "list", dict := none, data := .seq its.toArray c', slots := #[] } → EP X pins σ Q (.ref s.heap.objs.size) { s with heap := h' } := fun its r' hz h' c' kp e =>
    ⟨.ref s.heap.objs.size, _, I.laid (t' := s.toks) kp (Nat.le_refl _) (show ObjOk X.prog X.w _ h' _ (.lst ys) from ⟨hz, its, c', r', e⟩), rfl, q _ (I.hok.fresh (Nat.le_refl _))⟩
  rcases hq with hq | hq
  · obtain ⟨its, r', pl, hz⟩ := I.list hq
    have hlen := r'.length
    obtain ⟨o, ho, hc, n, hd⟩ := pl.isList
    exact call_list_seq p (.inl rfl) ho hc hd (fun h' c' kp e => fin its r' hz h' c' kp e) (by simp only [List.size_toArray] <;> omega)
  · obtain ⟨its, r', pl, hz⟩ := I.tuple hq
    have hlen := r'.length
    obtain ⟨o, ho, hc, n, hd⟩ := pl
    exact call_list_seq p (.inr rfl) ho hc hd (fun h' c' kp e => fin its r' hz h' c' kp e) (by simp only [List.size_toArray] <;> omega)
/-! ### the call of a builtin's method: o.m(..) -/
/-- the value is of that builtin type -/
def tyV (K : PySem.W.Frag) (T : String) (x : V) (H : Hp) : Prop := match x with
  | .str _ => T = "str"
  | .int _ => T = "int"
  | .ref p => (T = "list" ∧ ∃ xs, SqL K H p xs) ∨ (T = "tuple" ∧ ∃ o, K.lookup p = some o ∧ o.cls = .type "tuple" ∧ o.dict = none) ∨
      (T = "dict" ∧ ((∃ kvs, H p = some (.dK kvs)) ∨ ∃ kvs, H p = some (.dT kvs))) ∨ (T = "set" ∧ ∃ S n, H p = some (.set S n))
  | _ => False
theorem tyV_is {pins : List (Addr × Obj)} {σ : St} {H : Hp} {s : Shared} {T : String} {x : V} {v : Value} (I : Inv X pins σ H s) (r : RelV x v) (ty : tyV X.K T x H) :
    s.TypeIs v T ∧ ∀ a, v = .ref a → ∃ ob, s.heap.get? a = some ob ∧ ob.dict = none := by
  cases x with
  | str z =>
    obtain ⟨t, rfl⟩ := r
    cases (show T = "str" from ty)
    exact ⟨typeIs_str s z t, fun _ e => nomatch e⟩
  | int i =>
    obtain ⟨t, rfl⟩ := r
    cases (show T = "int" from ty)
    exact ⟨typeIs_int s i t, fun _ e => nomatch e⟩
  | ref p =>
    cases r
    rcases ty with ⟨rfl, xs, hq⟩ | ⟨rfl, o, hk, hc, hd⟩ | ⟨rfl, hk⟩ | ⟨rfl, S, n, hk⟩
    · obtain ⟨its, _, pl, _⟩ := I.list hq
      refine ⟨pl.isList.typeIs, fun a e => ?_⟩
      cases e
      obtain ⟨o, n, e, c, hd, _⟩ := pl
      exact ⟨o, e, hd⟩
    · refine ⟨⟨o, I.kIn p o hk, hc⟩, fun a e => ?_⟩
      cases e
      exact ⟨o, I.kIn _ o hk, hd⟩
    · have z : ∃ o, s.heap.get? p = some o ∧ o.ExactDict := by
        rcases hk with ⟨kvs, hk⟩ | ⟨kvs, hk⟩
        · obtain ⟨_, _, _, _, o, _, _, e, ex, _⟩ := I.hok p _ hk
          exact ⟨o, e, ex⟩
        · obtain ⟨_, _, _, _, o, _, _, e, ex, _⟩ := I.hok p _ hk
          exact ⟨o, e, ex⟩
      obtain ⟨o, e, ex⟩ := z
      refine ⟨⟨o, e, ex.1⟩, fun a e2 => ?_⟩
      cases e2
      exact ⟨o, e, ex.2.1⟩
    · obtain ⟨o, _, _, _, e, ex, _⟩ := I.hok p _ hk
      refine ⟨⟨o, e, ex.1⟩, fun a e2 => ?_⟩
      cases e2
      exact ⟨o, e, ex.2.1⟩
  | _ => exact False.elim ty
def tBM0 (K : PySem.W.Frag) (T : String) (r : V → List V → Hp → VK → Prop) (to : TE) : TE := fun σ H Q => to σ H fun x H1 => tyV K T x H1 ∧ r x [] H1 Q
def tBM (K : PySem.W.Frag) (T : String) (r : V → List V → Hp → VK → Prop) (to : TE) (t : TA) : TE := fun σ H Q => to σ H fun x H1 => tyV K T x H1 ∧ t σ H1 fun xs H2 => r x xs H2 Q
variable {o e : Expr} {es : List Expr} {to : TE} {t : TA} {name : Str} {apos cpos : Pos} {T id : String} {r : V → List V → Hp → VK → Prop}
theorem pe_bm0 (pa : PlainAttrs T) (slot : Slot T name id) (hty : typeOf (.builtin id) = pure (.type "method_descriptor")) (hm : MtR X id r) (ho : PE X o to)
    (hbase : attributeBase o name X.env (eval o X.env) = eval o X.env := by rfl) (hline : (apos.endLine == cpos.line) = true := by rfl) : PE X (.Call (.Attribute o name apos) [] [] cpos) (tBM0 X.K T r to) := by
  intro pins s σ H Q I h
  refine wpAny_Call_method0_late hbase hline (thn (ho pins s σ H _ I h) fun v s1 ⟨x, H1, I1, r1, ty, q1⟩ => ?_)
  obtain ⟨h1, h2⟩ := tyV_is I1 r1 ty
  exact ⟨T, id, pa, slot, hty, h1, h2, Calls.callWith_builtin rfl (PySem.evalArgs_none (hm pins s1 σ H1 x [] v [] Q I1 r1 .nil q1))⟩
theorem pe_bm (pa : PlainAttrs T) (slot : Slot T name id) (hty : typeOf (.builtin id) = pure (.type "method_descriptor")) (hm : MtR X id r) (ho : PE X o to) (ha : PA X (e :: es) t)
    (hbase : attributeBase o name X.env (eval o X.env) = eval o X.env := by rfl)
    (hfew : ((backTo cpos (starEach (e :: es) X.env)).all (fun x => !x.1) && (backToKw cpos (keywordEach [] X.env)).all (fun x => x.1.isSome)
      && decide ((e :: es).length + ([] : List Keyword).length + (if ([] : List Keyword).isEmpty then 0 else 1) < 30)) = true := by rfl)
    (hline : (apos.endLine == cpos.line) = true := by rfl) (hs : starEach (e :: es) X.env = (false, eval e X.env) :: starEach es X.env := by rfl) (hplain : (backTo cpos (starEach es X.env)).any (·.1) = false := by rfl) :
    PE X (.Call (.Attribute o name apos) (e :: es) [] cpos) (tBM X.K T r to t) := by
  intro pins s σ H Q I h
  refine wpAny_Call_method_late hbase hfew hline rfl (thn (ho pins s σ H _ I h) fun v s1 ⟨x, H1, I1, r1, ty, q1⟩ => ?_)
  obtain ⟨h1, h2⟩ := tyV_is I1 r1 ty
  refine ⟨T, id, pa, slot, hty, h1, h2, ?_⟩
  have hA := ha cpos pins s1 σ H1 _ I1 q1
  rw [hs] at hA ⊢
  refine Calls.callWith_builtin (by show (false || (backTo cpos (starEach es X.env)).any (·.1)) = false; rw [hplain] <;> rfl) (Calls.evalArgs_plain ?_)
  exact thn hA fun us s2 ⟨vs, H2, I2, r2, q2⟩ => hm pins s2 σ H2 x vs v us Q I2 r1 r2 q2
/- xs.append(e), list.index on a module's tuple .. are MtR facts of 06m -/
end
end L2

namespace L2
open PySem PySem.Spec PyProof.Rows

def MtM (X : Cx) (id : String) (r : V → List V → Hp → VK → Prop) : Prop :=
  ∀ (pins : List (Addr × Obj)) (s : Shared) (σ : St) (H : Hp) (x : V) (xs : List V) (v : Value) (us : List Value) (Q : VK), Inv X pins σ H s → RelV x v → Vals xs us → r x xs H Q →
    wpAny (model X.prog X.w) X.A (call (.builtin id) (v :: us)) (EP X pins σ Q) X.xe s

/-! ### lists of values -/
theorem Vals.one : ∀ {x : V} {us : List Value}, Vals [x] us → ∃ u, us = [u] ∧ RelV x u
  | _, _, .cons r .nil => ⟨_, rfl, r⟩
theorem Vals.two : ∀ {x y : V} {us : List Value}, Vals [x, y] us → ∃ u v, us = [u, v] ∧ RelV x u ∧ RelV y v
  | _, _, _, .cons r (.cons q .nil) => ⟨_, _, rfl, r, q⟩
theorem Vals.zero : ∀ {us : List Value}, Vals [] us → us = []
  | _, .nil => rfl
theorem Vals.dropLast {xs : List V} {us : List Value} (h : Vals xs us) : Vals xs.dropLast us.dropLast := by
  induction h with
  | nil => exact .nil
  | cons r t ih =>
    cases t with
    | nil => exact .nil
    | cons q t' => exact .cons r ih
theorem Vals.eraseIdx : ∀ {xs : List V} {us : List Value} (i : Nat), Vals xs us → Vals (xs.eraseIdx i) (us.eraseIdx i)
  | _, _, _, .nil => .nil
  | _, _, 0, .cons _ t => t
  | _, _, i + 1, .cons r t => .cons r (Vals.eraseIdx i t)
theorem Vals.reverse {xs : List V} {us : List Value} (h : Vals xs us) : Vals xs.reverse us.reverse := by
  induction h with
  | nil => exact .nil
  | cons r t ih => rw [List.reverse_cons, List.reverse_cons]; exact Vals.append ih (.cons r .nil)
theorem erase_last {α : Type} (l : List α) : l.eraseIdx (l.length - 1) = l.dropLast := by
  induction l with
  | nil => rfl
  | cons a r ih =>
    cases r with
    | nil => rfl
    | cons b r =>
      have e : (a :: b :: r).length - 1 = ((b :: r).length - 1) + 1 := by
        have h1 : (a :: b :: r).length = r.length + 2 := rfl
        have h2 : (b :: r).length = r.length + 1 := rfl
        omega
      rw [e, List.eraseIdx_cons_succ, ih]
      all_goals rfl
section
variable {X : Cx} {pins : List (Addr × Obj)} {σ : St} {H : Hp} {s : Shared} {l b : Addr} {xs ys zs : List V}

/-! ### the two steps: a tracked list is rewritten, a new list is laid -/
theorem Inv.lset {its its' : List Value} {n : Nat} {f : Array Value → Array Value} {t' : Nat} (I : Inv X pins σ H s) (hH : H l = some (.lst xs))
    (e : s.heap.get? l = some { cls := .type "list", data := .seq its.toArray n }) (hf : f its.toArray = its'.toArray) (hv : Vals ys its') (hz : ys.length ≤ sizeLine) :
    Inv X pins σ (upd H l (.lst ys)) { s with heap := s.heap.update l (Obj.mapSeq f), toks := t' } := by
  have q := PySem.IsL.update e f
  rw [hf] at q
  refine I.write (x := l) (e := l) (by rw [hH]; exact trivial) (.inl rfl) (fun b' u hb hu => (Heap.get?_update_other s.heap (Obj.mapSeq f) (Ne.symm hb)).trans hu) ⟨_, q⟩ ?_
  exact ⟨hz, its', _, hv, q⟩
theorem Inv.lnew {its : List Value} {t' : Nat} (I : Inv X pins σ H s) (hv : Vals ys its) (hz : ys.length ≤ sizeLine) :
    Inv X pins σ (upd H s.heap.objs.size (.lst ys)) { s with heap := s.heap.push { cls := .type "list", data := .seq its.toArray }, toks := t' } :=
  I.laid (fun _ _ q => Heap.get?_push_of_some _ q) (Nat.le_refl _) ⟨hz, its, 0, hv, Heap.get?_push_size _ rfl⟩
theorem Inv.fresh (I : Inv X pins σ H s) : H s.heap.objs.size = none := I.hok.fresh (Nat.le_refl _)
theorem Inv.lstM (I : Inv X pins σ H s) (hH : H l = some (.lst xs)) : xs.length ≤ sizeLine ∧ ∃ (its : List Value) (n : Nat), Vals xs its ∧ xs.length = its.length ∧ s.heap.get? l = some { cls := .type "list", data := .seq its.toArray n } := by
  obtain ⟨z, its, n, r, e⟩ := I.hok l _ hH
  exact ⟨z, its, n, r, r.length, e⟩

theorem notLongL {n : Nat} (h : n ≤ sizeLine) : Builtin.List.listTooLong n = false := by
  unfold Builtin.List.listTooLong
  exact decide_eq_false (by omega)
end

section
variable {X : Cx}

/-! ### methods -/
def rAppend : V → List V → Hp → VK → Prop := fun x vs H Q => ∃ l xs y, x = .ref l ∧ vs = [y] ∧ H l = some (.lst xs) ∧ xs.length < sizeLine ∧ Q .non (upd H l (.lst (xs ++ [y])))
theorem mt_append : MtM X "list.append" rAppend := by
  intro pins s σ H x vs v us Q I rx rv h
  obtain ⟨l, xs, y, rfl, rfl, hH, hz, q⟩ := h
  cases rx
  obtain ⟨u, rfl, ru⟩ := rv.one
  obtain ⟨z, its, n, r, hl, e⟩ := I.lstM hH
  refine call_meets F.slot_list_append ⟨_, e, rfl⟩ F.entry_list_append (F.args_list_append_2 _ _) (PySem.list_append l its.toArray n u (by rw [List.size_toArray]; omega)) ⟨e, ?_⟩
  refine ⟨.non, _, I.lset (its' := its ++ [u]) hH e (by simp) (r.append (.cons ru .nil)) ?_, rfl, q⟩
  rw [List.length_append, List.length_singleton]
  omega

def rExtend : V → List V → Hp → VK → Prop := fun x vs H Q => ∃ l b xs zs, x = .ref l ∧ vs = [.ref b] ∧ H l = some (.lst xs) ∧ H b = some (.lst zs) ∧ xs.length + zs.length ≤ sizeLine ∧ Q .non (upd H l (.lst (xs ++ zs)))
theorem mt_extend : MtM X "list.extend" rExtend := by
  intro pins s σ H x vs v us Q I rx rv h
  obtain ⟨l, b, xs, zs, rfl, rfl, hH, hB, hz, q⟩ := h
  cases rx
  obtain ⟨u, rfl, ru⟩ := rv.one
  cases ru
  obtain ⟨z, its, n, r, hl, e⟩ := I.lstM hH
  obtain ⟨z2, its2, n2, r2, hl2, e2⟩ := I.lstM hB
  have hsz : its.toArray.size + its2.toArray.size ≤ sizeLine := by rw [List.size_toArray, List.size_toArray]; omega
  have hlong : ¬ (!its.toArray.isEmpty && Builtin.List.listTooLong (its.toArray.size + its2.toArray.size)) = true := by
    rw [notLongL hsz, Bool.and_false]
    exact Bool.false_ne_true
  refine call_meets F.slot_list_extend ⟨_, e, rfl⟩ F.entry_list_extend (F.args_list_extend_2 _ _)
    (AutoSeq1.list_extend_list_list_0 l its.toArray n b its2.toArray n2 hlong (by rw [List.size_toArray]; omega) (by omega)) ⟨e, e2, ?_⟩
  refine ⟨.non, _, I.lset (its' := its ++ its2) hH e (by simp) (r.append r2) ?_, rfl, q⟩
  rw [List.length_append]
  omega

def rPop : V → List V → Hp → VK → Prop := fun x vs H Q => ∃ l xs y, x = .ref l ∧ vs = [] ∧ H l = some (.lst xs) ∧ xs[xs.length - 1]? = some y ∧ Q y (upd H l (.lst xs.dropLast))
theorem mt_pop : MtM X "list.pop" rPop := by
  intro pins s σ H x vs v us Q I rx rv h
  obtain ⟨l, xs, y, rfl, rfl, hH, hy, q⟩ := h
  cases rx
  have hus := rv.zero
  subst hus
  obtain ⟨z, its, n, r, hl, e⟩ := I.lstM hH
  obtain ⟨u, hu, ru⟩ := r.get hy
  have hy' : its.toArray[its.toArray.size - 1]? = some u := by
    show its.toArray[its.length - 1]? = some u
    rw [← Array.getElem?_toList, ← hl]
    exact hu
  refine call_meets F.slot_list_pop ⟨_, e, rfl⟩ F.entry_list_pop (F.args_list_pop_1 _) (MeetsSeq.list_pop_last l its.toArray n u hy' (by rw [List.size_toArray]; omega)) ⟨e, ?_⟩
  refine ⟨y, _, I.lset (its' := its.dropLast) hH e ?_ r.dropLast ?_, ru, q⟩
  · show its.toArray.eraseIdxIfInBounds (its.toArray.size - 1) = its.dropLast.toArray
    rw [List.size_toArray, List.eraseIdxIfInBounds_toArray, erase_last]
  · rw [List.length_dropLast]
    omega

def rClear : V → List V → Hp → VK → Prop := fun x vs H Q => ∃ l xs, x = .ref l ∧ vs = [] ∧ H l = some (.lst xs) ∧ Q .non (upd H l (.lst []))
theorem mt_clear : MtM X "list.clear" rClear := by
  intro pins s σ H x vs v us Q I rx rv h
  obtain ⟨l, xs, rfl, rfl, hH, q⟩ := h
  cases rx
  have hus := rv.zero
  subst hus
  obtain ⟨z, its, n, r, hl, e⟩ := I.lstM hH
  refine call_meets F.slot_list_clear ⟨_, e, rfl⟩ F.entry_list_clear (F.args_list_clear_1 _) (AutoSeq1.list_clear_list_0 l its.toArray n (by rw [List.size_toArray]; omega)) ⟨e, ?_⟩
  exact ⟨.non, _, I.lset (its' := []) (ys := []) hH e rfl .nil (Nat.zero_le _), rfl, q⟩

/-! ### list + list, list += list, list * int -/
/-! ### del xs[i] -/
end

/-! ### xs[a:b] = ys -/
section
variable {prog : Program} {w : World} {A : Around} {E : Value → Shared → Prop} {s : Shared}
set_option maxRecDepth 100000 in
end

section
variable {X : Cx}
end
end L2

namespace Att
open PySem PySem.W PySem.Calls PyProof.Rows

/-! ### the script -/
theorem ints_of_wellAll {P : Params} {h : Heap} : ∀ (ns : List Int) (vs : List Value), WellAll P h vs (ns.map WData.int) → IntsAre vs ns := by
  intro ns
  induction ns with
  | nil =>
    intro vs w
    rw [List.map_nil] at w
    cases w
    exact .nil
  | cons n ns ih =>
    intro vs w
    rw [List.map_cons] at w
    cases w with
    | cons a b =>
      cases a
      exact .cons _ _ (ih _ b)

theorem script_of {l : OpenLaw} {n : Nat} (hn : l.most = some n) {P : Params} {h : Heap} {args : List WData} {vals : List Value}
    (hpre : l.row.toRowW.claim.pre args = true) (hwl : WellAll P h vals args) :
    ∃ a vs ns, vals = [Value.ref a] ∧ args = [WData.list (ns.map WData.int)] ∧ h.get? a = some { cls := .type "list", data := .seq vs.toArray } ∧ IntsAre vs ns ∧ ns.length ≤ n := by
  have hsh : WShape.hasAll [] args [.list .int] = true := (pre_splitW hpre).1
  have hc : l.pre.holds [] { args := args } = true := (pre_splitW hpre).2
  obtain ⟨d, r, rfl, h1, h2⟩ := hasAllW_cons hsh
  obtain rfl := hasAllW_nil h2
  obtain ⟨xs, rfl, h3⟩ := hasW_list h1
  obtain ⟨ns, rfl⟩ := items_int h3
  have hlen : ns.length ≤ n := by
    unfold OpenLaw.pre at hc
    have h4 : (WTm.not (.lt (.lit (.int (n : Int))) (.len (.arg 0)))).holds [] { args := [.list (ns.map .int)] } = true := by
      have h4 := (holds_andW hc).1
      rw [hn] at h4
      exact h4
    have h5 := condW_of h4 (w_not (w_lt w_lit (w_len_list (w_arg rfl))))
    rw [List.length_map] at h5
    refine Nat.le_of_not_lt fun q => ?_
    have q' : (n : Int) < ((ns.length : Nat) : Int) := by omega
    first
      | (rw [decide_eq_true q'] at h5; exact absurd h5 (by decide))
      | (simp at h5; omega)
  cases hwl with
  | cons w1 w2 =>
    cases w2
    cases w1 with
    | list ho hall => exact ⟨_, _, ns, rfl, rfl, ho, ints_of_wellAll ns _ hall, hlen⟩

theorem post_true (l : OpenLaw) (args : List WData) : l.row.toRowW.claim.post args (.bool true) args = true :=
  postW_of (r := l.row.toRowW) (X := (true == true))
    (show WShape.has [] (.bool true) .bool = true by first | rfl | decide | simp [WShape.has, WShape.arms, WShape.armsAll])
    (show (WTm.eq .res (.lit (.bool true))).value [] { args := args, res := some (.bool true), after := args } = some (.bool (true == true)) from w_eq_bool (w_res rfl) w_lit) rfl

/-! ### the attachment: holds_open's last premise (the goal 'hc' behind k_head) from a wpAny of the law's body -/
/-- the same from a codeAny of the CALL (for a layer whose function contracts speak of calls) -/
theorem attach_call {l : OpenLaw} {n : Nat} {q : Program} {loose : List Str} {XP : (Str → Option Value) → Heap → Prop} {YP : World → Heap → Prop} {d : DefRec}
    (hn : l.most = some n) (hdf : d.params.defaults = [])
    (call : ∀ (w : World) (s₀ s₁ : Shared) (mg mb : Str → Option Value) (fa : Addr) (o : Obj) (pm cd doc : Value) (a : Addr) (vs : List Value) (ns : List Int),
      Ground q loose [] XP w s₀ mg mb s₁.heap → YP w s₁.heap →
      s₁.heap.get? fa = some o → o.data = .func (docDef d.name d.params d.body d.scope pm cd doc) → s₁.heap.CodeRec cd d.name → mg d.name = some (.ref fa) →
      s₁.heap.get? a = some { cls := .type "list", data := .seq vs.toArray } → IntsAre vs ns → ns.length ≤ n → s₁.gens = #[] →
      codeAny (model l.prog w) callerA (.call (.ref fa) ⟨[.ref a], []⟩) (fun r s' => r = .ok (.ret (.bool true)) ∧ OldK s₁.heap s'.heap ∧ s'.os = s₁.os ∧ AllBare s'.gens) s₁) :
    WalkO q loose XP YP l.row.toRowW d [] (fun f vs => PySem.call f vs) := by
  intro w s₀ s₁ mg mb G Y fa o pm cd doc dV kV ho hd hcd hD hmg hg args vals as hpre hlay hrd hwl hlo
  obtain rfl : dV = .none := Dflts.none hD hdf
  obtain rfl : kV = .none := Dflts.noKw hD
  obtain ⟨a, vs, ns, rfl, rfl, hobj, hints, hlen⟩ := script_of hn hpre hwl
  refine enter_call (codeAny_mono (call w s₀ s₁ mg mb fa o pm cd doc a vs ns G Y ho (fd_plain hd) hcd hmg hobj hints hlen hg) fun r s' hq => ?_)
  obtain ⟨rfl, h2, h3, h4⟩ := hq
  exact ⟨.inl ⟨.bool true, .bool true, [], rfl, fun _ => rfl, .bool true, post_true l _, fun _ => ⟨List.Pairwise.nil, fun _ hm => (nomatch hm)⟩⟩, h2, h3, h4⟩

/-! ### rules over ANY heap (no ledger) from facts about the written part K: the library's own take a ledger (News) for what they write -/
section
variable {prog : Program} {w : World} {A : Around} {E : Value → Shared → Prop} {s : Shared} {K : Frag}

/-! the whole heap as the ledger: makes every rule that writes through a ledger a rule over any heap -/
def ledger (h : Heap) (L d : Addr) : List (Addr × Obj) := (List.range h.objs.size).filterMap fun a => if a = L ∨ a = d then none else (h.get? a).map fun o => (a, o)
end
end Att

namespace L2
open PySem PySem.Spec PyProof.Rows

theorem vals_ints : ∀ {vs : List Value} {ns : List Int}, IntsAre vs ns → Vals (ns.map V.int) vs
  | _, _, .nil => .nil
  | _, _, .cons n t h => .cons ⟨t, rfl⟩ (vals_ints h)

/-- nothing is tracked but the script, known to the object (or it is an object of the module) -/
def Only (H : Hp) : Prop := ∀ b, H b = none ∨ ∃ o xs, H b = some (.frz o (.lst xs))

/-- THE HEAD: the law's promise, at the heap behind the top. F, the promise of the law's def, may use that base is part of the heap (so K.In base, base.Ns mainGlobals mg stand in Mod) -/
theorem law_call {P : Program} {w : World} {K : PySem.W.Frag} {mg mb : Str → Option Value} {CX : CXT} {k : Nat} {fa a : Addr} {fd : FuncData} {x : Str} {sp : Sp} {s₁ : Shared} {vs : List Value} {ns : List Int}
    (KX : K.In s₁.heap) (hns : s₁.heap.Ns mainGlobals mg) (hb : s₁.heap.Ns builtinsNs mb) (hbb : ∀ x : Str, x ≠ "__name__" → mb x = bootBuiltins x) (hlim : s₁.heap.NoLimit) (hg : s₁.gens = #[])
    (ha : s₁.heap.get? a = some { cls := .type "list", data := .seq vs.toArray }) (hi : IntsAre vs ns) (hl : ns.length ≤ sizeLine) (hr : Room k callerA)
    (F : ∀ base : Heap, K.In base → base.Ns mainGlobals mg → FnOk P w K mg base CX k fa fd [x] sp) (hbind : ∀ (s : Shared) (u : Value), BindsTo s fd ⟨[u], []⟩ [(x, u)])
    (hsp : ∀ H : Hp, Only H → SqL K H a (ns.map V.int) → sp [.ref a] H (fun v _ => v = .bl true) fun _ _ _ => False)
    (hCX : ∀ H e s', CX [] H s₁ (fun _ _ _ => False) e s' → False) :
    codeAny (model P w) callerA (.call (.ref fa) ⟨[.ref a], []⟩) (fun r s' => r = .ok (.ret (.bool true)) ∧ OldK s₁.heap s'.heap ∧ s'.os = s₁.os ∧ AllBare s'.gens) s₁ := by
  have rv := vals_ints hi
  have lenV := hi.length
  -- from an abstract heap in which nothing but the script may be tracked
  have core : ∀ H : Hp, Only H → SqL K H a (ns.map V.int) → HOk P w H s₁.heap → (∀ b, H b ≠ none → b = a) → (H a ≠ none → K.lookup a = none) →
      codeAny (model P w) callerA (.call (.ref fa) ⟨[.ref a], []⟩) (fun r s' => r = .ok (.ret (.bool true)) ∧ OldK s₁.heap s'.heap ∧ s'.os = s₁.os ∧ AllBare s'.gens) s₁ := by
    intro H hO hS hok hA hK
    have base_of : ∀ {b : Addr} {o : Obj}, s₁.heap.get? b = some o → H b = none → (hidT s₁.heap H).get? b = some o := fun e n => hidT_get e n
    have noA : ∀ {b : Addr} {o : Obj} {es : Array DictEntry} {ep : Nat}, s₁.heap.get? b = some o → o.data = .dict es ep → H b = none := fun {b o es ep} e d => by
      cases q : H b with
      | none => rfl
      | some u =>
        have e' : b = a := hA b (by rw [q]; simp)
        subst e'
        rw [ha] at e; cases e
        have d' : Data.seq vs.toArray _ = Data.dict es ep := d
        cases d'
    have nsK : ∀ {b : Addr} {m : Str → Option Value}, s₁.heap.Ns b m → (hidT s₁.heap H).Ns b m := fun {b m} ⟨o, es, ep, e, d, r⟩ => ⟨o, es, ep, base_of e (noA e d), d, r⟩
    have hKb : K.In (hidT s₁.heap H) := fun b o e => base_of (KX b o e) (by
      cases q : H b with
      | none => rfl
      | some u =>
        have e' : b = a := hA b (by rw [q]; simp)
        subst e'
        rw [hK (by rw [q]; simp)] at e; cases e)
    have hM : Mod K mg (hidT s₁.heap H) := ⟨hKb, nsK hns, ⟨mb, nsK hb, hbb⟩, let ⟨mc, h1, h2⟩ := hlim; ⟨mc, nsK h1, h2⟩⟩
    have e0 : Env0 P w K mg (hidT s₁.heap H) callerA [] s₁ H := ⟨rfl, hM, fun b o e => of_hidT e, Nat.le_of_eq (hidT_size _ _), trivial, fun b hb => absurd (show b ∈ ([] : List Addr) from hb) (by simp), hok, .of_eq hg⟩
    refine codeAny_mono ((F _ hKb (nsK hns)).run callerA [] s₁ H ⟨[.ref a], []⟩ [.ref a] [.ref a] _ _ hr e0 (hbind s₁ (.ref a)) (.cons rfl .nil) (hsp H hO hS)) fun r s' h => ?_
    cases r with
    | error e => exact (hCX H e s' h).elim
    | ok fl =>
      cases fl with
      | next => exact False.elim h
      | brk => exact False.elim h
      | cont => exact False.elim h
      | ret u =>
        obtain ⟨v, H', os, bare, un, hok', r', q⟩ := h
        have q' : v = .bl true := q
        subst q'
        obtain rfl : u = Value.bool true := r'
        refine ⟨rfl, OldK.of_keep fun b o e => ?_, os, bare⟩
        cases q : H b with
        | none => exact un.keep b o e q (by intro z; exact absurd (show b ∈ ([] : List Addr) from z) (by simp)) (by simp)
        | some u =>
          rcases hO b with z | ⟨ob, xs, z⟩
          · rw [q] at z; cases z
          · have z2 := un.frzs b ob _ z
            obtain ⟨e1, _⟩ := hok b _ z
            obtain ⟨e2, _⟩ := hok' b _ z2
            rw [e] at e1; cases e1
            exact e2
  cases hk : K.lookup a with
  | some o =>
    -- the script is one of the module's own objects
    have e := KX a o hk
    rw [ha] at e
    cases e
    refine core (fun _ => none) (fun _ => .inl rfl) (.inr ⟨_, vs.toArray, _, hk, rfl, rfl, rfl, by rw [List.size_toArray, lenV]; exact hl, by simpa using rv⟩) (fun b u z => by have z' : (none : Option HO) = some u := z; cases z') (fun b z => absurd rfl z) fun z => absurd rfl z
  | none =>
    refine core (fun b => if b = a then some (.frz { cls := .type "list", data := .seq vs.toArray } (.lst (ns.map V.int))) else none) (fun b => ?_) (.inl (.inr ⟨{ cls := .type "list", data := .seq vs.toArray }, if_pos rfl⟩)) (fun b u z => ?_) (fun b z => ?_) fun _ => hk
    · by_cases hb : b = a
      · exact .inr ⟨_, _, if_pos hb⟩
      · exact .inl (if_neg hb)
    · by_cases hb : b = a
      · have z' := (if_pos hb).symm.trans z
        cases z'
        subst hb
        exact ⟨ha, by rw [List.length_map]; exact hl, vs, _, rv, ha⟩
      · have z' := (if_neg hb).symm.trans z
        cases z'
    · by_cases hb : b = a
      · exact hb
      · exact absurd (if_neg hb) z
end L2

namespace L2
open PySem PySem.Spec PyProof.Rows

abbrev KOf {K : PySem.W.Frag} {h : Heap} (_ : K.In h) : PySem.W.Frag := K

end L2



/-! SHORT WORDS over the layer: a def of the text, its body, what a loop and a test want. -/
namespace L2
open PySem PySem.Spec PyProof.Rows

/-! ### the text by places -/
def defArgs (s : Stmt) : Arguments := match s with
  | .FunctionDef _ a _ _ _ _ _ _ _ _ => a
  | _ => { posonlyargs := [], args := [], vararg := none, kwonlyargs := [], kw_defaults := [], kwarg := none, defaults := [] }
def defBody (s : Stmt) : List Stmt := match s with
  | .FunctionDef _ _ b _ _ _ _ _ _ _ => b
  | _ => []
def defScope (s : Stmt) : Scope := match s with
  | .FunctionDef _ _ _ _ _ _ sc _ _ _ => sc
  | _ => { kind := .function, names := [], isGenerator := false, isCoroutine := false }

/-! ### no exception leaves a def -/
abbrev CX0 : CXT := fun _ _ _ _ _ _ => False
abbrev E0 : XK := fun _ _ _ => False
theorem pass0 {X : Cx} : Passes CX0 X E0 := fun _ _ _ _ _ _ _ h => h.elim

/-! ### a def (or method) of the text as it stands behind the top -/
structure Fun (K : PySem.W.Frag) (x qual : Str) (st : Stmt) (f : Addr) (fd : FuncData) : Prop where
  ex : ∃ (oc : Value) (od : Option Addr) (kV doc pm : Value) (an : Option Addr) (cdv ct : Value) (osl : Array (Option Value)),
    fd = PySem.W.fnOf x qual (defArgs st) (defBody st) (defScope st) .none kV doc pm an cdv ct ∧ K.lookup f = some ⟨oc, od, .func fd, osl⟩ ∧ PySem.W.codeIn K cdv qual = true
  kp : PySem.W.keepIn K (.ref f) = true
section
variable {P : Program} {w : World} {K : PySem.W.Frag} {mg : Str → Option Value} {base : Heap}
/-- THE RULE for a def: its body as a term of rules, and the reading of that term -/
theorem Fun.ok {x qual : Str} {st : Stmt} {f : Addr} {fd : FuncData} {N ps : List Str} {k : Nat} {sp : Sp} (F : Fun K x qual st f fd) (S : FnScope N ps (defScope st)) (len : ∀ vs H Q E, sp vs H Q E → vs.length = ps.length)
    (hbody : ∀ (cdv : Value) (A : Around) (outer : List Env) (s : Shared) (H : Hp) (vs : List V) (Q : VK) (E : XK), Room k (A.deeper (envOfC qual (defScope st) s.heap.objs.size f cdv)) → sp vs H Q E →
      ∃ t, PSs (cxOf CX0 P w K mg base N qual (defScope st) f cdv A outer s H E).nox (defBody st) t ∧ t { nx := fun _ H' => Q .non H', rt := Q } (start N vs) H) : FnOk P w K mg base CX0 (k + 1) f fd ps sp := by
  obtain ⟨oc, od, kV, doc, pm, an, cdv, ct, osl, rfl, lk, hcd⟩ := F.ex
  refine fn_of lk hcd S len fun A outer s H vs Q E hr hsp => ?_
  obtain ⟨t, h, q⟩ := hbody cdv A outer s H vs Q E hr hsp
  exact ⟨t, h.nox, q⟩
/-- how its arguments bind (no defaults): h is «fun _ _ _ _ _ _ us hl => match us, hl with | [_, _], _ => rfl», one _ a parameter -/
theorem Fun.binds {x qual : Str} {st : Stmt} {f : Addr} {fd : FuncData} {ps : List Str} (F : Fun K x qual st f fd)
    (h : ∀ (kV doc pm : Value) (an : Option Addr) (cdv ct : Value) (us : List Value), us.length = ps.length → bindArgs (PySem.W.fnOf x qual (defArgs st) (defBody st) (defScope st) .none kV doc pm an cdv ct) ⟨us, []⟩ = pure (ps.zip us)) : Binds K fd ps [] := by
  obtain ⟨oc, od, kV, doc, pm, an, cdv, ct, osl, rfl, lk, hcd⟩ := F.ex
  exact .all (h kV doc pm an cdv ct)
theorem fun_mk {x qual : Str} {st : Stmt} {f : Addr} {oc : Value} {od an : Option Addr} {osl : Array (Option Value)} {kV doc pm cdv ct : Value} (l : K.lookup f = some ⟨oc, od, .func (PySem.W.fnOf x qual (defArgs st) (defBody st) (defScope st) .none kV doc pm an cdv ct), osl⟩)
    (c : PySem.W.codeIn K cdv qual = true) (k : PySem.W.keepIn K (.ref f) = true) : Fun K x qual st f (PySem.W.fnOf x qual (defArgs st) (defBody st) (defScope st) .none kV doc pm an cdv ct) := ⟨⟨oc, od, kV, doc, pm, an, cdv, ct, osl, rfl, l, c⟩, k⟩
end
/-! ### expressions in short: the name that stands in the i-th slot -/
section
variable {X : Cx}
end

/-! ### tests -/
theorem iteF {A B : Prop} (h : B) : if false = true then A else B := by
  rw [if_neg Bool.false_ne_true]
  exact h
theorem ite2 {c A B : Prop} [Decidable c] (h1 : c → A) (h2 : ¬ c → B) : if c then A else B := by
  by_cases h : c
  · rw [if_pos h]
    exact h1 h
  · rw [if_neg h]
    exact h2 h
theorem iteNS {c A B : Prop} [Decidable c] (hc : c) (h : B) : if (!decide c) = true then A else B := by
  rw [decide_eq_true hc]
  exact iteF h

/-! ### heaps -/
/-- all that was tracked is as it was -/
def Same (H H' : Hp) : Prop := ∀ b o, H b = some o → H' b = some o
theorem Same.refl (H : Hp) : Same H H := fun _ _ h => h
theorem Same.trans {H H1 H2 : Hp} (a : Same H H1) (b : Same H1 H2) : Same H H2 := fun c o h => b c o (a c o h)
theorem Same.free {H H' : Hp} (e : Same H H') {l : Addr} (h : H' l = Option.none) : H l = Option.none := by
  cases q : H l with
  | none => rfl
  | some o =>
    rw [e l o q] at h
    cases h
theorem Same.seq {K : PySem.W.Frag} {H H' : Hp} {a : Addr} {xs : List V} (e : Same H H') (h : SqL K H a xs) : SqL K H' a xs := by
  rcases h with (h | ⟨o, h⟩) | h
  · exact .inl (.inl (e _ _ h))
  · exact .inl (.inr ⟨o, e _ _ h⟩)
  · exact .inr h

end L2

set_option Elab.async false
set_option linter.all false
set_option maxRecDepth 100000
set_option maxHeartbeats 4000000
namespace L2
open PySem PySem.Spec PyProof.Rows

/-! ### the signs of a text, walked -/
def Its (x : Str) : It := ⟨fun i _ => i < x.cps.size, fun i H y H' => H' = H ∧ ∃ c, x.cps[i]? = some c ∧ y = .str ⟨#[c]⟩, fun i _ => x.cps.size ≤ i⟩
theorem turn_str {P : Program} {w : World} {K : PySem.W.Frag} {tg : Expr} (x : Str) (it : Addr) {ty : String} {t : Tok} (hty : ty = "str_ascii_iterator" ∨ ty = "str_iterator") :
    Turn P w K tg (Its x) [it] it (fun i h => h.IsStrIter it ty x t i) where
  mem := by simp
  obj := fun i h st b hb => by
    have e : b = it := by simpa using hb
    subst e
    obtain ⟨o, e, c, d⟩ := st
    exact ⟨o, e, fun v z => by rw [d] at z; cases z⟩
  keep := fun i h h' st k => by
    obtain ⟨o, e, r⟩ := st
    exact ⟨o, k it (by simp) o e, r⟩
  item := by
    intro X hP hw hK hc i pins s σ H E I hf st hg
    subst hP hw hK
    have hi : i < x.cps.size := hg
    obtain ⟨f0, f1, f2, f3, f4, f5⟩ := hf it (by simp)
    rcases hty with rfl | rfl
    · refine wpAny_pyNext_ascii_item st (c := x.cps[i]) (by simp [hi]) fun h' st' sb => ?_
      have I1 : Inv X pins σ H { s with heap := h', toks := s.toks + 1 } := I.turned (fun b o hb e => (sb.2 b hb).trans e) f0 f1 f3 f4 f5
      obtain ⟨o, e, c, d⟩ := id st'
      exact ⟨_, rfl, go_of (s := { s with heap := h', toks := s.toks + 1 }) e c d (by decide) ⟨.str ⟨#[x.cps[i]]⟩, H, I1, ⟨_, rfl⟩, ⟨rfl, x.cps[i], by simp [hi], rfl⟩, st', fun b hb => (hf b hb).1⟩⟩
    · refine wpAny_pyNext_wide_item st (c := x.cps[i]) (by simp [hi]) fun h' st' sb => ?_
      have I1 : Inv X pins σ H { s with heap := h', toks := s.toks + 1 } := I.turned (fun b o hb e => (sb.2 b hb).trans e) f0 f1 f3 f4 f5
      obtain ⟨o, e, c, d⟩ := id st'
      exact ⟨_, rfl, go_of (s := { s with heap := h', toks := s.toks + 1 }) e c d (by decide) ⟨.str ⟨#[x.cps[i]]⟩, H, I1, ⟨_, rfl⟩, ⟨rfl, x.cps[i], by simp [hi], rfl⟩, st', fun b hb => (hf b hb).1⟩⟩
  done := by
    intro X hP hw hK hc i pins s σ H E I hf st hg
    subst hP hw hK
    have hi : x.cps.size ≤ i := hg
    obtain ⟨f0, f1, f2, f3, f4, f5⟩ := hf it (by simp)
    rcases hty with rfl | rfl
    · exact wpAny_pyNext_ascii_end (I.ok.hd hc) st (by simp [hi]) fun h' eb => ⟨rfl, I.turned (t' := s.toks) (fun b o hb e => eb b o hb e) f0 f1 f3 f4 f5⟩
    · exact wpAny_pyNext_wide_end (I.ok.hd hc) st (by simp [hi]) fun h' eb => ⟨rfl, I.turned (t' := s.toks) (fun b o hb e => eb b o hb e) f0 f1 f3 f4 f5⟩
  self := fun _ _ _ _ _ st h => by
    rcases hty with rfl | rfl
    · exact wpAny_pyIter_striter_ascii st h
    · exact wpAny_pyIter_striter_wide st h
def iStr (tl : TE) : TI := fun σ H R => tl σ H fun x H1 => ∃ z, x = .str z ∧ R (Its z) H1
theorem pi_str {X : Cx} {tg l : Expr} {tl : TE} (hl : PE X l tl) : PI X tg l (iStr tl) := by
  intro pins s σ H R I h
  refine thn (hl pins s σ H _ I h) fun v s1 ⟨x, H1, I1, r1, q1⟩ => ?_
  obtain ⟨z, e, q⟩ := q1
  subst e
  obtain ⟨t, rfl⟩ := r1
  refine wpAny_pyIter_strU ?_
  refine ⟨s1.heap.objs.size, [s1.heap.objs.size], _, _, H1, rfl, I1.kept (t' := s1.toks) fun b o e => Heap.get?_push_of_some _ e, turn_str (ty := strIterType z) (t := t) z _ ?_, ⟨_, Heap.get?_push_size _ rfl, rfl, rfl⟩, fun b hb => ?_, q⟩
  · unfold strIterType
    split
    · exact .inl rfl
    · exact .inr rfl
  · have e : b = s1.heap.objs.size := by simpa using hb
    subst e
    exact I1.fpOk (Nat.le_refl _) (I1.hok.fresh (Nat.le_refl _))
end L2

set_option Elab.async false
set_option linter.all false
set_option maxRecDepth 100000
set_option maxHeartbeats 4000000
namespace L2
open PySem PySem.Spec PyProof.Rows

/-! ### a comprehension -/
def Wk : St → St → Prop
  | [], [] => True
  | Option.none :: r, _ :: q => Wk r q
  | some a :: r, b :: q => b = some a ∧ Wk r q
  | _, _ => False
theorem Wk.len : ∀ {a b : St}, Wk a b → a.length = b.length
  | [], [], _ => rfl
  | Option.none :: r, _ :: q, h => congrArg (· + 1) (Wk.len (a := r) (b := q) h)
  | some _ :: r, _ :: q, h => congrArg (· + 1) (Wk.len (a := r) (b := q) h.2)
  | [], _ :: _, h => h.elim
  | Option.none :: _, [], h => h.elim
  | some _ :: _, [], h => h.elim
theorem Wk.get : ∀ {a b : St}, Wk a b → ∀ (i : Nat) v, a[i]? = some (some v) → b[i]? = some (some v)
  | [], [], _, i, v, e => by simp at e
  | Option.none :: r, y :: q, h, 0, v, e => by simp at e
  | Option.none :: r, y :: q, h, i + 1, v, e => by simpa using Wk.get (a := r) (b := q) h i v (by simpa using e)
  | some x :: r, y :: q, h, 0, v, e => by
    have e' : x = v := by simpa using e
    rw [h.1, e'] <;> simp
  | some x :: r, y :: q, h, i + 1, v, e => by simpa using Wk.get (a := r) (b := q) h.2 i v (by simpa using e)
  | [], _ :: _, h, _, _, _ => h.elim
  | Option.none :: _, [], h, _, _, _ => h.elim
  | some _ :: _, [], h, _, _, _ => h.elim
def clOf (cells : List (Str × Addr)) : List (Str × NameKind) → List (Str × Addr) → List (Str × Addr)
  | [], acc => acc
  | (n, k) :: r, acc => if k == .free then clOf cells r ((n, (cells.lookup n).getD 0) :: acc) else clOf cells r acc
theorem closureFor_clOf {sc : Scope} {env : Env} (h : ∀ y ∈ sc.names, y.2 = .free → ∃ c, env.cells.lookup y.1 = some c) : closureFor sc env = pure (clOf env.cells sc.names []) := by
  unfold closureFor
  have key : ∀ (l : List (Str × NameKind)) (acc : List (Str × Addr)), (∀ y ∈ l, y.2 = .free → ∃ c, env.cells.lookup y.1 = some c) →
      (forIn l acc fun x r => match x with | (name, kind) => if (kind == .free) = true then do let a ← cellOf env name; pure (ForInStep.yield ((name, a) :: r)) else pure (ForInStep.yield r) : Sem (List (Str × Addr))) = pure (clOf env.cells l acc) := by
    intro l
    induction l with
    | nil => intro acc _; rfl
    | cons y r ih =>
      intro acc hy
      obtain ⟨n, k⟩ := y
      have hr : ∀ y ∈ r, y.2 = .free → ∃ c, env.cells.lookup y.1 = some c := fun y hm => hy y (List.mem_cons_of_mem _ hm)
      rw [List.forIn_cons]
      by_cases hk : k = .free
      · subst hk
        obtain ⟨c, hc⟩ := hy (n, .free) List.mem_cons_self rfl
        have e1 : cellOf env n = pure c := by unfold cellOf; rw [hc]
        have e2 : clOf env.cells ((n, .free) :: r) acc = clOf env.cells r ((n, c) :: acc) := by
          show (if (NameKind.free == NameKind.free) = true then clOf env.cells r ((n, (env.cells.lookup n).getD 0) :: acc) else clOf env.cells r acc) = _
          rw [if_pos (by decide), hc]; rfl
        rw [e2, ← ih ((n, c) :: acc) hr]
        show (do let x ← (if (NameKind.free == NameKind.free) = true then do let a ← cellOf env n; pure (ForInStep.yield ((n, a) :: acc)) else pure (ForInStep.yield acc) : Sem _); _) = _
        rw [if_pos (by decide), e1]
        rfl
      · have hb : (k == NameKind.free) = false := by simpa using hk
        have e2 : clOf env.cells ((n, k) :: r) acc = clOf env.cells r acc := by
          show (if (k == NameKind.free) = true then clOf env.cells r ((n, (env.cells.lookup n).getD 0) :: acc) else clOf env.cells r acc) = _
          rw [hb]; rfl
        rw [e2, ← ih acc hr]
        show (do let x ← (if (k == NameKind.free) = true then do let a ← cellOf env n; pure (ForInStep.yield ((n, a) :: acc)) else pure (ForInStep.yield acc) : Sem _); _) = _
        rw [hb]
        rfl
  have := key sc.names [] h
  first | exact this | (rw [this]; rfl) | simpa using this
theorem clOf_lookup {cells : List (Str × Addr)} : ∀ {l : List (Str × NameKind)} {acc : List (Str × Addr)} {n : Str} {c : Addr}, (∀ y ∈ l, y.2 = .free → ∃ c, cells.lookup y.1 = some c) → (∀ n c, acc.lookup n = some c → cells.lookup n = some c) →
    (clOf cells l acc).lookup n = some c → cells.lookup n = some c
  | [], acc, n, c, _, ha, e => ha n c e
  | (m, k) :: r, acc, n, c, hl, ha, e => by
    have hr : ∀ y ∈ r, y.2 = .free → ∃ c, cells.lookup y.1 = some c := fun y hm => hl y (List.mem_cons_of_mem _ hm)
    have e' : (if (k == NameKind.free) = true then clOf cells r ((m, (cells.lookup m).getD 0) :: acc) else clOf cells r acc).lookup n = some c := e
    by_cases hk : (k == NameKind.free) = true
    · rw [if_pos hk] at e'
      refine clOf_lookup hr (fun n c z => ?_) e'
      obtain ⟨d, hd⟩ := hl (m, k) List.mem_cons_self (by simpa using hk)
      rw [List.lookup_cons] at z
      by_cases hn : (n == m) = true
      · rw [hn] at z
        have : n = m := by simpa using hn
        subst this
        have hd' : cells.lookup n = some d := hd
        rw [hd'] at z ⊢
        simpa using z
      · have hn' : (n == m) = false := by simpa using hn
        rw [hn'] at z
        exact ha n c z
    · rw [if_neg hk] at e'
      exact clOf_lookup hr ha e'
theorem clOf_some {cells : List (Str × Addr)} : ∀ {l : List (Str × NameKind)} {acc : List (Str × Addr)} {n : Str}, ((n, NameKind.free) ∈ l ∨ ∃ c, acc.lookup n = some c) → ∃ c, (clOf cells l acc).lookup n = some c
  | [], acc, n, h => by
    rcases h with h | h
    · cases h
    · exact h
  | (m, k) :: r, acc, n, h => by
    show ∃ c, (if (k == NameKind.free) = true then clOf cells r ((m, (cells.lookup m).getD 0) :: acc) else clOf cells r acc).lookup n = some c
    have hcons : ∀ a, n = m ∨ (∃ c, acc.lookup n = some c) → ∃ c, ((m, a) :: acc).lookup n = some c := fun a z => by
      rw [List.lookup_cons]
      by_cases hn : (n == m) = true
      · rw [hn]; exact ⟨_, rfl⟩
      · have hn' : (n == m) = false := by simpa using hn
        rw [hn']
        rcases z with z | z
        · exact absurd (by simpa using z) hn
        · exact z
    by_cases hk : (k == NameKind.free) = true
    · rw [if_pos hk]
      refine clOf_some ?_
      rcases h with h | h
      · rcases List.mem_cons.mp h with e | h
        · exact .inr (hcons _ (.inl (congrArg Prod.fst e)))
        · exact .inl h
      · exact .inr (hcons _ (.inr h))
    · rw [if_neg hk]
      refine clOf_some ?_
      rcases h with h | h
      · rcases List.mem_cons.mp h with e | h
        · have : k = .free := (congrArg Prod.snd e).symm
          rw [this] at hk
          exact absurd (by decide) hk
        · exact .inl h
      · exact .inr h
def rlb (env : Env) (p : Str × NameKind) : Str × NameKind := if (p.2 == NameKind.free && env.scope.kind == ScopeKind.function && env.kindOf p.1 == some NameKind.cell) = true then (p.1, NameKind.cell) else p
theorem relabel_names (sc : Scope) (env : Env) : (relabel sc env).names = sc.names.map (rlb env) := rfl
theorem rlb_fst (env : Env) (p : Str × NameKind) : (rlb env p).1 = p.1 := by
  unfold rlb
  split <;> rfl
theorem rlb_free {env : Env} {p : Str × NameKind} (h : p.2 ≠ .cell) (h2 : (rlb env p).2 = .cell ∨ (rlb env p).2 = .free) : p.2 = .free := by
  unfold rlb at h2
  split at h2
  · rename_i q
    rw [Bool.and_eq_true, Bool.and_eq_true] at q
    simpa using q.1.1
  · rcases h2 with h2 | h2
    · exact absurd h2 h
    · exact h2
theorem relabel_free' {env : Env} : ∀ {names : List (Str × NameKind)} {x : Str} {k : NameKind}, (∀ y ∈ names, y.2 ≠ .cell) → (k = .cell ∨ k = .free) → (names.map (rlb env)).lookup x = some k → (x, NameKind.free) ∈ names
  | [], x, k, _, _, e => by simp at e
  | p :: r, x, k, hc, hk, e => by
    have hr : ∀ y ∈ r, y.2 ≠ .cell := fun y hm => hc y (List.mem_cons_of_mem _ hm)
    have e0 : rlb env p = (p.1, (rlb env p).2) := by rw [← rlb_fst env p]
    rw [List.map_cons, e0, List.lookup_cons] at e
    by_cases hx : x = p.1
    · have hb : (x == p.1) = true := by simpa using hx
      rw [hb] at e
      have e2 : (rlb env p).2 = k := Option.some.inj e
      have hj := rlb_free (env := env) (hc p List.mem_cons_self) (by rw [e2]; exact hk)
      have : (x, NameKind.free) = p := by rw [hx, ← hj]
      rw [this]
      exact List.mem_cons_self
    · have hb : (x == p.1) = false := by simpa using hx
      rw [hb] at e
      exact List.mem_cons_of_mem _ (relabel_free' hr hk e)
theorem relabel_free {env : Env} {sc : Scope} {x : Str} {k : NameKind} (hc : ∀ y ∈ sc.names, y.2 ≠ .cell) (hk : k = .cell ∨ k = .free) (e : (relabel sc env).names.lookup x = some k) : (x, NameKind.free) ∈ sc.names :=
  relabel_free' (env := env) hc hk (by rw [← relabel_names]; exact e)

/-- the values that a block sees at its start: of the names it takes from around it -/
def blkS (ix : List (Option Nat)) (σ : St) : St := ix.map fun o => o.bind fun i => (σ[i]?).join
def FreeOk (XN : List Str) (env : Env) (sc : Scope) : List Str → List (Option Nat) → Prop
  | [], [] => True
  | _ :: N, Option.none :: ix => FreeOk XN env sc N ix
  | y :: N, some i :: ix => XN[i]? = some y ∧ env.kindOf y = some .cell ∧ (relabel sc env).names.lookup y = some .cell ∧ FreeOk XN env sc N ix
  | _, _ => False
theorem FreeOk.len {XN : List Str} {env : Env} {sc : Scope} : ∀ {N : List Str} {ix : List (Option Nat)}, FreeOk XN env sc N ix → ix.length = N.length
  | [], [], _ => rfl
  | _ :: N, Option.none :: ix, h => congrArg (· + 1) (FreeOk.len (N := N) (ix := ix) h)
  | _ :: N, some _ :: ix, h => congrArg (· + 1) (FreeOk.len (N := N) (ix := ix) h.2.2.2)
  | [], _ :: _, h => h.elim
  | _ :: _, [], h => h.elim
theorem FreeOk.get {XN : List Str} {env : Env} {sc : Scope} : ∀ {N : List Str} {ix : List (Option Nat)}, FreeOk XN env sc N ix → ∀ (j : Nat) (y : Str) (i : Nat), N[j]? = some y → ix[j]? = some (some i) →
    XN[i]? = some y ∧ env.kindOf y = some .cell ∧ (relabel sc env).names.lookup y = some .cell
  | [], [], _, j, y, i, e, _ => by simp at e
  | _ :: N, Option.none :: ix, h, 0, y, i, e, e2 => by simp at e2
  | _ :: N, Option.none :: ix, h, j + 1, y, i, e, e2 => FreeOk.get (N := N) (ix := ix) h j y i (by simpa using e) (by simpa using e2)
  | z :: N, some k :: ix, h, 0, y, i, e, e2 => by
    have e' : z = y := by simpa using e
    have e2' : k = i := by simpa using e2
    subst e'; subst e2'
    exact ⟨h.1, h.2.1, h.2.2.1⟩
  | _ :: N, some _ :: ix, h, j + 1, y, i, e, e2 => FreeOk.get (N := N) (ix := ix) h.2.2.2 j y i (by simpa using e) (by simpa using e2)
  | [], _ :: _, h, _, _, _, _, _ => h.elim
  | _ :: _, [], h, _, _, _, _, _ => h.elim

/-- the context of a comprehension's block -/
def cxB (X : Cx) (sc : Scope) (C : Addr) (N : List Str) (s₀ : Shared) (H₀ : Hp) (fp : List Addr) : Cx :=
  { X with N := N, s₀ := s₀, H₀ := H₀, env := compEnvC sc (clOf X.env.cells sc.names []) C X.env, outer := X.stack, ex := fp, fn := fun _ => false, pn := [], xe := fun _ _ => False }
structure CompOk (X : Cx) (sc : Scope) (N : List Str) (ix : List (Option Nat)) : Prop where
  kind : sc.kind = .function
  nocell : (sc.names.all fun y => y.2 != .cell) = true
  names : (sc.names.all fun y => y.2 != .local || sc.names.lookup y.1 == some .local) = true
  free : (sc.names.all fun y => y.2 != .free || X.env.scope.names.lookup y.1 == some .cell) = true
  fr : FreeOk X.N X.env sc N ix
section
variable {X : Cx} {sc : Scope} {N : List Str} {ix : List (Option Nat)} {pins : List (Addr × Obj)} {σ : St} {H : Hp} {s : Shared}
theorem CompOk.cells (c : CompOk X sc N ix) (ok : X.Ok) : ∀ y ∈ sc.names, y.2 = .free → ∃ c, X.env.cells.lookup y.1 = some c := fun y hy e => by
  have h := List.all_eq_true.mp c.free y hy
  rw [e] at h
  have h' : X.env.scope.names.lookup y.1 = some .cell := by simpa using h
  exact ok.has y.1 (.inl h')
theorem CompOk.nc (c : CompOk X sc N ix) : ∀ y ∈ sc.names, y.2 ≠ .cell := fun y hy => by simpa using List.all_eq_true.mp c.nocell y hy
theorem CompOk.nm (c : CompOk X sc N ix) : ∀ y ∈ sc.names, y.2 = .local → sc.names.lookup y.1 = some .local := fun y hy e => by
  have h := List.all_eq_true.mp c.names y hy
  rw [e] at h
  simpa using h
/-- the block begins: s₂ the state at its entry (the iterator is made), s₄ behind the frame's making -/
theorem inv_block {C : Addr} {fp : List Addr} {h₁ : Heap} {t' : Nat} (c : CompOk X sc N ix) (I : Inv X pins σ H s) (hf : ∀ b ∈ fp, FpOk X pins H b) (hfp : ∀ b ∈ fp, b < s.heap.objs.size) (hC : s.heap.objs.size ≤ C)
    (hn : h₁.Ns C (fun _ => none)) (old : ∀ b o, s.heap.get? b = some o → h₁.get? b = some o) : Inv (cxB X sc C N s H fp) [] (blkS ix σ) H { s with heap := h₁, toks := t' } := by
  have hcells := c.cells I.ok
  have sub : ∀ n c, (clOf X.env.cells sc.names []).lookup n = some c → X.env.cells.lookup n = some c := fun n c e => clOf_lookup hcells (fun n c z => by simp at z) e
  refine ⟨⟨I.ok.mod, c.kind, I.ok.glob, I.ok.blt, hC, fun x y d h1 h2 => I.ok.inj x y d (sub x d h1) (sub y d h2), fun x hx => ?_, fun x d z => absurd z (by simp [cxB]), I.ok.hd, I.ok.frames, .inl rfl, fun b hb => ⟨?_, fun x d e => ?_⟩, I.bs, Nat.le_trans I.ok.bsz I.sz, fun b o e hb => ?_, fun b hb hs => ?_, I.stack, I.stkFree⟩,
    rfl, I.bare, Un.kept old, ⟨_, hn, fun j y v e1 e2 e3 => ?_⟩, fun x d e => ?_, I.hok.fresh hC, fun x d e => I.freeC x d (sub x d e), fun p hp => absurd (show p ∈ ([] : List (Addr × Obj)) from hp) (by simp), I.hok.kept old, ?_⟩
  · refine clOf_some (.inl ?_)
    rcases hx with hx | hx
    · exact relabel_free c.nc (.inl rfl) (show (relabel sc X.env).names.lookup x = some .cell from hx)
    · exact relabel_free c.nc (.inr rfl) (show (relabel sc X.env).names.lookup x = some .free from hx)
  · exact Nat.ne_of_lt (Nat.lt_of_lt_of_le (hfp b hb) hC)
  · exact (hf b hb).2.2.2.2.1 x d (sub x d e)
  · rcases (hf b hb).2.2.2.1 with z | z
    · exact I.ok.noex b o e z
    · exact absurd (Nat.lt_of_lt_of_le (Heap.lt_size e) (Nat.le_trans I.ok.bsz z)) (Nat.lt_irrefl _)
  · rcases List.mem_cons.mp (I.stkSub b hs) with z | z
    · exact (hf b hb).2.1 z
    · exact (hf b hb).2.2.1 z
  · have hj : ∃ i, ix[j]? = some (some i) ∧ σ[i]? = some (some v) := by
      unfold blkS at e2
      rw [List.getElem?_map] at e2
      cases q : ix[j]? with
      | none => rw [q] at e2; cases e2
      | some o =>
        rw [q] at e2
        cases o with
        | none => cases e2
        | some i =>
          refine ⟨i, rfl, ?_⟩
          have e2' : (σ[i]?).join = some v := Option.some.inj e2
          cases q2 : σ[i]? with
          | none => rw [q2] at e2'; cases e2'
          | some w => rw [q2] at e2'; exact congrArg some e2'
    obtain ⟨i, hi, hv⟩ := hj
    obtain ⟨k1, k2, k3⟩ := c.fr.get j y i e1 hi
    obtain ⟨m, hm, hl⟩ := I.loc
    obtain ⟨u, r, l⟩ := hl i y v k1 hv (.inr (.inl k2))
    refine ⟨u, r, ?_⟩
    rcases l with ⟨z, _⟩ | ⟨_, d, hd, hcell⟩
    · rw [k2] at z; cases z
    · obtain ⟨d', hd'⟩ : ∃ d', (clOf X.env.cells sc.names []).lookup y = some d' := clOf_some (.inl (relabel_free c.nc (.inl rfl) k3))
      have := sub y d' hd'
      rw [hd] at this
      cases this
      exact .inr ⟨.inl k3, d, hd', hcell.keeps old⟩
  · obtain ⟨v, z⟩ := I.cell x d (sub x d e)
    exact ⟨v, z.keeps old⟩
  · show (blkS ix σ).length = N.length
    unfold blkS
    rw [List.length_map, c.fr.len]
/-- the block ends -/
theorem inv_unblock {C : Addr} {fp : List Addr} {pins' : List (Addr × Obj)} {σ' : St} {H' : Hp} {s' : Shared} (I : Inv X pins σ H s) (hf : ∀ b ∈ fp, FpOk X pins H b) (J : Inv (cxB X sc C N s H fp) pins' σ' H' s') : Inv X pins σ H' s' := by
  refine I.call' (ch := fp) J.os J.base J.hok J.bare fun b hb => ?_
  obtain ⟨f0, f1, f2, f3, f4, f5⟩ := hf b hb
  exact ⟨f3, f1, f4, f5⟩
end
def PTs (X : Cx) (ifs : List Expr) (t : TT) : Prop :=
  ∀ (pins : List (Addr × Obj)) (s : Shared) (σ : St) (H : Hp) (Q : Bool → Hp → Prop), Inv X pins σ H s → t σ H Q →
    wpAny (model X.prog X.w) X.A (forIn ifs true fun c r => if r = true then do let ok ← isTrue c X.env (eval c X.env); pure (ForInStep.yield ok) else pure (ForInStep.yield r)) (TP X pins σ Q) X.xe s
def tAll : TT := fun _ H Q => Q true H
theorem pts_nil {X : Cx} : PTs X [] tAll := fun _ _ _ H _ I h => wpAny_tests_nil ⟨H, I, h⟩
theorem pts_one {X : Cx} {c : Expr} {t : TT} (h : PT X c t) : PTs X [c] t := fun pins s σ H Q I hw => wpAny_tests_one (h pins s σ H Q I hw)

/-- what a comprehension asks: W by the turn, a measure, the items so far -/
def CompW (J : It) (D : Addr) (σb : St) (g : TG) (tt : TT) (te : TE) (Q : Hp → List V → Prop) (W : Nat → Nat → List V → Hp → Prop) : Prop :=
  ∀ i m ys H, W i m ys H → H D = some (.lst ys) ∧ ((J.stop i H ∧ Q H ys) ∨ (J.go i H ∧ ∀ x H3, J.yld i H x H3 → g x σb H3 fun σ4 H4 => Wk σb σ4 ∧ tt σ4 H4 fun b H5 =>
    if b = true then te σ4 H5 fun y H6 => H6 D = some (.lst ys) ∧ ys.length < sizeLine ∧ ∃ m', m' < m ∧ W (i + 1) m' (ys ++ [y]) (upd H6 D (.lst (ys ++ [y]))) else ∃ m', m' < m ∧ W (i + 1) m' ys H5))
def tComp (ix : List (Option Nat)) (wi : TI) (g : TG) (tt : TT) (te : TE) : TE := fun σ H Q => wi σ H fun J H1 => ∀ D, H1 D = none → ∃ W, (∃ m, W 0 m [] (upd H1 D (.lst []))) ∧ CompW J D (blkS ix σ) g tt te (fun H _ => Q (.ref D) H) W

section
variable {X : Cx} {sc : Scope} {N : List Str} {ix : List (Option Nat)} {elt tg iter : Expr} {ifs : List Expr} {pos : Pos} {wi : TI} {g : TG} {tt : TT} {te : TE}
/-- the block's rules, in every context that it may run in -/
structure Blk (X : Cx) (sc : Scope) (N : List Str) (tg elt : Expr) (ifs : List Expr) (g : TG) (tt : TT) (te : TE) : Prop where
  tg : ∀ C s H fp, PG (cxB X sc C N s H fp) tg g
  tests : ∀ C s H fp, PTs (cxB X sc C N s H fp) ifs tt
  elt : ∀ C s H fp, PE (cxB X sc C N s H fp) elt te
theorem comp_loop {J : It} {fp : List Addr} {it D : Addr} {tn : Nat → Heap → Prop} {σb : St} {Q : Hp → List V → Prop} {R : Result → Shared → Prop} {W : Nat → Nat → List V → Hp → Prop}
    (hc : X.calm = true) (hxe : X.xe = fun _ _ => False) (T : Turn X.prog X.w X.K tg J fp it tn) (hg : PG X tg g) (ht : PTs X ifs tt) (he : PE X elt te) (turn : CompW J D σb g tt te Q W)
    (stat : ∀ {H' : Hp}, (∀ b ∈ fp, H' b = none) → ∀ b ∈ fp, FpOk X [] H' b)
    (fin : ∀ {σ' : St} {H' : Hp} {s' : Shared} {ys : List V}, Inv X [] σ' H' s' → Q H' ys → R (.ok .next) s')
    {m0 i0 : Nat} {ys0 : List V} {H0 : Hp} {s0 : Shared} (I0 : Inv X [] σb H0 s0) (st0 : tn i0 s0.heap) (fr0 : ∀ b ∈ fp, H0 b = none) (w0 : W i0 m0 ys0 H0) :
    codeAny (model X.prog X.w) X.A (.compLoop (.ListComp elt [⟨tg, iter, ifs, 0⟩] sc pos) 0 (.ref it) (.ref D) X.env) R s0 := by
  have noE : ∀ {E' : Value → Shared → Prop} (e : Value) (s' : Shared), X.xe e s' → E' e s' := fun {E'} e s' z => by rw [hxe] at z; exact z.elim
  refine codeAny_loop rfl (fun n s' => ∃ i ys H', Inv X [] σb H' s' ∧ tn i s'.heap ∧ (∀ b ∈ fp, H' b = none) ∧ W i n ys H') ?_ m0 ⟨i0, ys0, H0, I0, st0, fr0, w0⟩
  rintro n s3 ⟨i, ys, H3, I3, st3, fr3, w3⟩
  show wpAny _ X.A ((compTurn (.ListComp elt [⟨tg, iter, ifs, 0⟩] sc pos) 0 (.ref it) (.ref D) X.env).onRaise (fun x => do noteFrame x X.env; theTreesLotGoes x)) _ _ s3
  refine wpAny_noted ?_
  rw [compTurn_list]
  refine wpAny_bind (wpAny_standAt (wpAny_bind ?_))
  obtain ⟨hDl, next⟩ := turn i n ys H3 w3
  rcases next with ⟨stop, q⟩ | ⟨go, step⟩
  · refine thn (T.done X rfl rfl rfl hc i [] s3 σb H3 _ I3 (stat fr3) st3 stop) fun r s4 ⟨hr, I4⟩ => ?_
    subst hr
    exact wpAny_pure (fin I4 q)
  · refine thn (T.item X rfl rfl rfl hc i [] s3 σb H3 _ I3 (stat fr3) st3 go) fun r s4 ⟨u, hr, h4⟩ => ?_
    subst hr
    refine wpAny_bind (thn h4 fun _ s5 ⟨x, H5, I5, r5, y5, st5, fr5⟩ => ?_)
    have I5' := I5.pinned (stat fr5) (T.obj _ _ st5)
    have back : ∀ {σ' : St} {H' : Hp} {s' : Shared}, Inv X ([] ++ pinsAt fp s5.heap) σ' H' s' → Wk σb σ' → Inv X [] σb H' s' ∧ tn (i + 1) s'.heap ∧ ∀ b ∈ fp, H' b = none := fun {σ' H' s'} I7 wk => by
      refine ⟨(I7.unpinned).weak wk.len wk.get, T.keep _ _ _ st5 fun b hb o e => (I7.pin (b, o) (List.mem_append_right _ (List.mem_append_right _ (mem_pinsAt hb e)))).1, fun b hb => ?_⟩
      obtain ⟨o, e, d⟩ := T.obj _ _ st5 b hb
      exact (I7.pin (b, o) (List.mem_append_right _ (List.mem_append_right _ (mem_pinsAt hb e)))).2.1
    refine wpAny_bind (wpAny_mono (hg _ s5 σb H5 x u _ I5' r5 (step x H5 y5)) (fun _ s6 ⟨σ6, H6, I6, wk, q6⟩ => ?_) noE)
    refine wpAny_bind (wpAny_mono (ht _ s6 σ6 H6 _ I6 q6) (fun ok s7 ⟨H7, I7, q7⟩ => ?_) noE)
    cases ok with
    | false =>
      obtain ⟨m', hm, w7⟩ := q7
      obtain ⟨b1, b2, b3⟩ := back I7 wk
      exact wpAny_pure ⟨rfl, m', hm, i + 1, ys, H7, b1, b2, b3, w7⟩
    | true =>
      refine wpAny_bind (wpAny_bind (wpAny_mono (he _ s7 σ6 H7 _ I7 q7) (fun v s8 ⟨y, H8, I8, r8, hD8, hl8, m', hm, w8⟩ => ?_) noE))
      refine wpAny_bind (wpAny_mono (mt_append _ s8 σ6 H8 (.ref D) [y] (.ref D) [v] (fun _ H9 => H9 = upd H8 D (.lst (ys ++ [y]))) I8 rfl (.cons r8 .nil) ⟨D, ys, y, rfl, rfl, hD8, hl8, rfl⟩) (fun _ s9 ⟨z, H9, I9, _, e9⟩ => ?_) noE)
      subst e9
      obtain ⟨b1, b2, b3⟩ := back I9 wk
      exact wpAny_pure (wpAny_pure ⟨rfl, m', hm, i + 1, ys ++ [y], _, b1, b2, b3, w8⟩)
theorem comp_core {pins : List (Addr × Obj)} {σ : St} {H : Hp} {s : Shared} {E : Value → Shared → Prop} {RR : Value → Addr → Result → Shared → Prop} {it : Addr} {fp : List Addr} {tn : Nat → Heap → Prop} {J : It} {Q : Addr → Hp → List V → Prop}
    (hc : X.calm = true) (c : CompOk X sc N ix) (B : Blk X sc N tg elt ifs g tt te) (I : Inv X pins σ H s) (T : Turn X.prog X.w X.K tg J fp it tn) (st : tn 0 s.heap) (hf : ∀ b ∈ fp, FpOk X pins H b)
    (h : ∀ D, H D = none → ∃ W, (∃ m, W 0 m [] (upd H D (.lst []))) ∧ CompW J D (blkS ix σ) g tt te (Q D) W)
    (hR : ∀ D C H' s' ys, Inv X pins σ H' s' → FpOk X pins H' C → (∃ m, s'.heap.Ns C m) → Q D H' ys → RR (.ref D) C (.ok .next) s') :
    wpAny (model X.prog X.w) X.A (newList []) (fun acc s₃ => wpAny (model X.prog X.w) X.A (newFunctionEnv sc X.env.globals (clOf X.env.cells sc.names []) [] X.env.qual none .none (some X.env)) (fun cenv s₄ =>
      codeAny (model X.prog X.w) X.A (.compStart (.ListComp elt [⟨tg, iter, ifs, 0⟩] sc pos) 0 (.ref it) acc { cenv with scope := relabel sc X.env }) (RR acc cenv.locals) s₄) E s₃) E s := by
  have hlt : ∀ b ∈ fp, b < s.heap.objs.size := fun b hb => let ⟨o, e, _⟩ := T.obj _ _ st b hb; Heap.lt_size e
  refine wpAny_newObj_type ?_ (by show 0 ≤ sizeLine; exact Nat.zero_le _)
  have hD : H s.heap.objs.size = none := I.hok.fresh (Nat.le_refl _)
  obtain ⟨W, ⟨m0, w0⟩, turn⟩ := h s.heap.objs.size hD
  have I1 : Inv X pins σ (upd H s.heap.objs.size (.lst [])) { s with heap := s.heap.push { cls := .type "list", data := .seq ([] : List Value).toArray } } := I.lnew (t' := s.toks) (its := []) .nil (Nat.zero_le _)
  have k1 : ∀ b o, s.heap.get? b = some o → (s.heap.push { cls := .type "list", data := .seq ([] : List Value).toArray }).get? b = some o := fun b o e => Heap.get?_push_of_some _ e
  have hne : ∀ b ∈ fp, b ≠ s.heap.objs.size := fun b hb => Nat.ne_of_lt (hlt b hb)
  have hf1 : ∀ b ∈ fp, FpOk X pins (upd H s.heap.objs.size (.lst [])) b := fun b hb => ⟨by rw [upd_ne (hne b hb)]; exact (hf b hb).1, (hf b hb).2⟩
  have st1 : tn 0 (s.heap.push { cls := .type "list", data := .seq ([] : List Value).toArray }) := T.keep _ _ _ st fun b _ o e => k1 b o e
  generalize hs1 : ({ s with heap := s.heap.push { cls := .type "list", data := .seq ([] : List Value).toArray } } : Shared) = s1 at I1
  have hs1h : s1.heap = s.heap.push { cls := .type "list", data := .seq ([] : List Value).toArray } := by rw [← hs1]
  generalize hDe : s.heap.objs.size = D at *
  show wpAny _ _ _ _ _ s1
  refine wpAny_newFunctionEnv c.nc (by intro y hy; simp at hy) (fun h₁ hns₁ hsb₁ => ?_) c.kind
  have old : ∀ b o, s1.heap.get? b = some o → h₁.get? b = some o := fun b o e => (hsb₁.2 b (Nat.ne_of_lt (Heap.lt_size e))).trans (Heap.get?_push_of_some _ e)
  have hlt1 : ∀ b ∈ fp, b < s1.heap.objs.size := fun b hb => by
    obtain ⟨o, e, _⟩ := T.obj _ _ st1 b hb
    rw [hs1h]
    exact Heap.lt_size e
  have J0 := inv_block (h₁ := h₁) (t' := s1.toks + ([] : List (Str × Value)).length) c I1 hf1 hlt1 (Nat.le_refl _) (by simpa using hns₁) old
  have stB : tn 0 h₁ := T.keep _ _ _ (by rw [hs1h]; exact st1 : tn 0 s1.heap) fun b _ o e => old b o e
  have fpB : ∀ {H' : Hp}, (∀ b ∈ fp, H' b = none) → ∀ b ∈ fp, FpOk (cxB X sc s1.heap.objs.size N s1 (upd H D (.lst [])) fp) [] H' b := fun {H'} hn b hb => by
    obtain ⟨f0, f1, f2, f3, f4, f5⟩ := hf1 b hb
    refine ⟨hn b hb, Nat.ne_of_lt (hlt1 b hb), ?_, .inl hb, fun x d e => f4 x d (clOf_lookup (c.cells I.ok) (fun n c z => by simp at z) e), fun p hp => absurd (show p ∈ ([] : List (Addr × Obj)) from hp) (by simp)⟩
    intro z
    rcases List.mem_cons.mp (I1.stkSub b z) with q | q
    · exact f1 q
    · exact f2 q
  have fin : ∀ {σ' : St} {H' : Hp} {s' : Shared} {ys : List V}, Inv (cxB X sc s1.heap.objs.size N s1 (upd H D (.lst [])) fp) [] σ' H' s' → Q D H' ys → RR (.ref D) s1.heap.objs.size (.ok .next) s' := fun {σ' H' s' ys} J q =>
    hR D _ H' s' ys (inv_unblock I1 hf1 J) (I1.fpOk (Nat.le_refl _) J.free) (let ⟨m, hn, _⟩ := J.loc; ⟨m, hn⟩) q
  have loop : codeAny (model X.prog X.w) X.A (.compLoop (.ListComp elt [⟨tg, iter, ifs, 0⟩] sc pos) 0 (.ref it) (.ref D) (cxB X sc s1.heap.objs.size N s1 (upd H D (.lst [])) fp).env) (RR (.ref D) s1.heap.objs.size) { s1 with heap := h₁, toks := s1.toks + ([] : List (Str × Value)).length } :=
    comp_loop (X := cxB X sc s1.heap.objs.size N s1 (upd H D (.lst [])) fp) hc rfl T (B.tg _ _ _ _) (B.tests _ _ _ _) (B.elt _ _ _ _) turn fpB fin J0 stB (fun b hb => (hf1 b hb).1) w0
  exact codeAny_compStart_list loop (T.self _ 0 _ _ _ stB loop)
theorem pe_comp (hc : X.calm = true) (c : CompOk X sc N ix) (hi : PI X tg iter wi) (B : Blk X sc N tg elt ifs g tt te) (hs : ∀ x, foldedSetIterable iter X.env x = pure x := by intro _; rfl) : PE X (.ListComp elt [⟨tg, iter, ifs, 0⟩] sc pos) (tComp ix wi g tt te) := by
  intro pins s σ H Q I h
  rw [eval_ListComp]
  refine wpAny_comprehension_free (use := none) rfl hs (closureFor_clOf (c.cells I.ok)) c.kind c.nm (thn (hi pins s σ H _ I h) fun xv s₁ h₁ => thn h₁ fun itv s₂ h₂ => ?_)
  obtain ⟨it, fp, tn, J, H2, e, I2, T, st2, f2, q2⟩ := h₂
  subst e
  refine comp_core (RR := fun acc C => compPost (model X.prog X.w) X.A X.xe none (EP X pins σ Q) acc C) (Q := fun D H _ => Q (.ref D) H) hc c B I2 T st2 f2 q2 ?_
  intro D C H' s' ys I' fC ns q
  refine ⟨_, ns.choose_spec, fun h' sb => ⟨.ref D, H', ?_, rfl, q⟩⟩
  obtain ⟨f0, f1, f2, f3, f4, f5⟩ := fC
  exact I'.turned (t' := s'.toks) (fun b o hb e => (sb.2 b hb).trans e) f0 f1 f3 f4 f5
/-- name = [..]: the store comes ahead of the block's end -/
theorem ps_setC {i : Nat} {y : Str} {py spos : Pos} (hc : X.calm = true) (hN : X.N.Nodup) (hy : X.N[i]? = some y) (hl : X.env.scope.names.lookup y = some .local)
    (hsw : swapsWith (.ListComp elt [⟨tg, iter, ifs, 0⟩] sc pos) (some (.Name y py)) spos.line X.env = pure true)
    (c : CompOk X sc N ix) (hi : PI X tg iter wi) (B : Blk X sc N tg elt ifs g tt te) (hs : ∀ x, foldedSetIterable iter X.env x = pure x := by intro _; rfl) :
    PS X (.Assign [.Name y py] (.ListComp elt [⟨tg, iter, ifs, 0⟩] sc pos) spos) (tAsg (tComp ix wi g tt te) (gName i)) := by
  intro pins s σ H D0 I h
  rw [exec_Assign_Name_used _ _ _ _ hsw]
  refine wpAny_bind (wpAny_standAt (wpAny_bind ?_))
  show wpAny _ X.A (do let _ ← comprehension (.ListComp elt [⟨tg, iter, ifs, 0⟩] sc pos) sc X.env _ (newList []) false (eval iter X.env) (some (assign (.Name y py) X.env))) _ _ s
  refine wpAny_bind (wpAny_mono (wpAny_comprehension_free (use := some (assign (.Name y py) X.env)) (Q := fun _ s' => SP X pins D0 .next s') rfl hs (closureFor_clOf (c.cells I.ok)) c.kind c.nm
    (thn (hi pins s σ H _ I h) fun xv s₁ h₁ => thn h₁ fun itv s₂ h₂ => ?_)) (fun _ s' hq => wpAny_pure (wpAny_pure hq)) fun _ _ e => e)
  obtain ⟨it, fp, tn, J, H2, e, I2, T, st2, f2, q2⟩ := h₂
  subst e
  refine comp_core (RR := fun acc C => compPost (model X.prog X.w) X.A X.xe (some (assign (.Name y py) X.env)) (fun _ s' => SP X pins D0 .next s') acc C) (Q := fun D H _ => D0.nx (σ.set i (some (.ref D))) H) hc c B I2 T st2 f2 q2 ?_
  intro D C H' s' ys I' fC ns q
  show wpAny _ X.A (assign (.Name y py) X.env (.ref D)) _ _ _
  obtain ⟨f0, f1, f2, f3, f4, f5⟩ := fC
  refine wpAny_assign_Name (store_ok2 I' hN hy (.inl hl) (v := .ref D) rfl (fun s2 J2 ⟨a, sb, ha⟩ => ?_) (.inr hl))
  obtain ⟨m, hn⟩ := ns
  have neC : C ≠ a := by
    rcases ha with z | z
    · rw [z]; exact f1
    · exact fun e => f4 y a z e.symm
  refine ⟨m, hn.sameBut sb neC, fun h3 sb3 => ⟨_, H', ?_, q⟩⟩
  exact J2.turned (t' := s2.toks) (fun b o hb e => (sb3.2 b hb).trans e) f0 f1 f3 f4 f5
end
end L2


set_option Elab.async false
set_option linter.all false
set_option maxRecDepth 100000
namespace L2
open PySem PySem.Spec PyProof.Rows

/-! ### lists of pairs as tables -/
section
variable {κ : Type} [DecidableEq κ]
def valV (kvs : List (κ × V)) (k : κ) : Option V := (kvs.find? fun kv => decide (kv.1 = k)).map (·.2)
/-- in its place, or at the end -/
def putK (kvs : List (κ × V)) (k : κ) (v : V) : List (κ × V) :=
  if (kvs.any fun kv => decide (kv.1 = k)) = true then kvs.map (fun kv => if kv.1 = k then (kv.1, v) else kv) else kvs ++ [(k, v)]
def dropK (kvs : List (κ × V)) (k : κ) : List (κ × V) := kvs.filter fun kv => decide (kv.1 ≠ k)

theorem valV_pos {p : κ × V} {r : List (κ × V)} {k : κ} (e : p.1 = k) : valV (p :: r) k = some p.2 := by simp [valV, List.find?_cons, e]
theorem valV_neg {p : κ × V} {r : List (κ × V)} {k : κ} (e : ¬ p.1 = k) : valV (p :: r) k = valV r k := by simp [valV, List.find?_cons, e]
theorem valV_any (k : κ) : ∀ kvs : List (κ × V), (kvs.any fun kv => decide (kv.1 = k)) = (valV kvs k).isSome
  | [] => rfl
  | p :: r => by
    rw [List.any_cons]
    by_cases e : p.1 = k
    · simp only [valV_pos e, decide_eq_true e, Bool.true_or, Option.isSome_some]
    · rw [valV_neg e, decide_eq_false e, Bool.false_or]; exact valV_any k r
theorem putK_new {kvs : List (κ × V)} {k : κ} (v : V) (h : valV kvs k = none) : putK kvs k v = kvs ++ [(k, v)] := by
  unfold putK
  rw [valV_any, h]
  exact if_neg (by decide)

theorem RelO.isSome_eq {o : Option V} {u : Option Value} (r : RelO o u) : o.isSome = u.isSome := by
  cases o with
  | none => cases u with
    | none => rfl
    | some _ => exact (show False from r).elim
  | some _ => cases u with
    | none => exact (show False from r).elim
    | some _ => rfl
theorem RelO.getD {o : Option V} {u : Option Value} {d : V} {d' : Value} (r : RelO o u) (rd : RelV d d') : RelV (o.getD d) (u.getD d') := by
  cases o with
  | none => cases u with
    | none => exact rd
    | some _ => exact (show False from r).elim
  | some _ => cases u with
    | none => exact (show False from r).elim
    | some _ => exact r

/-- raw tables of the same keys -/
theorem KV.val {kvs : List (κ × V)} {vs : List (κ × Value)} (r : KV kvs vs) (k : κ) : RelO (valV kvs k) (valueAt vs k) := by
  unfold KV at r
  induction r with
  | nil => exact True.intro
  | @cons p q ps qs h t ih =>
    obtain ⟨h1, h2⟩ := h
    by_cases e : p.1 = k
    · have e' : q.1 = k := h1.symm.trans e
      have b : valueAt (q :: qs) k = some q.2 := by simp [valueAt, List.find?_cons, e']
      rw [valV_pos e, b]; exact h2
    · have e' : ¬ q.1 = k := fun z => e (h1.trans z)
      have b : valueAt (q :: qs) k = valueAt qs k := by simp [valueAt, List.find?_cons, e']
      rw [valV_neg e, b]; exact ih
theorem KV.any {kvs : List (κ × V)} {vs : List (κ × Value)} (r : KV kvs vs) (k : κ) : (kvs.any fun kv => decide (kv.1 = k)) = vs.any fun kv => decide (kv.1 = k) := by
  unfold KV at r
  induction r with
  | nil => rfl
  | cons h t ih => rw [List.any_cons, List.any_cons, ih, h.1]
theorem KV.repl {kvs : List (κ × V)} {vs : List (κ × Value)} (r : KV kvs vs) (k : κ) {y : V} {u : Value} (ry : RelV y u) :
    KV (kvs.map fun kv => if kv.1 = k then (kv.1, y) else kv) (vs.map fun kv => if kv.1 = k then (kv.1, u) else kv) := by
  unfold KV at r ⊢
  induction r with
  | nil => exact .nil
  | @cons p q ps qs h t ih =>
    rw [List.map_cons, List.map_cons]
    refine .cons ?_ ih
    obtain ⟨h1, h2⟩ := h
    by_cases e : p.1 = k
    · rw [if_pos e, if_pos (h1.symm.trans e)]; exact ⟨h1, ry⟩
    · rw [if_neg e, if_neg (fun z => e (h1.trans z))]; exact ⟨h1, h2⟩
theorem KV.put {kvs : List (κ × V)} {vs : List (κ × Value)} (r : KV kvs vs) (k : κ) {y : V} {u : Value} (ry : RelV y u) : KV (putK kvs k y) (stored vs k u) := by
  unfold putK stored
  rw [r.any k]
  by_cases e : (vs.any fun kv => decide (kv.1 = k)) = true
  · rw [if_pos e, if_pos e]; exact r.repl k ry
  · rw [if_neg e, if_neg e]; exact Paired.snoc r ⟨rfl, ry⟩
theorem KV.drop {kvs : List (κ × V)} {vs : List (κ × Value)} (r : KV kvs vs) (k : κ) : KV (dropK kvs k) (without vs k) := by
  unfold KV at r ⊢
  unfold dropK without
  induction r with
  | nil => exact .nil
  | @cons p q ps qs h t ih =>
    obtain ⟨h1, h2⟩ := h
    rw [List.filter_cons, List.filter_cons]
    by_cases e : p.1 = k
    · have a : ¬ decide (p.1 ≠ k) = true := by simp [e]
      have b : ¬ decide (q.1 ≠ k) = true := by simp [h1.symm.trans e]
      rw [if_neg a, if_neg b]; exact ih
    · have e' : ¬ q.1 = k := fun z => e (h1.trans z)
      have a : decide (p.1 ≠ k) = true := by simp [e]
      have b : decide (q.1 ≠ k) = true := by simp [e']
      rw [if_pos a, if_pos b]; exact .cons ⟨h1, h2⟩ ih
theorem KV.keys {kvs : List (κ × V)} {vs : List (κ × Value)} (r : KV kvs vs) : kvs.map (·.1) = vs.map (·.1) := by
  unfold KV at r
  induction r with
  | nil => rfl
  | cons h t ih => rw [List.map_cons, List.map_cons, ih, h.1]
theorem KV.length {kvs : List (κ × V)} {vs : List (κ × Value)} (r : KV kvs vs) : kvs.length = vs.length := Paired.length r
end


/-! ### a tracked dict, its keys ints and texts or tuples of these -/
theorem kV_is {P : Program} {w : World} {k : Key} {u : Value} (r : RelV (kV k) u) : (mixKind P w).is k u = true := by
  cases k with
  | inl i => obtain ⟨t, e⟩ := (show ∃ t, u = Value.int i t from r); subst e; exact mixKind_int P w i t
  | inr x => obtain ⟨t, e⟩ := (show ∃ t, u = Value.str x t from r); subst e; exact mixKind_str P w x t
/-- raw entries of a dict with tuple keys -/
abbrev KT (H : Hp) : List (List Key × V) → List (List Key × Addr × Value) → Prop := Paired fun p q => p.1 = q.1 ∧ H q.2.1 = some (.tup (p.1.map kV)) ∧ RelV p.2 q.2.2
theorem KT.val {H : Hp} {kvs : List (List Key × V)} {xs : List (List Key × Addr × Value)} (r : KT H kvs xs) (k : List Key) : RelO (valV kvs k) ((atKey xs k).map (·.2)) := by
  induction r with
  | nil => exact True.intro
  | @cons p q ps qs h t ih =>
    obtain ⟨h1, _, h2⟩ := h
    by_cases e : p.1 = k
    · have e' : q.1 = k := h1.symm.trans e
      have b : atKey (q :: qs) k = some q.2 := by simp [atKey, List.find?_cons, e']
      rw [valV_pos e, b]; exact h2
    · have e' : ¬ q.1 = k := fun z => e (h1.trans z)
      have b : atKey (q :: qs) k = atKey qs k := by simp [atKey, List.find?_cons, e']
      rw [valV_neg e, b]; exact ih
theorem KT.repl {H : Hp} {kvs : List (List Key × V)} {xs : List (List Key × Addr × Value)} (r : KT H kvs xs) (k : List Key) {y : V} {u : Value} (ry : RelV y u) :
    KT H (kvs.map fun kv => if kv.1 = k then (kv.1, y) else kv) (xs.map (putAt k u)) := by
  induction r with
  | nil => exact .nil
  | @cons p q ps qs h t ih =>
    rw [List.map_cons, List.map_cons]
    refine .cons ?_ ih
    obtain ⟨h1, h2, h3⟩ := h
    unfold putAt
    by_cases e : p.1 = k
    · rw [if_pos e, if_pos (h1.symm.trans e)]; exact ⟨h1, h2, ry⟩
    · rw [if_neg e, if_neg (fun z => e (h1.trans z))]; exact ⟨h1, h2, h3⟩
theorem KT.put {H : Hp} {kvs : List (List Key × V)} {xs : List (List Key × Addr × Value)} (r : KT H kvs xs) (k : List Key) {b : Addr} {y : V} {u : Value} (hb : H b = some (.tup (k.map kV))) (ry : RelV y u) :
    KT H (putK kvs k y) (storedH xs k b u) := by
  have e : (kvs.any fun kv => decide (kv.1 = k)) = (atKey xs k).isSome := by
    rw [valV_any, (r.val k).isSome_eq, Option.isSome_map]
  unfold putK storedH
  rw [e]
  by_cases q : (atKey xs k).isSome = true
  · rw [if_pos q, if_pos q]; exact r.repl k ry
  · rw [if_neg q, if_neg q]; exact Paired.snoc r ⟨rfl, hb, ry⟩
theorem KT.keeps {H H' : Hp} {kvs : List (List Key × V)} {xs : List (List Key × Addr × Value)} (r : KT H kvs xs) (ht : ∀ b ys, H b = some (.tup ys) → H' b = some (.tup ys)) : KT H' kvs xs :=
  Paired.mapP r fun _ _ z => ⟨z.1, ht _ _ z.2.1, z.2.2⟩

section
variable {P : Program} {w : World} {H : Hp} {h : Heap} {a : Addr}
theorem rd_of {u : HO} (ok : HOk P w H h) (e : Rd H a u) : ObjOk P w H h a u := e.ok ok
theorem dk_rd {kvs : List (Key × V)} (ok : HOk P w H h) (e : Rd H a (.dK kvs)) : kvs.length ≤ sizeLine ∧ (a == sysModules) = false ∧ ∃ vs, KV kvs vs ∧ h.DictOf (mixKind P w) a vs :=
  show ObjOk P w H h a (.dK kvs) from rd_of ok e
theorem dk_of {kvs : List (Key × V)} (ok : HOk P w H h) (e : H a = some (.dK kvs)) : kvs.length ≤ sizeLine ∧ (a == sysModules) = false ∧ ∃ vs, KV kvs vs ∧ h.DictOf (mixKind P w) a vs := dk_rd ok (.inl e)
end

/-- what the dict at a holds at the key y -/
def DGet (H : Hp) (a : Addr) (y : V) (r : Option V) : Prop :=
  (∃ kvs k, Rd H a (.dK kvs) ∧ y = kV k ∧ r = valV kvs k) ∨ ∃ kvs k b, Rd H a (.dT kvs) ∧ y = .ref b ∧ H b = some (.tup (k.map kV)) ∧ r = valV kvs k
/-- the heap behind a[y] = v -/
def DPut (H : Hp) (a : Addr) (y v : V) (H' : Hp) : Prop :=
  (∃ kvs k, H a = some (.dK kvs) ∧ y = kV k ∧ kvs.length < sizeLine ∧ H' = upd H a (.dK (putK kvs k v))) ∨
  ∃ kvs k b, H a = some (.dT kvs) ∧ y = .ref b ∧ H b = some (.tup (k.map kV)) ∧ kvs.length < sizeLine ∧ H' = upd H a (.dT (putK kvs k v))
theorem DGet.k {H : Hp} {a : Addr} {kvs : List (Key × V)} {k : Key} (e : H a = some (.dK kvs)) : DGet H a (kV k) (valV kvs k) := .inl ⟨kvs, k, .inl e, rfl, rfl⟩
theorem DGet.t {H : Hp} {a b : Addr} {kvs : List (List Key × V)} {k : List Key} (e : H a = some (.dT kvs)) (eb : H b = some (.tup (k.map kV))) : DGet H a (.ref b) (valV kvs k) := .inr ⟨kvs, k, b, .inl e, rfl, eb, rfl⟩
theorem DPut.k {H : Hp} {a : Addr} {kvs : List (Key × V)} {k : Key} {v : V} (e : H a = some (.dK kvs)) (hl : kvs.length < sizeLine) : DPut H a (kV k) v (upd H a (.dK (putK kvs k v))) := .inl ⟨kvs, k, e, rfl, hl, rfl⟩
theorem DPut.t {H : Hp} {a b : Addr} {kvs : List (List Key × V)} {k : List Key} {v : V} (e : H a = some (.dT kvs)) (eb : H b = some (.tup (k.map kV))) (hl : kvs.length < sizeLine) :
    DPut H a (.ref b) v (upd H a (.dT (putK kvs k v))) := .inr ⟨kvs, k, b, e, rfl, eb, hl, rfl⟩


section
variable {X : Cx} {pins : List (Addr × Obj)} {σ : St} {H : Hp} {s : Shared} {a : Addr} {y v : V} {u r : Value} {o : Option V} {A : Around} {E : Value → Shared → Prop}

/-- a dict's object is replaced -/
theorem d_write {h' : Heap} {t' : Nat} {ob : HO} (I : Inv X pins σ H s) (mu : Mut (H a)) (hs : Heap.SameBut a s.heap h') (he : ∃ q, h'.get? a = some q) (new : ObjOk X.prog X.w (upd H a ob) h' a ob) :
    Inv X pins σ (upd H a ob) { s with heap := h', toks := t' } :=
  I.write (x := a) (e := a) mu (.inl rfl) (fun b q hb z => (hs.2 b hb).trans z) he new
theorem dk_new {P : Program} {w : World} {H' : Hp} {h' : Heap} {kvs : List (Key × V)} {vs : List (Key × Value)} (z : kvs.length ≤ sizeLine) (hd : (a == sysModules) = false) (rel : KV kvs vs) (dd : h'.DictOf (mixKind P w) a vs) :
    ObjOk P w H' h' a (.dK kvs) := ⟨z, hd, vs, rel, dd⟩
end

section
variable {X : Cx} {pins : List (Addr × Obj)} {σ : St} {H : Hp} {s : Shared} {a : Addr} {kvs : List (Key × V)} {k : Key} {u : Value} {A : Around} {E : Value → Shared → Prop}
end


/-! ### readings and rules -/
section
variable {X : Cx} {o i e value : Expr} {pos pos' tpos : Pos} {td ty tv : TE}
end


/-! ### displays -/
section
variable {X : Cx} {pos : Pos}
end

/-! ### methods -/
/-- a method call o.m(e) of a built-in, with one argument: what must be seen of the text -/
structure M1 (X : Cx) (o : Expr) (m : Str) (apos : Pos) (e : Expr) (cpos : Pos) : Prop where
  base : attributeBase o m X.env (eval o X.env) = eval o X.env
  few : ((backTo cpos (starEach [e] X.env)).all (fun x => !x.1) && (backToKw cpos (keywordEach [] X.env)).all (fun x => x.1.isSome)
    && decide (([e] : List Expr).length + ([] : List Keyword).length + (if ([] : List Keyword).isEmpty then 0 else 1) < 30)) = true
  line : (apos.endLine == cpos.line) = true
  trees : backTo cpos (starEach [e] X.env) = [(false, eval e X.env)]
structure M2 (X : Cx) (o : Expr) (m : Str) (apos : Pos) (e f : Expr) (cpos : Pos) : Prop where
  base : attributeBase o m X.env (eval o X.env) = eval o X.env
  few : ((backTo cpos (starEach [e, f] X.env)).all (fun x => !x.1) && (backToKw cpos (keywordEach [] X.env)).all (fun x => x.1.isSome)
    && decide (([e, f] : List Expr).length + ([] : List Keyword).length + (if ([] : List Keyword).isEmpty then 0 else 1) < 30)) = true
  line : (apos.endLine == cpos.line) = true
  trees : backTo cpos (starEach [e, f] X.env) = [(false, eval e X.env), (false, eval f X.env)]

section
variable {X : Cx} {pins : List (Addr × Obj)} {σ : St} {H : Hp} {s : Shared} {a : Addr} {y d : V} {u r : Value} {o : Option V} {A : Around} {E : Value → Shared → Prop}
end

section
variable {X : Cx} {o e f : Expr} {apos cpos : Pos} {td ty tx : TE}
end

/-! ### dict(d): a copy -/
section
variable {X : Cx} {pins : List (Addr × Obj)} {σ : St} {H : Hp} {s : Shared} {a : Addr} {kvs : List (Key × V)} {A : Around} {E : Value → Shared → Prop}
end


section
variable {X : Cx} {pins : List (Addr × Obj)} {σ : St} {H : Hp} {s : Shared} {a : Addr} {y : V} {u : Value} {A : Around} {E : Value → Shared → Prop}
end
end L2

set_option Elab.async false
set_option linter.all false
set_option maxRecDepth 100000
set_option maxHeartbeats 4000000
namespace L2
open PySem PySem.Spec PyProof.Rows

theorem OpR.imp {X : Cx} {f : Value → Value → Sem Value} {r r' : R2} (h : OpR X f r) (i : ∀ x y H Q, r' x y H Q → r x y H Q) : OpR X f r' :=
  fun pins s σ H x y v u Q I rx ry q => h pins s σ H x y v u Q I rx ry (i x y H Q q)
theorem CallR.imp {X : Cx} {f : Value} {r r' : List V → Hp → VK → Prop} (h : CallR X f r) (i : ∀ xs H Q, r' xs H Q → r xs H Q) : CallR X f r' :=
  fun pins s σ H xs us Q I rs q => h pins s σ H xs us Q I rs (i xs H Q q)
/-- by what stands in the slot -/
def tV (i : Nat) : TE := fun σ H Q => match σ[i]? with
  | some (some v) => Q v H
  | _ => False
theorem vr {X : Cx} (i : Nat) {x : Str} {pos : Pos} (hN : X.N[i]? = some x := by rfl) (hv : Vis X.env.scope x := by first | exact Or.inl rfl | exact Or.inr (Or.inl rfl) | exact Or.inr (Or.inr rfl)) (hd : (x == ("__debug__" : Str)) = false := by decide)
    (hcd : (x == ("__classdict__" : Str)) = false := by decide) : PE X (.Name x pos) (tV i) := fun pins s σ H Q I h => by
  refine pe_var hN hv hd hcd pins s σ H Q I ?_
  unfold tV at h
  split at h
  · rename_i v e
    exact ⟨v, e, h⟩
  · exact h.elim

/-! ### operations, read by the values' shapes -/
def rI2 (g : Int → Int → V) : R2 := fun x y H Q => match x, y with
  | .int i, .int j => Q (g i j) H
  | _, _ => False
def rIC (C : Int → Int → Prop) (g : Int → Int → V) : R2 := fun x y H Q => match x, y with
  | .int i, .int j => C i j ∧ Q (g i j) H
  | _, _ => False
theorem OpR.i2 {X : Cx} {f : Value → Value → Sem Value} {g : Int → Int → V} (h : OpR X f (rI0 g)) : OpR X f (rI2 g) := h.imp fun x y H Q q => by
  cases x <;> cases y <;> first | exact ⟨_, _, rfl, rfl, q⟩ | exact (show False from q).elim
theorem OpR.ic {X : Cx} {f : Value → Value → Sem Value} {C : Int → Int → Prop} {g : Int → Int → V} (h : OpR X f (rI C g)) : OpR X f (rIC C g) := h.imp fun x y H Q q => by
  cases x <;> cases y <;> first | exact ⟨_, _, rfl, rfl, q.1, q.2⟩ | exact (show False from q).elim
section
variable {X : Cx}
def rAddM : R2 := fun x y H Q => match x, y with
  | .int i, .int j => Q (.int (i + j)) H
  | .str i, .str j => i.length + j.length ≤ sizeLine ∧ Q (.str (i ++ j)) H
  | _, _ => False
theorem o_add : OpR X (binaryOp .Add) rAddM := (op_add.or op_add_str).imp fun x y H Q q => by
  cases x <;> cases y <;> first | exact .inl ⟨_, _, rfl, rfl, q⟩ | exact .inr ⟨_, _, rfl, rfl, q.1, q.2⟩ | exact (show False from q).elim
theorem o_sub : OpR X (binaryOp .Sub) (rI2 fun i j => .int (i - j)) := op_sub.i2
def CPos (i j : Int) : Prop := 0 < j
def CNn (i j : Int) : Prop := 0 ≤ j
theorem cp {i j : Int} (h : 0 < j := by decide) : CPos i j := h
theorem cn {i j : Int} (h : 0 ≤ j := by decide) : CNn i j := h
theorem cd {i j : Int} (h : 0 < j := by decide) (h2 : j < 1073741824 := by decide) : CDiv i j := ⟨h, h2⟩
theorem cw {i j : Int} (h : 0 ≤ j := by decide) (h2 : j ≤ 1000000 := by decide) (h3 : i.natAbs < 2 ^ 64 := by decide) : CPow i j := ⟨h, h2, h3⟩
theorem cl {i j : Int} (h : -(2 ^ 64) < i := by decide) (h2 : i < 2 ^ 64 := by decide) : CMul i j := .inl ⟨h, h2⟩
theorem cr {i j : Int} (h : -(2 ^ 64) < j := by decide) (h2 : j < 2 ^ 64 := by decide) : CMul i j := .inr ⟨h, h2⟩
theorem o_mod : OpR X (binaryOp .Mod) (rIC CPos fun i j => .int (i % j)) := op_mod.ic
theorem o_pow : OpR X (binaryOp .Pow) (rIC CPow fun i j => .int (i ^ j.toNat)) := op_pow.ic
theorem op_le_str : OpR X (compareOp .LtE) (fun x y H Q => ∃ i j, x = .str i ∧ y = .str j ∧ Q (.bl (!decide (j.cps.toList < i.cps.toList))) H) := by
  intro pins s σ H x y v u Q I rx ry h
  obtain ⟨i, j, rfl, rfl, q⟩ := h
  obtain ⟨t, rfl⟩ := rx
  obtain ⟨t', rfl⟩ := ry
  exact PySem.P.le_str (fin_bl I q rfl)
def rCmpM (f : Int → Int → Bool) (g : Str → Str → Bool) : R2 := fun x y H Q => match x, y with
  | .int i, .int j => Q (.bl (f i j)) H
  | .str i, .str j => Q (.bl (g i j)) H
  | _, _ => False
theorem o_lt : OpR X (compareOp .Lt) (rCmpM (fun i j => decide (i < j)) fun i j => decide (i.cps.toList < j.cps.toList)) := (op_lt.or op_lt_str).imp fun x y H Q q => by
  cases x <;> cases y <;> first | exact .inl ⟨_, _, rfl, rfl, q⟩ | exact .inr ⟨_, _, rfl, rfl, q⟩ | exact (show False from q).elim
theorem o_le : OpR X (compareOp .LtE) (rCmpM (fun i j => decide (i ≤ j)) fun i j => !decide (j.cps.toList < i.cps.toList)) := (op_le.or op_le_str).imp fun x y H Q q => by
  cases x <;> cases y <;> first | exact .inl ⟨_, _, rfl, rfl, q⟩ | exact .inr ⟨_, _, rfl, rfl, q⟩ | exact (show False from q).elim
theorem o_gt : OpR X (compareOp .Gt) (rI2 fun i j => .bl (decide (j < i))) := op_gt.i2
/-- == of two values without objects; the deep one is o_eqD -/
def rEqM (neg : Bool) : R2 := fun x y H Q => match x, y with
  | .int i, .int j => Q (.bl (if neg then !decide (i = j) else decide (i = j))) H
  | .str i, .str j => Q (.bl (if neg then !decide (i = j) else decide (i = j))) H
  | .bl i, .bl j => Q (.bl (if neg then !decide (i = j) else decide (i = j))) H
  | .non, .non => Q (.bl (!neg)) H
  | .non, .int _ => Q (.bl neg) H
  | .non, .str _ => Q (.bl neg) H
  | .non, .bl _ => Q (.bl neg) H
  | .int _, .non => Q (.bl neg) H
  | .str _, .non => Q (.bl neg) H
  | .bl _, .non => Q (.bl neg) H
  | .int _, .str _ => Q (.bl neg) H
  | .str _, .int _ => Q (.bl neg) H
  | _, _ => False
theorem o_eq : OpR X (compareOp .Eq) (rEqM false) := op_eq.imp fun x y H Q q => by
  cases x <;> cases y <;> first | exact (show False from q).elim | (refine ⟨rfl, ?_⟩; revert q; simp [rEqM])
theorem o_ne : OpR X (compareOp .NotEq) (rEqM true) := op_ne.imp fun x y H Q q => by
  cases x <;> cases y <;> first | exact (show False from q).elim | (refine ⟨rfl, ?_⟩; revert q; simp [rEqM])
def rU1 (g : Int → V) : V → Hp → VK → Prop := fun x H Q => match x with
  | .int i => Q (g i) H
  | _ => False
theorem u_neg : UnR X (unaryOp .USub) (rU1 fun i => .int (-i)) := fun pins s σ H x v Q I r q => un_neg pins s σ H x v Q I r (by
  cases x <;> first | exact ⟨_, rfl, q⟩ | exact (show False from q).elim)
/-- is None -/
theorem o_is : OpR X (compareOp .Is) (fun x y H Q => match y with | .non => Q (.bl (decide (x = .non))) H | _ => False) := op_isN.imp fun x y H Q q => by
  cases y <;> first | exact ⟨rfl, q⟩ | exact (show False from q).elim
theorem o_isnot : OpR X (compareOp .IsNot) (fun x y H Q => match y with | .non => Q (.bl (!decide (x = .non))) H | _ => False) := op_notN.imp fun x y H Q q => by
  cases y <;> first | exact ⟨rfl, q⟩ | exact (show False from q).elim
/-! ### truths -/
def mB (Q : Bool → Hp → Prop) : VK := fun x H => match x with
  | .bl c => Q c H
  | _ => False
variable {a b c : Expr} {ta tb tc : TE} {pos : Pos} {rest : List Expr}
def mAnd (ta tb : TE) : TE := fun σ H Q => ta σ H (mB fun c H1 => if c = true then tb σ H1 Q else Q (.bl false) H1)
def mNot (ta : TE) : TE := fun σ H Q => ta σ H (mB fun c H1 => Q (.bl (!c)) H1)
theorem mB_iff {Q : Bool → Hp → Prop} {x : V} {H : Hp} (h : mB Q x H) : ∃ c, x = .bl c ∧ Q c H := by
  cases x <;> first | exact ⟨_, rfl, h⟩ | exact (show False from h).elim
theorem m_and (ha : PE X a ta) (hb : PE X (.BoolOp .And (b :: rest) pos) tb) : PE X (.BoolOp .And (a :: b :: rest) pos) (mAnd ta tb) := by
  intro pins s σ H Q I h
  refine BoolOp_and (thn (ha pins s σ H _ I h) fun v s1 ⟨x, H1, I1, r1, q1⟩ => ?_)
  obtain ⟨c, rfl, q1⟩ := mB_iff q1
  cases r1
  refine wpAny_truthy_bool ?_
  cases c with
  | true => exact hb pins s1 σ H1 Q I1 q1
  | false => exact ⟨.bl false, H1, I1, rfl, q1⟩
theorem m_not (ha : PE X a ta) : PE X (.UnaryOp .Not a pos) (mNot ta) := by
  intro pins s σ H Q I h
  refine UnaryOp_ (thn (ha pins s σ H _ I h) fun v s1 ⟨x, H1, I1, r1, q1⟩ => ?_)
  obtain ⟨c, rfl, q1⟩ := mB_iff q1
  cases r1
  exact not_of (wpAny_truthy_bool ⟨.bl (!c), H1, I1, rfl, q1⟩)
/-- a test that is a bool's expression -/
def mT (t : TE) : TT := fun σ H Q => t σ H (mB Q)
theorem t_val (h : PE X a ta) (he : ∀ whole, isTrue a X.env whole = (do let v ← whole; standAt a.pos; holding [v] (truthy v)) := by intro _; rfl) : PT X a (mT ta) := by
  intro pins s σ H Q I hw
  refine isTrue_plain (thn (h pins s σ H _ I hw) fun v s1 ⟨x, H1, I1, r1, q1⟩ => ?_) (he _)
  obtain ⟨d, rfl, q⟩ := mB_iff q1
  cases r1
  exact wpAny_truthy_bool ⟨H1, I1, q⟩
theorem t_cmp {op : CmpOp} {r : R2} (ho : OpR X (compareOp op) r) (ha : PE X a ta) (hb : PE X b tb) (hm : behindInMarks op b = false) : PT X (.Compare a [op] [b] pos) (mT (tOp r ta tb)) := by
  intro pins s σ H Q I h
  refine wpAny_isTrue_Compare1 (thn (ha pins s σ H _ I h) fun v s1 ⟨x, H1, I1, r1, q1⟩ => thn (hb pins s1 σ H1 _ I1 q1) fun u s2 ⟨y, H2, I2, r2, q2⟩ =>
    thn (ho pins s2 σ H2 x y v u _ I2 r1 r2 q2) fun c s3 ⟨z, H3, I3, r3, q3⟩ => ?_) hm
  obtain ⟨k, rfl, q3⟩ := mB_iff q3
  cases r3
  exact wpAny_truthy_bool ⟨H3, I3, q3⟩
def mChain (r r' : R2) (ta tb tc : TE) : TE := fun σ H Q => ta σ H fun x H1 => tb σ H1 fun y H2 => r x y H2 (mB fun k H3 => if k = true then tc σ H3 fun w' H4 => r' y w' H4 Q else Q (.bl false) H3)
theorem m_chain {op op' : CmpOp} {r r' : R2} (ho : OpR X (compareOp op) r) (ho' : OpR X (compareOp op') r') (ha : PE X a ta) (hb : PE X b tb) (hc : PE X c tc)
    (hm : lastMarks [op, op'] [b, c] = false := by with_unfolding_all rfl) : PE X (.Compare a [op, op'] [b, c] pos) (mChain r r' ta tb tc) := by
  intro pins s σ H Q I h
  refine Compare_chain (thn (ha pins s σ H _ I h) fun v s1 ⟨x, H1, I1, r1, q1⟩ => chain_link (thn (hb pins s1 σ H1 _ I1 q1) fun u s2 ⟨y, H2, I2, r2, q2⟩ =>
    thn (ho pins s2 σ H2 x y v u _ I2 r1 r2 q2) fun d s3 ⟨z, H3, I3, r3, q3⟩ => ?_)) hm
  obtain ⟨k, rfl, q3⟩ := mB_iff q3
  cases r3
  refine wpAny_truthy_bool ?_
  cases k with
  | false => exact ite_ff ⟨.bl false, H3, I3, rfl, q3⟩
  | true => exact ite_tt (chain_last (thn (hc pins s3 σ H3 _ I3 q3) fun w' s4 ⟨z', H4, I4, r4, q4⟩ => ho' pins s4 σ H4 y z' u w' Q I4 r2 r4 q4))
theorem t_chain {op op' : CmpOp} {r r' : R2} (ho : OpR X (compareOp op) r) (ho' : OpR X (compareOp op') r') (ha : PE X a ta) (hb : PE X b tb) (hc : PE X c tc)
    (hm : lastMarks [op, op'] [b, c] = false := by with_unfolding_all rfl) : PT X (.Compare a [op, op'] [b, c] pos) (mT (mChain r r' ta tb tc)) := by
  intro pins s σ H Q I h
  refine isTrue_chain (thn (ha pins s σ H _ I h) fun v s1 ⟨x, H1, I1, r1, q1⟩ => test_link (thn (hb pins s1 σ H1 _ I1 q1) fun u s2 ⟨y, H2, I2, r2, q2⟩ =>
    thn (ho pins s2 σ H2 x y v u _ I2 r1 r2 q2) fun d s3 ⟨z, H3, I3, r3, q3⟩ => ?_)) hm
  obtain ⟨k, rfl, q3⟩ := mB_iff q3
  cases r3
  refine wpAny_truthy_bool ?_
  cases k with
  | false => exact ite_ff ⟨H3, I3, q3⟩
  | true =>
    refine ite_tt (test_last (thn (hc pins s3 σ H3 _ I3 q3) fun w' s4 ⟨z', H4, I4, r4, q4⟩ => thn (ho' pins s4 σ H4 y z' u w' _ I4 r2 r4 q4) fun d' s5 ⟨z2, H5, I5, r5, q5⟩ => ?_))
    obtain ⟨k2, rfl, q5⟩ := mB_iff q5
    cases r5
    exact wpAny_truthy_bool ⟨H5, I5, q5⟩

/-! ### isinstance -/
open PySem.W in
theorem kit_of {pins : List (Addr × Obj)} {σ : St} {H : Hp} {s : Shared} {x : V} {u t : Value} (I : Inv X pins σ H s) (rx : RelV x u) (ty : TyOf X.K H x t) :
    ∃ Hh : Heap → Prop, KitX X.K u t Hh ∧ Hh s.heap ∧ u ≠ .builtin "__main__.__loader__#opaque" := by
  cases ty with
  | non => cases (show u = Value.none from rx); exact ⟨_, PySem.W.kitx_none, True.intro, fun z => nomatch z⟩
  | bl y => cases (show u = Value.bool y from rx); exact ⟨_, PySem.W.kitx_bool, True.intro, fun z => nomatch z⟩
  | int i => obtain ⟨t, q⟩ := (show ∃ t, u = Value.int i t from rx); cases q; exact ⟨_, PySem.W.kitx_int, True.intro, fun z => nomatch z⟩
  | str y => obtain ⟨t, q⟩ := (show ∃ t, u = Value.str y t from rx); cases q; exact ⟨_, PySem.W.kitx_str, True.intro, fun z => nomatch z⟩
  | flt y => obtain ⟨t, q⟩ := (show ∃ t, u = Value.float y t from rx); cases q; exact ⟨_, PySem.W.kitx_float, True.intro, fun z => nomatch z⟩
  | @lst a xs ea =>
    cases (show u = Value.ref a from rx)
    obtain ⟨_, _, n, _, h1⟩ := (show ObjOk X.prog X.w H s.heap a (.lst xs) from I.hok a _ ea)
    exact ⟨_, PySem.W.kitx_list, ⟨_, h1, rfl⟩, fun z => nomatch z⟩
  | @frz a ob xs ea =>
    cases (show u = Value.ref a from rx)
    obtain ⟨_, _, _, n, _, h1⟩ := (show ObjOk X.prog X.w H s.heap a (.frz ob (.lst xs)) from I.hok a _ ea)
    exact ⟨_, PySem.W.kitx_list, ⟨_, h1, rfl⟩, fun z => nomatch z⟩
  | @tup a xs ea =>
    cases (show u = Value.ref a from rx)
    obtain ⟨_, _, _, p⟩ := (show ObjOk X.prog X.w H s.heap a (.tup xs) from I.hok a _ ea)
    obtain ⟨o, h1, h2, _⟩ := p
    exact ⟨_, PySem.W.kitx_tuple, ⟨o, h1, h2⟩, fun z => nomatch z⟩
  | @dK a kvs ea =>
    cases (show u = Value.ref a from rx)
    obtain ⟨_, _, vs, _, p⟩ := (show ObjOk X.prog X.w H s.heap a (.dK kvs) from I.hok a _ ea)
    obtain ⟨o, es, ep, h1, h2, _⟩ := p
    exact ⟨_, PySem.W.kitx_dict, ⟨o, h1, h2.1⟩, fun z => nomatch z⟩
  | @dT a kvs ea =>
    cases (show u = Value.ref a from rx)
    obtain ⟨_, _, xs, _, o, es, ep, h1, h2, _⟩ := (show ObjOk X.prog X.w H s.heap a (.dT kvs) from I.hok a _ ea)
    exact ⟨_, PySem.W.kitx_dict, ⟨o, h1, h2.1⟩, fun z => nomatch z⟩
  | @ins a C dx fs ea cl ha hn htk hm =>
    cases (show u = Value.ref a from rx)
    obtain ⟨mA, O, _⟩ := ins_get I.hok ea
    obtain ⟨od, J, _⟩ := O.look
    exact ⟨_, PySem.W.kitx_own (cl.get _) cl.hd ha hn htk hm, J, fun z => nomatch z⟩
def cVal : V → Value
  | .ty n => .type n
  | .ref a => .ref a
  | _ => .none
def isCls : V → Bool
  | .ty _ => true
  | .ref _ => true
  | _ => false
theorem cVal_of {c : V} {u : Value} (h : isCls c = true) (r : RelV c u) : u = cVal c := by
  cases c <;> first | exact r | exact absurd (show false = true from h) Bool.false_ne_true
/-- isinstance(x, C): the type of x, then kitOne's answer -/
def rIsi (K : PySem.W.Frag) : List V → Hp → VK → Prop := fun xs H Q => ∃ x c t b, xs = [x, c] ∧ isCls c = true ∧ TyOf K H x t ∧ PySem.W.kitOne K t (cVal c) = some b ∧ Q (.bl b) H
theorem call_isi : CallR X (.builtin "isinstance") (rIsi X.K) := by
  intro pins s σ H xs us Q I r h
  obtain ⟨x, c, t, b, rfl, hc, ty, e, q⟩ := h
  obtain ⟨u, w', rfl, rx, rc⟩ := vals2 r
  cases cVal_of hc rc
  obtain ⟨Hh, Z, p, hx⟩ := kit_of I rx ty
  exact PySem.W.kia_one Z I.kIn p e hx fun tk => ⟨.bl b, H, I.tok tk, rfl, q⟩

/-! ### all -/
theorem call_allB (hc : X.calm = true) : CallR X (.builtin "all") (fun xs H Q => ∃ (p : Addr) (ys : List V) (bs : List Bool), xs = [.ref p] ∧ SqL X.K H p ys ∧ ys = bs.map V.bl ∧ Q (.bl (bs.all id)) H) := by
  intro pins s σ H xs us Q I r h
  obtain ⟨p, ys, bs, rfl, hq, rfl, q⟩ := h
  obtain ⟨u, rfl, rx⟩ := vals1 r
  cases rx
  obtain ⟨its, rv, pl, hz⟩ := I.list hq
  have hlt : p < s.heap.objs.size := by obtain ⟨_, _, e, _⟩ := pl; exact Heap.lt_size e
  refine call_all_walk (wpAny_pyIter_list pl.isList ?_)
  refine ⟨s.heap.objs.size, [s.heap.objs.size, p], [s.heap.objs.size], its.toArray.size, _, _, fun i => (bs[i]?).getD true, rfl, Walks.list (A := X.A.in1) (I.ok.hd hc) _ p (Nat.ne_of_lt hlt) its.toArray,
    ⟨⟨_, Heap.get?_push_size _ rfl, rfl, rfl⟩, pl.isList.push _⟩, fun i v s' Q' E' hP hQ => ?_, fun h' tk hk => ?_⟩
  · have hv : its[i]? = some v := by simpa using hP
    have hi : i < (bs.map V.bl).length := by rw [rv.length]; exact (List.getElem?_eq_some_iff.mp hv).1
    obtain ⟨b, hb⟩ : ∃ b, bs[i]? = some b := ⟨bs[i]'(by simpa using hi), by simp at hi; simp [hi]⟩
    obtain ⟨u, hu, ru⟩ := rv.get (i := i) (x := V.bl b) (by rw [List.getElem?_map, hb]; rfl)
    rw [hv] at hu
    cases hu
    cases ru
    simp only [hb, Option.getD_some] at hQ
    exact wpAny_truthy_bool hQ
  · have e : ((List.range its.toArray.size).all fun i => (bs[i]?).getD true) = bs.all id := by
      rw [List.size_toArray, ← rv.length, List.length_map]; exact LSm.range_all bs
    rw [e]
    exact ⟨.bl _, H, I.kept (LSm.kept_iter hk), rfl, q⟩

/-! ### x in range(a, b) -/
end
end L2

set_option Elab.async false
set_option linter.all false
set_option maxRecDepth 100000
set_option maxHeartbeats 4000000
namespace L2
open PySem PySem.Spec PyProof.Rows

theorem and_if {Q : V → Prop} {p r : Prop} [Decidable p] [Decidable r] (q : Q (.bl (decide (p ∧ r)))) : if decide p = true then Q (.bl (decide r)) else Q (.bl false) := by
  by_cases h : p
  · rw [if_pos (decide_eq_true h)]
    have e : decide (p ∧ r) = decide r := by by_cases z : r <;> simp [h, z]
    rw [← e]; exact q
  · rw [if_neg (fun z => h (of_decide_eq_true z))]
    have e : decide (p ∧ r) = false := decide_eq_false fun z => h z.1
    rw [← e]; exact q
theorem ifP {c : Prop} [Decidable c] {A B : Prop} (hc : c) (h : A) : if decide c = true then A else B := by rw [if_pos (decide_eq_true hc)]; exact h
theorem ifN {c : Prop} [Decidable c] {A B : Prop} (hc : ¬ c) (h : B) : if decide c = true then A else B := by rw [if_neg (fun z => hc (of_decide_eq_true z))]; exact h
theorem ifC {c : Prop} [Decidable c] {A B : Prop} (h1 : c → A) (h2 : ¬ c → B) : if decide c = true then A else B := by
  by_cases h : c
  · exact ifP h (h1 h)
  · exact ifN h (h2 h)
theorem ifB {b : Bool} {A B : Prop} (h1 : b = true → A) (h2 : b = false → B) : if b = true then A else B := by
  cases b with
  | true => rw [if_pos rfl]; exact h1 rfl
  | false => rw [if_neg Bool.false_ne_true]; exact h2 rfl
theorem bt_len : bootBuiltins "len" = some (.builtin "len") := by decide +kernel
theorem bt_isinstance : bootBuiltins "isinstance" = some (.builtin "isinstance") := by decide +kernel
theorem bt_all : bootBuiltins "all" = some (.builtin "all") := by decide +kernel
theorem bt_enumerate : bootBuiltins "enumerate" = some (.type "enumerate") := by decide +kernel
theorem bt_zip : bootBuiltins "zip" = some (.type "zip") := by decide +kernel
theorem bt_str : bootBuiltins "str" = some (.type "str") := by decide +kernel
theorem bt_int : bootBuiltins "int" = some (.type "int") := by decide +kernel
theorem bt_bool : bootBuiltins "bool" = some (.type "bool") := by decide +kernel
theorem bt_list : bootBuiltins "list" = some (.type "list") := by decide +kernel
theorem bt_tuple : bootBuiltins "tuple" = some (.type "tuple") := by decide +kernel
theorem pe_gl {X : Cx} {x : Str} {v : V} {pos : Pos} (hg : Gl X x) (h : ∃ u, X.mg x = some u ∧ RelV v u) (hd : (x == ("__debug__" : Str)) = false := by decide) : PE X (.Name x pos) (tC v) :=
  let ⟨_, e, r⟩ := h
  pe_glob hg e r hd

/-- what a loop walks, by the value -/
def iAny (K : PySem.W.Frag) (tl : TE) : TI := fun σ H R => tl σ H fun x H1 => match x with
  | .str z => R (Its z) H1
  | .ref a => ((∃ xs, SqL K H1 a xs) ∧ R (Itl K a) H1) ∨ ((∃ xs, SqT K H1 a xs) ∧ R (Itt K a) H1)
  | _ => False
theorem pi_any {X : Cx} {tg l : Expr} {tl : TE} (hl : PE X l tl) : PI X tg l (iAny X.K tl) := by
  intro pins s σ H R I h
  have hl1 : PE X l tl := hl
  refine thn (hl pins s σ H _ I h) fun v s1 ⟨x, H1, I1, r1, q1⟩ => ?_
  cases x with
  | str z =>
    have := pi_str (X := X) (tg := tg) (l := l) (tl := tC (.str z)) 
    obtain ⟨t, rfl⟩ := r1
    refine wpAny_pyIter_strU ?_
    refine ⟨s1.heap.objs.size, [s1.heap.objs.size], _, _, H1, rfl, I1.kept (t' := s1.toks) fun b o e => Heap.get?_push_of_some _ e, turn_str (ty := strIterType z) (t := t) z _ ?_, ⟨_, Heap.get?_push_size _ rfl, rfl, rfl⟩, fun b hb => ?_, q1⟩
    · unfold strIterType
      split
      · exact .inl rfl
      · exact .inr rfl
    · have e : b = s1.heap.objs.size := by simpa using hb
      subst e
      exact I1.fpOk (Nat.le_refl _) (I1.hok.fresh (Nat.le_refl _))
  | ref a =>
    cases r1
    rcases q1 with ⟨⟨xs, hq⟩, q⟩ | ⟨⟨xs, hq⟩, q⟩
    · obtain ⟨its, rv, p, hz⟩ := I1.list hq
      refine wpAny_pyIter_list p.isList ?_
      refine ⟨s1.heap.objs.size, [s1.heap.objs.size], _, _, H1, rfl, I1.kept (t' := s1.toks) fun b o e => Heap.get?_push_of_some _ e, turn_list a _, ⟨_, Heap.get?_push_size _ rfl, rfl, rfl⟩, fun b hb => ?_, q⟩
      have e : b = s1.heap.objs.size := by simpa using hb
      subst e
      exact I1.fpOk (Nat.le_refl _) (I1.hok.fresh (Nat.le_refl _))
    · obtain ⟨its, rv, p, hz⟩ := I1.tuple hq
      refine wpAny_pyIter_tuple (show s1.heap.IsTuple a its.toArray from p) ?_
      refine ⟨s1.heap.objs.size, [s1.heap.objs.size], _, _, H1, rfl, I1.kept (t' := s1.toks) fun b o e => Heap.get?_push_of_some _ e, turn_tuple a _, ⟨_, Heap.get?_push_size _ rfl, rfl, rfl⟩, fun b hb => ?_, q⟩
      have e : b = s1.heap.objs.size := by simpa using hb
      subst e
      exact I1.fpOk (Nat.le_refl _) (I1.hok.fresh (Nat.le_refl _))
  | _ => exact (show False from q1).elim

theorem call_lenM {X : Cx} : CallR X (.builtin "len") (fun xs H Q => match xs with
    | [.str z] => z.length ≤ sizeLine ∧ Q (.int z.length) H
    | [.ref p] => ∃ ys, (SqL X.K H p ys ∨ SqT X.K H p ys) ∧ Q (.int ys.length) H
    | _ => False) := (call_len_str.or call_len_seq).imp fun xs H Q q => by
  match xs, q with
  | [.str z], q => exact .inl ⟨z, rfl, q.1, q.2⟩
  | [.ref p], q => obtain ⟨ys, h, q⟩ := q; exact .inr ⟨p, ys, rfl, h, q⟩

/-! ### a comprehension, by what it walks -/
section
variable {D : Addr} {σb : St} {g : TG} {tt : TT} {te : TE} {Q : Hp → List V → Prop} {H : Hp} {K : PySem.W.Frag}
/-- what one turn asks -/
def CompT (D : Addr) (σb : St) (g : TG) (tt : TT) (te : TE) (x : V) (ys : List V) (H : Hp) (P : List V → Hp → Prop) : Prop :=
  g x σb H fun σ4 H4 => Wk σb σ4 ∧ tt σ4 H4 fun b H5 => if b = true then te σ4 H5 fun y H6 => H6 D = some (.lst ys) ∧ ys.length < sizeLine ∧ P (ys ++ [y]) (upd H6 D (.lst (ys ++ [y]))) else P ys H5
theorem comp_list {a : Addr} {xs : List V} (Pv : Nat → List V → Hp → Prop) (h0 : Pv 0 [] H) (hq : ∀ i ys H, Pv i ys H → SqL K H a xs) (hl : ∀ i ys H, Pv i ys H → H D = some (.lst ys))
    (hs : ∀ (i : Nat) x ys H P, xs[i]? = some x → Pv i ys H → (∀ a b, Pv (i + 1) a b → P a b) → CompT D σb g tt te x ys H P) (hd : ∀ ys H, Pv xs.length ys H → Q H ys) : ∃ W, (∃ m, W 0 m [] H) ∧ CompW (Itl K a) D σb g tt te Q W := by
  refine ⟨fun i m ys H => m = xs.length - i ∧ i ≤ xs.length ∧ Pv i ys H, ⟨_, rfl, Nat.zero_le _, h0⟩, ?_⟩
  rintro i m ys H ⟨rfl, hi, p⟩
  refine ⟨hl i ys H p, ?_⟩
  have q := hq i ys H p
  by_cases hlt : i < xs.length
  · refine .inr ⟨⟨xs, xs[i], q, by simp [hlt]⟩, fun x H3 y => ?_⟩
    obtain ⟨rfl, y⟩ := y
    exact hs i x ys _ (fun a b => ∃ m', m' < xs.length - i ∧ m' = xs.length - (i + 1) ∧ i + 1 ≤ xs.length ∧ Pv (i + 1) a b) (y xs q) p (fun a b q => ⟨xs.length - (i + 1), by omega, rfl, hlt, q⟩)
  · have e : i = xs.length := by omega
    subst e
    exact .inl ⟨⟨xs, q, Nat.le_refl _⟩, hd ys H p⟩
end

/-! ### heaps that have grown -/
theorem Same.new {H : Hp} {p : Addr} {o : HO} (h : H p = none) : Same H (upd H p o) := fun b u e => by rw [upd_ne (ne_of_none e h)]; exact e
theorem Same.sqT {K : PySem.W.Frag} {H H' : Hp} {a : Addr} {xs : List V} (e : Same H H') (h : SqT K H a xs) : SqT K H' a xs := by
  rcases h with (h | ⟨o, h⟩) | h
  · exact .inl (.inl (e _ _ h))
  · exact .inl (.inr ⟨o, e _ _ h⟩)
  · exact .inr h
/-! ### deep data -/
mutual
def DV (K : PySem.W.Frag) (H : Hp) : PyData → V → Prop
  | .none, x => x = .non
  | .bool b, x => x = .bl b
  | .int i, x => x = .int i
  | .str z, x => x = .str z
  | .list ds, x => ∃ a xs, x = .ref a ∧ SqL K H a xs ∧ DVs K H ds xs
  | .tuple ds, x => ∃ a xs, x = .ref a ∧ SqT K H a xs ∧ DVs K H ds xs
  | .dict _, _ => False
def DVs (K : PySem.W.Frag) (H : Hp) : List PyData → List V → Prop
  | [], xs => xs = []
  | d :: ds, xs => ∃ y ys, xs = y :: ys ∧ DV K H d y ∧ DVs K H ds ys
end
mutual
theorem DV.same {K : PySem.W.Frag} {H H' : Hp} (e : Same H H') : ∀ {d : PyData} {x : V}, DV K H d x → DV K H' d x
  | .none, x, h => by simpa [DV] using h
  | .bool b, x, h => by simpa [DV] using h
  | .int i, x, h => by simpa [DV] using h
  | .str z, x, h => by simpa [DV] using h
  | .list ds, x, h => by
    rw [DV] at h ⊢
    obtain ⟨a, xs, h1, h2, h3⟩ := h
    exact ⟨a, xs, h1, e.seq h2, DVs.same e h3⟩
  | .tuple ds, x, h => by
    rw [DV] at h ⊢
    obtain ⟨a, xs, h1, h2, h3⟩ := h
    exact ⟨a, xs, h1, e.sqT h2, DVs.same e h3⟩
  | .dict _, x, h => by rw [DV] at h; exact h.elim
theorem DVs.same {K : PySem.W.Frag} {H H' : Hp} (e : Same H H') : ∀ {ds : List PyData} {xs : List V}, DVs K H ds xs → DVs K H' ds xs
  | [], xs, h => by simpa [DVs] using h
  | d :: ds, xs, h => by
    rw [DVs] at h ⊢
    obtain ⟨y, ys, h1, h2, h3⟩ := h
    exact ⟨y, ys, h1, DV.same e h2, DVs.same e h3⟩
end
section
variable {X : Cx} {pins : List (Addr × Obj)} {σ : St} {H : Hp} {s : Shared}
mutual
theorem DV.reads (I : Inv X pins σ H s) : ∀ {d : PyData} {x : V} {u : Value}, DV X.K H d x → RelV x u → ∃ as, Reads s.heap u d as
  | .none, x, u, h, r => by
    rw [DV] at h; subst h; cases r; exact ⟨_, .none⟩
  | .bool b, x, u, h, r => by
    rw [DV] at h; subst h; cases r; exact ⟨_, .bool b⟩
  | .int i, x, u, h, r => by
    rw [DV] at h; subst h; obtain ⟨t, rfl⟩ := r; exact ⟨_, .int i t⟩
  | .str z, x, u, h, r => by
    rw [DV] at h; subst h; obtain ⟨t, rfl⟩ := r; exact ⟨_, .str z t⟩
  | .list ds, x, u, h, r => by
    rw [DV] at h
    obtain ⟨a, xs, rfl, h2, h3⟩ := h
    cases r
    obtain ⟨its, rv, ⟨o, n, e, c, _, d⟩, _⟩ := I.list h2
    obtain ⟨as, q⟩ := DVs.reads I h3 rv
    exact ⟨_, .list e c d (by simpa using q)⟩
  | .tuple ds, x, u, h, r => by
    rw [DV] at h
    obtain ⟨a, xs, rfl, h2, h3⟩ := h
    cases r
    obtain ⟨its, rv, ⟨o, e, c, n, d⟩, _⟩ := I.tuple h2
    obtain ⟨as, q⟩ := DVs.reads I h3 rv
    exact ⟨_, .tuple e c d (by simpa using q)⟩
  | .dict _, x, u, h, r => by rw [DV] at h; exact h.elim
theorem DVs.reads (I : Inv X pins σ H s) : ∀ {ds : List PyData} {xs : List V} {us : List Value}, DVs X.K H ds xs → Vals xs us → ∃ as, ReadsAll s.heap us ds as
  | [], xs, us, h, r => by
    rw [DVs] at h; subst h; cases r; exact ⟨_, .nil⟩
  | d :: ds, xs, us, h, r => by
    rw [DVs] at h
    obtain ⟨y, ys, rfl, h2, h3⟩ := h
    cases r with
    | cons r rs =>
      obtain ⟨as, q⟩ := DV.reads I h2 r
      obtain ⟨bs, p⟩ := DVs.reads I h3 rs
      exact ⟨_, .cons q p⟩
end
end
/-- == of data, whatever its depth -/
def rEqD (K : PySem.W.Frag) (neg : Bool) : R2 := fun x y H Q => ∃ d e, DV K H d x ∧ DV K H e y ∧ SeqAt.shaped d = true ∧ SeqAt.shaped e = true ∧ Q (.bl (if neg then !PyData.eqv d e else PyData.eqv d e)) H
theorem o_eqD {X : Cx} (hu : X.A.units + 64 < cLine) : OpR X (compareOp .Eq) (rEqD X.K false) := by
  intro pins s σ H x y v u Q I rx ry h
  obtain ⟨d, e, h1, h2, s1, s2, q⟩ := h
  obtain ⟨as, ra⟩ := h1.reads I rx
  obtain ⟨bs, rb⟩ := h2.reads I ry
  exact eq_dataH ra rb s1 s2 hu ⟨.bl _, H, I, rfl, q⟩
theorem o_neD {X : Cx} (hu : X.A.units + 64 < cLine) : OpR X (compareOp .NotEq) (rEqD X.K true) := by
  intro pins s σ H x y v u Q I rx ry h
  obtain ⟨d, e, h1, h2, s1, s2, q⟩ := h
  obtain ⟨as, ra⟩ := h1.reads I rx
  obtain ⟨bs, rb⟩ := h2.reads I ry
  exact ne_dataH ra rb s1 s2 hu ⟨.bl _, H, I, rfl, q⟩
end L2

set_option Elab.async false
set_option linter.all false
set_option maxRecDepth 100000
set_option maxHeartbeats 4000000
namespace L2
open PySem PySem.Spec PyProof.Rows

/-! ### texts: slices, methods, numbers -/
section
variable {X : Cx}
theorem SlR.imp {r r' : V → Option Int → Option Int → Hp → VK → Prop} (h : SlR X r) (i : ∀ x lo hi H Q, r' x lo hi H Q → r x lo hi H Q) : SlR X r' :=
  fun pins s σ H x v vl vu lo hi sl Q I rx hs pl pu q => h pins s σ H x v vl vu lo hi sl Q I rx hs pl pu (i x lo hi H Q q)
theorem MtR.imp {id : String} {r r' : V → List V → Hp → VK → Prop} (h : MtR X id r) (i : ∀ x xs H Q, r' x xs H Q → r x xs H Q) : MtR X id r' :=
  fun pins s σ H x xs v us Q I rx rs q => h pins s σ H x xs v us Q I rx rs (i x xs H Q q)
/-- t.startswith(u) -/
def rStarts : V → List V → Hp → VK → Prop := fun x xs H Q => match x, xs with
  | .str z, [.str y] => Q (.bl (Txt.startswith z y)) H
  | _, _ => False
theorem mt_starts : MtR X "str.startswith" rStarts := by
  intro pins s σ H x xs v us Q I rx rs q
  match x, xs, q with
  | .str z, [.str y], q =>
    obtain ⟨t, rfl⟩ := rx
    obtain ⟨u, rfl, t', rfl⟩ := vals1 rs
    exact SC.startswith ⟨.bl _, H, I, rfl, q⟩
variable {o e : Expr} {es : List Expr} {to : TE} {t : TA} {apos cpos : Pos}
theorem pe_m.startswith (ho : PE X o to) (ha : PA X (e :: es) t)
    (hbase : attributeBase o "startswith" X.env (eval o X.env) = eval o X.env := by rfl)
    (hfew : ((backTo cpos (starEach (e :: es) X.env)).all (fun x => !x.1) && (backToKw cpos (keywordEach [] X.env)).all (fun x => x.1.isSome)
      && decide ((e :: es).length + ([] : List Keyword).length + (if ([] : List Keyword).isEmpty then 0 else 1) < 30)) = true := by rfl)
    (hline : (apos.endLine == cpos.line) = true := by rfl) (hs : starEach (e :: es) X.env = (false, eval e X.env) :: starEach es X.env := by rfl) (hplain : (backTo cpos (starEach es X.env)).any (·.1) = false := by rfl) :
    PE X (.Call (.Attribute o "startswith" apos) (e :: es) [] cpos) (tBM X.K "str" rStarts to t) := pe_bm F.plainAttrs_str F.slot_str_startswith F.type_str_startswith mt_starts ho ha hbase hfew hline hs hplain
end
end L2

set_option Elab.async false
set_option linter.all false
set_option maxRecDepth 100000
set_option maxHeartbeats 4000000
namespace L2
open PySem PySem.Spec PyProof.Rows
/-! ### joins: what holds behind a part, said once -/
section
variable {X : Cx} {st : Stmt} {rest : List Stmt} {t u : TS} {e : Expr} {te : TE} {tt : TT}
def tSeqM (t u : TS) : TS := fun D σ H => ∃ M : St → Hp → Prop, t { D with nx := M } σ H ∧ ∀ σ' H', M σ' H' → u D σ' H'
theorem pss_consM (h1 : PS X st t) (h2 : PSs X rest u) : PSs X (st :: rest) (tSeqM t u) := by
  intro pins s σ H D I h
  obtain ⟨M, h, hm⟩ := h
  refine wpAny_execs_cons (thn (h1 pins s σ H { D with nx := M } I h) fun f s1 q => ?_)
  cases f with
  | next =>
    obtain ⟨σ', H', I', q⟩ := q
    exact h2 pins s1 σ' H' D I' (hm _ _ q)
  | ret v => exact q
  | brk => exact q
  | cont => exact q
end
end L2

set_option Elab.async false
set_option linter.all false
set_option maxRecDepth 100000
set_option maxHeartbeats 4000000
namespace L2
open PySem PySem.Spec PyProof.Rows
/-! ### iterators of several records; enumerate, zip -/
section
variable {X : Cx} {pins : List (Addr × Obj)} {σ : St} {H : Hp} {s : Shared} {h' : Heap}
/-- records of ours have turned, a thing may have been laid -/
theorem Inv.turnedNew {t' : Nat} {ch : List Addr} {a : Addr} {o : HO} (I : Inv X pins σ H s) (k : ∀ b u, b ∉ ch → s.heap.get? b = some u → h'.get? b = some u) (hf : ∀ b ∈ ch, FpOk X pins H b)
    (ha : s.heap.objs.size ≤ a) (new : ObjOk X.prog X.w (upd H a o) h' a o) : Inv X pins σ (upd H a o) { s with heap := h', toks := t' } := by
  have hna : H a = none := I.hok.fresh ha
  have nch : ∀ b u, H b = some u → b ∉ ch := fun b u e z => by
    rw [(hf b z).1] at e
    cases e
  have nea : ∀ b u, H b = some u → b ≠ a := fun b u e z => by
    rw [z, hna] at e
    cases e
  have old : ∀ b u, s.heap.get? b = some u → b ≠ a := fun b u e => Nat.ne_of_lt (Nat.lt_of_lt_of_le (Heap.lt_size e) ha)
  refine I.step (g' := s.gens) (d' := s.drawn) (ch := ch) (fun b hb => ?_) (fun b u _ _ hc e _ => k b u hc e) (fun b u _ _ hc e _ => ⟨u.slots, k b u hc e⟩) (fun b u _ e n => ?_) (fun b u hc e => ⟨u, k b u hc e⟩)
    (fun b xs e => ?_) (fun b u v e => ?_) (fun b ps e => ⟨#[], ?_⟩) (fun m hm => ?_) (fun b u e => ?_) I.bare
  · obtain ⟨_, f1, _, f3, f4, f5⟩ := hf b hb
    exact ⟨f3, f1, f4, f5⟩
  · rw [upd_ne (old b u e)]; exact n
  · rw [upd_ne (nea b _ e)]; exact e
  · rw [upd_ne (nea b _ e)]; exact e
  · rw [upd_ne (nea b _ e), e]; simp
  · obtain ⟨ob, es, ep, ho, r⟩ := hm
    exact ⟨ob, es, ep, k _ ob (fun z => (hf _ z).2.1 rfl) ho, r⟩
  · by_cases hb : b = a
    · subst hb
      rw [upd_same] at e
      cases e
      exact new
    · rw [upd_ne hb] at e
      refine (I.hok b u e).stay (fun c v hc q => k c v ?_ q) (fun c q => ?_) fun c xs q => ?_
      · rcases hc with z | z
        · rw [z]; exact nch b u e
        · exact nch c _ z
      · rw [upd_ne (nea c _ q)]; exact q
      · rw [upd_ne (nea c _ q)]; exact q
theorem Inv.turnedN {t' : Nat} {ch : List Addr} (I : Inv X pins σ H s) (k : ∀ b u, b ∉ ch → s.heap.get? b = some u → h'.get? b = some u) (hf : ∀ b ∈ ch, FpOk X pins H b) : Inv X pins σ H { s with heap := h', toks := t' } := by
  have nch : ∀ b u, H b = some u → b ∉ ch := fun b u e z => by
    rw [(hf b z).1] at e
    cases e
  refine I.step (g' := s.gens) (d' := s.drawn) (ch := ch) (fun b hb => ?_) (fun b u _ _ hc e _ => k b u hc e) (fun b u _ _ hc e _ => ⟨u.slots, k b u hc e⟩) (fun b u _ e n => n) (fun b u hc e => ⟨u, k b u hc e⟩)
    (fun b xs e => e) (fun b u v e => e) (fun b ps e => ⟨#[], by rw [e]; simp⟩) (fun m hm => ?_) (fun b u e => ?_) I.bare
  · obtain ⟨_, f1, _, f3, f4, f5⟩ := hf b hb
    exact ⟨f3, f1, f4, f5⟩
  · obtain ⟨ob, es, ep, ho, r⟩ := hm
    exact ⟨ob, es, ep, k _ ob (fun z => (hf _ z).2.1 rfl) ho, r⟩
  · refine (I.hok b u e).stay (fun c v hc q => k c v ?_ q) (fun c q => q) fun c xs q => q
    rcases hc with z | z
    · rw [z]; exact nch b u e
    · exact nch c _ z
end
/-- (i, the item) of the tracked list at a -/
def Ite (a : Addr) : It := ⟨fun i H => ∃ xs x, H a = some (.lst xs) ∧ xs[i]? = some x,
  fun i H x H' => ∃ p y, H p = none ∧ x = .ref p ∧ (∀ xs, H a = some (.lst xs) → xs[i]? = some y) ∧ H' = upd H p (.tup [.int (i : Nat), y]), fun i H => ∃ xs, H a = some (.lst xs) ∧ xs.length ≤ i⟩
theorem turn_enum {P : Program} {w : World} {K : PySem.W.Frag} {es : List Expr} {k : Nat} {pos : Pos} (a e it : Addr) (hne : e ≠ it) :
    Turn P w K (.Tuple es k pos) (Ite a) [e, it] e (fun i h => (∃ old, IsEnum h e it i old) ∧ h.IsListIter it a i) where
  mem := by simp
  obj := fun i h st b hb => by
    obtain ⟨⟨old, he⟩, o, h1, h2, h3⟩ := st
    rcases List.mem_cons.mp hb with rfl | hb
    · exact ⟨_, he, fun v z => by cases z⟩
    · rw [List.mem_singleton.mp hb]
      exact ⟨o, h1, fun v z => by rw [h3] at z; cases z⟩
  keep := fun i h h' st kp => by
    obtain ⟨⟨old, he⟩, o, h1, r⟩ := st
    exact ⟨⟨old, kp e (by simp) _ he⟩, o, kp it (by simp) o h1, r⟩
  item := by
    intro X hP hw hK hc i pins s σ H E I hf st hg
    subst hP hw hK
    obtain ⟨⟨old, he⟩, hit⟩ := st
    obtain ⟨xs, x, hl, hx⟩ := hg
    obtain ⟨z, its, n, r, hlen, eo⟩ := I.lstM hl
    obtain ⟨u, hu, ru⟩ := Vals.get r hx
    have hil : s.heap.IsList a its.toArray := ⟨_, eo, rfl, _, rfl⟩
    refine wpAny_pyNext_enum_item he hit hil (x := u) (by simpa using hu) hne fun h1 e1 e2 e3 e4 e5 => ?_
    refine ⟨_, rfl, wpAny_letOwnedTupleGo_enum e1 fun h2 e6 sb => ?_⟩
    have hps : s.heap.objs.size ≠ e := fun q => absurd (Heap.lt_size he) (by rw [← q]; exact Nat.lt_irrefl _)
    have hpi : s.heap.objs.size ≠ it := fun q => by
      obtain ⟨o, ho, _⟩ := hit
      exact absurd (Heap.lt_size ho) (by rw [← q]; exact Nat.lt_irrefl _)
    have hn : H s.heap.objs.size = none := I.hok.fresh (Nat.le_refl _)
    have e3' : h2.get? s.heap.objs.size = some { cls := .type "tuple", data := .seq #[.int i s.toks, u] } := (sb.2 _ hps).trans e3
    have J : Inv X pins σ (upd H s.heap.objs.size (.tup [.int (i : Nat), x])) { s with heap := h2, toks := s.toks + 1 } := by
      refine I.turnedNew (ch := [e, it]) (fun b o hb q => ?_) hf (Nat.le_refl _) ⟨by rw [sizeLine_eq]; show 2 ≤ 16777216; decide, [.int i s.toks, u], .cons ⟨_, rfl⟩ (.cons ru .nil), _, e3', rfl, 0, rfl⟩
      have b1 : b ≠ e := fun z => hb (by simp [z])
      have b2 : b ≠ it := fun z => hb (by simp [z])
      exact (sb.2 b b1).trans (e5 b o b1 b2 q)
    refine ⟨.ref s.heap.objs.size, _, J, rfl, ⟨s.heap.objs.size, x, hn, rfl, fun ys hy => ?_, rfl⟩, ⟨⟨u, ?_⟩, ?_⟩, fun b hb => ?_⟩
    · rw [hl] at hy
      cases hy
      exact hx
    · have e6' : IsEnum h2 e it ((i : Int) + 1) u := e6
      have e7 : ((i + 1 : Nat) : Int) = (i : Int) + 1 := by omega
      rw [e7]
      exact e6'
    · obtain ⟨o, ho, r⟩ := e2
      exact ⟨o, (sb.2 it (Ne.symm hne)).trans ho, r⟩
    · have hb' : b ≠ s.heap.objs.size := by
        rcases List.mem_cons.mp hb with rfl | hb
        · exact hps.symm
        · rw [List.mem_singleton.mp hb]; exact hpi.symm
      rw [upd_ne hb']
      exact (hf b hb).1
  done := by
    intro X hP hw hK hc i pins s σ H E I hf st hg
    subst hP hw hK
    obtain ⟨⟨old, he⟩, hit⟩ := st
    obtain ⟨xs, hl, hx⟩ := hg
    obtain ⟨z, its, n, r, hlen, eo⟩ := I.lstM hl
    have hil : s.heap.IsList a its.toArray := ⟨_, eo, rfl, _, rfl⟩
    refine wpAny_pyNext_enum_end (I.ok.hd hc) he hit hil (by simp; omega) fun h1 eb => ⟨rfl, I.turnedN (ch := [e, it]) (t' := s.toks) (fun b o hb q => eb b o (fun z => hb (by simp [z])) q) hf⟩
  self := fun _ _ _ _ _ st h => by
    obtain ⟨⟨old, he⟩, _⟩ := st
    exact wpAny_pyIter_enum he h
def iEnum (ta : TA) : TI := fun σ H R => ta σ H fun vs H1 => ∃ a xs, vs = [.ref a] ∧ H1 a = some (.lst xs) ∧ R (Ite a) H1
theorem pi_enum {X : Cx} {es : List Expr} {k : Nat} {tpos : Pos} {e : Expr} {ta : TA} {p pos : Pos} (hg : Gl X "enumerate") (hm : X.mg "enumerate" = none) (ha : PA X [e] ta) (hs : starEach [e] X.env = [(false, eval e X.env)] := by rfl) :
    PI X (.Tuple es k tpos) (.Call (.Name "enumerate" p) [e] [] pos) (iEnum ta) := by
  intro pins s σ H R I h
  refine wpAny_Call_Name_kw (ld_blt I hg hm bt_enumerate ?_ (by decide) (by decide))
  refine PyProof.Rows.callWith_type1 (thn (ha pos pins s σ H _ I h) fun us s1 ⟨vs, H1, I1, r1, a, xs, e1, hl, q⟩ => ?_) hs rfl
  subst e1
  obtain ⟨u, rfl, ru⟩ := vals1 r1
  cases ru
  obtain ⟨z, its, n, r, hlen, eo⟩ := I1.lstM hl
  refine call_enumerate_1 (n := n) eo fun h2 e1 e2 e3 e4 => ?_
  have I2 : Inv X pins σ H1 { s1 with heap := h2 } := I1.kept (t' := s1.toks) e4
  have hne : s1.heap.objs.size + 1 ≠ s1.heap.objs.size := Nat.succ_ne_self _
  refine wpAny_pyIter_enum e1 ?_
  refine ⟨s1.heap.objs.size + 1, [s1.heap.objs.size + 1, s1.heap.objs.size], _, _, H1, rfl, I2, turn_enum a _ _ hne, ⟨⟨_, e1⟩, e2⟩, fun b hb => ?_, q⟩
  have hb' : s1.heap.objs.size ≤ b := by
    rcases List.mem_cons.mp hb with rfl | hb
    · omega
    · rw [List.mem_singleton.mp hb]
      exact Nat.le_refl _
  exact I1.fpOk hb' (I1.hok.fresh hb')
theorem comp_enum {D : Addr} {σb : St} {g : TG} {tt : TT} {te : TE} {Q : Hp → List V → Prop} {H : Hp} {a : Addr} {xs : List V} (Pv : Nat → List V → Hp → Prop) (h0 : Pv 0 [] H) (hq : ∀ i ys H, Pv i ys H → H a = some (.lst xs)) (hl : ∀ i ys H, Pv i ys H → H D = some (.lst ys))
    (hs : ∀ (i : Nat) x ys H p P, xs[i]? = some x → Pv i ys H → H p = none → (∀ a b, Pv (i + 1) a b → P a b) → CompT D σb g tt te (.ref p) ys (upd H p (.tup [.int (i : Nat), x])) P) (hd : ∀ ys H, Pv xs.length ys H → Q H ys) : ∃ W, (∃ m, W 0 m [] H) ∧ CompW (Ite a) D σb g tt te Q W := by
  refine ⟨fun i m ys H => m = xs.length - i ∧ i ≤ xs.length ∧ Pv i ys H, ⟨_, rfl, Nat.zero_le _, h0⟩, ?_⟩
  rintro i m ys H ⟨rfl, hi, p⟩
  refine ⟨hl i ys H p, ?_⟩
  have q := hq i ys H p
  by_cases hlt : i < xs.length
  · refine .inr ⟨⟨xs, xs[i], q, by simp [hlt]⟩, fun x H3 y => ?_⟩
    obtain ⟨b, v, hb, rfl, hv, rfl⟩ := y
    exact hs i v ys H b (fun a b => ∃ m', m' < xs.length - i ∧ m' = xs.length - (i + 1) ∧ i + 1 ≤ xs.length ∧ Pv (i + 1) a b) (hv xs q) p hb fun a b r => ⟨_, by omega, rfl, hlt, r⟩
  · have e : i = xs.length := by omega
    subst e
    exact .inl ⟨⟨xs, q, Nat.le_refl _⟩, hd ys H p⟩
/-- pairs of the items of the tracked lists at a and b -/
def Itz (a b : Addr) : It := ⟨fun i H => ∃ xs ys x y, H a = some (.lst xs) ∧ H b = some (.lst ys) ∧ xs[i]? = some x ∧ ys[i]? = some y,
  fun i H v H' => ∃ p x y, H p = none ∧ v = .ref p ∧ (∀ xs, H a = some (.lst xs) → xs[i]? = some x) ∧ (∀ ys, H b = some (.lst ys) → ys[i]? = some y) ∧ H' = upd H p (.tup [x, y]),
  fun i H => ∃ xs ys, H a = some (.lst xs) ∧ H b = some (.lst ys) ∧ (xs.length ≤ i ∨ ys.length ≤ i)⟩
theorem turn_zip {P : Program} {w : World} {K : PySem.W.Frag} {es : List Expr} {k : Nat} {pos : Pos} (a b z TI TO i1 i2 : Addr) (nd : [z, TI, TO, i1, i2].Nodup) :
    Turn P w K (.Tuple es k pos) (Itz a b) [z, TI, TO, i1, i2] z (fun i h => IsZip h z TI TO .none ∧ IsPair h TI (.ref i1) (.ref i2) ∧ (∃ u v, IsPair h TO u v) ∧ h.IsListIter i1 a i ∧ h.IsListIter i2 b i) := by
  have n1 : TI ≠ z := fun e => by simp [e] at nd
  have n2 : TO ≠ z := fun e => by simp [e] at nd
  have n3 : i1 ≠ z := fun e => by simp [e] at nd
  have n4 : i2 ≠ z := fun e => by simp [e] at nd
  have n5 : TI ≠ TO := fun e => by simp [e] at nd
  have n6 : TI ≠ i1 := fun e => by simp [e] at nd
  have n7 : TI ≠ i2 := fun e => by simp [e] at nd
  have n8 : TO ≠ i1 := fun e => by simp [e] at nd
  have n9 : TO ≠ i2 := fun e => by simp [e] at nd
  have n0 : i1 ≠ i2 := fun e => by simp [e] at nd
  have apart : ∀ {H : Hp} {xs ys : List V}, (∀ c ∈ [z, TI, TO, i1, i2], H c = none) → H a = some (.lst xs) → H b = some (.lst ys) → ZipApart z TI TO i1 i2 a b := fun {H xs ys} hf ha hb =>
    ⟨n1, n2, n3, n4, n5, n6, n7, n8, n9, n0, ne_of_none ha (hf z (by simp)), ne_of_none ha (hf TO (by simp)), ne_of_none ha (hf i1 (by simp)), ne_of_none ha (hf i2 (by simp)),
      ne_of_none hb (hf z (by simp)), ne_of_none hb (hf TO (by simp)), ne_of_none hb (hf i1 (by simp)), ne_of_none hb (hf i2 (by simp))⟩
  refine { mem := by simp, obj := ?_, keep := ?_, item := ?_, done := ?_, self := ?_ }
  · rintro i h ⟨h1, h2, ⟨u, v, h3⟩, ⟨o4, h4, _, d4⟩, ⟨o5, h5, _, d5⟩⟩ c hc
    simp only [List.mem_cons, List.not_mem_nil, or_false] at hc
    rcases hc with rfl | rfl | rfl | rfl | rfl
    · exact ⟨_, h1, fun v z => by cases z⟩
    · exact ⟨_, h2, fun v z => by cases z⟩
    · exact ⟨_, h3, fun v z => by cases z⟩
    · exact ⟨_, h4, fun v z => by rw [d4] at z; cases z⟩
    · exact ⟨_, h5, fun v z => by rw [d5] at z; cases z⟩
  · rintro i h h' ⟨h1, h2, ⟨u, v, h3⟩, ⟨o4, h4, r4⟩, ⟨o5, h5, r5⟩⟩ kp
    exact ⟨kp z (by simp) _ h1, kp TI (by simp) _ h2, ⟨u, v, kp TO (by simp) _ h3⟩, ⟨o4, kp i1 (by simp) _ h4, r4⟩, ⟨o5, kp i2 (by simp) _ h5, r5⟩⟩
  · intro X hP hw hK hc i pins s σ H E I hf st hg
    subst hP hw hK
    obtain ⟨h1, h2, ⟨u, v, h3⟩, h4, h5⟩ := st
    obtain ⟨xs, ys, x, y, ha, hb, hx, hy⟩ := hg
    obtain ⟨_, its, n, r, hlen, eo⟩ := I.lstM ha
    obtain ⟨_, its2, m, r2, hlen2, eo2⟩ := I.lstM hb
    obtain ⟨ux, hux, rux⟩ := Vals.get r hx
    obtain ⟨uy, huy, ruy⟩ := Vals.get r2 hy
    have hn : H s.heap.objs.size = none := I.hok.fresh (Nat.le_refl _)
    have new : ∀ c ∈ [z, TI, TO, i1, i2], c ≠ s.heap.objs.size := fun c hc q => by
      have : ∃ o, s.heap.get? c = some o := by
        simp only [List.mem_cons, List.not_mem_nil, or_false] at hc
        obtain ⟨o4, h4, _⟩ := h4
        obtain ⟨o5, h5, _⟩ := h5
        rcases hc with rfl | rfl | rfl | rfl | rfl
        · exact ⟨_, h1⟩
        · exact ⟨_, h2⟩
        · exact ⟨_, h3⟩
        · exact ⟨_, h4⟩
        · exact ⟨_, h5⟩
      obtain ⟨o, ho⟩ := this
      exact absurd (Heap.lt_size ho) (by rw [q]; exact Nat.lt_irrefl _)
    refine wpAny_pyNext_zip_item (apart (fun c hc => (hf c hc).1) ha hb) h1 h2 h3 h4 h5 (xs := its.toArray) (ys := its2.toArray) ⟨_, eo, rfl, _, rfl⟩ ⟨_, eo2, rfl, _, rfl⟩ (x := ux) (y := uy) (by simpa using hux) (by simpa using huy)
      fun h6 e1 e2 e3 e4 e5 e6 e7 => ?_
    refine ⟨_, rfl, wpAny_letOwnedTupleGo_zip e1 fun h7 e8 sb => ?_⟩
    have J : Inv X pins σ (upd H s.heap.objs.size (.tup [x, y])) { s with heap := h7 } := by
      refine I.turnedNew (t' := s.toks) (ch := [z, TI, TO, i1, i2]) (fun c o hc q => ?_) hf (Nat.le_refl _) ⟨by rw [sizeLine_eq]; show 2 ≤ 16777216; decide, [ux, uy], .cons rux (.cons ruy .nil), _, (sb.2 _ (new z (by simp)).symm).trans e5, rfl, 0, rfl⟩
      have c1 : c ≠ z := fun w => hc (by simp [w])
      exact (sb.2 c c1).trans (e7 c o c1 (fun w => hc (by simp [w])) (fun w => hc (by simp [w])) (fun w => hc (by simp [w])) q)
    refine ⟨.ref s.heap.objs.size, _, J, rfl, ⟨s.heap.objs.size, x, y, hn, rfl, fun xs' h => by rw [ha] at h; cases h; exact hx, fun ys' h => by rw [hb] at h; cases h; exact hy, rfl⟩, ⟨e8, ?_, ⟨ux, uy, ?_⟩, ?_, ?_⟩, fun c hc => ?_⟩
    · exact (sb.2 TI n1).trans (e7 TI _ n1 n5 n6 n7 h2)
    · exact (sb.2 TO n2).trans e2
    · obtain ⟨o, ho, q⟩ := e3
      exact ⟨o, (sb.2 i1 n3).trans ho, q⟩
    · obtain ⟨o, ho, q⟩ := e4
      exact ⟨o, (sb.2 i2 n4).trans ho, q⟩
    · rw [upd_ne (new c hc)]
      exact (hf c hc).1
  · intro X hP hw hK hc i pins s σ H E I hf st hg
    subst hP hw hK
    obtain ⟨h1, h2, ⟨u, v, h3⟩, h4, h5⟩ := st
    obtain ⟨xs, ys, ha, hb, hx⟩ := hg
    obtain ⟨_, its, n, r, hlen, eo⟩ := I.lstM ha
    obtain ⟨_, its2, m, r2, hlen2, eo2⟩ := I.lstM hb
    refine wpAny_pyNext_zip_end (I.ok.hd hc) (apart (fun c hc => (hf c hc).1) ha hb) h1 h2 h3 h4 h5 (xs := its.toArray) (ys := its2.toArray) ⟨_, eo, rfl, _, rfl⟩ ⟨_, eo2, rfl, _, rfl⟩ (by simp; omega) fun h6 e7 => ?_
    exact ⟨rfl, I.turnedN (t' := s.toks) (ch := [z, TI, TO, i1, i2]) (fun c o hc q => e7 c o (fun w => hc (by simp [w])) (fun w => hc (by simp [w])) (fun w => hc (by simp [w])) (fun w => hc (by simp [w])) q) hf⟩
  · exact fun _ _ _ _ _ st h => wpAny_pyIter_zip st.1 h
def iZip (ta : TA) : TI := fun σ H R => ta σ H fun vs H1 => ∃ a b xs ys, vs = [.ref a, .ref b] ∧ H1 a = some (.lst xs) ∧ H1 b = some (.lst ys) ∧ R (Itz a b) H1
theorem pi_zip {X : Cx} {es : List Expr} {k : Nat} {tpos : Pos} {e f : Expr} {ta : TA} {p pos : Pos} (hg : Gl X "zip") (hm : X.mg "zip" = none) (ha : PA X [e, f] ta) (hs : starEach [e, f] X.env = (false, eval e X.env) :: starEach [f] X.env := by rfl)
    (hpl : (backTo pos (starEach [f] X.env)).any (·.1) = false := by rfl) : PI X (.Tuple es k tpos) (.Call (.Name "zip" p) [e, f] [] pos) (iZip ta) := by
  intro pins s σ H R I h
  refine wpAny_Call_Name_kw (ld_blt I hg hm bt_zip ?_ (by decide) (by decide))
  refine PyProof.Rows.callWith_type1 (thn (ha pos pins s σ H _ I h) fun us s1 ⟨vs, H1, I1, r1, a, b, xs, ys, e1, hl, hl2, q⟩ => ?_) hs hpl
  subst e1
  obtain ⟨u, v, rfl, ru, rv⟩ := vals2 r1
  cases ru
  cases rv
  obtain ⟨_, its, n, r, hlen, eo⟩ := I1.lstM hl
  obtain ⟨_, its2, m, r2, hlen2, eo2⟩ := I1.lstM hl2
  refine call_zip_2 (xs := its.toArray) (ys := its2.toArray) ⟨_, eo, rfl, _, rfl⟩ ⟨_, eo2, rfl, _, rfl⟩ fun h2 e1 e2 e3 e4 e5 e6 e7 => ?_
  have I2 : Inv X pins σ H1 { s1 with heap := h2 } := I1.kept (t' := s1.toks) e7
  refine wpAny_pyIter_zip e1 ?_
  refine ⟨s1.heap.objs.size + 4, [s1.heap.objs.size + 4, s1.heap.objs.size + 2, s1.heap.objs.size + 3, s1.heap.objs.size, s1.heap.objs.size + 1], _, _, H1, rfl, I2, turn_zip a b _ _ _ _ _ (by simp), ⟨e1, e2, ⟨_, _, e3⟩, e4, e5⟩, fun c hc => ?_, q⟩
  have hc' : s1.heap.objs.size ≤ c := by
    simp only [List.mem_cons, List.not_mem_nil, or_false] at hc
    rcases hc with z | z | z | z | z <;> rw [z] <;> first | exact Nat.le_refl _ | exact Nat.le_add_right _ _
  exact I1.fpOk hc' (I1.hok.fresh hc')
theorem for_zip {a b : Addr} {xs ys : List V} {g : TG} {tb : TS} {D : Ends} {σ : St} {H : Hp} (he : xs.length = ys.length) (Pv : Nat → St → Hp → Prop) (h0 : Pv 0 σ H) (hl : ∀ i σ H, Pv i σ H → H a = some (.lst xs) ∧ H b = some (.lst ys))
    (hs : ∀ (i : Nat) x y σ H p, xs[i]? = some x → ys[i]? = some y → Pv i σ H → H p = none → g (.ref p) σ (upd H p (.tup [x, y])) fun σ2 H2 => tb { D with nx := Pv (i + 1), ct := Pv (i + 1), bk := D.nx } σ2 H2) (hd : ∀ σ H, Pv xs.length σ H → D.nx σ H) :
    ∃ W : Nat → Nat → St → Hp → Prop, (∃ m, W 0 m σ H) ∧ ∀ i m σ H, W i m σ H →
      ((Itz a b).stop i H ∧ D.nx σ H) ∨ ((Itz a b).go i H ∧ ∃ N : St → Hp → Prop, (∀ σ' H', N σ' H' → ∃ m', m' < m ∧ W (i + 1) m' σ' H') ∧ ∀ x H', (Itz a b).yld i H x H' → g x σ H' fun σ2 H2 => tb { D with nx := N, ct := N, bk := D.nx } σ2 H2) := by
  refine ⟨fun i m σ H => m = xs.length - i ∧ i ≤ xs.length ∧ Pv i σ H, ⟨_, rfl, Nat.zero_le _, h0⟩, ?_⟩
  rintro i m σ H ⟨rfl, hi, p⟩
  obtain ⟨q1, q2⟩ := hl i σ H p
  by_cases hlt : i < xs.length
  · refine .inr ⟨⟨xs, ys, xs[i], ys[i]'(by omega), q1, q2, by simp [hlt], by simp [show i < ys.length by omega]⟩, Pv (i + 1), fun σ' H' p' => ⟨_, by omega, rfl, hlt, p'⟩, fun v H' y => ?_⟩
    obtain ⟨c, x, y, hc, rfl, hx, hy, rfl⟩ := y
    exact hs i x y σ H c (hx xs q1) (hy ys q2) p hc
  · have e : i = xs.length := by omega
    subst e
    exact .inl ⟨⟨xs, ys, q1, q2, .inl (Nat.le_refl _)⟩, hd σ H p⟩
end L2

set_option Elab.async false
set_option linter.all false
set_option maxRecDepth 100000
set_option maxHeartbeats 4000000
namespace NumM
open PySem PySem.NumText

theorem toNat_ofNat {c : Nat} (h : c < 128) : (Char.ofNat c).toNat = c := by
  have : c.isValidChar := Or.inl (by omega)
  simp [Char.ofNat, this, Char.toNat, Char.ofNatAux]
theorem back {cs : List Nat} (h : AllDigits cs) : (cs.map Char.ofNat).map Char.toNat = cs := by
  rw [List.map_map]
  induction cs with
  | nil => rfl
  | cons c cs ih =>
    rw [List.map_cons, ih h.tail]
    have := h.head
    show (Char.ofNat c).toNat :: cs = _
    rw [toNat_ofNat (by omega)]
end NumM
namespace L2
open PySem PySem.Spec PyProof.Rows
def oV : Option Int → V
  | none => .non
  | some n => .int n
def within (lo hi : Int) : Option Int → Option Int
  | some n => if lo ≤ n ∧ n ≤ hi then some n else none
  | none => none
def madeB (t S : Str) (m : Int) : Bool := decide (1 ≤ (t.cps.size : Int) ∧ (t.cps.size : Int) ≤ m) && t.cps.toList.all fun c => decide (c ∈ S.cps.toList)
end L2

set_option Elab.async false
set_option linter.all false
set_option maxRecDepth 100000
set_option maxHeartbeats 4000000
namespace SplM
open PySem
/-- the parts between the signs c -/
def splitC (c : Nat) : List Nat → List (List Nat)
  | [] => [[]]
  | a :: l => if a = c then [] :: splitC c l else match splitC c l with
    | [] => [[a]]
    | p :: r => (a :: p) :: r
/-- the parts with c between -/
def joinC (c : Nat) : List (List Nat) → List Nat
  | [] => []
  | [p] => p
  | p :: q :: r => p ++ c :: joinC c (q :: r)
theorem splitC_ne (c : Nat) : ∀ l, splitC c l ≠ []
  | [] => by simp [splitC]
  | a :: l => by
    unfold splitC
    split
    · exact List.cons_ne_nil _ _
    · split <;> exact List.cons_ne_nil _ _
theorem joinC_cons (c : Nat) (p : List Nat) {r : List (List Nat)} (h : r ≠ []) : joinC c (p :: r) = p ++ c :: joinC c r := by
  cases r with
  | nil => exact absurd rfl h
  | cons q r => rfl
theorem split_app (c : Nat) : ∀ (p l : List Nat), c ∉ p → splitC c (p ++ c :: l) = p :: splitC c l
  | [], l, _ => by simp [splitC]
  | a :: p, l, h => by
    have ha : a ≠ c := fun e => h (by rw [e]; exact List.mem_cons_self)
    have ih := split_app c p l fun z => h (List.mem_cons_of_mem _ z)
    rw [List.cons_append, splitC, if_neg ha, ih]
theorem split_free (c : Nat) : ∀ (p : List Nat), c ∉ p → splitC c p = [p]
  | [], _ => rfl
  | a :: p, h => by
    have ha : a ≠ c := fun e => h (by rw [e]; exact List.mem_cons_self)
    unfold splitC
    rw [if_neg ha, split_free c p fun z => h (List.mem_cons_of_mem _ z)]
theorem split_join (c : Nat) : ∀ (ps : List (List Nat)), ps ≠ [] → (∀ p ∈ ps, c ∉ p) → splitC c (joinC c ps) = ps
  | [], h, _ => absurd rfl h
  | [p], _, h => split_free c p (h p List.mem_cons_self)
  | p :: q :: r, _, h => by
    rw [joinC, split_app c p _ (h p List.mem_cons_self), split_join c (q :: r) (List.cons_ne_nil _ _) fun x hx => h x (List.mem_cons_of_mem _ hx)]
theorem join_split (c : Nat) : ∀ l, joinC c (splitC c l) = l
  | [] => rfl
  | a :: l => by
    have ih := join_split c l
    unfold splitC
    split
    · rename_i e
      rw [joinC_cons c [] (splitC_ne c l), ih, e]; rfl
    · cases hs : splitC c l with
      | nil => exact absurd hs (splitC_ne c l)
      | cons p r =>
        rw [hs] at ih
        show joinC c ((a :: p) :: r) = a :: l
        cases r with
        | nil => rw [← ih]; rfl
        | cons q r => rw [← ih]; rfl
theorem split_len (c : Nat) : ∀ l, (splitC c l).length ≤ l.length + 1
  | [] => Nat.le_refl _
  | a :: l => by
    have ih := split_len c l
    unfold splitC
    split
    · simp only [List.length_cons]; omega
    · cases hs : splitC c l with
      | nil => simp
      | cons q r => rw [hs] at ih; simp only [List.length_cons] at ih ⊢; omega
theorem codes_join (c : Nat) : ∀ ts : List Str, (Str.join ⟨#[c]⟩ ts).cps.toList = joinC c (ts.map fun t => t.cps.toList)
  | [] => rfl
  | [t] => rfl
  | t :: u :: r => by
    have ih := codes_join c (u :: r)
    show (t ++ (⟨#[c]⟩ : Str) ++ Str.join ⟨#[c]⟩ (u :: r)).cps.toList = _
    rw [Str.cps_append, Str.cps_append, Array.toList_append, Array.toList_append, ih]
    show t.cps.toList ++ [c] ++ _ = t.cps.toList ++ c :: _
    rw [List.append_assoc]; rfl
/-- t.split(c), by the codes -/
theorem codes_split (x : Str) (c : Nat) : (Txt.split x ⟨#[c]⟩).map (fun t => t.cps.toList) = splitC c x.cps.toList := by
  have h1 := StrLaws.join_split x ⟨#[c]⟩
  have h2 := StrLaws.split_free x c
  have hne : Txt.split x ⟨#[c]⟩ ≠ [] := by
    unfold Txt.split
    split
    · exact List.cons_ne_nil _ _
    · split
      · exact List.cons_ne_nil _ _
      · rw [StrLaws.partsBetween_eq]
        obtain ⟨p, r, e⟩ := StrLaws.partsFrom_ne x (⟨#[c]⟩ : Str).length 0 (Builtin.Str.occurrences x ⟨#[c]⟩ 0 x.length (x.length + 1))
        rw [e]; exact List.cons_ne_nil _ _
  have h3 := codes_join c (Txt.split x ⟨#[c]⟩)
  rw [h1] at h3
  rw [h3, split_join c _ (by simpa using hne) ?_]
  intro p hp
  obtain ⟨t, ht, rfl⟩ := List.mem_map.mp hp
  exact h2 t ht
end SplM
namespace L2
open PySem PySem.Spec PyProof.Rows
/-! ### join, split, fields of texts, truth, list methods -/
section
variable {X : Cx}
theorem vals_strs : ∀ {ts : List Str} {us : List Value}, Vals (ts.map V.str) us → StrsAre us ts
  | [], us, r => by
    rw [List.map_nil] at r
    cases r
    exact .nil
  | t :: ts, us, r => by
    rw [List.map_cons] at r
    cases r with
    | cons r1 r2 =>
      obtain ⟨k, rfl⟩ := r1
      exact .cons t k (vals_strs r2)
/-- sep.join(texts), of a list or a tuple -/
def rJoin (K : PySem.W.Frag) : V → List V → Hp → VK → Prop := fun x xs H Q => ∃ (z : Str) (p : Addr) (ts : List Str), x = .str z ∧ xs = [.ref p] ∧ (SqL K H p (ts.map V.str) ∨ SqT K H p (ts.map V.str)) ∧
  (ts.map (·.length)).sum + ts.length * z.length ≤ 16777216 ∧ Q (.str (Txt.join z ts)) H
theorem mt_join : MtR X "str.join" (rJoin X.K) := by
  intro pins s σ H x xs v us Q I rx rs h
  obtain ⟨z, p, ts, rfl, rfl, hp, hz, q⟩ := h
  obtain ⟨t, rfl⟩ := rx
  obtain ⟨u, rfl, ru⟩ := vals1 rs
  cases ru
  rcases hp with hp | hp
  · obtain ⟨its, r, pl, _⟩ := I.list hp
    exact join_list pl.isList (by simpa using vals_strs r) hz fun t' k => ⟨.str _, H, I.tok _, ⟨_, rfl⟩, q⟩
  · obtain ⟨its, r, pl, _⟩ := I.tuple hp
    exact join_tuple pl (by simpa using vals_strs r) hz fun t' k => ⟨.str _, H, I.tok _, ⟨_, rfl⟩, q⟩
theorem vals_of_strs : ∀ (l : List (Str × Tok)), Vals ((l.map (·.1)).map V.str) (strValues l)
  | [] => .nil
  | p :: l => .cons ⟨p.2, rfl⟩ (vals_of_strs l)
open Builtin.Str in
theorem split_new {P : Program} {w : World} {A : Around} {E : Value → Shared → Prop} {s : Shared} {x y : Str} {t u : Tok} {Q : Value → Shared → Prop} (hy : (y.length == 0) = false) (hx : x.length ≤ sizeLine)
    (hp : (partsBetween x (occurrences x y 0 x.length (x.length + 1)) y.length).length ≤ sizeLine)
    (h : ∀ (l : List (Str × Tok)) (k : Nat), l.map (·.1) = Txt.split x y → Q (.ref s.heap.objs.size) { s with heap := s.heap.push { cls := .type "list", data := .seq (strValues l).toArray }, toks := k }) :
    wpAny (model P w) A (call (.builtin "str.split") [.str x t, .str y u]) Q E s := by
  by_cases h1 : (decide (x.length < y.length) || decide (strKind x < strKind y)) = true
  · refine call_meets F.slot_str_split (typeIs_str s x t) F.entry_str_split (F.args_str_split_2 _ _) (meets_str_split_cannot_occur x y t u h1) ?_
    exact h [(x, t)] s.toks (by unfold Txt.split; rw [if_pos h1]; rfl)
  · have h1' := eq_false_of_ne_true h1
    by_cases h2 : (occurrences x y 0 x.length (x.length + 1)).isEmpty = true
    · refine call_meets F.slot_str_split (typeIs_str s x t) F.entry_str_split (F.args_str_split_2 _ _) (meets_str_split_not_found x y t u h1' hy h2) ?_
      exact h [(x, t)] s.toks (by unfold Txt.split; rw [if_neg h1, if_pos h2]; rfl)
    · have h2' := eq_false_of_ne_true h2
      refine call_meets F.slot_str_split (typeIs_str s x t) F.entry_str_split (F.args_str_split_2 _ _) (meets_str_split_sep x y t u h1' hy h2' hx hp) ?_
      have := h (numbered s.toks (partsBetween x (occurrences x y 0 x.length (x.length + 1)) y.length)) (s.toks + (partsBetween x (occurrences x y 0 x.length (x.length + 1)) y.length).length)
        ((numbered_texts _ _).trans (by unfold Txt.split; rw [if_neg h1, if_neg h2]))
      rw [← strsFrom_eq] at this
      exact this
/-- text.split(sign): a new list -/
def rSplit : V → List V → Hp → VK → Prop := fun x xs H Q => ∃ (z : Str) (c : Nat), x = .str z ∧ xs = [.str ⟨#[c]⟩] ∧ z.cps.size + 2 ≤ sizeLine ∧
  ∀ (l : Addr) (ts : List Str), H l = none → ts.map (fun t => t.cps.toList) = SplM.splitC c z.cps.toList → Q (.ref l) (upd H l (.lst (ts.map V.str)))
theorem mt_split : MtR X "str.split" rSplit := by
  intro pins s σ H x xs v us Q I rx rs h
  obtain ⟨z, c, rfl, rfl, hz, q⟩ := h
  obtain ⟨t, rfl⟩ := rx
  obtain ⟨u, rfl, t', rfl⟩ := vals1 rs
  have hs : (Txt.split z ⟨#[c]⟩).length ≤ sizeLine := by
    have h1 := congrArg List.length (SplM.codes_split z c)
    have h2 := SplM.split_len c z.cps.toList
    rw [List.length_map] at h1
    simp only [Array.length_toList] at h2
    omega
  have hpl : (Builtin.Str.partsBetween z (Builtin.Str.occurrences z ⟨#[c]⟩ 0 z.length (z.length + 1)) (⟨#[c]⟩ : Str).length).length ≤ sizeLine := by
    have h1 := PySem.StrLaws.occ_length_le z ⟨#[c]⟩ 0 z.length (z.length + 1)
    rw [PySem.StrLaws.partsBetween_eq]
    have h3 : ∀ (cuts : List Nat) (a : Nat), (PySem.StrLaws.partsFrom z (⟨#[c]⟩ : Str).length a cuts).length = cuts.length + 1 := by
      intro cuts
      induction cuts with
      | nil => intro a; rfl
      | cons d cuts ih => intro a; show (_ :: _).length = _; rw [List.length_cons, ih]; rfl
    rw [h3]
    have h4 := PySem.StrLaws.occ_length_le_len z ⟨#[c]⟩ 0 z.length (z.length + 1)
    have e : z.length = z.cps.size := rfl
    omega
  refine split_new rfl (show z.cps.size ≤ sizeLine by omega) hpl fun l k e => ?_
  refine ⟨.ref s.heap.objs.size, _, I.lnew (t' := k) (ys := (l.map (·.1)).map V.str) (vals_of_strs l) (by rw [List.length_map, e]; exact hs), rfl, q _ _ (I.hok.fresh (Nat.le_refl _)) ?_⟩
  rw [e]
  exact SplM.codes_split z c

/-! fields of an f-string -/
variable {o e : Expr} {es : List Expr} {to : TE} {t : TA} {apos cpos : Pos}
theorem pe_m.join (ho : PE X o to) (ha : PA X (e :: es) t) (hbase : attributeBase o "join" X.env (eval o X.env) = eval o X.env := by rfl)
    (hfew : ((backTo cpos (starEach (e :: es) X.env)).all (fun x => !x.1) && (backToKw cpos (keywordEach [] X.env)).all (fun x => x.1.isSome) && decide ((e :: es).length + ([] : List Keyword).length + (if ([] : List Keyword).isEmpty then 0 else 1) < 30)) = true := by rfl)
    (hline : (apos.endLine == cpos.line) = true := by rfl) (hs : starEach (e :: es) X.env = (false, eval e X.env) :: starEach es X.env := by rfl) (hplain : (backTo cpos (starEach es X.env)).any (·.1) = false := by rfl) :
    PE X (.Call (.Attribute o "join" apos) (e :: es) [] cpos) (tBM X.K "str" (rJoin X.K) to t) := pe_bm F.plainAttrs_str F.slot_str_join F.type_str_join mt_join ho ha hbase hfew hline hs hplain
theorem pe_m.split (ho : PE X o to) (ha : PA X (e :: es) t) (hbase : attributeBase o "split" X.env (eval o X.env) = eval o X.env := by rfl)
    (hfew : ((backTo cpos (starEach (e :: es) X.env)).all (fun x => !x.1) && (backToKw cpos (keywordEach [] X.env)).all (fun x => x.1.isSome) && decide ((e :: es).length + ([] : List Keyword).length + (if ([] : List Keyword).isEmpty then 0 else 1) < 30)) = true := by rfl)
    (hline : (apos.endLine == cpos.line) = true := by rfl) (hs : starEach (e :: es) X.env = (false, eval e X.env) :: starEach es X.env := by rfl) (hplain : (backTo cpos (starEach es X.env)).any (·.1) = false := by rfl) :
    PE X (.Call (.Attribute o "split" apos) (e :: es) [] cpos) (tBM X.K "str" rSplit to t) := pe_bm F.plainAttrs_str F.slot_str_split F.type_str_split mt_split ho ha hbase hfew hline hs hplain
theorem pe_m.append (ho : PE X o to) (ha : PA X (e :: es) t) (hbase : attributeBase o "append" X.env (eval o X.env) = eval o X.env := by rfl)
    (hfew : ((backTo cpos (starEach (e :: es) X.env)).all (fun x => !x.1) && (backToKw cpos (keywordEach [] X.env)).all (fun x => x.1.isSome) && decide ((e :: es).length + ([] : List Keyword).length + (if ([] : List Keyword).isEmpty then 0 else 1) < 30)) = true := by rfl)
    (hline : (apos.endLine == cpos.line) = true := by rfl) (hs : starEach (e :: es) X.env = (false, eval e X.env) :: starEach es X.env := by rfl) (hplain : (backTo cpos (starEach es X.env)).any (·.1) = false := by rfl) :
    PE X (.Call (.Attribute o "append" apos) (e :: es) [] cpos) (tBM X.K "list" rAppend to t) := pe_bm F.plainAttrs_list F.slot_list_append F.type_list_append mt_append ho ha hbase hfew hline hs hplain
theorem pe_m.clear (ho : PE X o to) (hbase : attributeBase o "clear" X.env (eval o X.env) = eval o X.env := by rfl) (hline : (apos.endLine == cpos.line) = true := by rfl) :
    PE X (.Call (.Attribute o "clear" apos) [] [] cpos) (tBM0 X.K "list" rClear to) := pe_bm0 F.plainAttrs_list F.slot_list_clear F.type_list_clear mt_clear ho hbase hline
theorem pe_m.pop (ho : PE X o to) (hbase : attributeBase o "pop" X.env (eval o X.env) = eval o X.env := by rfl) (hline : (apos.endLine == cpos.line) = true := by rfl) :
    PE X (.Call (.Attribute o "pop" apos) [] [] cpos) (tBM0 X.K "list" rPop to) := pe_bm0 F.plainAttrs_list F.slot_list_pop F.type_list_pop mt_pop ho hbase hline
end
/-! ### tuples stay -/
def TK (H H' : Hp) : Prop := ∀ b xs, H b = some (.tup xs) → H' b = some (.tup xs)
theorem TK.refl (H : Hp) : TK H H := fun _ _ h => h
theorem TK.trans {H H1 H2 : Hp} (a : TK H H1) (b : TK H1 H2) : TK H H2 := fun c o h => b c o (a c o h)
theorem Same.tk {H H' : Hp} (e : Same H H') : TK H H' := fun b xs h => e b _ h
theorem TK.lst {H : Hp} {l : Addr} {xs ys : List V} (h : H l = some (.lst xs)) : TK H (upd H l (.lst ys)) := fun b zs e => by
  rw [upd_ne (ne_of e h (by intro z; cases z))]; exact e
theorem Same.put {H H' : Hp} {D : Addr} {o : HO} (e : Same H H') (h : H D = none) : Same H (upd H' D o) := fun b u q => by
  rw [upd_ne (ne_of_none q h)]; exact e b u q
theorem atI_cons {α : Type} {xs : List α} {i : Int} {v : α} (k : Nat) (hk : (k : Int) = i) (h : xs[k]? = some v) : atI xs i = some v := by rw [← hk]; exact atI_nat h
def nameB (t : Str) : Bool := madeB t "abcdefghijklmnopqrstuvwxyz" 8
end L2

set_option Elab.async false
set_option linter.all false
set_option maxRecDepth 100000
set_option maxHeartbeats 4000000
namespace L2
open PySem PySem.Spec PyProof.Rows
/-! ### units -/
structure U where
  name : Str
  value : Int
  size : Int
  path : List Str
def uV (p : Addr) (u : U) : List V := [.str u.name, .int u.value, .int u.size, .ref p]
def IsU (H : Hp) (u : U) (x : V) : Prop := ∃ a p, x = .ref a ∧ H a = some (.tup (uV p u)) ∧ H p = some (.tup (u.path.map V.str))
theorem IsU.tk {H H' : Hp} {u : U} {x : V} (k : TK H H') (h : IsU H u x) : IsU H' u x := let ⟨a, p, h1, h2, h3⟩ := h; ⟨a, p, h1, k a _ h2, k p _ h3⟩
abbrev AllU (H : Hp) : List U → List V → Prop := Paired (IsU H)
theorem AllU.tk {H H' : Hp} (k : TK H H') : ∀ {us : List U} {xs : List V}, AllU H us xs → AllU H' us xs
  | _, _, .nil => .nil
  | _, _, .cons r t => .cons (r.tk k) (AllU.tk k t)
theorem AllU.len {H : Hp} {us : List U} {xs : List V} (h : AllU H us xs) : us.length = xs.length := Paired.length h
theorem AllU.get {H : Hp} : ∀ {us : List U} {xs : List V} {i : Nat} {x : V}, AllU H us xs → xs[i]? = some x → ∃ u, us[i]? = some u ∧ IsU H u x
  | _, _, _, _, .nil, h => by cases h
  | _, _, 0, _, .cons r _, h => ⟨_, rfl, by cases h; exact r⟩
  | _, _, i + 1, _, .cons _ t, h => AllU.get (i := i) t h
theorem AllU.take {H : Hp} : ∀ {us : List U} {xs : List V} (k : Nat), AllU H us xs → AllU H (us.take k) (xs.take k)
  | _, _, 0, _ => by rw [List.take_zero, List.take_zero]; exact .nil
  | _, _, _ + 1, .nil => .nil
  | _, _, k + 1, .cons r t => .cons r (AllU.take k t)
theorem AllU.snoc {H : Hp} {u : U} {x : V} (r : IsU H u x) : ∀ {us : List U} {xs : List V}, AllU H us xs → AllU H (us ++ [u]) (xs ++ [x])
  | _, _, .nil => .cons r .nil
  | _, _, .cons q t => .cons q (AllU.snoc r t)
structure GoodU (u : U) : Prop where
  nm : nameB u.name = true
  v0 : -1000000000 ≤ u.value
  v1 : u.value ≤ 1000000000
  s0 : 1 ≤ u.size
  s1 : u.size ≤ 1000000
  pl : u.path.length ≤ 3
  pn : ∀ n ∈ u.path, nameB n = true
structure GoodL (us : List U) : Prop where
  l1 : 1 ≤ us.length
  l2 : us.length ≤ 24
  each : ∀ u ∈ us, GoodU u
  nd : (us.map U.name).Nodup
  pth : ∀ u ∈ us, ∀ v ∈ us, u.path.length = v.path.length
/-! deep data of units -/
def uD (u : U) : PyData := .tuple [.str u.name, .int u.value, .int u.size, .tuple (u.path.map PyData.str)]
theorem dvs_str {K : PySem.W.Frag} {H : Hp} : ∀ (l : List Str), DVs K H (l.map PyData.str) (l.map V.str)
  | [] => by simp [DVs]
  | c :: l => by
    rw [List.map_cons, List.map_cons, DVs]
    exact ⟨_, _, rfl, by simp [DV], dvs_str l⟩
theorem IsU.dv {K : PySem.W.Frag} {H : Hp} {u : U} {x : V} (h : IsU H u x) : DV K H (uD u) x := by
  obtain ⟨a, p, rfl, h2, h3⟩ := h
  rw [uD, DV]
  refine ⟨a, _, rfl, SqT.of h2, ?_⟩
  rw [uV, DVs]
  refine ⟨_, _, rfl, by simp [DV], ?_⟩
  rw [DVs]
  refine ⟨_, _, rfl, by simp [DV], ?_⟩
  rw [DVs]
  refine ⟨_, _, rfl, by simp [DV], ?_⟩
  rw [DVs]
  refine ⟨_, _, rfl, ?_, by simp [DVs]⟩
  rw [DV]
  exact ⟨p, _, rfl, SqT.of h3, dvs_str _⟩
theorem AllU.dvs {K : PySem.W.Frag} {H : Hp} : ∀ {us : List U} {xs : List V}, AllU H us xs → DVs K H (us.map uD) xs
  | _, _, .nil => by simp [DVs]
  | _, _, .cons r t => by
    rw [List.map_cons, DVs]
    exact ⟨_, _, rfl, r.dv, AllU.dvs t⟩
/-! the rules with the written part told apart (within a comprehension) -/
section
variable {X : Cx} {K : PySem.W.Frag}
theorem ix_seqK (h : X.K = K) : IxR X (rIx K) := h ▸ ix_seq
theorem pg_tupK (h : X.K = K) {es : List Expr} {k : Nat} {t : TGs} {n : Nat} {pos : Pos} (hc : X.calm = true) (hp : PGs X es t) (hn : (assignEach es X.env).length = n := by rfl) (hst : (assignEach es X.env).findIdx? (·.1) = none := by rfl) :
    PG X (.Tuple es k pos) (gTup K n t) := h ▸ pg_tup hc hp hn hst
end
end L2

set_option Elab.async false
set_option linter.all false
set_option maxRecDepth 100000
set_option maxHeartbeats 4000000
namespace L2
open PySem PySem.Spec PyProof.Rows

/-! ### an own exception's class, asked of an instance -/
structure XCls (K : PySem.W.Frag) (D : Addr) : Prop where
  ga : PySem.W.findIn K (.ref D) "__getattribute__" = some (some (.builtin "BaseException.__getattribute__"))
  gn : PySem.W.findIn K (.ref D) "__getattr__" = some none
  cl : PySem.W.findIn K (.ref D) "__class__" = some (some (.builtin "object.__class__"))
  mb : PySem.W.mroIn K D (.type "BaseException") = some true
  mo : PySem.W.mroIn K D (.type "object") = some true
  isc : (PySem.W.clsIn K D).isSome = true

section
variable {prog : Program} {w : World} {A : Around} {E : Value → Shared → Prop} {h : Heap} {g : Array GenState} {d : Drawn} {t : Nat} {os : OsState} {a D : Addr} {o : Obj} {K : PySem.W.Frag}
theorem xc_check {M : Model} {nameV : Value} {Q : Unit → Shared → Prop} (c : XCls K D) (X : K.In h) (hx : h.get? a = some o) (hc : o.cls = .ref D) (hq : Q () ⟨h, g, d, t, os⟩) :
    wpAny M A (checkBuiltinCall "BaseException.__getattribute__" ⟨[.ref a, nameV], []⟩) Q E ⟨h, g, d, t, os⟩ := by
  have hk : builtinKind "BaseException.__getattribute__" = some .slot := by decide +kernel
  have hsplit : splitId "BaseException.__getattribute__" = some ("BaseException", "__getattribute__") := by decide +kernel
  have ha := F.args_bexc_ga (.ref a) nameV
  simp only [checkBuiltinCall, hk, hsplit]
  refine wpAny_bind ?_
  unfold isInstance
  repeat (first | (with_reducible refine wpAny_loadPart_at hx ?_; rw [hc]) | with_reducible refine (PySem.W.looks_mroIn X c.mb).at ?_ | wp_step)
  exact hq
theorem xc_get {R : Result → Shared → Prop} (c : XCls K D) (X : K.In h) (hx : h.get? a = some o) (hc : o.cls = .ref D) (hq : R (.ok (.ret (.ref D))) ⟨h, g, d, t, os⟩) :
    codeAny (model prog w) A (.call (.builtin "getset_descriptor.__get__") ⟨[.builtin "object.__class__", .ref a, .ref D], []⟩) R ⟨h, g, d, t, os⟩ := by
  have hT5 : (⟨h, g, d, t, os⟩ : Shared).TypeIs (.builtin "object.__class__") "getset_descriptor" := F.typeOf_object_class
  have hO : PySem.W.Looks (model prog w) h (isSubtype (.ref D) (.type (".".intercalate ("object.__class__".cutAt '.').dropLast))) true := by
    rw [F.owner_object_class]; exact PySem.W.looks_mroIn X c.mo
  refine codeAny_call_builtin F.slot_gs_get.plain F.entry_gs_get (F.slot_gs_get.check _ _ _ _ _ _ _ _ hT5 (F.args_gs_get _ _ _) ?_)
  repeat (any_goals (first | assumption | (with_reducible refine wpAny_loadPart_at hx ?_; rw [hc]) | with_reducible refine hO.at ?_ | wp_step))
  refine ⟨Code.quiet_builtin _ (by decide +kernel), codeAny_builtin F.entry_object_class ?_⟩
  repeat (any_goals (first | assumption | (with_reducible refine wpAny_loadPart_at hx ?_; rw [hc]) | wp_step))
theorem xc_entry {tk : Tok} {Q : Fin → Shared → Prop} (c : XCls K D) (X : K.In h) (hx : h.get? a = some o) (hc : o.cls = .ref D) (hq : Q (.done (.ret (.ref D))) ⟨h, g, d, t, os⟩) :
    wpAny (model prog w) A (Builtin.«object.__getattribute__» ⟨[.ref a, .str "__class__" tk], []⟩) Q E ⟨h, g, d, t, os⟩ := by
  have hT5 : (⟨h, g, d, t, os⟩ : Shared).TypeIs (.builtin "object.__class__") "getset_descriptor" := F.typeOf_object_class
  have f5 := F.typeOf_object_class
  have f6 := F.slot_gs_get.lookup
  have f7 := F.slot_gs_set.lookup
  repeat (any_goals (first | assumption | (with_reducible refine wpAny_loadPart_at hx ?_; rw [hc]) | with_reducible refine (PySem.W.looks_findIn X c.cl).at ?_ | wp_step))
  refine xc_get c X hx hc ?_
  repeat (any_goals (first | assumption | wp_step))
theorem xc_by {tk : Tok} {fill expr : Bool} {Q : Value → Shared → Prop} (c : XCls K D) (X : K.In h) (hx : h.get? a = some o) (hc : o.cls = .ref D) (hq : Q (.ref D) ⟨h, g, d, t, os⟩) :
    wpAny (model prog w) A (getAttrBy (.ref a) (.str "__class__" tk) fill expr) Q E ⟨h, g, d, t, os⟩ := by
  have f3 := PySem.F.attrBase_ValueError.ga.bind (.ref a)
  have hx0 : (expr && onTheHeap (Value.builtin "BaseException.__getattribute__")) = false := by cases expr <;> rfl
  have hx2 : (Value.builtin "BaseException.__getattribute__" == Value.builtin "object.__getattribute__") = false := by decide +kernel
  have hx1 : (onTheHeap (Value.ref D) && Value.builtin "BaseException.__getattribute__" == Value.builtin "object.__getattribute__") = false := by rw [hx2]; rfl
  repeat (any_goals (first | assumption | (with_reducible refine wpAny_loadPart_at hx ?_; rw [hc]) | with_reducible refine (PySem.W.looks_findIn X c.ga).at ?_ | with_reducible refine (PySem.W.looks_findIn X c.gn).at ?_ | wp_step))
  refine codeAny_call_builtin PySem.F.attrBase_ValueError.ga.plain F.entry_bexc_ga (xc_check c X hx hc (xc_entry c X hx hc ?_))
  repeat (any_goals (first | assumption | wp_step))
theorem xc_attr {Q : Option Value → Shared → Prop} (c : XCls K D) (X : K.In h) (hx : h.get? a = some o) (hc : o.cls = .ref D) (hq : Q (some (.ref D)) ⟨h, g, d, t + 1, os⟩) :
    wpAny (model prog w) A (getAttr? (.ref a) "__class__") Q E ⟨h, g, d, t, os⟩ := by
  unfold getAttr? getAttrBy?
  repeat (any_goals (first | assumption | with_reducible apply xc_by c X hx hc | wp_step))
end
def XAt (a D : Addr) (h : Heap) : Prop := ∃ o, h.get? a = some o ∧ o.cls = .ref D
theorem kitx_exc {K : PySem.W.Frag} {a D : Addr} (c : XCls K D) : PySem.W.KitX K (.ref a) (.ref D) (XAt a D) where
  ty := fun M h _ p => by
    obtain ⟨o, h1, h2⟩ := p
    exact h2 ▸ (PySem.W.Looks.ld h1).andThen .now
  it := fun _ _ X _ => by
    obtain ⟨cdD, hcD⟩ := Option.isSome_iff_exists.mp c.isc
    unfold PySem.W.clsIn at hcD
    split at hcD
    · rename_i c' d' cd' sl' ho
      intro A' Q' E' s' k q
      unfold isType loadHead
      exact wpAny_bind (wpAny_loadPart (k _ _ (X _ _ ho)) (wpAny_pure q))
    · cases hcD
  ne := fun h tp dd its n sl X htp => by
    obtain ⟨cdD, hcD⟩ := Option.isSome_iff_exists.mp c.isc
    refine Bool.eq_false_iff.mpr fun q => ?_
    have e : D = tp := Value.ref.inj (beq_iff_eq.mp q)
    subst e
    unfold PySem.W.clsIn at hcD
    split at hcD
    · rename_i c' d' cd' sl' ho
      have z := (X _ _ ho).symm.trans htp
      cases z
    · cases hcD
  ca := fun {_ _ _ _ _ s} X p k => by
    obtain ⟨h, g, d, t, os⟩ := s
    obtain ⟨o, h1, h2⟩ := p
    exact xc_attr c X h1 h2 k
end L2

set_option Elab.async false
set_option linter.all false
set_option maxRecDepth 100000
set_option maxHeartbeats 4000000
namespace L2
open PySem PySem.Spec PyProof.Rows

/-! ### an own exception leaves -/
theorem un_more {fs : List Addr} {H0 H : Hp} {h0 h h2 : Heap} (u : Un fs [] H0 H h0 h) (k : ∀ b o, (∃ o', h0.get? b = some o') → b ∉ fs → h.get? b = some o → h2.get? b = some o)
    (sl : ∀ b o, b ∈ fs → h.get? b = some o → ∃ l, h2.get? b = some { o with slots := l }) : Un fs [] H0 H h0 h2 where
  keep := fun b o q n hf hx => k b o ⟨o, q⟩ hf (u.keep b o q n hf hx)
  slot := fun b o q n hf hx => by
    obtain ⟨l, e⟩ := u.slot b o q n hf hx
    obtain ⟨l', e'⟩ := sl b _ hf e
    exact ⟨l', e'⟩
  free := u.free
  there := fun b o q hx => by
    obtain ⟨o', e⟩ := u.there b o q hx
    by_cases hf : b ∈ fs
    · obtain ⟨l, e'⟩ := sl b o' hf e
      exact ⟨_, e'⟩
    · exact ⟨o', k b o' ⟨o, q⟩ hf e⟩
  tups := u.tups
  frzs := u.frzs
  tbls := u.tbls
theorem hok_more {P : Program} {w : World} {H : Hp} {h h2 : Heap} (x : HOk P w H h) (k : ∀ b o u, H b = some u → h.get? b = some o → h2.get? b = some o) : HOk P w H h2 := fun a o e =>
  (x a o e).stay (fun b u hb q => by
    rcases hb with z | z
    · rw [z] at q ⊢
      exact k a u o e q
    · exact k b u _ z q) (fun _ q => q) fun _ _ q => q
theorem ObjOk.isObj {P : Program} {w : World} {H : Hp} {h : Heap} {a : Addr} {o : HO} (x : ObjOk P w H h a o) : ∃ u, h.get? a = some u := by
  cases o with
  | lst xs => obtain ⟨_, _, _, _, e⟩ := x; exact ⟨_, e⟩
  | tup xs => obtain ⟨_, _, _, _, e, _⟩ := x; exact ⟨_, e⟩
  | dK kvs => obtain ⟨_, _, _, _, o, _, _, e, _⟩ := x; exact ⟨_, e⟩
  | dT kvs => obtain ⟨_, _, _, _, o, _, _, e, _⟩ := x; exact ⟨_, e⟩
  | set S n => obtain ⟨o, _, _, _, e, _⟩ := x; exact ⟨_, e⟩
  | ins C dx fs => obtain ⟨_, _, _, e, _⟩ := x; exact ⟨_, e⟩
  | own y => exact x
  | xd fs => obtain ⟨_, ⟨_, _, _, e, _⟩, _⟩ := x; exact ⟨_, e⟩
  | rng lo hi => obtain ⟨_, _, _, e⟩ := x; exact ⟨_, e⟩
  | frz ob u => exact ⟨_, x.1⟩
  | tbl ps => exact ⟨_, x⟩
  | met f y => exact ⟨_, x⟩
  | ext φ => exact x.2.1

/-- the exception at x, of the class at D, flies: B holds all of before (but the callers' frames) and all that is tracked -/
structure XF (P : Program) (w : World) (outer : List Env) (H : Hp) (s : Shared) (x D : Addr) (a0 : Value) (B : Heap) (H' : Hp) (s' : Shared) : Prop where
  os : s'.os = s.os
  bare : AllBare s'.gens
  un : Un (frs outer) [] H H' s.heap s'.heap
  hok : HOk P w H' s'.heap
  fly : Heap.FlyingW B outer x (.ref D) a0 s'.heap
  cov : ∀ b o, s'.heap.get? b = some o → ((∃ o', s.heap.get? b = some o') ∨ (∃ u, H' b = some u)) → b ∉ frs outer → B.get? b = some o
section
variable {P : Program} {w : World} {outer : List Env} {H H' : Hp} {s s' : Shared} {x D : Addr} {a0 : Value} {B : Heap}
theorem fly_out {h : Heap} (f : Heap.FlyingW B outer x (.ref D) a0 h) : x ∉ frs outer := fun hm => by
  obtain ⟨_, _, f3, oe, vs, T, oT, ts, he, _, hd, _⟩ := f
  obtain ⟨_, o, ho, hn⟩ := f3.mem hm
  rw [he] at ho
  cases ho
  exact hn vs hd
theorem XF.new (F : XF P w outer H s x D a0 B H' s') : ∀ o, s.heap.get? x ≠ some o := fun o e => by
  obtain ⟨o', e'⟩ := F.un.there x o e (by simp)
  have := F.cov x o' e' (.inl ⟨o, e⟩) (fly_out F.fly)
  rw [F.fly.2.1] at this
  cases this
theorem XF.free (F : XF P w outer H s x D a0 B H' s') : H' x = none := by
  cases q : H' x with
  | none => rfl
  | some u =>
    obtain ⟨o, e⟩ := (F.hok x u q).isObj
    have := F.cov x o e (.inr ⟨u, q⟩) (fly_out F.fly)
    rw [F.fly.2.1] at this
    cases this
end
section
variable {X : Cx} {pins : List (Addr × Obj)} {σ : St} {H H' : Hp} {s s' : Shared} {x D : Addr} {a0 : Value} {B h2 : Heap}
end
section
variable {P : Program} {w : World} {K : PySem.W.Frag} {mg : Str → Option Value} {base : Heap} {N : List Str} {qual : Str} {scope : Scope} {f : Addr} {cdv : Value} {A : Around} {outer : List Env} {s0 : Shared} {H0 : Hp} {E : XK}
end
section
variable {P : Program} {w : World} {K : PySem.W.Frag} {mg : Str → Option Value} {base : Heap}
end
end L2

set_option Elab.async false
set_option linter.all false
set_option maxRecDepth 100000
set_option maxHeartbeats 4000000
namespace L2
open PySem PySem.Spec PyProof.Rows

/-! ### an own exception is caught -/
/-- what a class must have to be named behind except -/
structure XHd (K : PySem.W.Frag) (C : Addr) : Prop where
  isc : (PySem.W.clsIn K C).isSome = true
  ty : PySem.W.typeIn K (.ref C) = some (.type "type")
  mb : PySem.W.mroIn K C (.type "BaseException") = some true
/-- within the except suite that holds the exception at x -/
def Cx.inX (X : Cx) (x : Addr) : Cx := { X with A := X.A.mark (some (.ref x)), calm := false, xe := fun _ _ => False }
section
variable {X : Cx} {pins : List (Addr × Obj)} {σ : St} {H H' H1 : Hp} {s s' s1 : Shared} {x D C : Addr} {a0 : Value} {B h2 : Heap}
theorem Inv.inX (I : Inv X pins σ H s) (x : Addr) : Inv (X.inX x) pins σ H s :=
  ⟨⟨I.ok.mod, I.ok.kind, I.ok.glob, I.ok.blt, I.ok.above, I.ok.inj, I.ok.has, I.ok.cab, fun z => absurd (show false = true from z) Bool.false_ne_true, I.ok.frames, I.ok.stk, I.ok.exf, I.ok.bs, I.ok.bsz, I.ok.noex, I.ok.exfs, I.ok.funs, I.ok.frf⟩,
    I.os, I.bare, I.base, I.loc, I.cell, I.free, I.freeC, I.pin, I.hok, I.len⟩
end
end L2

set_option Elab.async false
set_option linter.all false
set_option maxRecDepth 100000
set_option maxHeartbeats 4000000
namespace L2
open PySem PySem.Spec PyProof.Rows

section
variable {X : Cx} {pins : List (Addr × Obj)} {σ : St} {H H' H1 : Hp} {s s' s1 : Shared} {x D C : Addr} {a0 : Value} {B h2 : Heap} {cn en : Str} {ie : Nat} {b₀ : Stmt} {suite : List Stmt} {cp hp : Pos} {ts : TS} {DE : Ends}
end
section
variable {X : Cx} {k ie : Nat} {f C : Addr} {fd : FuncData} {ps : List Str} {sp : Sp} {dvs : List V} {ds : List Value} {fx cn en : Str} {p pos p2 cp hp tp : Pos} {e : Expr} {es : List Expr} {t : TA} {b₀ : Stmt} {suite : List Stmt} {ts : TS}
end

/-! ### isinstance of such a one -/
def TyX (K : PySem.W.Frag) (H : Hp) (x : V) (t : Value) : Prop := TyOf K H x t ∨ ∃ a D φ, x = .ref a ∧ t = .ref D ∧ XCls K D ∧ H a = some (.ext φ) ∧ ∀ h, φ h → XAt a D h
section
variable {X : Cx}
open PySem.W in
theorem kit_ofX {pins : List (Addr × Obj)} {σ : St} {H : Hp} {s : Shared} {x : V} {u t : Value} (I : Inv X pins σ H s) (rx : RelV x u) (ty : TyX X.K H x t) :
    ∃ Hh : Heap → Prop, KitX X.K u t Hh ∧ Hh s.heap ∧ u ≠ .builtin "__main__.__loader__#opaque" := by
  rcases ty with ty | ⟨a, D, φ, rfl, rfl, c, e, hφ⟩
  · exact kit_of I rx ty
  · cases (show u = Value.ref a from rx)
    exact ⟨_, kitx_exc c, hφ _ (I.hok a _ e).1, fun z => nomatch z⟩
end
end L2

set_option Elab.async false
set_option linter.all false
set_option maxRecDepth 100000
set_option maxHeartbeats 4000000
namespace L2
open PySem PySem.Spec PyProof.Rows
section
variable {prog : Program} {w : World} {A : Around} {E : Value → Shared → Prop} {h : Heap} {g : Array GenState} {d : Drawn} {t : Nat} {os : OsState} {a D dx : Addr} {o : Obj} {vs : Array Value} {cd : ClassData} {K : PySem.W.Frag} {name : Str} {mA : Str → Option Value} {v : Value}
/-! setting -/
abbrev bmV : List Value := [.type "ValueError", .type "Exception", .type "BaseException", .type "object"]
def isRf : Value → Bool
  | .ref _ => true
  | _ => false
def vTail (l : List Value) : Bool := l.dropWhile isRf == bmV
/-- what a class must have that its instances take the attribute name -/
structure XSet (K : PySem.W.Frag) (D : Addr) (name : Str) (cd : ClassData) : Prop where
  k : PySem.W.clsIn K D = some cd
  dct : cd.hasDict = true
  mro : vTail cd.mro = true
  mo : PySem.W.mroIn K D (.type "object") = some true
  sa : PySem.W.findIn K (.ref D) "__setattr__" = some (some (.builtin "object.__setattr__"))
  na : PySem.W.findIn K (.ref D) name = some none
end

/-! making one whose class has its own __init__ -/
section
variable {prog : Program} {w : World} {A : Around} {E : Value → Shared → Prop} {h : Heap} {g : Array GenState} {d : Drawn} {t : Nat} {os : OsState}
variable {nm q : Str} {C N fI : Addr} {bs bm bmB : List Value} {hdct : Bool} {sn : List Str} {sub : List Value} {ab : Bool} {col : Option Bool} {dd : Option Addr} {k0 k1 k2 k3 k5 : Option Value} {B newId initId : String} {mN : Str → Option Value} {rest : List Value} {oI : Obj}
end
end L2

set_option Elab.async false
set_option linter.all false
set_option maxRecDepth 100000
set_option maxHeartbeats 4000000
namespace L2
open PySem PySem.Spec PyProof.Rows

/-! ### exceptions as values: made, their attributes -/
def XD0 (a D : Addr) : Heap → Prop := fun h => ∃ o vs, h.get? a = some o ∧ o.cls = .ref D ∧ o.data = .fields vs ∧ o.dict = none ∧ vs[1]? = some .none
def XD1 (a D dx : Addr) : Heap → Prop := fun h => ∃ o vs, h.get? a = some o ∧ o.cls = .ref D ∧ o.data = .fields vs ∧ o.dict = some dx ∧ vs[1]? = some .none
def XDct (dx : Addr) (fs : List (Str × V)) : Heap → Prop := fun h => ∃ mA, h.Ns1 dx mA ∧ ∀ f, RelO (fs.lookup f) (mA f)
theorem XD0.at {a D : Addr} {h : Heap} (x : XD0 a D h) : XAt a D h := let ⟨o, _, e, c, _⟩ := x; ⟨o, e, c⟩
theorem XD1.at {a D dx : Addr} {h : Heap} (x : XD1 a D dx h) : XAt a D h := let ⟨o, _, e, c, _⟩ := x; ⟨o, e, c⟩
section
variable {P : Program} {w : World} {H : Hp} {h : Heap} {a D dx : Addr} {fs : List (Str × V)}
theorem XD0.ok (x : XD0 a D h) : ObjOk P w H h a (.ext (XD0 a D)) := ⟨x, let ⟨o, _, e, _⟩ := x; ⟨o, e⟩, fun _ _ ⟨o, vs, e, r⟩ k => ⟨o, vs, k o e, r⟩⟩
theorem XD1.ok (x : XD1 a D dx h) : ObjOk P w H h a (.ext (XD1 a D dx)) := ⟨x, let ⟨o, _, e, _⟩ := x; ⟨o, e⟩, fun _ _ ⟨o, vs, e, r⟩ k => ⟨o, vs, k o e, r⟩⟩
theorem XDct.ok (x : XDct dx fs h) : ObjOk P w H h dx (.ext (XDct dx fs)) := ⟨x, let ⟨_, ⟨o, _, _, e, _⟩, _⟩ := x; ⟨o, e⟩, fun _ _ ⟨mA, n, r⟩ k => ⟨mA, n.at k, r⟩⟩
end
section
variable {X : Cx} {pins : List (Addr × Obj)} {σ : St} {H : Hp} {s : Shared} {h' : Heap} {x dx D : Addr} {φ : Heap → Prop} {ox od : HO}
/-- a new object, tracked -/
theorem Inv.tracked {t' : Nat} (I : Inv X pins σ H s) (k : ∀ b u, s.heap.get? b = some u → h'.get? b = some u) (hn : s.heap.get? x = none) (new : ObjOk X.prog X.w (upd H x ox) h' x ox) : Inv X pins σ (upd H x ox) { s with heap := h', toks := t' } := by
  have hx : H x = none := by
    cases q : H x with
    | none => rfl
    | some u =>
      obtain ⟨o, e⟩ := (I.hok x u q).isObj
      rw [hn] at e
      cases e
  have ne : ∀ b o, s.heap.get? b = some o → b ≠ x := fun b o e z => by rw [z, hn] at e; cases e
  have nh : ∀ b u, H b = some u → b ≠ x := fun b u e z => by rw [z, hx] at e; cases e
  refine I.un ⟨fun b o e _ _ _ => k b o e, fun b o e _ _ _ => ⟨o.slots, k b o e⟩, fun b o e n _ => ?_, fun b o e _ => ⟨o, k b o e⟩, fun b xs e => ?_, fun b o u e => ?_, fun b ps e => ⟨#[], ?_⟩⟩ fun b u e => ?_
  · rw [upd_ne (ne b o e)]; exact n
  · rw [upd_ne (nh b _ e)]; exact e
  · rw [upd_ne (nh b _ e)]; exact e
  · rw [upd_ne (nh b _ e), e]; simp
  · by_cases hb : b = x
    · subst hb
      rw [upd_same] at e
      cases e
      exact new
    · rw [upd_ne hb] at e
      exact (I.hok b u e).stay (fun c v _ q => k c v q) (fun c q => by rw [upd_ne (nh c _ q)]; exact q) fun c xs q => by rw [upd_ne (nh c _ q)]; exact q
end
section
variable {X : Cx} {o e value : Expr} {f : Str} {pos pos' tpos : Pos} {ta tv : TE}
end
end L2

set_option Elab.async false
set_option linter.all false
set_option maxRecDepth 100000
set_option maxHeartbeats 4000000
namespace L2
open PySem PySem.Spec PyProof.Rows

/-! ### own exception classes, read off the text -/
def xIn (K : PySem.W.Frag) (C : Addr) (fI : Option Value) : Bool := match K.lookup C with
  | some ⟨.type "type", _, .cls cd, sl⟩ => (match cd.mro, sl.toList with
    | .ref C' :: bm, [_, _, _, _, some (.builtin n), _] => C' == C && n == "ValueError.__new__" && !cd.hasDel && PySem.W.tailIn K bmV bm && PySem.W.nsOkIn K cd.ns && PySem.W.nsIn K cd.ns "__init__" == some fI
    | _, _ => false)
  | _ => false
structure XObj (h : Heap) (C : Addr) (fI : Option Value) : Prop where
  obj : ∃ bm N nm q bs hdct sn sub ab col dd k0 k1 k2 k3 k5 mN, h.get? C = some (excClassObj nm q C N bs bm hdct sn sub ab col dd k0 k1 k2 k3 k5 "ValueError.__new__") ∧ h.Ns N mN ∧ mN "__init__" = fI ∧ OwnTail h bmV bm
def xcIn (K : PySem.W.Frag) (D : Addr) : Bool := PySem.W.findIn K (.ref D) "__getattribute__" == some (some (.builtin "BaseException.__getattribute__")) && PySem.W.findIn K (.ref D) "__getattr__" == some none &&
  PySem.W.findIn K (.ref D) "__class__" == some (some (.builtin "object.__class__")) && PySem.W.mroIn K D (.type "BaseException") == some true && PySem.W.mroIn K D (.type "object") == some true && (PySem.W.clsIn K D).isSome && PySem.W.typeIn K (.ref D) == some (.type "type")
theorem xc_of {K : PySem.W.Frag} {D : Addr} (h : xcIn K D = true) : XCls K D := by
  unfold xcIn at h
  simp only [Bool.and_eq_true, beq_iff_eq] at h
  obtain ⟨⟨⟨⟨⟨⟨h1, h2⟩, h3⟩, h4⟩, h5⟩, h6⟩, h7⟩ := h
  exact ⟨h1, h2, h3, h4, h5, h6⟩
theorem xh_of {K : PySem.W.Frag} {D : Addr} (h : xcIn K D = true) : XHd K D := by
  unfold xcIn at h
  simp only [Bool.and_eq_true, beq_iff_eq] at h
  obtain ⟨⟨⟨⟨⟨⟨h1, h2⟩, h3⟩, h4⟩, h5⟩, h6⟩, h7⟩ := h
  exact ⟨h6, h7, h4⟩
section
variable {P : Program} {w : World} {K : PySem.W.Frag} {mg : Str → Option Value} {base : Heap} {N : List Str} {qual : Str} {scope : Scope} {f : Addr} {cdv : Value} {A : Around} {outer : List Env} {s0 : Shared} {H0 : Hp} {E : XK}
end

/-! ### C() and C(e, ..) -/
section
variable {X : Cx} {k : Nat} {f C : Addr} {fd : FuncData} {ps : List Str} {sp : Sp} {x : Str} {p pos : Pos} {e : Expr} {es : List Expr} {t : TA}
end
end L2

set_option Elab.async false
set_option linter.all false
set_option maxRecDepth 100000
set_option maxHeartbeats 4000000
namespace L2
open PySem PySem.Spec PyProof.Rows

/-! ### d.setdefault(k, v), in the order of coming -/
section
variable {prog : Program} {w : World} {KT : Type} [DecidableEq KT] {knd : KeyKind prog w KT} {A : Around} {E : Value → Shared → Prop} {s : Shared} {d : Addr} {kvs : List (KT × Value)} {k : KT} {key dflt : Value}
theorem sd_new {Q : Value → Shared → Prop} (hkey : knd.is k key = true) (hm : s.heap.DictOf knd d kvs) (hz : kvs.length ≤ sizeLine) (hno : valueAt kvs k = none)
    (h : ∀ h', h'.DictOf knd d (kvs ++ [(k, dflt)]) → Heap.SameBut d s.heap h' → Q dflt { s with heap := h', toks := s.toks + 1 }) : wpAny (model prog w) A (dictSetDefault d key dflt) Q E s := by
  obtain ⟨ob, en, ep, gob, xob, dob, kob, pob, nob⟩ := hm
  have ez : en.size ≤ sizeLine := by
    have l1 := pob.length
    have l2 : en.toList.length = en.size := by simp
    omega
  have hall : ∀ q ∈ kvs, q.1 ≠ k := fun q hq hqk => by
    unfold valueAt at hno
    rw [Option.map_eq_none_iff, List.find?_eq_none] at hno
    exact hno q hq (by simpa using hqk)
  have fnd : (en.findIdx? fun e => knd.is k e.key) = none := by
    have e1 : (en.findIdx? fun e => knd.is k e.key) = kvs.findIdx? fun q => decide (q.1 = k) := by
      rw [← pob.findIdx k]
      obtain ⟨l⟩ := en
      simp
    rw [e1, List.findIdx?_eq_none_iff]
    intro q hq
    simpa using hall q hq
  unfold dictSetDefault
  refine wpAny_holding (wpAny_bind (knd.pyHash hkey (wpAny_bind (wpAny_dictFind_of (s := { s with toks := s.toks + 1 }) hkey gob dob kob ?_))))
  rw [fnd]
  refine wpAny_bind (wpAny_rule (wpAny_bind (wpAny_updateDictKeys (hz := ez) (s := { s with toks := s.toks + 1 }) gob dob (wpAny_pure (h _ ⟨_, _, ep + 1, Heap.get?_update_self _ gob (Obj.isFreed_of_dict (Obj.data_mapDictKeys dob _)),
    xob.mapDictKeys _, Obj.data_mapDictKeys dob _, kob.push hkey _, ?_, ?_⟩ (Heap.SameBut.update ..))))))
  · have ap := pob.append hkey (knd.hash k) dflt
    obtain ⟨l⟩ := en
    simpa using ap
  · rw [List.map_append, List.nodup_append]
    refine ⟨nob, by simp, fun a ha b hb => ?_⟩
    obtain ⟨q, hq, rfl⟩ := List.mem_map.mp ha
    have hb' : b = k := by simpa using hb
    rw [hb']
    exact hall q hq
theorem sd_meets (hkey : knd.is k key = true) (hd : (d == sysModules) = false) (dflt : Value) : MeetsIn prog w (Builtin.«dict.setdefault» ⟨[.ref d, key, dflt], []⟩) (fun _ R s => ∃ kvs, s.heap.DictOf knd d kvs ∧ kvs.length ≤ sizeLine ∧
    (∀ v, valueAt kvs k = some v → R (.ok (.ret v)) { s with toks := s.toks + 1 }) ∧ (valueAt kvs k = none → ∀ h', h'.DictOf knd d (kvs ++ [(k, dflt)]) → Heap.SameBut d s.heap h' → R (.ok (.ret dflt)) { s with heap := h', toks := s.toks + 1 })) :=
  .of_wp fun A R s ⟨kvs, hm, hz, h1, h2⟩ => by
    have le : s.heap.DictLe d sizeLine := by
      obtain ⟨ob, en, ep, gob, xob, dob, kob, pob, nob⟩ := id hm
      intro o2 e2 p2 g2 d2
      rw [gob] at g2
      cases g2
      rw [dob] at d2
      cases d2
      have l1 := pob.length
      have l2 : en.toList.length = en.size := by simp
      omega
    unfold Builtin.«dict.setdefault»
    refine wpAny_bind ?_
    unfold Builtin.Dict.keyAndDefault
    refine wpAny_bind (wpAny_notOrdered_dict hm.typeIs (show wpAny _ _ (pure (d, key, some dflt)) _ _ s from wpAny_pure ?_))
    show wpAny _ _ (if (d == sysModules) = true then _ else (dictSetDefault d key dflt >>= _)) _ _ s
    rw [if_neg (by rw [hd]; exact Bool.false_ne_true)]
    cases hv : valueAt kvs k with
    | some v => exact wpAny_bind (wpAny_dictSetDefault_of (hz := le) hkey hm.mapOf (fun v' hv' => wpAny_pure ⟨v', rfl, h1 v' hv'⟩) fun hn => absurd hn (by rw [hv]; exact fun z => nomatch z))
    | none => exact wpAny_bind (sd_new hkey hm hz hv fun h' m' s' => wpAny_pure ⟨dflt, rfl, h2 hv h' m' s'⟩)
end
def rSetD : V → List V → Hp → VK → Prop := fun x vs H Q => ∃ (a : Addr) (kvs : List (Key × V)) (k : Key) (v : V), x = .ref a ∧ vs = [kV k, v] ∧ H a = some (.dK kvs) ∧ kvs.length < sizeLine ∧
  (∀ y, valV kvs k = some y → Q y H) ∧ (valV kvs k = none → Q v (upd H a (.dK (kvs ++ [(k, v)]))))
section
variable {X : Cx}
theorem mt_setD : MtR X "dict.setdefault" rSetD := by
  intro pins s σ H x vs v us Q I rx rv h
  obtain ⟨a, kvs, k, y, rfl, rfl, e, l, h1, h2⟩ := h
  cases rx
  obtain ⟨u1, u2, rfl, r1, r2⟩ := vals2 rv
  obtain ⟨z, hd, vs, rel, dd⟩ := dk_of I.hok e
  have hz : vs.length ≤ sizeLine := by rw [← rel.length]; exact z
  refine call_meetsIn PySem.F.slot_dict_setdefault dd.typeIs PySem.F.entry_dict_setdefault (PySem.F.args_dict_setdefault_3 _ _ _) (sd_meets (knd := mixKind X.prog X.w) (kV_is r1) hd u2) ⟨vs, dd, hz, fun v' hv' => ?_, fun hn h' m' s' => ?_⟩
  · have := rel.val k
    rw [hv'] at this
    cases q : valV kvs k with
    | none => rw [q] at this; exact False.elim this
    | some y' =>
      rw [q] at this
      exact ⟨y', H, I.tok _, this, h1 y' q⟩
  · have := rel.val k
    rw [hn] at this
    have q : valV kvs k = none := by
      cases q : valV kvs k with
      | none => rfl
      | some y' => rw [q] at this; exact False.elim this
    have e2 : KV (kvs ++ [(k, y)]) (vs ++ [(k, u2)]) := by
      have p := rel.put k r2
      have s1 : stored vs k u2 = vs ++ [(k, u2)] := by
        unfold stored
        rw [if_neg]
        intro w
        have w' := (rel.any k).trans w
        rw [valV_any, q] at w'
        cases w'
      rw [putK_new y q, s1] at p
      exact p
    have hl : (kvs ++ [(k, y)]).length ≤ sizeLine := by rw [List.length_append]; exact l
    have he : ∃ ob, h'.get? a = some ob := let ⟨ob, _, _, hq, _⟩ := m'; ⟨ob, hq⟩
    exact ⟨y, _, d_write I (by rw [e]; exact True.intro) s' he (dk_new hl hd e2 m'), r2, h2 q⟩
end
end L2

set_option Elab.async false
set_option linter.all false
set_option maxRecDepth 100000
set_option maxHeartbeats 4000000
namespace L2
open PySem PySem.Spec PyProof.Rows

/-! ### list(d.items()) -/
def IV (v d : Addr) : Heap → Prop := fun h => h.IsItemsView v d
def rItems : V → List V → Hp → VK → Prop := fun x vs H Q => ∃ (d : Addr) (kvs : List (Key × V)), x = .ref d ∧ vs = [] ∧ H d = some (.dK kvs) ∧ ∀ v, H v = none → Q (.ref v) (upd H v (.ext (IV v d)))
section
variable {X : Cx} {o e : Expr} {es : List Expr} {to : TE} {t : TA} {apos cpos : Pos}
theorem mt_items : MtR X "dict.items" rItems := by
  intro pins s σ H x vs v us Q I rx rv h
  obtain ⟨d, kvs, rfl, rfl, e, q⟩ := h
  cases rx
  cases rv
  obtain ⟨z, hd, ws, rel, dd⟩ := dk_of I.hok e
  refine call_meetsIn PySem.F.slot_dict_items dd.typeIs PySem.F.entry_dict_items (PySem.F.args_dict_items_1 _) (meets_dict_items (mixKind X.prog X.w) d hd) ⟨⟨ws, dd⟩, ?_⟩
  refine ⟨.ref s.heap.objs.size, _, I.laid (t' := s.toks) (a := s.heap.objs.size) (o := .ext (IV s.heap.objs.size d)) (fun b u e => Heap.get?_push_of_some _ e) (Nat.le_refl _) ?_, rfl, q _ (I.hok.fresh (Nat.le_refl _))⟩
  have g : (s.heap.push { cls := .type "dict_items", data := .fields #[.ref d] }).get? s.heap.objs.size = some { cls := .type "dict_items", data := .fields #[.ref d] } := Heap.get?_push_size _ rfl
  exact ⟨⟨_, g, rfl, rfl⟩, ⟨_, g⟩, fun h1 h2 ⟨ob, e1, r⟩ k => ⟨ob, k ob e1, r⟩⟩
end
section
variable {X : Cx} {o e : Expr} {es : List Expr} {to : TE} {t : TA} {apos cpos : Pos}
theorem pe_m.setdefault (ho : PE X o to) (ha : PA X (e :: es) t) (hbase : attributeBase o "setdefault" X.env (eval o X.env) = eval o X.env := by rfl)
    (hfew : ((backTo cpos (starEach (e :: es) X.env)).all (fun x => !x.1) && (backToKw cpos (keywordEach [] X.env)).all (fun x => x.1.isSome) && decide ((e :: es).length + ([] : List Keyword).length + (if ([] : List Keyword).isEmpty then 0 else 1) < 30)) = true := by rfl)
    (hline : (apos.endLine == cpos.line) = true := by rfl) (hs : starEach (e :: es) X.env = (false, eval e X.env) :: starEach es X.env := by rfl) (hplain : (backTo cpos (starEach es X.env)).any (·.1) = false := by rfl) :
    PE X (.Call (.Attribute o "setdefault" apos) (e :: es) [] cpos) (tBM X.K "dict" rSetD to t) := pe_bm F.plainAttrs_dict F.slot_dict_setdefault F.type_dict_setdefault mt_setD ho ha hbase hfew hline hs hplain
theorem pe_m.items (ho : PE X o to) (hbase : attributeBase o "items" X.env (eval o X.env) = eval o X.env := by rfl) (hline : (apos.endLine == cpos.line) = true := by rfl) :
    PE X (.Call (.Attribute o "items" apos) [] [] cpos) (tBM0 X.K "dict" rItems to) := pe_bm0 F.plainAttrs_dict F.slot_dict_items F.type_dict_items mt_items ho hbase hline
end
end L2

set_option Elab.async false
set_option linter.all false
set_option maxRecDepth 100000
set_option maxHeartbeats 4000000
namespace L2
open PySem PySem.Spec PyProof.Rows
section
variable {X : Cx}
end
end L2

set_option Elab.async false
set_option linter.all false
set_option maxRecDepth 100000
set_option maxHeartbeats 4000000
namespace L2
open PySem PySem.Spec PyProof.Rows
section
variable {M : Model} {A : Around} {E : Value → Shared → Prop} {s : Shared} {env : Env} {K : PySem.W.Frag} {D : Addr}
end
end L2

set_option Elab.async false
set_option linter.all false
set_option maxRecDepth 100000
set_option maxHeartbeats 4000000
namespace L2
open PySem PySem.Spec PyProof.Rows

/-! ### an exception in flight, its dict kept in view -/
/-- the exception at e, its class, its dict, its newest trace at T, that trace's mark -/
def Fx (h : Heap) (e : Addr) (cls : Value) (dct : Option Addr) (fl : Value) (T : Addr) : Prop :=
  ∃ ob fs oT ts, h.get? e = some ob ∧ ob.cls = cls ∧ ob.dict = dct ∧ ob.data = .fields fs ∧ fs[1]? = some (.ref T) ∧ T ≠ e ∧ h.get? T = some oT ∧ oT.data = .fields ts ∧ ts[3]? = some fl
section
variable {M : Model} {A : Around} {E : Value → Shared → Prop} {s : Shared} {base : Heap} {env : Env} {outer : List Env} {L e : Addr} {ob : Obj} {fs : Array Value} {head : Value} {more : Bool}
end
end L2

set_option Elab.async false
set_option linter.all false
set_option maxRecDepth 100000
set_option maxHeartbeats 4000000
namespace L2
open PySem PySem.Spec PyProof.Rows
section
variable {M : Model} {A : Around} {E : Value → Shared → Prop} {s : Shared} {base : Heap} {env : Env} {outer : List Env} {L e T : Addr} {ob : Obj} {fs : Array Value} {cls fl : Value} {dct : Option Addr}
/-- what a walk of the traces leaves: of all but the things at xs the objects, of the frames up to slots -/
def KeptBut (xs fr : List Addr) (h h' : Heap) : Prop :=
  (∀ b o, b ∉ xs → b ∉ fr → h.get? b = some o → h'.get? b = some o) ∧ ∀ b o, b ∉ xs → h.get? b = some o → ∃ sl, h'.get? b = some { o with slots := sl }
theorem KeptBut.trans {xs ys fr : List Addr} {h h1 h2 : Heap} (a : KeptBut xs fr h h1) (b : KeptBut ys fr h1 h2) : KeptBut (xs ++ ys) fr h h2 :=
  ⟨fun c o n f g => b.1 c o (fun z => n (List.mem_append_right _ z)) f (a.1 c o (fun z => n (List.mem_append_left _ z)) f g), fun c o n g => by
    obtain ⟨s1, g1⟩ := a.2 c o (fun z => n (List.mem_append_left _ z)) g
    obtain ⟨s2, g2⟩ := b.2 c _ (fun z => n (List.mem_append_right _ z)) g1
    exact ⟨s2, g2⟩⟩
end
end L2

set_option Elab.async false
set_option linter.all false
set_option maxRecDepth 100000
set_option maxHeartbeats 4000000
namespace L2
open PySem PySem.Spec PyProof.Rows
/-! ### an own exception with attributes leaves -/
/-- the exception at x, of the class at D, with the dict dct, flies; it and its newest trace are new and untracked -/
structure XG (P : Program) (w : World) (outer : List Env) (H : Hp) (s : Shared) (x D : Addr) (dct : Option Addr) (T : Addr) (H' : Hp) (s' : Shared) : Prop where
  os : s'.os = s.os
  bare : AllBare s'.gens
  un : Un (frs outer) [] H H' s.heap s'.heap
  hok : HOk P w H' s'.heap
  fx : Fx s'.heap x (.ref D) dct .none T
  nx : s.heap.get? x = none
  nT : s.heap.get? T = none
  ux : H' x = none
  uT : H' T = none
def CXG (P : Program) (w : World) : CXT := fun outer H s E e s' => ∃ x D dct T H', e = .ref x ∧ XG P w outer H s x D dct T H' s' ∧ E (.ref D) dct H'
section
variable {P : Program} {w : World} {K : PySem.W.Frag} {mg : Str → Option Value} {base : Heap} {N : List Str} {qual : Str} {scope : Scope} {f : Addr} {cdv : Value} {A : Around} {outer : List Env} {s0 : Shared} {H0 : Hp} {E : XK}
end
section
variable {P : Program} {w : World} {K : PySem.W.Frag} {mg : Str → Option Value} {base : Heap}
end
end L2

set_option Elab.async false
set_option linter.all false
set_option maxRecDepth 100000
set_option maxHeartbeats 4000000
namespace L2
open PySem PySem.Spec PyProof.Rows
/-! ### an own exception with attributes is raised -/
/-- the abstract heap without what stands at x -/
def untr (H : Hp) (x : Addr) : Hp := fun b => if b = x then none else H b
theorem untr_ne {H : Hp} {x b : Addr} (h : b ≠ x) : untr H x b = H b := by unfold untr; rw [if_neg h]
theorem untr_same {H : Hp} {x : Addr} : untr H x x = none := by unfold untr; rw [if_pos rfl]
theorem Inv.untr {X : Cx} {pins : List (Addr × Obj)} {σ : St} {H : Hp} {s : Shared} {x : Addr} {φ : Heap → Prop} (I : Inv X pins σ H s) (hx : H x = some (.ext φ)) : Inv X pins σ (untr H x) s := by
  have nt : ∀ b u, H b = some u → (∀ ψ, u ≠ .ext ψ) → b ≠ x := fun b u e n z => by
    rw [z, hx] at e
    cases e
    exact n φ rfl
  have fr : ∀ b, H b = none → L2.untr H x b = none := fun b e => by
    by_cases z : b = x
    · rw [z]; exact untr_same
    · rw [untr_ne z]; exact e
  have hok : HOk X.prog X.w (L2.untr H x) s.heap := fun b u e => by
    by_cases z : b = x
    · rw [z, untr_same] at e
      cases e
    · rw [untr_ne z] at e
      refine (I.hok b u e).stay (fun _ _ _ q => q) (fun c q => ?_) fun c xs q => ?_
      · rw [untr_ne (nt c _ q fun _ z => nomatch z)]; exact q
      · rw [untr_ne (nt c _ q fun _ z => nomatch z)]; exact q
  exact I.un (t' := s.toks) (h' := s.heap) ⟨fun b o e _ _ _ => e, fun b o e _ _ _ => ⟨o.slots, e⟩, fun b o e n _ => fr b n, fun b o e _ => ⟨o, e⟩, fun b xs e => by rw [untr_ne (nt b _ e fun _ z => nomatch z)]; exact e,
    fun b o u e => by rw [untr_ne (nt b _ e fun _ z => nomatch z)]; exact e, fun b ps e => ⟨#[], by rw [untr_ne (nt b _ e fun _ z => nomatch z), e]; simp⟩⟩ hok
section
variable {P : Program} {w : World} {K : PySem.W.Frag} {mg : Str → Option Value} {base : Heap} {N : List Str} {qual : Str} {scope : Scope} {f : Addr} {cdv : Value} {A : Around} {outer : List Env} {s0 : Shared} {H0 : Hp} {E : XK}
end
end L2

set_option Elab.async false
set_option linter.all false
set_option maxRecDepth 100000
set_option maxHeartbeats 4000000
namespace L2
open PySem PySem.Spec PyProof.Rows
/-! ### an own exception with attributes is caught -/
def XCt (a D : Addr) (dct : Option Addr) : Heap → Prop := fun h => ∃ o vs, h.get? a = some o ∧ o.cls = .ref D ∧ o.data = .fields vs ∧ o.dict = dct
theorem XCt.at {a D : Addr} {dct : Option Addr} {h : Heap} (x : XCt a D dct h) : XAt a D h := let ⟨o, _, e, c, _⟩ := x; ⟨o, e, c⟩
section
variable {X : Cx} {pins : List (Addr × Obj)} {σ : St} {H H' : Hp} {s s' : Shared} {x D C T T2 : Addr} {dct : Option Addr} {fl : Value} {h2 : Heap} {xs : List Addr}
theorem landG (I : Inv X pins σ H s) (G : XG X.prog X.w X.stack H s x D dct T H' s') (k : KeptBut xs (frs X.stack) s'.heap h2) (hxs : ∀ b ∈ xs, s.heap.get? b = none ∧ H' b = none ∧ b ∉ frs X.stack) (fx : Fx h2 x (.ref D) dct fl T2) :
    Inv X pins σ (upd H' x (.ext (XCt x D dct))) { s' with heap := h2 } := by
  have hnx : ∀ b u, H' b = some u → b ≠ x := fun b u e z => by rw [z, G.ux] at e; cases e
  have trk : ∀ b u, H' b = some u → b ∉ frs X.stack := fun b u e hb => by
    obtain ⟨_, o, ho, _⟩ := I.stack.mem hb
    rw [G.un.free b o ho (I.stkFree b hb) (by simp)] at e
    cases e
  have u2 : Un (frs X.stack) [] H H' s.heap h2 := un_more G.un (fun b o h0 hf e => k.1 b o (fun z => by obtain ⟨o0, e0⟩ := h0; rw [(hxs b z).1] at e0; cases e0) hf e) (fun b o hf e => k.2 b o (fun z => (hxs b z).2.2 hf) e)
  have hk2 : HOk X.prog X.w H' h2 := hok_more G.hok (fun b o u hu e => k.1 b o (fun z => by rw [(hxs b z).2.1] at hu; cases hu) (trk b u hu) e)
  obtain ⟨ob, fs, _, _, gx, gc, gd, gf, _⟩ := fx
  refine I.call' (ch := []) (s' := { s' with heap := h2 }) G.os ⟨u2.keep, u2.slot, fun b o e n hx' => ?_, u2.there, fun b xs e => ?_, fun b o u e => ?_, fun b ps e => ?_⟩ (fun a o e => ?_) G.bare (by simp)
  · have : b ≠ x := fun z => by rw [z, G.nx] at e; cases e
    rw [upd_ne this]
    exact u2.free b o e n hx'
  · have e' := u2.tups b xs e
    rw [upd_ne (hnx b _ e')]
    exact e'
  · have e' := u2.frzs b o u e
    rw [upd_ne (hnx b _ e')]
    exact e'
  · obtain ⟨more, e'⟩ := u2.tbls b ps e
    exact ⟨more, by rw [upd_ne (hnx b _ e')]; exact e'⟩
  · by_cases ha : a = x
    · subst ha
      rw [upd_same] at e
      cases e
      exact ⟨⟨ob, fs, gx, gc, gf, gd⟩, ⟨ob, gx⟩, fun h1 h3 ⟨o, vs, e1, r⟩ kk => ⟨o, vs, kk o e1, r⟩⟩
    · rw [upd_ne ha] at e
      exact (hk2 a o e).stay (fun _ _ _ q => q) (fun b q => by rw [upd_ne (hnx b _ q)]; exact q) fun b xs q => by rw [upd_ne (hnx b _ q)]; exact q
end
section
variable {X : Cx} {pins : List (Addr × Obj)} {σ : St} {H H' : Hp} {s s' : Shared} {x D C T : Addr} {dct : Option Addr} {cn en : Str} {ie : Nat} {b₀ : Stmt} {suite : List Stmt} {cp hp : Pos} {ts : TS} {DE : Ends}
end
end L2

set_option Elab.async false
set_option linter.all false
set_option maxRecDepth 100000
set_option maxHeartbeats 4000000
namespace L2
open PySem PySem.Spec PyProof.Rows
section
variable {X : Cx} {k ie : Nat} {f C : Addr} {fd : FuncData} {ps : List Str} {sp : Sp} {dvs : List V} {ds : List Value} {fx cn en : Str} {p pos p2 cp hp tp : Pos} {e : Expr} {es : List Expr} {t : TA} {b₀ : Stmt} {suite : List Stmt} {ts : TS}
end
end L2

set_option linter.all false
namespace FrM
theorem gcd_step (x y : Int) : Int.gcd y (x % y) = Int.gcd x y := by
  have e : x = x % y + y * (x / y) := (Int.emod_add_mul_ediv x y).symm
  rw [Int.gcd_comm x y]
  conv => rhs; rw [e]
  rw [Int.gcd_add_mul_left_right]
def Bt (n : Nat) (i : Int) : Prop := i.natAbs < 2 ^ n
theorem Bt.mono {m n : Nat} {i : Int} (h : Bt m i) (l : m ≤ n) : Bt n i := Nat.lt_of_lt_of_le h (Nat.pow_le_pow_right (by decide) l)
theorem Bt.le {n : Nat} {i j : Int} (h : Bt n i) (l : j.natAbs ≤ i.natAbs) : Bt n j := Nat.lt_of_le_of_lt l h
theorem Bt.sub {n : Nat} {i j : Int} (h : Bt n i) (h' : Bt n j) : Bt (n + 1) (i - j) := by
  unfold Bt at *
  rw [Nat.pow_succ]
  omega
theorem Bt.neg {n : Nat} {i : Int} (h : Bt n i) : Bt n (-i) := by
  unfold Bt at *
  omega
/-- what is told of a fraction -/
structure Low (T B t b : Int) : Prop where
  pos : 1 ≤ b
  cop : Int.gcd t b = 1
  eq : t * B = T * b
theorem low (t b : Int) (hb : 0 < b) : 0 < (Int.gcd t b : Int) ∧ (Int.gcd t b : Int) ≤ b ∧ Low t b (t / (Int.gcd t b : Int)) (b / (Int.gcd t b : Int)) ∧ (t / (Int.gcd t b : Int)).natAbs ≤ t.natAbs ∧ (b / (Int.gcd t b : Int)).natAbs ≤ b.natAbs := by
  have hg : 0 < Int.gcd t b := Int.gcd_pos_iff.mpr (.inr (by omega))
  have hgi : 0 < (Int.gcd t b : Int) := by omega
  have d1 := Int.gcd_dvd_left t b
  have d2 := Int.gcd_dvd_right t b
  have e1 := Int.ediv_mul_cancel d1
  have e2 := Int.ediv_mul_cancel d2
  have hle : (Int.gcd t b : Int) ≤ b := Int.le_of_dvd hb d2
  refine ⟨hgi, hle, ⟨?_, Int.gcd_ediv_gcd_ediv_gcd hg, ?_⟩, ?_, ?_⟩
  · have := Int.ediv_pos_of_pos_of_dvd hb (by omega) d2
    omega
  · rw [← Int.mul_ediv_assoc _ d2, Int.mul_comm, ← Int.mul_ediv_assoc _ d1, Int.mul_comm]
  · have := congrArg Int.natAbs e1
    rw [Int.natAbs_mul] at this
    rw [← this]
    exact Nat.le_mul_of_pos_right _ (by simpa using hg)
  · have := congrArg Int.natAbs e2
    rw [Int.natAbs_mul] at this
    rw [← this]
    exact Nat.le_mul_of_pos_right _ (by simpa using hg)
theorem Low.neg {T B t b : Int} (h : Low (-T) (-B) t b) : Low T B t b := ⟨h.pos, h.cop, by have := h.eq; rw [Int.mul_neg, Int.neg_mul] at this; omega⟩
theorem dvd_cop {b t b' : Int} (c : Int.gcd t b = 1) (h : b ∣ t * b') : b ∣ b' := by
  rw [← Int.natAbs_dvd_natAbs] at *
  rw [Int.natAbs_mul] at h
  exact Nat.Coprime.dvd_of_dvd_mul_left (by rw [Nat.coprime_comm]; exact c) h
/-- two fractions in lowest terms that are equal across are equal -/
theorem Low.uniq {T B t b t' b' : Int} (hB : B ≠ 0) (h : Low T B t b) (h' : Low T B t' b') : t = t' ∧ b = b' := by
  have e : t * b' = t' * b := by
    have : (t * b') * B = (t' * b) * B := by
      rw [Int.mul_assoc, Int.mul_comm b' B, ← Int.mul_assoc, h.eq, Int.mul_assoc t' b B, Int.mul_comm b B, ← Int.mul_assoc, h'.eq, Int.mul_assoc, Int.mul_assoc, Int.mul_comm b b']
    exact Int.eq_of_mul_eq_mul_right hB this
  have d1 : b ∣ b' := by
    have : b ∣ t * b' := ⟨t', by rw [e, Int.mul_comm]⟩
    exact dvd_cop h.cop this
  have d2 : b' ∣ b := by
    have : b' ∣ t' * b := ⟨t, by rw [← e, Int.mul_comm]⟩
    exact dvd_cop h'.cop this
  have eb : b = b' := Int.dvd_antisymm (by have := h.pos; omega) (by have := h'.pos; omega) d1 d2
  refine ⟨?_, eb⟩
  rw [eb] at e
  exact Int.eq_of_mul_eq_mul_right (by have := h'.pos; omega) e
end FrM

set_option linter.all false
set_option maxRecDepth 100000
namespace L2
open PySem PySem.Spec PyProof.Rows FrM
section
variable {X : Cx}
/-! ### products and quotients of great numbers -/
def CMulB (i j : Int) : Prop := (Bt 8000 i ∧ Bt 8000 j) ∨ CMul i j
theorem CMulB.ok {i j : Int} (h : CMulB i j) : IntMulOk i j := by
  rcases h with ⟨h1, h2⟩ | h
  · exact IntMulOk.of_le (m := 8000) (n := 8000) (intBits_le_iff.mpr h1) (intBits_le_iff.mpr h2) (by decide)
  · exact h.ok
def CDivB (i j : Int) : Prop := 0 < j ∧ Bt 8000 j
theorem CDivB.no {i j : Int} (h : CDivB i j) : Builtin.divisionGoesByPylong i j = false := by
  refine PyProof.noPylong_of_log2 ?_
  have h2 : j.natAbs < 2 ^ 8000 := h.2
  by_cases h0 : j.natAbs = 0
  · rw [h0]; decide +kernel
  · have : j.natAbs.log2 < 8000 := (Nat.log2_lt h0).mpr h2
    omega
theorem op_mulB : OpR X (binaryOp .Mult) (rI CMulB fun i j => .int (i * j)) := opI fun _ _ _ _ _ _ _ hc q => mul_int q hc.ok
theorem op_fdivB : OpR X (binaryOp .FloorDiv) (rI CDivB fun i j => .int (i / j)) := opI fun i j _ _ _ _ _ hc q => by
  have h1 : (0 : Int) < j := hc.1
  exact floordiv_int (by omega) (by rw [Int.fdiv_eq_ediv_of_nonneg i (by omega)]; exact q) (.inl hc.no)
theorem o_mulB : OpR X (binaryOp .Mult) (rIC CMulB fun i j => .int (i * j)) := op_mulB.ic
theorem o_fdivB : OpR X (binaryOp .FloorDiv) (rIC CDivB fun i j => .int (i / j)) := op_fdivB.ic
theorem clB {i j : Int} (h : -(2 ^ 64) < i := by decide) (h2 : i < 2 ^ 64 := by decide) : CMulB i j := .inr (cl h h2)
theorem crB {i j : Int} (h : -(2 ^ 64) < j := by decide) (h2 : j < 2 ^ 64 := by decide) : CMulB i j := .inr (cr h h2)
theorem cdB {i j : Int} {n : Nat} (h : 0 < j) (h' : Bt n j) (hn : n ≤ 8000 := by decide) : CDivB i j := ⟨h, h'.mono hn⟩
theorem bt_abs : bootBuiltins "abs" = some (.builtin "abs") := by decide +kernel
end
end L2

set_option Elab.async false
set_option linter.all false
set_option maxRecDepth 100000
set_option maxHeartbeats 4000000
namespace L2
open PySem PySem.Spec PyProof.Rows
/-! ### long rows of arguments (the layer's own rule is slow for them) -/
def isSt : Expr → Bool
  | .Starred .. => true
  | _ => false
theorem star_cons {e : Expr} {es : List Expr} {env : Env} (h : isSt e = false) : starEach (e :: es) env = (false, eval e env) :: starEach es env := by
  cases e <;> first | rfl | cases h
theorem pa_consQ {X : Cx} {e : Expr} {es : List Expr} {te : TE} {t : TA} (ha : PE X e te) (hr : PA X es t) (h : isSt e = false := by rfl) : PA X (e :: es) (tCons te t) := pa_cons ha hr (star_cons h)
/-- a text's last return of one of twelve told things; the judgment is kept whole (unfolding it is slow) -/
@[irreducible] def PSq (X : Cx) (sts : List Stmt) (t : TS) : Prop := PSs X sts t
theorem pss_consI {X : Cx} {st : Stmt} {sts : List Stmt} {t u : TS} (h1 : PS X st t) (h2 : PSq X sts u) : PSs X (st :: sts) (tSeq t u) := by
  unfold PSq at h2
  exact pss_cons h1 h2
/-- two promises of one def -/
theorem FnOk.or {P : Program} {w : World} {K : PySem.W.Frag} {mg : Str → Option Value} {base : Heap} {CX : CXT} {k : Nat} {f : Addr} {fd : FuncData} {ps : List Str} {sp sp' : Sp} (F : FnOk P w K mg base CX k f fd ps sp) (F' : FnOk P w K mg base CX k f fd ps sp') :
    FnOk P w K mg base CX k f fd ps (fun vs H Q E => sp vs H Q E ∨ sp' vs H Q E) :=
  ⟨fun vs H Q E h => h.elim (F.len vs H Q E) (F'.len vs H Q E), fun A outer s H args us vs Q E hr he hb hv hs => hs.elim (F.run A outer s H args us vs Q E hr he hb hv) (F'.run A outer s H args us vs Q E hr he hb hv)⟩
section
variable {X : Cx} {k ie ir : Nat} {f C : Addr} {fd : FuncData} {ps : List Str} {sp : Sp} {dvs : List V} {ds : List Value} {fx cn en rn : Str} {p pos p2 p3 cp hp tp : Pos} {e : Expr} {es : List Expr} {t : TA} {b₀ : Stmt} {suite : List Stmt} {ts : TS}
end
end L2

set_option linter.all false
namespace FrM
def lowP (t b : Int) : Int × Int := (t / (Int.gcd t b : Int), b / (Int.gcd t b : Int))
theorem lowP_low {t b : Int} (hb : 0 < b) : Low t b (lowP t b).1 (lowP t b).2 := (low t b hb).2.2.1
theorem low_eq {T B t b : Int} (hB : 0 < B) (h : Low T B t b) : (t, b) = lowP T B := by
  obtain ⟨e1, e2⟩ := h.uniq (by omega) (lowP_low hB)
  rw [e1, e2]
def sz (z : List Int) (k : Nat) : Int := z.getD k 0
def sumL (z : List Int) (l : List Nat) : Int := (l.map (sz z)).sum
def stay (z : List Int) (l : List Nat) (w : Int) : List Nat := l.filter fun k => decide (sz z k * w < sumL z l)
theorem stay_le (z : List Int) (l : List Nat) (w : Int) : (stay z l w).length ≤ l.length := List.length_filter_le _ _
def fin (z : List Int) (l : List Nat) (w : Int) : List Nat × Int :=
  if (stay z l w).length = l.length then (l, w) else fin z (stay z l w) (w - ((l.length : Int) - ((stay z l w).length : Int)))
termination_by l.length
decreasing_by
  have := stay_le z l w
  omega
theorem fin_stop {z : List Int} {l : List Nat} {w : Int} (h : (stay z l w).length = l.length) : fin z l w = (l, w) := by
  rw [fin, if_pos h]
theorem fin_go {z : List Int} {l : List Nat} {w : Int} (h : (stay z l w).length ≠ l.length) : fin z l w = fin z (stay z l w) (w - ((l.length : Int) - ((stay z l w).length : Int))) := by
  rw [fin, if_neg h]
theorem sumL_ge (z : List Int) : ∀ (l : List Nat), (∀ k ∈ l, 1 ≤ sz z k) → (l.length : Int) ≤ sumL z l
  | [], _ => by simp [sumL]
  | a :: l, h => by
    have := sumL_ge z l (fun k hk => h k (List.mem_cons_of_mem _ hk))
    have h1 := h a List.mem_cons_self
    unfold sumL at *
    rw [List.map_cons, List.sum_cons, List.length_cons]
    omega
theorem sum_ge_mul (z : List Int) (w S : Int) : ∀ (l : List Nat), (∀ k ∈ l, S ≤ sz z k * w) → (l.length : Int) * S ≤ sumL z l * w
  | [], _ => by simp [sumL]
  | a :: l, h => by
    have := sum_ge_mul z w S l (fun k hk => h k (List.mem_cons_of_mem _ hk))
    have h1 := h a List.mem_cons_self
    unfold sumL at *
    rw [List.map_cons, List.sum_cons, List.length_cons, Int.add_mul]
    have e : ((l.length + 1 : Nat) : Int) * S = (l.length : Int) * S + S := by rw [Int.natCast_add, Int.add_mul]; simp
    rw [e]
    omega
theorem stay_pos {z : List Int} {l : List Nat} {w : Int} (hz : ∀ k ∈ l, 1 ≤ sz z k) (hw : w < l.length) (hl : 0 < l.length) : 0 < (stay z l w).length := by
  by_cases h : 0 < (stay z l w).length
  · exact h
  · exfalso
    have e : stay z l w = [] := List.length_eq_zero_iff.mp (by omega)
    have hall : ∀ k ∈ l, sumL z l ≤ sz z k * w := fun k hk => by
      have := (List.filter_eq_nil_iff.mp e) k hk
      simp at this
      exact this
    have h1 := sum_ge_mul z w (sumL z l) l hall
    have h2 := sumL_ge z l hz
    have h3 : 0 < sumL z l := by omega
    rw [Int.mul_comm (sumL z l) w] at h1
    have := Int.le_of_mul_le_mul_right h1 h3
    omega
/-- what is kept round by round -/
structure Rnd (z : List Int) (n : Nat) (m : Int) (l : List Nat) (w : Int) : Prop where
  pos : 0 < l.length
  sub : ∀ k ∈ l, k < n
  lt : w < l.length
  dif : w - l.length = m - n
  fil : l = (List.range n).filter fun k => decide (k ∈ l)
theorem Rnd.len {z : List Int} {n : Nat} {m : Int} {l : List Nat} {w : Int} (h : Rnd z n m l w) : l.length ≤ n := by
  have e := congrArg List.length h.fil
  have := List.length_filter_le (fun k => decide (k ∈ l)) (List.range n)
  rw [List.length_range] at this
  omega
theorem Rnd.start {z : List Int} {n : Nat} {m : Int} (h0 : 0 < n) (hm : m < n) : Rnd z n m (List.range n) m := by
  refine ⟨by rw [List.length_range]; exact h0, fun k hk => List.mem_range.mp hk, by rw [List.length_range]; exact hm, by rw [List.length_range], ?_⟩
  rw [List.filter_eq_self.mpr]
  intro k hk
  exact decide_eq_true hk
theorem Rnd.step {z : List Int} {n : Nat} {m : Int} {l : List Nat} {w : Int} (hz : ∀ k, k < n → 1 ≤ sz z k) (h : Rnd z n m l w) : Rnd z n m (stay z l w) (w - ((l.length : Int) - ((stay z l w).length : Int))) := by
  have hp := stay_pos (fun k hk => hz k (h.sub k hk)) h.lt h.pos
  refine ⟨hp, fun k hk => h.sub k (List.mem_filter.mp hk).1, by have := h.lt; omega, by have := h.dif; omega, ?_⟩
  have e : (List.range n).filter (fun k => decide (k ∈ stay z l w)) = ((List.range n).filter fun k => decide (k ∈ l)).filter fun k => decide (sz z k * w < sumL z l) := by
    rw [List.filter_filter]
    refine List.filter_congr fun k _ => ?_
    rw [Bool.eq_iff_iff]
    simp [stay]
    exact And.comm
  rw [e, ← h.fil]
  rfl
theorem Rnd.fin {z : List Int} {n : Nat} {m : Int} (hz : ∀ k, k < n → 1 ≤ sz z k) : ∀ (c : Nat) (l : List Nat) (w : Int), l.length ≤ c → Rnd z n m l w → Rnd z n m (fin z l w).1 (fin z l w).2
  | 0, l, w, hc, h => absurd h.pos (by omega)
  | c + 1, l, w, hc, h => by
    by_cases e : (stay z l w).length = l.length
    · rw [fin_stop e]; exact h
    · rw [fin_go e]
      have := stay_le z l w
      exact Rnd.fin hz c _ _ (by omega) (h.step hz)
/-- the shares over one bottom -/
structure Top (m : Int) (n : Nat) (S : Int) (N : Nat → Int) : Prop where
  pos : 0 < S
  all : ((List.range n).map N).sum = m * S
/-- what is due -/
def due (z : List Int) (m : Int) : List (Int × Int) :=
  if (z.length : Int) ≤ m then z.map fun _ => (1, 1) else if m = 0 then z.map fun _ => (0, 1)
  else (List.range z.length).map fun k => if decide (k ∈ (fin z (List.range z.length) m).1) = true then lowP (sz z k * (fin z (List.range z.length) m).2) (sumL z (fin z (List.range z.length) m).1) else (1, 1)
end FrM

set_option Elab.async false
set_option linter.all false
set_option maxRecDepth 100000
set_option maxHeartbeats 4000000
namespace L2
open PySem PySem.Spec PyProof.Rows
/-! ### tuples of ints that the text holds -/
/-! ### isinstance of these, too -/
def TyS (K : PySem.W.Frag) (H : Hp) (x : V) (t : Value) : Prop := TyOf K H x t ∨ ∃ a xs, x = .ref a ∧ t = .type "tuple" ∧ SqT K H a xs
section
variable {X : Cx}
open PySem.W in
theorem kit_ofS {pins : List (Addr × Obj)} {σ : St} {H : Hp} {s : Shared} {x : V} {u t : Value} (I : Inv X pins σ H s) (rx : RelV x u) (ty : TyS X.K H x t) :
    ∃ Hh : Heap → Prop, KitX X.K u t Hh ∧ Hh s.heap ∧ u ≠ .builtin "__main__.__loader__#opaque" := by
  rcases ty with ty | ⟨a, xs, rfl, rfl, hq⟩
  · exact kit_of I rx ty
  · cases (show u = Value.ref a from rx)
    obtain ⟨its, rv, p, hz⟩ := I.tuple hq
    exact ⟨_, PySem.W.kitx_tuple, let ⟨o, e, c, _⟩ := p; ⟨o, e, c⟩, fun z => nomatch z⟩
/-! ### sum of ints -/
theorem bt_sum : bootBuiltins "sum" = some (.builtin "sum") := by decide +kernel
theorem ints_are : ∀ {ns : List Int} {us : List Value}, Vals (ns.map V.int) us → IntsAre us ns
  | [], _, .nil => .nil
  | n :: ns, _, .cons r t => by
    obtain ⟨t', rfl⟩ := r
    exact .cons _ _ (ints_are t)
theorem call_sumI (hc : X.calm = true) : CallR X (.builtin "sum") (fun xs H Q => ∃ (p : Addr) (ns : List Int), xs = [.ref p] ∧ SqL X.K H p (ns.map V.int) ∧ Q (.int ns.sum) H) := by
  intro pins s σ H xs us Q I r h
  obtain ⟨p, ns, rfl, hq, q⟩ := h
  obtain ⟨u, rfl, rx⟩ := vals1 r
  cases rx
  obtain ⟨its, rv, pl, hz⟩ := I.list hq
  have hi := ints_are rv
  obtain ⟨xs, ex⟩ := hi.allInts.items
  have e2 : (numsOf its) = ns := hi.numsOf
  refine sum_intListG (I.ok.hd hc) (xs := xs) (by rw [← ex]; exact pl.isList) fun h' tk t' hk => ?_
  have e3 : preSum (numAt xs) xs.size = ns.sum := by
    rw [preSum_eq, List.take_of_length_le (by simp), ← e2, ← nums_intItems, ← ex]
  rw [e3]
  exact ⟨.int ns.sum, H, I.kept hk, ⟨_, rfl⟩, q⟩
/-! ### list(range(n)) -/
/-! ### for k in range(a, b, c), c from 1 on -/
end
end L2

set_option Elab.async false
set_option linter.all false
set_option maxRecDepth 100000
set_option maxHeartbeats 4000000
namespace HT
open PySem PySem.Spec PyProof.Rows
section
variable {prog : Program} {w : World} {A : Around} {E : Value → Shared → Prop} {s : Shared}
end
end HT
namespace L2
open PySem PySem.Spec PyProof.Rows
section
variable {X : Cx}
/-! ### () + t is t itself -/
/-! ### long rows, kept whole (unfolding the judgment is slow) -/
@[irreducible] def PAq (X : Cx) (es : List Expr) (t : TA) : Prop := PA X es t
theorem paq_nil : PAq X [] tNil := by unfold PAq; exact pa_nil
theorem paq_cons {e : Expr} {es : List Expr} {te : TE} {t : TA} (ha : PE X e te) (hr : PAq X es t) (h : isSt e = false := by rfl) : PAq X (e :: es) (tCons te t) := by
  unfold PAq at hr ⊢
  exact pa_consQ ha hr h
theorem pe_lstQ {es : List Expr} {t : TA} {pos : Pos} (h : PAq X es t) : PE X (.List es pos) (tLst t) := by
  unfold PAq at h
  exact pe_lst h
end
end L2

set_option Elab.async false
set_option linter.all false
set_option maxRecDepth 100000
set_option maxHeartbeats 4000000
namespace L2
open PySem PySem.Spec PyProof.Rows
/-! ### judgments kept whole, for rows of rows (unfolding them is slow) -/
section
variable {X : Cx}
@[irreducible] def PEq (X : Cx) (e : Expr) (t : TE) : Prop := PE X e t
@[irreducible] def PSt (X : Cx) (st : Stmt) (t : TS) : Prop := PS X st t
theorem peq_of {e : Expr} {t : TE} (h : PE X e t) : PEq X e t := by unfold PEq; exact h
theorem peq_out {e : Expr} {t : TE} (h : PEq X e t) : PE X e t := by unfold PEq at h; exact h
theorem pst_of {st : Stmt} {t : TS} (h : PS X st t) : PSt X st t := by unfold PSt; exact h
theorem pst_out {st : Stmt} {t : TS} (h : PSt X st t) : PS X st t := by unfold PSt at h; exact h
theorem peq_lst {es : List Expr} {t : TA} {pos : Pos} (h : PAq X es t) : PEq X (.List es pos) (tLst t) := peq_of (pe_lstQ h)
theorem paq_consq {e : Expr} {es : List Expr} {te : TE} {t : TA} (ha : PEq X e te) (hr : PAq X es t) (h : isSt e = false := by rfl) : PAq X (e :: es) (tCons te t) := paq_cons (peq_out ha) hr h
theorem psq_one {st : Stmt} {t : TS} (h : PSt X st t) : PSq X [st] t := by unfold PSq; exact pss_one (pst_out h)
theorem psq_cons {st : Stmt} {sts : List Stmt} {t u : TS} (h : PSt X st t) (h2 : PSq X sts u) : PSq X (st :: sts) (tSeq t u) := by
  unfold PSq at h2 ⊢
  exact pss_cons (pst_out h) h2
theorem psq_out {sts : List Stmt} {t : TS} (h : PSq X sts t) : PSs X sts t := by unfold PSq at h; exact h
theorem pst_set {i : Nat} {x : Str} {e : Expr} {te : TE} {pos pos' : Pos} (hN : X.N.Nodup) (hi : X.N[i]? = some x) (hx : Loc X.env.scope x) (he : PEq X e te) (hs : swapsWith e (some (.Name x pos')) pos.line X.env = pure false := by rfl) (hf : X.fn x = true ∨ X.env.scope.names.lookup x = some .local := by first | exact .inl rfl | exact .inr rfl | assumption) :
    PSt X (.Assign [.Name x pos'] e pos) (tAsg te (gName i)) := pst_of (ps_set hN hi hx (peq_out he) hs hf)
end
end L2

set_option Elab.async false
set_option linter.all false
set_option maxRecDepth 100000
set_option maxHeartbeats 4000000
namespace L2
open PySem PySem.Spec PyProof.Rows
/-! ### lambdas: a function object, its cells, its code, the table of the code that it stands in -/
structure LamD where
  qual : Str
  params : Arguments
  body : Expr
  scope : Scope
def LamX (f : Addr) (d : LamD) (clos : List (Str × Addr)) (c : Addr) : Heap → Prop := fun h => ∃ pm ctv, h.get? f = some (PySem.W.kla_obj "<lambda>" d.qual d.params d.body d.scope clos pm c ctv)
def CellX (c : Addr) (v : V) : Heap → Prop := fun h => ∃ o u, h.get? c = some o ∧ o.data = .cell (some u) ∧ RelV v u
def CodeX (c : Addr) (q : Str) : Heap → Prop := fun h => ∃ o vs t, h.get? c = some o ∧ o.data = .fields vs ∧ vs[1]? = some (.str q t)
section
variable {P : Program} {w : World} {H : Hp} {h : Heap}
theorem lamX_ok {f : Addr} {d : LamD} {clos : List (Str × Addr)} {c : Addr} {pm ctv : Value} (e : h.get? f = some (PySem.W.kla_obj "<lambda>" d.qual d.params d.body d.scope clos pm c ctv)) : ObjOk P w H h f (.ext (LamX f d clos c)) :=
  ⟨⟨pm, ctv, e⟩, ⟨_, e⟩, fun h1 h2 ⟨pm, ctv, e1⟩ k => ⟨pm, ctv, k _ e1⟩⟩
theorem cellX_ok {c : Addr} {v : V} (x : CellX c v h) : ObjOk P w H h c (.ext (CellX c v)) :=
  ⟨x, let ⟨o, _, e, _⟩ := x; ⟨o, e⟩, fun h1 h2 ⟨o, u, e1, r⟩ k => ⟨o, u, k _ e1, r⟩⟩
theorem codeX_ok {c : Addr} {q : Str} (x : CodeX c q h) : ObjOk P w H h c (.ext (CodeX c q)) :=
  ⟨x, let ⟨o, _, _, e, _⟩ := x; ⟨o, e⟩, fun h1 h2 ⟨o, vs, t, e1, r⟩ k => ⟨o, vs, t, k _ e1, r⟩⟩
end
/-! ### kept, but that tables grow -/
def notT : HO → Bool
  | .tbl _ => false
  | _ => true
def SameT (H H' : Hp) : Prop := ∀ b o, H b = some o → (notT o = true → H' b = some o) ∧ ∃ o', H' b = some o'
theorem SameT.refl {H : Hp} : SameT H H := fun b o e => ⟨fun _ => e, o, e⟩
theorem SameT.trans {H H1 H2 : Hp} (a : SameT H H1) (b : SameT H1 H2) : SameT H H2 := fun c o e => by
  obtain ⟨f, o', e'⟩ := a c o e
  obtain ⟨g, o2, e2⟩ := b c o' e'
  exact ⟨fun n => (b c o (f n)).1 n, o2, e2⟩
theorem Same.t {H H' : Hp} (s : Same H H') : SameT H H' := fun b o e => ⟨fun _ => s b o e, o, s b o e⟩
theorem SameT.at {H H' : Hp} (s : SameT H H') {a : Addr} {o : HO} (e : H a = some o) (n : notT o = true := by rfl) : H' a = some o := (s a o e).1 n
theorem SameT.free {H H' : Hp} (s : SameT H H') {a : Addr} (e : H' a = none) : H a = none := by
  cases q : H a with
  | none => rfl
  | some o => obtain ⟨_, o', e'⟩ := s a o q; rw [e] at e'; cases e'
theorem SameT.put {H H' : Hp} (s : SameT H H') {a : Addr} {o : HO} (e : H a = none) : SameT H (upd H' a o) := fun b u q => by
  have n : b ≠ a := fun z => by rw [z, e] at q; cases q
  rw [upd_ne n]
  exact s b u q
/-- a table of codes, in which the lambdas ls of its code may stand -/
def TabOk (H : Hp) (P : Addr) (ls : List (Pos × Str)) : Prop := ∃ ps, H P = some (.tbl ps) ∧ TriplesOk ps.toList ∧ ∀ l ∈ ls, codeAmong l.1 ps.toList = none ∨ ∃ c, codeAmong l.1 ps.toList = some (.ref c) ∧ H c = some (.ext (CodeX c l.2))
abbrev Tabs := List (Addr × List (Pos × Str))
def TabsOk (tabs : Tabs) (H : Hp) : Prop := ∀ q ∈ tabs, TabOk H q.1 q.2
theorem TabsOk.same {tabs : Tabs} {H H' : Hp} (t : TabsOk tabs H) (s : Same H H') : TabsOk tabs H' := fun q hq => by
  obtain ⟨ps, e1, e2, e3⟩ := t q hq
  exact ⟨ps, s _ _ e1, e2, fun l hl => (e3 l hl).imp id fun ⟨c, a, b⟩ => ⟨c, a, s _ _ b⟩⟩
theorem TabsOk.put {tabs : Tabs} {H : Hp} {r : Addr} {o : HO} (t : TabsOk tabs H) (h1 : ∀ ps, H r ≠ some (.tbl ps)) (h2 : ∀ φ, H r ≠ some (.ext φ)) : TabsOk tabs (upd H r o) := fun q hq => by
  obtain ⟨ps, e1, e2, e3⟩ := t q hq
  refine ⟨ps, ?_, e2, fun l hl => (e3 l hl).imp id fun ⟨c, a, b⟩ => ⟨c, a, ?_⟩⟩
  · rw [upd_ne fun z => h1 ps (by rw [← z]; exact e1)]; exact e1
  · rw [upd_ne fun z => h2 _ (by rw [← z]; exact b)]; exact b
theorem among_other {p p' : Pos} {c : Value} (l : List Value) (h : TriplesOk l) (hn : ¬ (p.line = p'.line ∧ p.col = p'.col)) : codeAmong p' (l ++ [rawInt p.line, rawInt p.col, c]) = codeAmong p' l := by
  fun_induction TriplesOk l with
  | case1 =>
    simp only [List.nil_append, codeAmong, rawInt]
    rw [if_neg]
    intro z
    rw [Bool.and_eq_true, beq_iff_eq, beq_iff_eq] at z
    exact hn ⟨by omega, by omega⟩
  | case2 a t b u x rest ih =>
    simp only [List.cons_append, codeAmong]
    rw [ih h]
  | case3 => exact h.elim
theorem triples_snoc {p : Pos} {c : Value} (l : List Value) (h : TriplesOk l) : TriplesOk (l ++ [rawInt p.line, rawInt p.col, c]) := by
  fun_induction TriplesOk l with
  | case1 => simp [TriplesOk, rawInt]
  | case2 a t b u x rest ih => exact ih h
  | case3 => exact h.elim
/-- the module of the built-ins, at its place -/
def Bm (mg : Str → Option Value) (base : Heap) : Prop := ∃ bm ob, mg "__builtins__" = some (.ref bm) ∧ base.get? bm = some ob ∧ ob.cls = .type "module" ∧ ob.dict = some builtinsNs ∧ ob.data = .plain
def tLam (tabs : Tabs) (d : LamD) (clos : List (Str × Addr)) : TE := fun σ H Q => TabsOk tabs H ∧ ∀ f c H1, SameT H H1 → TabsOk tabs H1 → H f = none → H1 f = some (.ext (LamX f d clos c)) → H1 c = some (.ext (CodeX c d.qual)) → Q (.ref f) H1
end L2

set_option Elab.async false
set_option linter.all false
set_option maxRecDepth 100000
set_option maxHeartbeats 4000000
namespace L2
open PySem PySem.Spec PyProof.Rows
theorem fst_inj {α β : Type} : ∀ {l : List (α × β)}, (l.map (·.1)).Nodup → ∀ x ∈ l, ∀ y ∈ l, x.1 = y.1 → x = y
  | [], _, x, hx, _, _, _ => by cases hx
  | a :: r, nd, x, hx, y, hy, e => by
    rw [List.map_cons, List.nodup_cons] at nd
    rcases List.mem_cons.mp hx with rfl | hx' <;> rcases List.mem_cons.mp hy with rfl | hy'
    · rfl
    · exact absurd (List.mem_map.mpr ⟨y, hy', e.symm⟩) nd.1
    · exact absurd (List.mem_map.mpr ⟨x, hx', e⟩) nd.1
    · exact fst_inj nd.2 x hx' y hy' e
theorem pos_inj : ∀ {l : List (Pos × Str)}, (l.Pairwise fun x y => ¬ (x.1.line = y.1.line ∧ x.1.col = y.1.col)) → ∀ x ∈ l, ∀ y ∈ l, (x.1.line = y.1.line ∧ x.1.col = y.1.col) → x = y
  | [], _, x, hx, _, _, _ => by cases hx
  | a :: r, nd, x, hx, y, hy, e => by
    rw [List.pairwise_cons] at nd
    rcases List.mem_cons.mp hx with rfl | hx' <;> rcases List.mem_cons.mp hy with rfl | hy'
    · rfl
    · exact absurd e (nd.1 y hy')
    · exact absurd ⟨e.1.symm, e.2.symm⟩ (nd.1 x hx')
    · exact pos_inj nd.2 x hx' y hy' e
section
variable {X : Cx} {tabs : Tabs} {P c : Addr} {ls : List (Pos × Str)} {d : LamD} {clos : List (Str × Addr)} {pos : Pos}
theorem pe_lam (hcd : X.env.code = .ref c) (hC : PySem.W.codeHdIn X.K c P = true) (hB : Bm X.mg X.base) (hq : X.env.qual ++ "<lambda>" = d.qual) (hcl : closureFor d.scope X.env = pure clos) (hdef : defaultsOf d.params X.env = ([], []))
    (hm : (P, ls) ∈ tabs) (hl : (pos, d.qual) ∈ ls) (hnd : (tabs.map (·.1)).Nodup) (hps : ls.Pairwise fun x y => ¬ (x.1.line = y.1.line ∧ x.1.col = y.1.col)) : PE X (.Lambda d.params d.body d.scope pos) (tLam tabs d clos) := by
  intro pins s σ H Q I h
  obtain ⟨hT, hQ⟩ := h
  refine PySem.W.kla_eval hdef ?_
  rw [hq]
  obtain ⟨ps, hP, htr, hls⟩ := hT _ hm
  have hgs : s.heap.Ns mainGlobals X.mg := I.mod.glob.keeps I.bk
  have C : PySem.W.CodeHd s.heap c P := PySem.W.codeHd_of_K I.kIn hC
  have hPo : s.heap.get? P = some (PySem.W.tabObj ps) := I.hok P _ hP
  have hgP : mainGlobals ≠ P := fun q => by
    obtain ⟨o, es, ep, e, hd, _⟩ := hgs
    rw [q, hPo] at e; cases e; cases hd
  obtain ⟨bm, ob, b1, b2, b3, b4, b5⟩ := hB
  have bo := I.bk _ _ b2
  have hbP : bm ≠ P := fun q => by
    rw [q, hPo] at bo; cases bo; cases b3
  have hbG : bm ≠ mainGlobals := fun q => by
    obtain ⟨o, es, ep, e, hd, _⟩ := hgs
    rw [q, e] at bo; cases bo; rw [hd] at b5; cases b5
  have hbB : bm ≠ builtinsNs := fun q => by
    obtain ⟨mb, ⟨o, es, ep, e, hd, _⟩, _⟩ := I.mod.blt
    rw [q, e] at b2; cases b2; rw [hd] at b5; cases b5
  have BA : s.heap.BuiltinsAt X.mg P := ⟨bm, ob, b1, hbB, hbG, hbP, bo, b3, b4, b5⟩
  rcases hls _ hl with hn | ⟨c', hc, hHc⟩
  · refine PySem.W.kla_makeFunction (mg := X.mg) hcl I.ok.glob hgs hcd C hPo htr hn hgP BA fun c' ctv h' tk hx hge hlt hrec htb => ?_
    have hc0 : H c' = none := I.hok.fresh hge
    have hf0 : H h'.objs.size = none := I.hok.fresh (Nat.le_trans hge (Nat.le_of_lt hlt))
    have ncf : c' ≠ h'.objs.size := Nat.ne_of_lt hlt
    have nPc : P ≠ c' := ne_of_none hP hc0
    have nPf : P ≠ h'.objs.size := ne_of_none hP hf0
    obtain ⟨f, hf⟩ : ∃ f, f = h'.objs.size := ⟨_, rfl⟩
    obtain ⟨ob', hob⟩ : ∃ o, o = PySem.W.kla_obj "<lambda>" d.qual d.params d.body d.scope clos ((X.mg "__name__").getD .none) c' ctv := ⟨_, rfl⟩
    have hfo : (h'.push ob').get? f = some ob' := by rw [hf, hob]; exact Heap.get?_push_size _ rfl
    have keep : ∀ b o, b ≠ P → s.heap.get? b = some o → (h'.push ob').get? b = some o := fun b o n e => Heap.get?_push_of_some _ (hx b o n e)
    have htb' : (h'.push ob').get? P = some (PySem.W.tabObj (ps ++ #[rawInt pos.line, rawInt pos.col, .ref c'])) := Heap.get?_push_of_some _ htb
    have hcx : CodeX c' d.qual (h'.push ob') := by
      obtain ⟨c2, oc, vs, t, e2, hoc, hdt, hv⟩ := hrec
      cases e2
      exact ⟨oc, vs, t, Heap.get?_push_of_some _ hoc, hdt, hv⟩
    rw [← hf] at hf0 ncf nPf ⊢
    rw [← hob]
    obtain ⟨H1, hH1⟩ : ∃ H1, H1 = upd (upd (upd H P (.tbl (ps ++ #[rawInt pos.line, rawInt pos.col, .ref c']))) c' (.ext (CodeX c' d.qual))) f (.ext (LamX f d clos c')) := ⟨_, rfl⟩
    have gf : H1 f = some (.ext (LamX f d clos c')) := by rw [hH1]; exact upd_same
    have gc : H1 c' = some (.ext (CodeX c' d.qual)) := by rw [hH1, upd_ne ncf]; exact upd_same
    have gP : H1 P = some (.tbl (ps ++ #[rawInt pos.line, rawInt pos.col, .ref c'])) := by rw [hH1, upd_ne nPf, upd_ne nPc]; exact upd_same
    have go : ∀ b, b ≠ P → b ≠ c' → b ≠ f → H1 b = H b := fun b h1 h2 h3 => by rw [hH1, upd_ne h3, upd_ne h2, upd_ne h1]
    have same : ∀ b o, b ≠ P → H b = some o → H1 b = some o := fun b o n e => by rw [go b n (ne_of_none e hc0) (ne_of_none e hf0)]; exact e
    have nt : ∀ b o, H b = some o → (∀ qs, o ≠ .tbl qs) → b ≠ P := fun b o e n z => by rw [z, hP] at e; cases e; exact n ps rfl
    have un : Un X.fs [] H H1 s.heap (h'.push ob') := by
      refine ⟨fun b o e n _ _ => keep b o (fun z => by rw [z, hP] at n; cases n) e, fun b o e n _ _ => ⟨o.slots, keep b o (fun z => by rw [z, hP] at n; cases n) e⟩, fun b o e n _ => ?_, fun b o e _ => ?_, fun b xs e => same b _ (nt b _ e fun _ z => nomatch z) e, fun b o u e => same b _ (nt b _ e fun _ z => nomatch z) e, fun b qs e => ?_⟩
      · have hb : b < s.heap.objs.size := Heap.lt_size e
        rw [go b (fun z => by rw [z, hP] at n; cases n) (Nat.ne_of_lt (Nat.lt_of_lt_of_le hb hge)) (by rw [hf]; exact Nat.ne_of_lt (Nat.lt_of_lt_of_le hb (Nat.le_trans hge (Nat.le_of_lt hlt))))]
        exact n
      · by_cases hb : b = P
        · rw [hb]; exact ⟨_, htb'⟩
        · exact ⟨o, keep b o hb e⟩
      · by_cases hb : b = P
        · rw [hb, hP] at e
          cases e
          rw [hb]
          exact ⟨_, gP⟩
        · exact ⟨#[], by rw [same b _ hb e]; simp⟩
    have hok : HOk X.prog X.w H1 (h'.push ob') := fun a o e => by
      by_cases h1 : a = f
      · subst h1; rw [gf] at e; cases e; exact lamX_ok (by rw [hfo, hob])
      by_cases h2 : a = c'
      · subst h2; rw [gc] at e; cases e; exact codeX_ok hcx
      by_cases h3 : a = P
      · subst h3; rw [gP] at e; cases e; exact htb'
      rw [go a h3 h2 h1] at e
      refine (I.hok a o e).stay (fun b u hb q => keep b u ?_ q) (fun b q => same b _ (nt b _ q fun _ z => nomatch z) q) fun b xs q => same b _ (nt b _ q fun _ z => nomatch z) q
      rcases hb with rfl | hb
      · exact h3
      · exact nt b _ hb fun _ z => nomatch z
    refine ⟨.ref f, H1, I.un (h' := h'.push ob') (t' := tk) un hok, rfl, hQ f c' H1 (fun b o e => ?_) (fun q hq' => ?_) hf0 gf gc⟩
    · by_cases hb : b = P
      · subst hb
        rw [hP] at e
        cases e
        exact ⟨fun z => (Bool.false_ne_true z).elim, _, gP⟩
      · exact ⟨fun _ => same b o hb e, o, same b o hb e⟩
    · by_cases hqP : q.1 = P
      · have hqe : q = (P, ls) := fst_inj hnd q hq' (P, ls) hm hqP
        subst hqe
        refine ⟨_, gP, by rw [Array.toList_append]; exact triples_snoc _ htr, fun l' hl' => ?_⟩
        rw [Array.toList_append]
        by_cases hp : pos.line = l'.1.line ∧ pos.col = l'.1.col
        · have := pos_inj hps (pos, d.qual) hl l' hl' hp
          subst this
          exact .inr ⟨c', codeAmong_snoc _ htr hn, gc⟩
        · have eo := among_other (c := .ref c') ps.toList htr hp
          rcases hls l' hl' with z | ⟨c2, z1, z2⟩
          · exact .inl (eo.trans z)
          · exact .inr ⟨c2, eo.trans z1, same c2 _ (nt c2 _ z2 fun _ z => nomatch z) z2⟩
      · obtain ⟨qs, e1, e2, e3⟩ := hT q hq'
        exact ⟨qs, same _ _ hqP e1, e2, fun l' hl' => (e3 l' hl').imp id fun ⟨c2, z1, z2⟩ => ⟨c2, z1, same c2 _ (nt c2 _ z2 fun _ z => nomatch z) z2⟩⟩
  · refine PySem.W.kla_makeFunctionHit (mg := X.mg) hcl I.ok.glob hgs hcd C hPo htr hc BA fun ctv h' tk hk hsz => ?_
    have hf0 : H h'.objs.size = none := I.hok.fresh hsz
    have sm : Same H (upd H h'.objs.size (.ext (LamX h'.objs.size d clos c'))) := Same.new hf0
    refine ⟨.ref h'.objs.size, _, I.laid (a := h'.objs.size) (o := .ext (LamX h'.objs.size d clos c')) (t' := tk) (fun b u e => Heap.get?_push_of_some _ (hk b u e)) hsz (lamX_ok (Heap.get?_push_size _ rfl)), rfl, hQ _ c' _ sm.t (hT.same sm) hf0 upd_same (sm _ _ hHc)⟩
end
end L2

set_option Elab.async false
set_option linter.all false
set_option maxRecDepth 100000
set_option maxHeartbeats 4000000
namespace L2
open PySem PySem.Spec PyProof.Rows
/-! ### a lambda called -/
abbrev CellsAt (H : Hp) : List (Str × Addr) → List V → Prop := Paired fun (p : Str × Addr) (v : V) => H p.2 = some (.ext (CellX p.2 v))
theorem CellsAt.mem {H : Hp} : ∀ {clos : List (Str × Addr)} {vals : List V}, CellsAt H clos vals → ∀ p ∈ clos, ∃ v, H p.2 = some (.ext (CellX p.2 v))
  | _, _, .nil, p, h => by cases h
  | _, _, .cons r t, p, h => by
    rcases List.mem_cons.mp h with rfl | h
    · exact ⟨_, r⟩
    · exact CellsAt.mem t p h
theorem CellsAt.get {H : Hp} : ∀ {clos : List (Str × Addr)} {vals : List V} {i : Nat} {v : V}, CellsAt H clos vals → vals[i]? = some v → ∃ p, clos[i]? = some p ∧ H p.2 = some (.ext (CellX p.2 v))
  | _, _, _, _, .nil, h => by cases h
  | _, _, 0, _, .cons r t, h => by cases h; exact ⟨_, rfl, r⟩
  | _, _, i + 1, _, .cons r t, h => CellsAt.get (i := i) t h
theorem CellsAt.at {H : Hp} {clos : List (Str × Addr)} {vals : List V} (ca : CellsAt H clos vals) {b : Addr} (hb : b ∈ clos.map (·.2)) : ∃ v, H b = some (.ext (CellX b v)) := by
  obtain ⟨p, hp, rfl⟩ := List.mem_map.mp hb
  exact ca.mem p hp
theorem lookup_of_mem {α : Type} : ∀ {l : List (Str × α)} {x : Str} {u : α}, (l.map (·.1)).Nodup → (x, u) ∈ l → l.lookup x = some u
  | [], _, _, _, h => by cases h
  | (y, w) :: r, x, u, nd, h => by
    rw [List.map_cons, List.nodup_cons] at nd
    rcases List.mem_cons.mp h with e | h
    · cases e; simp [List.lookup]
    · have : x ≠ y := fun z => nd.1 (List.mem_map.mpr ⟨(x, u), h, z⟩)
      rw [List.lookup_cons, beq_eq_false_iff_ne.mpr this]
      exact lookup_of_mem nd.2 h
theorem nodup_rev {α : Type} {l : List α} (h : l.Nodup) : l.reverse.Nodup := by
  unfold List.Nodup at h ⊢
  rw [List.pairwise_reverse]
  exact h.imp fun n z => n z.symm
def lamEnv (d : LamD) (L f c : Addr) (clos : List (Str × Addr)) : Env := { scope := d.scope, locals := L, globals := mainGlobals, cells := clos, qual := d.qual ++ ".<locals>.", func := some f, code := .ref c, frame := some L, builtins := builtinsNs }
structure LamScope (d : LamD) (fv ps : List Str) : Prop where
  kind : d.scope.kind = .function
  co : d.scope.isCoroutine = false
  gen : d.scope.isGenerator = false
  nocell : ∀ x ∈ d.scope.names, x.2 ≠ .cell
  par : ∀ x ∈ ps, d.scope.names.lookup x = some .local
  free : ∀ x ∈ d.scope.names, x.2 = .free → x.1 ∈ fv
  fr : ∀ x ∈ fv, d.scope.names.lookup x = some .free
  nd : (ps ++ fv).Nodup
theorem mem_of_look {α β : Type} [BEq α] [LawfulBEq α] : ∀ {l : List (α × β)} {x : α} {u : β}, l.lookup x = some u → (x, u) ∈ l
  | [], _, _, h => by cases h
  | (y, w) :: r, x, u, h => by
    rw [List.lookup_cons] at h
    cases e : x == y with
    | true => rw [e] at h; cases h; rw [eq_of_beq e]; exact List.mem_cons_self ..
    | false => rw [e] at h; exact List.mem_cons_of_mem _ (mem_of_look h)
end L2

set_option Elab.async false
set_option linter.all false
set_option maxRecDepth 100000
set_option maxHeartbeats 4000000
namespace L2
open PySem PySem.Spec PyProof.Rows
section
variable {P : Program} {w : World} {K : PySem.W.Frag} {mg : Str → Option Value} {base : Heap}
end
/-- two readings of one expression -/
theorem PE.or {X : Cx} {e : Expr} {t t' : TE} (h : PE X e t) (h' : PE X e t') : PE X e (fun σ H Q => t σ H Q ∨ t' σ H Q) := fun pins s σ H Q I q => q.elim (h pins s σ H Q I) (h' pins s σ H Q I)
section
variable {X : Cx} {d : LamD} {fv ps : List Str} {k : Nat} {sp : List V → Sp} {x : Str} {p pos : Pos} {tf : TE} {t : TA} {e : Expr} {es : List Expr}
end
end L2

set_option Elab.async false
set_option linter.all false
set_option maxRecDepth 100000
set_option maxHeartbeats 4000000
namespace L2
open PySem PySem.Spec PyProof.Rows
/-! ### a def whose last statement tells a value, and whose cells live on -/
abbrev TR := VK → (V → St → Hp → Prop) → St → Hp → Prop
def PR (X : Cx) (sts : List Stmt) (t : TR) : Prop :=
  ∀ (pins : List (Addr × Obj)) (s : Shared) (σ : St) (H : Hp) (R : VK) (Z : V → St → Hp → Prop), Inv X pins σ H s → t R Z σ H →
    wpAny (model X.prog X.w) X.A (execs sts X.env) (fun f s' => ∃ u, f = .ret u ∧ ((∃ v σ' H', Inv X pins σ' H' s' ∧ RelV v u ∧ (R v H' ∨ Z v σ' H')) ∨ ∃ v H', s'.os = X.s₀.os ∧ AllBare s'.gens ∧ Un X.fs X.ex X.H₀ H' X.s₀.heap s'.heap ∧ HOk X.prog X.w H' s'.heap ∧ RelV v u ∧ R v H')) X.xe s
section
variable {X : Cx} {e : Expr} {te : TE} {pos : Pos} {st : Stmt} {rest : List Stmt} {t : TS} {u : TR}
theorem pr_ret (he : PE X e te) : PR X [.Return (some e) pos] (fun _ Z σ H => te σ H fun v H' => Z v σ H') := by
  intro pins s σ H R Z I h
  refine wpAny_execs_cons (wpAny_Return_some (thn (he pins s σ H _ I h) fun v s1 ⟨x, H1, I1, r1, q1⟩ => ?_))
  exact ⟨v, rfl, .inl ⟨x, σ, H1, I1, r1, .inr q1⟩⟩
theorem pr_cons (h1 : PS X st t) (h2 : PR X rest u) : PR X (st :: rest) (fun R Z σ H => t { nx := u R Z, rt := R } σ H) := by
  intro pins s σ H R Z I h
  refine wpAny_execs_cons (thn (h1 pins s σ H { nx := u R Z, rt := R } I h) fun f s1 q => ?_)
  cases f with
  | next =>
    obtain ⟨σ', H', I', q⟩ := q
    exact h2 pins s1 σ' H' R Z I' q
  | ret v =>
    obtain ⟨v', σ', H', I', r, q⟩ := q
    exact ⟨v, rfl, .inl ⟨v', σ', H', I', r, .inl q⟩⟩
  | brk => obtain ⟨_, _, _, q⟩ := q; exact False.elim q
  | cont => obtain ⟨_, _, _, q⟩ := q; exact False.elim q
end
/-- the cells of the names whose values are known -/
def CellsOf (cells : List (Str × Addr)) (N : List Str) (σ : St) (H3 : Hp) : Prop := ∀ (i : Nat) (y : Str) (v : V) (c : Addr), N[i]? = some y → σ[i]? = some (some v) → cells.lookup y = some c → H3 c = some (.ext (CellX c v))
theorem cells_mem {y : Str} {c : Addr} : ∀ (names : List (Str × NameKind)) (n : Nat) (acc : List (Str × Addr)), (y, c) ∈ cellsFrom n names acc → (y, c) ∈ acc ∨ (y, NameKind.cell) ∈ names
  | [], n, acc, h => .inl h
  | (x, k) :: r, n, acc, h => by
    unfold cellsFrom at h
    split at h
    · rename_i hk
      rcases cells_mem r (n + 1) ((x, n) :: acc) h with z | z
      · rcases List.mem_cons.mp z with e | z
        · cases e
          rw [eq_of_beq hk]
          exact .inr (List.mem_cons_self ..)
        · exact .inl z
      · exact .inr (List.mem_cons_of_mem _ z)
    · rcases cells_mem r n acc h with z | z
      · exact .inl z
      · exact .inr (List.mem_cons_of_mem _ z)
section
variable {P : Program} {w : World} {K : PySem.W.Frag} {mg : Str → Option Value} {base : Heap}
theorem track {CX : CXT} {N : List Str} {qual : Str} {scope : Scope} {f : Addr} {cd : Value} {A : Around} {outer : List Env} {s s' : Shared} {H H' : Hp} {E : XK} {σ : St} (hN : N.Nodup) (hck : ∀ p ∈ scope.names, p.2 = .cell → scope.names.lookup p.1 = some .cell)
    {pins : List (Addr × Obj)} (J : Inv (cxOf CX P w K mg base N qual scope f cd A outer s H E) pins σ H' s') :
    ∃ H3, Same H' H3 ∧ CellsOf (cellsFrom (s.heap.objs.size + 1) scope.names []) N σ H3 ∧ (∀ b, H' b = none → H3 b ≠ none → ∃ y, (cellsFrom (s.heap.objs.size + 1) scope.names []).lookup y = some b) ∧ Un (frs outer) [] H H3 s.heap s'.heap ∧ HOk P w H3 s'.heap := by
  have hvis : ∀ y c, (cellsFrom (s.heap.objs.size + 1) scope.names []).lookup y = some c → scope.names.lookup y = some .cell := fun y c e => by
    rcases cells_mem _ _ _ (mem_of_look e) with z | z
    · cases z
    · exact hck _ z rfl
  obtain ⟨cells, hcells⟩ : ∃ l, l = cellsFrom (s.heap.objs.size + 1) scope.names [] := ⟨_, rfl⟩
  rw [← hcells] at hvis ⊢
  have henv : (cxOf CX P w K mg base N qual scope f cd A outer s H E).env.cells = cells := hcells.symm
  let G : Addr → V → Prop := fun b v => ∃ (i : Nat) (y : Str), N[i]? = some y ∧ σ[i]? = some (some v) ∧ cells.lookup y = some b
  have G1 : ∀ b v v', G b v → G b v' → v = v' := by
    rintro b v v' ⟨i, y, a1, a2, a3⟩ ⟨j, z, b1, b2, b3⟩
    have : y = z := J.ok.inj y z b (by rw [henv]; exact a3) (by rw [henv]; exact b3)
    subst this
    have : i = j := nodup_ix hN a1 b1
    subst this
    rw [a2] at b2
    cases b2
    rfl
  have G2 : ∀ b v, G b v → H' b = none ∧ s.heap.objs.size ≤ b ∧ CellX b v s'.heap := by
    rintro b v ⟨i, y, a1, a2, a3⟩
    refine ⟨J.freeC y b (by rw [henv]; exact a3), J.ok.cab y b rfl (by rw [henv]; exact a3), ?_⟩
    obtain ⟨m, hn, hl⟩ := J.loc
    obtain ⟨u, r, l⟩ := hl i y v a1 a2 (.inr (.inl (hvis y b a3)))
    rcases l with ⟨k, _⟩ | ⟨k, c, e, o, ho, hd⟩
    · exfalso
      have k : scope.names.lookup y = some .local := k
      rw [hvis y b a3] at k
      cases k
    · have e : cells.lookup y = some c := by rw [← henv]; exact e
      rw [a3] at e
      cases e
      exact ⟨o, u, ho, hd, r⟩
  classical
  let H3 : Hp := fun b => if h : ∃ v, G b v then some (.ext (CellX b (Classical.choose h))) else H' b
  have g1 : ∀ b v, G b v → H3 b = some (.ext (CellX b v)) := fun b v h => by
    have hx : ∃ v, G b v := ⟨v, h⟩
    show (if h : ∃ v, G b v then some (.ext (CellX b (Classical.choose h))) else H' b) = _
    rw [dif_pos hx, G1 b _ v (Classical.choose_spec hx) h]
  have g2 : ∀ b, (¬ ∃ v, G b v) → H3 b = H' b := fun b h => dif_neg h
  have sm : Same H' H3 := fun b o e => by
    rw [g2 b fun ⟨v, z⟩ => by rw [(G2 b v z).1] at e; cases e]
    exact e
  have jb : Un (frs outer) [] H H' s.heap s'.heap := J.base
  refine ⟨H3, sm, fun i y v c a1 a2 a3 => g1 c v ⟨i, y, a1, a2, a3⟩, (fun b n1 n2 => ?_), ⟨jb.keep, jb.slot, fun b o e n hx => ?_, jb.there, fun b xs e => sm _ _ (jb.tups b xs e), fun b o u e => sm _ _ (jb.frzs b o u e), fun b ps e => ?_⟩, fun b o e => ?_⟩
  · by_cases h : ∃ v, G b v
    · obtain ⟨v, i, y, _, _, a3⟩ := h
      exact ⟨y, a3⟩
    · rw [g2 b h] at n2
      exact absurd n1 n2
  · rw [g2 b fun ⟨v, z⟩ => absurd (Nat.lt_of_lt_of_le (Heap.lt_size e) (G2 b v z).2.1) (Nat.lt_irrefl _)]
    exact jb.free b o e n hx
  · obtain ⟨more, z⟩ := jb.tbls b ps e
    exact ⟨more, sm _ _ z⟩
  · by_cases h : ∃ v, G b v
    · obtain ⟨v, h⟩ := h
      rw [g1 b v h] at e
      cases e
      exact cellX_ok (G2 b v h).2.2
    · rw [g2 b h] at e
      exact (J.hok b o e).stay (fun b' u' _ q => q) (fun b' q => sm _ _ q) fun b' xs q => sm _ _ q
/-- THE RULE for a def that makes lambdas: c its code, in which the table P stands -/
theorem Fun.okL {x qual : Str} {st : Stmt} {f c : Addr} {fd : FuncData} {N ps : List Str} {k : Nat} {sp : Sp} (F : Fun K x qual st f fd) (hc : fd.code = .ref c) (S : FnScope N ps (defScope st)) (hck : ∀ p ∈ (defScope st).names, p.2 = .cell → (defScope st).names.lookup p.1 = some .cell)
    (len : ∀ vs H Q E, sp vs H Q E → vs.length = ps.length)
    (hbody : ∀ (A : Around) (outer : List Env) (s : Shared) (H : Hp) (vs : List V) (Q : VK) (E : XK), Room k (A.deeper (envOfC qual (defScope st) s.heap.objs.size f (.ref c))) → sp vs H Q E →
      ∃ t, PR (cxOf CX0 P w K mg base N qual (defScope st) f (.ref c) A outer s H E).nox (defBody st) t ∧ t Q (fun v σ H' => ∀ H3, Same H' H3 → CellsOf (cellsFrom (s.heap.objs.size + 1) (defScope st).names []) N σ H3 → Q v H3) (start N vs) H) : FnOk P w K mg base CX0 (k + 1) f fd ps sp := by
  obtain ⟨oc, od, kV, doc, pm, an, cdv, ct, osl, rfl, lk, hcd⟩ := F.ex
  obtain rfl : cdv = .ref c := hc
  refine ⟨len, fun A outer s H args us vs Q E hr e0 hb r hsp => ?_⟩
  have hl := len _ _ _ _ hsp
  have KX : K.In s.heap := e0.mod.kin.keeps fun b o e => (e0.bs b o e).1
  have lim : s.heap.NoLimit := e0.mod.nolimit.keeps fun b o e => (e0.bs b o e).1
  have hkind : ∀ y ∈ ps.zip us, (defScope st).names.lookup y.1 = some .local ∨ ((defScope st).names.lookup y.1 = some .cell ∧ ((cellsFrom (s.heap.objs.size + 1) (defScope st).names []).lookup y.1).isSome = true) := fun ⟨n, v⟩ hy => by
    rcases S.par n (List.of_mem_zip hy).1 with q | q
    · exact .inl q
    · exact .inr ⟨q, PySem.W.cellsFrom_some _ _ _ (.inl q)⟩
  refine codeAny_call_function hr.depth (KX _ _ lk) rfl S.co S.gen rfl (PySem.W.codeRec_of KX hcd) (hb _ _ _ _ ?_)
  refine wpAny_newFunctionEnv_cells S.kind hkind fun env he s1 x => ?_
  subst he
  refine ⟨lim.keeps x.toInCall.keep, codeAny_func ?_⟩
  obtain ⟨t, ht, hq⟩ := hbody A outer s H vs Q E (hr.deeper _) hsp
  have I : Inv (cxOf CX0 P w K mg base N qual (defScope st) f (.ref c) A outer s H E) [] (start N vs) H s1 := inv_start S hr.hd e0 hl r x
  refine wpAny_mono (ht [] s1 (start N vs) H Q _ (I.wish _) hq) (fun fl s' hs => ?_) fun e s' hs => False.elim hs
  obtain ⟨u, rfl, ⟨v, σ', H', J, rv, q⟩ | ⟨v, H', g1, g2, g3, g4, rv, q⟩⟩ := hs
  · have J := J.unwish
    rcases q with q | q
    · exact ⟨v, H', J.os, J.bare, J.base, J.hok, rv, q⟩
    · obtain ⟨H3, h1, h2, _, h3, h4⟩ := track S.nd hck J
      exact ⟨v, H3, J.os, J.bare, h3, h4, rv, q H3 h1 h2⟩
  · exact ⟨v, H', g1, g2, g3, g4, rv, q⟩
end
end L2

set_option Elab.async false
set_option linter.all false
set_option maxRecDepth 100000
set_option maxHeartbeats 4000000
namespace L2
open PySem PySem.Spec PyProof.Rows
/-- THE HEAD of a law that comes to lambdas: the tables at ts are empty and tracked -/
theorem law_callT {P : Program} {w : World} {K : PySem.W.Frag} {mg mb : Str → Option Value} {CX : CXT} {k : Nat} {fa a : Addr} {fd : FuncData} {x : Str} {sp : Sp} {s₁ : Shared} {vs : List Value} {ns : List Int} {ts : List Addr}
    (KX : K.In s₁.heap) (hns : s₁.heap.Ns mainGlobals mg) (hb : s₁.heap.Ns builtinsNs mb) (hbb : ∀ x : Str, x ≠ "__name__" → mb x = bootBuiltins x) (hlim : s₁.heap.NoLimit) (hg : s₁.gens = #[])
    (ha : s₁.heap.get? a = some { cls := .type "list", data := .seq vs.toArray }) (hi : IntsAre vs ns) (hl : ns.length ≤ sizeLine) (hr : Room k callerA) (hbm : Bm mg s₁.heap)
    (htab : ∀ P ∈ ts, s₁.heap.get? P = some (PySem.W.tabObj #[])) (htc : ∀ P ∈ ts, ∃ c, PySem.W.codeHdIn K c P = true) (htK : ∀ P ∈ ts, K.lookup P = none)
    (F : ∀ base : Heap, K.In base → base.Ns mainGlobals mg → Bm mg base → FnOk P w K mg base CX k fa fd [x] sp) (hbind : ∀ (s : Shared) (u : Value), BindsTo s fd ⟨[u], []⟩ [(x, u)])
    (hsp : ∀ H : Hp, (∀ P ∈ ts, H P = some (.tbl #[])) → SqL K H a (ns.map V.int) → sp [.ref a] H (fun v _ => v = .bl true) fun _ _ _ => False)
    (hCX : ∀ H e s', CX [] H s₁ (fun _ _ _ => False) e s' → False) :
    codeAny (model P w) callerA (.call (.ref fa) ⟨[.ref a], []⟩) (fun r s' => r = .ok (.ret (.bool true)) ∧ OldK s₁.heap s'.heap ∧ s'.os = s₁.os ∧ AllBare s'.gens) s₁ := by
  have rv := vals_ints hi
  have lenV := hi.length
  have nat : a ∉ ts := fun z => by have := htab a z; rw [ha] at this; cases this
  have core : ∀ H : Hp, (∀ P ∈ ts, H P = some (.tbl #[])) → SqL K H a (ns.map V.int) → HOk P w H s₁.heap → (∀ b u, H b = some u → (b = a ∧ ∃ o xs, u = .frz o (.lst xs)) ∨ (b ∈ ts ∧ u = .tbl #[])) → (H a ≠ none → K.lookup a = none) →
      codeAny (model P w) callerA (.call (.ref fa) ⟨[.ref a], []⟩) (fun r s' => r = .ok (.ret (.bool true)) ∧ OldK s₁.heap s'.heap ∧ s'.os = s₁.os ∧ AllBare s'.gens) s₁ := by
    intro H hT hS hok hA hK
    have base_of : ∀ {b : Addr} {o : Obj}, s₁.heap.get? b = some o → H b = none → (hidT s₁.heap H).get? b = some o := fun e n => hidT_get e n
    have noA : ∀ {b : Addr} {o : Obj}, s₁.heap.get? b = some o → o.cls ≠ .none → (∀ its n, o.data ≠ .seq its n) → H b = none := fun {b o} e d1 d2 => by
      cases q : H b with
      | none => rfl
      | some u =>
        rcases hA b u q with ⟨rfl, _⟩ | ⟨hb, _⟩
        · rw [ha] at e; cases e; exact (d2 _ _ rfl).elim
        · rw [htab b hb] at e; cases e; exact (d1 rfl).elim
    have noD : ∀ {b : Addr} {o : Obj} {es : Array DictEntry} {ep : Nat}, s₁.heap.get? b = some o → o.data = .dict es ep → H b = none := fun {b o es ep} e d => by
      cases q : H b with
      | none => rfl
      | some u =>
        rcases hA b u q with ⟨rfl, _⟩ | ⟨hb, _⟩
        · rw [ha] at e; cases e
          have d' : Data.seq vs.toArray _ = Data.dict es ep := d
          cases d'
        · rw [htab b hb] at e; cases e; cases d
    have nsK : ∀ {b : Addr} {m : Str → Option Value}, s₁.heap.Ns b m → (hidT s₁.heap H).Ns b m := fun {b m} ⟨o, es, ep, e, d, r⟩ => ⟨o, es, ep, base_of e (noD e d), d, r⟩
    have hKb : K.In (hidT s₁.heap H) := fun b o e => base_of (KX b o e) (by
      cases q : H b with
      | none => rfl
      | some u =>
        rcases hA b u q with ⟨rfl, _⟩ | ⟨hb, _⟩
        · rw [hK (by rw [q]; simp)] at e; cases e
        · rw [htK b hb] at e; cases e)
    have hM : Mod K mg (hidT s₁.heap H) := ⟨hKb, nsK hns, ⟨mb, nsK hb, hbb⟩, let ⟨mc, h1, h2⟩ := hlim; ⟨mc, nsK h1, h2⟩⟩
    have hB : Bm mg (hidT s₁.heap H) := by
      obtain ⟨bm, ob, b1, b2, b3, b4, b5⟩ := hbm
      exact ⟨bm, ob, b1, base_of b2 (noA b2 (by rw [b3]; simp) (fun its n => by rw [b5]; intro z; cases z)), b3, b4, b5⟩
    have e0 : Env0 P w K mg (hidT s₁.heap H) callerA [] s₁ H := ⟨rfl, hM, fun b o e => of_hidT e, Nat.le_of_eq (hidT_size _ _), trivial, fun b hb => absurd (show b ∈ ([] : List Addr) from hb) (by simp), hok, .of_eq hg⟩
    refine codeAny_mono ((F _ hKb (nsK hns) hB).run callerA [] s₁ H ⟨[.ref a], []⟩ [.ref a] [.ref a] _ _ hr e0 (hbind s₁ (.ref a)) (.cons rfl .nil) (hsp H hT hS)) fun r s' h => ?_
    cases r with
    | error e => exact (hCX H e s' h).elim
    | ok fl =>
      cases fl with
      | next => exact False.elim h
      | brk => exact False.elim h
      | cont => exact False.elim h
      | ret u =>
        obtain ⟨v, H', os, bare, un, hok', r', q⟩ := h
        have q' : v = .bl true := q
        subst q'
        obtain rfl : u = Value.bool true := r'
        refine ⟨rfl, ⟨fun b o e => ?_, fun b o e => un.there b o e (by simp)⟩, os, bare⟩
        cases q : H b with
        | none => exact .inl (un.keep b o e q (by intro z; exact absurd (show b ∈ ([] : List Addr) from z) (by simp)) (by simp))
        | some u =>
          rcases hA b u q with ⟨_, ob, xs, rfl⟩ | ⟨hb, rfl⟩
          · have z2 := un.frzs b ob _ q
            obtain ⟨e1, _⟩ := hok b _ q
            obtain ⟨e2, _⟩ := hok' b _ z2
            rw [e] at e1; cases e1
            exact .inl e2
          · obtain ⟨c, hc⟩ := htc b hb
            have C := PySem.W.codeHd_of_K KX hc
            obtain ⟨more, z⟩ := un.tbls b _ q
            have z2 : s'.heap.get? b = some (PySem.W.tabObj (#[] ++ more)) := hok' b _ z
            rw [htab b hb] at e
            cases e
            exact .inr (.inl ⟨(C.tab (htab b hb)).isCodeTable, rfl, #[], more, rfl, z2⟩)
  let T : Hp := fun b => if b ∈ ts then some (.tbl #[]) else none
  cases hk : K.lookup a with
  | some o =>
    have e := KX a o hk
    rw [ha] at e
    cases e
    refine core T (fun P hP => if_pos hP) (.inr ⟨_, vs.toArray, _, hk, rfl, rfl, rfl, by rw [List.size_toArray, lenV]; exact hl, by simpa using rv⟩) (fun b u z => ?_) (fun b u z => ?_) fun z => absurd (if_neg nat) z
    · by_cases hb : b ∈ ts
      · have z' := (if_pos hb).symm.trans z
        cases z'
        exact htab b hb
      · have z' := (if_neg hb).symm.trans z
        cases z'
    · by_cases hb : b ∈ ts
      · have z' := (if_pos hb).symm.trans z
        cases z'
        exact .inr ⟨hb, rfl⟩
      · have z' := (if_neg hb).symm.trans z
        cases z'
  | none =>
    refine core (fun b => if b = a then some (.frz { cls := .type "list", data := .seq vs.toArray } (.lst (ns.map V.int))) else T b) (fun P hP => ?_) (.inl (.inr ⟨{ cls := .type "list", data := .seq vs.toArray }, if_pos rfl⟩)) (fun b u z => ?_) (fun b u z => ?_) fun _ => hk
    · have hne : P ≠ a := fun z => nat (by rw [← z]; exact hP)
      exact (if_neg hne).trans (if_pos hP)
    · by_cases hb : b = a
      · have z' := (if_pos hb).symm.trans z
        cases z'
        subst hb
        exact ⟨ha, by rw [List.length_map]; exact hl, vs, _, rv, ha⟩
      · have z' := (if_neg hb).symm.trans z
        by_cases hb : b ∈ ts
        · have z' := (if_pos hb).symm.trans z'
          cases z'
          exact htab b hb
        · have z' := (if_neg hb).symm.trans z'
          cases z'
    · by_cases hb : b = a
      · have z' := (if_pos hb).symm.trans z
        cases z'
        exact .inl ⟨hb, _, _, rfl⟩
      · have z' := (if_neg hb).symm.trans z
        by_cases hb : b ∈ ts
        · have z' := (if_pos hb).symm.trans z'
          cases z'
          exact .inr ⟨hb, rfl⟩
        · have z' := (if_neg hb).symm.trans z'
          cases z'
theorem walk_ofT {l : PySem.W.OpenLaw} {n k : Nat} {q : Program} {loose : List Str} {XP : (Str → Option Value) → Heap → Prop} {YP : World → Heap → Prop} {d : DefRec} {K : Params → PySem.W.Frag} {CX : CXT} {sp : PySem.W.Frag → List Addr → Sp} {x : Str} {ts : List Addr}
    (hn : l.most = some n) (hn2 : n ≤ sizeLine) (hdf : d.params.defaults = []) (hr : Room k callerA)
    (hY : ∀ (w : World) (h : Heap), YP w h → (K w.params).In h ∧ ∀ P ∈ ts, h.get? P = some (PySem.W.tabObj #[]))
    (F : ∀ (ts' : List Addr), ts' = ts → ∀ (w : World) (mg : Str → Option Value) (fa : Addr) (h : Heap), (K w.params).In h → h.Ns mainGlobals mg → mg d.name = some (.ref fa) →
      ∃ fd : FuncData, (∀ (s : Shared) (u : Value), BindsTo s fd ⟨[u], []⟩ [(x, u)]) ∧ (∀ P ∈ ts, ∃ c, PySem.W.codeHdIn (K w.params) c P = true) ∧ (∀ P ∈ ts, (K w.params).lookup P = none) ∧
        ∀ base : Heap, (K w.params).In base → base.Ns mainGlobals mg → Bm mg base → FnOk l.prog w (K w.params) mg base CX k fa fd [x] (sp (K w.params) ts))
    (hsp : ∀ (K : PySem.W.Frag) (H : Hp) (a : Addr) (ns : List Int), ns.length ≤ n → (∀ P ∈ ts, H P = some (.tbl #[])) → SqL K H a (ns.map V.int) → sp K ts [.ref a] H (fun v _ => v = .bl true) fun _ _ _ => False)
    (hCX : ∀ (H : Hp) (s : Shared) (e : Value) (s' : Shared), CX [] H s (fun _ _ _ => False) e s' → False) :
    PySem.W.WalkO q loose XP YP l.row.toRowW d [] (fun f vs => PySem.call f vs) := by
  refine Att.attach_call hn hdf fun w s₀ s₁ mg mb fa o pm cd doc a vs ns G Y ho hd hcd hmg hobj hints hlen hg => ?_
  obtain ⟨KX, hT⟩ := hY w _ Y
  obtain ⟨fd, hb, htc, htK, hF⟩ := F ts rfl w mg fa _ KX G.T.g hmg
  have hbm : Bm mg s₁.heap := let ⟨bm, ob, b1, _, b3, b4, b5, b6⟩ := G.T.bmain; ⟨bm, ob, b1, b3, b4, b5, b6⟩
  exact law_callT KX G.T.g G.T.b G.T.builtins G.T.nolimit hg hobj hints (Nat.le_trans hlen hn2) hr hbm hT htc htK hF hb (fun H hO hS => hsp (K w.params) H a ns hlen hO hS) fun H e s' => hCX H s₁ e s'
end L2

set_option Elab.async false
set_option linter.all false
set_option maxRecDepth 100000
set_option maxHeartbeats 4000000
namespace L2
open PySem PySem.Spec PyProof.Rows
/-! ### a lambda's place in the text -/
def dE : Expr := .Name "" ⟨0, 0, 0, 0⟩
def stAt (st : Stmt) (i : Nat) : Stmt := (defBody st).getD i (.Pass ⟨0, 0, 0, 0⟩)
def lamOf (q : Str) : Expr → LamD
  | .Lambda p b s _ => ⟨q, p, b, s⟩
  | _ => ⟨q, default, dE, default⟩
def lamP : Expr → Pos
  | .Lambda _ _ _ p => p
  | _ => ⟨0, 0, 0, 0⟩
/-! ### sorted ints -/
theorem bt_sorted : bootBuiltins "sorted" = some (.builtin "sorted") := by decide +kernel
theorem vals_of_ints : ∀ {us : List Value} {ns : List Int}, IntsAre us ns → Vals (ns.map V.int) us
  | _, _, .nil => .nil
  | _, _, .cons n t h => .cons ⟨_, rfl⟩ (vals_of_ints h)
theorem call_sortedI {X : Cx} : CallR X (.builtin "sorted") (fun xs H Q => ∃ (p : Addr) (ns : List Int), xs = [.ref p] ∧ SqL X.K H p (ns.map V.int) ∧ ns.length < 64 ∧ ∀ q (ns' : List Int), ns'.Perm ns → ns'.Pairwise (· ≤ ·) → H q = none → Q (.ref q) (upd H q (.lst (ns'.map V.int)))) := by
  intro pins s σ H xs us Q I r h
  obtain ⟨p, ns, rfl, hq, hl, q⟩ := h
  obtain ⟨u, rfl, rx⟩ := vals1 r
  cases rx
  obtain ⟨its, rv, pl, hz⟩ := I.list hq
  have hi := ints_are rv
  have hlen : its.length = ns.length := by have := rv.length; rw [List.length_map] at this; exact this.symm
  refine sorted_ints pl.isList hi (by omega) fun out ns' a1 a2 a3 => ?_
  obtain ⟨e, he⟩ := sortedAll_at s.heap its out
  have hn : H (s.heap.objs.size + 1) = none := I.hok.fresh (Nat.le_succ _)
  have small : sizeLine = 16777216 := sizeLine_eq
  refine ⟨.ref (s.heap.objs.size + 1), _, I.laid (a := s.heap.objs.size + 1) (o := .lst (ns'.map V.int)) (t' := s.toks) (fun b u z => sortedAll_old z) (Nat.le_succ _) ⟨?_, out.toList, e, vals_of_ints a1, ?_⟩, rfl, q _ ns' a2 a3 hn⟩
  · rw [List.length_map, a2.length_eq]; omega
  · rw [he, Array.toArray_toList]
end L2

set_option Elab.async false
set_option linter.all false
set_option maxRecDepth 100000
set_option maxHeartbeats 4000000
namespace L2
open PySem PySem.Spec PyProof.Rows
/-! ### try, with any body of ifs and calls, and several clauses -/
/-- an exception has come to this frame's try -/
structure Lnd (X : Cx) (pins : List (Addr × Obj)) (σ : St) (H : Hp) (s : Shared) (x D : Addr) (dct : Option Addr) (T : Addr) (H' : Hp) (s' : Shared) (T4 : Addr) (h5 : Heap) : Prop where
  I : Inv X pins σ H s
  G : XG X.prog X.w X.stack H s x D dct T H' s'
  k : KeptBut ([T, x] ++ [T4]) (frs X.stack) s'.heap h5
  hxs : ∀ b, b = T ∨ b = x ∨ b = T4 → s.heap.get? b = none ∧ H' b = none ∧ b ∉ frs X.stack
  fx : Fx h5 x (.ref D) dct .none T4
abbrev TH := Addr → Option Addr → Addr → Ends → St → Hp → Prop
section
variable {X : Cx} {C : Addr} {cn en : Str} {ie : Nat} {b₀ : Stmt} {suite : List Stmt} {cp hp : Pos} {ts : TS} {rest : List ExceptHandler} {tr : TH}
theorem Lnd.J {pins : List (Addr × Obj)} {σ : St} {H : Hp} {s : Shared} {x D : Addr} {dct : Option Addr} {T : Addr} {H' : Hp} {s' : Shared} {T4 : Addr} {h5 : Heap} (L : Lnd X pins σ H s x D dct T H' s' T4 h5) : Inv X pins σ (upd H' x (.ext (XCt x D dct))) { s' with heap := h5 } :=
  landG (h2 := h5) L.I L.G L.k (fun b hb => L.hxs b (by simpa using hb)) L.fx
end
section
variable {X : Cx}
/-- an expression that may raise: a call of a def, of a class, of a method -/
def PX (X : Cx) (e : Expr) (t : VK → XK → St → Hp → Prop) : Prop :=
  ∀ (pins : List (Addr × Obj)) (s : Shared) (σ : St) (H : Hp) (Q : VK) (E : XK), Inv X pins σ H s → t Q E σ H →
    wpAny (model X.prog X.w) X.A (eval e X.env) (EP X pins σ Q) (fun e s' => ∃ H1 s1, Inv X pins σ H1 s1 ∧ CXG X.prog X.w X.stack H1 s1 E e s') s
end
section
variable {X : Cx} {k : Nat} {f C : Addr} {fd : FuncData} {ps : List Str} {sp : Sp} {dvs : List V} {ds : List Value} {x m : Str} {p pos apos : Pos} {e o : Expr} {es : List Expr} {ta : TE} {t : TA}
theorem PX.or {t t' : VK → XK → St → Hp → Prop} {ex : Expr} (h : PX X ex t) (h' : PX X ex t') : PX X ex (fun Q E σ H => t Q E σ H ∨ t' Q E σ H) := fun pins s σ H Q E I q => q.elim (h pins s σ H Q E I) (h' pins s σ H Q E I)
end
end L2

set_option Elab.async false
set_option linter.all false
namespace L2
open PySem PySem.Spec PyProof.Rows
section
variable {X : Cx} {e : Expr} {es : List Expr} {pos : Pos}
theorem peq_ix {a b : Expr} {ta tb : TE} {r : R2} (hr : IxR X r) (ha : PEq X a ta) (hb : PE X b tb) (hp : PlainIx b) : PEq X (.Subscript a b pos) (tOp r ta tb) := peq_of (pe_ix hr (peq_out ha) hb hp)
end
end L2

set_option Elab.async false
set_option linter.all false
set_option maxRecDepth 100000
namespace L2
open PySem PySem.Spec PyProof.Rows
/-! ### (a, b, ..) = a list of that length -/
section
variable {X : Cx} {pos : Pos}
end
end L2

set_option Elab.async false
set_option linter.all false
set_option maxRecDepth 100000
namespace L2
open PySem PySem.Spec PyProof.Rows
section
variable {X : Cx}
/-! ### o[i] op= e over a list -/
/-! ### lists of the same objects -/
end
end L2

set_option Elab.async false
set_option linter.all false
set_option maxRecDepth 100000
namespace L2
open PySem PySem.Spec PyProof.Rows
section
variable {X : Cx} {k : Nat} {f : Addr} {fd : FuncData} {ps : List Str} {sp : Sp} {x : Str} {p pos : Pos} {e : Expr} {es : List Expr} {t : TA} {tf : TE} {ds : List Value} {dvs : List V} {CX : CXT} {E : XK}
/-! ### a def handed in, and called by its name here -/
theorem pe_callV (hn : PE X (.Name x p) tf) (F : FnOk X.prog X.w X.K X.mg X.base CX k f fd ps sp) (hr : Room k X.A) (hk : PySem.W.keepIn X.K (.ref f) = true) (hb : Binds X.K fd ps ds) (hd : Vals dvs ds) (hx : Passes CX X E)
    (ha : PA X (e :: es) t) (he : starEach (e :: es) X.env = (false, eval e X.env) :: starEach es X.env := by rfl) (hpl : (backTo pos (starEach es X.env)).any (·.1) = false := by rfl) :
    PE X (.Call (.Name x p) (e :: es) [] pos) (fun σ H Q => tf σ H fun v H1 => v = .ref f ∧ tCall sp dvs E t σ H1 Q) := by
  intro pins s σ H Q I h
  refine wpAny_Call_Name_kw (thn (hn pins s σ H _ I h) fun u s1 ⟨v, H1, I1, rv, ev, q⟩ => ?_)
  subst ev
  obtain rfl : u = Value.ref f := rv
  refine PySem.W.callWith_K (h₀ := X.base) I1.ok.mod.kin hk (thn (ha pos pins s1 σ H1 _ I1 q) fun us s1 ⟨vs, H1, I1, r, q⟩ => ⟨I1.kIn, ?_⟩) he hpl
  exact run_fn F hr hb hd hx I1 r q
end
end L2

set_option Elab.async false
set_option linter.all false
set_option maxRecDepth 100000
set_option maxHeartbeats 4000000
namespace L2
open PySem PySem.Spec PyProof.Rows
section
variable {X : Cx} {a b c d : Expr} {ta tb tc td : TE} {pos : Pos}
/-! ### a chain of three comparisons -/
end
section
variable {X : Cx} {o e : Expr} {es : List Expr} {to : TE} {t : TA} {apos cpos : Pos}
theorem pe_m.extend (ho : PE X o to) (ha : PA X (e :: es) t) (hbase : attributeBase o "extend" X.env (eval o X.env) = eval o X.env := by rfl)
    (hfew : ((backTo cpos (starEach (e :: es) X.env)).all (fun x => !x.1) && (backToKw cpos (keywordEach [] X.env)).all (fun x => x.1.isSome) && decide ((e :: es).length + ([] : List Keyword).length + (if ([] : List Keyword).isEmpty then 0 else 1) < 30)) = true := by rfl)
    (hline : (apos.endLine == cpos.line) = true := by rfl) (hs : starEach (e :: es) X.env = (false, eval e X.env) :: starEach es X.env := by rfl) (hplain : (backTo cpos (starEach es X.env)).any (·.1) = false := by rfl) :
    PE X (.Call (.Attribute o "extend" apos) (e :: es) [] cpos) (tBM X.K "list" rExtend to t) := pe_bm F.plainAttrs_list F.slot_list_extend F.type_list_extend mt_extend ho ha hbase hfew hline hs hplain
end
end L2

set_option Elab.async false
set_option linter.all false
set_option maxRecDepth 100000
set_option maxHeartbeats 4000000
namespace WSrt
open PySem PySem.W PyProof.Rows
def run {α : Type} (lt : Nat → Nat → Bool) : KasT α → α
  | .ret x => x
  | .ask i j k => run lt (k (lt i j))
theorem run_bind {α β : Type} (lt : Nat → Nat → Bool) (f : α → KasT β) : ∀ t : KasT α, run lt (t.bind f) = run lt (f (run lt t))
  | .ret _ => rfl
  | .ask i j k => run_bind lt f (k (lt i j))
def e (p : Array Nat) (i : Nat) : Nat := (p[i]?).getD 0
theorem getD_e (p : Array Nat) (i : Nat) : p.getD i 0 = e p i := by unfold e; simp [Array.getD_eq_getD_getElem?]
variable (lt : Nat → Nat → Bool) (n : Nat)
/-- a weak order: le is whole and goes on -/
structure Wk : Prop where
  asy : ∀ i j, i < n → j < n → lt i j = true → lt j i = false
  tr : ∀ i j k, i < n → j < n → k < n → lt j i = false → lt k j = false → lt k i = false
structure PV (p : Array Nat) : Prop where
  sz : p.size = n
  pm : p.toList.Perm (List.range n)
theorem e_list {p : Array Nat} {i : Nat} (h : i < p.size) : p.toList[i]? = some (e p i) := by
  unfold e
  rw [Array.getElem?_toList]
  simp [h]
theorem PV.bd {p : Array Nat} (h : PV n p) {i : Nat} (hi : i < n) : e p i < n := by
  have := e_list (p := p) (i := i) (by rw [h.sz]; exact hi)
  have hm := h.pm.mem_iff.mp (List.mem_of_getElem? this)
  exact List.mem_range.mp hm
theorem PV.ne {p : Array Nat} (h : PV n p) {i j : Nat} (hi : i < n) (hj : j < n) (hne : i ≠ j) : e p i ≠ e p j := by
  have nd : p.toList.Nodup := h.pm.nodup_iff.mpr List.nodup_range
  have h1 := e_list (p := p) (i := i) (by rw [h.sz]; exact hi)
  have h2 := e_list (p := p) (i := j) (by rw [h.sz]; exact hj)
  intro z
  rw [z] at h1
  have l1 := (List.getElem?_eq_some_iff.mp h1)
  have l2 := (List.getElem?_eq_some_iff.mp h2)
  obtain ⟨a1, b1⟩ := l1
  obtain ⟨a2, b2⟩ := l2
  have pw := List.pairwise_iff_getElem.mp nd
  rcases Nat.lt_trichotomy i j with c | c | c
  · exact pw i j a1 a2 c (b1.trans b2.symm)
  · exact hne c
  · exact pw j i a2 a1 c (b2.trans b1.symm)
/-- not greater -/
def Asc (p : Array Nat) (m : Nat) : Prop := ∀ i j, i < j → j < m → lt (e p j) (e p i) = false
def Dsc (p : Array Nat) (m : Nat) : Prop := ∀ i j, i < j → j < m → lt (e p i) (e p j) = false
/-- all alike from i to j -/
def Blk (p : Array Nat) (i j : Nat) : Prop := ∀ x y, i ≤ x → x < j → i ≤ y → y < j → lt (e p x) (e p y) = false
variable (T : Wk lt n)
include T
theorem asc_more {p : Array Nat} {m : Nat} (h : PV n p) (hm : 1 ≤ m) (hmn : m < n) (a : Asc lt p m) (c : lt (e p m) (e p (m - 1)) = false) : Asc lt p (m + 1) := by
  intro i j hij hj
  by_cases c1 : j < m
  · exact a i j hij c1
  · have : j = m := by omega
    subst this
    by_cases c2 : i = j - 1
    · rw [c2]; exact c
    · exact T.tr _ (e p (j - 1)) _ (h.bd n (by omega)) (h.bd n (by omega)) (h.bd n (by omega)) (a i (j - 1) (by omega) (by omega)) c
theorem dsc_more {p : Array Nat} {m : Nat} (h : PV n p) (hm : 1 ≤ m) (hmn : m < n) (a : Dsc lt p m) (c : lt (e p (m - 1)) (e p m) = false) : Dsc lt p (m + 1) := by
  intro i j hij hj
  by_cases c1 : j < m
  · exact a i j hij c1
  · have : j = m := by omega
    subst this
    by_cases c2 : i = j - 1
    · rw [c2]; exact c
    · exact T.tr _ (e p (j - 1)) _ (h.bd n (by omega)) (h.bd n (by omega)) (h.bd n (by omega)) c (a i (j - 1) (by omega) (by omega))
theorem run_asc {p : Array Nat} (h : PV n p) : ∀ (f m : Nat), 1 ≤ m → m + f ≤ n → Asc lt p m → m ≤ run lt (kas_asc p f m) ∧ run lt (kas_asc p f m) ≤ m + f ∧ Asc lt p (run lt (kas_asc p f m)) ∧ (run lt (kas_asc p f m) < m + f → lt (e p (run lt (kas_asc p f m))) (e p (run lt (kas_asc p f m) - 1)) = true)
  | 0, m, _, _, a => ⟨Nat.le_refl _, Nat.le_refl _, a, fun z => absurd z (Nat.lt_irrefl _)⟩
  | f + 1, m, h1, h2, a => by
    have e0 : run lt (kas_asc p (f + 1) m) = run lt (if lt (e p m) (e p (m - 1)) = true then .ret m else kas_asc p f (m + 1)) := by
      show run lt (if lt (p.getD m 0) (p.getD (m - 1) 0) = true then .ret m else kas_asc p f (m + 1)) = _
      rw [getD_e, getD_e]
    rw [e0]
    cases c : lt (e p m) (e p (m - 1)) with
    | true =>
      rw [if_pos rfl]
      exact ⟨Nat.le_refl _, by show m ≤ _; omega, a, fun _ => c⟩
    | false =>
      rw [if_neg (by decide)]
      obtain ⟨q1, q2, q3, q4⟩ := run_asc h f (m + 1) (by omega) (by omega) (asc_more lt n T h h1 (by omega) a c)
      exact ⟨by omega, by omega, q3, fun z => q4 (by omega)⟩
omit T in
theorem e_rev {p : Array Nat} {i m k : Nat} (hm : m ≤ p.size) : e (kas_rev p i m) k = if i ≤ k ∧ k < m then e p (i + m - 1 - k) else e p k := by
  unfold e kas_rev
  rw [getElem?_mirror_all hm]
  split <;> rfl
omit T in
theorem PV.rev {p : Array Nat} (h : PV n p) (i m : Nat) : PV n (kas_rev p i m) := ⟨by unfold kas_rev; rw [mirror_size]; exact h.sz, (Array.perm_iff_toList_perm.mp (mirror_perm p i m ((m - i) / 2))).trans h.pm⟩
/-- alike ones turned round -/
theorem dsc_turn {p : Array Nat} {i m : Nat} (h : PV n p) (hm : m ≤ n) (a : Dsc lt p m) (b : Blk lt p i m) : Dsc lt (kas_rev p i m) m := by
  intro x y hxy hy
  have hz : m ≤ p.size := by rw [h.sz]; exact hm
  rw [e_rev hz, e_rev hz]
  by_cases cy : i ≤ y ∧ y < m
  · rw [if_pos cy]
    by_cases cx : i ≤ x ∧ x < m
    · rw [if_pos cx]
      exact b _ _ (by omega) (by omega) (by omega) (by omega)
    · rw [if_neg cx]
      exact a _ _ (by omega) (by omega)
  · rw [if_neg cy, if_neg (by omega)]
    exact a _ _ hxy hy
theorem run_desc : ∀ (f : Nat) (p : Array Nat) (m q : Nat), PV n p → q + 1 ≤ m → m + f ≤ n → Dsc lt p m → Blk lt p (m - (q + 1)) m → ∃ p' m' q', run lt (kas_desc f p m q) = (p', m', q') ∧ PV n p' ∧ m ≤ m' ∧ m' ≤ m + f ∧ q' + 1 ≤ m' ∧ Dsc lt p' m' ∧ Blk lt p' (m' - (q' + 1)) m'
  | 0, p, m, q, h, hq, _, a, b => ⟨p, m, q, rfl, h, Nat.le_refl _, Nat.le_refl _, hq, a, b⟩
  | f + 1, p, m, q, h, hq, hf, a, b => by
    have e0 : run lt (kas_desc (f + 1) p m q) = run lt (if lt (e p m) (e p (m - 1)) = true then (if q > 0 then kas_desc f (kas_rev p (m - (q + 1)) m) (m + 1) 0 else kas_desc f p (m + 1) 0) else (if lt (e p (m - 1)) (e p m) = true then .ret (p, m, q) else kas_desc f p (m + 1) (q + 1))) := by
      show run lt (if lt (p.getD m 0) (p.getD (m - 1) 0) = true then (if q > 0 then kas_desc f (kas_rev p (m - (q + 1)) m) (m + 1) 0 else kas_desc f p (m + 1) 0) else .ask (p.getD (m - 1) 0) (p.getD m 0) fun d => if d = true then .ret (p, m, q) else kas_desc f p (m + 1) (q + 1)) = _
      rw [getD_e, getD_e]
      split <;> rfl
    rw [e0]
    have one : ∀ p' : Array Nat, PV n p' → Blk lt p' (m + 1 - (0 + 1)) (m + 1) := fun p' h' x y hx1 hx2 hy1 hy2 => by
      have : x = m := by omega
      have : y = m := by omega
      subst x y
      cases c : lt (e p' m) (e p' m) with
      | false => rfl
      | true => rw [T.asy _ _ (h'.bd n (by omega)) (h'.bd n (by omega)) c] at c; exact absurd c (by decide)
    have hz : m ≤ p.size := by rw [h.sz]; omega
    cases c : lt (e p m) (e p (m - 1)) with
    | true =>
      have c' := T.asy _ _ (h.bd n (by omega)) (h.bd n (by omega)) c
      rw [if_pos rfl]
      by_cases hq0 : q > 0
      · rw [if_pos hq0]
        have h' := h.rev n (m - (q + 1)) m
        have a' := dsc_turn lt n T h (by omega) a b
        have c2 : lt (e (kas_rev p (m - (q + 1)) m) (m - 1)) (e (kas_rev p (m - (q + 1)) m) m) = false := by
          rw [e_rev hz, e_rev hz, if_pos ⟨by omega, by omega⟩, if_neg (by omega)]
          have e1 : m - (q + 1) + m - 1 - (m - 1) = m - (q + 1) := by omega
          rw [e1]
          exact T.tr _ (e p (m - 1)) _ (h.bd n (by omega)) (h.bd n (by omega)) (h.bd n (by omega)) c' (b _ _ (by omega) (by omega) (by omega) (by omega))
        obtain ⟨p', m', q', r1, r2, r3, r4, r5, r6, r7⟩ := run_desc f _ (m + 1) 0 h' (by omega) (by omega) (dsc_more lt n T h' (by omega) (by omega) a' c2) (one _ h')
        exact ⟨p', m', q', r1, r2, by omega, by omega, r5, r6, r7⟩
      · rw [if_neg hq0]
        obtain ⟨p', m', q', r1, r2, r3, r4, r5, r6, r7⟩ := run_desc f p (m + 1) 0 h (by omega) (by omega) (dsc_more lt n T h (by omega) (by omega) a c') (one _ h)
        exact ⟨p', m', q', r1, r2, by omega, by omega, r5, r6, r7⟩
    | false =>
      rw [if_neg (by decide)]
      cases d : lt (e p (m - 1)) (e p m) with
      | true =>
        rw [if_pos rfl]
        exact ⟨p, m, q, rfl, h, Nat.le_refl _, by omega, hq, a, b⟩
      | false =>
        rw [if_neg (by decide)]
        have b' : Blk lt p (m + 1 - (q + 1 + 1)) (m + 1) := by
          have em : m + 1 - (q + 1 + 1) = m - (q + 1) := by omega
          rw [em]
          have up : ∀ x, m - (q + 1) ≤ x → x < m → lt (e p x) (e p m) = false ∧ lt (e p m) (e p x) = false := fun x h1 h2 =>
            ⟨T.tr _ (e p (m - 1)) _ (h.bd n (by omega)) (h.bd n (by omega)) (h.bd n (by omega)) d (b _ _ h1 h2 (by omega) (by omega)), T.tr _ (e p (m - 1)) _ (h.bd n (by omega)) (h.bd n (by omega)) (h.bd n (by omega)) (b _ _ (by omega) (by omega) h1 h2) c⟩
          intro x y hx1 hx2 hy1 hy2
          by_cases cx : x = m
          · by_cases cy : y = m
            · rw [cx, cy]
              exact one p h m m (by omega) (by omega) (by omega) (by omega)
            · rw [cx]; exact (up y hy1 (by omega)).2
          · by_cases cy : y = m
            · rw [cy]; exact (up x hx1 (by omega)).1
            · exact b x y hx1 (by omega) hy1 (by omega)
        obtain ⟨p', m', q', r1, r2, r3, r4, r5, r6, r7⟩ := run_desc f p (m + 1) (q + 1) h (by omega) (by omega) (dsc_more lt n T h (by omega) (by omega) a d) b'
        exact ⟨p', m', q', r1, r2, by omega, by omega, r5, r6, r7⟩
omit T in
theorem asc_rev {p : Array Nat} {m : Nat} (h : PV n p) (hm : m ≤ n) (a : Dsc lt p m) : Asc lt (kas_rev p 0 m) m := by
  intro i j hij hj
  have hz : m ≤ p.size := by rw [h.sz]; exact hm
  rw [e_rev hz, e_rev hz, if_pos ⟨by omega, by omega⟩, if_pos ⟨by omega, by omega⟩]
  exact a _ _ (by omega) (by omega)
theorem run_tail {p : Array Nat} {m : Nat} (h : PV n p) (h1 : 1 ≤ m) (hm : m ≤ n) (a : Dsc lt p m) : ∃ m' p', run lt (kas_tail3 m n p) = (m', p') ∧ PV n p' ∧ Asc lt p' m' ∧ 1 ≤ m' ∧ m' ≤ n := by
  unfold kas_tail3
  rw [run_bind]
  have h' := h.rev n 0 m
  obtain ⟨q1, q2, q3, _⟩ := run_asc lt n T h' (n - m) m h1 (by omega) (asc_rev lt n h hm a)
  exact ⟨_, _, rfl, h', q3, by omega, by omega⟩
theorem run_dpart {p : Array Nat} {m : Nat} (h : PV n p) (h1 : 1 ≤ m) (hm : m < n) (a : Dsc lt p (m + 1)) : ∃ m' p', run lt (kas_descPart m n p) = (m', p') ∧ PV n p' ∧ Asc lt p' m' ∧ 1 ≤ m' ∧ m' ≤ n := by
  unfold kas_descPart
  rw [run_bind]
  have one : Blk lt p (m + 1 - (0 + 1)) (m + 1) := fun x y hx1 hx2 hy1 hy2 => by
    have : x = m := by omega
    have : y = m := by omega
    subst x y
    cases c : lt (e p m) (e p m) with
    | false => rfl
    | true => rw [T.asy _ _ (h.bd n hm) (h.bd n hm) c] at c; exact absurd c (by decide)
  obtain ⟨p', m', q', r1, r2, r3, r4, r5, r6, r7⟩ := run_desc lt n T (n - (m + 1)) p (m + 1) 0 h (by omega) (by omega) a one
  rw [r1]
  show ∃ m'' p'', run lt (if q' > 0 then kas_tail3 m' n (kas_rev p' (m' - (q' + 1)) m') else kas_tail3 m' n p') = _ ∧ _
  by_cases c : q' > 0
  · rw [if_pos c]
    exact run_tail lt n T (r2.rev n _ _) (by omega) (by omega) (dsc_turn lt n T r2 (by omega) r6 r7)
  · rw [if_neg c]
    exact run_tail lt n T r2 (by omega) (by omega) r6
theorem same_dsc {p : Array Nat} {m : Nat} (h : PV n p) (q1 : 1 ≤ m) (hm : m < n) (q3 : Asc lt p m) (c3 : lt (e p 0) (e p (m - 1)) = false) (cs : lt (e p (m - 1)) (e p m) = false) : Dsc lt (kas_rev p 0 m) (m + 1) := by
  have hz : m ≤ p.size := by rw [h.sz]; omega
  have le : ∀ x y, x ≤ y → y < m → lt (e p y) (e p x) = false := fun x y hxy hy => by
    by_cases z : x = y
    · subst z
      cases c4 : lt (e p x) (e p x) with
      | false => rfl
      | true => rw [T.asy _ _ (h.bd n (by omega)) (h.bd n (by omega)) c4] at c4; exact absurd c4 (by decide)
    · exact q3 x y (by omega) hy
  have al : ∀ x y, x < m → y < m → lt (e p x) (e p y) = false := fun x y hx hy =>
    T.tr _ (e p 0) _ (h.bd n (by omega)) (h.bd n (by omega)) (h.bd n (by omega)) (T.tr _ (e p (m - 1)) _ (h.bd n (by omega)) (h.bd n (by omega)) (h.bd n (by omega)) (le y (m - 1) (by omega) (by omega)) c3) (le 0 x (by omega) hx)
  intro i j hij hj
  rw [e_rev hz, e_rev hz, if_pos ⟨by omega, by omega⟩]
  by_cases cj : j < m
  · rw [if_pos ⟨by omega, cj⟩]
    exact al _ _ (by omega) (by omega)
  · rw [if_neg (by omega)]
    have : j = m := by omega
    subst this
    exact T.tr _ (e p (j - 1)) _ (h.bd n (by omega)) (h.bd n (by omega)) (h.bd n (by omega)) cs (al _ _ (by omega) (by omega))
theorem run_count {p : Array Nat} (h : PV n p) (hn : 2 ≤ n) : ∃ m' p', run lt (kas_count n p) = (m', p') ∧ PV n p' ∧ Asc lt p' m' ∧ 1 ≤ m' ∧ m' ≤ n := by
  unfold kas_count
  rw [run_bind]
  have a1 : Asc lt p 1 := fun i j hij hj => by omega
  obtain ⟨q1, q2, q3, q4⟩ := run_asc lt n T h (n - 1) 1 (Nat.le_refl _) (by omega) a1
  generalize run lt (kas_asc p (n - 1) 1) = m at q1 q2 q3 q4
  by_cases c : m = n
  · have : (m == n) = true := by simpa using c
    rw [if_pos this]
    exact ⟨m, p, rfl, h, q3, q1, by omega⟩
  · have : ¬ (m == n) = true := by simpa using c
    rw [if_neg this]
    have cs := T.asy _ _ (h.bd n (by omega)) (h.bd n (by omega)) (q4 (by omega))
    by_cases c2 : m > 1
    · rw [if_pos c2]
      show ∃ m' p', run lt (if lt (p.getD 0 0) (p.getD (m - 1) 0) = true then .ret (m, p) else kas_descPart m n (kas_rev p 0 m)) = _ ∧ _
      rw [getD_e, getD_e]
      cases c3 : lt (e p 0) (e p (m - 1)) with
      | true =>
        rw [if_pos rfl]
        exact ⟨m, p, rfl, h, q3, q1, by omega⟩
      | false =>
        rw [if_neg (by decide)]
        exact run_dpart lt n T (h.rev n 0 m) (by omega) (by omega) (same_dsc lt n T h q1 (by omega) q3 c3 cs)
    · rw [if_neg c2]
      have m1 : m = 1 := by omega
      subst m1
      refine run_dpart lt n T h (by omega) (by omega) ?_
      intro i j hij hj
      have : i = 0 := by omega
      have : j = 1 := by omega
      subst i j
      exact cs
theorem run_place {p : Array Nat} {k : Nat} (h : PV n p) (hk : k < n) (a : Asc lt p k) : ∀ (f l r : Nat), l ≤ r → r ≤ k → r - l ≤ f → (∀ i, i < l → lt (e p k) (e p i) = false) → (∀ i, r ≤ i → i < k → lt (e p i) (e p k) = false) →
    run lt (kas_place p k f l r) ≤ k ∧ (∀ i, i < run lt (kas_place p k f l r) → lt (e p k) (e p i) = false) ∧ (∀ i, run lt (kas_place p k f l r) ≤ i → i < k → lt (e p i) (e p k) = false)
  | 0, l, r, h1, h2, h3, lo, hi => ⟨by show l ≤ k; omega, lo, fun i hi1 hi2 => hi i (by have z : l ≤ i := hi1; omega) hi2⟩
  | f + 1, l, r, h1, h2, h3, lo, hi => by
    by_cases c : l ≥ r
    · have e0 : run lt (kas_place p k (f + 1) l r) = l := by
        show run lt (if l ≥ r then .ret l else _) = l
        rw [if_pos c]; rfl
      rw [e0]
      exact ⟨by omega, lo, fun i hi1 hi2 => hi i (by omega) hi2⟩
    · have e0 : run lt (kas_place p k (f + 1) l r) = run lt (if lt (e p k) (e p ((l + r) / 2)) = true then kas_place p k f l ((l + r) / 2) else kas_place p k f ((l + r) / 2 + 1) r) := by
        show run lt (if l ≥ r then .ret l else .ask (p.getD k 0) (p.getD ((l + r) / 2) 0) fun c => if c = true then kas_place p k f l ((l + r) / 2) else kas_place p k f ((l + r) / 2 + 1) r) = _
        rw [if_neg c, getD_e, getD_e]
        rfl
      rw [e0]
      have hm1 : l ≤ (l + r) / 2 := by omega
      have hm2 : (l + r) / 2 < r := by omega
      generalize (l + r) / 2 = m at hm1 hm2
      cases cc : lt (e p k) (e p m) with
      | true =>
        have cc' := T.asy _ _ (h.bd n hk) (h.bd n (by omega)) cc
        rw [if_pos rfl]
        refine run_place h hk a f l m hm1 (by omega) (by omega) lo fun i hi1 hi2 => ?_
        by_cases c3 : i = m
        · rw [c3]; exact cc'
        · exact T.tr _ (e p m) _ (h.bd n hk) (h.bd n (by omega)) (h.bd n (by omega)) cc' (a m i (by omega) hi2)
      | false =>
        rw [if_neg (by decide)]
        refine run_place h hk a f (m + 1) r (by omega) h2 (by omega) (fun i hi1 => ?_) hi
        by_cases c3 : i = m
        · rw [c3]; exact cc
        · exact T.tr _ (e p m) _ (h.bd n (by omega)) (h.bd n (by omega)) (h.bd n hk) (a i m (by omega) (by omega)) cc
omit T in
theorem e_bub {p : Array Nat} {k l i : Nat} (hk : k < p.size) (hl : l ≤ k) : e (bubble p k (k - l)) i = if i = l then e p k else if l < i ∧ i ≤ k then e p (i - 1) else e p i := by
  unfold e
  rw [getElem?_bubble hk (k - l) (by omega)]
  have e1 : k - (k - l) = l := by omega
  rw [e1]
  split
  · rfl
  · split <;> rfl
theorem run_bin : ∀ (f : Nat) (p : Array Nat) (k : Nat), PV n p → k + f ≤ n → Asc lt p k → ∃ p', run lt (kas_bin f p k) = p' ∧ PV n p' ∧ Asc lt p' (k + f)
  | 0, p, k, h, _, a => ⟨p, rfl, h, a⟩
  | f + 1, p, k, h, hk, a => by
    obtain ⟨q1, q2, q3⟩ := run_place lt n T h (by omega) a k 0 k (by omega) (Nat.le_refl _) (by omega) (fun i hi => by omega) (fun i h1 h2 => by omega)
    have e0 : run lt (kas_bin (f + 1) p k) = run lt (kas_bin f (bubble p k (k - run lt (kas_place p k k 0 k))) (k + 1)) := by
      show run lt ((kas_place p k k 0 k).bind fun l => kas_bin f (bubble p k (k - l)) (k + 1)) = _
      rw [run_bind]
    rw [e0]
    generalize run lt (kas_place p k k 0 k) = l at q1 q2 q3
    have hz : k < p.size := by rw [h.sz]; omega
    have h' : PV n (bubble p k (k - l)) := ⟨by rw [bubble_size]; exact h.sz, (Array.perm_iff_toList_perm.mp (bubble_perm p k (k - l))).trans h.pm⟩
    have a' : Asc lt (bubble p k (k - l)) (k + 1) := by
      intro i j hij hj
      by_cases c1 : i = l
      · have e1 : e (bubble p k (k - l)) i = e p k := by rw [e_bub hz q1, if_pos c1]
        have e2 : e (bubble p k (k - l)) j = e p (j - 1) := by rw [e_bub hz q1, if_neg (by omega), if_pos ⟨by omega, by omega⟩]
        rw [e1, e2]
        exact q3 (j - 1) (by omega) (by omega)
      · by_cases c2 : j = l
        · have e1 : e (bubble p k (k - l)) i = e p i := by rw [e_bub hz q1, if_neg c1, if_neg (by omega)]
          have e2 : e (bubble p k (k - l)) j = e p k := by rw [e_bub hz q1, if_pos c2]
          rw [e1, e2]
          exact q2 i (by omega)
        · have e1 : e (bubble p k (k - l)) i = if l < i then e p (i - 1) else e p i := by
            rw [e_bub hz q1, if_neg c1]
            by_cases c : l < i
            · rw [if_pos ⟨c, by omega⟩, if_pos c]
            · rw [if_neg (fun z => c z.1), if_neg c]
          have e2 : e (bubble p k (k - l)) j = if l < j then e p (j - 1) else e p j := by
            rw [e_bub hz q1, if_neg c2]
            by_cases c : l < j
            · rw [if_pos ⟨c, by omega⟩, if_pos c]
            · rw [if_neg (fun z => c z.1), if_neg c]
          rw [e1, e2]
          split
          · split
            · exact a _ _ (by omega) (by omega)
            · exact a _ _ (by omega) (by omega)
          · split
            · omega
            · exact a _ _ hij (by omega)
    obtain ⟨p', r1, r2, r3⟩ := run_bin f _ (k + 1) h' (by omega) a'
    exact ⟨p', r1, r2, by rw [show k + (f + 1) = k + 1 + f by omega]; exact r3⟩
/-- sorted, by a whole order -/
theorem run_sort (hn : 2 ≤ n) : ∃ p, run lt (kas_sort n) = p ∧ PV n p ∧ Asc lt p n := by
  unfold kas_sort
  rw [run_bind]
  have h0 : PV n (List.toArray (List.range n)) := ⟨by simp, by simp⟩
  obtain ⟨m, p, e1, e2, e3, e4, e5⟩ := run_count lt n T h0 hn
  rw [e1]
  show ∃ p', run lt (if m < n then kas_bin (n - max m 1) p (max m 1) else .ret p) = p' ∧ _
  have mm : max m 1 = m := by omega
  by_cases c : m < n
  · rw [if_pos c, mm]
    obtain ⟨p', r1, r2, r3⟩ := run_bin lt n T (n - m) p m e2 (by omega) e3
    exact ⟨p', r1, r2, by rw [show m + (n - m) = n by omega] at r3; exact r3⟩
  · rw [if_neg c]
    have : m = n := by omega
    subst this
    exact ⟨p, rfl, e2, e3⟩
omit T in
/-- only places below n are asked -/
def In {α : Type} : KasT α → Prop
  | .ret _ => True
  | .ask i j k => i < n ∧ j < n ∧ i ≠ j ∧ In (k (lt i j))
omit T in
theorem In_bind {α β : Type} {f : α → KasT β} : ∀ {t : KasT α}, In lt n t → In lt n (f (run lt t)) → In lt n (t.bind f)
  | .ret _, _, h => h
  | .ask i j k, h, h' => ⟨h.1, h.2.1, h.2.2.1, In_bind h.2.2.2 h'⟩
omit T in
theorem In_asc {p : Array Nat} (h : PV n p) : ∀ (f m : Nat), 1 ≤ m → m + f ≤ n → In lt n (kas_asc p f m)
  | 0, _, _, _ => trivial
  | f + 1, m, h1, h2 => by
    refine ⟨by rw [getD_e]; exact h.bd n (by omega), by rw [getD_e]; exact h.bd n (by omega), by rw [getD_e, getD_e]; exact h.ne n (by omega) (by omega) (by omega), ?_⟩
    dsimp only
    split
    · exact trivial
    · exact In_asc h f (m + 1) (by omega) (by omega)
omit T in
theorem In_desc : ∀ (f : Nat) (p : Array Nat) (m q : Nat), PV n p → 1 ≤ m → m + f ≤ n → In lt n (kas_desc f p m q)
  | 0, _, _, _, _, _, _ => trivial
  | f + 1, p, m, q, h, h1, h2 => by
    refine ⟨by rw [getD_e]; exact h.bd n (by omega), by rw [getD_e]; exact h.bd n (by omega), by rw [getD_e, getD_e]; exact h.ne n (by omega) (by omega) (by omega), ?_⟩
    dsimp only
    split
    · split
      · exact In_desc f _ _ _ (h.rev n _ _) (by omega) (by omega)
      · exact In_desc f _ _ _ h (by omega) (by omega)
    · refine ⟨by rw [getD_e]; exact h.bd n (by omega), by rw [getD_e]; exact h.bd n (by omega), by rw [getD_e, getD_e]; exact h.ne n (by omega) (by omega) (by omega), ?_⟩
      dsimp only
      split
      · exact trivial
      · exact In_desc f _ _ _ h (by omega) (by omega)
omit T in
theorem In_tail {p : Array Nat} {m : Nat} (h : PV n p) (h1 : 1 ≤ m) (hm : m ≤ n) : In lt n (kas_tail3 m n p) := In_bind lt n (In_asc lt n (h.rev n 0 m) (n - m) m h1 (by omega)) trivial
theorem In_dpart {p : Array Nat} {m : Nat} (h : PV n p) (h1 : 1 ≤ m) (hm : m < n) (a : Dsc lt p (m + 1)) : In lt n (kas_descPart m n p) := by
  have one : Blk lt p (m + 1 - (0 + 1)) (m + 1) := fun x y hx1 hx2 hy1 hy2 => by
    have : x = m := by omega
    have : y = m := by omega
    subst x y
    cases c : lt (e p m) (e p m) with
    | false => rfl
    | true => rw [T.asy _ _ (h.bd n hm) (h.bd n hm) c] at c; exact absurd c (by decide)
  obtain ⟨p', m', q', r1, r2, r3, r4, r5, r6, r7⟩ := run_desc lt n T (n - (m + 1)) p (m + 1) 0 h (by omega) (by omega) a one
  refine In_bind lt n (In_desc lt n _ _ _ _ h (by omega) (by omega)) ?_
  rw [r1]
  show In lt n (if q' > 0 then kas_tail3 m' n (kas_rev p' (m' - (q' + 1)) m') else kas_tail3 m' n p')
  split
  · exact In_tail lt n (r2.rev n _ _) (by omega) (by omega)
  · exact In_tail lt n r2 (by omega) (by omega)
theorem In_count {p : Array Nat} (h : PV n p) (hn : 2 ≤ n) : In lt n (kas_count n p) := by
  refine In_bind lt n (In_asc lt n h (n - 1) 1 (by omega) (by omega)) ?_
  have a1 : Asc lt p 1 := fun i j hij hj => by omega
  obtain ⟨q1, q2, q3, q4⟩ := run_asc lt n T h (n - 1) 1 (Nat.le_refl _) (by omega) a1
  generalize run lt (kas_asc p (n - 1) 1) = m at q1 q2 q3 q4
  by_cases c : m = n
  · have : (m == n) = true := by simpa using c
    rw [if_pos this]
    exact trivial
  · have : ¬ (m == n) = true := by simpa using c
    rw [if_neg this]
    have cs := T.asy _ _ (h.bd n (by omega)) (h.bd n (by omega)) (q4 (by omega))
    by_cases c2 : m > 1
    · rw [if_pos c2]
      refine ⟨by rw [getD_e]; exact h.bd n (by omega), by rw [getD_e]; exact h.bd n (by omega), by rw [getD_e, getD_e]; exact h.ne n (by omega) (by omega) (by omega), ?_⟩
      rw [getD_e, getD_e]
      cases c3 : lt (e p 0) (e p (m - 1)) with
      | true => exact trivial
      | false =>
        show In lt n (if false = true then _ else kas_descPart m n (kas_rev p 0 m))
        rw [if_neg (by decide)]
        exact In_dpart lt n T (h.rev n 0 m) (by omega) (by omega) (same_dsc lt n T h q1 (by omega) q3 c3 cs)
    · rw [if_neg c2]
      have m1 : m = 1 := by omega
      subst m1
      refine In_dpart lt n T h (by omega) (by omega) ?_
      intro i j hij hj
      have : i = 0 := by omega
      have : j = 1 := by omega
      subst i j
      exact cs
omit T in
theorem In_place {p : Array Nat} {k : Nat} (h : PV n p) (hk : k < n) : ∀ (f l r : Nat), r ≤ k → In lt n (kas_place p k f l r)
  | 0, _, _, _ => trivial
  | f + 1, l, r, h2 => by
    show In lt n (if l ≥ r then .ret l else .ask (p.getD k 0) (p.getD ((l + r) / 2) 0) fun c => if c = true then kas_place p k f l ((l + r) / 2) else kas_place p k f ((l + r) / 2 + 1) r)
    split
    · exact trivial
    · refine ⟨by rw [getD_e]; exact h.bd n hk, by rw [getD_e]; exact h.bd n (by omega), by rw [getD_e, getD_e]; exact h.ne n hk (by omega) (by omega), ?_⟩
      dsimp only
      split
      · exact In_place h hk f l _ (by omega)
      · exact In_place h hk f _ r h2
omit T in
theorem In_bin : ∀ (f : Nat) (p : Array Nat) (k : Nat), PV n p → k + f ≤ n → In lt n (kas_bin f p k)
  | 0, _, _, _, _ => trivial
  | f + 1, p, k, h, hk => by
    refine In_bind lt n (In_place lt n h (by omega) k 0 k (Nat.le_refl _)) ?_
    exact In_bin f _ (k + 1) ⟨by rw [bubble_size]; exact h.sz, (Array.perm_iff_toList_perm.mp (bubble_perm p k _)).trans h.pm⟩ (by omega)
theorem In_sort (hn : 2 ≤ n) : In lt n (kas_sort n) := by
  have h0 : PV n (List.toArray (List.range n)) := ⟨by simp, by simp⟩
  refine In_bind lt n (In_count lt n T h0 hn) ?_
  obtain ⟨m, p, e1, e2, e3, e4, e5⟩ := run_count lt n T h0 hn
  rw [e1]
  show In lt n (if m < n then kas_bin (n - max m 1) p (max m 1) else .ret p)
  split
  · exact In_bin lt n _ _ _ e2 (by omega)
  · exact trivial
omit T in
/-- asked without a change of the state -/
theorem wp_run {α : Type} {cmp : Nat → Nat → (Bool → Shared → Prop) → Shared → Prop} {s : Shared} (hc : ∀ i j, i < n → j < n → i ≠ j → ∀ C, C (lt i j) s → cmp i j C s) {Q : α → Shared → Prop} : ∀ t : KasT α, In lt n t → Q (run lt t) s → t.kasWp cmp Q s
  | .ret _, _, h => h
  | .ask i j k, hi, h => hc i j hi.1 hi.2.1 hi.2.2.1 _ (wp_run hc (k (lt i j)) hi.2.2.2 h)
end WSrt

set_option Elab.async false
set_option linter.all false
set_option maxRecDepth 100000
set_option maxHeartbeats 4000000
namespace L2
open PySem PySem.Spec PyProof.Rows PySem.W
/-! ### sorted, by any weak order whose asking changes nothing -/
section
variable {prog : Program} {w : World} {A : Around} {E : Value → Shared → Prop} {s : Shared}
end
/-! ### sorted: tuples that begin with two ints, no two of them alike in these -/
section
variable {X : Cx}
end
end L2

set_option Elab.async false
set_option linter.all false
set_option maxRecDepth 100000
set_option maxHeartbeats 4000000
namespace L2
open PySem PySem.Spec PyProof.Rows PySem.W
/-! ### sorted by a key -/
theorem Inv.adopt {X : Cx} {pins : List (Addr × Obj)} {σ : St} {H : Hp} {s : Shared} {a : Addr} {o : HO} (I : Inv X pins σ H s) (hn : H a = none) (hL : a ≠ X.env.locals) (h1 : X.s₀.heap.objs.size ≤ a) (h2 : ∀ x c, X.env.cells.lookup x = some c → c ≠ a) (h3 : ∀ p ∈ X.pn ++ pins, p.1 ≠ a) (new : ObjOk X.prog X.w (upd H a o) s.heap a o) : Inv X pins σ (upd H a o) s := by
  have sm : Same H (upd H a o) := Same.new hn
  refine ⟨I.ok, I.os, I.bare, ⟨I.base.keep, I.base.slot, fun b u e n hx => ?_, I.base.there, fun b xs e => sm _ _ (I.base.tups b xs e), fun b u v e => sm _ _ (I.base.frzs b u v e), fun b ps e => ?_⟩, I.loc, I.cell, ?_, fun x c e => ?_, fun p hp => ?_, fun b u e => ?_, I.len⟩
  · rw [upd_ne (Nat.ne_of_lt (Nat.lt_of_lt_of_le (Heap.lt_size e) h1))]; exact I.base.free b u e n hx
  · obtain ⟨more, z⟩ := I.base.tbls b ps e; exact ⟨more, sm _ _ z⟩
  · rw [upd_ne (Ne.symm hL)]; exact I.free
  · rw [upd_ne (h2 x c e)]; exact I.freeC x c e
  · obtain ⟨g1, g2, g3⟩ := I.pin p hp; exact ⟨g1, by rw [upd_ne (h3 p hp)]; exact g2, g3⟩
  · by_cases hb : b = a
    · subst hb; rw [upd_same] at e; cases e; exact new
    · rw [upd_ne hb] at e
      exact (I.hok b u e).stay (fun _ _ _ q => q) (fun _ q => sm _ _ q) fun _ _ q => sm _ _ q
/-- the order in which the places come -/
def ord (lt : Nat → Nat → Bool) (n : Nat) : List Nat := if 2 ≤ n then (WSrt.run lt (kas_sort n)).toList else List.range n
theorem ord_perm {lt : Nat → Nat → Bool} {n : Nat} (T : WSrt.Wk lt n) : (ord lt n).Perm (List.range n) := by
  unfold ord
  split
  · rename_i h
    obtain ⟨p, e, h1, h2⟩ := WSrt.run_sort lt n T h
    rw [e]; exact h1.pm
  · exact .refl _
theorem ord_asc {lt : Nat → Nat → Bool} {n : Nat} (T : WSrt.Wk lt n) : (ord lt n).Pairwise fun i j => lt j i = false := by
  unfold ord
  split
  · rename_i h
    obtain ⟨p, e, h1, h2⟩ := WSrt.run_sort lt n T h
    rw [e, List.pairwise_iff_getElem]
    intro i j hi hj hij
    have hj' : j < n := by rw [Array.length_toList, h1.sz] at hj; exact hj
    have e1 := (List.getElem?_eq_some_iff.mp (WSrt.e_list (p := p) (i := i) (by rw [h1.sz]; omega))).2
    have e2 := (List.getElem?_eq_some_iff.mp (WSrt.e_list (p := p) (i := j) (by rw [h1.sz]; omega))).2
    rw [e1, e2]
    exact h2 i j hij hj'
  · match n with
    | 0 => exact List.Pairwise.nil
    | 1 => exact List.pairwise_singleton _ _
    | n + 2 => exact absurd (show 2 ≤ n + 2 by omega) (by assumption)
def TupS (H H' : Hp) : Prop := ∀ b xs, H b = some (.tup xs) → H' b = some (.tup xs)
theorem Same.tu {H H' : Hp} (s : Same H H') : TupS H H' := fun b xs e => s _ _ e
/-- what a key is -/
structure KeyO (KO : Nat → V → Hp → Prop) : Prop where
  mono : ∀ i v H H', TupS H H' → KO i v H → KO i v H'
section
variable {X : Cx} {pins : List (Addr × Obj)} {σ : St} {H : Hp} {s : Shared} {κ : SortKind} {lt : Nat → Nat → Bool} {KO : Nat → V → Hp → Prop} {xs : List V} {q : Addr}
def KTurn (X : Cx) (σ : St) (H : Hp) (KO : Nat → V → Hp → Prop) (xs : List V) (q : Addr) : Prop := ∀ i x u pins' H' s', xs[i]? = some x → RelV x u → Inv X pins' σ H' s' → Same H H' →
  wpAny (model X.prog X.w) X.A.in1.in1 (call (.ref q) [u]) (EP X pins' σ (fun v H'' => Same H' H'' ∧ KO i v H'')) (fun _ _ => False) s'
def KKind (X : Cx) (KO : Nat → V → Hp → Prop) (n : Nat) (κ : SortKind) : Prop := ∀ pins σ H s kv ks, Inv X pins σ H s → Vals kv ks → kv.length = n → 2 ≤ n → (∀ i v, kv[i]? = some v → KO i v H) → ∀ R : SortKind → Shared → Prop, R κ s → wpAny (model X.prog X.w) X.A.in1.in1 (keyKind' ks.toArray) R (fun _ _ => False) s
def KAsk (X : Cx) (KO : Nat → V → Hp → Prop) (n : Nat) (κ : SortKind) (lt : Nat → Nat → Bool) : Prop := ∀ pins σ H s kv ks, Inv X pins σ H s → Vals kv ks → kv.length = n → (∀ i v, kv[i]? = some v → KO i v H) → ∀ i j, i < n → j < n → i ≠ j → ∀ C : Bool → Shared → Prop, C (lt i j) s → kas_ask X.prog X.w X.A.in1.in1 κ ks i j C s
theorem vals_getD {xs : List V} {vs : List Value} (h : Vals xs vs) (p : List Nat) (hp : ∀ i ∈ p, i < xs.length) : Vals (p.map fun i => xs.getD i .non) (p.map fun i => vs.getD i Value.none) := by
  induction p with
  | nil => exact .nil
  | cons i p ih =>
    rw [List.map_cons, List.map_cons]
    refine .cons ?_ (ih fun j hj => hp j (List.mem_cons_of_mem _ hj))
    have hi := hp i (List.mem_cons_self ..)
    obtain ⟨u, hu, r⟩ := h.get (List.getElem?_eq_getElem hi)
    rw [List.getD, List.getD, List.getElem?_eq_getElem hi, hu]
    exact r
theorem ksort_any {a : Addr} {vs : List Value} {m : Nat} {P : PySem.Fin → Shared → Prop} {E : Value → Shared → Prop} (I : Inv X pins σ H s) (ho : s.heap.get? a = some (seqObj "list" vs.toArray m)) (fa : FpOk X pins H a) (ha : X.s₀.heap.objs.size ≤ a) (hv : Vals xs vs) (h64 : xs.length < 64)
    (T : WSrt.Wk lt xs.length) (ko : KeyO KO) (turn : KTurn X σ H KO xs q) (kind : KKind X KO xs.length κ) (ask : KAsk X KO xs.length κ lt)
    (fin : ∀ H' s', Same H H' → H' a = none → Inv X pins σ (upd H' a (.lst ((ord lt xs.length).map fun i => xs.getD i .non))) s' → P (.done (.ret .none)) s') :
    wpAny (model X.prog X.w) X.A.in1.in1 (ksk_tree a (.ref q) false) P E s := by
  have hlen : vs.length = xs.length := hv.length.symm
  obtain ⟨fa1, fa2, fa3, fa4, fa5, fa6⟩ := fa
  have sl : sizeLine = 16777216 := sizeLine_eq
  have s1 := Heap.SameBut.update s.heap a (Obj.mapSeq fun _ => (#[] : Array Value))
  obtain ⟨e1, ho1⟩ : ∃ e1, (s.heap.update a (Obj.mapSeq fun _ => (#[] : Array Value))).get? a = some (seqObj "list" #[] e1) := ⟨_, get?_update_seq ho fun _ => #[]⟩
  have I1 : Inv X pins σ H { s with heap := s.heap.update a (Obj.mapSeq fun _ => (#[] : Array Value)) } := I.turned (t' := s.toks) (it := a) (fun b o hb e => (s1.2 b hb).trans e) fa1 fa2 fa4 fa5 fa6
  have I2 : Inv X pins σ H { s with heap := (s.heap.update a (Obj.mapSeq fun _ => (#[] : Array Value))).push (seqObj "tuple" vs.toArray 0) } := I1.kept (t' := s.toks) (fun b u e => Heap.get?_push_of_some _ e)
  obtain ⟨h2, hh2⟩ : ∃ h2, h2 = (s.heap.update a (Obj.mapSeq fun _ => (#[] : Array Value))).push (seqObj "tuple" vs.toArray 0) := ⟨_, rfl⟩
  rw [← hh2] at I2
  have ho2 : h2.get? a = some (seqObj "list" #[] e1) := by rw [hh2]; exact Heap.get?_push_of_some _ ho1
  obtain ⟨kS, hkS⟩ : ∃ kS, kS = h2.objs.size := ⟨_, rfl⟩
  have hk0 : H kS = none := by rw [hkS]; exact I2.fresh
  have ak : a ≠ kS := by rw [hkS]; exact Nat.ne_of_lt (Heap.lt_size ho2)
  have I3 : Inv X (pins ++ [(a, seqObj "list" #[] e1)]) σ (upd H kS (.lst [])) { s with heap := h2.push (seqObj "list" #[] 0) } := by
    have z := I2.lnew (t' := s.toks) (its := []) (ys := []) .nil (Nat.zero_le _)
    rw [← show kS = h2.objs.size from hkS] at z
    refine z.pins_of fun p hp => ?_
    rcases List.mem_append.mp hp with hp | hp
    · exact z.pin p (List.mem_append_right _ hp)
    · rw [List.mem_singleton.mp hp]
      exact ⟨Heap.get?_push_of_some _ ho2, by rw [upd_ne ak]; exact fa1, fa2, fa3, fun v z => nomatch z⟩
  unfold ksk_tree
  refine wpAny_bind (listItems_at ho rfl ?_)
  refine wpAny_bind (listUpdate_at ho rfl ?_ (by rw [List.size_toArray]; omega) (Nat.zero_le _))
  refine wpAny_bind (seqEpoch_at ho1 rfl ?_)
  refine wpAny_bind (wpAny_newTuple ?_ (by show vs.length ≤ _; omega))
  refine wpAny_bind (wpAny_newList ?_ (Nat.zero_le _))
  refine wpAny_holding ?_
  show wpAny (model X.prog X.w) X.A.in1.in1 (ksk_rest a (.ref q) false vs.toArray e1 (.ref ((s.heap.update a (Obj.mapSeq fun _ => (#[] : Array Value))).push (seqObj "tuple" vs.toArray 0)).objs.size)) P E { s with heap := ((s.heap.update a (Obj.mapSeq fun _ => (#[] : Array Value))).push (seqObj "tuple" vs.toArray 0)).push (seqObj "list" #[] 0) }
  rw [← hh2, ← hkS]
  unfold ksk_rest
  refine wpAny_bind (wpAny_rule ?_)
  first
    | rw [List.forIn_toArray]
    | (rw [← Array.forIn_toList]; simp only [List.toList_toArray])
    | rw [← Array.forIn_toList]
  refine wpAny_bind (ksk_fold (fun i s' => ∃ H' kv, Inv X (pins ++ [(a, seqObj "list" #[] e1)]) σ H' s' ∧ Same H H' ∧ H' kS = some (.lst kv) ∧ kv.length = i ∧ ∀ j v, kv[j]? = some v → KO j v H') vs 0 _
    ⟨_, [], I3, Same.new hk0, upd_same, rfl, fun j v e => by cases e⟩ ?step ?done)
  case step =>
    rintro j u s' hx ⟨H', kv, J, sm, hk, hl, hKO⟩
    simp only [Nat.zero_add] at hl ⊢
    have hj : j < vs.length := (List.getElem?_eq_some_iff.mp hx).1
    obtain ⟨x, hxx⟩ : ∃ x, xs[j]? = some x := ⟨_, List.getElem?_eq_getElem (by omega)⟩
    obtain ⟨u', hu', rx⟩ := hv.get hxx
    rw [hx] at hu'
    cases hu'
    refine wpAny_bind (wpAny_attempt (wpAny_mono (turn j x u _ H' s' hxx rx J sm) (fun u2 s2 he => ?_) fun _ _ hF => hF.elim))
    obtain ⟨v, H2, J2, rv, sm2, kv2⟩ := he
    try dsimp only
    have hk2 := sm2 _ _ hk
    obtain ⟨_, its, n, rits, lits, gits⟩ := J2.lstM hk2
    have J3 := J2.lset (t' := s2.toks) (its' := its ++ [u2]) (ys := kv ++ [v]) (f := (·.push u2)) hk2 gits (by simp) (rits.append (.cons rv .nil)) (by rw [List.length_append]; show kv.length + 1 ≤ _; omega)
    refine wpAny_bind (listUpdate_at gits rfl ?_ (by rw [List.size_toArray]; omega) (Nat.le_trans (Nat.le_of_eq (Array.size_push ..)) (by rw [List.size_toArray]; omega)))
    refine wpAny_pure ⟨rfl, _, _, J3, (sm.trans sm2).put hk0, upd_same, by rw [List.length_append, hl]; rfl, fun i w hw => ?_⟩
    have tu : TupS H2 (upd H2 kS (.lst (kv ++ [v]))) := fun b ys e => by rw [upd_ne (fun z => by rw [z, hk2] at e; cases e)]; exact e
    by_cases hi : i < kv.length
    · rw [List.getElem?_append_left hi] at hw
      exact ko.mono _ _ _ _ tu (ko.mono _ _ _ _ sm2.tu (hKO i w hw))
    · rw [List.getElem?_append_right (by omega)] at hw
      have : i = j := by
        have := (List.getElem?_eq_some_iff.mp hw).1
        simp at this
        omega
      subst this
      rw [hl, Nat.sub_self] at hw
      cases hw
      exact ko.mono _ _ _ _ tu kv2
  case done =>
    rintro s' ⟨H', kv, J, sm, hk, hl, hKO⟩
    rw [Nat.zero_add] at hl
    obtain ⟨_, its, n, rits, lits, gits⟩ := J.lstM hk
    try dsimp only
    refine wpAny_bind (listItems_at gits rfl ?_)
    have hil : its.length = vs.length := by omega
    have tail : ∀ st : SortSt, (arrOf st).map (·.2) = List.toArray ((ord lt xs.length).map fun i => vs.getD i Value.none) → failedOf st = none → wpAny (model X.prog X.w) X.A.in1.in1 (ksk_tail a false e1 (.ref kS) st) P E s' := by
      intro st hst hf
      unfold ksk_tail
      rw [hst, hf]
      try dsimp only
      have om := ord_perm T
      have osz : (ord lt xs.length).length = xs.length := by rw [om.length_eq, List.length_range]
      have J3 := J.lset (t' := s'.toks) (its' := []) (ys := []) (f := fun _ => #[]) hk gits rfl .nil (Nat.zero_le _)
      refine wpAny_bind (listUpdate_at gits rfl ?_ (by rw [List.size_toArray]; omega) (Nat.zero_le _))
      refine wpAny_bind (wpAny_letGo ?_)
      have pa := (J3.pin (a, seqObj "list" #[] e1) (List.mem_append_right _ (List.mem_append_right _ (List.mem_singleton.mpr rfl)))).1
      refine wpAny_bind (seqEpoch_at pa rfl ?_)
      have vout : Vals ((ord lt xs.length).map fun i => xs.getD i .non) ((ord lt xs.length).map fun i => vs.getD i Value.none) := vals_getD hv _ fun i hi => List.mem_range.mp (om.mem_iff.mp hi)
      refine wpAny_bind (listUpdate_at pa rfl ?_ (Nat.zero_le _) (by simp only [Bool.false_eq_true, if_false]; rw [List.size_toArray, List.length_map]; omega))
      simp only [bne_self_eq_false, Bool.false_eq_true, if_false]
      refine wpAny_pure ?_
      have J4 := J3.unpinned
      have s2 := Heap.SameBut.update (s'.heap.update kS (Obj.mapSeq fun _ => (#[] : Array Value))) a (Obj.mapSeq fun _ => List.toArray ((ord lt xs.length).map fun i => vs.getD i Value.none))
      have hn : (upd H' kS (.lst [])) a = none := (J3.pin (a, seqObj "list" #[] e1) (List.mem_append_right _ (List.mem_append_right _ (List.mem_singleton.mpr rfl)))).2.1
      have J5 := J4.turned (t' := s'.toks) (it := a) (fun b o hb e => (s2.2 b hb).trans e) hn fa2 fa4 fa5 fa6
      obtain ⟨c2, hc2⟩ : ∃ c2, ((s'.heap.update kS (Obj.mapSeq fun _ => (#[] : Array Value))).update a (Obj.mapSeq fun _ => List.toArray ((ord lt xs.length).map fun i => vs.getD i Value.none))).get? a = some (seqObj "list" (List.toArray ((ord lt xs.length).map fun i => vs.getD i Value.none)) c2) :=
        ⟨_, get?_update_seq pa fun _ => List.toArray ((ord lt xs.length).map fun i => vs.getD i Value.none)⟩
      refine fin _ _ (sm.put hk0) hn (J5.adopt hn fa2 ha fa5 fa6 ⟨?_, _, c2, vout, hc2⟩)
      rw [List.length_map]; omega
    unfold ksk_end
    try dsimp only
    simp only [Bool.false_eq_true, if_false]
    by_cases h2 : vs.toArray.size < 2
    · rw [if_pos h2, if_pos h2]
      refine wpAny_bind (wpAny_pure ?_)
      rw [StateT.run_pure]
      refine wpAny_bind (wpAny_pure ?_)
      try dsimp only
      refine tail _ ?_ rfl
      rw [List.size_toArray] at h2
      have est := kas_range (its.toArray.zip vs.toArray)
      rw [show (its.toArray.zip vs.toArray).size = vs.length by simp [hil]] at est
      have har : arrOf (SortSt.mk' general' (its.toArray.zip vs.toArray) #[] 7 none) = (List.toArray (List.range vs.length)).map (kas_item (its.toArray.zip vs.toArray)) := est.symm
      rw [kat_snds hil har]
      unfold ord
      rw [if_neg (by omega), hlen]
    · rw [if_neg h2, if_neg h2]
      rw [List.size_toArray] at h2
      have h2' : 2 ≤ xs.length := by omega
      refine wpAny_bind (wpAny_mono (kind _ _ _ _ _ _ J rits (by omega) h2' hKO (fun κ' s'' => κ' = κ ∧ s'' = s') ⟨rfl, rfl⟩) (fun κ' s'' hs => ?_) fun _ _ z => z.elim)
      obtain ⟨rfl, rfl⟩ := hs
      obtain ⟨p, hp1, hp2, hp3⟩ := WSrt.run_sort lt xs.length T h2'
      refine wpAny_bind (wpAny_mono (kat_run (ks := its) (vs := vs) (Q := fun st' s3 => s3 = s'' ∧ arrOf st' = p.map (kas_item (its.toArray.zip vs.toArray)) ∧ failedOf st' = none) (G := fun p' s3 => p' = p ∧ s3 = s'')
        hil (by omega) (by omega) (fun p' st' s3 z1 z2 z3 z4 => ⟨z4.2, by rw [z2, z4.1], z3⟩) ?_) ?_ fun _ _ z => z)
      · rw [hlen]
        exact WSrt.wp_run lt xs.length (fun i j hi hj hn C hC => ask _ _ _ _ _ _ J rits (by omega) hKO i j hi hj hn C hC) _ (WSrt.In_sort lt xs.length T h2') ⟨hp1, rfl⟩
      rintro ⟨⟨⟩, st'⟩ s3 ⟨rfl, har, hf⟩
      dsimp only
      refine tail st' ?_ hf
      rw [kat_snds hil har]
      unfold ord
      rw [if_pos h2', hp1]
theorem sorted_key {l : Addr} {Q : VK} {E : Value → Shared → Prop} (I : Inv X pins σ H s) (hl : SqL X.K H l xs) (h64 : xs.length < 64)
    (T : WSrt.Wk lt xs.length) (ko : KeyO KO) (turn : KTurn X σ H KO xs q) (kind : KKind X KO xs.length κ) (ask : KAsk X KO xs.length κ lt)
    (fin : ∀ D H', Same H H' → H D = none → H' D = none → Q (.ref D) (upd H' D (.lst ((ord lt xs.length).map fun i => xs.getD i .non)))) :
    wpAny (model X.prog X.w) X.A (call (.builtin "sorted") [.ref l] [(Str.ofString "key", .ref q)]) (EP X pins σ Q) E s := by
  obtain ⟨vs, rv, pl, hz⟩ := I.list hl
  have hlen : vs.length = xs.length := rv.length.symm
  have sl : sizeLine = 16777216 := sizeLine_eq
  refine call_function_entry_kw kind_sorted plain_sorted entry_sorted (ksk_s1 _ _) ?_
  unfold Builtin.«sorted»
  refine wpAny_bind (m := checkCount "sorted" 1 1 _) (wpAny_pure ?_)
  refine wpAny_bind (collect_list pl.isList ?_ (by omega))
  refine wpAny_bind (wpAny_newList ?_ (by show vs.length ≤ _; omega))
  have hsz : ((s.heap.push (seqObj "list" #[] 0)).update s.heap.objs.size (Obj.mapSeq (· ++ vs.toArray))).objs.size = s.heap.objs.size + 1 := by
    rw [Heap.size_update, size_push']
  have hoL : (((s.heap.push (seqObj "list" #[] 0)).update s.heap.objs.size (Obj.mapSeq (· ++ vs.toArray))).push (seqObj "list" vs.toArray 0)).get? (s.heap.objs.size + 1) = some (seqObj "list" vs.toArray 0) := by
    rw [← hsz]; exact Heap.get?_push_size _ rfl
  have keep : ∀ b o, s.heap.get? b = some o → (((s.heap.push (seqObj "list" #[] 0)).update s.heap.objs.size (Obj.mapSeq (· ++ vs.toArray))).push (seqObj "list" vs.toArray 0)).get? b = some o := fun b o z => by
    have hb : b < s.heap.objs.size := Heap.lt_size z
    refine Heap.get?_push_of_some _ ?_
    rw [Heap.get?_update_ne _ _ _ _ (Nat.ne_of_lt hb)]
    exact Heap.get?_push_of_some _ z
  have hn : H (s.heap.objs.size + 1) = none := I.hok.fresh (Nat.le_succ _)
  have fa : FpOk X pins H (s.heap.objs.size + 1) := I.fpOk (Nat.le_succ _) hn
  have I1 : Inv X pins σ H { s with heap := ((s.heap.push (seqObj "list" #[] 0)).update s.heap.objs.size (Obj.mapSeq (· ++ vs.toArray))).push (seqObj "list" vs.toArray 0) } := I.kept (t' := s.toks) keep
  show wpAny _ _ _ _ _ { s with heap := ((s.heap.push (seqObj "list" #[] 0)).update s.heap.objs.size (Obj.mapSeq (· ++ vs.toArray))).push (seqObj "list" vs.toArray 0) }
  rw [hsz]
  refine wpAny_bind (wpAny_holding (wpAny_call_entry_kw slot_list_sort ⟨_, hoL, rfl⟩ entry_list_sort ?body (ksk_l1 _ _)))
  case body =>
    rw [ksk_t1]
    refine ksort_any I1 hoL fa (Nat.le_trans I.sz (Nat.le_succ _)) rv h64 T ko turn kind ask fun H' s' sm ha J => ⟨_, rfl, ?_⟩
    exact wpAny_pure ⟨_, rfl, .ref (s.heap.objs.size + 1), _, J, rfl, fin _ _ sm hn ha⟩
end
end L2

set_option Elab.async false
set_option linter.all false
set_option maxRecDepth 100000
set_option maxHeartbeats 4000000
namespace L2
open PySem PySem.Spec PyProof.Rows PySem.W
/-! ### a lambda called while the cells that it sees are the caller's own -/
abbrev CellsU (H : Hp) (h : Heap) : List (Str × Addr) → List V → Prop := Paired fun (p : Str × Addr) (v : V) => H p.2 = none ∧ CellX p.2 v h
theorem CellsU.mem {H : Hp} {h : Heap} : ∀ {clos : List (Str × Addr)} {vals : List V}, CellsU H h clos vals → ∀ p ∈ clos, ∃ v, H p.2 = none ∧ CellX p.2 v h
  | _, _, .nil, p, z => by cases z
  | _, _, .cons r t, p, z => by
    rcases List.mem_cons.mp z with rfl | z
    · exact ⟨_, r⟩
    · exact CellsU.mem t p z
theorem CellsU.get {H : Hp} {h : Heap} : ∀ {clos : List (Str × Addr)} {vals : List V} {i : Nat} {v : V}, CellsU H h clos vals → vals[i]? = some v → ∃ p, clos[i]? = some p ∧ H p.2 = none ∧ CellX p.2 v h
  | _, _, _, _, .nil, h => by cases h
  | _, _, 0, _, .cons r t, h => by cases h; exact ⟨_, rfl, r⟩
  | _, _, i + 1, _, .cons r t, h => CellsU.get (i := i) t h
def cxU (P : Program) (w : World) (K : PySem.W.Frag) (mg : Str → Option Value) (base : Heap) (N : List Str) (d : LamD) (clos : List (Str × Addr)) (f c : Addr) (A : Around) (outer : List Env) (s : Shared) (H : Hp) : Cx where
  prog := P
  w := w
  K := K
  mg := mg
  base := base
  A := A.deeper (lamEnv d s.heap.objs.size f c clos)
  N := N
  s₀ := s
  H₀ := H
  env := lamEnv d s.heap.objs.size f c clos
  outer := outer
  stack := lamEnv d s.heap.objs.size f c clos :: outer
  ex := []
  calm := true
  fn := fun _ => false
  pn := []
  xe := fun _ _ => False
def LamU (P : Program) (w : World) (K : PySem.W.Frag) (mg : Str → Option Value) (base : Heap) (k : Nat) (d : LamD) (fv ps : List Str) (sp : List V → Sp) : Prop :=
  ∀ (A : Around) (outer : List Env) (s : Shared) (H : Hp) (f c : Addr) (clos : List (Str × Addr)) (us : List Value) (vs vals : List V) (Q : VK) (E : XK), Room k A → Env0 P w K mg base A outer s H → H f = some (.ext (LamX f d clos c)) → H c = some (.ext (CodeX c d.qual)) →
    clos.map (·.1) = fv → (clos.map (·.2)).Nodup → CellsU H s.heap clos vals → Vals vs us → sp vals vs H Q E → codeAny (model P w) A (.call (.ref f) ⟨us, []⟩) (CR CX0 outer P w H s Q E) s
theorem inv_startU {P : Program} {w : World} {K : PySem.W.Frag} {mg : Str → Option Value} {base : Heap} {d : LamD} {fv ps : List Str} {clos : List (Str × Addr)} {f c : Addr} {A : Around} {outer : List Env} {s : Shared} {H : Hp} {us : List Value} {vs vals : List V} {h1 : Heap} {tk : Nat}
    (S : LamScope d fv ps) (hd : A.handled = none) (e0 : Env0 P w K mg base A outer s H) (hl : vs.length = ps.length) (r : Vals vs us) (hfv : clos.map (·.1) = fv) (hnd : (clos.map (·.2)).Nodup) (ca : CellsU H s.heap clos vals)
    (hns : h1.Ns s.heap.objs.size (fun x => (ps.zip us).reverse.lookup x)) (hk : ∀ b o, s.heap.get? b = some o → h1.get? b = some o) :
    Inv (cxU P w K mg base (ps ++ fv) d clos f c A outer s H) [] ((vs ++ vals).map some) H { s with heap := h1, toks := tk } := by
  have ndf : (clos.map (·.1)).Nodup := by rw [hfv]; exact (List.nodup_append.mp S.nd).2.1
  have ndp : ps.Nodup := (List.nodup_append.mp S.nd).1
  have lus : us.length = ps.length := by rw [← r.length]; exact hl
  have hin : ∀ x c', clos.lookup x = some c' → ∃ v, H c' = none ∧ CellX c' v s.heap := fun x c' e => ca.mem _ (mem_of_look e)
  have cellOf : ∀ b v, CellX b v s.heap → ∃ u, RelV v u ∧ h1.IsCell b (some u) := fun b v e => by
    obtain ⟨o, u, g1, g2, g3⟩ := e
    exact ⟨u, g3, o, hk _ _ g1, g2⟩
  have noA : ∀ b : Addr, b ∉ (cxU P w K mg base (ps ++ fv) d clos f c A outer s H).ex := fun b z => absurd (show b ∈ ([] : List Addr) from z) (by simp)
  have lcl : clos.length = fv.length := by rw [← hfv, List.length_map]
  have lva : vals.length = clos.length := (Paired.length ca).symm
  refine ⟨⟨e0.mod, S.kind, rfl, rfl, Nat.le_refl _, fun y z c' h1 h2 => ?_, fun y hy => ?_, fun y c' h => (Bool.false_ne_true h).elim, fun _ => hd, Around.frames_deeper e0.frames, .inr ⟨rfl, rfl⟩, fun b z => absurd z (noA b), fun b o e => ⟨(e0.bs b o e).1, (e0.bs b o e).2⟩, e0.bsz, fun b _ _ => noA b, fun b z => absurd z (noA b), e0.funs, fun b hb => e0.frf b hb⟩,
    rfl, e0.bare, Un.kept hk, ⟨_, hns, fun i y v g1 g2 g3 => ?_⟩, fun y c' h => ?_, e0.hok.fresh (Nat.le_refl _), fun y c' h => ?_, fun p hp => absurd (show p ∈ ([] : List (Addr × Obj)) from hp) (by simp), e0.hok.kept hk, ?_⟩
  · have h1 : clos.lookup y = some c' := h1
    have h2 : clos.lookup z = some c' := h2
    have e1 := mem_of_look h1
    have e2 := mem_of_look h2
    have nd2 : ((clos.map fun p => (p.2, p.1)).map (·.1)).Nodup := by rw [List.map_map]; exact hnd
    have := fst_inj nd2 (c', y) (List.mem_map.mpr ⟨_, e1, rfl⟩) (c', z) (List.mem_map.mpr ⟨_, e2, rfl⟩) rfl
    exact congrArg Prod.snd this
  · have hy : d.scope.names.lookup y = some .cell ∨ d.scope.names.lookup y = some .free := hy
    rcases hy with hy | hy
    · exact absurd rfl (S.nocell _ (mem_of_look hy))
    · have := S.free _ (mem_of_look hy) rfl
      rw [← hfv] at this
      obtain ⟨p, hp, e⟩ := List.mem_map.mp this
      have e' : p.1 = y := e
      exact ⟨p.2, lookup_of_mem ndf (by show (y, p.2) ∈ clos; rw [← e']; exact hp)⟩
  · have g1 : (ps ++ fv)[i]? = some y := g1
    by_cases hi : i < ps.length
    · rw [List.getElem?_append_left hi] at g1
      rw [List.getElem?_map, List.getElem?_append_left (by omega)] at g2
      have g2' : vs[i]? = some v := by
        cases q : vs[i]? with
        | none => rw [q] at g2; cases g2
        | some x => rw [q] at g2; cases g2; rfl
      obtain ⟨u, hu, rv⟩ := r.get g2'
      refine ⟨u, rv, .inl ⟨S.par y (List.mem_of_getElem? g1), ?_⟩⟩
      have mem : (y, u) ∈ ps.zip us := List.mem_of_getElem? (i := i) (by rw [List.getElem?_zip_eq_some]; exact ⟨g1, hu⟩)
      refine lookup_of_mem ?_ (List.mem_reverse.mpr mem)
      rw [List.map_reverse]
      refine nodup_rev ?_
      have : (ps.zip us).map (·.1) = ps := by rw [List.map_fst_zip]; omega
      rw [this]
      exact ndp
    · rw [List.getElem?_append_right (by omega)] at g1
      rw [List.getElem?_map, List.getElem?_append_right (by omega)] at g2
      have g2' : vals[i - ps.length]? = some v := by
        rw [hl] at g2
        cases q : vals[i - ps.length]? with
        | none => rw [q] at g2; cases g2
        | some x => rw [q] at g2; cases g2; rfl
      obtain ⟨p, hp, _, e⟩ := ca.get g2'
      rw [← hfv, List.getElem?_map, hp] at g1
      cases g1
      obtain ⟨u, rv, ic⟩ := cellOf _ _ e
      have hmem := List.mem_of_getElem? hp
      refine ⟨u, rv, .inr ⟨.inr (S.fr p.1 ?_), p.2, lookup_of_mem ndf hmem, ic⟩⟩
      rw [← hfv]
      exact List.mem_map.mpr ⟨p, hmem, rfl⟩
  · obtain ⟨v, _, e⟩ := hin y c' h
    obtain ⟨u, _, ic⟩ := cellOf _ _ e
    exact ⟨_, ic⟩
  · obtain ⟨v, e, _⟩ := hin y c' h
    exact e
  · show ((vs ++ vals).map some).length = (ps ++ fv).length
    rw [List.length_map, List.length_append, List.length_append]
    omega
section
variable {P : Program} {w : World} {K : PySem.W.Frag} {mg : Str → Option Value} {base : Heap}
theorem lam_ofU {d : LamD} {fv ps : List Str} {k : Nat} {sp : List V → Sp} (S : LamScope d fv ps)
    (hbind : ∀ (pm ctv : Value) (clos : List (Str × Addr)) (c : Addr) (us : List Value), us.length = ps.length → bindArgs (PySem.W.kla_fn "<lambda>" d.qual d.params d.body d.scope clos pm (.ref c) ctv) ⟨us, []⟩ = pure (ps.zip us))
    (len : ∀ vals vs H Q E, sp vals vs H Q E → vs.length = ps.length)
    (hbody : ∀ (A : Around) (outer : List Env) (s : Shared) (H : Hp) (f c : Addr) (clos : List (Str × Addr)) (vals vs : List V) (Q : VK) (E : XK), Room k (A.deeper (lamEnv d s.heap.objs.size f c clos)) → clos.map (·.1) = fv → sp vals vs H Q E →
      ∃ t, PE (cxU P w K mg base (ps ++ fv) d clos f c A outer s H) d.body t ∧ t ((vs ++ vals).map some) H Q) :
    LamU P w K mg base (k + 1) d fv ps sp := by
  intro A outer s H f c clos us vs vals Q E hr e0 hf hc hfv hnd ca r hsp
  have hl := len _ _ _ _ _ hsp
  have lus : us.length = ps.length := by rw [← r.length]; exact hl
  obtain ⟨⟨pm, ctv, ef⟩, _, _⟩ := e0.hok f _ hf
  obtain ⟨⟨oc, cvs, ct, ec, ed, ev⟩, _, _⟩ := e0.hok c _ hc
  have lim : s.heap.NoLimit := e0.mod.nolimit.keeps fun b o e => (e0.bs b o e).1
  obtain ⟨t, ht, hq⟩ := hbody A outer s H f c clos vals vs Q E (hr.deeper _) hfv hsp
  refine PySem.W.kla_callFunE (body := d.body) hr.depth ef rfl S.co S.gen rfl ⟨c, oc, cvs, ct, rfl, ec, ed, ev⟩ ?_
  rw [hbind pm ctv clos c us lus]
  refine wpAny_pure (wpAny_newFunctionEnv S.nocell (fun y hy => S.par y.1 (List.of_mem_zip hy).1) (fun h1 hns hsb => ?_) S.kind)
  have hk : ∀ b o, s.heap.get? b = some o → h1.get? b = some o := fun b o e => hsb.extBut b o (Nat.ne_of_lt (Heap.lt_size e)) (Heap.get?_push_of_some _ e)
  refine ⟨lim.fresh _ hsb, ?_⟩
  show codeAny _ _ (.expr d.body (lamEnv d s.heap.objs.size f c clos)) _ _
  have I := inv_startU (f := f) (c := c) (tk := s.toks + (ps.zip us).length) S hr.hd e0 hl r hfv hnd ca hns hk
  refine PySem.W.kla_codeExpr (wpAny_mono (ht [] _ _ _ _ I hq) (fun u s' hs => ?_) fun e s' z => False.elim z)
  obtain ⟨v, H', J, rv, q⟩ := hs
  exact ⟨v, H', J.os, J.bare, J.base, J.hok, rv, q⟩
end
/-- what the caller's own cells hold -/
abbrev CloV (X : Cx) (σ : St) : List (Str × Addr) → List V → Prop := Paired fun (p : Str × Addr) (v : V) => X.env.cells.lookup p.1 = some p.2 ∧ X.env.scope.names.lookup p.1 = some .cell ∧ ∃ i : Nat, X.N[i]? = some p.1 ∧ σ[i]? = some (some v)
section
variable {X : Cx} {pins : List (Addr × Obj)} {σ : St} {H : Hp} {s : Shared}
theorem cellsU_of (I : Inv X pins σ H s) : ∀ {clos : List (Str × Addr)} {vals : List V}, CloV X σ clos vals → CellsU H s.heap clos vals
  | _, _, .nil => .nil
  | _, _, .cons r t => by
    refine .cons ?_ (cellsU_of I t)
    rename_i p v _ _
    obtain ⟨h1, h2, i, h3, h4⟩ := r
    refine ⟨I.freeC _ _ h1, ?_⟩
    obtain ⟨m, hn, hl⟩ := I.loc
    obtain ⟨u, r, l⟩ := hl i _ v h3 h4 (.inr (.inl h2))
    rcases l with ⟨k, _⟩ | ⟨k, c, e, o, ho, hd⟩
    · exfalso
      have k : X.env.scope.names.lookup p.1 = some .local := k
      rw [h2] at k
      cases k
    · rw [h1] at e
      cases e
      exact ⟨o, u, ho, hd, r⟩
theorem run_lamU {d : LamD} {fv ps : List Str} {k : Nat} {sp : List V → Sp} {Q : VK} {us : List Value} {vs vals : List V} {f c : Addr} {clos : List (Str × Addr)} (L : LamU X.prog X.w X.K X.mg X.base k d fv ps sp) (hr : Room (k + 1) X.A) (I : Inv X pins σ H s) (r : Vals vs us)
    (hf : H f = some (.ext (LamX f d clos c))) (hc : H c = some (.ext (CodeX c d.qual))) (hfv : clos.map (·.1) = fv) (hnd : (clos.map (·.2)).Nodup) (ca : CloV X σ clos vals) (h : sp vals vs H Q fun _ _ _ => False) :
    wpAny (model X.prog X.w) X.A.in1.in1 (call (.ref f) us) (EP X pins σ Q) (fun _ _ => False) s := by
  have hr' : Room k X.A.in1.in1 := ⟨hr.hd, by have := hr.dp; show X.A.depth + 3 * k + 5 < _; omega, by have := hr.un; show X.A.units + 1 + 1 + 16 * k + 200 < _; omega⟩
  refine wpAny_call (codeAny_mono (L X.A.in1.in1 X.stack s H f c clos us vs vals Q _ hr' I.env0.in1.in1 hf hc hfv hnd (cellsU_of I ca) r h) fun r s' hq => ?_)
  cases r with
  | error e => exact False.elim hq
  | ok fl =>
    cases fl with
    | ret u => exact I.after hq
    | next => exact False.elim hq
    | brk => exact False.elim hq
    | cont => exact False.elim hq
end
/-! ### the ways to sort -/
structure SortBy (X : Cx) (α : Type) where
  KO : (Nat → α) → Nat → V → Hp → Prop
  lt : (Nat → α) → Nat → Nat → Bool
  κ : SortKind
  good : (Nat → α) → Nat → Prop
  ko : ∀ g, KeyO (KO g)
  wk : ∀ g n, good g n → WSrt.Wk (lt g) n
  kind : ∀ g n, good g n → KKind X (KO g) n κ
  ask : ∀ g n, good g n → KAsk X (KO g) n κ (lt g)
theorem ints_of_keys {g : Nat → Int} : ∀ {kv : List V} {ks : List Value} (k : Nat), Vals kv ks → (∀ i v, kv[i]? = some v → v = V.int (g (k + i))) → IntsAre ks ((List.range' k kv.length).map g)
  | _, _, k, .nil, h => .nil
  | x :: _, _, k, .cons r t, h => by
    obtain rfl : x = V.int (g (k + 0)) := h 0 x rfl
    obtain ⟨t', rfl⟩ := r
    exact .cons _ _ (ints_of_keys (k + 1) t fun i v hv => by rw [h (i + 1) v hv]; congr 2; omega)
def byInt (X : Cx) : SortBy X Int where
  KO := fun g i v _ => v = .int (g i)
  lt := fun g i j => decide (g i < g j)
  κ := oneType'
  good := fun _ _ => True
  ko := fun g => ⟨fun i v H H' _ h => h⟩
  wk := fun g n _ => ⟨fun i j _ _ h => by have := of_decide_eq_true h; exact decide_eq_false (by omega), fun i j k _ _ _ h1 h2 => by
    have h1' := of_decide_eq_false h1
    have h2' := of_decide_eq_false h2
    exact decide_eq_false (by omega)⟩
  kind := fun g n _ pins σ H s kv ks I r hl h2 h R hR => by
    have hi := ints_of_keys (g := g) 0 r fun i v hv => by rw [Nat.zero_add]; exact h i v hv
    rw [ksk_kind (keys := ks.toArray) hi (by rw [List.size_toArray, ← r.length]; omega)]
    exact wpAny_pure hR
  ask := fun g n _ pins σ H s kv ks I r hl h i j hi hj hn C hC => by
    obtain ⟨x, hx⟩ : ∃ x, kv[i]? = some x := ⟨_, List.getElem?_eq_getElem (by omega)⟩
    obtain ⟨y, hy⟩ : ∃ x, kv[j]? = some x := ⟨_, List.getElem?_eq_getElem (by omega)⟩
    obtain ⟨u, hu, ru⟩ := r.get hx
    obtain ⟨v, hv, rv⟩ := r.get hy
    obtain rfl := h i x hx
    obtain rfl := h j y hy
    obtain ⟨t, rfl⟩ := ru
    obtain ⟨t', rfl⟩ := rv
    unfold kas_ask
    rw [List.getD, List.getD, hu, hv]
    exact kat_lt_int hC
/-! ### a tuple of texts in the text -/
def txtsIn : List V → List Value → Bool
  | [], [] => true
  | .str z :: xs, .str y _ :: us => decide (z = y) && txtsIn xs us
  | _, _ => false
theorem txtsIn_vals : ∀ {xs : List V} {us : List Value}, txtsIn xs us = true → Vals xs us
  | [], [], _ => .nil
  | .str i :: xs, .str j t :: us, h => by
    rw [txtsIn, Bool.and_eq_true] at h
    have e := of_decide_eq_true h.1
    exact .cons ⟨t, by rw [e]⟩ (txtsIn_vals h.2)
def tupInS (K : PySem.W.Frag) (a : Addr) (xs : List V) : Bool :=
  match K.lookup a with
  | some o =>
    (match o.cls with
    | .type t => t == "tuple"
    | _ => false) &&
    (match o.data with
    | .seq its _ => decide (its.size ≤ 1000) && txtsIn xs its.toList
    | _ => false)
  | none => false
theorem tupS_in {K : PySem.W.Frag} {H : Hp} {a : Addr} {xs : List V} (h : tupInS K a xs = true) : SqT K H a xs := by
  unfold tupInS at h
  split at h
  · rename_i o e
    rw [Bool.and_eq_true] at h
    obtain ⟨h1, h2⟩ := h
    split at h1
    · rename_i t ec
      split at h2
      · rename_i its n ed
        rw [Bool.and_eq_true] at h2
        refine .inr ⟨o, its, n, e, by rw [ec, beq_iff_eq.mp h1], ed, ?_, txtsIn_vals h2.2⟩
        have := of_decide_eq_true h2.1
        have : sizeLine = 16777216 := sizeLine_eq
        omega
      · cases h2
    · cases h1
  · cases h
/-! ### sorted(e, key=lambda ..) -/
def forE : Stmt → Expr
  | .For _ it _ _ _ => it
  | _ => dE
def kwE : Expr → Nat → Expr
  | .Call _ _ ks _, i => (ks.getD i ⟨none, dE, ⟨0, 0, 0, 0⟩⟩).value
  | _, _ => dE
theorem nd_one {l : List Addr} (h : l.length = 1) : l.Nodup := by
  match l, h with
  | [x], _ => simp
section
variable {X : Cx} {tabs : Tabs} {d : LamD} {clos : List (Str × Addr)} {fv ps : List Str} {k : Nat} {sp : List V → Sp} {α : Type} {p pos lp kp : Pos} {e : Expr} {te : TE} {x : Str}
def SortGo (X : Cx) (σ : St) (clos : List (Str × Addr)) (sp : List V → Sp) (B : SortBy X α) (v : V) (H2 : Hp) (Q : VK) : Prop :=
  ∃ (l : Addr) (xs : List V) (g : Nat → α) (vals : List V), v = .ref l ∧ SqL X.K H2 l xs ∧ xs.length < 64 ∧ B.good g xs.length ∧ CloV X σ clos vals ∧ (∀ i x H', xs[i]? = some x → Same H2 H' → sp vals [x] H' (fun v H'' => Same H' H'' ∧ B.KO g i v H'') (fun _ _ _ => False)) ∧
    ∀ D H', Same H2 H' → H2 D = none → H' D = none → Q (.ref D) (upd H' D (.lst ((ord (B.lt g) xs.length).map fun i => xs.getD i .non)))
def tSortK (X : Cx) (tabs : Tabs) (d : LamD) (clos : List (Str × Addr)) (sp : List V → Sp) (B : SortBy X α) (te : TE) : TE := fun σ H Q => te σ H fun v H1 => TabsOk tabs H1 ∧ ∀ f c H2, SameT H1 H2 → TabsOk tabs H2 → H1 f = none → H2 f = some (.ext (LamX f d clos c)) → H2 c = some (.ext (CodeX c d.qual)) → SortGo X σ clos sp B v H2 Q
theorem pe_sortK (B : SortBy X α) (hg : Gl X x) (hm : X.mg x = none) (hv : bootBuiltins x = some (.builtin "sorted")) (ha : PE X e te) (hlam : PE X (.Lambda d.params d.body d.scope lp) (tLam tabs d clos)) (L : LamU X.prog X.w X.K X.mg X.base k d fv ps sp) (hr : Room (k + 1) X.A) (hfv : clos.map (·.1) = fv) (hnd : (clos.map (·.2)).Nodup)
    (hn : x ≠ "__name__" := by decide) (hdb : (x == ("__debug__" : Str)) = false := by decide) (hs : starEach [e] X.env = (false, eval e X.env) :: starEach [] X.env := by rfl) :
    PE X (.Call (.Name x p) [e] [⟨some "key", .Lambda d.params d.body d.scope lp, kp⟩] pos) (tSortK X tabs d clos sp B te) := by
  intro pins s σ H Q I h
  refine wpAny_Call_Name_kw (ld_blt I hg hm hv ?_ hn hdb)
  have hb : backTo pos (starEach [e] X.env) = (false, eval e X.env) :: backTo pos (starEach [] X.env) := by rw [hs]; rfl
  refine callWith_kw ?_ hb (by rw [hb]; rfl)
  rw [hb]
  refine Calls.spliced_cons (thn (ha pins s σ H _ I h) fun u s1 ⟨v, H1, I1, r1, hT, q1⟩ => ?_)
  refine Calls.spliced_nil (kws_cons (thn (hlam pins s1 σ H1 (fun vf H2 => ∃ f c, vf = .ref f ∧ H2 f = some (.ext (LamX f d clos c)) ∧ H2 c = some (.ext (CodeX c d.qual)) ∧ SortGo X σ clos sp B v H2 Q) I1 ⟨hT, fun f c H2 t2 hT2 hf0 hf hc => ⟨f, c, rfl, hf, hc, q1 f c H2 t2 hT2 hf0 hf hc⟩⟩) fun uf s2 ⟨vf, H2, I2, rf, f, c, ef, hf, hc, q2⟩ => ?_))
  subst ef
  obtain rfl : uf = Value.ref f := rf
  obtain ⟨l, xs, g, vals, rfl, hl, h64, gd, cv, ht, q⟩ := q2
  obtain rfl : u = Value.ref l := r1
  refine kws_nil ?_
  exact sorted_key I2 hl h64 (B.wk g _ gd) (B.ko g) (fun i x u pins' H' s' hx rx J sm => run_lamU L hr J (.cons rx .nil) (sm _ _ hf) (sm _ _ hc) hfv hnd cv (ht i x H' hx sm)) (B.kind g _ gd) (B.ask g _ gd) q
end
end L2

set_option linter.all false
set_option maxHeartbeats 1000000
namespace M80
/-! the reckoning of means of answers that are lacking in part -/
inductive Wd | yes | no | opn
deriving DecidableEq
/-- an answer: weight, low, high, word -/
abbrev A4 := Int × Int × Int × Wd
abbrev PP := List (A4 × Option Int)
def tT (ps : PP) : List Int := ps.filterMap fun p => p.2.map fun v => p.1.1 * v
def wT (ps : PP) : List Int := ps.filterMap fun p => p.2.map fun _ => p.1.1
def tF (ps : PP) : Int := (tT ps).sum
def wF (ps : PP) : Int := (wT ps).sum
theorem tF_cons (z : A4) (o : Option Int) (ps : PP) : tF ((z, o) :: ps) = (match o with | some v => z.1 * v | none => 0) + tF ps := by
  unfold tF tT
  cases o <;> simp
theorem wF_cons (z : A4) (o : Option Int) (ps : PP) : wF ((z, o) :: ps) = (match o with | some _ => z.1 | none => 0) + wF ps := by
  unfold wF wT
  cases o <;> simp
theorem set_sums : ∀ (zs : List A4) (f : List (Option Int)) (p : Nat) (z : A4) (v : Int), zs[p]? = some z → f[p]? = some none →
    wF (zs.zip (f.set p (some v))) = wF (zs.zip f) + z.1 ∧ tF (zs.zip (f.set p (some v))) = tF (zs.zip f) + z.1 * v
  | [], _, p, z, v, h, _ => by simp at h
  | _ :: _, [], p, z, v, _, h => by simp at h
  | y :: zs, o :: f, 0, z, v, h, h' => by
    simp at h h'
    subst h; subst h'
    simp only [List.set_cons_zero, List.zip_cons_cons, wF_cons, tF_cons]
    omega
  | y :: zs, o :: f, p + 1, z, v, h, h' => by
    have ih := set_sums zs f p z v (by simpa using h) (by simpa using h')
    simp only [List.set_cons_succ, List.zip_cons_cons, wF_cons, tF_cons, ih.1, ih.2]
    omega
theorem wF_pos : ∀ (zs : List A4) (f : List (Option Int)), (∀ z ∈ zs, 1 ≤ z.1) → 0 ≤ wF (zs.zip f) ∧ (∀ (p : Nat) z v, zs[p]? = some z → f[p]? = some (some v) → 0 < wF (zs.zip f))
  | [], f, _ => ⟨by simp [wF, wT], fun p z v h => by simp at h⟩
  | _ :: _, [], _ => ⟨by simp [wF, wT], fun p z v _ h => by simp at h⟩
  | y :: zs, o :: f, h => by
    obtain ⟨h1, h2⟩ := wF_pos zs f fun z hz => h z (List.mem_cons_of_mem _ hz)
    have hy := h y (List.mem_cons_self ..)
    rw [List.zip_cons_cons, wF_cons]
    refine ⟨?_, fun p z v e e' => ?_⟩
    · cases o <;> simp <;> omega
    · cases p with
      | zero =>
        simp at e e'
        subst e'
        show 0 < y.1 + _
        omega
      | succ p =>
        have := h2 p z v (by simpa using e) (by simpa using e')
        cases o <;> simp <;> omega
/-- nothing counts yet -/
theorem sums_none : ∀ (zs : List A4) (f : List (Option Int)), (∀ o ∈ f, o = none) → wF (zs.zip f) = 0 ∧ tF (zs.zip f) = 0
  | [], f, _ => by simp [wF, wT, tF, tT]
  | _ :: _, [], _ => by simp [wF, wT, tF, tT]
  | y :: zs, o :: f, h => by
    obtain ⟨h1, h2⟩ := sums_none zs f fun z hz => h z (List.mem_cons_of_mem _ hz)
    have := h o (List.mem_cons_self ..)
    subst this
    rw [List.zip_cons_cons, wF_cons, tF_cons, h1, h2]
    simp
def lo (z : A4) : Int := z.2.1
def wd (z : A4) : Wd := z.2.2.2
def first (z : A4) : Option Int := if wd z = .yes then some (lo z) else none
def step (zs : List A4) (f : List (Option Int)) (p : Nat) : List (Option Int) :=
  match zs[p]? with
  | some z => if f.all (·.isNone) = true ∨ lo z * wF (zs.zip f) < tF (zs.zip f) then f.set p (some (lo z)) else f
  | none => f
/-- which of them may count -/
def may (zs : List A4) : List Nat := (List.range zs.length).filter fun i => match zs[i]? with | some z => wd z = .opn | none => false
theorem mem_may {zs : List A4} {i : Nat} : i ∈ may zs ↔ ∃ z, zs[i]? = some z ∧ wd z = .opn := by
  unfold may
  rw [List.mem_filter, List.mem_range]
  constructor
  · rintro ⟨h, h'⟩
    rw [List.getElem?_eq_getElem h] at h' ⊢
    exact ⟨_, rfl, of_decide_eq_true h'⟩
  · rintro ⟨z, h, h'⟩
    refine ⟨(List.getElem?_eq_some_iff.mp h).1, ?_⟩
    rw [h]
    exact decide_eq_true h'
def lowAt (zs : List A4) (i : Nat) : Int := match zs[i]? with | some z => lo z | none => 0
/-- the walk so far: done are the places that were met -/
structure Walk (zs : List A4) (done : List Nat) (f : List (Option Int)) : Prop where
  len : f.length = zs.length
  yes : ∀ (i : Nat) z, zs[i]? = some z → wd z = .yes → f[i]? = some (some (lo z))
  no : ∀ (i : Nat) z, zs[i]? = some z → wd z = .no → f[i]? = some none
  opn : ∀ (i : Nat) z, zs[i]? = some z → wd z = .opn → f[i]? = some none ∨ (i ∈ done ∧ f[i]? = some (some (lo z)))
  inn : ∀ (i : Nat) z, zs[i]? = some z → wd z = .opn → f[i]? = some (some (lo z)) → lo z * wF (zs.zip f) ≤ tF (zs.zip f)
  out : ∀ (i : Nat) z, i ∈ done → zs[i]? = some z → wd z = .opn → f[i]? = some none → 0 < wF (zs.zip f) ∧ tF (zs.zip f) ≤ lo z * wF (zs.zip f)
theorem walk_first (zs : List A4) : Walk zs [] (zs.map first) where
  len := by simp
  yes := fun i z h hw => by rw [List.getElem?_map, h]; simp [first, hw]
  no := fun i z h hw => by rw [List.getElem?_map, h]; simp [first, hw]
  opn := fun i z h hw => by rw [List.getElem?_map, h]; left; simp [first, hw]
  inn := fun i z h hw e => by rw [List.getElem?_map, h] at e; simp [first, hw] at e
  out := fun i z hd => by cases hd
theorem walk_step {zs : List A4} {done : List Nat} {f : List (Option Int)} (W : Walk zs done f) (hw : ∀ z ∈ zs, 1 ≤ z.1) {p : Nat} {z : A4} (hz : zs[p]? = some z) (ho : wd z = .opn) (hn : p ∉ done) (hs : ∀ k ∈ done, lowAt zs k ≤ lo z) : Walk zs (done ++ [p]) (step zs f p) := by
  have fp : f[p]? = some none := (W.opn p z hz ho).elim id fun h => absurd h.1 hn
  obtain ⟨w0, wp⟩ := wF_pos zs f hw
  have plt : p < f.length := (List.getElem?_eq_some_iff.mp fp).1
  have z1 := hw z (List.mem_of_getElem? hz)
  have lowk : ∀ (k : Nat) y, k ∈ done → zs[k]? = some y → lo y ≤ lo z := fun k y hk e => by have := hs k hk; unfold lowAt at this; rw [e] at this; exact this
  unfold step
  rw [hz]
  simp only
  split
  · rename_i hc
    obtain ⟨e1, e2⟩ := set_sums zs f p z (lo z) hz fp
    have hle : lo z * wF (zs.zip f) ≤ tF (zs.zip f) := by
      rcases hc with hc | hc
      · obtain ⟨a, b⟩ := sums_none zs f fun o ho => by simpa using (List.all_eq_true.mp hc) o ho
        rw [a, b]; simp
      · omega
    have nrej : ∀ (k : Nat) y, k ∈ done → zs[k]? = some y → wd y = .opn → f[k]? = some none → False := fun k y hk e hy en => by
      obtain ⟨a, b⟩ := W.out k y hk e hy en
      rcases hc with hc | hc
      · obtain ⟨a', b'⟩ := sums_none zs f fun o ho => by simpa using (List.all_eq_true.mp hc) o ho
        omega
      · have := Int.mul_le_mul_of_nonneg_right (lowk k y hk e) w0
        omega
    refine ⟨by rw [List.length_set, W.len], fun i y hy hyw => ?_, fun i y hy hyw => ?_, fun i y hy hyw => ?_, fun i y hy hyw e => ?_, fun i y hd hy hyw e => ?_⟩
    · rw [List.getElem?_set_ne (fun c => by subst c; rw [hz] at hy; cases hy; rw [ho] at hyw; cases hyw)]
      exact W.yes i y hy hyw
    · rw [List.getElem?_set_ne (fun c => by subst c; rw [hz] at hy; cases hy; rw [ho] at hyw; cases hyw)]
      exact W.no i y hy hyw
    · by_cases c : p = i
      · subst c
        rw [hz] at hy; cases hy
        right
        exact ⟨by simp, List.getElem?_set_self plt⟩
      · rw [List.getElem?_set_ne c]
        exact (W.opn i y hy hyw).imp id fun h => ⟨List.mem_append_left _ h.1, h.2⟩
    · rw [e1, e2]
      by_cases c : p = i
      · subst c
        rw [hz] at hy; cases hy
        rw [Int.mul_add, Int.mul_comm (lo z) z.1]
        omega
      · rw [List.getElem?_set_ne c] at e
        have hd : i ∈ done := (W.opn i y hy hyw).elim (fun h => by rw [h] at e; cases e) fun h => h.1
        have a := W.inn i y hy hyw e
        have b := Int.mul_le_mul_of_nonneg_right (lowk i y hd hy) (show (0 : Int) ≤ z.1 by omega)
        rw [Int.mul_add]
        rw [Int.mul_comm (lo z) z.1] at b
        omega
    · exfalso
      by_cases c : p = i
      · subst c
        rw [List.getElem?_set_self plt] at e
        cases e
      · rw [List.getElem?_set_ne c] at e
        rcases List.mem_append.mp hd with hd | hd
        · exact nrej i y hd hy hyw e
        · exact c (List.mem_singleton.mp hd).symm
  · rename_i hc
    have hc1 : ¬ (f.all (·.isNone) = true) := fun h => hc (.inl h)
    have hc2 : tF (zs.zip f) ≤ lo z * wF (zs.zip f) := by
      have : ¬ (lo z * wF (zs.zip f) < tF (zs.zip f)) := fun h => hc (.inr h)
      omega
    have pos : 0 < wF (zs.zip f) := by
      have : ∃ o ∈ f, o ≠ none := by
        refine Classical.byContradiction fun h => hc1 ?_
        rw [List.all_eq_true]
        intro o ho
        cases o with
        | none => rfl
        | some v => exact absurd ⟨some v, ho, by simp⟩ h
      obtain ⟨o, ho, hne⟩ := this
      obtain ⟨i, hi⟩ := List.getElem?_of_mem ho
      have ilt : i < zs.length := by have := (List.getElem?_eq_some_iff.mp hi).1; rw [W.len] at this; exact this
      cases o with
      | none => exact absurd rfl hne
      | some v => exact wp i _ v (List.getElem?_eq_getElem ilt) hi
    refine ⟨W.len, W.yes, W.no, fun i y hy hyw => (W.opn i y hy hyw).imp id fun h => ⟨List.mem_append_left _ h.1, h.2⟩, W.inn, fun i y hd hy hyw e => ?_⟩
    rcases List.mem_append.mp hd with hd | hd
    · exact W.out i y hd hy hyw e
    · have := List.mem_singleton.mp hd
      subst this
      rw [hz] at hy; cases hy
      exact ⟨pos, hc2⟩
theorem walk_all {zs : List A4} (hw : ∀ z ∈ zs, 1 ≤ z.1) : ∀ (todo done : List Nat) (f : List (Option Int)), Walk zs done f → (done ++ todo).Nodup → (∀ k ∈ todo, k ∈ may zs) → (done ++ todo).Pairwise (fun i j => lowAt zs i ≤ lowAt zs j) → Walk zs (done ++ todo) (todo.foldl (step zs) f)
  | [], done, f, W, _, _, _ => by rw [List.append_nil]; exact W
  | p :: todo, done, f, W, nd, hm, hp => by
    obtain ⟨z, hz, ho⟩ := mem_may.mp (hm p (List.mem_cons_self ..))
    have e : done ++ p :: todo = (done ++ [p]) ++ todo := by simp
    have hn : p ∉ done := fun h => (List.nodup_append.mp nd).2.2 p h p (List.mem_cons_self ..) rfl
    have W' := walk_step W hw hz ho hn (fun k hk => by
      have := (List.pairwise_append.mp hp).2.2 k hk p (List.mem_cons_self ..)
      unfold lowAt at this ⊢
      rw [hz] at this
      exact this)
    rw [List.foldl_cons, e]
    rw [e] at nd hp
    exact walk_all hw todo (done ++ [p]) _ W' nd (fun k hk => hm k (List.mem_cons_of_mem _ hk)) hp
/-- what a filling is at last: f tells c z for each that counts -/
structure Fil (zs : List A4) (c : A4 → Int) (sg : Int) (f : List (Option Int)) : Prop where
  len : f.length = zs.length
  yes : ∀ (i : Nat) z, zs[i]? = some z → wd z = .yes → f[i]? = some (some (c z))
  no : ∀ (i : Nat) z, zs[i]? = some z → wd z = .no → f[i]? = some none
  opn : ∀ (i : Nat) z, zs[i]? = some z → wd z = .opn → (f[i]? = some none ∧ sg * (c z * wF (zs.zip f) - tF (zs.zip f)) ≤ 0) ∨ (f[i]? = some (some (c z)) ∧ 0 ≤ sg * (c z * wF (zs.zip f) - tF (zs.zip f)))
  pos : 0 < wF (zs.zip f)
theorem fin_of {zs : List A4} {done : List Nat} {f : List (Option Int)} (W : Walk zs done f) (hw : ∀ z ∈ zs, 1 ≤ z.1) (hd : ∀ k ∈ may zs, k ∈ done) (hne : ∃ z ∈ zs, wd z ≠ .no) : Fil zs lo (-1) f := by
  obtain ⟨w0, wp⟩ := wF_pos zs f hw
  refine ⟨W.len, W.yes, W.no, fun i z h ho => ?_, ?_⟩
  · rcases W.opn i z h ho with e | ⟨_, e⟩
    · have := (W.out i z (hd i (mem_may.mpr ⟨z, h, ho⟩)) h ho e).2
      exact .inl ⟨e, by omega⟩
    · have := W.inn i z h ho e
      exact .inr ⟨e, by omega⟩
  · obtain ⟨z, hz, hn⟩ := hne
    obtain ⟨i, hi⟩ := List.getElem?_of_mem hz
    cases hc : wd z with
    | yes => exact wp i z _ hi (W.yes i z hi hc)
    | no => exact absurd hc hn
    | opn =>
      rcases W.opn i z hi hc with e | ⟨_, e⟩
      · exact (W.out i z (hd i (mem_may.mpr ⟨z, hi, hc⟩)) hi hc e).1
      · exact wp i z _ hi e
def turn (z : A4) : A4 := (z.1, -z.2.2.1, -z.2.1, z.2.2.2)
def hi (z : A4) : Int := z.2.2.1
def neg (o : Option Int) : Option Int := o.map fun v => -v
theorem turn_sums : ∀ (zs : List A4) (f : List (Option Int)), wF (zs.zip (f.map neg)) = wF ((zs.map turn).zip f) ∧ tF (zs.zip (f.map neg)) = - tF ((zs.map turn).zip f)
  | [], f => by simp [wF, wT, tF, tT]
  | _ :: _, [] => by simp [wF, wT, tF, tT]
  | y :: zs, o :: f => by
    obtain ⟨h1, h2⟩ := turn_sums zs f
    simp only [List.map_cons, List.zip_cons_cons, wF_cons, tF_cons, h1, h2]
    cases o with
    | none => simp [neg]
    | some v => simp [neg, turn, Int.mul_neg]; omega
theorem fin_turn {zs : List A4} {f : List (Option Int)} (F : Fil (zs.map turn) lo (-1) f) : Fil zs hi 1 (f.map neg) := by
  obtain ⟨e1, e2⟩ := turn_sums zs f
  have at_ : ∀ (i : Nat) z, zs[i]? = some z → (zs.map turn)[i]? = some (turn z) := fun i z h => by rw [List.getElem?_map, h]; rfl
  refine ⟨by rw [List.length_map, F.len, List.length_map], fun i z h hc => ?_, fun i z h hc => ?_, fun i z h hc => ?_, by rw [e1]; exact F.pos⟩
  · rw [List.getElem?_map, F.yes i _ (at_ i z h) hc]; simp [neg, lo, turn, hi]
  · rw [List.getElem?_map, F.no i _ (at_ i z h) hc]; simp [neg]
  · rw [e1, e2]
    have e : lo (turn z) = - hi z := rfl
    rcases F.opn i _ (at_ i z h) hc with ⟨g, g'⟩ | ⟨g, g'⟩
    · refine .inl ⟨by rw [List.getElem?_map, g]; simp [neg], ?_⟩
      have nm : - hi z * wF ((zs.map turn).zip f) = -(hi z * wF ((zs.map turn).zip f)) := Int.neg_mul ..
      rw [e, nm] at g'
      omega
    · refine .inr ⟨by rw [List.getElem?_map, g, e]; simp [neg], ?_⟩
      have nm : - hi z * wF ((zs.map turn).zip f) = -(hi z * wF ((zs.map turn).zip f)) := Int.neg_mul ..
      rw [e, nm] at g'
      omega
/-- what the law adds up -/
def moreOf (c : A4 → Int) (sg num den : Int) (z : A4) : Int := (c z * den - num) * z.1 * sg
def addOf (c : A4 → Int) (sg num den : Int) (z : A4) : Int := if wd z = .yes ∨ (wd z = .opn ∧ moreOf c sg num den z > 0) then moreOf c sg num den z else 0
def addS (c : A4 → Int) (sg num den : Int) (zs : List A4) : Int := (zs.map (addOf c sg num den)).sum
theorem add_zip (c : A4 → Int) (sg num den : Int) : ∀ (zs : List A4) (f : List (Option Int)), f.length = zs.length → (∀ (i : Nat) z, zs[i]? = some z → (f[i]? = some none ∧ addOf c sg num den z = 0) ∨ (f[i]? = some (some (c z)) ∧ addOf c sg num den z = moreOf c sg num den z)) →
    addS c sg num den zs = sg * (den * tF (zs.zip f) - num * wF (zs.zip f))
  | [], f, _, _ => by simp [addS, wF, wT, tF, tT]
  | _ :: _, [], h, _ => by simp at h
  | z :: zs, o :: f, hl, h => by
    have ih := add_zip c sg num den zs f (by simpa using hl) fun i y hy => by
      have := h (i + 1) y (by simpa using hy)
      simpa using this
    have e : addS c sg num den (z :: zs) = addOf c sg num den z + addS c sg num den zs := by unfold addS; simp
    rw [e, ih, List.zip_cons_cons, wF_cons, tF_cons]
    rcases h 0 z rfl with ⟨g, g'⟩ | ⟨g, g'⟩
    · simp at g
      subst g
      rw [g']
      simp
    · simp at g
      subst g
      rw [g']
      unfold moreOf
      simp only
      grind
theorem none_above {zs : List A4} {c : A4 → Int} {sg num den : Int} {f : List (Option Int)} (F : Fil zs c sg f) (hsg : sg = 1 ∨ sg = -1) (hw : ∀ z ∈ zs, 1 ≤ z.1) (hd : 0 < den) (hm : num * wF (zs.zip f) = tF (zs.zip f) * den) : addS c sg num den zs = 0 := by
  have key : ∀ z : A4, 1 ≤ z.1 → (sg * (c z * wF (zs.zip f) - tF (zs.zip f)) ≤ 0 → moreOf c sg num den z ≤ 0) ∧ (0 ≤ sg * (c z * wF (zs.zip f) - tF (zs.zip f)) → 0 ≤ moreOf c sg num den z) := fun z hz => by
    have W0 := F.pos
    have e : wF (zs.zip f) * moreOf c sg num den z = (sg * (c z * wF (zs.zip f) - tF (zs.zip f))) * (den * z.1) := by
      unfold moreOf
      grind
    have dz : 0 < den * z.1 := Int.mul_pos hd (by omega)
    constructor
    · intro h
      refine Classical.byContradiction fun hc => ?_
      have h1 : 0 < wF (zs.zip f) * moreOf c sg num den z := Int.mul_pos W0 (by omega)
      have h2 := Int.mul_le_mul_of_nonneg_right h (Int.le_of_lt dz)
      omega
    · intro h
      refine Classical.byContradiction fun hc => ?_
      have h1 : wF (zs.zip f) * moreOf c sg num den z < 0 := Int.mul_neg_of_pos_of_neg W0 (by omega)
      have h2 := Int.mul_le_mul_of_nonneg_right h (Int.le_of_lt dz)
      omega
  rw [add_zip c sg num den zs f F.len fun i z h => ?_]
  · have : den * tF (zs.zip f) - num * wF (zs.zip f) = 0 := by rw [hm, Int.mul_comm]; omega
    rw [this]; simp
  · have hz := hw z (List.mem_of_getElem? h)
    unfold addOf
    cases hc : wd z with
    | yes => exact .inr ⟨F.yes i z h hc, by simp⟩
    | no => exact .inl ⟨F.no i z h hc, by simp⟩
    | opn =>
      rcases F.opn i z h hc with ⟨g, g'⟩ | ⟨g, g'⟩
      · refine .inl ⟨g, ?_⟩
        have := (key z hz).1 g'
        rw [if_neg]
        rintro (k | ⟨_, k⟩)
        · cases k
        · omega
      · refine .inr ⟨g, ?_⟩
        have := (key z hz).2 g'
        split
        · rfl
        · rename_i k
          have : ¬ moreOf c sg num den z > 0 := fun q => k (.inr ⟨rfl, q⟩)
          omega
end M80

set_option Elab.async false
set_option linter.all false
set_option maxRecDepth 100000
set_option maxHeartbeats 4000000
namespace My
open PySem L2 FrM M80
/-! the text, by places -/
def top (i : Nat) : Stmt := PySem.Challenge.pw_fewspeak_k79_whole_stretches_of_means.main.body.getD i (.Pass ⟨0, 0, 0, 0⟩)
abbrev s_greatest_divisor : Stmt := top 4
abbrev s_share : Stmt := top 5
abbrev s_is_whole : Stmt := top 7
abbrev s_is_list_of : Stmt := top 8
abbrev s_is_bounded : Stmt := top 14
abbrev s_is_answer : Stmt := top 15
abbrev s_is_worded_answer : Stmt := top 16
abbrev s_is_word : Stmt := top 17
abbrev s_need_answers : Stmt := top 18
abbrev s_total_by : Stmt := top 19
abbrev s_weight_by : Stmt := top 20
abbrev s_mean_stretch : Stmt := top 21
abbrev s_mean_by : Stmt := top 22
abbrev s_least_filling : Stmt := top 23
abbrev s_counts_none : Stmt := top 24
abbrev s_L_cell : Stmt := top 26
abbrev s_L_mix : Stmt := top 27
abbrev s_L_row : Stmt := top 28
abbrev s_L_whole : Stmt := top 29
abbrev s_L_low : Stmt := top 30
abbrev s_L_answers : Stmt := top 31
abbrev s_L_filling : Stmt := top 32
abbrev s_L_fraction : Stmt := top 33
abbrev s_L_none_above : Stmt := top 34
abbrev s_law : Stmt := top 35
theorem sc_greatest_divisor : FnScope ["one", "other"] ["one", "other"] (defScope s_greatest_divisor) := ⟨rfl, rfl, rfl, by decide +kernel, rfl, by decide +kernel, by decide +kernel⟩
theorem sc_share : FnScope ["top", "bottom", "divisor"] ["top", "bottom"] (defScope s_share) := ⟨rfl, rfl, rfl, by decide +kernel, rfl, by decide +kernel, by decide +kernel⟩
theorem sc_is_whole : FnScope ["thing", "low", "high"] ["thing", "low", "high"] (defScope s_is_whole) := ⟨rfl, rfl, rfl, by decide +kernel, rfl, by decide +kernel, by decide +kernel⟩
theorem sc_is_list_of : FnScope ["thing", "most", "is_one"] ["thing", "most", "is_one"] (defScope s_is_list_of) := ⟨rfl, rfl, rfl, by decide +kernel, rfl, by decide +kernel, by decide +kernel⟩
theorem sc_is_bounded : FnScope ["weight", "low", "high"] ["weight", "low", "high"] (defScope s_is_bounded) := ⟨rfl, rfl, rfl, by decide +kernel, rfl, by decide +kernel, by decide +kernel⟩
theorem sc_is_answer : FnScope ["thing"] ["thing"] (defScope s_is_answer) := ⟨rfl, rfl, rfl, by decide +kernel, rfl, by decide +kernel, by decide +kernel⟩
theorem sc_is_worded_answer : FnScope ["thing"] ["thing"] (defScope s_is_worded_answer) := ⟨rfl, rfl, rfl, by decide +kernel, rfl, by decide +kernel, by decide +kernel⟩
theorem sc_is_word : FnScope ["thing"] ["thing"] (defScope s_is_word) := ⟨rfl, rfl, rfl, by decide +kernel, rfl, by decide +kernel, by decide +kernel⟩
theorem sc_need_answers : FnScope ["answers", "is_one"] ["answers", "is_one"] (defScope s_need_answers) := ⟨rfl, rfl, rfl, by decide +kernel, rfl, by decide +kernel, by decide +kernel⟩
theorem sc_total_by : FnScope ["answers", "filling"] ["answers", "filling"] (defScope s_total_by) := ⟨rfl, rfl, rfl, by decide +kernel, rfl, by decide +kernel, by decide +kernel⟩
theorem sc_weight_by : FnScope ["answers", "filling"] ["answers", "filling"] (defScope s_weight_by) := ⟨rfl, rfl, rfl, by decide +kernel, rfl, by decide +kernel, by decide +kernel⟩
theorem sc_mean_stretch : FnScope ["answers", "lows", "turned", "highs"] ["answers"] (defScope s_mean_stretch) := ⟨rfl, rfl, rfl, by decide +kernel, rfl, by decide +kernel, by decide +kernel⟩
theorem sc_mean_by : FnScope ["answers", "filling"] ["answers", "filling"] (defScope s_mean_by) := ⟨rfl, rfl, rfl, by decide +kernel, rfl, by decide +kernel, by decide +kernel⟩
abbrev le_least_filling_1 : Expr := (kwE (forE (stAt s_least_filling 2)) 0)
def ld_least_filling_1 : LamD := lamOf ((("least_filling" : Str) ++ ".<locals>.") ++ "<lambda>") le_least_filling_1
theorem sc_least_filling : FnScope ["answers", "filling", "may_count", "place", "low"] ["answers"] (defScope s_least_filling) := ⟨rfl, rfl, rfl, by decide +kernel, rfl, by decide +kernel, by decide +kernel⟩
theorem sc_counts_none : FnScope ["filling"] ["filling"] (defScope s_counts_none) := ⟨rfl, rfl, rfl, by decide +kernel, rfl, by decide +kernel, by decide +kernel⟩
theorem sc_L_cell : FnScope ["_law_script", "_law_k"] ["_law_script", "_law_k"] (defScope s_L_cell) := ⟨rfl, rfl, rfl, by decide +kernel, rfl, by decide +kernel, by decide +kernel⟩
theorem sc_L_mix : FnScope ["_law_cell_here", "_law_k", "_law_number"] ["_law_cell_here", "_law_k"] (defScope s_L_mix) := ⟨rfl, rfl, rfl, by decide +kernel, rfl, by decide +kernel, by decide +kernel⟩
theorem sc_L_row : FnScope ["_law_cell_here", "_law_bit", "_law_many", "_law_most", "_law_row_here", "_law_k"] ["_law_cell_here", "_law_bit", "_law_many", "_law_most"] (defScope s_L_row) := ⟨rfl, rfl, rfl, by decide +kernel, rfl, by decide +kernel, by decide +kernel⟩
theorem sc_L_whole : FnScope ["_law_found"] ["_law_found"] (defScope s_L_whole) := ⟨rfl, rfl, rfl, by decide +kernel, rfl, by decide +kernel, by decide +kernel⟩
theorem sc_L_low : FnScope ["_law_top", "_law_bottom", "_law_one", "_law_other"] ["_law_top", "_law_bottom"] (defScope s_L_low) := ⟨rfl, rfl, rfl, by decide +kernel, rfl, by decide +kernel, by decide +kernel⟩
theorem sc_L_answers : FnScope ["_law_script", "_law_many", "_law_bit", "_law_row_here", "_law_heavy", "_law_far", "_law_words", "_law_found", "_law_k", "_law_ends"] ["_law_script"] (defScope s_L_answers) := ⟨rfl, rfl, rfl, by decide +kernel, rfl, by decide +kernel, by decide +kernel⟩
theorem sc_L_filling : FnScope ["_law_some", "_law_answers_here", "_law_due", "_law_top", "_law_bottom", "_law_value", "_law_answer"] ["_law_some", "_law_answers_here", "_law_due"] (defScope s_L_filling) := ⟨rfl, rfl, rfl, by decide +kernel, rfl, by decide +kernel, by decide +kernel⟩
theorem sc_L_fraction : FnScope ["_law_found"] ["_law_found"] (defScope s_L_fraction) := ⟨rfl, rfl, rfl, by decide +kernel, rfl, by decide +kernel, by decide +kernel⟩
theorem sc_L_none_above : FnScope ["_law_answers_here", "_law_mean", "_law_place", "_law_sign", "_law_total", "_law_answer", "_law_more"] ["_law_answers_here", "_law_mean", "_law_place", "_law_sign"] (defScope s_L_none_above) := ⟨rfl, rfl, rfl, by decide +kernel, rfl, by decide +kernel, by decide +kernel⟩
theorem sc_law : FnScope ["_law_script", "_law_answers_here", "_law_handed", "_law_told", "_law_least", "_law_most", "_law_lows", "_law_highs", "_law_kept"] ["_law_script"] (defScope s_law) := ⟨rfl, rfl, rfl, by decide +kernel, rfl, by decide +kernel, by decide +kernel⟩
structure Ad where
  f_greatest_divisor : Addr
  d_greatest_divisor : FuncData
  f_share : Addr
  d_share : FuncData
  f_is_whole : Addr
  d_is_whole : FuncData
  f_is_list_of : Addr
  d_is_list_of : FuncData
  f_is_bounded : Addr
  d_is_bounded : FuncData
  f_is_answer : Addr
  d_is_answer : FuncData
  f_is_worded_answer : Addr
  d_is_worded_answer : FuncData
  f_is_word : Addr
  d_is_word : FuncData
  f_need_answers : Addr
  d_need_answers : FuncData
  f_total_by : Addr
  d_total_by : FuncData
  f_weight_by : Addr
  d_weight_by : FuncData
  f_mean_stretch : Addr
  d_mean_stretch : FuncData
  f_mean_by : Addr
  d_mean_by : FuncData
  f_least_filling : Addr
  d_least_filling : FuncData
  f_counts_none : Addr
  d_counts_none : FuncData
  f_L_cell : Addr
  d_L_cell : FuncData
  f_L_mix : Addr
  d_L_mix : FuncData
  f_L_row : Addr
  d_L_row : FuncData
  f_L_whole : Addr
  d_L_whole : FuncData
  f_L_low : Addr
  d_L_low : FuncData
  f_L_answers : Addr
  d_L_answers : FuncData
  f_L_filling : Addr
  d_L_filling : FuncData
  f_L_fraction : Addr
  d_L_fraction : FuncData
  f_L_none_above : Addr
  d_L_none_above : FuncData
  f_law : Addr
  d_law : FuncData
  c_SpeakError : Addr
  c_NoAnswers : Addr
  k_WORDS : Addr
  lc_least_filling : Addr
  lp_least_filling : Addr
abbrev ll_least_filling : List (Pos × Str) := [(lamP le_least_filling_1, ((("least_filling" : Str) ++ ".<locals>.") ++ "<lambda>"))]
theorem tp_least_filling : (ll_least_filling).Pairwise fun x y => ¬ (x.1.line = y.1.line ∧ x.1.col = y.1.col) := by decide +kernel
def tabs (a : Ad) : Tabs := [(a.lp_least_filling, ll_least_filling)]
theorem tb_least_filling (a : Ad) : (a.lp_least_filling, ll_least_filling) ∈ tabs a := (.head _)
structure Txt (K : PySem.W.Frag) (mg : Str → Option Value) (a : Ad) : Prop where
  lcd_least_filling : a.d_least_filling.code = .ref a.lc_least_filling
  lch_least_filling : PySem.W.codeHdIn K a.lc_least_filling a.lp_least_filling = true
  tnd : ((tabs a).map (·.1)).Nodup
  F_greatest_divisor : Fun K "greatest_divisor" "greatest_divisor" s_greatest_divisor a.f_greatest_divisor a.d_greatest_divisor
  B_greatest_divisor : Binds K a.d_greatest_divisor ["one", "other"] []
  m_greatest_divisor : mg "greatest_divisor" = some (.ref a.f_greatest_divisor)
  F_share : Fun K "share" "share" s_share a.f_share a.d_share
  B_share : Binds K a.d_share ["top", "bottom"] []
  m_share : mg "share" = some (.ref a.f_share)
  F_is_whole : Fun K "is_whole" "is_whole" s_is_whole a.f_is_whole a.d_is_whole
  B_is_whole : Binds K a.d_is_whole ["thing", "low", "high"] []
  m_is_whole : mg "is_whole" = some (.ref a.f_is_whole)
  F_is_list_of : Fun K "is_list_of" "is_list_of" s_is_list_of a.f_is_list_of a.d_is_list_of
  B_is_list_of : Binds K a.d_is_list_of ["thing", "most", "is_one"] []
  m_is_list_of : mg "is_list_of" = some (.ref a.f_is_list_of)
  F_is_bounded : Fun K "is_bounded" "is_bounded" s_is_bounded a.f_is_bounded a.d_is_bounded
  B_is_bounded : Binds K a.d_is_bounded ["weight", "low", "high"] []
  m_is_bounded : mg "is_bounded" = some (.ref a.f_is_bounded)
  F_is_answer : Fun K "is_answer" "is_answer" s_is_answer a.f_is_answer a.d_is_answer
  B_is_answer : Binds K a.d_is_answer ["thing"] []
  m_is_answer : mg "is_answer" = some (.ref a.f_is_answer)
  F_is_worded_answer : Fun K "is_worded_answer" "is_worded_answer" s_is_worded_answer a.f_is_worded_answer a.d_is_worded_answer
  B_is_worded_answer : Binds K a.d_is_worded_answer ["thing"] []
  m_is_worded_answer : mg "is_worded_answer" = some (.ref a.f_is_worded_answer)
  F_is_word : Fun K "is_word" "is_word" s_is_word a.f_is_word a.d_is_word
  B_is_word : Binds K a.d_is_word ["thing"] []
  m_is_word : mg "is_word" = some (.ref a.f_is_word)
  F_need_answers : Fun K "need_answers" "need_answers" s_need_answers a.f_need_answers a.d_need_answers
  B_need_answers : Binds K a.d_need_answers ["answers", "is_one"] []
  m_need_answers : mg "need_answers" = some (.ref a.f_need_answers)
  F_total_by : Fun K "total_by" "total_by" s_total_by a.f_total_by a.d_total_by
  B_total_by : Binds K a.d_total_by ["answers", "filling"] []
  m_total_by : mg "total_by" = some (.ref a.f_total_by)
  F_weight_by : Fun K "weight_by" "weight_by" s_weight_by a.f_weight_by a.d_weight_by
  B_weight_by : Binds K a.d_weight_by ["answers", "filling"] []
  m_weight_by : mg "weight_by" = some (.ref a.f_weight_by)
  F_mean_stretch : Fun K "mean_stretch" "mean_stretch" s_mean_stretch a.f_mean_stretch a.d_mean_stretch
  B_mean_stretch : Binds K a.d_mean_stretch ["answers"] []
  m_mean_stretch : mg "mean_stretch" = some (.ref a.f_mean_stretch)
  F_mean_by : Fun K "mean_by" "mean_by" s_mean_by a.f_mean_by a.d_mean_by
  B_mean_by : Binds K a.d_mean_by ["answers", "filling"] []
  m_mean_by : mg "mean_by" = some (.ref a.f_mean_by)
  F_least_filling : Fun K "least_filling" "least_filling" s_least_filling a.f_least_filling a.d_least_filling
  B_least_filling : Binds K a.d_least_filling ["answers"] []
  m_least_filling : mg "least_filling" = some (.ref a.f_least_filling)
  F_counts_none : Fun K "counts_none" "counts_none" s_counts_none a.f_counts_none a.d_counts_none
  B_counts_none : Binds K a.d_counts_none ["filling"] []
  m_counts_none : mg "counts_none" = some (.ref a.f_counts_none)
  F_L_cell : Fun K "_law_cell" "_law_cell" s_L_cell a.f_L_cell a.d_L_cell
  B_L_cell : Binds K a.d_L_cell ["_law_script", "_law_k"] []
  m_L_cell : mg "_law_cell" = some (.ref a.f_L_cell)
  F_L_mix : Fun K "_law_mix" "_law_mix" s_L_mix a.f_L_mix a.d_L_mix
  B_L_mix : Binds K a.d_L_mix ["_law_cell_here", "_law_k"] []
  m_L_mix : mg "_law_mix" = some (.ref a.f_L_mix)
  F_L_row : Fun K "_law_row" "_law_row" s_L_row a.f_L_row a.d_L_row
  B_L_row : Binds K a.d_L_row ["_law_cell_here", "_law_bit", "_law_many", "_law_most"] []
  m_L_row : mg "_law_row" = some (.ref a.f_L_row)
  F_L_whole : Fun K "_law_whole" "_law_whole" s_L_whole a.f_L_whole a.d_L_whole
  B_L_whole : Binds K a.d_L_whole ["_law_found"] []
  m_L_whole : mg "_law_whole" = some (.ref a.f_L_whole)
  F_L_low : Fun K "_law_low" "_law_low" s_L_low a.f_L_low a.d_L_low
  B_L_low : Binds K a.d_L_low ["_law_top", "_law_bottom"] []
  m_L_low : mg "_law_low" = some (.ref a.f_L_low)
  F_L_answers : Fun K "_law_answers" "_law_answers" s_L_answers a.f_L_answers a.d_L_answers
  B_L_answers : Binds K a.d_L_answers ["_law_script"] []
  m_L_answers : mg "_law_answers" = some (.ref a.f_L_answers)
  F_L_filling : Fun K "_law_filling" "_law_filling" s_L_filling a.f_L_filling a.d_L_filling
  B_L_filling : Binds K a.d_L_filling ["_law_some", "_law_answers_here", "_law_due"] []
  m_L_filling : mg "_law_filling" = some (.ref a.f_L_filling)
  F_L_fraction : Fun K "_law_fraction" "_law_fraction" s_L_fraction a.f_L_fraction a.d_L_fraction
  B_L_fraction : Binds K a.d_L_fraction ["_law_found"] []
  m_L_fraction : mg "_law_fraction" = some (.ref a.f_L_fraction)
  F_L_none_above : Fun K "_law_none_above" "_law_none_above" s_L_none_above a.f_L_none_above a.d_L_none_above
  B_L_none_above : Binds K a.d_L_none_above ["_law_answers_here", "_law_mean", "_law_place", "_law_sign"] []
  m_L_none_above : mg "_law_none_above" = some (.ref a.f_L_none_above)
  F_law : Fun K "law" "law" s_law a.f_law a.d_law
  B_law : Binds K a.d_law ["_law_script"] []
  m_law : mg "law" = some (.ref a.f_law)
  g_MOST_ANSWERS : ∃ u, mg "MOST_ANSWERS" = some u ∧ RelV (.int 24) u
  g_MOST_WEIGHT : ∃ u, mg "MOST_WEIGHT" = some u ∧ RelV (.int 1000000) u
  g_ANSWER_BOUND : ∃ u, mg "ANSWER_BOUND" = some u ∧ RelV (.int 1000000000) u
  g_WORDS : ∃ u, mg "WORDS" = some u ∧ RelV (.ref a.k_WORDS) u
  t_WORDS : tupInS K a.k_WORDS [(.str "yes"), (.str "no"), (.str "open")] = true
  mc_SpeakError : mg "SpeakError" = some (.ref a.c_SpeakError)
  g_SpeakError : ∃ u, mg "SpeakError" = some u ∧ RelV (.ref a.c_SpeakError) u
  kc_SpeakError : PySem.W.keepIn K (.ref a.c_SpeakError) = true
  xc_SpeakError : XCls K a.c_SpeakError
  xh_SpeakError : XHd K a.c_SpeakError
  xi_SpeakError : xIn K a.c_SpeakError none = true
  mc_NoAnswers : mg "NoAnswers" = some (.ref a.c_NoAnswers)
  g_NoAnswers : ∃ u, mg "NoAnswers" = some u ∧ RelV (.ref a.c_NoAnswers) u
  kc_NoAnswers : PySem.W.keepIn K (.ref a.c_NoAnswers) = true
  xc_NoAnswers : XCls K a.c_NoAnswers
  xh_NoAnswers : XHd K a.c_NoAnswers
  xi_NoAnswers : xIn K a.c_NoAnswers none = true
  z_abs : mg "abs" = none
  z_all : mg "all" = none
  z_bool : mg "bool" = none
  z_enumerate : mg "enumerate" = none
  z_int : mg "int" = none
  z_isinstance : mg "isinstance" = none
  z_len : mg "len" = none
  z_list : mg "list" = none
  z_range : mg "range" = none
  z_sorted : mg "sorted" = none
  z_str : mg "str" = none
  z_sum : mg "sum" = none
  z_tuple : mg "tuple" = none
  z_zip : mg "zip" = none
  bl : ∀ (s : Shared) (u : Value), BindsTo s a.d_law ⟨[u], []⟩ [("_law_script", u)]
/-! promises -/
def spCell (K : PySem.W.Frag) : Sp := fun vs H Q _ => ∃ (p : Addr) (ns : List Int) (k : Int), vs = [.ref p, .int k] ∧ SqL K H p (ns.map V.int) ∧ ns.length ≤ 63 ∧ 0 ≤ k ∧ k ≤ 1000 ∧ ∀ c : Int, Q (.int c) H
def spMix : Sp := fun vs H Q _ => ∃ (c k : Int), vs = [.int c, .int k] ∧ 0 ≤ k ∧ k ≤ 1000 ∧ ∀ r : Int, 0 ≤ r → Q (.int r) H
def spLaw (K : PySem.W.Frag) (ts : List Addr) : Sp := fun vs H Q _ => ∃ (p : Addr) (ns : List Int), vs = [.ref p] ∧ SqL K H p (ns.map V.int) ∧ ns.length ≤ 63 ∧ (∀ P ∈ ts, H P = some (.tbl #[])) ∧ ∀ H', Q (.bl true) H'
theorem law_start {K : PySem.W.Frag} {ts : List Addr} {H : Hp} {a : Addr} {ns : List Int} (hl : ns.length ≤ 63) (hT : ∀ P ∈ ts, H P = some (.tbl #[])) (hS : SqL K H a (ns.map V.int)) : spLaw K ts [.ref a] H (fun v _ => v = .bl true) fun _ _ _ => False := ⟨a, ns, rfl, hS, hl, hT, fun _ => rfl⟩
/-- a thing for a number, and the whole number that it is -/
inductive Thing (H : Hp) : V → Option Int → Prop
  | int (i : Int) : Thing H (.int i) (some i)
  | bl (b : Bool) : Thing H (.bl b) none
  | non : Thing H .non none
  | str (t : Str) : Thing H (.str t) none
  | lst (p : Addr) (xs : List V) (e : H p = some (.lst xs)) : Thing H (.ref p) none
  | tup (p : Addr) (xs : List V) (e : H p = some (.tup xs)) : Thing H (.ref p) none
  | dK (p : Addr) (kvs : List (Key × V)) (e : H p = some (.dK kvs)) : Thing H (.ref p) none
theorem Thing.same {H H' : Hp} {x : V} {o : Option Int} (s : Same H H') (h : Thing H x o) : Thing H' x o := by
  cases h with
  | int i => exact .int i
  | bl b => exact .bl b
  | non => exact .non
  | str t => exact .str t
  | lst p xs e => exact .lst p xs (s _ _ e)
  | tup p xs e => exact .tup p xs (s _ _ e)
  | dK p kvs e => exact .dK p kvs (s _ _ e)
def inR (lo hi : Int) : Option Int → Bool
  | some i => decide (lo ≤ i ∧ i ≤ hi)
  | none => false
def spWhole3 : Sp := fun vs H Q _ => ∃ (x : V) (lo hi : Int) (o : Option Int), vs = [x, .int lo, .int hi] ∧ Thing H x o ∧ Q (.bl (inR lo hi o)) H
theorem inR_yes {lo hi i : Int} (h0 : lo ≤ i) (h1 : i ≤ hi) : inR lo hi (some i) = true := decide_eq_true ⟨h0, h1⟩
theorem pget {α : Type} {R : α → V → Prop} : ∀ {fs : List α} {xs : List V} {i : Nat} {x : V}, PySem.Paired R fs xs → xs[i]? = some x → ∃ f, fs[i]? = some f ∧ R f x
  | _, _, _, _, .nil, h => by cases h
  | _, _, 0, _, .cons r _, h => ⟨_, rfl, by cases h; exact r⟩
  | _, _, i + 1, _, .cons _ t, h => pget (i := i) t h
def wS : Wd → Str
  | .yes => "yes"
  | .no => "no"
  | .opn => "open"
theorem wS_yes {w : Wd} : wS w = "yes" ↔ w = .yes := by cases w <;> decide
theorem wS_no {w : Wd} : wS w = "no" ↔ w = .no := by cases w <;> decide
theorem wS_opn {w : Wd} : wS w = "open" ↔ w = .opn := by cases w <;> decide
def OkA (z : A4) : Prop := 1 ≤ z.1 ∧ z.1 ≤ 1000000 ∧ -1000000000 ≤ z.2.1 ∧ z.2.1 ≤ z.2.2.1 ∧ z.2.2.1 ≤ 1000000000
abbrev tupA (z : A4) : List V := [.int z.1, .int z.2.1, .int z.2.2.1, .str (wS z.2.2.2)]
def IsA (H : Hp) (z : A4) (x : V) : Prop := ∃ p, x = .ref p ∧ H p = some (.tup (tupA z))
theorem IsA.tu {H H' : Hp} {z : A4} {x : V} (s : TupS H H') (h : IsA H z x) : IsA H' z x := let ⟨p, e, q⟩ := h; ⟨p, e, s _ _ q⟩
theorem IsA.same {H H' : Hp} {z : A4} {x : V} (s : Same H H') (h : IsA H z x) : IsA H' z x := let ⟨p, e, q⟩ := h; ⟨p, e, s _ _ q⟩
theorem IsA.t {H H' : Hp} {z : A4} {x : V} (s : SameT H H') (h : IsA H z x) : IsA H' z x := let ⟨p, e, q⟩ := h; ⟨p, e, s.at q⟩
abbrev AllA (H : Hp) : List A4 → List V → Prop := PySem.Paired (IsA H)
theorem AllA.tu {H H' : Hp} (s : TupS H H') : ∀ {zs : List A4} {xs : List V}, AllA H zs xs → AllA H' zs xs
  | _, _, .nil => .nil
  | _, _, .cons r t => .cons (r.tu s) (AllA.tu s t)
theorem AllA.same {H H' : Hp} (s : Same H H') {zs : List A4} {xs : List V} (h : AllA H zs xs) : AllA H' zs xs := h.tu s.tu
theorem AllA.t {H H' : Hp} (s : SameT H H') {zs : List A4} {xs : List V} (h : AllA H zs xs) : AllA H' zs xs := h.tu fun b xs e => s.at e
theorem AllA.snoc {H : Hp} {z : A4} {x : V} (r : IsA H z x) : ∀ {zs : List A4} {xs : List V}, AllA H zs xs → AllA H (zs ++ [z]) (xs ++ [x])
  | _, _, .nil => .cons r .nil
  | _, _, .cons q t => .cons q (AllA.snoc r t)
structure Ans (H : Hp) (l : Addr) (xs : List V) (zs : List A4) : Prop where
  at_ : H l = some (.lst xs)
  all : AllA H zs xs
  len : zs.length ≤ 24
  ok : ∀ z ∈ zs, OkA z
theorem Ans.same {H H' : Hp} {l : Addr} {xs : List V} {zs : List A4} (s : Same H H') (h : Ans H l xs zs) : Ans H' l xs zs := ⟨s _ _ h.at_, h.all.same s, h.len, h.ok⟩
theorem Ans.t {H H' : Hp} {l : Addr} {xs : List V} {zs : List A4} (s : SameT H H') (h : Ans H l xs zs) : Ans H' l xs zs := ⟨s.at h.at_, h.all.t s, h.len, h.ok⟩
theorem Ans.xl {H : Hp} {l : Addr} {xs : List V} {zs : List A4} (h : Ans H l xs zs) : xs.length = zs.length := (Paired.length h.all).symm
/-- a list's writing leaves the tuples -/
theorem tu_lst {H : Hp} {D : Addr} {ys : List V} {o : HO} (h : H D = some (.lst ys)) : TupS H (upd H D o) := fun b xs e => by rw [upd_ne (fun z => by rw [z, h] at e; cases e)]; exact e
/-- what a filling is -/
def oV : Option Int → V
  | none => .non
  | some v => .int v
def spBounded : Sp := fun vs H Q _ => ∃ (z : A4), vs = [.int z.1, .int z.2.1, .int z.2.2.1] ∧ OkA z ∧ Q (.bl true) H
def spAnswer : Sp := fun vs H Q _ => ∃ (p : Addr) (z : A4), vs = [.ref p] ∧ H p = some (.tup [.int z.1, .int z.2.1, .int z.2.2.1]) ∧ OkA z ∧ Q (.bl true) H
def spWord : Sp := fun vs H Q _ => ∃ (w : Wd), vs = [.str (wS w)] ∧ Q (.bl true) H
def spWorded : Sp := fun vs H Q _ => ∃ (x : V) (z : A4), vs = [x] ∧ IsA H z x ∧ OkA z ∧ ∀ H', Same H H' → Q (.bl true) H'
def spList (f : Addr) : Sp := fun vs H Q _ => ∃ (l : Addr) (xs : List V) (zs : List A4), vs = [.ref l, .int 24, .ref f] ∧ Ans H l xs zs ∧ ∀ H', Same H H' → Q (.bl true) H'
def spNeed (f : Addr) : Sp := fun vs H Q _ => ∃ (l : Addr) (xs : List V) (zs : List A4), vs = [.ref l, .ref f] ∧ Ans H l xs zs ∧ ∀ H', Same H H' → Q .non H'
def spGcd : Sp := fun vs H Q _ => ∃ (x y : Int), vs = [.int x, .int y] ∧ 0 ≤ x ∧ 0 ≤ y ∧ Q (.int (Int.gcd x y)) H
/-- a fraction is told -/
def Tell (H : Hp) (Q : VK) (T B : Int) : Prop := ∀ H' p, Same H H' → H' p = some (.tup [.int (lowP T B).1, .int (lowP T B).2]) → Q (.ref p) H'
def spLow : Sp := fun vs H Q _ => ∃ (T B : Int), vs = [.int T, .int B] ∧ 0 < B ∧ Bt 3000 T ∧ Bt 3000 B ∧ Tell H Q T B
def spNo : Sp := fun _ _ _ _ => False
theorem abs_gcd (T B : Int) : Int.gcd (if T < 0 then -T else T) B = Int.gcd T B := by
  split
  · exact Int.neg_gcd
  · rfl
theorem px0 {K : PySem.W.Frag} {H : Hp} {p : Addr} {x y : V} {Q : VK} (h : SqT K H p [x, y]) (q : Q x H) : rIx K (.ref p) (.int 0) H Q := .inr (.inl ⟨p, _, _, x, rfl, rfl, h, atI_nat (j := 0) rfl, q⟩)
theorem px1 {K : PySem.W.Frag} {H : Hp} {p : Addr} {x y : V} {Q : VK} (h : SqT K H p [x, y]) (q : Q y H) : rIx K (.ref p) (.int 1) H Q := .inr (.inl ⟨p, _, _, y, rfl, rfl, h, atI_nat (j := 1) rfl, q⟩)
theorem two_le (x y : V) : [x, y].length ≤ sizeLine := by show 2 ≤ sizeLine; decide
theorem take_map {α β : Type} {f : α → β} {l : List α} {i : Nat} {x : α} (h : l[i]? = some x) : (l.take (i + 1)).map f = (l.take i).map f ++ [f x] := by
  rw [List.take_add_one, h, List.map_append]; rfl
section
variable {P : Program} {w : World} {K : PySem.W.Frag} {mg : Str → Option Value} {base : Heap} {a : Ad}
theorem ok_no {k : Nat} {f : Addr} {fd : FuncData} {ps : List Str} : FnOk P w K mg base CX0 k f fd ps spNo := ⟨fun _ _ _ _ h => h.elim, fun _ _ _ _ _ _ _ _ _ _ _ _ _ h => h.elim⟩
theorem ok_cell (T : Txt K mg a) : FnOk P w K mg base CX0 1 a.f_L_cell a.d_L_cell ["_law_script", "_law_k"] (spCell K) := by
  refine T.F_L_cell.ok sc_L_cell (fun vs H Q E h => ?_) (fun cdv A outer s H vs Q E hr h => ?_)
  · obtain ⟨p, ns, k, rfl, _⟩ := h; rfl
  · obtain ⟨p, ns, k, rfl, hS, hl, h0, h1, q⟩ := h
    refine ⟨_, (pss_cons (ps_if (t_cmp o_lt (vr 1) (pe_callB call_lenM rfl T.z_len bt_len (pa_cons (vr 0) pa_nil)) (nomark _)) (pss_one (ps_ret (pe_ix ix_seq (vr 0) (vr 1) (fun _ _ => rfl)))) pss_nil) (pss_one (ps_ret (pe_op o_add (pe_op o_mulB pe_int (vr 1)) pe_int)))), ?_⟩
    refine ⟨ns.map V.int, .inl hS, ?_⟩
    rw [List.length_map]
    refine ite2 (fun c => ?_) (fun c => ?_)
    · have c' : k < (ns.length : Int) := of_decide_eq_true c
      refine .inl ⟨p, _, k, .int (ns.getD k.toNat 0), rfl, rfl, hS, ?_, q _⟩
      have e : ((k.toNat : Nat) : Int) = k := by omega
      rw [← e]
      refine atI_nat ?_
      have hk : k.toNat < ns.length := by omega
      rw [e]
      simp [List.getElem?_map, List.getD, hk]
    · exact ⟨clB, q _⟩
theorem ok_mix (T : Txt K mg a) : FnOk P w K mg base CX0 1 a.f_L_mix a.d_L_mix ["_law_cell_here", "_law_k"] spMix := by
  refine T.F_L_mix.ok sc_L_mix (fun vs H Q E h => ?_) (fun cdv A outer s H vs Q E hr h => ?_)
  · obtain ⟨c, k, rfl, _⟩ := h; rfl
  · obtain ⟨c, k, rfl, h0, h1, q⟩ := h
    refine ⟨_, (pss_cons (ps_set (i := 2) sc_L_mix.nd rfl (Or.inl rfl) (pe_op o_mod (pe_op o_mulB (pe_op o_add (pe_op o_add (pe_op o_mod (vr 0) pe_int) (pe_op o_mulB pe_int (vr 1))) pe_int) pe_int) pe_int)) (pss_cons (ps_set (i := 2) sc_L_mix.nd rfl (Or.inl rfl) (pe_op o_mod (pe_op o_add (pe_op o_mulB (vr 2) (vr 2)) (pe_op o_mulB pe_int (vr 1))) pe_int)) (pss_one (ps_ret (pe_op o_mod (pe_op o_mulB (vr 2) (pe_op o_add (vr 2) pe_int)) pe_int))))), ?_⟩
    exact ⟨cp, clB, crB, cp, clB (by omega) (by omega), clB, cp, clB (by omega) (by omega), cp, q _ (by omega)⟩
theorem ok_whole3 (T : Txt K mg a) : FnOk P w K mg base CX0 1 a.f_is_whole a.d_is_whole ["thing", "low", "high"] spWhole3 := by
  refine T.F_is_whole.ok sc_is_whole (fun vs H Q E h => ?_) (fun cdv A outer s H vs Q E hr h => ?_)
  · obtain ⟨x, lo, hi, o, rfl, _⟩ := h; rfl
  · obtain ⟨x, lo, hi, o, rfl, th, q⟩ := h
    refine ⟨_, (pss_one (ps_ret (m_and (pe_callB call_isi rfl T.z_isinstance bt_isinstance (pa_cons (vr 0) (pa_cons (pe_bltn (v := .ty "int") rfl T.z_int bt_int rfl) pa_nil))) (m_and (m_not (pe_callB call_isi rfl T.z_isinstance bt_isinstance (pa_cons (vr 0) (pa_cons (pe_bltn (v := .ty "bool") rfl T.z_bool bt_bool rfl) pa_nil)))) (pe_one (m_chain o_le o_le (vr 1) (vr 0) (vr 2))))))), ?_⟩
    cases th with
    | int i =>
      refine ⟨_, _, _, true, rfl, rfl, .int i, rfl, ?_⟩
      refine ⟨_, _, _, false, rfl, rfl, .int i, rfl, ?_⟩
      exact and_if (Q := fun v => Q v H) q
    | bl b => exact ⟨_, _, _, true, rfl, rfl, .bl b, rfl, ⟨_, _, _, true, rfl, rfl, .bl b, rfl, q⟩⟩
    | non => exact ⟨_, _, _, false, rfl, rfl, .non, rfl, q⟩
    | str t => exact ⟨_, _, _, false, rfl, rfl, .str t, rfl, q⟩
    | lst p xs e => exact ⟨_, _, _, false, rfl, rfl, .lst e, rfl, q⟩
    | tup p xs e => exact ⟨_, _, _, false, rfl, rfl, .tup e, rfl, q⟩
    | dK p kvs e => exact ⟨_, _, _, false, rfl, rfl, .dK e, rfl, q⟩
theorem ok_gcd (T : Txt K mg a) : FnOk P w K mg base CX0 1 a.f_greatest_divisor a.d_greatest_divisor ["one", "other"] spGcd := by
  refine T.F_greatest_divisor.ok sc_greatest_divisor (fun vs H Q E h => ?_) (fun cdv A outer s H vs Q E hr h => ?_)
  · obtain ⟨x, y, rfl, _⟩ := h; rfl
  · obtain ⟨x0, y0, rfl, h0, h1, q⟩ := h
    refine ⟨_, (pss_cons (ps_while PassesOwn.never (pt_truth (vr 1) (fun _ => rfl)) (pss_one (ps_par rfl sc_greatest_divisor.nd (i := 0) (j := 1) rfl rfl (by decide) rfl rfl (pa_cons (vr 1) (pa_cons (pe_op o_mod (vr 0) (vr 1)) pa_nil)) rfl))) (pss_one (ps_ret (vr 0)))), ?_⟩
    refine ⟨fun m σ H' => H' = H ∧ ∃ x y : Int, 0 ≤ x ∧ 0 ≤ y ∧ m = y.toNat ∧ Int.gcd x y = Int.gcd x0 y0 ∧ σ = [some (.int x), some (.int y)], ⟨_, rfl, x0, y0, h0, h1, rfl, rfl, rfl⟩, ?_⟩
    rintro m σ H' ⟨rfl, x, y, hx, hy, rfl, hg, rfl⟩
    refine ⟨_, rfl, ?_⟩
    refine ifB (fun c => ?_) (fun c => ?_)
    · have c' : y ≠ 0 := by simpa using c
      refine ⟨fun σ' H'' => H'' = H' ∧ σ' = [some (.int y), some (.int (x % y))], ?_, ?_⟩
      · rintro σ' H'' ⟨rfl, rfl⟩
        exact ⟨(x % y).toNat, by have := Int.emod_lt_of_pos x (show 0 < y by omega); have := Int.emod_nonneg x c'; omega, rfl, y, x % y, hy, Int.emod_nonneg x c', rfl, by rw [gcd_step, hg], rfl⟩
      · exact ⟨cp (by omega), _, _, rfl, rfl, rfl⟩
    · have c' : y = 0 := by simpa using c
      subst c'
      rw [Int.gcd_zero_right] at hg
      have : x = (Int.gcd x0 y0 : Int) := by omega
      rw [← this] at q
      exact q
theorem ok_share (T : Txt K mg a) : FnOk P w K mg base CX0 2 a.f_share a.d_share ["top", "bottom"] spLow := by
  have G_share : FnOk P w K mg base CX0 1 a.f_share a.d_share ["top", "bottom"] spNo := ok_no
  have G_greatest_divisor : FnOk P w K mg base CX0 1 _ _ _ spGcd := ok_gcd T
  refine T.F_share.ok sc_share (fun vs H Q E h => ?_) (fun cdv A outer s H vs Q E hr h => ?_)
  · obtain ⟨x, y, rfl, _⟩ := h; rfl
  · obtain ⟨t, b, rfl, hb, b1, b2, q⟩ := h
    refine ⟨_, (pss_cons (ps_if (t_cmp o_lt (vr 1) pe_int (nomark _)) (pss_one (ps_ret (pe_call G_share hr rfl T.m_share T.F_share.kp T.B_share .nil pass0 (pa_cons (pe_un u_neg (vr 0)) (pa_cons (pe_un u_neg (vr 1)) pa_nil))))) pss_nil) (pss_cons (ps_set (i := 2) sc_share.nd rfl (Or.inl rfl) (pe_call G_greatest_divisor hr rfl T.m_greatest_divisor T.F_greatest_divisor.kp T.B_greatest_divisor .nil pass0 (pa_cons (pe_callB call_abs rfl T.z_abs bt_abs (pa_cons (vr 0) pa_nil)) (pa_cons (vr 1) pa_nil)))) (pss_one (ps_ret (pe_tup (pa_cons (pe_op o_fdivB (vr 0) (vr 2)) (pa_cons (pe_op o_fdivB (vr 1) (vr 2)) pa_nil))))))), ?_⟩
    obtain ⟨l1, l2, l3, l4, l5⟩ := low t b hb
    refine ifC (fun c => absurd c (by omega)) (fun _ => ?_)
    refine ⟨t, rfl, ⟨_, _, rfl, by split <;> omega, by omega, ?_⟩⟩
    rw [abs_gcd]
    have hd : Bt 3000 (Int.gcd t b : Int) := b2.le (by omega)
    refine ⟨cdB l1 hd, cdB l1 hd, two_le _ _, fun p hp => ?_⟩
    exact q _ p (Same.new hp) upd_same
theorem ok_low (T : Txt K mg a) : FnOk P w K mg base CX0 1 a.f_L_low a.d_L_low ["_law_top", "_law_bottom"] spLow := by
  refine T.F_L_low.ok sc_L_low (fun vs H Q E h => ?_) (fun cdv A outer s H vs Q E hr h => ?_)
  · obtain ⟨x, y, rfl, _⟩ := h; rfl
  · obtain ⟨t, b, rfl, hb, b1, b2, q⟩ := h
    refine ⟨_, (pss_cons (ps_set (i := 2) sc_L_low.nd rfl (Or.inl rfl) (pe_callB call_abs rfl T.z_abs bt_abs (pa_cons (vr 0) pa_nil))) (pss_cons (ps_set (i := 3) sc_L_low.nd rfl (Or.inl rfl) (vr 1)) (pss_cons (ps_while PassesOwn.never (t_cmp o_gt (vr 3) pe_int (nomark _)) (pss_one (ps_par rfl sc_L_low.nd (i := 2) (j := 3) rfl rfl (by decide) rfl rfl (pa_cons (vr 3) (pa_cons (pe_op o_mod (vr 2) (vr 3)) pa_nil)) rfl))) (pss_one (ps_ret (pe_tup (pa_cons (pe_op o_fdivB (vr 0) (vr 2)) (pa_cons (pe_op o_fdivB (vr 1) (vr 2)) pa_nil)))))))), ?_⟩
    obtain ⟨l1, l2, l3, l4, l5⟩ := low t b hb
    have hd : Bt 3000 (Int.gcd t b : Int) := b2.le (by omega)
    refine ⟨t, rfl, ?_⟩
    refine ⟨fun m σ H' => H' = H ∧ ∃ x y : Int, 0 ≤ x ∧ 0 ≤ y ∧ m = y.toNat ∧ Int.gcd x y = Int.gcd t b ∧ σ = [some (.int t), some (.int b), some (.int x), some (.int y)], ⟨_, rfl, _, b, by split <;> omega, by omega, rfl, abs_gcd t b, rfl⟩, ?_⟩
    rintro m σ H' ⟨rfl, x, y, hx, hy, rfl, hg, rfl⟩
    refine ifC (fun c => ?_) (fun c => ?_)
    · have c' : y ≠ 0 := by have z : 0 < y := c; omega
      refine ⟨fun σ' H'' => H'' = H' ∧ σ' = [some (.int t), some (.int b), some (.int y), some (.int (x % y))], ?_, ?_⟩
      · rintro σ' H'' ⟨rfl, rfl⟩
        exact ⟨(x % y).toNat, by have := Int.emod_lt_of_pos x (show 0 < y by omega); have := Int.emod_nonneg x c'; omega, rfl, y, x % y, hy, Int.emod_nonneg x c', rfl, by rw [gcd_step, hg], rfl⟩
      · exact ⟨cp (by omega), _, _, rfl, rfl, rfl⟩
    · have c' : y = 0 := by have z : ¬ 0 < y := c; omega
      subst c'
      rw [Int.gcd_zero_right] at hg
      have e : x = (Int.gcd t b : Int) := by omega
      subst e
      refine ⟨cdB l1 hd, cdB l1 hd, two_le _ _, fun p hp => ?_⟩
      exact q _ p (Same.new hp) upd_same
theorem dv_pair {H : Hp} {p : Addr} {t b : Int} (h : SqT K H p [.int t, .int b]) : DV K H (.tuple [.int t, .int b]) (.ref p) := by
  rw [DV]
  refine ⟨p, _, rfl, h, ?_⟩
  rw [DVs]
  refine ⟨_, _, rfl, by simp [DV], ?_⟩
  rw [DVs]
  exact ⟨_, _, rfl, by simp [DV], by simp [DVs]⟩
theorem shaped_pair (t b : Int) : SeqAt.shaped (.tuple [.int t, .int b]) = true := rfl
theorem ok_bounded (T : Txt K mg a) : FnOk P w K mg base CX0 2 a.f_is_bounded a.d_is_bounded ["weight", "low", "high"] spBounded := by
  have G_is_whole : FnOk P w K mg base CX0 1 _ _ _ spWhole3 := ok_whole3 T
  refine T.F_is_bounded.ok sc_is_bounded (fun vs H Q E h => ?_) (fun cdv A outer s H vs Q E hr h => ?_)
  · obtain ⟨z, rfl, _⟩ := h; rfl
  · obtain ⟨z, rfl, ⟨a1, a2, a3, a4, a5⟩, q⟩ := h
    refine ⟨_, (pss_one (ps_ret (m_and (pe_call G_is_whole hr rfl T.m_is_whole T.F_is_whole.kp T.B_is_whole .nil pass0 (pa_cons (vr 0) (pa_cons pe_int (pa_cons (pe_gl rfl T.g_MOST_WEIGHT) pa_nil)))) (m_and (pe_call G_is_whole hr rfl T.m_is_whole T.F_is_whole.kp T.B_is_whole .nil pass0 (pa_cons (vr 1) (pa_cons (pe_un u_neg (pe_gl rfl T.g_ANSWER_BOUND)) (pa_cons (pe_gl rfl T.g_ANSWER_BOUND) pa_nil)))) (pe_one (pe_call G_is_whole hr rfl T.m_is_whole T.F_is_whole.kp T.B_is_whole .nil pass0 (pa_cons (vr 2) (pa_cons (vr 1) (pa_cons (pe_gl rfl T.g_ANSWER_BOUND) pa_nil))))))))), ?_⟩
    refine ⟨_, _, _, _, rfl, .int _, ?_⟩
    rw [inR_yes a1 a2]
    refine ⟨_, _, _, _, rfl, .int _, ?_⟩
    rw [inR_yes a3 (by omega)]
    refine ⟨_, _, _, _, rfl, .int _, ?_⟩
    rw [inR_yes a4 a5]
    exact q
theorem ok_answer (T : Txt K mg a) : FnOk P w K mg base CX0 3 a.f_is_answer a.d_is_answer ["thing"] spAnswer := by
  have G_is_bounded : FnOk P w K mg base CX0 2 _ _ _ spBounded := ok_bounded T
  refine T.F_is_answer.ok sc_is_answer (fun vs H Q E h => ?_) (fun cdv A outer s H vs Q E hr h => ?_)
  · obtain ⟨p, z, rfl, _⟩ := h; rfl
  · obtain ⟨p, z, rfl, hp, ok, q⟩ := h
    refine ⟨_, (pss_one (ps_ret (m_and (pe_callB call_isi rfl T.z_isinstance bt_isinstance (pa_cons (vr 0) (pa_cons (pe_bltn (v := .ty "tuple") rfl T.z_tuple bt_tuple rfl) pa_nil))) (m_and (pe_cmpR o_eq (pe_callB call_lenM rfl T.z_len bt_len (pa_cons (vr 0) pa_nil)) pe_int (nomark _)) (pe_one (pe_call G_is_bounded hr rfl T.m_is_bounded T.F_is_bounded.kp T.B_is_bounded .nil pass0 (pa_cons (pe_ix ix_seq (vr 0) pe_int (fun _ _ => rfl)) (pa_cons (pe_ix ix_seq (vr 0) pe_int (fun _ _ => rfl)) (pa_cons (pe_ix ix_seq (vr 0) pe_int (fun _ _ => rfl)) pa_nil))))))))), ?_⟩
    refine ⟨_, _, _, true, rfl, rfl, .tup hp, rfl, ⟨_, .inr (SqT.of hp), ?_⟩⟩
    refine .inr (.inl ⟨p, _, _, _, rfl, rfl, SqT.of hp, atI_cons 0 rfl rfl, ?_⟩)
    refine .inr (.inl ⟨p, _, _, _, rfl, rfl, SqT.of hp, atI_cons 1 rfl rfl, ?_⟩)
    refine .inr (.inl ⟨p, _, _, _, rfl, rfl, SqT.of hp, atI_cons 2 rfl rfl, ?_⟩)
    exact ⟨z, rfl, ok, q⟩
theorem ok_word (T : Txt K mg a) : FnOk P w K mg base CX0 1 a.f_is_word a.d_is_word ["thing"] spWord := by
  refine T.F_is_word.ok sc_is_word (fun vs H Q E h => ?_) (fun cdv A outer s H vs Q E hr h => ?_)
  · obtain ⟨w', rfl, _⟩ := h; rfl
  · obtain ⟨w', rfl, q⟩ := h
    refine ⟨_, (pss_one (ps_ret (m_and (pe_callB call_isi rfl T.z_isinstance bt_isinstance (pa_cons (vr 0) (pa_cons (pe_bltn (v := .ty "str") rfl T.z_str bt_str rfl) pa_nil))) (pe_one (pe_cmpR op_in_seq (vr 0) (pe_gl rfl T.g_WORDS) (by with_unfolding_all rfl)))))), ?_⟩
    refine ⟨_, _, _, true, rfl, rfl, .str _, rfl, ?_⟩
    refine ⟨_, _, rfl, .inr (tupS_in T.t_WORDS), rfl, rfl, ?_⟩
    cases w' <;> exact q
theorem ok_worded (T : Txt K mg a) : FnOk P w K mg base CX0 4 a.f_is_worded_answer a.d_is_worded_answer ["thing"] spWorded := by
  have G_is_answer : FnOk P w K mg base CX0 3 _ _ _ spAnswer := ok_answer T
  have G_is_word : FnOk P w K mg base CX0 3 _ _ _ spWord := (ok_word T).mono (by decide)
  refine T.F_is_worded_answer.ok sc_is_worded_answer (fun vs H Q E h => ?_) (fun cdv A outer s H vs Q E hr h => ?_)
  · obtain ⟨x, z, rfl, _⟩ := h; rfl
  · obtain ⟨x, z, rfl, ⟨p, rfl, hp⟩, ok, q⟩ := h
    refine ⟨_, (pss_one (ps_ret (m_and (pe_callB call_isi rfl T.z_isinstance bt_isinstance (pa_cons (vr 0) (pa_cons (pe_bltn (v := .ty "tuple") rfl T.z_tuple bt_tuple rfl) pa_nil))) (m_and (pe_cmpR o_eq (pe_callB call_lenM rfl T.z_len bt_len (pa_cons (vr 0) pa_nil)) pe_int (nomark _)) (m_and (pe_call G_is_answer hr rfl T.m_is_answer T.F_is_answer.kp T.B_is_answer .nil pass0 (pa_cons (pe_slice sl_tup (vr 0) po_none (po_some pe_int)) pa_nil)) (pe_one (pe_call G_is_word hr rfl T.m_is_word T.F_is_word.kp T.B_is_word .nil pass0 (pa_cons (pe_ix ix_seq (vr 0) pe_int (fun _ _ => rfl)) pa_nil)))))))), ?_⟩
    refine ⟨_, _, _, true, rfl, rfl, .tup hp, rfl, ⟨_, .inr (SqT.of hp), ?_⟩⟩
    refine ⟨_, rfl, p, _, rfl, SqT.of hp, (show ¬ (HT.sIx 4 0 none = 0 ∧ HT.sIx 4 4 (some 3) = 4) by decide), fun p2 hp2 => ?_⟩
    have s1 := Same.new (o := .tup (cutV (tupA z) none (some 3))) hp2
    refine ⟨p2, z, rfl, upd_same, ok, ?_⟩
    refine .inr (.inl ⟨p, _, _, _, rfl, rfl, SqT.of (s1 _ _ hp), atI_cons 3 rfl rfl, ?_⟩)
    exact ⟨z.2.2.2, rfl, q _ s1⟩
theorem ok_list (T : Txt K mg a) : FnOk P w K mg base CX0 5 a.f_is_list_of a.d_is_list_of ["thing", "most", "is_one"] (spList a.f_is_worded_answer) := by
  have G_is_worded_answer : FnOk P w K mg base CX0 4 _ _ _ spWorded := ok_worded T
  refine T.F_is_list_of.ok sc_is_list_of (fun vs H Q E h => ?_) (fun cdv A outer s H vs Q E hr h => ?_)
  · obtain ⟨l, xs, zs, rfl, _⟩ := h; rfl
  · obtain ⟨l, xs, zs, rfl, ha, q⟩ := h
    refine ⟨_, (pss_one (ps_ret (m_and (pe_callB call_isi rfl T.z_isinstance bt_isinstance (pa_cons (vr 0) (pa_cons (pe_bltn (v := .ty "list") rfl T.z_list bt_list rfl) pa_nil))) (m_and (pe_cmpR o_le (pe_callB call_lenM rfl T.z_len bt_len (pa_cons (vr 0) pa_nil)) (vr 1) (nomark _)) (pe_one (pe_callB (call_allB rfl) rfl T.z_all bt_all (pa_cons (pe_comp rfl (N := ["part", "is_one"]) (ix := [none, some 2]) ⟨rfl, rfl, rfl, rfl, ⟨rfl, rfl, rfl, trivial⟩⟩ (pi_any (vr 0)) ⟨fun C s H fp => pg_name (i := 0) (show List.Nodup (["part", "is_one"] : List Str) by decide +kernel) rfl (Or.inl rfl), fun C s H fp => pts_nil, fun C s H fp => (pe_callV (vr 1) G_is_worded_answer hr T.F_is_worded_answer.kp T.B_is_worded_answer .nil pass0 (pa_cons (vr 0) pa_nil))⟩) pa_nil))))))), ?_⟩
    have sl : sizeLine = 16777216 := sizeLine_eq
    have xl := ha.xl
    have l24 := ha.len
    refine ⟨_, _, _, true, rfl, rfl, .lst ha.at_, rfl, ⟨_, .inl (SqL.of ha.at_), ?_⟩⟩
    refine ifP (by show (xs.length : Int) ≤ 24; omega) ?_
    refine .inl ⟨⟨_, SqL.of ha.at_⟩, fun D hD => ?_⟩
    refine comp_list (K := K) (a := l) (xs := xs) (fun j ys H2 => j ≤ xs.length ∧ Same H H2 ∧ H2 D = some (.lst ys) ∧ ys = (List.replicate j true).map V.bl) ⟨Nat.zero_le _, Same.new hD, upd_same, rfl⟩ (fun j ys H2 h' => SqL.of (h'.2.1 _ _ ha.at_)) (fun j ys H2 h' => h'.2.2.1) ?_ ?_
    · rintro j x ys H2 P' hx ⟨hj, s2, hD2, rfl⟩ hP
      obtain ⟨z, hz, hA⟩ := pget ha.all hx
      have hlt : j < xs.length := (List.getElem?_eq_some_iff.mp hx).1
      refine ⟨⟨rfl, trivial⟩, rfl, x, z, rfl, hA.same s2, ha.ok _ (List.mem_of_getElem? hz), fun H3 s3 => ⟨s3 _ _ hD2, ?_, hP _ _ ⟨by omega, (s2.trans s3).put hD, upd_same, ?_⟩⟩⟩
      · rw [List.length_map, List.length_replicate]; omega
      · rw [List.replicate_succ', List.map_append]; rfl
    rintro ys H2 ⟨_, s2, hD2, rfl⟩
    refine ⟨D, _, _, rfl, SqL.of hD2, rfl, ?_⟩
    have e : ∀ n, (List.replicate n true).all id = true := fun n => by rw [List.all_eq_true]; intro b hb; rw [(List.mem_replicate.mp hb).2]; rfl
    rw [e]
    exact q _ s2
theorem ok_need (T : Txt K mg a) : FnOk P w K mg base CX0 6 a.f_need_answers a.d_need_answers ["answers", "is_one"] (spNeed a.f_is_worded_answer) := by
  have G_is_list_of : FnOk P w K mg base CX0 5 _ _ _ (spList a.f_is_worded_answer) := ok_list T
  refine T.F_need_answers.ok sc_need_answers (fun vs H Q E h => ?_) (fun cdv A outer s H vs Q E hr h => ?_)
  · obtain ⟨l, xs, zs, rfl, _⟩ := h; rfl
  · obtain ⟨l, xs, zs, rfl, ha, q⟩ := h
    refine ⟨_, (pss_one (ps_if (pt_not (t_val (pe_call G_is_list_of hr rfl T.m_is_list_of T.F_is_list_of.kp T.B_is_list_of .nil pass0 (pa_cons (vr 0) (pa_cons (pe_gl rfl T.g_MOST_ANSWERS) (pa_cons (vr 1) pa_nil)))))) (pss_one ps_never) pss_nil)), ?_⟩
    exact ⟨l, xs, zs, rfl, ha, fun H' s' => q _ s'⟩
end
end My

set_option Elab.async false
set_option linter.all false
set_option maxRecDepth 100000
set_option maxHeartbeats 4000000
namespace My
open PySem L2 FrM M80
def FB (f : List (Option Int)) : Prop := ∀ v, some v ∈ f → -1000000000 ≤ v ∧ v ≤ 1000000000
structure Fl (H : Hp) (p : Addr) (zs : List A4) (f : List (Option Int)) : Prop where
  at_ : H p = some (.lst (f.map oV))
  len : f.length = zs.length
  fb : FB f
theorem Fl.same {H H' : Hp} {p : Addr} {zs : List A4} {f : List (Option Int)} (s : Same H H') (h : Fl H p zs f) : Fl H' p zs f := ⟨s _ _ h.at_, h.len, h.fb⟩
theorem tF_bd : ∀ (zs : List A4) (f : List (Option Int)), (∀ z ∈ zs, OkA z) → FB f → (tF (zs.zip f)).natAbs ≤ zs.length * 1000000000000000 ∧ 0 ≤ wF (zs.zip f) ∧ wF (zs.zip f) ≤ (zs.length : Int) * 1000000
  | [], f, _, _ => by simp [tF, tT, wF, wT]
  | _ :: _, [], _, _ => by simp [tF, tT, wF, wT]; omega
  | z :: zs, o :: f, h, fb => by
    obtain ⟨h1, h2, h3⟩ := tF_bd zs f (fun z hz => h z (List.mem_cons_of_mem _ hz)) (fun v hv => fb v (List.mem_cons_of_mem _ hv))
    obtain ⟨a1, a2, _⟩ := h z (List.mem_cons_self ..)
    rw [List.zip_cons_cons, tF_cons, wF_cons, List.length_cons]
    cases o with
    | none => simp only; omega
    | some v =>
      obtain ⟨b1, b2⟩ := fb v (List.mem_cons_self ..)
      have hv : v.natAbs ≤ 1000000000 := by omega
      have hz : z.1.natAbs ≤ 1000000 := by omega
      have hm : (z.1 * v).natAbs ≤ 1000000 * 1000000000 := by rw [Int.natAbs_mul]; exact Nat.mul_le_mul hz hv
      simp only
      omega
def spTotal : Sp := fun vs H Q _ => ∃ (l p : Addr) (xs : List V) (zs : List A4) (f : List (Option Int)), vs = [.ref l, .ref p] ∧ Ans H l xs zs ∧ Fl H p zs f ∧ ∀ H', Same H H' → Q (.int (tF (zs.zip f))) H'
def spWeight : Sp := fun vs H Q _ => ∃ (l p : Addr) (xs : List V) (zs : List A4) (f : List (Option Int)), vs = [.ref l, .ref p] ∧ Ans H l xs zs ∧ Fl H p zs f ∧ ∀ H', Same H H' → Q (.int (wF (zs.zip f))) H'
def spMean : Sp := fun vs H Q _ => ∃ (l p : Addr) (xs : List V) (zs : List A4) (f : List (Option Int)), vs = [.ref l, .ref p] ∧ Ans H l xs zs ∧ Fl H p zs f ∧ 0 < wF (zs.zip f) ∧ Tell H Q (tF (zs.zip f)) (wF (zs.zip f))
def spNone : Sp := fun vs H Q _ => ∃ (p : Addr) (f : List (Option Int)), vs = [.ref p] ∧ H p = some (.lst (f.map oV)) ∧ f.length ≤ 24 ∧ ∀ H', Same H H' → Q (.bl (f.all (·.isNone))) H'
theorem zip_at {zs : List A4} {f : List (Option Int)} {i : Nat} {z : A4} {o : Option Int} (h1 : zs[i]? = some z) (h2 : f[i]? = some o) : (zs.zip f)[i]? = some (z, o) := List.getElem?_zip_eq_some.mpr ⟨h1, h2⟩
theorem tT_some {zs : List A4} {f : List (Option Int)} {i : Nat} {z : A4} {v : Int} (h1 : zs[i]? = some z) (h2 : f[i]? = some (some v)) : tT ((zs.zip f).take (i + 1)) = tT ((zs.zip f).take i) ++ [z.1 * v] := by
  rw [List.take_add_one, zip_at h1 h2]; unfold tT; rw [List.filterMap_append]; rfl
theorem tT_none {zs : List A4} {f : List (Option Int)} {i : Nat} {z : A4} (h1 : zs[i]? = some z) (h2 : f[i]? = some none) : tT ((zs.zip f).take (i + 1)) = tT ((zs.zip f).take i) := by
  rw [List.take_add_one, zip_at h1 h2]; unfold tT; rw [List.filterMap_append]; simp
theorem wT_some {zs : List A4} {f : List (Option Int)} {i : Nat} {z : A4} {v : Int} (h1 : zs[i]? = some z) (h2 : f[i]? = some (some v)) : wT ((zs.zip f).take (i + 1)) = wT ((zs.zip f).take i) ++ [z.1] := by
  rw [List.take_add_one, zip_at h1 h2]; unfold wT; rw [List.filterMap_append]; rfl
theorem wT_none {zs : List A4} {f : List (Option Int)} {i : Nat} {z : A4} (h1 : zs[i]? = some z) (h2 : f[i]? = some none) : wT ((zs.zip f).take (i + 1)) = wT ((zs.zip f).take i) := by
  rw [List.take_add_one, zip_at h1 h2]; unfold wT; rw [List.filterMap_append]; simp
theorem tT_le (ps : PP) : (tT ps).length ≤ ps.length := List.length_filterMap_le ..
theorem wT_le (ps : PP) : (wT ps).length ≤ ps.length := List.length_filterMap_le ..
theorem bt3000 {i : Int} (h : i.natAbs ≤ 24000000000000000) : Bt 3000 i := by
  unfold Bt
  have h1 : (2 : Nat) ^ 60 ≤ 2 ^ 3000 := Nat.pow_le_pow_right (by decide) (by decide)
  have h2 : (24000000000000000 : Nat) < 2 ^ 60 := by decide +kernel
  omega
section
variable {P : Program} {w : World} {K : PySem.W.Frag} {mg : Str → Option Value} {base : Heap} {a : Ad}
theorem ok_total (T : Txt K mg a) : FnOk P w K mg base CX0 1 a.f_total_by a.d_total_by ["answers", "filling"] spTotal := by
  refine T.F_total_by.ok sc_total_by (fun vs H Q E h => ?_) (fun cdv A outer s H vs Q E hr h => ?_)
  · obtain ⟨l, p, xs, zs, f, rfl, _⟩ := h; rfl
  · obtain ⟨l, p, xs, zs, f, rfl, ha, hf, q⟩ := h
    refine ⟨_, (pss_one (ps_ret (pe_callB (call_sumI rfl) rfl T.z_sum bt_sum (pa_cons (pe_comp rfl (N := ["place", "told", "answers"]) (ix := [none, none, some 0]) ⟨rfl, rfl, rfl, rfl, ⟨rfl, rfl, rfl, trivial⟩⟩ (pi_enum rfl T.z_enumerate (pa_cons (vr 1) pa_nil)) ⟨fun C s H fp => (pg_tupK (K := K) (n := 2) rfl rfl (pgs_cons (pg_name (i := 0) (show List.Nodup (["place", "told", "answers"] : List Str) by decide +kernel) rfl (Or.inl rfl)) (pgs_cons (pg_name (i := 1) (show List.Nodup (["place", "told", "answers"] : List Str) by decide +kernel) rfl (Or.inl rfl)) pgs_nil))), fun C s H fp => pts_one (t_cmp o_isnot (vr 1) pe_non (nomark _)), fun C s H fp => (pe_op o_mulB (pe_ix (ix_seqK (K := K) rfl) (pe_ix (ix_seqK (K := K) rfl) (vr 2) (vr 0) (fun _ _ => rfl)) pe_int (fun _ _ => rfl)) (vr 1))⟩) pa_nil)))), ?_⟩
    have sl : sizeLine = 16777216 := sizeLine_eq
    have xl := ha.xl
    have l24 := ha.len
    have hp := hf.at_
    have fl := hf.len
    refine ⟨p, _, rfl, hp, fun D hD => ?_⟩
    refine comp_enum (a := p) (xs := f.map oV) (fun i ys H2 => i ≤ zs.length ∧ Same H H2 ∧ H2 D = some (.lst ys) ∧ ys = (tT ((zs.zip f).take i)).map V.int) ⟨Nat.zero_le _, Same.new hD, upd_same, rfl⟩ (fun i ys H2 h => h.2.1 _ _ hp) (fun i ys H2 h => h.2.2.1) ?_ ?_
    · rintro i v ys H2 pt P' hx ⟨hi, s2, hD2, rfl⟩ hpt hP
      obtain ⟨o, ho, rfl⟩ : ∃ o, f[i]? = some o ∧ v = oV o := by
        rw [List.getElem?_map] at hx
        cases hc : f[i]? with
        | none => rw [hc] at hx; cases hx
        | some z => rw [hc] at hx; cases hx; exact ⟨z, rfl, rfl⟩
      have hlt : i < zs.length := by have := (List.getElem?_eq_some_iff.mp ho).1; omega
      obtain ⟨x, hx'⟩ : ∃ x, xs[i]? = some x := ⟨_, List.getElem?_eq_getElem (by omega)⟩
      obtain ⟨z, hz, hA⟩ := pget ha.all hx'
      obtain ⟨a1, a2, a3, a4, a5⟩ := ha.ok _ (List.mem_of_getElem? hz)
      have s3 := Same.new (o := .tup [.int (i : Nat), oV o]) hpt
      obtain ⟨pz, rfl, hpz⟩ := hA.same (s2.trans s3)
      cases o with
      | none =>
        refine ⟨pt, _, rfl, SqT.of upd_same, rfl, _, _, rfl, _, _, rfl, rfl, ⟨rfl, trivial⟩, hP _ _ ⟨hlt, s2.trans s3, s3 _ _ hD2, ?_⟩⟩
        rw [tT_none hz ho]
      | some v =>
        obtain ⟨f1, f2⟩ := hf.fb v (List.mem_of_getElem? ho)
        refine ⟨pt, _, rfl, SqT.of upd_same, rfl, _, _, rfl, _, _, rfl, rfl, ⟨rfl, trivial⟩, ?_⟩
        refine .inl ⟨l, _, _, _, rfl, rfl, SqL.of ((s2.trans s3) _ _ ha.at_), atI_nat hx', ?_⟩
        refine .inr (.inl ⟨pz, _, _, _, rfl, rfl, SqT.of hpz, atI_cons 0 rfl rfl, ?_⟩)
        refine ⟨clB (by omega) (by omega), s3 _ _ hD2, ?_, hP _ _ ⟨hlt, (s2.trans s3).put hD, upd_same, ?_⟩⟩
        · rw [List.length_map]
          have := tT_le ((zs.zip f).take i)
          rw [List.length_take] at this
          omega
        · rw [tT_some hz ho, List.map_append]; rfl
    · rintro ys H2 ⟨_, s2, hD2, rfl⟩
      have e : (zs.zip f).take (f.map oV).length = zs.zip f := List.take_of_length_le (by rw [List.length_zip, List.length_map]; omega)
      rw [e] at hD2
      exact ⟨D, _, rfl, SqL.of hD2, q _ s2⟩
theorem ok_weight (T : Txt K mg a) : FnOk P w K mg base CX0 1 a.f_weight_by a.d_weight_by ["answers", "filling"] spWeight := by
  refine T.F_weight_by.ok sc_weight_by (fun vs H Q E h => ?_) (fun cdv A outer s H vs Q E hr h => ?_)
  · obtain ⟨l, p, xs, zs, f, rfl, _⟩ := h; rfl
  · obtain ⟨l, p, xs, zs, f, rfl, ha, hf, q⟩ := h
    refine ⟨_, (pss_one (ps_ret (pe_callB (call_sumI rfl) rfl T.z_sum bt_sum (pa_cons (pe_comp rfl (N := ["place", "told", "answers"]) (ix := [none, none, some 0]) ⟨rfl, rfl, rfl, rfl, ⟨rfl, rfl, rfl, trivial⟩⟩ (pi_enum rfl T.z_enumerate (pa_cons (vr 1) pa_nil)) ⟨fun C s H fp => (pg_tupK (K := K) (n := 2) rfl rfl (pgs_cons (pg_name (i := 0) (show List.Nodup (["place", "told", "answers"] : List Str) by decide +kernel) rfl (Or.inl rfl)) (pgs_cons (pg_name (i := 1) (show List.Nodup (["place", "told", "answers"] : List Str) by decide +kernel) rfl (Or.inl rfl)) pgs_nil))), fun C s H fp => pts_one (t_cmp o_isnot (vr 1) pe_non (nomark _)), fun C s H fp => (pe_ix (ix_seqK (K := K) rfl) (pe_ix (ix_seqK (K := K) rfl) (vr 2) (vr 0) (fun _ _ => rfl)) pe_int (fun _ _ => rfl))⟩) pa_nil)))), ?_⟩
    have sl : sizeLine = 16777216 := sizeLine_eq
    have xl := ha.xl
    have l24 := ha.len
    have hp := hf.at_
    have fl := hf.len
    refine ⟨p, _, rfl, hp, fun D hD => ?_⟩
    refine comp_enum (a := p) (xs := f.map oV) (fun i ys H2 => i ≤ zs.length ∧ Same H H2 ∧ H2 D = some (.lst ys) ∧ ys = (wT ((zs.zip f).take i)).map V.int) ⟨Nat.zero_le _, Same.new hD, upd_same, rfl⟩ (fun i ys H2 h => h.2.1 _ _ hp) (fun i ys H2 h => h.2.2.1) ?_ ?_
    · rintro i v ys H2 pt P' hx ⟨hi, s2, hD2, rfl⟩ hpt hP
      obtain ⟨o, ho, rfl⟩ : ∃ o, f[i]? = some o ∧ v = oV o := by
        rw [List.getElem?_map] at hx
        cases hc : f[i]? with
        | none => rw [hc] at hx; cases hx
        | some z => rw [hc] at hx; cases hx; exact ⟨z, rfl, rfl⟩
      have hlt : i < zs.length := by have := (List.getElem?_eq_some_iff.mp ho).1; omega
      obtain ⟨x, hx'⟩ : ∃ x, xs[i]? = some x := ⟨_, List.getElem?_eq_getElem (by omega)⟩
      obtain ⟨z, hz, hA⟩ := pget ha.all hx'
      obtain ⟨a1, a2, a3, a4, a5⟩ := ha.ok _ (List.mem_of_getElem? hz)
      have s3 := Same.new (o := .tup [.int (i : Nat), oV o]) hpt
      obtain ⟨pz, rfl, hpz⟩ := hA.same (s2.trans s3)
      cases o with
      | none =>
        refine ⟨pt, _, rfl, SqT.of upd_same, rfl, _, _, rfl, _, _, rfl, rfl, ⟨rfl, trivial⟩, hP _ _ ⟨hlt, s2.trans s3, s3 _ _ hD2, ?_⟩⟩
        rw [wT_none hz ho]
      | some v =>
        obtain ⟨f1, f2⟩ := hf.fb v (List.mem_of_getElem? ho)
        refine ⟨pt, _, rfl, SqT.of upd_same, rfl, _, _, rfl, _, _, rfl, rfl, ⟨rfl, trivial⟩, ?_⟩
        refine .inl ⟨l, _, _, _, rfl, rfl, SqL.of ((s2.trans s3) _ _ ha.at_), atI_nat hx', ?_⟩
        refine .inr (.inl ⟨pz, _, _, _, rfl, rfl, SqT.of hpz, atI_cons 0 rfl rfl, ?_⟩)
        refine ⟨s3 _ _ hD2, ?_, hP _ _ ⟨hlt, (s2.trans s3).put hD, upd_same, ?_⟩⟩
        · rw [List.length_map]
          have := wT_le ((zs.zip f).take i)
          rw [List.length_take] at this
          omega
        · rw [wT_some hz ho, List.map_append]; rfl
    · rintro ys H2 ⟨_, s2, hD2, rfl⟩
      have e : (zs.zip f).take (f.map oV).length = zs.zip f := List.take_of_length_le (by rw [List.length_zip, List.length_map]; omega)
      rw [e] at hD2
      exact ⟨D, _, rfl, SqL.of hD2, q _ s2⟩
theorem ok_mean (T : Txt K mg a) : FnOk P w K mg base CX0 3 a.f_mean_by a.d_mean_by ["answers", "filling"] spMean := by
  have G_share : FnOk P w K mg base CX0 2 _ _ _ spLow := ok_share T
  have G_total_by : FnOk P w K mg base CX0 2 _ _ _ spTotal := (ok_total T).mono (by decide)
  have G_weight_by : FnOk P w K mg base CX0 2 _ _ _ spWeight := (ok_weight T).mono (by decide)
  refine T.F_mean_by.ok sc_mean_by (fun vs H Q E h => ?_) (fun cdv A outer s H vs Q E hr h => ?_)
  · obtain ⟨l, p, xs, zs, f, rfl, _⟩ := h; rfl
  · obtain ⟨l, p, xs, zs, f, rfl, ha, hf, pos, q⟩ := h
    refine ⟨_, (pss_one (ps_ret (pe_call G_share hr rfl T.m_share T.F_share.kp T.B_share .nil pass0 (pa_cons (pe_call G_total_by hr rfl T.m_total_by T.F_total_by.kp T.B_total_by .nil pass0 (pa_cons (vr 0) (pa_cons (vr 1) pa_nil))) (pa_cons (pe_call G_weight_by hr rfl T.m_weight_by T.F_weight_by.kp T.B_weight_by .nil pass0 (pa_cons (vr 0) (pa_cons (vr 1) pa_nil))) pa_nil))))), ?_⟩
    obtain ⟨b1, b2, b3⟩ := tF_bd zs f ha.ok hf.fb
    have l24 := ha.len
    refine ⟨l, p, xs, zs, f, rfl, ha, hf, fun H1 s1 => ?_⟩
    refine ⟨l, p, xs, zs, f, rfl, ha.same s1, hf.same s1, fun H2 s2 => ?_⟩
    exact ⟨_, _, rfl, pos, bt3000 (by omega), bt3000 (by omega), fun H' p' s' hp' => q _ p' ((s1.trans s2).trans s') hp'⟩
theorem ok_none (T : Txt K mg a) : FnOk P w K mg base CX0 1 a.f_counts_none a.d_counts_none ["filling"] spNone := by
  refine T.F_counts_none.ok sc_counts_none (fun vs H Q E h => ?_) (fun cdv A outer s H vs Q E hr h => ?_)
  · obtain ⟨p, f, rfl, _⟩ := h; rfl
  · obtain ⟨p, f, rfl, hp, hl, q⟩ := h
    refine ⟨_, (pss_one (ps_ret (pe_callB (call_allB rfl) rfl T.z_all bt_all (pa_cons (pe_comp rfl (N := ["told"]) (ix := [none]) ⟨rfl, rfl, rfl, rfl, trivial⟩ (pi_any (vr 0)) ⟨fun C s H fp => pg_name (i := 0) (show List.Nodup (["told"] : List Str) by decide +kernel) rfl (Or.inl rfl), fun C s H fp => pts_nil, fun C s H fp => (pe_cmpR o_is (vr 0) pe_non (nomark _))⟩) pa_nil)))), ?_⟩
    have sl : sizeLine = 16777216 := sizeLine_eq
    refine .inl ⟨⟨_, SqL.of hp⟩, fun D hD => ?_⟩
    refine comp_list (K := K) (a := p) (xs := f.map oV) (fun j ys H2 => j ≤ f.length ∧ Same H H2 ∧ H2 D = some (.lst ys) ∧ ys = ((f.take j).map (·.isNone)).map V.bl) ⟨Nat.zero_le _, Same.new hD, upd_same, rfl⟩ (fun j ys H2 h' => SqL.of (h'.2.1 _ _ hp)) (fun j ys H2 h' => h'.2.2.1) ?_ ?_
    · rintro j x ys H2 P' hx ⟨hj, s2, hD2, rfl⟩ hP
      obtain ⟨o, ho, rfl⟩ : ∃ o, f[j]? = some o ∧ x = oV o := by
        rw [List.getElem?_map] at hx
        cases hc : f[j]? with
        | none => rw [hc] at hx; cases hx
        | some z => rw [hc] at hx; cases hx; exact ⟨z, rfl, rfl⟩
      have hlt : j < f.length := (List.getElem?_eq_some_iff.mp ho).1
      have zl : (((f.take j).map (·.isNone)).map V.bl).length < sizeLine := by rw [List.length_map, List.length_map, List.length_take]; omega
      have fin := hP _ _ ⟨show j + 1 ≤ f.length from hlt, s2.put hD, upd_same, by rw [take_map ho, List.map_append]; try rfl⟩
      cases o with
      | none => exact ⟨trivial, hD2, zl, fin⟩
      | some v => exact ⟨trivial, hD2, zl, fin⟩
    rintro ys H2 ⟨_, s2, hD2, rfl⟩
    rw [List.length_map, List.take_of_length_le (Nat.le_refl _)] at hD2
    refine ⟨D, _, _, rfl, SqL.of hD2, rfl, ?_⟩
    have e : (f.map (·.isNone)).all id = f.all (·.isNone) := by rw [List.all_map]; rfl
    rw [e]
    exact q _ s2
end
end My

set_option Elab.async false
set_option linter.all false
set_option maxRecDepth 100000
set_option maxHeartbeats 4000000
namespace My
open PySem L2 FrM M80
def keyAt (zs : List A4) (i : Nat) : Int := lowAt zs ((may zs).getD i 0)
def mayS (zs : List A4) : List Nat := (ord (fun i j => decide (keyAt zs i < keyAt zs j)) (may zs).length).map fun i => (may zs).getD i 0
def fill (zs : List A4) : List (Option Int) := (mayS zs).foldl (step zs) (zs.map first)
theorem wk_key (g : Nat → Int) (n : Nat) : WSrt.Wk (fun i j => decide (g i < g j)) n := ⟨fun i j _ _ h => by have := of_decide_eq_true h; exact decide_eq_false (by omega), fun i j k _ _ _ h1 h2 => by
    have h1' := of_decide_eq_false h1
    have h2' := of_decide_eq_false h2
    exact decide_eq_false (by omega)⟩
theorem range_getD (l : List Nat) : (List.range l.length).map (fun i => l.getD i 0) = l := by
  refine List.ext_getElem? fun i => ?_
  rw [List.getElem?_map]
  by_cases h : i < l.length
  · rw [List.getElem?_range h, List.getElem?_eq_getElem h]
    simp [List.getD, h]
  · rw [List.getElem?_eq_none (by rw [List.length_range]; omega), List.getElem?_eq_none (by omega)]
    rfl
theorem mayS_perm (zs : List A4) : (mayS zs).Perm (may zs) := by
  have h := (ord_perm (wk_key (keyAt zs) (may zs).length)).map fun i => (may zs).getD i 0
  rw [range_getD] at h
  exact h
theorem mayS_asc (zs : List A4) : (mayS zs).Pairwise fun i j => lowAt zs i ≤ lowAt zs j := by
  unfold mayS
  rw [List.pairwise_map]
  refine (ord_asc (wk_key (keyAt zs) (may zs).length)).imp fun {i j} h => ?_
  have := of_decide_eq_false h
  unfold keyAt at this
  omega
theorem may_nodup (zs : List A4) : (may zs).Nodup := List.Nodup.sublist (List.filter_sublist ..) List.nodup_range
theorem fill_fil {zs : List A4} (ok : ∀ z ∈ zs, OkA z) (hne : ∃ z ∈ zs, wd z ≠ .no) : Fil zs lo (-1) (fill zs) := by
  have hw : ∀ z ∈ zs, 1 ≤ z.1 := fun z hz => (ok z hz).1
  have hp := mayS_perm zs
  have W := walk_all hw (mayS zs) [] _ (walk_first zs) (by rw [List.nil_append]; exact hp.nodup_iff.mpr (may_nodup zs)) (fun k hk => hp.mem_iff.mp hk) (by rw [List.nil_append]; exact mayS_asc zs)
  exact fin_of W hw (fun k hk => by rw [List.nil_append]; exact hp.mem_iff.mpr hk) hne
/-- a filling of lows -/
structure Lws (zs : List A4) (f : List (Option Int)) : Prop where
  len : f.length = zs.length
  el : ∀ v, some v ∈ f → ∃ z ∈ zs, v = lo z
theorem lws_first (zs : List A4) : Lws zs (zs.map first) := ⟨by simp, fun v hv => by
  obtain ⟨z, hz, e⟩ := List.mem_map.mp hv
  unfold first at e
  split at e
  · exact ⟨z, hz, (Option.some.inj e).symm⟩
  · cases e⟩
theorem Lws.step {zs : List A4} {f : List (Option Int)} (h : Lws zs f) (p : Nat) : Lws zs (step zs f p) := by
  unfold M80.step
  split
  · rename_i z hz
    split
    · refine ⟨by rw [List.length_set]; exact h.len, fun v hv => ?_⟩
      rcases List.mem_or_eq_of_mem_set hv with hv | hv
      · exact h.el v hv
      · exact ⟨z, List.mem_of_getElem? hz, Option.some.inj hv⟩
    · exact h
  · exact h
theorem Lws.fb {zs : List A4} {f : List (Option Int)} (h : Lws zs f) (ok : ∀ z ∈ zs, OkA z) : FB f := fun v hv => by
  obtain ⟨z, hz, rfl⟩ := h.el v hv
  obtain ⟨_, _, a3, a4, a5⟩ := ok z hz
  unfold lo
  omega
theorem lws_go {zs : List A4} : ∀ (l : List Nat) (f : List (Option Int)), Lws zs f → Lws zs (l.foldl (step zs) f)
  | [], f, h => h
  | p :: l, f, h => by rw [List.foldl_cons]; exact lws_go l _ (h.step p)
theorem lws_fill (zs : List A4) : Lws zs (fill zs) := lws_go _ _ (lws_first zs)
abbrev nV (l : List Nat) : List V := l.map fun (k : Nat) => V.int (k : Int)
theorem nV_snoc (l : List Nat) (k : Nat) : nV (l ++ [k]) = nV l ++ [.int (k : Int)] := by simp [nV]
theorem ix_nat {n k : Nat} (h : k < n) : ixN n (k : Int) = some k := by
  unfold ixN
  rw [if_pos (by omega), if_pos (by omega)]
  simp
theorem map_set {α β : Type} (g : α → β) (l : List α) (k : Nat) (x : α) : (l.map g).set k (g x) = (l.set k x).map g := by rw [List.map_set]
theorem nV_ord (l o : List Nat) (h : ∀ i ∈ o, i < l.length) : (o.map fun i => (nV l).getD i .non) = nV (o.map fun i => l.getD i 0) := by
  show _ = (o.map fun i => l.getD i 0).map _
  rw [List.map_map]
  refine List.map_congr_left fun i hi => ?_
  have := h i hi
  simp [List.getD, this]
def spKey : List V → Sp := fun vals vs H Q _ => ∃ (l : Addr) (xs : List V) (zs : List A4) (i : Nat) (z : A4), vals = [.ref l] ∧ vs = [.int (i : Nat)] ∧ Ans H l xs zs ∧ zs[i]? = some z ∧ Q (.int (lo z)) H
theorem lsK : LamScope ld_least_filling_1 ["answers"] ["number"] := ⟨rfl, rfl, rfl, by decide +kernel, by decide +kernel, by decide +kernel, by decide +kernel, by decide +kernel⟩
/-- what least_filling tells -/
def spLeast (a : Ad) : Sp := fun vs H Q _ => ∃ (l : Addr) (xs : List V) (zs : List A4), vs = [.ref l] ∧ Ans H l xs zs ∧ TabsOk (tabs a) H ∧ ∀ H' p, SameT H H' → TabsOk (tabs a) H' → H p = none → H' p = some (.lst ((fill zs).map oV)) → Q (.ref p) H'
section
variable {P : Program} {w : World} {K : PySem.W.Frag} {mg : Str → Option Value} {base : Heap} {a : Ad}
theorem ok_key (T : Txt K mg a) : LamU P w K mg base 1 ld_least_filling_1 ["answers"] ["number"] spKey := by
  refine lam_ofU lsK (fun pm ctv clos c us hl => match us, hl with | [_], _ => rfl) (fun vals vs H Q E h => ?_) (fun A outer s H f c clos vals vs Q E hr hfv h => ?_)
  · obtain ⟨l, xs, zs, i, z, rfl, rfl, _⟩ := h; rfl
  · obtain ⟨l, xs, zs, i, z, rfl, rfl, ha, hz, q⟩ := h
    refine ⟨_, (pe_ix ix_seq (pe_ix ix_seq (vr 1) (vr 0) (fun _ _ => rfl)) pe_int (fun _ _ => rfl)), ?_⟩
    have xl := ha.xl
    have hlt : i < zs.length := (List.getElem?_eq_some_iff.mp hz).1
    obtain ⟨x, hx⟩ : ∃ x, xs[i]? = some x := ⟨_, List.getElem?_eq_getElem (by omega)⟩
    obtain ⟨z', hz', pz, rfl, hpz⟩ := pget ha.all hx
    rw [hz] at hz'; cases hz'
    refine .inl ⟨l, _, _, _, rfl, rfl, SqL.of ha.at_, atI_nat hx, ?_⟩
    exact .inr (.inl ⟨pz, _, _, _, rfl, rfl, SqT.of hpz, atI_cons 1 rfl rfl, q⟩)
theorem ok_least (T : Txt K mg a) (hB : Bm mg base) : FnOk P w K mg base CX0 3 a.f_least_filling a.d_least_filling ["answers"] (spLeast a) := by
  have G_counts_none : FnOk P w K mg base CX0 2 _ _ _ spNone := (ok_none T).mono (by decide)
  have G_total_by : FnOk P w K mg base CX0 2 _ _ _ spTotal := (ok_total T).mono (by decide)
  have G_weight_by : FnOk P w K mg base CX0 2 _ _ _ spWeight := (ok_weight T).mono (by decide)
  have L_key : LamU P w K mg base 1 ld_least_filling_1 ["answers"] ["number"] spKey := ok_key T
  refine T.F_least_filling.okL T.lcd_least_filling sc_least_filling (by decide +kernel) (fun vs H Q E h => ?_) (fun A outer s H vs Q E hr h => ?_)
  · obtain ⟨l, xs, zs, rfl, _⟩ := h; rfl
  · obtain ⟨l, xs, zs, rfl, ha, hT, q⟩ := h
    refine ⟨_, (pr_cons (ps_setC rfl (i := 1) sc_least_filling.nd rfl rfl (by with_unfolding_all rfl) (N := ["weight", "low", "high", "word"]) (ix := [none, none, none, none]) ⟨rfl, rfl, rfl, rfl, trivial⟩ (pi_any (vr 0)) ⟨fun C s H fp => (pg_tupK (K := K) (n := 4) rfl rfl (pgs_cons (pg_name (i := 0) (show List.Nodup (["weight", "low", "high", "word"] : List Str) by decide +kernel) rfl (Or.inl rfl)) (pgs_cons (pg_name (i := 1) (show List.Nodup (["weight", "low", "high", "word"] : List Str) by decide +kernel) rfl (Or.inl rfl)) (pgs_cons (pg_name (i := 2) (show List.Nodup (["weight", "low", "high", "word"] : List Str) by decide +kernel) rfl (Or.inl rfl)) (pgs_cons (pg_name (i := 3) (show List.Nodup (["weight", "low", "high", "word"] : List Str) by decide +kernel) rfl (Or.inl rfl)) pgs_nil))))), fun C s H fp => pts_nil, fun C s H fp => (pe_ifExp (t_cmp o_eq (vr 3) pe_str (nomark _)) (vr 1) pe_non)⟩) (pr_cons (ps_setC rfl (i := 2) sc_least_filling.nd rfl rfl (by with_unfolding_all rfl) (N := ["place", "answer"]) (ix := [none, none]) ⟨rfl, rfl, rfl, rfl, trivial⟩ (pi_enum rfl T.z_enumerate (pa_cons (vr 0) pa_nil)) ⟨fun C s H fp => (pg_tupK (K := K) (n := 2) rfl rfl (pgs_cons (pg_name (i := 0) (show List.Nodup (["place", "answer"] : List Str) by decide +kernel) rfl (Or.inl rfl)) (pgs_cons (pg_name (i := 1) (show List.Nodup (["place", "answer"] : List Str) by decide +kernel) rfl (Or.inl rfl)) pgs_nil))), fun C s H fp => pts_one (t_cmp o_eq (pe_ix (ix_seqK (K := K) rfl) (vr 1) pe_int (fun _ _ => rfl)) pe_str (nomark _)), fun C s H fp => (vr 0)⟩) (pr_cons (ps_for PassesOwn.never rfl (pi_any (pe_sortK (d := ld_least_filling_1) (byInt _) rfl T.z_sorted bt_sorted (vr 2) (pe_lam (d := ld_least_filling_1) rfl T.lch_least_filling hB rfl (by with_unfolding_all rfl) rfl (tb_least_filling a) (.head _) T.tnd tp_least_filling) L_key hr rfl (nd_one rfl))) (pg_name (i := 3) sc_least_filling.nd rfl (Or.inl rfl)) (pss_cons (ps_set (i := 4) sc_least_filling.nd rfl (Or.inl rfl) (pe_ix ix_seq (pe_ix ix_seq (vr 0) (vr 3) (fun _ _ => rfl)) pe_int (fun _ _ => rfl))) (pss_one (ps_if (PW.pt (pw_or (t_val (pe_call G_counts_none hr rfl T.m_counts_none T.F_counts_none.kp T.B_counts_none .nil pass0 (pa_cons (vr 1) pa_nil))) (pw_or1 (t_cmp o_lt (pe_op o_mulB (vr 4) (pe_call G_weight_by hr rfl T.m_weight_by T.F_weight_by.kp T.B_weight_by .nil pass0 (pa_cons (vr 0) (pa_cons (vr 1) pa_nil)))) (pe_call G_total_by hr rfl T.m_total_by T.F_total_by.kp T.B_total_by .nil pass0 (pa_cons (vr 0) (pa_cons (vr 1) pa_nil))) (nomark _))))) (pss_one (ps_asg (vr 4) (pg_sub (vr 1) (vr 3) set_list))) pss_nil)))) (pr_ret (vr 1))))), ?_⟩
    have sl : sizeLine = 16777216 := sizeLine_eq
    have xl := ha.xl
    have l24 := ha.len
    refine .inl ⟨⟨_, SqL.of ha.at_⟩, fun D hD => ?_⟩
    refine comp_list (K := K) (a := l) (xs := xs) (fun j ys H2 => j ≤ xs.length ∧ Same H H2 ∧ H2 D = some (.lst ys) ∧ ys = ((zs.take j).map first).map oV) ⟨Nat.zero_le _, Same.new hD, upd_same, rfl⟩ (fun j ys H2 h' => SqL.of (h'.2.1 _ _ ha.at_)) (fun j ys H2 h' => h'.2.2.1) ?_ ?_
    · rintro j x ys H2 P' hx ⟨hj, s2, hD2, rfl⟩ hP
      obtain ⟨z, hz, hA⟩ := pget ha.all hx
      have hlt : j < xs.length := (List.getElem?_eq_some_iff.mp hx).1
      obtain ⟨pz, rfl, hpz⟩ := hA.same s2
      have zl : (((zs.take j).map first).map oV).length < sizeLine := by rw [List.length_map, List.length_map, List.length_take]; omega
      have fin : ∀ v, v = oV (first z) → P' (((zs.take j).map first).map oV ++ [v]) (upd H2 D (.lst (((zs.take j).map first).map oV ++ [v]))) := fun v hv => hP _ _ ⟨by omega, s2.put hD, upd_same, by rw [take_map hz, List.map_append, hv]; rfl⟩
      refine ⟨pz, _, rfl, SqT.of hpz, rfl, _, _, rfl, _, _, rfl, _, _, rfl, _, _, rfl, rfl, trivial, ?_⟩
      refine ifC (fun c => ?_) (fun c => ?_)
      · have c' : wd z = .yes := wS_yes.mp c
        exact ⟨hD2, zl, fin _ (by unfold first; rw [if_pos c']; rfl)⟩
      · have c' : ¬ wd z = .yes := fun e => c (wS_yes.mpr e)
        exact ⟨hD2, zl, fin _ (by unfold first; rw [if_neg c']; rfl)⟩
    rintro ys H2 ⟨_, s2, hD2, rfl⟩
    rw [xl, List.take_of_length_le (Nat.le_refl _)] at hD2
    have ha2 := ha.same s2
    refine ⟨l, _, rfl, ha2.at_, fun D2 hE => ?_⟩
    have ne : D ≠ D2 := ne_of_none hD2 hE
    have mt : ∀ j z, zs[j]? = some z → (List.range (j + 1)).filter (fun i => match zs[i]? with | some z => decide (wd z = .opn) | none => false) = (List.range j).filter (fun i => match zs[i]? with | some z => decide (wd z = .opn) | none => false) ++ (if wd z = .opn then [j] else []) := fun j z hz => by
      rw [List.range_succ, List.filter_append]
      congr 1
      by_cases c : wd z = .opn
      · rw [if_pos c, List.filter_cons_of_pos (by rw [hz]; exact decide_eq_true c)]; rfl
      · rw [if_neg c, List.filter_cons_of_neg (by rw [hz]; simp [c])]; rfl
    refine comp_enum (a := l) (xs := xs) (fun j ys H3 => j ≤ zs.length ∧ Same H2 H3 ∧ H3 D2 = some (.lst ys) ∧ ys = nV ((List.range j).filter fun i => match zs[i]? with | some z => decide (wd z = .opn) | none => false)) ⟨Nat.zero_le _, Same.new hE, upd_same, rfl⟩ (fun j ys H3 h' => h'.2.1 _ _ ha2.at_) (fun j ys H3 h' => h'.2.2.1) ?_ ?_
    · rintro j x ys H3 pt P' hx ⟨hj, s3, hE3, rfl⟩ hpt hP
      obtain ⟨z, hz, hA⟩ := pget ha2.all hx
      have hlt : j < zs.length := (List.getElem?_eq_some_iff.mp hz).1
      have s4 := Same.new (o := .tup [.int (j : Nat), x]) hpt
      obtain ⟨pz, rfl, hpz⟩ := hA.same (s3.trans s4)
      refine ⟨pt, _, rfl, SqT.of upd_same, rfl, _, _, rfl, _, _, rfl, rfl, trivial, ?_⟩
      refine .inr (.inl ⟨pz, _, _, _, rfl, rfl, SqT.of hpz, atI_cons 3 rfl rfl, ?_⟩)
      refine ifC (fun c => ?_) (fun c => ?_)
      · have c' : wd z = .opn := wS_opn.mp c
        refine ⟨s4 _ _ hE3, ?_, hP _ _ ⟨hlt, (s3.trans s4).put hE, upd_same, ?_⟩⟩
        · rw [List.length_map]
          have := List.length_filter_le (fun i => match zs[i]? with | some z => decide (wd z = .opn) | none => false) (List.range j)
          rw [List.length_range] at this
          omega
        · rw [mt j z hz, if_pos c', nV_snoc]
      · have c' : ¬ wd z = .opn := fun e => c (wS_opn.mpr e)
        refine hP _ _ ⟨hlt, s3.trans s4, s4 _ _ hE3, ?_⟩
        rw [mt j z hz, if_neg c', List.append_nil]
    rintro ys H3 ⟨_, s3, hE3, rfl⟩
    rw [xl] at hE3
    have hE3' : H3 D2 = some (.lst (nV (may zs))) := hE3
    clear hE3
    have ha3 := ha2.same s3
    have hT3 : TabsOk (tabs a) H3 := (hT.same s2).same s3
    refine ⟨hT3, fun f c H4 t4 hT4 hf0 hf hc => ?_⟩
    have ha4 := ha3.t t4
    have t04 : SameT H H4 := (s2.trans s3).t.trans t4
    have mlen : (may zs).length ≤ zs.length := by unfold may; have := List.length_filter_le (fun i => match zs[i]? with | some z => decide (wd z = .opn) | none => false) (List.range zs.length); rw [List.length_range] at this; exact this
    refine ⟨D2, nV (may zs), keyAt zs, [.ref l], rfl, SqL.of (t4.at hE3'), by rw [List.length_map]; omega, trivial, .cons ⟨rfl, rfl, 0, rfl, rfl⟩ .nil, fun i x H' hx s' => ?_, fun D3 H5 s5 f1 f2 => ?_⟩
    · rw [List.getElem?_map] at hx
      cases hk : (may zs)[i]? with
      | none => rw [hk] at hx; cases hx
      | some k =>
        rw [hk] at hx; cases hx
        obtain ⟨z, hz, _⟩ := mem_may.mp (List.mem_of_getElem? hk)
        refine ⟨l, xs, zs, k, z, rfl, rfl, ha4.same s', hz, Same.refl _, ?_⟩
        show V.int (lo z) = V.int (keyAt zs i)
        unfold keyAt lowAt
        rw [List.getD, hk, Option.getD_some, hz]
    have eS : (ord (fun i j => decide (keyAt zs i < keyAt zs j)) (nV (may zs)).length).map (fun i => (nV (may zs)).getD i .non) = nV (mayS zs) := by
      rw [List.length_map]
      refine nV_ord _ _ fun i hi => ?_
      exact List.mem_range.mp ((ord_perm (wk_key (keyAt zs) (may zs).length)).mem_iff.mp hi)
    erw [eS]
    have hD5 := s5 _ _ (t4.at (s3 _ _ hD2))
    have ha5 := ha4.same s5
    have s6 := Same.new (o := .lst (nV (mayS zs))) f2
    have hL6 := upd_same (H := H5) (a := D3) (o := .lst (nV (mayS zs)))
    have n3 : D ≠ D3 := ne_of_none hD5 f2
    have nDl : l ≠ D := ne_of_none ha.at_ hD
    generalize upd H5 D3 (.lst (nV (mayS zs))) = H6 at s6 hL6
    have t06 : SameT H H6 := t04.trans (s5.trans s6).t
    have hT6 : TabsOk (tabs a) H6 := (hT4.same s5).same s6
    refine .inl ⟨⟨_, SqL.of hL6⟩, for_list (K := K) (a := D3) (xs := nV (mayS zs)) (fun i σ H' => ∃ (f : List (Option Int)) (x3 x4 : Option V), SameT H H' ∧ TabsOk (tabs a) H' ∧ H' D = some (.lst (f.map oV)) ∧ H' D3 = some (.lst (nV (mayS zs))) ∧ Ans H' l xs zs ∧ f = ((mayS zs).take i).foldl (step zs) (zs.map first) ∧ σ = [some (.ref l), some (.ref D), some (.ref D2), x3, x4]) ?_ ?_ ?_ ?_⟩
    · exact ⟨_, none, none, t06, hT6, s6 _ _ hD5, hL6, ha5.same s6, rfl, rfl⟩
    · rintro i σ H' _ ⟨f, x3, x4, g1, g2, g3, g4, g5, g6, g7⟩
      exact SqL.of g4
    · rintro i x σ H' hx ⟨f, x3, x4, g1, g2, g3, g4, g5, g6, rfl⟩
      obtain ⟨k, hk, rfl⟩ : ∃ k, (mayS zs)[i]? = some k ∧ x = .int (k : Nat) := by
        rw [List.getElem?_map] at hx
        cases hk : (mayS zs)[i]? with
        | none => rw [hk] at hx; cases hx
        | some k => rw [hk] at hx; cases hx; exact ⟨k, rfl, rfl⟩
      obtain ⟨z, hz, ho⟩ := mem_may.mp ((mayS_perm zs).mem_iff.mp (List.mem_of_getElem? hk))
      have klt : k < zs.length := (List.getElem?_eq_some_iff.mp hz).1
      have hw : Lws zs f := by rw [g6]; exact lws_go _ _ (lws_first zs)
      have hfb := hw.fb ha.ok
      have flen := hw.len
      obtain ⟨a1, a2, a3, a4, a5⟩ := ha.ok z (List.mem_of_getElem? hz)
      obtain ⟨b1, b2, b3⟩ := tF_bd zs f ha.ok hfb
      obtain ⟨y, hy⟩ : ∃ y, xs[k]? = some y := ⟨_, List.getElem?_eq_getElem (by omega)⟩
      obtain ⟨z', hz', pz, rfl, hpz⟩ := pget g5.all hy
      rw [hz] at hz'; cases hz'
      have est : ((mayS zs).take (i + 1)).foldl (step zs) (zs.map first) = step zs f k := by rw [List.take_add_one, hk, List.foldl_append, ← g6]; rfl
      have fin : ∀ (H2 : Hp) (f2 : List (Option Int)), SameT H' H2 → TabsOk (tabs a) H2 → (∀ b, b ≠ D → True) → Ans H2 l xs zs → H2 D3 = some (.lst (nV (mayS zs))) → H2 D = some (.lst (f2.map oV)) → f2 = step zs f k → ∃ (f : List (Option Int)) (x3 x4 : Option V), SameT H H2 ∧ TabsOk (tabs a) H2 ∧ H2 D = some (.lst (f.map oV)) ∧ H2 D3 = some (.lst (nV (mayS zs))) ∧ Ans H2 l xs zs ∧ f = ((mayS zs).take (i + 1)).foldl (step zs) (zs.map first) ∧ [some (V.ref l), some (.ref D), some (.ref D2), some (.int (k : Nat)), some (.int (lo z))] = [some (.ref l), some (.ref D), some (.ref D2), x3, x4] :=
        fun H2 f2 t2 tt _ h2 h3 h4 e => ⟨f2, _, _, g1.trans t2, tt, h4, h3, h2, by rw [est, e], rfl⟩
      refine .inl ⟨l, _, _, _, rfl, rfl, SqL.of g5.at_, atI_nat hy, ?_⟩
      refine .inr (.inl ⟨pz, _, _, _, rfl, rfl, SqT.of hpz, atI_cons 1 rfl rfl, ?_⟩)
      refine ⟨D, f, rfl, g3, by omega, fun H7 s7 => ?_⟩
      have put : ∀ (H2 : Hp), Same H' H2 → step zs f k = f.set k (some (lo z)) → ∃ p ys i2 j2, V.ref D = .ref p ∧ V.int (k : Nat) = .int i2 ∧ H2 p = some (.lst ys) ∧ ixN ys.length i2 = some j2 ∧ ∃ (f : List (Option Int)) (x3 x4 : Option V), SameT H (upd H2 p (.lst (ys.set j2 (.int (lo z))))) ∧ TabsOk (tabs a) (upd H2 p (.lst (ys.set j2 (.int (lo z))))) ∧ (upd H2 p (.lst (ys.set j2 (.int (lo z))))) D = some (.lst (f.map oV)) ∧ (upd H2 p (.lst (ys.set j2 (.int (lo z))))) D3 = some (.lst (nV (mayS zs))) ∧ Ans (upd H2 p (.lst (ys.set j2 (.int (lo z))))) l xs zs ∧ f = ((mayS zs).take (i + 1)).foldl (step zs) (zs.map first) ∧ [some (V.ref l), some (.ref D), some (.ref D2), some (.int (k : Nat)), some (.int (lo z))] = [some (.ref l), some (.ref D), some (.ref D2), x3, x4] := fun H2 s2' e => by
        have hD' := s2' _ _ g3
        refine ⟨D, _, _, k, rfl, rfl, hD', ix_nat (by rw [List.length_map]; omega), ?_⟩
        rw [show V.int (lo z) = oV (some (lo z)) from rfl, map_set]
        refine ⟨_, _, _, (g1.trans s2'.t).put hD, (g2.same s2').put (fun ps z => by rw [hD'] at z; cases z) (fun φ z => by rw [hD'] at z; cases z), upd_same, ?_, ?_, by rw [est, e], rfl⟩
        · rw [upd_ne (Ne.symm n3)]; exact s2' _ _ g4
        · exact ⟨by rw [upd_ne (fun w => by have := g5.at_; rw [w] at this; rw [g3] at this; exact nDl w)]; exact s2' _ _ g5.at_, (g5.all.same s2').tu (tu_lst hD'), g5.len, g5.ok⟩
      cases c : f.all (·.isNone) with
      | true => exact put _ s7 (by unfold M80.step; rw [hz]; simp only; rw [if_pos (.inl c)])
      | false =>
        have hf7 : Fl H7 D zs f := ⟨s7 _ _ g3, flen, hfb⟩
        refine ⟨l, D, xs, zs, f, rfl, g5.same s7, hf7, fun H8 s8 => ⟨clB (by omega) (by omega), ?_⟩⟩
        refine ⟨l, D, xs, zs, f, rfl, (g5.same s7).same s8, hf7.same s8, fun H9 s9 => ?_⟩
        have s79 := (s7.trans s8).trans s9
        refine ifC (fun c2 => ?_) (fun c2 => ?_)
        · exact put _ s79 (by unfold M80.step; rw [hz]; simp only; rw [if_pos (.inr c2)])
        · have e : step zs f k = f := by
            unfold M80.step; rw [hz]; simp only
            rw [if_neg (by rintro (z | z); rw [c] at z; cases z; exact c2 z)]
          exact ⟨f, _, _, g1.trans s79.t, g2.same s79, s79 _ _ g3, s79 _ _ g4, g5.same s79, by rw [est, e], rfl⟩
    · rintro σ H' ⟨f, x3, x4, g1, g2, g3, g4, g5, g6, rfl⟩
      have e : f = fill zs := by
        rw [g6, List.take_of_length_le (by rw [List.length_map]; exact Nat.le_refl _)]; rfl
      rw [e] at g3
      intro H9 s9 _
      exact q _ D (g1.trans s9.t) (g2.same s9) hD (s9 _ _ g3)
end
end My

set_option Elab.async false
set_option linter.all false
set_option maxRecDepth 100000
set_option maxHeartbeats 4000000
namespace My
open PySem L2 FrM M80
def highs (zs : List A4) : List (Option Int) := (fill (zs.map turn)).map neg
structure Told (H0 H : Hp) (t p1 p2 pl ph : Addr) (zs : List A4) : Prop where
  at_ : H t = some (.tup [.ref p1, .ref p2, .ref pl, .ref ph])
  m1 : H p1 = some (.tup [.int (lowP (tF (zs.zip (fill zs))) (wF (zs.zip (fill zs)))).1, .int (lowP (tF (zs.zip (fill zs))) (wF (zs.zip (fill zs)))).2])
  m2 : H p2 = some (.tup [.int (lowP (tF (zs.zip (highs zs))) (wF (zs.zip (highs zs)))).1, .int (lowP (tF (zs.zip (highs zs))) (wF (zs.zip (highs zs)))).2])
  lo : H pl = some (.lst ((fill zs).map oV))
  hi : H ph = some (.lst ((highs zs).map oV))
  ne : pl ≠ ph
  fl : H0 pl = none
  fh : H0 ph = none
def Some' (zs : List A4) : Prop := ∃ z ∈ zs, wd z ≠ .no
def spStretch (a : Ad) : Sp := fun vs H Q _ => ∃ (l : Addr) (xs : List V) (zs : List A4), vs = [.ref l] ∧ Ans H l xs zs ∧ TabsOk (tabs a) H ∧ (¬ Some' zs → ∀ H', SameT H H' → TabsOk (tabs a) H' → Q .non H') ∧ (Some' zs → ∀ H' t p1 p2 pl ph, SameT H H' → TabsOk (tabs a) H' → Told H H' t p1 p2 pl ph zs → Q (.ref t) H')
theorem ok_turn {zs : List A4} (ok : ∀ z ∈ zs, OkA z) : ∀ z ∈ zs.map turn, OkA z := fun z hz => by
  obtain ⟨y, hy, rfl⟩ := List.mem_map.mp hz
  obtain ⟨a1, a2, a3, a4, a5⟩ := ok y hy
  unfold turn OkA
  simp only
  omega
theorem some_turn {zs : List A4} (h : Some' zs) : Some' (zs.map turn) := by
  obtain ⟨z, hz, e⟩ := h
  exact ⟨turn z, List.mem_map.mpr ⟨z, hz, rfl⟩, e⟩
theorem highs_fil {zs : List A4} (ok : ∀ z ∈ zs, OkA z) (h : Some' zs) : Fil zs hi 1 (highs zs) := fin_turn (fill_fil (ok_turn ok) (some_turn h))
theorem highs_fb {zs : List A4} (ok : ∀ z ∈ zs, OkA z) : (highs zs).length = zs.length ∧ FB (highs zs) := by
  have h := lws_fill (zs.map turn)
  have hb := h.fb (ok_turn ok)
  unfold highs
  refine ⟨by rw [List.length_map, h.len, List.length_map], fun v hv => ?_⟩
  obtain ⟨o, ho, e⟩ := List.mem_map.mp hv
  cases o with
  | none => cases e
  | some u =>
    have := hb u ho
    have e' : -u = v := Option.some.inj e
    omega
theorem all_no {zs : List A4} : ((zs.map fun z => decide (wS z.2.2.2 = "no")).all id = true) ↔ ¬ Some' zs := by
  rw [List.all_eq_true]
  constructor
  · rintro h ⟨z, hz, hn⟩
    have := h _ (List.mem_map.mpr ⟨z, hz, rfl⟩)
    exact hn (wS_no.mp (of_decide_eq_true this))
  · intro h b hb
    obtain ⟨z, hz, rfl⟩ := List.mem_map.mp hb
    refine decide_eq_true (wS_no.mpr ?_)
    exact Classical.byContradiction fun e => h ⟨z, hz, e⟩
section
variable {P : Program} {w : World} {K : PySem.W.Frag} {mg : Str → Option Value} {base : Heap} {a : Ad}
theorem ok_stretch (T : Txt K mg a) (hB : Bm mg base) : FnOk P w K mg base CX0 7 a.f_mean_stretch a.d_mean_stretch ["answers"] (spStretch a) := by
  have G_need_answers : FnOk P w K mg base CX0 6 _ _ _ (spNeed a.f_is_worded_answer) := ok_need T
  have G_least_filling : FnOk P w K mg base CX0 6 _ _ _ (spLeast a) := (ok_least T hB).mono (by decide)
  have G_mean_by : FnOk P w K mg base CX0 6 _ _ _ spMean := (ok_mean T).mono (by decide)
  refine T.F_mean_stretch.ok sc_mean_stretch (fun vs H Q E h => ?_) (fun cdv A outer s H vs Q E hr h => ?_)
  · obtain ⟨l, xs, zs, rfl, _⟩ := h; rfl
  · obtain ⟨l, xs, zs, rfl, ha, hT, q0, q⟩ := h
    refine ⟨_, (pss_cons (ps_expr (pe_call G_need_answers hr rfl T.m_need_answers T.F_need_answers.kp T.B_need_answers .nil pass0 (pa_cons (vr 0) (pa_cons (pe_gl (v := .ref a.f_is_worded_answer) rfl ⟨_, T.m_is_worded_answer, rfl⟩) pa_nil)))) (pss_cons (ps_if (t_val (pe_callB (call_allB rfl) rfl T.z_all bt_all (pa_cons (pe_comp rfl (N := ["weight", "low", "high", "word"]) (ix := [none, none, none, none]) ⟨rfl, rfl, rfl, rfl, trivial⟩ (pi_any (vr 0)) ⟨fun C s H fp => (pg_tupK (K := K) (n := 4) rfl rfl (pgs_cons (pg_name (i := 0) (show List.Nodup (["weight", "low", "high", "word"] : List Str) by decide +kernel) rfl (Or.inl rfl)) (pgs_cons (pg_name (i := 1) (show List.Nodup (["weight", "low", "high", "word"] : List Str) by decide +kernel) rfl (Or.inl rfl)) (pgs_cons (pg_name (i := 2) (show List.Nodup (["weight", "low", "high", "word"] : List Str) by decide +kernel) rfl (Or.inl rfl)) (pgs_cons (pg_name (i := 3) (show List.Nodup (["weight", "low", "high", "word"] : List Str) by decide +kernel) rfl (Or.inl rfl)) pgs_nil))))), fun C s H fp => pts_nil, fun C s H fp => (pe_cmpR o_eq (vr 3) pe_str (nomark _))⟩) pa_nil))) (pss_one (ps_ret pe_non)) pss_nil) (pss_cons (ps_set (i := 1) sc_mean_stretch.nd rfl (Or.inl rfl) (pe_call G_least_filling hr rfl T.m_least_filling T.F_least_filling.kp T.B_least_filling .nil pass0 (pa_cons (vr 0) pa_nil))) (pss_cons (ps_setC rfl (i := 2) sc_mean_stretch.nd rfl rfl (by with_unfolding_all rfl) (N := ["weight", "low", "high", "word"]) (ix := [none, none, none, none]) ⟨rfl, rfl, rfl, rfl, trivial⟩ (pi_any (vr 0)) ⟨fun C s H fp => (pg_tupK (K := K) (n := 4) rfl rfl (pgs_cons (pg_name (i := 0) (show List.Nodup (["weight", "low", "high", "word"] : List Str) by decide +kernel) rfl (Or.inl rfl)) (pgs_cons (pg_name (i := 1) (show List.Nodup (["weight", "low", "high", "word"] : List Str) by decide +kernel) rfl (Or.inl rfl)) (pgs_cons (pg_name (i := 2) (show List.Nodup (["weight", "low", "high", "word"] : List Str) by decide +kernel) rfl (Or.inl rfl)) (pgs_cons (pg_name (i := 3) (show List.Nodup (["weight", "low", "high", "word"] : List Str) by decide +kernel) rfl (Or.inl rfl)) pgs_nil))))), fun C s H fp => pts_nil, fun C s H fp => (pe_tup (pa_cons (vr 0) (pa_cons (pe_un u_neg (vr 2)) (pa_cons (pe_un u_neg (vr 1)) (pa_cons (vr 3) pa_nil)))))⟩) (pss_cons (ps_setC rfl (i := 3) sc_mean_stretch.nd rfl rfl (by with_unfolding_all rfl) (N := ["told"]) (ix := [none]) ⟨rfl, rfl, rfl, rfl, trivial⟩ (pi_any (pe_call G_least_filling hr rfl T.m_least_filling T.F_least_filling.kp T.B_least_filling .nil pass0 (pa_cons (vr 2) pa_nil))) ⟨fun C s H fp => pg_name (i := 0) (show List.Nodup (["told"] : List Str) by decide +kernel) rfl (Or.inl rfl), fun C s H fp => pts_nil, fun C s H fp => (pe_ifExp (t_cmp o_is (vr 0) pe_non (nomark _)) pe_non (pe_un u_neg (vr 0)))⟩) (pss_one (ps_ret (pe_tup (pa_cons (pe_call G_mean_by hr rfl T.m_mean_by T.F_mean_by.kp T.B_mean_by .nil pass0 (pa_cons (vr 0) (pa_cons (vr 1) pa_nil))) (pa_cons (pe_call G_mean_by hr rfl T.m_mean_by T.F_mean_by.kp T.B_mean_by .nil pass0 (pa_cons (vr 0) (pa_cons (vr 3) pa_nil))) (pa_cons (vr 1) (pa_cons (vr 3) pa_nil)))))))))))), ?_⟩
    have sl : sizeLine = 16777216 := sizeLine_eq
    have xl := ha.xl
    have l24 := ha.len
    refine ⟨l, xs, zs, rfl, ha, fun H1 s1 => ?_⟩
    have ha1 := ha.same s1
    refine .inl ⟨⟨_, SqL.of ha1.at_⟩, fun D hD => ?_⟩
    refine comp_list (K := K) (a := l) (xs := xs) (fun j ys H2 => j ≤ xs.length ∧ Same H1 H2 ∧ H2 D = some (.lst ys) ∧ ys = ((zs.take j).map fun z => decide (wS z.2.2.2 = "no")).map V.bl) ⟨Nat.zero_le _, Same.new hD, upd_same, rfl⟩ (fun j ys H2 h' => SqL.of (h'.2.1 _ _ ha1.at_)) (fun j ys H2 h' => h'.2.2.1) ?_ ?_
    · rintro j x ys H2 P' hx ⟨hj, s2, hD2, rfl⟩ hP
      obtain ⟨z, hz, hA⟩ := pget ha1.all hx
      have hlt : j < xs.length := (List.getElem?_eq_some_iff.mp hx).1
      obtain ⟨pz, rfl, hpz⟩ := hA.same s2
      refine ⟨pz, _, rfl, SqT.of hpz, rfl, _, _, rfl, _, _, rfl, _, _, rfl, _, _, rfl, rfl, trivial, hD2, ?_, hP _ _ ⟨by omega, s2.put hD, upd_same, ?_⟩⟩
      · rw [List.length_map, List.length_map, List.length_take]; omega
      · rw [take_map hz, List.map_append]; rfl
    rintro ys H2 ⟨_, s2, hD2, rfl⟩
    rw [xl, List.take_of_length_le (Nat.le_refl _)] at hD2
    refine ⟨D, _, _, rfl, SqL.of hD2, rfl, ?_⟩
    have s02 := s1.trans s2
    cases hc : (zs.map fun z => decide (wS z.2.2.2 = "no")).all id with
    | true => exact q0 (all_no.mp hc) _ s02.t (hT.same s02)
    | false =>
      have hS : Some' zs := Classical.byContradiction fun h => by rw [all_no.mpr h] at hc; cases hc
      have F1 := fill_fil ha.ok hS
      have F2 := highs_fil ha.ok hS
      refine ⟨l, xs, zs, rfl, ha.same s02, hT.same s02, fun H3 pl t3 hT3 fpl hpl => ?_⟩
      have t03 := s02.t.trans t3
      have ha3 := ha.t t03
      refine .inl ⟨⟨_, SqL.of ha3.at_⟩, fun D2 hD2' => ?_⟩
      refine comp_list (K := K) (a := l) (xs := xs) (fun j ys H4 => j ≤ xs.length ∧ Same H3 H4 ∧ H4 D2 = some (.lst ys) ∧ AllA H4 ((zs.take j).map turn) ys) ⟨Nat.zero_le _, Same.new hD2', upd_same, .nil⟩ (fun j ys H4 h' => SqL.of (h'.2.1 _ _ ha3.at_)) (fun j ys H4 h' => h'.2.2.1) ?_ ?_
      · rintro j x ys H4 P' hx ⟨hj, s4, hD4, hal⟩ hP
        obtain ⟨z, hz, hA⟩ := pget ha3.all hx
        have hlt : j < xs.length := (List.getElem?_eq_some_iff.mp hx).1
        obtain ⟨pz, rfl, hpz⟩ := hA.same s4
        have yl : ys.length = ((zs.take j).map turn).length := (Paired.length hal).symm
        rw [List.length_map, List.length_take] at yl
        refine ⟨pz, _, rfl, SqT.of hpz, rfl, _, _, rfl, _, _, rfl, _, _, rfl, _, _, rfl, rfl, trivial, ?_⟩
        refine ⟨(by decide : 4 ≤ sizeLine), fun p5 hp5 => ?_⟩
        have s5 := Same.new (o := .tup (tupA (turn z))) hp5
        have hD5 := s5 _ _ hD4
        refine ⟨hD5, by omega, hP _ _ ⟨by omega, (s4.trans s5).put hD2', upd_same, ?_⟩⟩
        rw [take_map hz]
        exact AllA.snoc ⟨p5, rfl, (tu_lst hD5) _ _ upd_same⟩ ((hal.same s5).tu (tu_lst hD5))
      rintro ys H4 ⟨_, s4, hD4, hal⟩
      rw [xl, List.take_of_length_le (Nat.le_refl _)] at hal
      have at4 : Ans H4 D2 ys (zs.map turn) := ⟨hD4, hal, by rw [List.length_map]; exact l24, ok_turn ha.ok⟩
      have hT4 := hT3.same s4
      refine ⟨D2, ys, zs.map turn, rfl, at4, hT4, fun H5 p2 t5 hT5 fp2 hp2 => ?_⟩
      have flen : (fill (zs.map turn)).length = zs.length := by rw [(lws_fill (zs.map turn)).len, List.length_map]
      refine .inl ⟨⟨_, SqL.of hp2⟩, fun D3 hD3 => ?_⟩
      refine comp_list (K := K) (a := p2) (xs := (fill (zs.map turn)).map oV) (fun j ys H6 => j ≤ (fill (zs.map turn)).length ∧ Same H5 H6 ∧ H6 D3 = some (.lst ys) ∧ ys = (((fill (zs.map turn)).take j).map neg).map oV) ⟨Nat.zero_le _, Same.new hD3, upd_same, rfl⟩ (fun j ys H6 h' => SqL.of (h'.2.1 _ _ hp2)) (fun j ys H6 h' => h'.2.2.1) ?_ ?_
      · rintro j x ys H6 P' hx ⟨hj, s6, hD6, rfl⟩ hP
        obtain ⟨o, ho, rfl⟩ : ∃ o, (fill (zs.map turn))[j]? = some o ∧ x = oV o := by
          rw [List.getElem?_map] at hx
          cases hc : (fill (zs.map turn))[j]? with
          | none => rw [hc] at hx; cases hx
          | some z => rw [hc] at hx; cases hx; exact ⟨z, rfl, rfl⟩
        have hlt : j < (fill (zs.map turn)).length := (List.getElem?_eq_some_iff.mp ho).1
        have zl : ((((fill (zs.map turn)).take j).map neg).map oV).length < sizeLine := by rw [List.length_map, List.length_map, List.length_take]; omega
        have fin := hP _ _ ⟨show j + 1 ≤ _ from hlt, s6.put hD3, upd_same, by rw [take_map ho, List.map_append]; try rfl⟩
        cases o with
        | none => exact ⟨trivial, hD6, zl, fin⟩
        | some v => exact ⟨trivial, hD6, zl, fin⟩
      rintro ys' H6 ⟨_, s6, hD6, rfl⟩
      rw [List.length_map, List.take_of_length_le (Nat.le_refl _)] at hD6
      have hD6' : H6 D3 = some (.lst ((highs zs).map oV)) := hD6
      clear hD6
      have t36 : SameT H3 H6 := (s4.t.trans t5).trans s6.t
      have t06 := t03.trans t36
      have hpl6 := t36.at hpl
      have ha6 := ha.t t06
      have hT6 := hT5.same s6
      have ne : pl ≠ D3 := ne_of_none ((s4.t.trans t5).at hpl) hD3
      have fD3 : H D3 = none := (t03.trans (s4.t.trans t5)).free hD3
      have fpl0 : H pl = none := s02.free fpl
      obtain ⟨hl1, hl2⟩ := highs_fb ha.ok
      have fl1 : Fl H6 pl zs (fill zs) := ⟨hpl6, (lws_fill zs).len, (lws_fill zs).fb ha.ok⟩
      have fl2 : Fl H6 D3 zs (highs zs) := ⟨hD6', hl1, hl2⟩
      refine ⟨l, pl, xs, zs, _, rfl, ha6, fl1, F1.pos, fun H7 m1 s7 hm1 => ?_⟩
      refine ⟨l, D3, xs, zs, _, rfl, ha6.same s7, fl2.same s7, F2.pos, fun H8 m2 s8 hm2 => ?_⟩
      refine ⟨(by decide : 4 ≤ sizeLine), fun t ht => ?_⟩
      have s9 := Same.new (o := .tup [.ref m1, .ref m2, .ref pl, .ref D3]) ht
      have s69 := (s7.trans s8).trans s9
      exact q hS _ t m1 m2 pl D3 (t06.trans s69.t) (hT6.same s69) ⟨upd_same, (s8.trans s9) _ _ hm1, s9 _ _ hm2, s69 _ _ hpl6, s69 _ _ hD6', ne, fpl0, fD3⟩
end
end My

set_option Elab.async false
set_option linter.all false
set_option maxRecDepth 100000
set_option maxHeartbeats 4000000
namespace My
open PySem L2 FrM M80
def spRow : Sp := fun vs H Q _ => ∃ (c b n m : Int), vs = [.int c, .int b, .int n, .int m] ∧ 0 ≤ n ∧ n ≤ 200 ∧ m = 2000000001 ∧ ∀ H' l (ns : List Int), Same H H' → H l = none → H' l = some (.lst (ns.map V.int)) → (ns.length : Int) = n → (∀ v ∈ ns, 0 ≤ v) → Q (.ref l) H'
def spWholeL : Sp := fun vs H Q _ => ∃ (i : Int), vs = [.int i] ∧ Q (.bl true) H
def spAnswers (K : PySem.W.Frag) : Sp := fun vs H Q _ => ∃ (p : Addr) (ns : List Int), vs = [.ref p] ∧ SqL K H p (ns.map V.int) ∧ ns.length ≤ 63 ∧ ∀ H' l xs zs, Same H H' → Ans H' l xs zs → Q (.ref l) H'
theorem at_get {ns : List Int} {k : Nat} (h : k < ns.length) : atI (ns.map V.int) ((k : Nat) : Int) = some (.int (ns.getD k 0)) := atI_nat (by rw [List.getElem?_map, List.getD, List.getElem?_eq_getElem h]; rfl)
theorem at_mem {ns : List Int} {k : Nat} (h : k < ns.length) : ns.getD k 0 ∈ ns := by rw [List.getD, List.getElem?_eq_getElem h]; exact List.getElem_mem h
theorem two_of {ns : List Int} {x y : Int} (hp : ns.Perm [x, y]) (hs : ns.Pairwise (· ≤ ·)) : ∃ u v, ns = [u, v] ∧ u ≤ v ∧ (u = x ∨ u = y) ∧ (v = x ∨ v = y) := by
  have hl := hp.length_eq
  match ns, hl, hp, hs with
  | [u, v], _, hp, hs =>
    refine ⟨u, v, rfl, by simpa using hs, ?_, ?_⟩
    · have := hp.mem_iff.mp (List.mem_cons_self (a := u) (l := [v])); simpa using this
    · have := hp.mem_iff.mp (show v ∈ [u, v] by simp); simpa using this
abbrev wV (ws : List Wd) : List V := ws.map fun w => V.str (wS w)
section
variable {P : Program} {w : World} {K : PySem.W.Frag} {mg : Str → Option Value} {base : Heap} {a : Ad}
theorem ok_row (T : Txt K mg a) : FnOk P w K mg base CX0 2 a.f_L_row a.d_L_row ["_law_cell_here", "_law_bit", "_law_many", "_law_most"] spRow := by
  have G_L_mix : FnOk P w K mg base CX0 1 _ _ _ spMix := ok_mix T
  refine T.F_L_row.ok sc_L_row (fun vs H Q E h => ?_) (fun cdv A outer s H vs Q E hr h => ?_)
  · obtain ⟨c, b, n, m, rfl, _⟩ := h; rfl
  · obtain ⟨c, b, n, m, rfl, n0, n1, rfl, q⟩ := h
    refine ⟨_, (pss_cons (ps_set (i := 4) sc_L_row.nd rfl (Or.inl rfl) (pe_lst pa_nil)) (pss_cons (ps_for PassesOwn.never rfl (pi_range1 rfl T.z_range (pa_cons (vr 2) pa_nil)) (pg_name (i := 5) sc_L_row.nd rfl (Or.inl rfl)) (pss_one (ps_if (t_cmp o_eq (pe_op o_mod (vr 1) pe_int) pe_int (nomark _)) (pss_cons (ps_expr (pe_m.append (vr 4) (pa_cons (pe_op o_mod (vr 0) (vr 3)) pa_nil))) (pss_one (ps_set (i := 0) sc_L_row.nd rfl (Or.inl rfl) (pe_op o_fdivB (vr 0) (vr 3))))) (pss_one (ps_expr (pe_m.append (vr 4) (pa_cons (pe_op o_mod (pe_call G_L_mix hr rfl T.m_L_mix T.F_L_mix.kp T.B_L_mix .nil pass0 (pa_cons (vr 0) (pa_cons (vr 5) pa_nil))) (vr 3)) pa_nil))))))) (pss_one (ps_ret (vr 4))))), ?_⟩
    have sl : sizeLine = 16777216 := sizeLine_eq
    refine ⟨Nat.zero_le _, fun p hp => ?_⟩
    refine ⟨n, rfl, by omega, by omega, ?_⟩
    refine for_range (fun i σ H' => ∃ (c' : Int) (ns : List Int) (x : Option V), Same H H' ∧ H' p = some (.lst (ns.map V.int)) ∧ ns.length = i ∧ (∀ v ∈ ns, 0 ≤ v) ∧ σ = [some (.int c'), some (.int b), some (.int n), some (.int 2000000001), some (.ref p), x]) ⟨c, [], none, Same.new hp, upd_same, rfl, (fun v hv => by cases hv), rfl⟩ ?_ ?_
    · rintro i σ H' hi ⟨c', ns, x, s1, hl, ln, nn, rfl⟩
      have lz : (ns.map V.int).length < sizeLine := by rw [List.length_map]; omega
      have fin : ∀ (c2 v : Int), 0 ≤ v → ∃ (c' : Int) (ns2 : List Int) (x : Option V), Same H (upd H' p (.lst (ns.map V.int ++ [V.int v]))) ∧ (upd H' p (.lst (ns.map V.int ++ [V.int v]))) p = some (.lst (ns2.map V.int)) ∧ ns2.length = i + 1 ∧ (∀ v ∈ ns2, 0 ≤ v) ∧ [some (V.int c2), some (.int b), some (.int n), some (.int 2000000001), some (.ref p), some (.int (0 + (i : Int)))] = [some (.int c'), some (.int b), some (.int n), some (.int 2000000001), some (.ref p), x] := fun c2 v v0 =>
        ⟨c2, ns ++ [v], _, s1.put hp, by rw [upd_same, List.map_append]; rfl, by rw [List.length_append, ln]; rfl, (fun u hu => by
          rcases List.mem_append.mp hu with hu | hu
          · exact nn u hu
          · rw [List.mem_singleton.mp hu]; exact v0), rfl⟩
      refine ⟨cp, ifC (fun _ => ?_) (fun _ => ?_)⟩
      · exact ⟨.inl ⟨rfl, _, SqL.of hl⟩, ⟨cp, ⟨p, _, _, rfl, rfl, hl, lz, ⟨cdB (by decide) (show Bt 40 (2000000001 : Int) by unfold Bt; decide), fin _ _ (by omega)⟩⟩⟩⟩
      · exact ⟨.inl ⟨rfl, _, SqL.of hl⟩, ⟨c', _, rfl, by omega, by omega, fun r r0 => ⟨cp, ⟨p, _, _, rfl, rfl, hl, lz, fin _ _ (by omega)⟩⟩⟩⟩
    · rintro σ H' ⟨c', ns, x, s1, hl, ln, nn, rfl⟩
      exact q _ p ns s1 hp hl (by omega) nn
theorem ok_wholeL (T : Txt K mg a) : FnOk P w K mg base CX0 1 a.f_L_whole a.d_L_whole ["_law_found"] spWholeL := by
  refine T.F_L_whole.ok sc_L_whole (fun vs H Q E h => ?_) (fun cdv A outer s H vs Q E hr h => ?_)
  · obtain ⟨i, rfl, _⟩ := h; rfl
  · obtain ⟨i, rfl, q⟩ := h
    exact ⟨_, (pss_one (ps_ret (m_and (pe_callB call_isi rfl T.z_isinstance bt_isinstance (pa_cons (vr 0) (pa_cons (pe_bltn (v := .ty "int") rfl T.z_int bt_int rfl) pa_nil))) (pe_one (m_not (pe_callB call_isi rfl T.z_isinstance bt_isinstance (pa_cons (vr 0) (pa_cons (pe_bltn (v := .ty "bool") rfl T.z_bool bt_bool rfl) pa_nil)))))))), ⟨_, _, _, true, rfl, rfl, .int i, rfl, ⟨_, _, _, false, rfl, rfl, .int i, rfl, q⟩⟩⟩
theorem ok_answers (T : Txt K mg a) : FnOk P w K mg base CX0 3 a.f_L_answers a.d_L_answers ["_law_script"] (spAnswers K) := by
  have G_L_cell : FnOk P w K mg base CX0 2 _ _ _ (spCell K) := (ok_cell T).mono (by decide)
  have G_L_row : FnOk P w K mg base CX0 2 _ _ _ spRow := ok_row T
  refine T.F_L_answers.ok sc_L_answers (fun vs H Q E h => ?_) (fun cdv A outer s H vs Q E hr h => ?_)
  · obtain ⟨p, ns, rfl, _⟩ := h; rfl
  · obtain ⟨p, ns, rfl, hS, hlen, q⟩ := h
    refine ⟨_, (psq_out (psq_cons (pst_of (ps_set (i := 1) sc_L_answers.nd rfl (Or.inl rfl) (pe_op o_mod (pe_call G_L_cell hr rfl T.m_L_cell T.F_L_cell.kp T.B_L_cell .nil pass0 (pa_cons (vr 0) (pa_cons pe_int pa_nil))) pe_int))) (psq_cons (pst_of (ps_set (i := 2) sc_L_answers.nd rfl (Or.inl rfl) (pe_call G_L_cell hr rfl T.m_L_cell T.F_L_cell.kp T.B_L_cell .nil pass0 (pa_cons (vr 0) (pa_cons pe_int pa_nil))))) (psq_cons (pst_of (ps_set (i := 3) sc_L_answers.nd rfl (Or.inl rfl) (pe_call G_L_row hr rfl T.m_L_row T.F_L_row.kp T.B_L_row .nil pass0 (pa_cons (pe_call G_L_cell hr rfl T.m_L_cell T.F_L_cell.kp T.B_L_cell .nil pass0 (pa_cons (vr 0) (pa_cons pe_int pa_nil))) (pa_cons (vr 2) (pa_cons (pe_op o_mulB pe_int (vr 1)) (pa_cons (pe_op o_add (pe_op o_mulB pe_int (pe_op o_pow pe_int pe_int)) pe_int) pa_nil))))))) (psq_cons (pst_set (i := 4) sc_L_answers.nd rfl (Or.inl rfl) (peq_ix ix_seq (peq_lst (paq_cons pe_int (paq_cons pe_int (paq_cons pe_int paq_nil)))) (pe_op o_mod (pe_op o_fdivB (vr 2) pe_int) pe_int) (fun _ _ => rfl))) (psq_cons (pst_set (i := 5) sc_L_answers.nd rfl (Or.inl rfl) (peq_ix ix_seq (peq_lst (paq_cons pe_int (paq_cons pe_int (paq_cons (pe_op o_pow pe_int pe_int) paq_nil)))) (pe_op o_mod (pe_op o_fdivB (vr 2) pe_int) pe_int) (fun _ _ => rfl))) (psq_cons (pst_set (i := 6) sc_L_answers.nd rfl (Or.inl rfl) (peq_ix ix_seq (peq_lst (paq_consq (peq_lst (paq_cons pe_str (paq_cons pe_str (paq_cons pe_str paq_nil)))) (paq_consq (peq_lst (paq_cons pe_str (paq_cons pe_str (paq_cons pe_str paq_nil)))) (paq_consq (peq_lst (paq_cons pe_str (paq_cons pe_str (paq_cons pe_str paq_nil)))) (paq_consq (peq_lst (paq_cons pe_str (paq_cons pe_str (paq_cons pe_str paq_nil)))) paq_nil))))) (pe_op o_mod (pe_op o_fdivB (vr 2) pe_int) pe_int) (fun _ _ => rfl))) (psq_cons (pst_set (i := 7) sc_L_answers.nd rfl (Or.inl rfl) (peq_lst paq_nil)) (psq_cons (pst_of (ps_for PassesOwn.never rfl (pi_range1 rfl T.z_range (pa_cons (vr 1) pa_nil)) (pg_name (i := 8) sc_L_answers.nd rfl (Or.inl rfl)) (pss_cons (ps_set (i := 9) sc_L_answers.nd rfl (Or.inl rfl) (pe_callB call_sortedI rfl T.z_sorted bt_sorted (pa_cons (pe_lst (pa_cons (pe_op o_sub (pe_op o_mod (pe_ix ix_seq (vr 3) (pe_op o_add (pe_op o_mulB pe_int (vr 8)) pe_int) (fun _ _ => rfl)) (pe_op o_add (pe_op o_mulB pe_int (vr 5)) pe_int)) (vr 5)) (pa_cons (pe_op o_sub (pe_op o_mod (pe_ix ix_seq (vr 3) (pe_op o_add (pe_op o_mulB pe_int (vr 8)) pe_int) (fun _ _ => rfl)) (pe_op o_add (pe_op o_mulB pe_int (vr 5)) pe_int)) (vr 5)) pa_nil))) pa_nil))) (pss_consM (ps_if (t_cmp o_eq (pe_op o_mod (pe_op o_fdivB (pe_ix ix_seq (vr 3) (pe_op o_mulB pe_int (vr 8)) (fun _ _ => rfl)) (vr 4)) pe_int) pe_int (nomark _)) (pss_one (ps_asg (pe_ix ix_seq (vr 9) pe_int (fun _ _ => rfl)) (pg_sub (vr 9) pe_int set_list))) pss_nil) (pss_one (ps_expr (pe_m.append (vr 7) (pa_cons (pe_tup (pa_cons (pe_op o_add pe_int (pe_op o_mod (pe_ix ix_seq (vr 3) (pe_op o_mulB pe_int (vr 8)) (fun _ _ => rfl)) (vr 4))) (pa_cons (pe_ix ix_seq (vr 9) pe_int (fun _ _ => rfl)) (pa_cons (pe_ix ix_seq (vr 9) pe_int (fun _ _ => rfl)) (pa_cons (pe_ix ix_seq (vr 6) (pe_op o_mod (pe_ix ix_seq (vr 3) (pe_op o_add (pe_op o_mulB pe_int (vr 8)) pe_int) (fun _ _ => rfl)) pe_int) (fun _ _ => rfl)) pa_nil))))) pa_nil)))))))) (psq_one (pst_of (ps_ret (vr 7))))))))))))), ?_⟩
    have sl : sizeLine = 16777216 := sizeLine_eq
    refine ⟨p, ns, 0, rfl, hS, hlen, by decide, by decide, fun c0 => ⟨cp, ?_⟩⟩
    have n0 : 0 ≤ c0 % 25 := by omega
    have n1 : c0 % 25 ≤ 24 := by omega
    refine ⟨p, ns, 1, rfl, hS, hlen, by decide, by decide, fun b => ?_⟩
    refine ⟨p, ns, 2, rfl, hS, hlen, by decide, by decide, fun c2 => ⟨clB, cw, clB, ?_⟩⟩
    have e9 : (10 : Int) ^ (9 : Int).toNat = 1000000000 := by decide +kernel
    refine ⟨c2, b, 4 * (c0 % 25), _, rfl, by omega, by omega, by rw [e9]; rfl, fun H1 l rs s1 f1 hl1 hln hnn => ?_⟩
    refine ⟨(by decide : 3 ≤ sizeLine), fun p1 hp1 => ⟨cdB (by decide) (show Bt 40 (2 : Int) by unfold Bt; decide), cp, ?_⟩⟩
    have s2 := Same.new (o := .lst [.int 3, .int 1000, .int 1000000]) hp1
    obtain ⟨hv, hat, hv1, hv2⟩ : ∃ hv : Int, atI [V.int 3, .int 1000, .int 1000000] (b / 2 % 3) = some (.int hv) ∧ 1 ≤ hv ∧ hv ≤ 1000000 := by
      have h3 : b / 2 % 3 = ((0 : Nat) : Int) ∨ b / 2 % 3 = ((1 : Nat) : Int) ∨ b / 2 % 3 = ((2 : Nat) : Int) := by omega
      rcases h3 with e | e | e
      · exact ⟨_, atI_cons _ e.symm rfl, by decide, by decide⟩
      · exact ⟨_, atI_cons _ e.symm rfl, by decide, by decide⟩
      · exact ⟨_, atI_cons _ e.symm rfl, by decide, by decide⟩
    refine .inl ⟨p1, _, _, _, rfl, rfl, SqL.of upd_same, hat, ?_⟩
    generalize upd H1 p1 (.lst [.int 3, .int 1000, .int 1000000]) = H2 at s2
    refine ⟨cw, (by decide : 3 ≤ sizeLine), fun p2 hp2 => ⟨cdB (by decide) (show Bt 40 (6 : Int) by unfold Bt; decide), cp, ?_⟩⟩
    have s3 := Same.new (o := .lst [.int 3, .int 1000, .int ((10 : Int) ^ (9 : Int).toNat)]) hp2
    obtain ⟨fr, fat, fr1, fr2⟩ : ∃ hv : Int, atI [V.int 3, .int 1000, .int ((10 : Int) ^ (9 : Int).toNat)] (b / 6 % 3) = some (.int hv) ∧ 1 ≤ hv ∧ hv ≤ 1000000000 := by
      rw [e9]
      have h3 : b / 6 % 3 = ((0 : Nat) : Int) ∨ b / 6 % 3 = ((1 : Nat) : Int) ∨ b / 6 % 3 = ((2 : Nat) : Int) := by omega
      rcases h3 with e | e | e
      · exact ⟨_, atI_cons _ e.symm rfl, by decide, by decide⟩
      · exact ⟨_, atI_cons _ e.symm rfl, by decide, by decide⟩
      · exact ⟨_, atI_cons _ e.symm rfl, by decide, by decide⟩
    refine .inl ⟨p2, _, _, _, rfl, rfl, SqL.of upd_same, fat, ?_⟩
    have s03 := (s1.trans s2).trans s3
    have hl3 := (s2.trans s3) _ _ hl1
    generalize upd H2 p2 (.lst [.int 3, .int 1000, .int ((10 : Int) ^ (9 : Int).toNat)]) = H3 at s3 s03 hl3
    refine ⟨(by decide : 3 ≤ sizeLine), fun w1 hw1 => ⟨(by decide : 3 ≤ sizeLine), fun w2 hw2 => ⟨(by decide : 3 ≤ sizeLine), fun w3 hw3 => ⟨(by decide : 3 ≤ sizeLine), fun w4 hw4 => ⟨(by decide : 4 ≤ sizeLine), fun w5 hw5 => ⟨cdB (by decide) (show Bt 40 (18 : Int) by unfold Bt; decide), cp, ?_⟩⟩⟩⟩⟩⟩
    have u1 := Same.new (o := .lst (wV [.yes, .no, .opn])) hw1
    have u2 := Same.new (o := .lst (wV [.opn, .no, .opn])) hw2
    have u3 := Same.new (o := .lst (wV [.yes, .opn, .opn])) hw3
    have u4 := Same.new (o := .lst (wV [.no, .no, .no])) hw4
    have u5 := Same.new (o := .lst [.ref w1, .ref w2, .ref w3, .ref w4]) hw5
    have x1 := (((u2.trans u3).trans u4).trans u5) _ _ (upd_same (H := H3) (a := w1) (o := .lst (wV [.yes, .no, .opn])))
    have x2 := ((u3.trans u4).trans u5) _ _ (upd_same (a := w2) (o := .lst (wV [.opn, .no, .opn])))
    have x3 := (u4.trans u5) _ _ (upd_same (a := w3) (o := .lst (wV [.yes, .opn, .opn])))
    have x4 := u5 _ _ (upd_same (a := w4) (o := .lst (wV [.no, .no, .no])))
    have x5 := upd_same (H := upd (upd (upd (upd H3 w1 (.lst (wV [.yes, .no, .opn]))) w2 (.lst (wV [.opn, .no, .opn]))) w3 (.lst (wV [.yes, .opn, .opn]))) w4 (.lst (wV [.no, .no, .no]))) (a := w5) (o := .lst [.ref w1, .ref w2, .ref w3, .ref w4])
    have u15 := (((u1.trans u2).trans u3).trans u4).trans u5
    obtain ⟨H4, hH4⟩ : ∃ H4, H4 = upd (upd (upd (upd (upd H3 w1 (.lst (wV [.yes, .no, .opn]))) w2 (.lst (wV [.opn, .no, .opn]))) w3 (.lst (wV [.yes, .opn, .opn]))) w4 (.lst (wV [.no, .no, .no]))) w5 (.lst [.ref w1, .ref w2, .ref w3, .ref w4]) := ⟨_, rfl⟩
    replace x1 : H4 w1 = some (.lst (wV [.yes, .no, .opn])) := by rw [hH4]; exact x1
    replace x2 : H4 w2 = some (.lst (wV [.opn, .no, .opn])) := by rw [hH4]; exact x2
    replace x3 : H4 w3 = some (.lst (wV [.yes, .opn, .opn])) := by rw [hH4]; exact x3
    replace x4 : H4 w4 = some (.lst (wV [.no, .no, .no])) := by rw [hH4]; exact x4
    replace u15 : Same H3 H4 := by rw [hH4]; exact u15
    obtain ⟨wl, ws, wat, hwl, hws⟩ : ∃ (wl : Addr) (ws : List Wd), atI [V.ref w1, .ref w2, .ref w3, .ref w4] (b / 18 % 4) = some (.ref wl) ∧ H4 wl = some (.lst (wV ws)) ∧ ws.length = 3 := by
      have h3 : b / 18 % 4 = ((0 : Nat) : Int) ∨ b / 18 % 4 = ((1 : Nat) : Int) ∨ b / 18 % 4 = ((2 : Nat) : Int) ∨ b / 18 % 4 = ((3 : Nat) : Int) := by omega
      rcases h3 with e | e | e | e
      · exact ⟨_, _, atI_cons _ e.symm rfl, x1, rfl⟩
      · exact ⟨_, _, atI_cons _ e.symm rfl, x2, rfl⟩
      · exact ⟨_, _, atI_cons _ e.symm rfl, x3, rfl⟩
      · exact ⟨_, _, atI_cons _ e.symm rfl, x4, rfl⟩
    refine .inl ⟨w5, _, _, _, rfl, rfl, SqL.of upd_same, wat, ?_⟩
    show _
    refine ⟨Nat.zero_le _, fun D hD => ?_⟩
    replace hD : H4 D = none := by rw [hH4]; exact hD
    refine ⟨_, rfl, by omega, by omega, ?_⟩
    have s04 := s03.trans u15
    have hl4' := u15 _ _ hl3
    have sD := Same.new (o := .lst []) hD
    refine for_range (lo := 0) (n := (c0 % 25).toNat) (fun i σ H' => ∃ (xs : List V) (zs : List A4) (x7 x8 : Option V), Same H4 H' ∧ H' D = some (.lst xs) ∧ AllA H' zs xs ∧ zs.length = i ∧ (∀ z ∈ zs, OkA z) ∧ σ = [some (.ref p), some (.int (c0 % 25)), some (.int b), some (.ref l), some (.int hv), some (.int fr), some (.ref wl), some (.ref D), x7, x8]) ⟨[], [], none, none, (by rw [hH4] at sD ⊢; exact sD), upd_same, .nil, rfl, (fun z hz => by cases hz), rfl⟩ ?_ ?_
    · clear hH4 x1 x2 x3 x4 x5 u1 u2 u3 u4 u5
      rintro i σ H5 hi ⟨xs, zs, x7, x8, s4, hD4, hall, hzl, hok, rfl⟩
      have hl4 := s4 _ _ hl4'
      have hw5 := s4 _ _ hwl
      have i24 : (i : Int) < c0 % 25 := by omega
      have k1 : (4 * (0 + (i : Int)) + 1) = ((4 * i + 1 : Nat) : Int) := by omega
      have k2 : (4 * (0 + (i : Int)) + 2) = ((4 * i + 2 : Nat) : Int) := by omega
      have k3 : (4 * (0 + (i : Int)) + 3) = ((4 * i + 3 : Nat) : Int) := by omega
      have k0 : (4 * (0 + (i : Int))) = ((4 * i : Nat) : Int) := by omega
      refine ⟨clB, ?_⟩
      refine .inl ⟨l, _, _, _, rfl, rfl, SqL.of hl4, (by rw [k1]; exact at_get (by omega)), ?_⟩
      refine ⟨clB, cp (by omega), ?_⟩
      refine ⟨clB, ?_⟩
      refine .inl ⟨l, _, _, _, rfl, rfl, SqL.of hl4, (by rw [k2]; exact at_get (by omega)), ?_⟩
      refine ⟨clB, cp (by omega), ?_⟩
      refine ⟨(by decide : 2 ≤ sizeLine), fun p3 hp3 => ?_⟩
      obtain ⟨u, hu⟩ : ∃ u : Int, u = rs.getD (4 * i + 1) 0 % (2 * fr + 1) - fr := ⟨_, rfl⟩
      obtain ⟨v, hv'⟩ : ∃ v : Int, v = rs.getD (4 * i + 2) 0 % (2 * fr + 1) - fr := ⟨_, rfl⟩
      have u1 : -fr ≤ u := by have := Int.emod_nonneg (rs.getD (4 * i + 1) 0) (show 2 * fr + 1 ≠ 0 by omega); omega
      have u2 : u ≤ fr := by have := Int.emod_lt_of_pos (rs.getD (4 * i + 1) 0) (show 0 < 2 * fr + 1 by omega); omega
      have v1 : -fr ≤ v := by have := Int.emod_nonneg (rs.getD (4 * i + 2) 0) (show 2 * fr + 1 ≠ 0 by omega); omega
      have v2 : v ≤ fr := by have := Int.emod_lt_of_pos (rs.getD (4 * i + 2) 0) (show 0 < 2 * fr + 1 by omega); omega
      have s5 := Same.new (o := .lst [.int (rs.getD (4 * i + 1) 0 % (2 * fr + 1) - fr), .int (rs.getD (4 * i + 2) 0 % (2 * fr + 1) - fr)]) hp3
      refine ⟨p3, [rs.getD (4 * i + 1) 0 % (2 * fr + 1) - fr, rs.getD (4 * i + 2) 0 % (2 * fr + 1) - fr], rfl, SqL.of upd_same, by show 2 < 64; decide, fun p4 es hpm hpw hp4 => ?_⟩
      obtain ⟨e0, e1, rfl, e01, he0, he1⟩ := two_of hpm hpw
      rw [← hu, ← hv'] at he0 he1
      have s6 := s5.trans (Same.new (o := .lst ([e0, e1].map V.int)) hp4)
      have hl6 := s6 _ _ hl4
      have r0 := hnn _ (at_mem (ns := rs) (k := 4 * i) (by omega))
      have b0 : e0 ≤ e1 ∧ -1000000000 ≤ e0 ∧ e1 ≤ 1000000000 := by rcases he0 with rfl | rfl <;> rcases he1 with rfl | rfl <;> omega
      refine ⟨fun σ' H' => ∃ e1' : Int, Same H5 H' ∧ H' p4 = some (.lst [.int e0, .int e1']) ∧ e0 ≤ e1' ∧ e1' ≤ 1000000000 ∧ σ' = [some (.ref p), some (.int (c0 % 25)), some (.int b), some (.ref l), some (.int hv), some (.int fr), some (.ref wl), some (.ref D), some (.int (0 + (i : Int))), some (.ref p4)], ?_, ?_⟩
      · refine ⟨clB, ?_⟩
        refine .inl ⟨l, _, _, _, rfl, rfl, SqL.of hl6, (by rw [k0]; exact at_get (by omega)), ?_⟩
        refine ⟨cdB (by omega) (show Bt 40 hv by unfold Bt; omega), cp, ?_⟩
        refine ifC (fun _ => ?_) (fun _ => ⟨e1, s6, upd_same, e01, by omega, rfl⟩)
        refine .inl ⟨p4, _, _, _, rfl, rfl, SqL.of upd_same, atI_cons 0 rfl rfl, ?_⟩
        refine ⟨p4, _, _, 1, rfl, rfl, upd_same, rfl, ⟨e0, s6.put (s5.free hp4), upd_same, Int.le_refl _, by omega, rfl⟩⟩
      rintro σ' H7 ⟨e1', s7, hE7, e01', e1b, rfl⟩
      have hl7 := s7 _ _ hl4
      have hw7 := s7 _ _ hw5
      have hD7 := s7 _ _ hD4
      refine ⟨.inl ⟨rfl, _, SqL.of hD7⟩, ⟨clB, ?_⟩⟩
      refine .inl ⟨l, _, _, _, rfl, rfl, SqL.of hl7, (by rw [k0]; exact at_get (by omega)), ?_⟩
      refine ⟨cp (by omega), ?_⟩
      refine .inl ⟨p4, _, _, _, rfl, rfl, SqL.of hE7, atI_cons 0 rfl rfl, ?_⟩
      refine .inl ⟨p4, _, _, _, rfl, rfl, SqL.of hE7, atI_cons 1 rfl rfl, ?_⟩
      refine ⟨clB, ?_⟩
      refine .inl ⟨l, _, _, _, rfl, rfl, SqL.of hl7, (by rw [k3]; exact at_get (by omega)), ?_⟩
      refine ⟨cp (by omega), ?_⟩
      obtain ⟨jw, hjw, jw3⟩ : ∃ jw : Nat, (jw : Int) = rs.getD (4 * i + 3) 0 % 3 ∧ jw < 3 := ⟨(rs.getD (4 * i + 3) 0 % 3).toNat, by omega, by omega⟩
      obtain ⟨wd', hwd⟩ : ∃ wd', ws[jw]? = some wd' := ⟨_, List.getElem?_eq_getElem (by omega)⟩
      refine .inl ⟨wl, _, _, _, rfl, rfl, SqL.of hw7, atI_cons jw hjw (by rw [List.getElem?_map, hwd]; rfl), ?_⟩
      obtain ⟨wt, hw⟩ : ∃ wt : Int, wt = 1 + rs.getD (4 * i) 0 % hv := ⟨_, rfl⟩
      have w1' : 1 ≤ wt := by have := Int.emod_nonneg (rs.getD (4 * i) 0) (show hv ≠ 0 by omega); omega
      have w2' : wt ≤ 1000000 := by have := Int.emod_lt_of_pos (rs.getD (4 * i) 0) (show 0 < hv by omega); omega
      subst hw
      refine ⟨(by decide : 4 ≤ sizeLine), fun p5 hp5 => ?_⟩
      obtain ⟨z, hzz⟩ : ∃ z : A4, z = (1 + rs.getD (4 * i) 0 % hv, e0, e1', wd') := ⟨_, rfl⟩
      have et : ([.int (1 + rs.getD (4 * i) 0 % hv), .int e0, .int e1', .str (wS wd')] : List V) = tupA z := by rw [hzz]
      have s8 := Same.new (o := .tup [.int (1 + rs.getD (4 * i) 0 % hv), .int e0, .int e1', .str (wS wd')]) hp5
      have hD8 := s8 _ _ hD7
      have xl : xs.length = i := by rw [← hzl]; exact (Paired.length hall).symm
      refine ⟨D, _, _, rfl, rfl, hD8, by omega, ?_⟩
      refine ⟨xs ++ [.ref p5], zs ++ [z], _, _, ((s4.trans s7).trans s8).put hD, upd_same, ?_, by rw [List.length_append, hzl]; rfl, ?_, rfl⟩
      · exact AllA.tu (tu_lst hD8) (AllA.snoc ⟨p5, rfl, by rw [← et]; exact upd_same⟩ (hall.same (s7.trans s8)))
      · intro y hy
        rcases List.mem_append.mp hy with hy | hy
        · exact hok y hy
        · rw [List.mem_singleton.mp hy, hzz]
          exact ⟨w1', w2', b0.2.1, e01', e1b⟩
    · rintro σ H5 ⟨xs, zs, x7, x8, s4, hD4, hall, hzl, hok, rfl⟩
      exact q _ D xs zs (s04.trans s4) ⟨hD4, hall, by omega, hok⟩
end
end My

set_option Elab.async false
set_option linter.all false
set_option maxRecDepth 100000
set_option maxHeartbeats 4000000
namespace My
open PySem L2 FrM M80
def spFraction : Sp := fun vs H Q _ => ∃ (p : Addr) (T B : Int), vs = [.ref p] ∧ H p = some (.tup [.int (lowP T B).1, .int (lowP T B).2]) ∧ 0 < B ∧ Bt 3000 T ∧ Bt 3000 B ∧ ∀ H', Same H H' → Q (.bl true) H'
def spFill : Sp := fun vs H Q _ => ∃ (p l d : Addr) (xs : List V) (zs : List A4) (f : List (Option Int)) (c : A4 → Int) (sg : Int), vs = [.ref p, .ref l, .ref d] ∧ Ans H l xs zs ∧ Fl H p zs f ∧ Fil zs c sg f ∧ (∀ z, OkA z → z.2.1 ≤ c z ∧ c z ≤ z.2.2.1) ∧ H d = some (.tup [.int (lowP (tF (zs.zip f)) (wF (zs.zip f))).1, .int (lowP (tF (zs.zip f)) (wF (zs.zip f))).2]) ∧ ∀ H', Same H H' → Q (.bl true) H'
def spAbove : Sp := fun vs H Q _ => ∃ (l m : Addr) (xs : List V) (zs : List A4) (c : A4 → Int) (k : Nat) (sg num den : Int), vs = [.ref l, .ref m, .int (k : Nat), .int sg] ∧ Ans H l xs zs ∧ H m = some (.tup [.int num, .int den]) ∧ (∀ z, (tupA z)[k]? = some (.int (c z))) ∧ (∀ z, OkA z → z.2.1 ≤ c z ∧ c z ≤ z.2.2.1) ∧ (sg = 1 ∨ sg = -1) ∧ addS c sg num den zs = 0 ∧ ∀ H', Same H H' → Q (.bl true) H'
theorem low_idem {T B : Int} (hB : 0 < B) : lowP (lowP T B).1 (lowP T B).2 = lowP T B := by
  have h := lowP_low (t := T) hB
  have e := low_eq (T := (lowP T B).1) (B := (lowP T B).2) (t := (lowP T B).1) (b := (lowP T B).2) (by have := h.pos; omega) ⟨h.pos, h.cop, rfl⟩
  exact e.symm
theorem eq_d {K : PySem.W.Frag} {H : Hp} {d : PyData} {x y : V} {Q : VK} (h1 : DV K H d x) (h2 : DV K H d y) (hs : SeqAt.shaped d = true) (q : Q (.bl true) H) : rEqD K false x y H Q := by
  refine ⟨_, _, h1, h2, hs, hs, ?_⟩
  rw [SeqAt.eqv_refl _ (SeqAt.canLay_of_shaped hs)]
  exact q
theorem ne_d {K : PySem.W.Frag} {H : Hp} {d : PyData} {x y : V} {Q : VK} (h1 : DV K H d x) (h2 : DV K H d y) (hs : SeqAt.shaped d = true) (q : Q (.bl false) H) : rEqD K true x y H Q := by
  refine ⟨_, _, h1, h2, hs, hs, ?_⟩
  rw [SeqAt.eqv_refl _ (SeqAt.canLay_of_shaped hs)]
  exact q
section
variable {P : Program} {w : World} {K : PySem.W.Frag} {mg : Str → Option Value} {base : Heap} {a : Ad}
theorem ok_fraction (T : Txt K mg a) : FnOk P w K mg base CX0 2 a.f_L_fraction a.d_L_fraction ["_law_found"] spFraction := by
  have G_L_low : FnOk P w K mg base CX0 1 _ _ _ spLow := ok_low T
  have G_L_whole : FnOk P w K mg base CX0 1 _ _ _ spWholeL := ok_wholeL T
  refine T.F_L_fraction.ok sc_L_fraction (fun vs H Q E h => ?_) (fun cdv A outer s H vs Q E hr h => ?_)
  · obtain ⟨p, t, b, rfl, _⟩ := h; rfl
  · obtain ⟨p, t, b, rfl, hp, hb, b1, b2, q⟩ := h
    refine ⟨_, (pss_cons (ps_if (PW.pt (pw_or (pt_not (t_val (pe_callB call_isi rfl T.z_isinstance bt_isinstance (pa_cons (vr 0) (pa_cons (pe_bltn (v := .ty "tuple") rfl T.z_tuple bt_tuple rfl) pa_nil))))) (pw_or (t_cmp o_ne (pe_callB call_lenM rfl T.z_len bt_len (pa_cons (vr 0) pa_nil)) pe_int (nomark _)) (pw_or (pt_not (t_val (pe_call G_L_whole hr rfl T.m_L_whole T.F_L_whole.kp T.B_L_whole .nil pass0 (pa_cons (pe_ix ix_seq (vr 0) pe_int (fun _ _ => rfl)) pa_nil)))) (pw_or1 (pt_not (t_val (pe_call G_L_whole hr rfl T.m_L_whole T.F_L_whole.kp T.B_L_whole .nil pass0 (pa_cons (pe_ix ix_seq (vr 0) pe_int (fun _ _ => rfl)) pa_nil))))))))) (pss_one (ps_ret pe_bl)) pss_nil) (pss_one (ps_ret (m_and (pe_cmpR o_gt (pe_ix ix_seq (vr 0) pe_int (fun _ _ => rfl)) pe_int (nomark _)) (pe_one (pe_cmpR (o_eqD hr.units) (pe_call G_L_low hr rfl T.m_L_low T.F_L_low.kp T.B_L_low .nil pass0 (pa_cons (pe_ix ix_seq (vr 0) pe_int (fun _ _ => rfl)) (pa_cons (pe_ix ix_seq (vr 0) pe_int (fun _ _ => rfl)) pa_nil))) (vr 0) (nomark _))))))), ?_⟩
    have L := lowP_low (t := t) hb
    obtain ⟨l1, l2, l3, l4, l5⟩ := low t b hb
    refine ⟨_, _, _, true, rfl, rfl, .tup hp, rfl, ⟨_, .inr (SqT.of hp), ?_⟩⟩
    refine px0 (SqT.of hp) ⟨_, rfl, px1 (SqT.of hp) ⟨_, rfl, ?_⟩⟩
    have p2 := L.pos
    refine px1 (SqT.of hp) ?_
    refine ifP (by show 0 < (lowP t b).2; omega) ?_
    refine px0 (SqT.of hp) (px1 (SqT.of hp) ?_)
    refine ⟨_, _, rfl, by omega, b1.le l4, b2.le l5, fun H' p' s' hp' => ?_⟩
    rw [low_idem hb] at hp'
    exact eq_d (dv_pair (SqT.of hp')) (dv_pair (SqT.of (s' _ _ hp))) (shaped_pair _ _) (q _ s')
theorem ok_above (T : Txt K mg a) : FnOk P w K mg base CX0 1 a.f_L_none_above a.d_L_none_above ["_law_answers_here", "_law_mean", "_law_place", "_law_sign"] spAbove := by
  refine T.F_L_none_above.ok sc_L_none_above (fun vs H Q E h => ?_) (fun cdv A outer s H vs Q E hr h => ?_)
  · obtain ⟨l, m, xs, zs, c, k, sg, num, den, rfl, _⟩ := h; rfl
  · obtain ⟨l, m, xs, zs, c, k, sg, num, den, rfl, ha, hm, hk, hc, hsg, h0, q⟩ := h
    refine ⟨_, (pss_cons (ps_set (i := 4) sc_L_none_above.nd rfl (Or.inl rfl) pe_int) (pss_cons (ps_for PassesOwn.never rfl (pi_any (vr 0)) (pg_name (i := 5) sc_L_none_above.nd rfl (Or.inl rfl)) (pss_cons (ps_set (i := 6) sc_L_none_above.nd rfl (Or.inl rfl) (pe_op o_mulB (pe_op o_mulB (pe_op o_sub (pe_op o_mulB (pe_ix ix_seq (vr 5) (vr 2) (fun _ _ => rfl)) (pe_ix ix_seq (vr 1) pe_int (fun _ _ => rfl))) (pe_ix ix_seq (vr 1) pe_int (fun _ _ => rfl))) (pe_ix ix_seq (vr 5) pe_int (fun _ _ => rfl))) (vr 3))) (pss_one (ps_if (PW.pt (pw_or (t_cmp o_eq (pe_ix ix_seq (vr 5) pe_int (fun _ _ => rfl)) pe_str (nomark _)) (pw_or1 (PW.pt (pw_and (t_cmp o_eq (pe_ix ix_seq (vr 5) pe_int (fun _ _ => rfl)) pe_str (nomark _)) (pw_and1 (t_cmp o_gt (vr 6) pe_int (nomark _)))))))) (pss_one (ps_set (i := 4) sc_L_none_above.nd rfl (Or.inl rfl) (pe_op o_add (vr 4) (vr 6)))) pss_nil)))) (pss_one (ps_ret (pe_cmpR o_le (vr 4) pe_int (nomark _)))))), ?_⟩
    have sg2 : -2 < sg ∧ sg < 2 := by rcases hsg with rfl | rfl <;> decide
    refine .inl ⟨⟨_, SqL.of ha.at_⟩, for_list (K := K) (a := l) (xs := xs) (fun i σ H' => ∃ (x5 x6 : Option V), H' = H ∧ σ = [some (.ref l), some (.ref m), some (.int (k : Nat)), some (.int sg), some (.int (addS c sg num den (zs.take i))), x5, x6]) ⟨none, none, rfl, rfl⟩ (fun i σ H' _ h => by obtain ⟨_, _, rfl, _⟩ := h; exact SqL.of ha.at_) ?_ ?_⟩
    · rintro i x σ H' hx ⟨x5, x6, rfl, rfl⟩
      obtain ⟨z, hz, pz, rfl, hpz⟩ := pget ha.all hx
      have okz := ha.ok z (List.mem_of_getElem? hz)
      obtain ⟨c1, c2⟩ := hc z okz
      obtain ⟨a1, a2, a3, a4, a5⟩ := okz
      have e : addS c sg num den (zs.take (i + 1)) = addS c sg num den (zs.take i) + addOf c sg num den z := by
        unfold addS
        rw [take_map hz, List.sum_append]
        simp
      refine .inr (.inl ⟨pz, _, _, _, rfl, rfl, SqT.of hpz, atI_nat (hk z), ?_⟩)
      refine px1 (SqT.of hm) ⟨clB (by omega) (by omega), px0 (SqT.of hm) ?_⟩
      refine .inr (.inl ⟨pz, _, _, _, rfl, rfl, SqT.of hpz, atI_cons 0 rfl rfl, ?_⟩)
      refine ⟨crB (by omega) (by omega), crB (by omega) (by omega), ?_⟩
      refine .inr (.inl ⟨pz, _, _, _, rfl, rfl, SqT.of hpz, atI_cons 3 rfl rfl, ?_⟩)
      have ey : wd z = .yes → addOf c sg num den z = moreOf c sg num den z := fun h => by unfold addOf; rw [if_pos (.inl h)]
      refine ifC (fun c3 => ?_) (fun c3 => ?_)
      · refine ⟨some (.ref pz), some (.int ((c z * den - num) * z.1 * sg)), rfl, ?_⟩
        rw [e, ey (wS_yes.mp c3)]
        rfl
      · have n3 : ¬ wd z = .yes := fun h => c3 (wS_yes.mpr h)
        refine .inr (.inl ⟨pz, _, _, _, rfl, rfl, SqT.of hpz, atI_cons 3 rfl rfl, ?_⟩)
        refine ifC (fun c4 => ?_) (fun c4 => ?_)
        · refine ifC (fun c5 => ?_) (fun c5 => ?_)
          · refine ⟨some (.ref pz), some (.int ((c z * den - num) * z.1 * sg)), rfl, ?_⟩
            rw [e, show addOf c sg num den z = moreOf c sg num den z by unfold addOf; rw [if_pos (.inr ⟨wS_opn.mp c4, c5⟩)]]
            rfl
          · refine ⟨some (.ref pz), some (.int ((c z * den - num) * z.1 * sg)), rfl, ?_⟩
            rw [e, show addOf c sg num den z = 0 by unfold addOf; rw [if_neg (by rintro (h | h); exact n3 h; exact c5 h.2)], Int.add_zero]
            rfl
        · have n4 : ¬ wd z = .opn := fun h => c4 (wS_opn.mpr h)
          refine ⟨some (.ref pz), some (.int ((c z * den - num) * z.1 * sg)), rfl, ?_⟩
          rw [e, show addOf c sg num den z = 0 by unfold addOf; rw [if_neg (by rintro (h | h); exact n3 h; exact n4 h.1)], Int.add_zero]
          rfl
    · rintro σ H' ⟨x5, x6, rfl, rfl⟩
      have e : zs.take xs.length = zs := List.take_of_length_le (by rw [ha.xl]; exact Nat.le_refl _)
      rw [e, h0]
      exact q _ (Same.refl _)
theorem ok_fill (T : Txt K mg a) : FnOk P w K mg base CX0 2 a.f_L_filling a.d_L_filling ["_law_some", "_law_answers_here", "_law_due"] spFill := by
  have G_L_whole : FnOk P w K mg base CX0 1 _ _ _ spWholeL := ok_wholeL T
  have G_L_low : FnOk P w K mg base CX0 1 _ _ _ spLow := ok_low T
  refine T.F_L_filling.ok sc_L_filling (fun vs H Q E h => ?_) (fun cdv A outer s H vs Q E hr h => ?_)
  · obtain ⟨p, l, d, xs, zs, f, c, sg, rfl, _⟩ := h; rfl
  · obtain ⟨p, l, d, xs, zs, f, c, sg, rfl, ha, hf, F, hc, hd, q⟩ := h
    refine ⟨_, (pss_cons (ps_if (PW.pt (pw_or (pt_not (t_val (pe_callB call_isi rfl T.z_isinstance bt_isinstance (pa_cons (vr 0) (pa_cons (pe_bltn (v := .ty "list") rfl T.z_list bt_list rfl) pa_nil))))) (pw_or1 (t_cmp o_ne (pe_callB call_lenM rfl T.z_len bt_len (pa_cons (vr 0) pa_nil)) (pe_callB call_lenM rfl T.z_len bt_len (pa_cons (vr 1) pa_nil)) (nomark _))))) (pss_one (ps_ret pe_bl)) pss_nil) (pss_cons (ps_set (i := 3) sc_L_filling.nd rfl (Or.inl rfl) pe_int) (pss_cons (ps_set (i := 4) sc_L_filling.nd rfl (Or.inl rfl) pe_int) (pss_cons (ps_for PassesOwn.never rfl (pi_zip rfl T.z_zip (pa_cons (vr 0) (pa_cons (vr 1) pa_nil))) (pg_tup rfl (pgs_cons (pg_name (i := 5) sc_L_filling.nd rfl (Or.inl rfl)) (pgs_cons (pg_name (i := 6) sc_L_filling.nd rfl (Or.inl rfl)) pgs_nil))) (pss_cons (ps_if (PW.pt (pw_or (PW.pt (pw_and (t_cmp o_eq (pe_ix ix_seq (vr 6) pe_int (fun _ _ => rfl)) pe_str (nomark _)) (pw_and1 (t_cmp o_is (vr 5) pe_non (nomark _))))) (pw_or1 (PW.pt (pw_and (t_cmp o_eq (pe_ix ix_seq (vr 6) pe_int (fun _ _ => rfl)) pe_str (nomark _)) (pw_and1 (t_cmp o_isnot (vr 5) pe_non (nomark _)))))))) (pss_one (ps_ret pe_bl)) pss_nil) (pss_one (ps_if (t_cmp o_isnot (vr 5) pe_non (nomark _)) (pss_cons (ps_if (PW.pt (pw_or (pt_not (t_val (pe_call G_L_whole hr rfl T.m_L_whole T.F_L_whole.kp T.B_L_whole .nil pass0 (pa_cons (vr 5) pa_nil)))) (pw_or1 (pt_not (t_chain o_le o_le (pe_ix ix_seq (vr 6) pe_int (fun _ _ => rfl)) (vr 5) (pe_ix ix_seq (vr 6) pe_int (fun _ _ => rfl))))))) (pss_one (ps_ret pe_bl)) pss_nil) (pss_cons (ps_set (i := 3) sc_L_filling.nd rfl (Or.inl rfl) (pe_op o_add (vr 3) (pe_op o_mulB (vr 5) (pe_ix ix_seq (vr 6) pe_int (fun _ _ => rfl))))) (pss_one (ps_set (i := 4) sc_L_filling.nd rfl (Or.inl rfl) (pe_op o_add (vr 4) (pe_ix ix_seq (vr 6) pe_int (fun _ _ => rfl))))))) pss_nil)))) (pss_one (ps_ret (m_and (pe_cmpR o_gt (vr 4) pe_int (nomark _)) (pe_one (pe_cmpR (o_eqD hr.units) (pe_call G_L_low hr rfl T.m_L_low T.F_L_low.kp T.B_L_low .nil pass0 (pa_cons (vr 3) (pa_cons (vr 4) pa_nil))) (vr 2) (nomark _)))))))))), ?_⟩
    have xl := ha.xl
    have l24 := ha.len
    have hp := hf.at_
    obtain ⟨b1, b2, b3⟩ := tF_bd zs f ha.ok hf.fb
    refine ⟨_, _, _, true, rfl, rfl, .lst hp, rfl, ⟨_, .inl (SqL.of hp), ⟨_, .inl (SqL.of ha.at_), ?_⟩⟩⟩
    rw [List.length_map, xl, F.len]
    refine iteNS rfl ?_
    refine ⟨p, l, _, _, rfl, hp, ha.at_, ?_⟩
    refine for_zip (a := p) (b := l) (xs := f.map oV) (ys := xs) (by rw [List.length_map, xl, F.len]) (fun i σ H' => Same H H' ∧ ∃ (x5 x6 : Option V), σ = [some (.ref p), some (.ref l), some (.ref d), some (.int (tF ((zs.zip f).take i))), some (.int (wF ((zs.zip f).take i))), x5, x6]) ⟨Same.refl H, none, none, rfl⟩ (fun i σ H' h => ⟨h.1 _ _ hp, h.1 _ _ ha.at_⟩) ?_ ?_
    · rintro i v x σ H1 pt hv hx ⟨s1, x5, x6, rfl⟩ hpt
      obtain ⟨z, hz, hA⟩ := pget ha.all hx
      obtain ⟨o, ho, rfl⟩ : ∃ o, f[i]? = some o ∧ v = oV o := by
        rw [List.getElem?_map] at hv
        cases hc : f[i]? with
        | none => rw [hc] at hv; cases hv
        | some z => rw [hc] at hv; cases hv; exact ⟨z, rfl, rfl⟩
      have okz := ha.ok _ (List.mem_of_getElem? hz)
      obtain ⟨c1, c2⟩ := hc z okz
      obtain ⟨a1, a2, a3, a4, a5⟩ := okz
      have s2 := Same.new (o := .tup [oV o, x]) hpt
      obtain ⟨pz, rfl, hpz⟩ := hA.same (s1.trans s2)
      refine ⟨pt, _, rfl, SqT.of upd_same, rfl, _, _, rfl, _, _, rfl, rfl, ?_⟩
      refine .inr (.inl ⟨pz, _, _, _, rfl, rfl, SqT.of hpz, atI_cons 3 rfl rfl, ?_⟩)
      have hv : (o = none ∧ wd z ≠ .yes) ∨ (o = some (c z) ∧ wd z ≠ .no) := by
        cases hw : wd z with
        | yes => have := F.yes i z hz hw; rw [ho] at this; exact .inr ⟨Option.some.inj this, by decide⟩
        | no => have := F.no i z hz hw; rw [ho] at this; exact .inl ⟨Option.some.inj this, by decide⟩
        | opn =>
          rcases F.opn i z hz hw with ⟨h, _⟩ | ⟨h, _⟩
          · rw [ho] at h; exact .inl ⟨Option.some.inj h, by decide⟩
          · rw [ho] at h; exact .inr ⟨Option.some.inj h, by decide⟩
      have s12 := s1.trans s2
      rcases hv with ⟨rfl, hn⟩ | ⟨rfl, hn⟩
      · have fin : Same H (upd H1 pt (.tup [oV none, .ref pz])) ∧ ∃ (x5 x6 : Option V), [some (.ref p), some (.ref l), some (.ref d), some (.int (tF ((zs.zip f).take i))), some (.int (wF ((zs.zip f).take i))), some V.non, some (.ref pz)] = [some (.ref p), some (.ref l), some (.ref d), some (.int (tF ((zs.zip f).take (i + 1)))), some (.int (wF ((zs.zip f).take (i + 1)))), x5, x6] :=
          ⟨s12, _, _, by unfold tF wF; rw [tT_none hz ho, wT_none hz ho]⟩
        refine ifC (fun c3 => absurd (wS_yes.mp c3) hn) (fun c3 => ?_)
        refine .inr (.inl ⟨pz, _, _, _, rfl, rfl, SqT.of hpz, atI_cons 3 rfl rfl, ?_⟩)
        exact ifC (fun c4 => fin) (fun c4 => fin)
      · have et : tF ((zs.zip f).take (i + 1)) = tF ((zs.zip f).take i) + c z * z.1 := by unfold tF; rw [tT_some hz ho, List.sum_append, Int.mul_comm]; simp
        have ew : wF ((zs.zip f).take (i + 1)) = wF ((zs.zip f).take i) + z.1 := by unfold wF; rw [wT_some hz ho, List.sum_append]; simp
        have fin : Same H (upd H1 pt (.tup [oV (some (c z)), .ref pz])) ∧ ∃ (x5 x6 : Option V), [some (.ref p), some (.ref l), some (.ref d), some (.int (tF ((zs.zip f).take i) + c z * z.1)), some (.int (wF ((zs.zip f).take i) + z.1)), some (V.int (c z)), some (.ref pz)] = [some (.ref p), some (.ref l), some (.ref d), some (.int (tF ((zs.zip f).take (i + 1)))), some (.int (wF ((zs.zip f).take (i + 1)))), x5, x6] :=
          ⟨s12, _, _, by rw [et, ew]⟩
        have go := fun {W : Hp → Prop} (h : W (upd H1 pt (.tup [oV (some (c z)), .ref pz]))) => h
        refine ifC (fun c3 => ?_) (fun c3 => ?_)
        all_goals
          refine .inr (.inl ⟨pz, _, _, _, rfl, rfl, SqT.of hpz, atI_cons 3 rfl rfl, ?_⟩)
          refine ifC (fun c4 => absurd (wS_no.mp c4) hn) (fun c4 => ?_)
          refine ⟨c z, rfl, ?_⟩
          refine .inr (.inl ⟨pz, _, _, _, rfl, rfl, SqT.of hpz, atI_cons 1 rfl rfl, ?_⟩)
          refine ifP c1 ?_
          refine .inr (.inl ⟨pz, _, _, _, rfl, rfl, SqT.of hpz, atI_cons 2 rfl rfl, ?_⟩)
          refine iteNS c2 ?_
          refine .inr (.inl ⟨pz, _, _, _, rfl, rfl, SqT.of hpz, atI_cons 0 rfl rfl, ?_⟩)
          refine ⟨crB (by omega) (by omega), ?_⟩
          refine .inr (.inl ⟨pz, _, _, _, rfl, rfl, SqT.of hpz, atI_cons 0 rfl rfl, ?_⟩)
          exact fin
    · rintro σ H1 ⟨s1, x5, x6, rfl⟩
      have e : (zs.zip f).take (f.map oV).length = zs.zip f := List.take_of_length_le (by rw [List.length_zip, List.length_map]; omega)
      rw [e]
      have pos := F.pos
      refine ifP pos ?_
      refine ⟨_, _, rfl, pos, bt3000 (by omega), bt3000 (by omega), fun H' p' s' hp' => ?_⟩
      exact eq_d (dv_pair (SqT.of hp')) (dv_pair (SqT.of ((s1.trans s') _ _ hd))) (shaped_pair _ _) (q _ (s1.trans s'))
end
end My

set_option Elab.async false
set_option linter.all false
set_option maxRecDepth 100000
set_option maxHeartbeats 4000000
namespace My
open PySem L2 FrM M80
def dA (z : A4) : PyData := .tuple [.int z.1, .int z.2.1, .int z.2.2.1, .str (wS z.2.2.2)]
theorem IsA.dv {K : PySem.W.Frag} {H : Hp} {z : A4} {x : V} (h : IsA H z x) : DV K H (dA z) x := by
  obtain ⟨p, rfl, hp⟩ := h
  unfold dA
  rw [DV]
  exact ⟨p, _, rfl, SqT.of hp, by simp [DVs, DV]⟩
theorem dvs_a {K : PySem.W.Frag} {H : Hp} : ∀ {zs : List A4} {xs : List V}, AllA H zs xs → DVs K H (zs.map dA) xs
  | _, _, .nil => by simp [DVs]
  | _, _, .cons r t => by rw [List.map_cons, DVs]; exact ⟨_, _, rfl, r.dv, dvs_a t⟩
theorem lay_a : ∀ (l : List A4), PyData.canLayAll0 (l.map dA) = true ∧ PyData.depthAll (l.map dA) ≤ 2
  | [] => by simp [PyData.canLayAll0, PyData.depthAll]
  | t :: l => by
    obtain ⟨h1, h2⟩ := lay_a l
    rw [List.map_cons, PyData.canLayAll0, PyData.depthAll, h1]
    have e : PyData.canLay0 (dA t) = true := by
      obtain ⟨t1, t2, t3, w⟩ := t
      cases w <;> (simp only [dA, wS, PyData.canLay0, PyData.canLayAll0, Bool.true_and, Bool.and_true]; decide +kernel)
    have e2 : PyData.depth (dA t) ≤ 2 := by unfold dA; simp [PyData.depth, PyData.depthAll]
    rw [e]
    exact ⟨rfl, by omega⟩
theorem shaped_a (l : List A4) : SeqAt.shaped (.list (l.map dA)) = true := by
  obtain ⟨k1, k2⟩ := lay_a l
  unfold SeqAt.shaped
  rw [PyData.canLay0, k1, Bool.true_and]
  refine decide_eq_true ?_
  simp only [PyData.depth]
  omega
theorem Ans.dv {K : PySem.W.Frag} {H : Hp} {l : Addr} {xs : List V} {zs : List A4} (h : Ans H l xs zs) : DV K H (.list (zs.map dA)) (.ref l) := by
  rw [DV]; exact ⟨l, xs, rfl, SqL.of h.at_, dvs_a h.all⟩
def dO : Option Int → PyData
  | none => .none
  | some v => .int v
theorem dv_o1 {K : PySem.W.Frag} {H : Hp} (o : Option Int) : DV K H (dO o) (oV o) := by cases o <;> simp [dO, oV, DV]
theorem dvs_o {K : PySem.W.Frag} {H : Hp} : ∀ (l : List (Option Int)), DVs K H (l.map dO) (l.map oV)
  | [] => by simp [DVs]
  | c :: l => by rw [List.map_cons, List.map_cons, DVs]; exact ⟨_, _, rfl, dv_o1 c, dvs_o l⟩
theorem dv_o {K : PySem.W.Frag} {H : Hp} {p : Addr} {l : List (Option Int)} (h : H p = some (.lst (l.map oV))) : DV K H (.list (l.map dO)) (.ref p) := by
  rw [DV]; exact ⟨p, _, rfl, SqL.of h, dvs_o l⟩
theorem lay_o : ∀ (l : List (Option Int)), PyData.canLayAll0 (l.map dO) = true ∧ PyData.depthAll (l.map dO) ≤ 1
  | [] => by simp [PyData.canLayAll0, PyData.depthAll]
  | t :: l => by
    obtain ⟨h1, h2⟩ := lay_o l
    rw [List.map_cons, PyData.canLayAll0, PyData.depthAll, h1]
    cases t with
    | none =>
      refine ⟨rfl, ?_⟩
      simp only [dO, PyData.depth]
      omega
    | some v =>
      refine ⟨rfl, ?_⟩
      simp only [dO, PyData.depth]
      omega
theorem shaped_o (l : List (Option Int)) : SeqAt.shaped (.list (l.map dO)) = true := by
  obtain ⟨k1, k2⟩ := lay_o l
  unfold SeqAt.shaped
  rw [PyData.canLay0, k1, Bool.true_and]
  refine decide_eq_true ?_
  simp only [PyData.depth]
  omega
/-- the whole answer, as data -/
def dT (f g : Int × Int) (l m : List (Option Int)) : PyData := .tuple [.tuple [.int f.1, .int f.2], .tuple [.int g.1, .int g.2], .list (l.map dO), .list (m.map dO)]
theorem shaped_t (f g : Int × Int) (l m : List (Option Int)) : SeqAt.shaped (dT f g l m) = true := by
  obtain ⟨k1, k2⟩ := lay_o l
  obtain ⟨j1, j2⟩ := lay_o m
  unfold SeqAt.shaped dT
  simp only [PyData.canLay0, PyData.canLayAll0, k1, j1, Bool.true_and, Bool.and_true]
  refine decide_eq_true ?_
  simp only [PyData.depth, PyData.depthAll]
  omega
theorem dv_t {K : PySem.W.Frag} {H : Hp} {t p1 p2 p r : Addr} {f g : Int × Int} {l m : List (Option Int)} (h : H t = some (.tup [.ref p1, .ref p2, .ref p, .ref r])) (f1 : H p1 = some (.tup [.int f.1, .int f.2])) (f2 : H p2 = some (.tup [.int g.1, .int g.2])) (h1 : H p = some (.lst (l.map oV))) (h2 : H r = some (.lst (m.map oV))) : DV K H (dT f g l m) (.ref t) := by
  unfold dT
  rw [DV]
  refine ⟨t, _, rfl, SqT.of h, ?_⟩
  have e1 := dv_pair (K := K) (SqT.of f1)
  have e2 := dv_pair (K := K) (SqT.of f2)
  have d1 := dv_o (K := K) h1
  have d2 := dv_o (K := K) h2
  rw [DVs]; refine ⟨_, _, rfl, e1, ?_⟩
  rw [DVs]; refine ⟨_, _, rfl, e2, ?_⟩
  rw [DVs]; refine ⟨_, _, rfl, d1, ?_⟩
  rw [DVs]; refine ⟨_, _, rfl, d2, ?_⟩
  rw [DVs]
theorem eq_nil {ds : List PyData} {d : PyData} : PyData.eqv (.list (d :: ds)) (.list []) = false := by simp [PyData.eqv, PyData.eqvAll]
theorem tabs_new {a : Ad} {ts : List Addr} {H : Hp} (hts : ∀ q ∈ tabs a, q.1 ∈ ts) (h : ∀ P ∈ ts, H P = some (.tbl #[])) : TabsOk (tabs a) H := fun q hq => ⟨#[], h _ (hts q hq), trivial, fun _ _ => .inl rfl⟩
theorem c_lo : ∀ z, OkA z → z.2.1 ≤ lo z ∧ lo z ≤ z.2.2.1 := fun z h => ⟨Int.le_refl _, h.2.2.2.1⟩
theorem c_hi : ∀ z, OkA z → z.2.1 ≤ hi z ∧ hi z ≤ z.2.2.1 := fun z h => ⟨h.2.2.2.1, Int.le_refl _⟩
def notNo (z : A4) : Bool := decide (wd z ≠ .no)
theorem TabsOk.lst {tabs : Tabs} {H : Hp} {r : Addr} {ys : List V} {o : HO} (t : TabsOk tabs H) (h : H r = some (.lst ys)) : TabsOk tabs (upd H r o) := t.put (fun ps z => by rw [h] at z; cases z) (fun φ z => by rw [h] at z; cases z)
section
variable {P : Program} {w : World} {K : PySem.W.Frag} {mg : Str → Option Value} {base : Heap} {a : Ad}
abbrev lawK : Nat := 8
theorem ok_law {ts : List Addr} (T : Txt K mg a) (hB : Bm mg base) (hts : ∀ q ∈ tabs a, q.1 ∈ ts) : FnOk P w K mg base CX0 lawK a.f_law a.d_law ["_law_script"] (spLaw K ts) := by
  have G_L_answers : FnOk P w K mg base CX0 7 _ _ _ (spAnswers K) := (ok_answers T).mono (by decide)
  have G_L_fraction : FnOk P w K mg base CX0 7 _ _ _ spFraction := (ok_fraction T).mono (by decide)
  have G_L_filling : FnOk P w K mg base CX0 7 _ _ _ spFill := (ok_fill T).mono (by decide)
  have G_L_none_above : FnOk P w K mg base CX0 7 _ _ _ spAbove := (ok_above T).mono (by decide)
  have G_mean_stretch : FnOk P w K mg base CX0 7 _ _ _ (spStretch a) := ok_stretch T hB
  refine T.F_law.ok sc_law (fun vs H Q E h => ?_) (fun cdv A outer s H vs Q E hr h => ?_)
  · obtain ⟨p, ns, rfl, _⟩ := h; rfl
  · obtain ⟨p, ns, rfl, hS, hlen, hT0, q⟩ := h
    have hT := tabs_new hts hT0
    refine ⟨_, (pss_cons (ps_set (i := 1) sc_law.nd rfl (Or.inl rfl) (pe_call G_L_answers hr rfl T.m_L_answers T.F_L_answers.kp T.B_L_answers .nil pass0 (pa_cons (vr 0) pa_nil))) (pss_cons (ps_set (i := 2) sc_law.nd rfl (Or.inl rfl) (pe_callTy call_list_of rfl T.z_list bt_list (pa_cons (vr 1) pa_nil))) (pss_cons (ps_set (i := 3) sc_law.nd rfl (Or.inl rfl) (pe_call G_mean_stretch hr rfl T.m_mean_stretch T.F_mean_stretch.kp T.B_mean_stretch .nil pass0 (pa_cons (vr 2) pa_nil))) (pss_cons (ps_if (t_cmp (o_eqD hr.units) (pe_comp rfl (N := ["_law_answer"]) (ix := [none]) ⟨rfl, rfl, rfl, rfl, trivial⟩ (pi_any (vr 1)) ⟨fun C s H fp => pg_name (i := 0) (show List.Nodup (["_law_answer"] : List Str) by decide +kernel) rfl (Or.inl rfl), fun C s H fp => pts_one (t_cmp o_ne (pe_ix (ix_seqK (K := K) rfl) (vr 0) pe_int (fun _ _ => rfl)) pe_str (nomark _)), fun C s H fp => (vr 0)⟩) (pe_lst pa_nil) (nomark _)) (pss_one (ps_ret (m_and (pe_cmpR o_is (vr 3) pe_non (nomark _)) (pe_one (pe_cmpR (o_eqD hr.units) (vr 2) (vr 1) (nomark _)))))) pss_nil) (pss_cons (ps_if (PW.pt (pw_or (pt_not (t_val (pe_callB call_isi rfl T.z_isinstance bt_isinstance (pa_cons (vr 3) (pa_cons (pe_bltn (v := .ty "tuple") rfl T.z_tuple bt_tuple rfl) pa_nil))))) (pw_or (t_cmp o_ne (pe_callB call_lenM rfl T.z_len bt_len (pa_cons (vr 3) pa_nil)) pe_int (nomark _)) (pw_or1 (t_cmp (o_neD hr.units) (vr 2) (vr 1) (nomark _)))))) (pss_one (ps_ret pe_bl)) pss_nil) (pss_cons (ps_asg (vr 3) (pg_tup rfl (pgs_cons (pg_name (i := 4) sc_law.nd rfl (Or.inl rfl)) (pgs_cons (pg_name (i := 5) sc_law.nd rfl (Or.inl rfl)) (pgs_cons (pg_name (i := 6) sc_law.nd rfl (Or.inl rfl)) (pgs_cons (pg_name (i := 7) sc_law.nd rfl (Or.inl rfl)) pgs_nil)))))) (pss_cons (ps_if (PW.pt (pw_or (pt_not (t_val (pe_call G_L_fraction hr rfl T.m_L_fraction T.F_L_fraction.kp T.B_L_fraction .nil pass0 (pa_cons (vr 4) pa_nil)))) (pw_or1 (pt_not (t_val (pe_call G_L_fraction hr rfl T.m_L_fraction T.F_L_fraction.kp T.B_L_fraction .nil pass0 (pa_cons (vr 5) pa_nil))))))) (pss_one (ps_ret pe_bl)) pss_nil) (pss_cons (ps_if (PW.pt (pw_or (pt_not (t_val (pe_call G_L_filling hr rfl T.m_L_filling T.F_L_filling.kp T.B_L_filling .nil pass0 (pa_cons (vr 6) (pa_cons (vr 1) (pa_cons (vr 4) pa_nil)))))) (pw_or1 (pt_not (t_val (pe_call G_L_filling hr rfl T.m_L_filling T.F_L_filling.kp T.B_L_filling .nil pass0 (pa_cons (vr 7) (pa_cons (vr 1) (pa_cons (vr 5) pa_nil))))))))) (pss_one (ps_ret pe_bl)) pss_nil) (pss_cons (ps_if (PW.pt (pw_or (pt_not (t_val (pe_call G_L_none_above hr rfl T.m_L_none_above T.F_L_none_above.kp T.B_L_none_above .nil pass0 (pa_cons (vr 1) (pa_cons (vr 5) (pa_cons pe_int (pa_cons pe_int pa_nil))))))) (pw_or1 (pt_not (t_val (pe_call G_L_none_above hr rfl T.m_L_none_above T.F_L_none_above.kp T.B_L_none_above .nil pass0 (pa_cons (vr 1) (pa_cons (vr 4) (pa_cons pe_int (pa_cons (pe_un u_neg pe_int) pa_nil)))))))))) (pss_one (ps_ret pe_bl)) pss_nil) (pss_cons (ps_set (i := 8) sc_law.nd rfl (Or.inl rfl) (pe_tup (pa_cons (vr 4) (pa_cons (vr 5) (pa_cons (pe_callTy call_list_of rfl T.z_list bt_list (pa_cons (vr 6) pa_nil)) (pa_cons (pe_callTy call_list_of rfl T.z_list bt_list (pa_cons (vr 7) pa_nil)) pa_nil)))))) (pss_cons (ps_expr (pe_m.clear (vr 6))) (pss_cons (ps_if (t_cmp (o_neD hr.units) (vr 7) (pe_ix ix_seq (vr 8) pe_int (fun _ _ => rfl)) (nomark _)) (pss_one (ps_ret pe_bl)) pss_nil) (pss_cons (ps_expr (pe_m.clear (vr 7))) (pss_one (ps_ret (pe_cmpR (o_eqD hr.units) (pe_call G_mean_stretch hr rfl T.m_mean_stretch T.F_mean_stretch.kp T.B_mean_stretch .nil pass0 (pa_cons (vr 2) pa_nil)) (vr 8) (nomark _))))))))))))))))), ?_⟩
    have sl : sizeLine = 16777216 := sizeLine_eq
    refine ⟨p, ns, rfl, hS, hlen, fun H1 l xs zs s1 ha => ?_⟩
    have l24 := ha.len
    have xl := ha.xl
    refine ⟨l, _, rfl, .inl (SqL.of ha.at_), fun l2 hl2 => ?_⟩
    have s2 := Same.new (o := .lst xs) hl2
    have ha2 : Ans (upd H1 l2 (.lst xs)) l2 xs zs := ⟨upd_same, ha.all.same s2, ha.len, ha.ok⟩
    have ha1 := ha.same s2
    have hT2 : TabsOk (tabs a) (upd H1 l2 (.lst xs)) := (hT.same s1).same s2
    generalize upd H1 l2 (.lst xs) = H2 at s2 ha1 ha2 hT2
    have cmp : ∀ (H3 : Hp) (v : V) (Q' : Bool → Hp → Prop), SameT H2 H3 → TabsOk (tabs a) H3 → True := fun _ _ _ _ _ => trivial
    refine ⟨l2, xs, zs, rfl, ha2, hT2, fun hn H3 t3 hT3 => ?_, fun hs H3 t p1 p2 pl ph t3 hT3 tl => ?_⟩
    · have ha3 := ha1.t t3
      have hb3 := ha2.t t3
      refine .inl ⟨⟨_, SqL.of ha3.at_⟩, fun D hD => ?_⟩
      refine comp_list (K := K) (a := l) (xs := xs) (fun j ys H' => j ≤ xs.length ∧ Same H3 H' ∧ H' D = some (.lst ys) ∧ ys = []) ⟨Nat.zero_le _, Same.new hD, upd_same, rfl⟩ (fun j ys H' h' => SqL.of (h'.2.1 _ _ ha3.at_)) (fun j ys H' h' => h'.2.2.1) ?_ ?_
      · rintro j x ys H' P' hx ⟨hj, s4, hD4, rfl⟩ hP
        obtain ⟨z, hz, pz, rfl, hpz⟩ := pget ha3.all hx
        have hlt : j < xs.length := (List.getElem?_eq_some_iff.mp hx).1
        refine ⟨trivial, ?_⟩
        refine .inr (.inl ⟨pz, _, _, _, rfl, rfl, SqT.of (s4 _ _ hpz), atI_cons 3 rfl rfl, ?_⟩)
        have hno : wS z.2.2.2 = "no" := wS_no.mpr (Classical.byContradiction fun e => hn ⟨z, List.mem_of_getElem? hz, e⟩)
        refine ifB (fun c => ?_) (fun c => hP _ _ ⟨by omega, s4, hD4, rfl⟩)
        exfalso
        rw [decide_eq_true hno] at c
        cases c
      rintro ys H4 ⟨_, s4, hD4, rfl⟩
      refine ⟨Nat.zero_le _, fun E hE => ?_⟩
      have s5 := Same.new (o := .lst []) hE
      refine eq_d (d := .list []) ?_ ?_ rfl ?_
      · rw [DV]; exact ⟨D, [], rfl, SqL.of (s5 _ _ hD4), by simp [DVs]⟩
      · rw [DV]; exact ⟨E, [], rfl, SqL.of upd_same, by simp [DVs]⟩
      exact eq_d ((hb3.same s4).same s5).dv ((ha3.same s4).same s5).dv (shaped_a zs) (q _)
    · have ha3 := ha1.t t3
      have hb3 := ha2.t t3
      have F1 := fill_fil ha.ok hs
      have F2 := highs_fil ha.ok hs
      have hb1 := (lws_fill zs).fb ha.ok
      obtain ⟨hh1, hh2⟩ := highs_fb ha.ok
      obtain ⟨b1, b2, b3⟩ := tF_bd zs (fill zs) ha.ok hb1
      obtain ⟨b4, b5, b6⟩ := tF_bd zs (highs zs) ha.ok hh2
      refine .inl ⟨⟨_, SqL.of ha3.at_⟩, fun D hD => ?_⟩
      refine comp_list (K := K) (a := l) (xs := xs) (fun j ys H' => j ≤ xs.length ∧ Same H3 H' ∧ H' D = some (.lst ys) ∧ AllA H' ((zs.take j).filter notNo) ys) ⟨Nat.zero_le _, Same.new hD, upd_same, by rw [List.take_zero]; exact .nil⟩ (fun j ys H' h' => SqL.of (h'.2.1 _ _ ha3.at_)) (fun j ys H' h' => h'.2.2.1) ?_ ?_
      · rintro j x ys H' P' hx ⟨hj, s4, hD4, hal⟩ hP
        obtain ⟨z, hz, hA⟩ := pget ha3.all hx
        obtain ⟨pz, rfl, hpz⟩ := id hA
        have hlt : j < xs.length := (List.getElem?_eq_some_iff.mp hx).1
        have et : zs.take (j + 1) = zs.take j ++ [z] := by rw [List.take_add_one, hz]; rfl
        have yl : ys.length ≤ j := by
          rw [← Paired.length hal]
          have := List.length_filter_le notNo (zs.take j)
          rw [List.length_take] at this
          omega
        refine ⟨trivial, ?_⟩
        refine .inr (.inl ⟨pz, _, _, _, rfl, rfl, SqT.of (s4 _ _ hpz), atI_cons 3 rfl rfl, ?_⟩)
        refine ifB (fun c => ?_) (fun c => ?_)
        · have c' : notNo z = true := decide_eq_true fun e => by rw [decide_eq_true (show wS z.2.2.2 = "no" from wS_no.mpr e)] at c; cases c
          refine ⟨hD4, by omega, hP _ _ ⟨by omega, s4.put hD, upd_same, ?_⟩⟩
          rw [et, List.filter_append, List.filter_cons_of_pos c', List.filter_nil]
          exact AllA.tu (tu_lst hD4) (AllA.snoc (hA.same s4) hal)
        · have c' : ¬ notNo z = true := fun e => (of_decide_eq_true e) (wS_no.mp (Classical.byContradiction fun h => by rw [decide_eq_false (show ¬ wS z.2.2.2 = "no" from h)] at c; cases c))
          refine hP _ _ ⟨by omega, s4, hD4, ?_⟩
          rw [et, List.filter_append, List.filter_cons_of_neg c', List.filter_nil, List.append_nil]
          exact hal
      rintro ys H4 ⟨_, s4, hD4, hal⟩
      rw [xl, List.take_of_length_le (Nat.le_refl _)] at hal
      refine ⟨Nat.zero_le _, fun E hE => ?_⟩
      have s5 := Same.new (o := .lst []) hE
      have s45 := s4.trans s5
      have d1 : DV K (upd H4 E (.lst [])) (.list ((zs.filter notNo).map dA)) (.ref D) := by rw [DV]; exact ⟨D, ys, rfl, SqL.of (s5 _ _ hD4), dvs_a (hal.same s5)⟩
      have d2 : DV K (upd H4 E (.lst [])) (.list []) (.ref E) := by rw [DV]; exact ⟨E, [], rfl, SqL.of upd_same, by simp [DVs]⟩
      refine ⟨_, _, d1, d2, shaped_a _, rfl, ?_⟩
      obtain ⟨z0, hz0, hn0⟩ := hs
      obtain ⟨zf, zr, ez⟩ : ∃ zf zr, zs.filter notNo = zf :: zr := by
        cases hc : zs.filter notNo with
        | nil =>
          have : z0 ∈ zs.filter notNo := List.mem_filter.mpr ⟨hz0, (show notNo z0 = true from decide_eq_true hn0)⟩
          rw [hc] at this
          cases this
        | cons zf zr => exact ⟨zf, zr, rfl⟩
      rw [ez, List.map_cons, eq_nil]
      have ha5 := ha3.same s45
      have hb5 := hb3.same s45
      have hT5 := hT3.same s45
      have t25 := t3.trans s45.t
      replace tl : Told H2 (upd H4 E (.lst [])) t p1 p2 pl ph zs := ⟨s45 _ _ tl.at_, s45 _ _ tl.m1, s45 _ _ tl.m2, s45 _ _ tl.lo, s45 _ _ tl.hi, tl.ne, tl.fl, tl.fh⟩
      clear d1 d2 s45 s5
      generalize upd H4 E (.lst []) = H5 at ha5 hb5 hT5 t25 tl
      refine ⟨_, _, _, true, rfl, rfl, .tup tl.at_, rfl, ⟨_, .inr (SqT.of tl.at_), ?_⟩⟩
      refine ne_d hb5.dv ha5.dv (shaped_a zs) ?_
      refine ⟨t, _, rfl, SqT.of tl.at_, rfl, _, _, rfl, _, _, rfl, _, _, rfl, _, _, rfl, rfl, ?_⟩
      refine ⟨p1, _, _, rfl, tl.m1, F1.pos, bt3000 (by omega), bt3000 (by omega), fun H6 s6 => ?_⟩
      refine ⟨p2, _, _, rfl, s6 _ _ tl.m2, F2.pos, bt3000 (by omega), bt3000 (by omega), fun H7 s7 => ?_⟩
      have s57 := s6.trans s7
      have fl1 : Fl H7 pl zs (fill zs) := ⟨s57 _ _ tl.lo, F1.len, hb1⟩
      have fl2 : Fl H7 ph zs (highs zs) := ⟨s57 _ _ tl.hi, F2.len, hh2⟩
      refine ⟨pl, l, p1, xs, zs, _, lo, -1, rfl, ha5.same s57, fl1, F1, c_lo, s57 _ _ tl.m1, fun H8 s8 => ?_⟩
      refine ⟨ph, l, p2, xs, zs, _, hi, 1, rfl, (ha5.same s57).same s8, fl2.same s8, F2, c_hi, (s57.trans s8) _ _ tl.m2, fun H9 s9 => ?_⟩
      have s59 := (s57.trans s8).trans s9
      have hw : ∀ z ∈ zs, 1 ≤ z.1 := fun z hz => (ha.ok z hz).1
      have L1 := lowP_low (t := tF (zs.zip (fill zs))) F1.pos
      have L2 := lowP_low (t := tF (zs.zip (highs zs))) F2.pos
      refine ⟨l, p2, xs, zs, hi, 2, 1, _, _, rfl, ha5.same s59, s59 _ _ tl.m2, fun z => rfl, c_hi, .inl rfl, none_above F2 (.inl rfl) hw (by have := L2.pos; omega) L2.eq, fun H10 s10 => ?_⟩
      refine ⟨l, p1, xs, zs, lo, 1, -1, _, _, rfl, (ha5.same s59).same s10, (s59.trans s10) _ _ tl.m1, fun z => rfl, c_lo, .inr rfl, none_above F1 (.inr rfl) hw (by have := L1.pos; omega) L1.eq, fun H11 s11 => ?_⟩
      have s5b := (s59.trans s10).trans s11
      have hlo := s5b _ _ tl.lo
      have hhi := s5b _ _ tl.hi
      have hm1 := s5b _ _ tl.m1
      have hm2 := s5b _ _ tl.m2
      refine ⟨pl, _, rfl, .inl (SqL.of hlo), fun r1 hr1 => ?_⟩
      have u1 := Same.new (o := .lst ((fill zs).map oV)) hr1
      refine ⟨ph, _, rfl, .inl (SqL.of (u1 _ _ hhi)), fun r2 hr2 => ?_⟩
      have u2 := Same.new (o := .lst ((highs zs).map oV)) hr2
      refine ⟨(by decide : 4 ≤ sizeLine), fun kt hkt => ?_⟩
      have u3 := Same.new (o := .tup [.ref p1, .ref p2, .ref r1, .ref r2]) hkt
      have u13 := (u1.trans u2).trans u3
      have n1 : pl ≠ r1 := ne_of_none hlo hr1
      have n2 : ph ≠ r1 := ne_of_none hhi hr1
      have n3 : pl ≠ r2 := ne_of_none (u1 _ _ hlo) hr2
      have n4 : ph ≠ r2 := ne_of_none (u1 _ _ hhi) hr2
      have g1 := (u2.trans u3) _ _ (upd_same (H := H11) (a := r1) (o := .lst ((fill zs).map oV)))
      have g2 := u3 _ _ (upd_same (H := upd H11 r1 (.lst ((fill zs).map oV))) (a := r2) (o := .lst ((highs zs).map oV)))
      have g3 := upd_same (H := upd (upd H11 r1 (.lst ((fill zs).map oV))) r2 (.lst ((highs zs).map oV))) (a := kt) (o := .tup [.ref p1, .ref p2, .ref r1, .ref r2])
      have hl8 := u13 _ _ hlo
      have hh8 := u13 _ _ hhi
      have hm1' := u13 _ _ hm1
      have hm2' := u13 _ _ hm2
      have t28 : SameT H2 _ := t25.trans (s5b.trans u13).t
      have hT8 := hT5.same (s5b.trans u13)
      generalize upd (upd (upd H11 r1 (.lst ((fill zs).map oV))) r2 (.lst ((highs zs).map oV))) kt (.tup [.ref p1, .ref p2, .ref r1, .ref r2]) = H8 at g1 g2 g3 hl8 hh8 hm1' hm2' t28 hT8
      refine ⟨.inl ⟨rfl, _, SqL.of hl8⟩, ⟨pl, _, rfl, rfl, hl8, ?_⟩⟩
      have t29 := t28.put (o := .lst []) tl.fl
      have hT9 := TabsOk.lst (o := .lst []) hT8 hl8
      have tu9 := tu_lst (o := .lst []) hl8
      have g1' : (upd H8 pl (.lst [])) r1 = _ := (upd_ne (Ne.symm n1)).trans g1
      have g2' : (upd H8 pl (.lst [])) r2 = _ := (upd_ne (Ne.symm n3)).trans g2
      have g3' := tu9 _ _ g3
      have k1' := tu9 _ _ hm1'
      have k2' := tu9 _ _ hm2'
      have hh9 : (upd H8 pl (.lst [])) ph = _ := (upd_ne (Ne.symm tl.ne)).trans hh8
      generalize upd H8 pl (.lst []) = H9 at t29 hT9 g1' g2' g3' k1' k2' hh9
      refine .inr (.inl ⟨kt, _, _, _, rfl, rfl, SqT.of g3', atI_cons 3 rfl rfl, ?_⟩)
      refine ne_d (dv_o hh9) (dv_o g2') (shaped_o _) ?_
      refine ⟨.inl ⟨rfl, _, SqL.of hh9⟩, ⟨ph, _, rfl, rfl, hh9, ?_⟩⟩
      have t2a := t29.put (o := .lst []) tl.fh
      have hTa := TabsOk.lst (o := .lst []) hT9 hh9
      have tua := tu_lst (o := .lst []) hh9
      have f1 : (upd H9 ph (.lst [])) r1 = _ := (upd_ne (Ne.symm n2)).trans g1'
      have f2 : (upd H9 ph (.lst [])) r2 = _ := (upd_ne (Ne.symm n4)).trans g2'
      have f3 := tua _ _ g3'
      have k1 := tua _ _ k1'
      have k2 := tua _ _ k2'
      generalize upd H9 ph (.lst []) = H10' at t2a hTa f1 f2 f3 k1 k2
      refine ⟨l2, xs, zs, rfl, ha2.t t2a, hTa, fun hn => absurd ⟨z0, hz0, hn0⟩ hn, fun _ H12 t' p1' p2' pl' ph' tb hTb tl' => ?_⟩
      exact eq_d (dv_t tl'.at_ tl'.m1 tl'.m2 tl'.lo tl'.hi) (dv_t (tb.at f3) (tb.at k1) (tb.at k2) (tb.at f1) (tb.at f2)) (shaped_t _ _ _ _) (q _)
end
end My

set_option Elab.async false
set_option linter.all false
set_option maxRecDepth 100000
set_option maxHeartbeats 4000000
namespace My
open PySem L2
theorem txt_mk {K : PySem.W.Frag} {h : Heap} {mg : Str → Option Value} {f0 : Addr} {od0 an0 : Option Addr} {sl0 : Array (Option Value)} {oc0 kV0 dc0 pm0 cd0 ct0 : Value} {f1 : Addr} {od1 an1 : Option Addr} {sl1 : Array (Option Value)} {oc1 kV1 dc1 pm1 cd1 ct1 : Value} {f2 : Addr} {od2 an2 : Option Addr} {sl2 : Array (Option Value)} {oc2 kV2 dc2 pm2 cd2 ct2 : Value} {f3 : Addr} {od3 an3 : Option Addr} {sl3 : Array (Option Value)} {oc3 kV3 dc3 pm3 cd3 ct3 : Value} {f4 : Addr} {od4 an4 : Option Addr} {sl4 : Array (Option Value)} {oc4 kV4 dc4 pm4 cd4 ct4 : Value} {f5 : Addr} {od5 an5 : Option Addr} {sl5 : Array (Option Value)} {oc5 kV5 dc5 pm5 cd5 ct5 : Value} {f6 : Addr} {od6 an6 : Option Addr} {sl6 : Array (Option Value)} {oc6 kV6 dc6 pm6 cd6 ct6 : Value} {f7 : Addr} {od7 an7 : Option Addr} {sl7 : Array (Option Value)} {oc7 kV7 dc7 pm7 cd7 ct7 : Value} {f8 : Addr} {od8 an8 : Option Addr} {sl8 : Array (Option Value)} {oc8 kV8 dc8 pm8 cd8 ct8 : Value} {f9 : Addr} {od9 an9 : Option Addr} {sl9 : Array (Option Value)} {oc9 kV9 dc9 pm9 cd9 ct9 : Value} {f10 : Addr} {od10 an10 : Option Addr} {sl10 : Array (Option Value)} {oc10 kV10 dc10 pm10 cd10 ct10 : Value} {f11 : Addr} {od11 an11 : Option Addr} {sl11 : Array (Option Value)} {oc11 kV11 dc11 pm11 cd11 ct11 : Value} {f12 : Addr} {od12 an12 : Option Addr} {sl12 : Array (Option Value)} {oc12 kV12 dc12 pm12 cd12 ct12 : Value} {f13 : Addr} {od13 an13 : Option Addr} {sl13 : Array (Option Value)} {oc13 kV13 dc13 pm13 cd13 ct13 : Value} {f14 : Addr} {od14 an14 : Option Addr} {sl14 : Array (Option Value)} {oc14 kV14 dc14 pm14 cd14 ct14 : Value} {f15 : Addr} {od15 an15 : Option Addr} {sl15 : Array (Option Value)} {oc15 kV15 dc15 pm15 cd15 ct15 : Value} {f16 : Addr} {od16 an16 : Option Addr} {sl16 : Array (Option Value)} {oc16 kV16 dc16 pm16 cd16 ct16 : Value} {f17 : Addr} {od17 an17 : Option Addr} {sl17 : Array (Option Value)} {oc17 kV17 dc17 pm17 cd17 ct17 : Value} {f18 : Addr} {od18 an18 : Option Addr} {sl18 : Array (Option Value)} {oc18 kV18 dc18 pm18 cd18 ct18 : Value} {f19 : Addr} {od19 an19 : Option Addr} {sl19 : Array (Option Value)} {oc19 kV19 dc19 pm19 cd19 ct19 : Value} {f20 : Addr} {od20 an20 : Option Addr} {sl20 : Array (Option Value)} {oc20 kV20 dc20 pm20 cd20 ct20 : Value} {f21 : Addr} {od21 an21 : Option Addr} {sl21 : Array (Option Value)} {oc21 kV21 dc21 pm21 cd21 ct21 : Value} {f22 : Addr} {od22 an22 : Option Addr} {sl22 : Array (Option Value)} {oc22 kV22 dc22 pm22 cd22 ct22 : Value} {f23 : Addr} {od23 an23 : Option Addr} {sl23 : Array (Option Value)} {oc23 kV23 dc23 pm23 cd23 ct23 : Value} {f24 : Addr} {od24 an24 : Option Addr} {sl24 : Array (Option Value)} {oc24 kV24 dc24 pm24 cd24 ct24 : Value} {k_WORDS : Addr} {u0 : Value} {u1 : Value} {u2 : Value} {c_SpeakError : Addr} {c_NoAnswers : Addr} {lc_least_filling lp_least_filling : Addr} {lo_least_filling : Value} {lod_least_filling : Option Addr} {lvs_least_filling : Array Value} {lsl_least_filling : Array (Option Value)} (X : K.In h) (G : h.Ns mainGlobals mg)
    (a0 : PySem.W.nsIn K mainGlobals "greatest_divisor" = some (some (.ref f0))) (l0 : K.lookup f0 = some ⟨oc0, od0, .func (PySem.W.fnOf "greatest_divisor" "greatest_divisor" (defArgs s_greatest_divisor) (defBody s_greatest_divisor) (defScope s_greatest_divisor) .none kV0 dc0 pm0 an0 cd0 ct0), sl0⟩) (c0 : PySem.W.codeIn K cd0 "greatest_divisor" = true) (k0 : PySem.W.keepIn K (.ref f0) = true)
    (a1 : PySem.W.nsIn K mainGlobals "share" = some (some (.ref f1))) (l1 : K.lookup f1 = some ⟨oc1, od1, .func (PySem.W.fnOf "share" "share" (defArgs s_share) (defBody s_share) (defScope s_share) .none kV1 dc1 pm1 an1 cd1 ct1), sl1⟩) (c1 : PySem.W.codeIn K cd1 "share" = true) (k1 : PySem.W.keepIn K (.ref f1) = true)
    (a2 : PySem.W.nsIn K mainGlobals "is_whole" = some (some (.ref f2))) (l2 : K.lookup f2 = some ⟨oc2, od2, .func (PySem.W.fnOf "is_whole" "is_whole" (defArgs s_is_whole) (defBody s_is_whole) (defScope s_is_whole) .none kV2 dc2 pm2 an2 cd2 ct2), sl2⟩) (c2 : PySem.W.codeIn K cd2 "is_whole" = true) (k2 : PySem.W.keepIn K (.ref f2) = true)
    (a3 : PySem.W.nsIn K mainGlobals "is_list_of" = some (some (.ref f3))) (l3 : K.lookup f3 = some ⟨oc3, od3, .func (PySem.W.fnOf "is_list_of" "is_list_of" (defArgs s_is_list_of) (defBody s_is_list_of) (defScope s_is_list_of) .none kV3 dc3 pm3 an3 cd3 ct3), sl3⟩) (c3 : PySem.W.codeIn K cd3 "is_list_of" = true) (k3 : PySem.W.keepIn K (.ref f3) = true)
    (a4 : PySem.W.nsIn K mainGlobals "is_bounded" = some (some (.ref f4))) (l4 : K.lookup f4 = some ⟨oc4, od4, .func (PySem.W.fnOf "is_bounded" "is_bounded" (defArgs s_is_bounded) (defBody s_is_bounded) (defScope s_is_bounded) .none kV4 dc4 pm4 an4 cd4 ct4), sl4⟩) (c4 : PySem.W.codeIn K cd4 "is_bounded" = true) (k4 : PySem.W.keepIn K (.ref f4) = true)
    (a5 : PySem.W.nsIn K mainGlobals "is_answer" = some (some (.ref f5))) (l5 : K.lookup f5 = some ⟨oc5, od5, .func (PySem.W.fnOf "is_answer" "is_answer" (defArgs s_is_answer) (defBody s_is_answer) (defScope s_is_answer) .none kV5 dc5 pm5 an5 cd5 ct5), sl5⟩) (c5 : PySem.W.codeIn K cd5 "is_answer" = true) (k5 : PySem.W.keepIn K (.ref f5) = true)
    (a6 : PySem.W.nsIn K mainGlobals "is_worded_answer" = some (some (.ref f6))) (l6 : K.lookup f6 = some ⟨oc6, od6, .func (PySem.W.fnOf "is_worded_answer" "is_worded_answer" (defArgs s_is_worded_answer) (defBody s_is_worded_answer) (defScope s_is_worded_answer) .none kV6 dc6 pm6 an6 cd6 ct6), sl6⟩) (c6 : PySem.W.codeIn K cd6 "is_worded_answer" = true) (k6 : PySem.W.keepIn K (.ref f6) = true)
    (a7 : PySem.W.nsIn K mainGlobals "is_word" = some (some (.ref f7))) (l7 : K.lookup f7 = some ⟨oc7, od7, .func (PySem.W.fnOf "is_word" "is_word" (defArgs s_is_word) (defBody s_is_word) (defScope s_is_word) .none kV7 dc7 pm7 an7 cd7 ct7), sl7⟩) (c7 : PySem.W.codeIn K cd7 "is_word" = true) (k7 : PySem.W.keepIn K (.ref f7) = true)
    (a8 : PySem.W.nsIn K mainGlobals "need_answers" = some (some (.ref f8))) (l8 : K.lookup f8 = some ⟨oc8, od8, .func (PySem.W.fnOf "need_answers" "need_answers" (defArgs s_need_answers) (defBody s_need_answers) (defScope s_need_answers) .none kV8 dc8 pm8 an8 cd8 ct8), sl8⟩) (c8 : PySem.W.codeIn K cd8 "need_answers" = true) (k8 : PySem.W.keepIn K (.ref f8) = true)
    (a9 : PySem.W.nsIn K mainGlobals "total_by" = some (some (.ref f9))) (l9 : K.lookup f9 = some ⟨oc9, od9, .func (PySem.W.fnOf "total_by" "total_by" (defArgs s_total_by) (defBody s_total_by) (defScope s_total_by) .none kV9 dc9 pm9 an9 cd9 ct9), sl9⟩) (c9 : PySem.W.codeIn K cd9 "total_by" = true) (k9 : PySem.W.keepIn K (.ref f9) = true)
    (a10 : PySem.W.nsIn K mainGlobals "weight_by" = some (some (.ref f10))) (l10 : K.lookup f10 = some ⟨oc10, od10, .func (PySem.W.fnOf "weight_by" "weight_by" (defArgs s_weight_by) (defBody s_weight_by) (defScope s_weight_by) .none kV10 dc10 pm10 an10 cd10 ct10), sl10⟩) (c10 : PySem.W.codeIn K cd10 "weight_by" = true) (k10 : PySem.W.keepIn K (.ref f10) = true)
    (a11 : PySem.W.nsIn K mainGlobals "mean_stretch" = some (some (.ref f11))) (l11 : K.lookup f11 = some ⟨oc11, od11, .func (PySem.W.fnOf "mean_stretch" "mean_stretch" (defArgs s_mean_stretch) (defBody s_mean_stretch) (defScope s_mean_stretch) .none kV11 dc11 pm11 an11 cd11 ct11), sl11⟩) (c11 : PySem.W.codeIn K cd11 "mean_stretch" = true) (k11 : PySem.W.keepIn K (.ref f11) = true)
    (a12 : PySem.W.nsIn K mainGlobals "mean_by" = some (some (.ref f12))) (l12 : K.lookup f12 = some ⟨oc12, od12, .func (PySem.W.fnOf "mean_by" "mean_by" (defArgs s_mean_by) (defBody s_mean_by) (defScope s_mean_by) .none kV12 dc12 pm12 an12 cd12 ct12), sl12⟩) (c12 : PySem.W.codeIn K cd12 "mean_by" = true) (k12 : PySem.W.keepIn K (.ref f12) = true)
    (a13 : PySem.W.nsIn K mainGlobals "least_filling" = some (some (.ref f13))) (l13 : K.lookup f13 = some ⟨oc13, od13, .func (PySem.W.fnOf "least_filling" "least_filling" (defArgs s_least_filling) (defBody s_least_filling) (defScope s_least_filling) .none kV13 dc13 pm13 an13 cd13 ct13), sl13⟩) (c13 : PySem.W.codeIn K cd13 "least_filling" = true) (k13 : PySem.W.keepIn K (.ref f13) = true)
    (a14 : PySem.W.nsIn K mainGlobals "counts_none" = some (some (.ref f14))) (l14 : K.lookup f14 = some ⟨oc14, od14, .func (PySem.W.fnOf "counts_none" "counts_none" (defArgs s_counts_none) (defBody s_counts_none) (defScope s_counts_none) .none kV14 dc14 pm14 an14 cd14 ct14), sl14⟩) (c14 : PySem.W.codeIn K cd14 "counts_none" = true) (k14 : PySem.W.keepIn K (.ref f14) = true)
    (a15 : PySem.W.nsIn K mainGlobals "_law_cell" = some (some (.ref f15))) (l15 : K.lookup f15 = some ⟨oc15, od15, .func (PySem.W.fnOf "_law_cell" "_law_cell" (defArgs s_L_cell) (defBody s_L_cell) (defScope s_L_cell) .none kV15 dc15 pm15 an15 cd15 ct15), sl15⟩) (c15 : PySem.W.codeIn K cd15 "_law_cell" = true) (k15 : PySem.W.keepIn K (.ref f15) = true)
    (a16 : PySem.W.nsIn K mainGlobals "_law_mix" = some (some (.ref f16))) (l16 : K.lookup f16 = some ⟨oc16, od16, .func (PySem.W.fnOf "_law_mix" "_law_mix" (defArgs s_L_mix) (defBody s_L_mix) (defScope s_L_mix) .none kV16 dc16 pm16 an16 cd16 ct16), sl16⟩) (c16 : PySem.W.codeIn K cd16 "_law_mix" = true) (k16 : PySem.W.keepIn K (.ref f16) = true)
    (a17 : PySem.W.nsIn K mainGlobals "_law_row" = some (some (.ref f17))) (l17 : K.lookup f17 = some ⟨oc17, od17, .func (PySem.W.fnOf "_law_row" "_law_row" (defArgs s_L_row) (defBody s_L_row) (defScope s_L_row) .none kV17 dc17 pm17 an17 cd17 ct17), sl17⟩) (c17 : PySem.W.codeIn K cd17 "_law_row" = true) (k17 : PySem.W.keepIn K (.ref f17) = true)
    (a18 : PySem.W.nsIn K mainGlobals "_law_whole" = some (some (.ref f18))) (l18 : K.lookup f18 = some ⟨oc18, od18, .func (PySem.W.fnOf "_law_whole" "_law_whole" (defArgs s_L_whole) (defBody s_L_whole) (defScope s_L_whole) .none kV18 dc18 pm18 an18 cd18 ct18), sl18⟩) (c18 : PySem.W.codeIn K cd18 "_law_whole" = true) (k18 : PySem.W.keepIn K (.ref f18) = true)
    (a19 : PySem.W.nsIn K mainGlobals "_law_low" = some (some (.ref f19))) (l19 : K.lookup f19 = some ⟨oc19, od19, .func (PySem.W.fnOf "_law_low" "_law_low" (defArgs s_L_low) (defBody s_L_low) (defScope s_L_low) .none kV19 dc19 pm19 an19 cd19 ct19), sl19⟩) (c19 : PySem.W.codeIn K cd19 "_law_low" = true) (k19 : PySem.W.keepIn K (.ref f19) = true)
    (a20 : PySem.W.nsIn K mainGlobals "_law_answers" = some (some (.ref f20))) (l20 : K.lookup f20 = some ⟨oc20, od20, .func (PySem.W.fnOf "_law_answers" "_law_answers" (defArgs s_L_answers) (defBody s_L_answers) (defScope s_L_answers) .none kV20 dc20 pm20 an20 cd20 ct20), sl20⟩) (c20 : PySem.W.codeIn K cd20 "_law_answers" = true) (k20 : PySem.W.keepIn K (.ref f20) = true)
    (a21 : PySem.W.nsIn K mainGlobals "_law_filling" = some (some (.ref f21))) (l21 : K.lookup f21 = some ⟨oc21, od21, .func (PySem.W.fnOf "_law_filling" "_law_filling" (defArgs s_L_filling) (defBody s_L_filling) (defScope s_L_filling) .none kV21 dc21 pm21 an21 cd21 ct21), sl21⟩) (c21 : PySem.W.codeIn K cd21 "_law_filling" = true) (k21 : PySem.W.keepIn K (.ref f21) = true)
    (a22 : PySem.W.nsIn K mainGlobals "_law_fraction" = some (some (.ref f22))) (l22 : K.lookup f22 = some ⟨oc22, od22, .func (PySem.W.fnOf "_law_fraction" "_law_fraction" (defArgs s_L_fraction) (defBody s_L_fraction) (defScope s_L_fraction) .none kV22 dc22 pm22 an22 cd22 ct22), sl22⟩) (c22 : PySem.W.codeIn K cd22 "_law_fraction" = true) (k22 : PySem.W.keepIn K (.ref f22) = true)
    (a23 : PySem.W.nsIn K mainGlobals "_law_none_above" = some (some (.ref f23))) (l23 : K.lookup f23 = some ⟨oc23, od23, .func (PySem.W.fnOf "_law_none_above" "_law_none_above" (defArgs s_L_none_above) (defBody s_L_none_above) (defScope s_L_none_above) .none kV23 dc23 pm23 an23 cd23 ct23), sl23⟩) (c23 : PySem.W.codeIn K cd23 "_law_none_above" = true) (k23 : PySem.W.keepIn K (.ref f23) = true)
    (a24 : PySem.W.nsIn K mainGlobals "law" = some (some (.ref f24))) (l24 : K.lookup f24 = some ⟨oc24, od24, .func (PySem.W.fnOf "law" "law" (defArgs s_law) (defBody s_law) (defScope s_law) .none kV24 dc24 pm24 an24 cd24 ct24), sl24⟩) (c24 : PySem.W.codeIn K cd24 "law" = true) (k24 : PySem.W.keepIn K (.ref f24) = true)
    (b_WORDS : PySem.W.nsIn K mainGlobals "WORDS" = some (some (.ref k_WORDS))) (bt_WORDS : tupInS K k_WORDS [(.str "yes"), (.str "no"), (.str "open")] = true)
    (b0 : PySem.W.nsIn K mainGlobals "MOST_ANSWERS" = some (some u0))
    (b1 : PySem.W.nsIn K mainGlobals "MOST_WEIGHT" = some (some u1))
    (b2 : PySem.W.nsIn K mainGlobals "ANSWER_BOUND" = some (some u2))
    (ca_SpeakError : PySem.W.nsIn K mainGlobals "SpeakError" = some (some (.ref c_SpeakError))) (cb_SpeakError : PySem.W.keepIn K (.ref c_SpeakError) = true) (cc_SpeakError : xcIn K c_SpeakError = true)
    (cx_SpeakError : xIn K c_SpeakError none = true)
    (ca_NoAnswers : PySem.W.nsIn K mainGlobals "NoAnswers" = some (some (.ref c_NoAnswers))) (cb_NoAnswers : PySem.W.keepIn K (.ref c_NoAnswers) = true) (cc_NoAnswers : xcIn K c_NoAnswers = true)
    (cx_NoAnswers : xIn K c_NoAnswers none = true)
    (lca_least_filling : cd13 = .ref lc_least_filling) (lct_least_filling : K.lookup lc_least_filling = some ⟨lo_least_filling, lod_least_filling, .fields lvs_least_filling, lsl_least_filling⟩) (lcq_least_filling : lvs_least_filling[11]? = some (.ref lp_least_filling)) (lch_least_filling : PySem.W.codeHdIn K lc_least_filling lp_least_filling = true)
    (ltnd : ([lp_least_filling] : List Addr).Nodup)
    (z0 : PySem.W.nsIn K mainGlobals "abs" = some none)
    (z1 : PySem.W.nsIn K mainGlobals "all" = some none)
    (z2 : PySem.W.nsIn K mainGlobals "bool" = some none)
    (z3 : PySem.W.nsIn K mainGlobals "enumerate" = some none)
    (z4 : PySem.W.nsIn K mainGlobals "int" = some none)
    (z5 : PySem.W.nsIn K mainGlobals "isinstance" = some none)
    (z6 : PySem.W.nsIn K mainGlobals "len" = some none)
    (z7 : PySem.W.nsIn K mainGlobals "list" = some none)
    (z8 : PySem.W.nsIn K mainGlobals "range" = some none)
    (z9 : PySem.W.nsIn K mainGlobals "sorted" = some none)
    (z10 : PySem.W.nsIn K mainGlobals "str" = some none)
    (z11 : PySem.W.nsIn K mainGlobals "sum" = some none)
    (z12 : PySem.W.nsIn K mainGlobals "tuple" = some none)
    (z13 : PySem.W.nsIn K mainGlobals "zip" = some none) (r0 : RelV (.int 24) u0) (r1 : RelV (.int 1000000) u1) (r2 : RelV (.int 1000000000) u2) : ∃ a : Ad, Txt K mg a ∧ (tabs a).map (·.1) = [lp_least_filling] := by
  refine ⟨{ f_greatest_divisor := f0, d_greatest_divisor := PySem.W.fnOf "greatest_divisor" "greatest_divisor" (defArgs s_greatest_divisor) (defBody s_greatest_divisor) (defScope s_greatest_divisor) .none kV0 dc0 pm0 an0 cd0 ct0, f_share := f1, d_share := PySem.W.fnOf "share" "share" (defArgs s_share) (defBody s_share) (defScope s_share) .none kV1 dc1 pm1 an1 cd1 ct1, f_is_whole := f2, d_is_whole := PySem.W.fnOf "is_whole" "is_whole" (defArgs s_is_whole) (defBody s_is_whole) (defScope s_is_whole) .none kV2 dc2 pm2 an2 cd2 ct2, f_is_list_of := f3, d_is_list_of := PySem.W.fnOf "is_list_of" "is_list_of" (defArgs s_is_list_of) (defBody s_is_list_of) (defScope s_is_list_of) .none kV3 dc3 pm3 an3 cd3 ct3, f_is_bounded := f4, d_is_bounded := PySem.W.fnOf "is_bounded" "is_bounded" (defArgs s_is_bounded) (defBody s_is_bounded) (defScope s_is_bounded) .none kV4 dc4 pm4 an4 cd4 ct4, f_is_answer := f5, d_is_answer := PySem.W.fnOf "is_answer" "is_answer" (defArgs s_is_answer) (defBody s_is_answer) (defScope s_is_answer) .none kV5 dc5 pm5 an5 cd5 ct5, f_is_worded_answer := f6, d_is_worded_answer := PySem.W.fnOf "is_worded_answer" "is_worded_answer" (defArgs s_is_worded_answer) (defBody s_is_worded_answer) (defScope s_is_worded_answer) .none kV6 dc6 pm6 an6 cd6 ct6, f_is_word := f7, d_is_word := PySem.W.fnOf "is_word" "is_word" (defArgs s_is_word) (defBody s_is_word) (defScope s_is_word) .none kV7 dc7 pm7 an7 cd7 ct7, f_need_answers := f8, d_need_answers := PySem.W.fnOf "need_answers" "need_answers" (defArgs s_need_answers) (defBody s_need_answers) (defScope s_need_answers) .none kV8 dc8 pm8 an8 cd8 ct8, f_total_by := f9, d_total_by := PySem.W.fnOf "total_by" "total_by" (defArgs s_total_by) (defBody s_total_by) (defScope s_total_by) .none kV9 dc9 pm9 an9 cd9 ct9, f_weight_by := f10, d_weight_by := PySem.W.fnOf "weight_by" "weight_by" (defArgs s_weight_by) (defBody s_weight_by) (defScope s_weight_by) .none kV10 dc10 pm10 an10 cd10 ct10, f_mean_stretch := f11, d_mean_stretch := PySem.W.fnOf "mean_stretch" "mean_stretch" (defArgs s_mean_stretch) (defBody s_mean_stretch) (defScope s_mean_stretch) .none kV11 dc11 pm11 an11 cd11 ct11, f_mean_by := f12, d_mean_by := PySem.W.fnOf "mean_by" "mean_by" (defArgs s_mean_by) (defBody s_mean_by) (defScope s_mean_by) .none kV12 dc12 pm12 an12 cd12 ct12, f_least_filling := f13, d_least_filling := PySem.W.fnOf "least_filling" "least_filling" (defArgs s_least_filling) (defBody s_least_filling) (defScope s_least_filling) .none kV13 dc13 pm13 an13 cd13 ct13, f_counts_none := f14, d_counts_none := PySem.W.fnOf "counts_none" "counts_none" (defArgs s_counts_none) (defBody s_counts_none) (defScope s_counts_none) .none kV14 dc14 pm14 an14 cd14 ct14, f_L_cell := f15, d_L_cell := PySem.W.fnOf "_law_cell" "_law_cell" (defArgs s_L_cell) (defBody s_L_cell) (defScope s_L_cell) .none kV15 dc15 pm15 an15 cd15 ct15, f_L_mix := f16, d_L_mix := PySem.W.fnOf "_law_mix" "_law_mix" (defArgs s_L_mix) (defBody s_L_mix) (defScope s_L_mix) .none kV16 dc16 pm16 an16 cd16 ct16, f_L_row := f17, d_L_row := PySem.W.fnOf "_law_row" "_law_row" (defArgs s_L_row) (defBody s_L_row) (defScope s_L_row) .none kV17 dc17 pm17 an17 cd17 ct17, f_L_whole := f18, d_L_whole := PySem.W.fnOf "_law_whole" "_law_whole" (defArgs s_L_whole) (defBody s_L_whole) (defScope s_L_whole) .none kV18 dc18 pm18 an18 cd18 ct18, f_L_low := f19, d_L_low := PySem.W.fnOf "_law_low" "_law_low" (defArgs s_L_low) (defBody s_L_low) (defScope s_L_low) .none kV19 dc19 pm19 an19 cd19 ct19, f_L_answers := f20, d_L_answers := PySem.W.fnOf "_law_answers" "_law_answers" (defArgs s_L_answers) (defBody s_L_answers) (defScope s_L_answers) .none kV20 dc20 pm20 an20 cd20 ct20, f_L_filling := f21, d_L_filling := PySem.W.fnOf "_law_filling" "_law_filling" (defArgs s_L_filling) (defBody s_L_filling) (defScope s_L_filling) .none kV21 dc21 pm21 an21 cd21 ct21, f_L_fraction := f22, d_L_fraction := PySem.W.fnOf "_law_fraction" "_law_fraction" (defArgs s_L_fraction) (defBody s_L_fraction) (defScope s_L_fraction) .none kV22 dc22 pm22 an22 cd22 ct22, f_L_none_above := f23, d_L_none_above := PySem.W.fnOf "_law_none_above" "_law_none_above" (defArgs s_L_none_above) (defBody s_L_none_above) (defScope s_L_none_above) .none kV23 dc23 pm23 an23 cd23 ct23, f_law := f24, d_law := PySem.W.fnOf "law" "law" (defArgs s_law) (defBody s_law) (defScope s_law) .none kV24 dc24 pm24 an24 cd24 ct24, c_SpeakError := c_SpeakError, c_NoAnswers := c_NoAnswers, k_WORDS := k_WORDS, lc_least_filling := lc_least_filling, lp_least_filling := lp_least_filling }, ?_, rfl⟩
  exact {
    lcd_least_filling := lca_least_filling
    lch_least_filling := lch_least_filling
    tnd := ltnd
    F_greatest_divisor := fun_mk (st := s_greatest_divisor) l0 c0 k0
    B_greatest_divisor := (fun_mk (st := s_greatest_divisor) l0 c0 k0).binds (ps := ["one", "other"]) fun _ _ _ _ _ _ us hl => match us, hl with | [_, _], _ => rfl
    m_greatest_divisor := PySem.W.mg_of X G a0
    F_share := fun_mk (st := s_share) l1 c1 k1
    B_share := (fun_mk (st := s_share) l1 c1 k1).binds (ps := ["top", "bottom"]) fun _ _ _ _ _ _ us hl => match us, hl with | [_, _], _ => rfl
    m_share := PySem.W.mg_of X G a1
    F_is_whole := fun_mk (st := s_is_whole) l2 c2 k2
    B_is_whole := (fun_mk (st := s_is_whole) l2 c2 k2).binds (ps := ["thing", "low", "high"]) fun _ _ _ _ _ _ us hl => match us, hl with | [_, _, _], _ => rfl
    m_is_whole := PySem.W.mg_of X G a2
    F_is_list_of := fun_mk (st := s_is_list_of) l3 c3 k3
    B_is_list_of := (fun_mk (st := s_is_list_of) l3 c3 k3).binds (ps := ["thing", "most", "is_one"]) fun _ _ _ _ _ _ us hl => match us, hl with | [_, _, _], _ => rfl
    m_is_list_of := PySem.W.mg_of X G a3
    F_is_bounded := fun_mk (st := s_is_bounded) l4 c4 k4
    B_is_bounded := (fun_mk (st := s_is_bounded) l4 c4 k4).binds (ps := ["weight", "low", "high"]) fun _ _ _ _ _ _ us hl => match us, hl with | [_, _, _], _ => rfl
    m_is_bounded := PySem.W.mg_of X G a4
    F_is_answer := fun_mk (st := s_is_answer) l5 c5 k5
    B_is_answer := (fun_mk (st := s_is_answer) l5 c5 k5).binds (ps := ["thing"]) fun _ _ _ _ _ _ us hl => match us, hl with | [_], _ => rfl
    m_is_answer := PySem.W.mg_of X G a5
    F_is_worded_answer := fun_mk (st := s_is_worded_answer) l6 c6 k6
    B_is_worded_answer := (fun_mk (st := s_is_worded_answer) l6 c6 k6).binds (ps := ["thing"]) fun _ _ _ _ _ _ us hl => match us, hl with | [_], _ => rfl
    m_is_worded_answer := PySem.W.mg_of X G a6
    F_is_word := fun_mk (st := s_is_word) l7 c7 k7
    B_is_word := (fun_mk (st := s_is_word) l7 c7 k7).binds (ps := ["thing"]) fun _ _ _ _ _ _ us hl => match us, hl with | [_], _ => rfl
    m_is_word := PySem.W.mg_of X G a7
    F_need_answers := fun_mk (st := s_need_answers) l8 c8 k8
    B_need_answers := (fun_mk (st := s_need_answers) l8 c8 k8).binds (ps := ["answers", "is_one"]) fun _ _ _ _ _ _ us hl => match us, hl with | [_, _], _ => rfl
    m_need_answers := PySem.W.mg_of X G a8
    F_total_by := fun_mk (st := s_total_by) l9 c9 k9
    B_total_by := (fun_mk (st := s_total_by) l9 c9 k9).binds (ps := ["answers", "filling"]) fun _ _ _ _ _ _ us hl => match us, hl with | [_, _], _ => rfl
    m_total_by := PySem.W.mg_of X G a9
    F_weight_by := fun_mk (st := s_weight_by) l10 c10 k10
    B_weight_by := (fun_mk (st := s_weight_by) l10 c10 k10).binds (ps := ["answers", "filling"]) fun _ _ _ _ _ _ us hl => match us, hl with | [_, _], _ => rfl
    m_weight_by := PySem.W.mg_of X G a10
    F_mean_stretch := fun_mk (st := s_mean_stretch) l11 c11 k11
    B_mean_stretch := (fun_mk (st := s_mean_stretch) l11 c11 k11).binds (ps := ["answers"]) fun _ _ _ _ _ _ us hl => match us, hl with | [_], _ => rfl
    m_mean_stretch := PySem.W.mg_of X G a11
    F_mean_by := fun_mk (st := s_mean_by) l12 c12 k12
    B_mean_by := (fun_mk (st := s_mean_by) l12 c12 k12).binds (ps := ["answers", "filling"]) fun _ _ _ _ _ _ us hl => match us, hl with | [_, _], _ => rfl
    m_mean_by := PySem.W.mg_of X G a12
    F_least_filling := fun_mk (st := s_least_filling) l13 c13 k13
    B_least_filling := (fun_mk (st := s_least_filling) l13 c13 k13).binds (ps := ["answers"]) fun _ _ _ _ _ _ us hl => match us, hl with | [_], _ => rfl
    m_least_filling := PySem.W.mg_of X G a13
    F_counts_none := fun_mk (st := s_counts_none) l14 c14 k14
    B_counts_none := (fun_mk (st := s_counts_none) l14 c14 k14).binds (ps := ["filling"]) fun _ _ _ _ _ _ us hl => match us, hl with | [_], _ => rfl
    m_counts_none := PySem.W.mg_of X G a14
    F_L_cell := fun_mk (st := s_L_cell) l15 c15 k15
    B_L_cell := (fun_mk (st := s_L_cell) l15 c15 k15).binds (ps := ["_law_script", "_law_k"]) fun _ _ _ _ _ _ us hl => match us, hl with | [_, _], _ => rfl
    m_L_cell := PySem.W.mg_of X G a15
    F_L_mix := fun_mk (st := s_L_mix) l16 c16 k16
    B_L_mix := (fun_mk (st := s_L_mix) l16 c16 k16).binds (ps := ["_law_cell_here", "_law_k"]) fun _ _ _ _ _ _ us hl => match us, hl with | [_, _], _ => rfl
    m_L_mix := PySem.W.mg_of X G a16
    F_L_row := fun_mk (st := s_L_row) l17 c17 k17
    B_L_row := (fun_mk (st := s_L_row) l17 c17 k17).binds (ps := ["_law_cell_here", "_law_bit", "_law_many", "_law_most"]) fun _ _ _ _ _ _ us hl => match us, hl with | [_, _, _, _], _ => rfl
    m_L_row := PySem.W.mg_of X G a17
    F_L_whole := fun_mk (st := s_L_whole) l18 c18 k18
    B_L_whole := (fun_mk (st := s_L_whole) l18 c18 k18).binds (ps := ["_law_found"]) fun _ _ _ _ _ _ us hl => match us, hl with | [_], _ => rfl
    m_L_whole := PySem.W.mg_of X G a18
    F_L_low := fun_mk (st := s_L_low) l19 c19 k19
    B_L_low := (fun_mk (st := s_L_low) l19 c19 k19).binds (ps := ["_law_top", "_law_bottom"]) fun _ _ _ _ _ _ us hl => match us, hl with | [_, _], _ => rfl
    m_L_low := PySem.W.mg_of X G a19
    F_L_answers := fun_mk (st := s_L_answers) l20 c20 k20
    B_L_answers := (fun_mk (st := s_L_answers) l20 c20 k20).binds (ps := ["_law_script"]) fun _ _ _ _ _ _ us hl => match us, hl with | [_], _ => rfl
    m_L_answers := PySem.W.mg_of X G a20
    F_L_filling := fun_mk (st := s_L_filling) l21 c21 k21
    B_L_filling := (fun_mk (st := s_L_filling) l21 c21 k21).binds (ps := ["_law_some", "_law_answers_here", "_law_due"]) fun _ _ _ _ _ _ us hl => match us, hl with | [_, _, _], _ => rfl
    m_L_filling := PySem.W.mg_of X G a21
    F_L_fraction := fun_mk (st := s_L_fraction) l22 c22 k22
    B_L_fraction := (fun_mk (st := s_L_fraction) l22 c22 k22).binds (ps := ["_law_found"]) fun _ _ _ _ _ _ us hl => match us, hl with | [_], _ => rfl
    m_L_fraction := PySem.W.mg_of X G a22
    F_L_none_above := fun_mk (st := s_L_none_above) l23 c23 k23
    B_L_none_above := (fun_mk (st := s_L_none_above) l23 c23 k23).binds (ps := ["_law_answers_here", "_law_mean", "_law_place", "_law_sign"]) fun _ _ _ _ _ _ us hl => match us, hl with | [_, _, _, _], _ => rfl
    m_L_none_above := PySem.W.mg_of X G a23
    F_law := fun_mk (st := s_law) l24 c24 k24
    B_law := (fun_mk (st := s_law) l24 c24 k24).binds (ps := ["_law_script"]) fun _ _ _ _ _ _ us hl => match us, hl with | [_], _ => rfl
    m_law := PySem.W.mg_of X G a24
    g_WORDS := ⟨_, PySem.W.mg_of X G b_WORDS, rfl⟩
    t_WORDS := bt_WORDS
    g_MOST_ANSWERS := ⟨u0, PySem.W.mg_of X G b0, r0⟩
    g_MOST_WEIGHT := ⟨u1, PySem.W.mg_of X G b1, r1⟩
    g_ANSWER_BOUND := ⟨u2, PySem.W.mg_of X G b2, r2⟩
    mc_SpeakError := PySem.W.mg_of X G ca_SpeakError
    g_SpeakError := ⟨_, PySem.W.mg_of X G ca_SpeakError, rfl⟩
    kc_SpeakError := cb_SpeakError
    xc_SpeakError := xc_of cc_SpeakError
    xh_SpeakError := xh_of cc_SpeakError
    xi_SpeakError := cx_SpeakError
    mc_NoAnswers := PySem.W.mg_of X G ca_NoAnswers
    g_NoAnswers := ⟨_, PySem.W.mg_of X G ca_NoAnswers, rfl⟩
    kc_NoAnswers := cb_NoAnswers
    xc_NoAnswers := xc_of cc_NoAnswers
    xh_NoAnswers := xh_of cc_NoAnswers
    xi_NoAnswers := cx_NoAnswers
    z_abs := PySem.W.mg_none_of X G z0
    z_all := PySem.W.mg_none_of X G z1
    z_bool := PySem.W.mg_none_of X G z2
    z_enumerate := PySem.W.mg_none_of X G z3
    z_int := PySem.W.mg_none_of X G z4
    z_isinstance := PySem.W.mg_none_of X G z5
    z_len := PySem.W.mg_none_of X G z6
    z_list := PySem.W.mg_none_of X G z7
    z_range := PySem.W.mg_none_of X G z8
    z_sorted := PySem.W.mg_none_of X G z9
    z_str := PySem.W.mg_none_of X G z10
    z_sum := PySem.W.mg_none_of X G z11
    z_tuple := PySem.W.mg_none_of X G z12
    z_zip := PySem.W.mg_none_of X G z13
    bl := fun s u => .of_eq rfl }
end My
open PySem PySem.W PyProof.Rows
set_option maxRecDepth 100000 in
set_option maxHeartbeats 0 in
theorem PySem.Challenge.cw_fewspeak_k79_whole_stretches_of_means_holds : PySem.Challenge.rw_fewspeak_k79_whole_stretches_of_means.Holds := by
  w_on; o_law; k_head; (case hw => w_witness2)
  k_fill
  refine L2.walk_ofT (l := PySem.Challenge.rw_fewspeak_k79_whole_stretches_of_means) (n := 63) (k := My.lawK) (x := "_law_script") (CX := L2.CX0) (sp := My.spLaw) rfl (by decide) rfl ⟨rfl, by decide, by decide⟩ (fun w h Y => ⟨PySem.W.km_in_of Y, PySem.W.km_tabs_of Y⟩) ?F ?S ?C
  case F =>
    intro ts' hts w mg fa h KX G hmg
    have T : ∃ a, My.Txt (L2.KOf KX) mg a ∧ (My.tabs a).map (·.1) = ts' := by
      rw [hts]
      dsimp only [L2.KOf]
      refine' My.txt_mk KX G ?a0 ?l0 ?c0 ?k0 ?a1 ?l1 ?c1 ?k1 ?a2 ?l2 ?c2 ?k2 ?a3 ?l3 ?c3 ?k3 ?a4 ?l4 ?c4 ?k4 ?a5 ?l5 ?c5 ?k5 ?a6 ?l6 ?c6 ?k6 ?a7 ?l7 ?c7 ?k7 ?a8 ?l8 ?c8 ?k8 ?a9 ?l9 ?c9 ?k9 ?a10 ?l10 ?c10 ?k10 ?a11 ?l11 ?c11 ?k11 ?a12 ?l12 ?c12 ?k12 ?a13 ?l13 ?c13 ?k13 ?a14 ?l14 ?c14 ?k14 ?a15 ?l15 ?c15 ?k15 ?a16 ?l16 ?c16 ?k16 ?a17 ?l17 ?c17 ?k17 ?a18 ?l18 ?c18 ?k18 ?a19 ?l19 ?c19 ?k19 ?a20 ?l20 ?c20 ?k20 ?a21 ?l21 ?c21 ?k21 ?a22 ?l22 ?c22 ?k22 ?a23 ?l23 ?c23 ?k23 ?a24 ?l24 ?c24 ?k24 ?b_WORDS ?bt_WORDS ?b0 ?b1 ?b2 ?ca_SpeakError ?cb_SpeakError ?cc_SpeakError ?cx_SpeakError ?ca_NoAnswers ?cb_NoAnswers ?cc_NoAnswers ?cx_NoAnswers ?lca_least_filling ?lct_least_filling ?lcq_least_filling ?lch_least_filling ?ltnd ?z0 ?z1 ?z2 ?z3 ?z4 ?z5 ?z6 ?z7 ?z8 ?z9 ?z10 ?z11 ?z12 ?z13 ?r0 ?r1 ?r2
      (case a0 => k_is)
      (case l0 => k_is)
      (case c0 => k_is)
      (case k0 => k_is)
      (case a1 => k_is)
      (case l1 => k_is)
      (case c1 => k_is)
      (case k1 => k_is)
      (case a2 => k_is)
      (case l2 => k_is)
      (case c2 => k_is)
      (case k2 => k_is)
      (case a3 => k_is)
      (case l3 => k_is)
      (case c3 => k_is)
      (case k3 => k_is)
      (case a4 => k_is)
      (case l4 => k_is)
      (case c4 => k_is)
      (case k4 => k_is)
      (case a5 => k_is)
      (case l5 => k_is)
      (case c5 => k_is)
      (case k5 => k_is)
      (case a6 => k_is)
      (case l6 => k_is)
      (case c6 => k_is)
      (case k6 => k_is)
      (case a7 => k_is)
      (case l7 => k_is)
      (case c7 => k_is)
      (case k7 => k_is)
      (case a8 => k_is)
      (case l8 => k_is)
      (case c8 => k_is)
      (case k8 => k_is)
      (case a9 => k_is)
      (case l9 => k_is)
      (case c9 => k_is)
      (case k9 => k_is)
      (case a10 => k_is)
      (case l10 => k_is)
      (case c10 => k_is)
      (case k10 => k_is)
      (case a11 => k_is)
      (case l11 => k_is)
      (case c11 => k_is)
      (case k11 => k_is)
      (case a12 => k_is)
      (case l12 => k_is)
      (case c12 => k_is)
      (case k12 => k_is)
      (case a13 => k_is)
      (case l13 => k_is)
      (case c13 => k_is)
      (case k13 => k_is)
      (case a14 => k_is)
      (case l14 => k_is)
      (case c14 => k_is)
      (case k14 => k_is)
      (case a15 => k_is)
      (case l15 => k_is)
      (case c15 => k_is)
      (case k15 => k_is)
      (case a16 => k_is)
      (case l16 => k_is)
      (case c16 => k_is)
      (case k16 => k_is)
      (case a17 => k_is)
      (case l17 => k_is)
      (case c17 => k_is)
      (case k17 => k_is)
      (case a18 => k_is)
      (case l18 => k_is)
      (case c18 => k_is)
      (case k18 => k_is)
      (case a19 => k_is)
      (case l19 => k_is)
      (case c19 => k_is)
      (case k19 => k_is)
      (case a20 => k_is)
      (case l20 => k_is)
      (case c20 => k_is)
      (case k20 => k_is)
      (case a21 => k_is)
      (case l21 => k_is)
      (case c21 => k_is)
      (case k21 => k_is)
      (case a22 => k_is)
      (case l22 => k_is)
      (case c22 => k_is)
      (case k22 => k_is)
      (case a23 => k_is)
      (case l23 => k_is)
      (case c23 => k_is)
      (case k23 => k_is)
      (case a24 => k_is)
      (case l24 => k_is)
      (case c24 => k_is)
      (case k24 => k_is)
      (case b_WORDS => k_is)
      (case bt_WORDS => kernel_rfl)
      (case b0 => k_is)
      (case b1 => k_is)
      (case b2 => k_is)
      (case ca_SpeakError => k_is)
      (case cb_SpeakError => k_is)
      (case cc_SpeakError => kernel_rfl)
      (case cx_SpeakError => kernel_rfl)
      (case ca_NoAnswers => k_is)
      (case cb_NoAnswers => k_is)
      (case cc_NoAnswers => kernel_rfl)
      (case cx_NoAnswers => kernel_rfl)
      (case lca_least_filling => exact rfl)
      (case lct_least_filling => k_is)
      (case lcq_least_filling => exact rfl)
      (case lch_least_filling => kernel_rfl)
      (case ltnd => decide)
      (case z0 => k_is)
      (case z1 => k_is)
      (case z2 => k_is)
      (case z3 => k_is)
      (case z4 => k_is)
      (case z5 => k_is)
      (case z6 => k_is)
      (case z7 => k_is)
      (case z8 => k_is)
      (case z9 => k_is)
      (case z10 => k_is)
      (case z11 => k_is)
      (case z12 => k_is)
      (case z13 => k_is)
      (case r0 => first | exact rfl | exact ⟨_, rfl⟩)
      (case r1 => first | exact rfl | exact ⟨_, rfl⟩)
      (case r2 => first | exact rfl | exact ⟨_, rfl⟩)
    obtain ⟨a, T, e1⟩ := T
    have e1 := e1.trans hts
    have e0 := hmg.symm.trans T.m_law
    cases e0
    refine' ⟨a.d_law, ?b, ?t, ?u, fun base kb nb hB => My.ok_law T hB ?v⟩
    case b => exact T.bl
    case t =>
      intro P hP
      have hP := e1.symm ▸ hP
      simp only [My.tabs, List.map_cons, List.map_nil, List.mem_cons, List.not_mem_nil, or_false] at hP
      rcases hP with rfl
      · exact ⟨_, T.lch_least_filling⟩
    case u =>
      intro P hP
      simp only [List.mem_cons, List.not_mem_nil, or_false] at hP
      rcases hP with rfl <;> kernel_rfl
    case v =>
      intro q hq
      rw [← e1]
      exact List.mem_map_of_mem hq
  case S => exact fun K H a ns hl hO hS => My.law_start hl hO hS
  case C => exact fun H s e s' z => z

