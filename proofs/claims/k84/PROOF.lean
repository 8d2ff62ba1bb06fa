import PyProof.Rows.All
import Wide.All
import OpenK.AllK
import Wide.FinOn
import Lean
import PyProof.EqAt
import PyProof.EqKinds
import PyProof.TupleCall
import PySem.Challenge.RW_fewspeak_k84_whole_more_bad_seldom_by
set_option Elab.async false
set_option linter.all false
set_option maxRecDepth 100000
/-! THE HAND LAYER, for ints, bools, texts, own classes, LISTS and tuples (index, slices, in, append, pop ..), calls, loops. Paste it whole ahead of your own text; what your proof does not reach may be deleted. -/
namespace L2
open PySem PySem.Spec PyProof.Rows

/-- a key: an int or a str -/
abbrev Key := Sum Int Str
def keyIs : Key → Value → Bool
  | .inl k, v => Value.isInt k v
  | .inr x, v => Value.isStrOf x v
def keyH (w : World) : Key → Int
  | .inl k => hashInt k
  | .inr x => hashStr w x
theorem keyIs_shape : ∀ {k : Key} {v : Value}, keyIs k v = true → (∃ i t, k = Sum.inl i ∧ v = Value.int i t) ∨ (∃ x t, k = Sum.inr x ∧ v = Value.str x t)
  | .inl i, v, h => by
    obtain ⟨t, e⟩ := Value.isInt_shape (k := i) (v := v) h
    exact .inl ⟨i, t, rfl, e⟩
  | .inr x, v, h => by
    obtain ⟨t, e⟩ := Value.isStrOf_shape (x := x) (v := v) h
    exact .inr ⟨x, t, rfl, e⟩
theorem keyIs_int (i : Int) (t : Tok) : keyIs (.inl i) (.int i t) = true := by simp [keyIs, Value.isInt]
theorem keyIs_str (x : Str) (t : Tok) : keyIs (.inr x) (.str x t) = true := by simp [keyIs, Value.isStrOf]
theorem key_ll (a b : Int) : decide ((Sum.inl a : Key) = Sum.inl b) = (a == b) := by
  by_cases e : a = b
  · subst e; simp
  · have h : ¬ (Sum.inl a : Key) = Sum.inl b := fun q => e (Sum.inl.inj q)
    rw [decide_eq_false h]
    exact (beq_eq_false_iff_ne.mpr e).symm
theorem key_rr (a b : Str) : decide ((Sum.inr a : Key) = Sum.inr b) = decide (a = b) := by
  by_cases e : a = b
  · subst e; simp
  · have h : ¬ (Sum.inr a : Key) = Sum.inr b := fun q => e (Sum.inr.inj q)
    rw [decide_eq_false h, decide_eq_false e]
theorem key_lr (a : Int) (b : Str) : decide ((Sum.inl a : Key) = Sum.inr b) = false := decide_eq_false (fun q => nomatch q)
theorem key_rl (a : Str) (b : Int) : decide ((Sum.inr a : Key) = Sum.inl b) = false := decide_eq_false (fun q => nomatch q)

def mixKind (prog : Program) (w : World) : PySem.KeyKind prog w Key where
  is := keyIs
  hash := keyH w
  inj := fun v a b ha hb => by
    rcases keyIs_shape ha with ⟨i, t, rfl, rfl⟩ | ⟨x, t, rfl, rfl⟩
    · rcases keyIs_shape hb with ⟨j, u, rfl, e⟩ | ⟨y, u, rfl, e⟩
      · injection e with e1 _; rw [e1]
      · exact nomatch e
    · rcases keyIs_shape hb with ⟨j, u, rfl, e⟩ | ⟨y, u, rfl, e⟩
      · exact nomatch e
      · injection e with e1 _; rw [e1]
  byValue := fun k v h => by
    rcases keyIs_shape h with ⟨i, t, rfl, rfl⟩ | ⟨x, t, rfl, rfl⟩ <;> rfl
  pyHash := fun hv h => by
    rcases keyIs_shape hv with ⟨i, t, rfl, rfl⟩ | ⟨x, t, rfl, rfl⟩
    · exact wpAny_pyHash_int h
    · exact wpAny_pyHash_str h
  eqBool := fun hu hv h => by
    rcases keyIs_shape hu with ⟨i, t, rfl, rfl⟩ | ⟨x, t, rfl, rfl⟩
    · rcases keyIs_shape hv with ⟨j, u, rfl, rfl⟩ | ⟨y, u, rfl, rfl⟩
      · rw [key_ll] at h; exact wpAny_eqBool_int h
      · rw [key_lr] at h; exact SeqAt.EqAt.int_str i t y u _ _ _ _ h
    · rcases keyIs_shape hv with ⟨j, u, rfl, rfl⟩ | ⟨y, u, rfl, rfl⟩
      · rw [key_rl] at h; exact SeqAt.EqAt.str_int x t j u _ _ _ _ h
      · rw [key_rr] at h; exact wpAny_eqBool_str h
  «strs» := fun k x t v h => by
    rcases keyIs_shape h with ⟨i, u, rfl, e⟩ | ⟨y, u, rfl, e⟩
    · exact nomatch e
    · injection e with e1 _
      subst e1
      cases v <;> rfl

theorem mixKind_int (prog : Program) (w : World) (i : Int) (t : Tok) : (mixKind prog w).is (.inl i) (.int i t) = true := keyIs_int i t
theorem mixKind_str (prog : Program) (w : World) (x : Str) (t : Tok) : (mixKind prog w).is (.inr x) (.str x t) = true := keyIs_str x t
end L2

namespace L2
open PySem PySem.Spec PyProof.Rows

/-- a value, without the heap -/
inductive V where
  | non | bl (b : Bool) | int (i : Int) | str (x : Str) | byt (b : Array UInt8) | flt (b : UInt64) | ref (a : Addr) | ty (n : String)
  deriving DecidableEq

def RelV : V → Value → Prop
  | .non, u => u = Value.none
  | .bl b, u => u = Value.bool b
  | .int i, u => ∃ t, u = Value.int i t
  | .str x, u => ∃ t, u = Value.str x t
  | .byt b, u => ∃ t, u = Value.bytes b t
  | .flt b, u => ∃ t, u = Value.float b t
  | .ref a, u => u = Value.ref a
  | .ty n, u => u = Value.type n

abbrev Vals : List V → List Value → Prop := Paired RelV
theorem Vals.length {xs : List V} {us : List Value} (r : Vals xs us) : xs.length = us.length := Paired.length r
theorem Vals.get : ∀ {xs : List V} {us : List Value} {i : Nat} {x : V}, Vals xs us → xs[i]? = some x → ∃ u, us[i]? = some u ∧ RelV x u
  | _, _, _, _, .nil, e => by simp at e
  | _, _, 0, _, .cons r _, e => by simp at e; subst e; exact ⟨_, rfl, r⟩
  | _, _, i + 1, x, .cons _ t, e => by
    obtain ⟨u, h1, h2⟩ := Vals.get (i := i) (x := x) t (by simpa using e)
    exact ⟨u, by simpa using h1, h2⟩
theorem Vals.set {x : V} {u : Value} (r : RelV x u) : ∀ {xs : List V} {us : List Value} (i : Nat), Vals xs us → Vals (xs.set i x) (us.set i u)
  | _, _, _, .nil => .nil
  | _, _, 0, .cons _ t => .cons r t
  | _, _, i + 1, .cons q t => .cons q (Vals.set r i t)
theorem Vals.append : ∀ {xs ys : List V} {us ws : List Value}, Vals xs us → Vals ys ws → Vals (xs ++ ys) (us ++ ws)
  | _, _, _, _, .nil, s => s
  | _, _, _, _, .cons r t, s => .cons r (Vals.append t s)
theorem Vals.take : ∀ {xs : List V} {us : List Value} (n : Nat), Vals xs us → Vals (xs.take n) (us.take n)
  | _, _, 0, _ => .nil
  | _, _, _ + 1, .nil => .nil
  | _, _, n + 1, .cons r t => .cons r (Vals.take n t)
theorem Vals.drop : ∀ {xs : List V} {us : List Value} (n : Nat), Vals xs us → Vals (xs.drop n) (us.drop n)
  | _, _, 0, r => r
  | _, _, _ + 1, .nil => .nil
  | _, _, n + 1, .cons _ t => Vals.drop n t
theorem Vals.none_of : ∀ {xs : List V} {us : List Value} {i : Nat}, Vals xs us → xs[i]? = none → us[i]? = none := fun {xs us i} r e => by
  have h1 := r.length
  have h2 : xs.length ≤ i := List.getElem?_eq_none_iff.mp e
  exact List.getElem?_eq_none_iff.mpr (by omega)

def RelO : Option V → Option Value → Prop
  | some v, some u => RelV v u
  | none, none => True
  | _, _ => False
def KV {κ : Type} : List (κ × V) → List (κ × Value) → Prop := Paired fun (p : κ × V) (q : κ × Value) => p.1 = q.1 ∧ RelV p.2 q.2

/-- a key of a dict (00_mix): an int or a text -/
def kV : Key → V
  | .inl i => .int i
  | .inr x => .str x

/-- what stands at a tracked address -/
inductive HO where
  /-- a list -/
  | lst (xs : List V)
  /-- a tuple (never changes) -/
  | tup (xs : List V)
  /-- a dict whose keys are ints and texts; one whose keys are tuples of ints and texts (the empty one is both) -/
  | dK (kvs : List (Key × V)) | dT (kvs : List (List Key × V))
  /-- a set of ints: its members, its size -/
  | set (S : Int → Bool) (n : Nat)
  /-- an instance of the class at C, its dict at dx, its attributes -/
  | ins (C dx : Addr) (fs : List (Str × V))
  /-- the dict of the instance at x -/
  | own (x : Addr)
  /-- the dict of an exception -/
  | xd (fs : List (Str × V))
  /-- a bound method, f of x -/
  | met (f x : Addr)
  /-- a range object lo, lo + 1, .. below hi -/
  | rng (lo hi : Int)
  /-- a thing that is known to the object (the script; a dict while a loop walks it): read, never written while it is so -/
  | frz (o : Obj) (u : HO)
  /-- a code object's table -/
  | tbl (ps : Array Value)
  /-- any other thing, by what is true of its one object (a def of one's own: SetO a S n := HO.ext fun h => ..) -/
  | ext (φ : Heap → Prop)

abbrev Hp := Addr → Option HO
def upd (H : Hp) (a : Addr) (o : HO) : Hp := fun b => if b = a then some o else H b
theorem upd_same {H : Hp} {a : Addr} {o : HO} : upd H a o a = some o := by unfold upd; rw [if_pos rfl]
theorem upd_ne {H : Hp} {a b : Addr} {o : HO} (h : b ≠ a) : upd H a o b = H b := by unfold upd; rw [if_neg h]
/-- two objects of different content stand apart -/
theorem ne_of {H : Hp} {a b : Addr} {o u : HO} (h : H a = some o) (h' : H b = some u) (d : o ≠ u) : a ≠ b := by
  intro e; subst e; rw [h] at h'; exact d (Option.some.inj h')
theorem ne_of_none {H : Hp} {a b : Addr} {o : HO} (h : H a = some o) (h' : H b = none) : a ≠ b := by
  intro e; subst e; rw [h] at h'; cases h'

section
variable (P : Program) (w : World)
def ObjOk (H : Hp) (h : Heap) (a : Addr) : HO → Prop
  | .lst xs => xs.length ≤ sizeLine ∧ ∃ (its : List Value) (n : Nat), Vals xs its ∧ h.get? a = some { cls := .type "list", data := .seq its.toArray n }
  | .tup xs => xs.length ≤ sizeLine ∧ ∃ its : List Value, Vals xs its ∧ IsTup h a its.toArray
  | .dK kvs => kvs.length ≤ sizeLine ∧ (a == sysModules) = false ∧ ∃ vs, KV kvs vs ∧ h.DictOf (mixKind P w) a vs
  | .dT kvs => kvs.length ≤ sizeLine ∧ (a == sysModules) = false ∧ ∃ xs : List (List Key × Addr × Value),
      Paired (fun (p : List Key × V) (q : List Key × Addr × Value) => p.1 = q.1 ∧ H q.2.1 = some (.tup (p.1.map kV)) ∧ RelV p.2 q.2.2) kvs xs ∧
      ∃ o es ep, h.get? a = some o ∧ o.ExactDict ∧ o.data = .dict es ep ∧ es.toList = xs.map (entryOfKey (tupleKind (mixKind P w))) ∧ (xs.map (·.1)).Nodup
  | .set S n => h.SetOf (intKind P w) a S n
  | .ins C dx fs => H dx = some (.own a) ∧ fs.length ≤ 1000 ∧ dx ≠ a ∧ h.get? a = some (PySem.W.instObj C dx) ∧
      ∃ mA, h.Ns1 dx mA ∧ (∀ f, RelO (fs.lookup f) (mA f)) ∧ PySem.Within mA (fs.map (·.1))
  | .own _ => ∃ o, h.get? a = some o
  | .xd fs => ∃ mA, h.Ns1 a mA ∧ ∀ f, RelO (fs.lookup f) (mA f)
  | .rng lo hi => ∃ t u v, h.get? a = some { cls := .type "range", data := .fields #[.int lo t, .int hi u, .int 1 v] }
  | .frz o u => h.get? a = some o ∧ ObjOk H h a u
  | .tbl ps => h.get? a = some { cls := .none, data := .fields ps }
  | .met f x => h.get? a = some (PySem.W.methodObj (.ref f) (.ref x))
  | .ext φ => φ h ∧ (∃ o, h.get? a = some o) ∧ ∀ h1 h2 : Heap, φ h1 → (∀ o, h1.get? a = some o → h2.get? a = some o) → φ h2
/-- the abstract heap is held -/
def HOk (H : Hp) (h : Heap) : Prop := ∀ a o, H a = some o → ObjOk P w H h a o
end

section
variable {P : Program} {w : World} {H H' : Hp} {h h' : Heap} {a : Addr} {o : HO}
theorem ObjOk.lt (x : ObjOk P w H h a o) : a < h.objs.size := by
  cases o with
  | lst xs => obtain ⟨_, _, _, _, e⟩ := x; exact Heap.lt_size e
  | tup xs => obtain ⟨_, _, _, p⟩ := x; exact p.lt
  | dK kvs => obtain ⟨_, _, _, _, o, _, _, e, _⟩ := x; exact Heap.lt_size e
  | dT kvs => obtain ⟨_, _, _, _, o, _, _, e, _⟩ := x; exact Heap.lt_size e
  | set S n => obtain ⟨o, _, _, _, e, _⟩ := x; exact Heap.lt_size e
  | ins C dx fs => obtain ⟨_, _, _, e, _⟩ := x; exact Heap.lt_size e
  | own y => obtain ⟨_, e⟩ := x; exact Heap.lt_size e
  | xd fs => obtain ⟨_, ⟨_, _, _, e, _⟩, _⟩ := x; exact Heap.lt_size e
  | rng lo hi => obtain ⟨_, _, _, e⟩ := x; exact Heap.lt_size e
  | frz ob u => obtain ⟨e, _⟩ := x; exact Heap.lt_size e
  | tbl ps => exact Heap.lt_size (show h.get? a = some _ from x)
  | met f y => exact Heap.lt_size (show h.get? a = some _ from x)
  | ext φ => obtain ⟨_, ⟨_, e⟩, _⟩ := x; exact Heap.lt_size e
theorem Paired.mapP {α β : Type} {F G : α → β → Prop} : ∀ {l₁ : List α} {l₂ : List β}, Paired F l₁ l₂ → (∀ a b, F a b → G a b) → Paired G l₁ l₂
  | _, _, .nil, _ => .nil
  | _, _, .cons r t, f => .cons (f _ _ r) (Paired.mapP t f)
/-- what an object's description leans on: its own object, its own dict, the tuples -/
theorem ObjOk.stay (x : ObjOk P w H h a o) (k : ∀ b u, (b = a ∨ H b = some (.own a)) → h.get? b = some u → h'.get? b = some u)
    (ho : ∀ b, H b = some (.own a) → H' b = some (.own a)) (ht : ∀ b xs, H b = some (.tup xs) → H' b = some (.tup xs)) : ObjOk P w H' h' a o := by
  induction o with
  | lst xs => obtain ⟨z, its, n, r, e⟩ := x; exact ⟨z, its, n, r, k _ _ (.inl rfl) e⟩
  | tup xs => obtain ⟨z, its, r, ob, e, c⟩ := x; exact ⟨z, its, r, ob, k _ _ (.inl rfl) e, c⟩
  | dK kvs => obtain ⟨z, y, vs, r, ob, es, ep, e, c⟩ := x; exact ⟨z, y, vs, r, ob, es, ep, k _ _ (.inl rfl) e, c⟩
  | dT kvs =>
    obtain ⟨z, y, xs, r, ob, es, ep, e, c⟩ := x
    exact ⟨z, y, xs, Paired.mapP r fun p q z => ⟨z.1, ht _ _ z.2.1, z.2.2⟩, ob, es, ep, k _ _ (.inl rfl) e, c⟩
  | set S n => obtain ⟨ob, es, ep, t, e, c⟩ := x; exact ⟨ob, es, ep, t, k _ _ (.inl rfl) e, c⟩
  | ins C dx fs =>
    obtain ⟨d, z, ne, e, mA, ⟨od, es, ep, e2, c⟩, r⟩ := x
    exact ⟨ho _ d, z, ne, k _ _ (.inl rfl) e, mA, ⟨od, es, ep, k _ _ (.inr d) e2, c⟩, r⟩
  | own y => obtain ⟨ob, e⟩ := x; exact ⟨ob, k _ _ (.inl rfl) e⟩
  | xd fs => obtain ⟨mA, ⟨od, es, ep, e, c⟩, r⟩ := x; exact ⟨mA, ⟨od, es, ep, k _ _ (.inl rfl) e, c⟩, r⟩
  | rng lo hi => obtain ⟨t, u, v, e⟩ := x; exact ⟨t, u, v, k _ _ (.inl rfl) e⟩
  | frz ob u ih => obtain ⟨e, q⟩ := x; exact ⟨k _ _ (.inl rfl) e, ih q⟩
  | tbl ps =>
    have e : h.get? a = some { cls := .none, data := .fields ps } := x
    show h'.get? a = some { cls := .none, data := .fields ps }
    exact k a _ (.inl rfl) e
  | met f y =>
    have e : h.get? a = some (PySem.W.methodObj (.ref f) (.ref y)) := x
    show h'.get? a = some (PySem.W.methodObj (.ref f) (.ref y))
    exact k a _ (.inl rfl) e
  | ext φ => obtain ⟨p, ⟨o, e⟩, st⟩ := x; exact ⟨st _ _ p fun o q => k _ _ (.inl rfl) q, ⟨o, k _ _ (.inl rfl) e⟩, st⟩
theorem HOk.lt (x : HOk P w H h) (e : H a = some o) : a < h.objs.size := (x a o e).lt
theorem HOk.fresh (x : HOk P w H h) (e : h.objs.size ≤ a) : H a = none := by
  cases q : H a with
  | none => rfl
  | some u => exact absurd (Nat.lt_of_lt_of_le (x.lt q) e) (Nat.lt_irrefl _)
/-- every object of the heap is kept -/
theorem HOk.kept (x : HOk P w H h) (k : ∀ b u, h.get? b = some u → h'.get? b = some u) : HOk P w H h' := fun a o e =>
  (x a o e).stay (fun b u _ q => k b u q) (fun _ q => q) fun _ _ q => q
/-- a new object is laid and tracked -/
theorem HOk.laid (x : HOk P w H h) (k : ∀ b u, h.get? b = some u → h'.get? b = some u) (hp : h.objs.size ≤ a) (new : ObjOk P w (upd H a o) h' a o) : HOk P w (upd H a o) h' := fun b u e => by
  have hn := x.fresh hp
  by_cases hb : b = a
  · subst hb; rw [upd_same] at e; cases e; exact new
  · rw [upd_ne hb] at e
    exact (x b u e).stay (fun c v _ q => k c v q) (fun c q => by rw [upd_ne (ne_of_none q hn)]; exact q) fun c xs q => by rw [upd_ne (ne_of_none q hn)]; exact q
end

/-- what may be read as u: it is u, or a known u -/
def Rd (H : Hp) (a : Addr) (u : HO) : Prop := H a = some u ∨ ∃ o, H a = some (.frz o u)
theorem Rd.of {H : Hp} {a : Addr} {u : HO} (h : H a = some u) : Rd H a u := .inl h
theorem Rd.ok {P : Program} {w : World} {H : Hp} {h : Heap} {a : Addr} {u : HO} (r : Rd H a u) (x : HOk P w H h) : ObjOk P w H h a u := by
  rcases r with r | ⟨o, r⟩
  · exact x a u r
  · obtain ⟨_, q⟩ := x a _ r
    exact q
/-- what may be written -/
def Mut : Option HO → Prop
  | some (.lst _) => True
  | some (.dK _) => True
  | some (.dT _) => True
  | some (.set _ _) => True
  | some (.ins _ _ _) => True
  | some (.ext _) => True
  | _ => False
section
variable {P : Program} {w : World} {H : Hp} {h h' : Heap} {x e : Addr} {o' : HO}
/-- the object at e is changed: x itself, or the dict of the instance x -/
theorem HOk.write (ok : HOk P w H h) (mu : Mut (H x)) (he : e = x ∨ H e = some (.own x)) (k : ∀ b u, b ≠ e → h.get? b = some u → h'.get? b = some u) (heo : ∃ u, h'.get? e = some u)
    (new : ObjOk P w (upd H x o') h' x o') : HOk P w (upd H x o') h' := fun b u q => by
  have nown : ∀ c y, H c = some (.own y) → c ≠ x := fun c y r z => by subst z; rw [r] at mu; exact mu
  have ntup : ∀ c xs, H c = some (.tup xs) → c ≠ x := fun c xs r z => by subst z; rw [r] at mu; exact mu
  by_cases hb : b = x
  · subst hb; rw [upd_same] at q; cases q; exact new
  · rw [upd_ne hb] at q
    by_cases hbe : b = e
    · have q' : H b = some (.own x) := by
        rcases he with z | z
        · exact absurd (hbe.trans z) hb
        · rw [hbe]; exact z
      rw [q] at q'; cases q'
      obtain ⟨v, hv⟩ := heo
      exact ⟨v, by rw [hbe]; exact hv⟩
    · refine (ok b u q).stay (fun c v hc r => k c v ?_ r) (fun c r => by rw [upd_ne (nown c b r)]; exact r) fun c xs r => by rw [upd_ne (ntup c xs r)]; exact r
      rcases hc with rfl | hc
      · exact hbe
      · rintro rfl
        rcases he with z | z
        · exact nown c b hc z
        · rw [hc] at z; cases z; exact hb rfl
end

/-! ### kept unless tracked; of the frames at fs (the callers') the slots may change (an exception that passes writes there); of the records at ex (iterators) nothing is said -/
structure Un (fs ex : List Addr) (H H' : Hp) (h h' : Heap) : Prop where
  keep : ∀ b o, h.get? b = some o → H b = none → b ∉ fs → b ∉ ex → h'.get? b = some o
  slot : ∀ b o, h.get? b = some o → H b = none → b ∈ fs → b ∉ ex → ∃ sl, h'.get? b = some { o with slots := sl }
  free : ∀ b o, h.get? b = some o → H b = none → b ∉ ex → H' b = none
  there : ∀ b o, h.get? b = some o → b ∉ ex → ∃ o', h'.get? b = some o'
  tups : ∀ b xs, H b = some (.tup xs) → H' b = some (.tup xs)
  frzs : ∀ b o u, H b = some (.frz o u) → H' b = some (.frz o u)
  tbls : ∀ b ps, H b = some (.tbl ps) → ∃ more, H' b = some (.tbl (ps ++ more))
section
variable {fs fs' ex ex' : List Addr} {H H1 H2 : Hp} {h h1 h2 h' : Heap} {a x e : Addr} {o : HO}
theorem Un.any (u : Un fs ex H H1 h h1) {b : Addr} {ob : Obj} (q : h.get? b = some ob) (n : H b = none) (hx : b ∉ ex) : ∃ sl, h1.get? b = some { ob with slots := sl } := by
  by_cases hb : b ∈ fs
  · exact u.slot b ob q n hb hx
  · exact ⟨ob.slots, u.keep b ob q n hb hx⟩
theorem Un.trans (a : Un fs ex H H1 h h1) (b : Un fs ex H1 H2 h1 h2) : Un fs ex H H2 h h2 where
  keep := fun c ob q n hc hx => b.keep c ob (a.keep c ob q n hc hx) (a.free c ob q n hx) hc hx
  slot := fun c ob q n hc hx => by
    obtain ⟨sl, e1⟩ := a.slot c ob q n hc hx
    obtain ⟨sl', e2⟩ := b.slot c _ e1 (a.free c ob q n hx) hc hx
    exact ⟨sl', e2⟩
  free := fun c ob q n hx => by
    obtain ⟨o', e1⟩ := a.there c ob q hx
    exact b.free c o' e1 (a.free c ob q n hx) hx
  there := fun c ob q hx => by
    obtain ⟨o', e1⟩ := a.there c ob q hx
    exact b.there c o' e1 hx
  tups := fun c xs q => b.tups c xs (a.tups c xs q)
  frzs := fun c ob xs q => b.frzs c ob xs (a.frzs c ob xs q)
  tbls := fun c ps q => by
    obtain ⟨m1, e1⟩ := a.tbls c ps q
    obtain ⟨m2, e2⟩ := b.tbls c _ e1
    exact ⟨m1 ++ m2, by rw [e2, Array.append_assoc]⟩
theorem Un.kept (k : ∀ b u, h.get? b = some u → h'.get? b = some u) : Un fs ex H H h h' :=
  ⟨fun b ob q _ _ _ => k b ob q, fun b ob q _ _ _ => ⟨ob.slots, k b ob q⟩, fun _ _ _ n _ => n, fun b ob q _ => ⟨ob, k b ob q⟩, fun _ _ q => q, fun _ _ _ q => q, fun _ ps q => ⟨#[], by rw [q]; simp⟩⟩
theorem Un.refl : Un fs ex H H h h := Un.kept fun _ _ q => q
theorem Un.laid (k : ∀ b u, h.get? b = some u → h'.get? b = some u) (hp : h.objs.size ≤ a) (hn : H a = none) : Un fs ex H (upd H a o) h h' where
  keep := fun b u q _ _ _ => k b u q
  slot := fun b u q _ _ _ => ⟨u.slots, k b u q⟩
  free := fun b u q n _ => by rw [upd_ne (Nat.ne_of_lt (Nat.lt_of_lt_of_le (Heap.lt_size q) hp))]; exact n
  there := fun b u q _ => ⟨u, k b u q⟩
  tups := fun b xs q => by rw [upd_ne (ne_of_none q hn)]; exact q
  frzs := fun b u xs q => by rw [upd_ne (ne_of_none q hn)]; exact q
  tbls := fun b ps q => ⟨#[], by rw [upd_ne (ne_of_none q hn), q]; simp⟩
theorem Un.write (mu : Mut (H x)) (he : e = x ∨ H e = some (.own x)) (k : ∀ b u, b ≠ e → h.get? b = some u → h'.get? b = some u) (heo : ∃ u, h'.get? e = some u) : Un fs ex H (upd H x o) h h' := by
  have hx : ∀ b, H b = none → b ≠ x := fun b n z => by subst z; rw [n] at mu; exact mu
  have hb : ∀ b, H b = none → b ≠ e := fun b n z => by
    subst z
    rcases he with r | r
    · exact hx b n r
    · rw [n] at r; cases r
  have hm : ∀ b u, H b = some u → ¬ Mut (some u) → b ≠ x := fun b u q nm z => by subst z; rw [q] at mu; exact nm mu
  refine ⟨fun b u q n _ _ => k b u (hb b n) q, fun b u q n _ _ => ⟨u.slots, k b u (hb b n) q⟩, fun b u q n _ => by rw [upd_ne (hx b n)]; exact n, fun b u q _ => ?_,
    fun b xs q => by rw [upd_ne (hm b _ q fun z => z)]; exact q, fun b u xs q => by rw [upd_ne (hm b _ q fun z => z)]; exact q, fun b ps q => ⟨#[], by rw [upd_ne (hm b _ q fun z => z), q]; simp⟩⟩
  by_cases hbe : b = e
  · subst hbe; exact heo
  · exact ⟨u, k b u hbe q⟩
theorem Un.mono (u : Un fs ex H H1 h h1) (hs : ∀ b ∈ fs, b ∈ fs') (hx : ∀ b ∈ ex, b ∈ ex') : Un fs' ex' H H1 h h1 :=
  ⟨fun b ob q n hb he => u.keep b ob q n (fun z => hb (hs b z)) fun z => he (hx b z), fun _ _ q n _ he => u.any q n fun z => he (hx _ z), fun b ob q n he => u.free b ob q n fun z => he (hx b z), fun b ob q he => u.there b ob q fun z => he (hx b z), u.tups, u.frzs, u.tbls⟩
end

/-! ### the heap without what is tracked -/
def trk (h : Heap) (H : Hp) : List Addr := (List.range h.objs.size).filter fun a => (H a).isSome
def hidT (h : Heap) (H : Hp) : Heap := PySem.W.hideAll h (trk h H)
theorem hidT_size (h : Heap) (H : Hp) : (hidT h H).objs.size = h.objs.size := PySem.W.hideAll_size _ _
theorem hidT_get {h : Heap} {H : Hp} {b : Addr} {o : Obj} (e : h.get? b = some o) (n : H b = none) : (hidT h H).get? b = some o :=
  PySem.W.hideAll_get _ e fun hm => by
    have q : (H b).isSome = true := (List.mem_filter.mp hm).2
    rw [n] at q; simp at q
theorem of_hidT {h : Heap} {H : Hp} {b : Addr} {o : Obj} (e : (hidT h H).get? b = some o) : h.get? b = some o ∧ H b = none := by
  have e' : h.get? b = some o := PySem.W.of_hideAll (trk h H) e
  refine ⟨e', ?_⟩
  cases q : H b with
  | none => rfl
  | some x =>
    have hm : b ∈ trk h H := List.mem_filter.mpr ⟨List.mem_range.mpr (Heap.lt_size e'), by simp [q]⟩
    have z : (hidT h H).get? b = none := PySem.W.hideAll_none (trk h H) hm
    rw [z] at e; cases e

/-! ### OpenK's ledger, filled with every new object but one -/
def allNews (g h : Heap) (L : Addr) : List (Addr × Obj) := (List.range h.objs.size).filterMap fun a => if a = L ∨ (g.get? a).isSome = true then none else (h.get? a).map fun o => (a, o)
def rest (g h : Heap) (L d : Addr) : List (Addr × Obj) := (allNews g h L).filter fun p => decide (p.1 ≠ d)
end L2

namespace L2
open PySem PySem.Spec PyProof.Rows

/-- the module's facts, over the base: the heap at the law's entry without what is tracked there -/
structure Mod (K : PySem.W.Frag) (mg : Str → Option Value) (base : Heap) : Prop where
  kin : K.In base
  glob : base.Ns mainGlobals mg
  blt : ∃ mb, base.Ns builtinsNs mb ∧ ∀ x : Str, x ≠ "__name__" → mb x = bootBuiltins x
  nolimit : base.NoLimit

/-- the context: a def's body (or a comprehension's block) running. base: fixed through the whole law; s₀, H₀: the entry; outer: the frames whose slots others may change (a def's callers); stack: all frames that run;
   ex: iterators that were made ahead of the entry and are walked here (a comprehension's); fn: the names whose cells were made at the entry (a def: all; a comprehension's block: its own); calm: not within an except suite; pn: pins that every state bears; xe: what is wanted of an exception that leaves the code -/
structure Cx where
  prog : Program
  w : World
  K : PySem.W.Frag
  mg : Str → Option Value
  base : Heap
  A : Around
  N : List Str
  s₀ : Shared
  H₀ : Hp
  env : Env
  outer : List Env
  stack : List Env
  ex : List Addr
  fn : Str → Bool
  calm : Bool
  pn : List (Addr × Obj)
  xe : Value → Shared → Prop
/-- the callers' frames -/
def frs (l : List Env) : List Addr := l.filterMap (·.frame)
abbrev Cx.fs (X : Cx) : List Addr := frs X.outer

def Vis (sc : Scope) (x : Str) : Prop := sc.names.lookup x = some .local ∨ sc.names.lookup x = some .cell ∨ sc.names.lookup x = some .free
def Loc (sc : Scope) (x : Str) : Prop := sc.names.lookup x = some .local ∨ sc.names.lookup x = some .cell
def Look (env : Env) (h : Heap) (m : Str → Option Value) (x : Str) (u : Value) : Prop :=
  (env.kindOf x = some .local ∧ m x = some u) ∨ ((env.kindOf x = some .cell ∨ env.kindOf x = some .free) ∧ ∃ c, env.cells.lookup x = some c ∧ h.IsCell c (some u))

structure Cx.Ok (X : Cx) : Prop where
  mod : Mod X.K X.mg X.base
  kind : X.env.scope.kind = .function
  glob : X.env.globals = mainGlobals
  blt : X.env.builtins = builtinsNs
  above : X.s₀.heap.objs.size ≤ X.env.locals
  inj : ∀ x y c, X.env.cells.lookup x = some c → X.env.cells.lookup y = some c → x = y
  has : ∀ x, (X.env.kindOf x = some .cell ∨ X.env.kindOf x = some .free) → ∃ c, X.env.cells.lookup x = some c
  cab : ∀ x c, X.fn x = true → X.env.cells.lookup x = some c → X.s₀.heap.objs.size ≤ c
  hd : X.calm = true → X.A.handled = none
  frames : X.A.frames = some X.stack
  stk : X.stack = X.outer ∨ (X.stack = X.env :: X.outer ∧ X.env.frame = some X.env.locals)
  exf : ∀ b ∈ X.ex, b ≠ X.env.locals ∧ ∀ x c, X.env.cells.lookup x = some c → c ≠ b
  bs : ∀ b o, X.base.get? b = some o → X.s₀.heap.get? b = some o ∧ X.H₀ b = none
  bsz : X.base.objs.size ≤ X.s₀.heap.objs.size
  noex : ∀ b o, X.base.get? b = some o → b ∉ X.ex
  exfs : ∀ b ∈ X.ex, b ∉ X.fs
  funs : X.s₀.heap.FunFrames X.base X.outer
  frf : ∀ b ∈ X.fs, X.H₀ b = none

structure Inv (X : Cx) (pins : List (Addr × Obj)) (σ : List (Option V)) (H : Hp) (s : Shared) : Prop where
  ok : X.Ok
  os : s.os = X.s₀.os
  bare : AllBare s.gens
  base : Un X.fs X.ex X.H₀ H X.s₀.heap s.heap
  loc : ∃ m, s.heap.Ns X.env.locals m ∧ ∀ (i : Nat) (x : Str) (v : V), X.N[i]? = some x → σ[i]? = some (some v) → Vis X.env.scope x → ∃ u, RelV v u ∧ Look X.env s.heap m x u
  cell : ∀ x c, X.env.cells.lookup x = some c → ∃ v, s.heap.IsCell c v
  free : H X.env.locals = none
  freeC : ∀ x c, X.env.cells.lookup x = some c → H c = none
  pin : ∀ p ∈ X.pn ++ pins, s.heap.get? p.1 = some p.2 ∧ H p.1 = none ∧ p.1 ≠ X.env.locals ∧ p.1 ∉ X.fs ∧ ∀ v, p.2.data ≠ .cell v
  hok : HOk X.prog X.w H s.heap
  len : σ.length = X.N.length

section
variable {X : Cx} {pins : List (Addr × Obj)} {σ : List (Option V)} {H H' : Hp} {s : Shared} {h' : Heap}

theorem Cx.Ok.nofr (ok : X.Ok) {b : Addr} {o : Obj} (e : X.base.get? b = some o) : b ∉ X.fs := fun hb => by
  have := (ok.funs.mem hb).1
  rw [e] at this; cases this
theorem Inv.bs (I : Inv X pins σ H s) : ∀ b o, X.base.get? b = some o → s.heap.get? b = some o ∧ H b = none := fun b o e =>
  ⟨I.base.keep b o (I.ok.bs b o e).1 (I.ok.bs b o e).2 (I.ok.nofr e) (I.ok.noex b o e), I.base.free b o (I.ok.bs b o e).1 (I.ok.bs b o e).2 (I.ok.noex b o e)⟩
theorem Inv.bk (I : Inv X pins σ H s) : ∀ b o, X.base.get? b = some o → s.heap.get? b = some o := fun b o e => (I.bs b o e).1
theorem Inv.mod (I : Inv X pins σ H s) : Mod X.K X.mg X.base := I.ok.mod
theorem Inv.kIn (I : Inv X pins σ H s) : X.K.In s.heap := I.ok.mod.kin.keeps I.bk
theorem Inv.nolimit (I : Inv X pins σ H s) : s.heap.NoLimit := I.ok.mod.nolimit.keeps I.bk
/-- the frame over the base: for OpenK's rules (K.In X.base is I.mod.kin) -/
theorem Inv.fr (I : Inv X pins σ H s) : ∃ m, Fr X.base X.env.locals s.heap m :=
  let ⟨m, hn, _⟩ := I.loc
  ⟨m, hn, I.bk, Nat.le_trans I.ok.bsz I.ok.above⟩
theorem Inv.lt (I : Inv X pins σ H s) : X.env.locals < s.heap.objs.size := let ⟨_, hn, _⟩ := I.loc; hn.lt
theorem Inv.sz (I : Inv X pins σ H s) : X.s₀.heap.objs.size ≤ s.heap.objs.size := Nat.le_trans I.ok.above (Nat.le_of_lt I.lt)
theorem Inv.nofs (I : Inv X pins σ H s) {a : Addr} (h : s.heap.objs.size ≤ a) : a ∉ X.fs := fun hb => by
  obtain ⟨_, o, ho, _⟩ := I.ok.funs.mem hb
  exact absurd (Nat.lt_of_lt_of_le (Heap.lt_size ho) (Nat.le_trans I.sz h)) (Nat.lt_irrefl _)
theorem Inv.cne (I : Inv X pins σ H s) : ∀ x c, X.env.cells.lookup x = some c → c ≠ X.env.locals := fun x c e z => by
  obtain ⟨v, o, ho, hd⟩ := I.cell x c e
  obtain ⟨m, ⟨o', es, ep, ho', hd', _⟩, _⟩ := I.loc
  rw [z, ho'] at ho; cases ho; rw [hd'] at hd; cases hd
theorem Inv.funs (I : Inv X pins σ H s) : s.heap.FunFrames X.base X.outer := by
  have all : ∀ (l : List Env), (∀ b ∈ frs l, b ∈ X.fs) → X.s₀.heap.FunFrames X.base l → s.heap.FunFrames X.base l := by
    intro l
    induction l with
    | nil => intro _ _; trivial
    | cons env r ih =>
      intro hs hl
      obtain ⟨hk, ⟨L, o, hf, hn, ho, hd⟩, hr⟩ := hl
      have hL : L ∈ X.fs := hs L (by unfold frs; rw [List.filterMap_cons, hf]; exact List.mem_cons_self)
      obtain ⟨sl, e⟩ := I.base.slot L o ho (I.ok.frf L hL) hL fun z => I.ok.exfs L z hL
      exact ⟨hk, ⟨L, _, hf, hn, e, hd⟩, ih (fun b hb => hs b (by unfold frs; rw [List.filterMap_cons, hf]; exact List.mem_cons_of_mem _ hb)) hr⟩
  exact all X.outer (fun _ hb => hb) I.ok.funs

/-- the frames that run, for a call -/
theorem Inv.stack (I : Inv X pins σ H s) : s.heap.FunFrames X.base X.stack := by
  rcases I.ok.stk with e | ⟨e, hf⟩
  · rw [e]; exact I.funs
  · rw [e]
    obtain ⟨m, hn, _⟩ := I.loc
    refine .cons (by rw [I.ok.kind]; decide) hf hn ?_ I.funs
    exact Heap.get?_none_of_le (Nat.le_trans I.ok.bsz I.ok.above)
theorem Inv.stkSub (I : Inv X pins σ H s) : ∀ b ∈ frs X.stack, b ∈ X.env.locals :: X.fs := fun b hb => by
  rcases I.ok.stk with e | ⟨e, hf⟩
  · rw [e] at hb; exact List.mem_cons_of_mem _ hb
  · rw [e] at hb
    unfold frs at hb
    rw [List.filterMap_cons, hf] at hb
    exact hb
theorem Inv.stkFree (I : Inv X pins σ H s) : ∀ b ∈ frs X.stack, H b = none := fun b hb => by
  rcases List.mem_cons.mp (I.stkSub b hb) with e | hb
  · rw [e]; exact I.free
  · obtain ⟨_, o, ho, _⟩ := I.ok.funs.mem hb
    exact I.base.free b o ho (I.ok.frf b hb) fun z => I.ok.exfs b z hb

/-- THE STEP: the untracked objects but the frame and the records at ch are kept (the callers' frames up to slots), the frame's map is kept, the new abstract heap is held -/
theorem Inv.step {g' : Array GenState} {t' : Nat} {d' : Drawn} {ch : List Addr} (I : Inv X pins σ H s)
    (hch : ∀ b ∈ ch, (b ∈ X.ex ∨ X.s₀.heap.objs.size ≤ b) ∧ b ≠ X.env.locals ∧ (∀ x c, X.env.cells.lookup x = some c → c ≠ b) ∧ ∀ p ∈ X.pn ++ pins, p.1 ≠ b)
    (keep : ∀ b o, b ≠ X.env.locals → b ∉ X.fs → b ∉ ch → s.heap.get? b = some o → H b = none → h'.get? b = some o)
    (slot : ∀ b o, b ≠ X.env.locals → b ∈ X.fs → b ∉ ch → s.heap.get? b = some o → H b = none → ∃ sl, h'.get? b = some { o with slots := sl }) (free : ∀ b o, b ∉ ch → s.heap.get? b = some o → H b = none → H' b = none)
    (there : ∀ b o, b ∉ ch → s.heap.get? b = some o → ∃ o', h'.get? b = some o')
    (tups : ∀ b xs, H b = some (.tup xs) → H' b = some (.tup xs)) (frzs : ∀ b o u, H b = some (.frz o u) → H' b = some (.frz o u)) (tbls : ∀ b ps, H b = some (.tbl ps) → ∃ more, H' b = some (.tbl (ps ++ more)))
    (ns : ∀ m, s.heap.Ns X.env.locals m → h'.Ns X.env.locals m) (hok : HOk X.prog X.w H' h') (hg : AllBare g') :
    Inv X pins σ H' { s with heap := h', gens := g', drawn := d', toks := t' } := by
  have neL : ∀ b o, X.s₀.heap.get? b = some o → b ≠ X.env.locals := fun b o e => Nat.ne_of_lt (Nat.lt_of_lt_of_le (Heap.lt_size e) I.ok.above)
  have neC : ∀ b o, X.s₀.heap.get? b = some o → b ∉ X.ex → b ∉ ch := fun b o e hx hb => by
    rcases (hch b hb).1 with z | z
    · exact hx z
    · exact absurd (Nat.lt_of_lt_of_le (Heap.lt_size e) z) (Nat.lt_irrefl _)
  have cellK : ∀ x c, X.env.cells.lookup x = some c → ∀ v, s.heap.IsCell c v → h'.IsCell c v := fun x c e v ⟨o, ho, hd⟩ => by
    have nch : c ∉ ch := fun z => (hch c z).2.2.1 x c e rfl
    by_cases hc : c ∈ X.fs
    · obtain ⟨sl, q⟩ := slot c o (I.cne x c e) hc nch ho (I.freeC x c e)
      exact ⟨_, q, hd⟩
    · exact ⟨o, keep c o (I.cne x c e) hc nch ho (I.freeC x c e), hd⟩
  refine ⟨I.ok, I.os, hg, ⟨fun b o e n hb hx => ?_, fun b o e n hb hx => ?_, fun b o e n hx => ?_, fun b o e hx => ?_, fun b xs e => tups b xs (I.base.tups b xs e), fun b o xs e => frzs b o xs (I.base.frzs b o xs e), fun b ps e => ?_⟩, ?_, fun x c e => ?_, ?_, fun x c e => ?_, fun p hp => ?_, hok, I.len⟩
  · exact keep b o (neL b o e) hb (neC b o e hx) (I.base.keep b o e n hb hx) (I.base.free b o e n hx)
  · obtain ⟨sl, e1⟩ := I.base.slot b o e n hb hx
    obtain ⟨sl', e2⟩ := slot b _ (neL b o e) hb (neC b o e hx) e1 (I.base.free b o e n hx)
    exact ⟨sl', e2⟩
  · obtain ⟨o', e1⟩ := I.base.there b o e hx
    exact free b o' (neC b o e hx) e1 (I.base.free b o e n hx)
  · obtain ⟨o', e1⟩ := I.base.there b o e hx
    exact there b o' (neC b o e hx) e1
  · obtain ⟨m1, e1⟩ := I.base.tbls b ps e
    obtain ⟨m2, e2⟩ := tbls b _ e1
    exact ⟨m1 ++ m2, by rw [e2, Array.append_assoc]⟩
  · obtain ⟨m, hn, hl⟩ := I.loc
    refine ⟨m, ns m hn, fun i x v e1 e2 e3 => ?_⟩
    obtain ⟨u, r, l⟩ := hl i x v e1 e2 e3
    refine ⟨u, r, ?_⟩
    rcases l with l | ⟨k, c, e, z⟩
    · exact .inl l
    · exact .inr ⟨k, c, e, cellK x c e _ z⟩
  · obtain ⟨v, z⟩ := I.cell x c e
    exact ⟨v, cellK x c e v z⟩
  · obtain ⟨m, ⟨o, _, _, ho, _⟩, _⟩ := I.loc
    exact free _ o (fun z => (hch _ z).2.1 rfl) ho I.free
  · obtain ⟨v, o, ho, hd⟩ := I.cell x c e
    exact free c o (fun z => (hch c z).2.2.1 x c e rfl) ho (I.freeC x c e)
  · obtain ⟨e, n, ne, nf, d⟩ := I.pin p hp
    have nch : p.1 ∉ ch := fun z => (hch p.1 z).2.2.2 p hp rfl
    exact ⟨keep p.1 p.2 ne nf nch e n, free p.1 p.2 nch e n, ne, nf, d⟩
/-- .. where the frame's own object is kept too -/
theorem Inv.un {t' : Nat} (I : Inv X pins σ H s) (u : Un X.fs [] H H' s.heap h') (hok : HOk X.prog X.w H' h') : Inv X pins σ H' { s with heap := h', toks := t' } := by
  obtain ⟨m, ⟨o, es, ep, ho, r⟩, _⟩ := id I.loc
  obtain ⟨sl, hL⟩ := u.any ho I.free (by simp)
  exact I.step (g' := s.gens) (d' := s.drawn) (ch := []) (fun _ z => nomatch z) (fun b o _ hb _ e n => u.keep b o e n hb (by simp)) (fun b o _ hb _ e n => u.slot b o e n hb (by simp)) (fun b o _ e n => u.free b o e n (by simp)) (fun b o _ e => u.there b o e (by simp)) u.tups u.frzs u.tbls (fun m' hm => by
    obtain ⟨o', es', ep', ho', r'⟩ := hm
    rw [ho] at ho'; cases ho'
    exact ⟨_, es', ep', hL, r'⟩) hok I.bare
/-- behind a call (or a comprehension's block): the slots of this frame may have changed too, the records at ch may have turned -/
theorem Inv.call {g' : Array GenState} {t' : Nat} {d' : Drawn} {ch : List Addr} (I : Inv X pins σ H s) (u : Un (frs X.stack) ch H H' s.heap h') (hok : HOk X.prog X.w H' h') (hg : AllBare g')
    (hch : ∀ b ∈ ch, (b ∈ X.ex ∨ X.s₀.heap.objs.size ≤ b) ∧ b ≠ X.env.locals ∧ (∀ x c, X.env.cells.lookup x = some c → c ≠ b) ∧ ∀ p ∈ X.pn ++ pins, p.1 ≠ b) :
    Inv X pins σ H' { s with heap := h', gens := g', drawn := d', toks := t' } := by
  obtain ⟨m, ⟨o, es, ep, ho, r⟩, _⟩ := id I.loc
  obtain ⟨sl, hL⟩ := u.any ho I.free fun z => (hch _ z).2.1 rfl
  exact I.step (ch := ch) hch (fun b o hL hb hc e n => u.keep b o e n (fun z => (List.mem_cons.mp (I.stkSub b z)).elim hL hb) hc) (fun b o _ _ hc e n => u.any e n hc) (fun b o hc e n => u.free b o e n hc) (fun b o hc e => u.there b o e hc) u.tups u.frzs u.tbls (fun m' hm => by
    obtain ⟨o', es', ep', ho', r'⟩ := hm
    rw [ho] at ho'; cases ho'
    exact ⟨_, es', ep', hL, r'⟩) hok hg
/-- an untracked record of ours (an iterator) has turned -/
theorem Inv.turned {t' : Nat} {it : Addr} (I : Inv X pins σ H s) (k : ∀ b o, b ≠ it → s.heap.get? b = some o → h'.get? b = some o) (hn : H it = none) (hL : it ≠ X.env.locals)
    (h1 : it ∈ X.ex ∨ X.s₀.heap.objs.size ≤ it) (h2 : ∀ x c, X.env.cells.lookup x = some c → c ≠ it) (h3 : ∀ p ∈ X.pn ++ pins, p.1 ≠ it) : Inv X pins σ H { s with heap := h', toks := t' } := by
  have nit : ∀ b u, H b = some u → b ≠ it := fun b u e z => by rw [z, hn] at e; cases e
  refine I.step (g' := s.gens) (d' := s.drawn) (ch := [it]) (fun b hb => ?_) (fun b o _ _ hc e _ => k b o (fun z => hc (by simp [z])) e) (fun b o _ _ hc e _ => ⟨o.slots, k b o (fun z => hc (by simp [z])) e⟩) (fun _ _ _ _ n => n)
    (fun b o hc e => ⟨o, k b o (fun z => hc (by simp [z])) e⟩) (fun _ _ e => e) (fun _ _ _ e => e) (fun b ps e => ⟨#[], by rw [e]; simp⟩) (fun m hm => ?_) (fun b u e => ?_) I.bare
  · have e : b = it := by simpa using hb
    subst e
    exact ⟨h1, hL, h2, h3⟩
  · obtain ⟨o, es, ep, ho, r⟩ := hm
    exact ⟨o, es, ep, k _ o (Ne.symm hL) ho, r⟩
  · refine (I.hok b u e).stay (fun c v hc q => k c v ?_ q) (fun _ q => q) fun _ _ q => q
    rcases hc with z | z
    · rw [z]; exact nit b u e
    · exact nit c _ z
theorem Inv.tok (I : Inv X pins σ H s) (t : Nat) : Inv X pins σ H { s with toks := t } := I.un (h' := s.heap) (t' := t) Un.refl I.hok
/-- all objects kept -/
theorem Inv.kept {t' : Nat} (I : Inv X pins σ H s) (k : ∀ b u, s.heap.get? b = some u → h'.get? b = some u) : Inv X pins σ H { s with heap := h', toks := t' } := I.un (Un.kept k) (I.hok.kept k)
/-- a new object laid and tracked -/
theorem Inv.laid {a : Addr} {o : HO} {t' : Nat} (I : Inv X pins σ H s) (k : ∀ b u, s.heap.get? b = some u → h'.get? b = some u) (hp : s.heap.objs.size ≤ a) (new : ObjOk X.prog X.w (upd H a o) h' a o) :
    Inv X pins σ (upd H a o) { s with heap := h', toks := t' } := I.un (Un.laid k hp (I.hok.fresh hp)) (I.hok.laid k hp new)
/-- an object written -/
theorem Inv.write {x e : Addr} {o : HO} {t' : Nat} (I : Inv X pins σ H s) (mu : Mut (H x)) (he : e = x ∨ H e = some (.own x)) (k : ∀ b u, b ≠ e → s.heap.get? b = some u → h'.get? b = some u) (heo : ∃ u, h'.get? e = some u)
    (new : ObjOk X.prog X.w (upd H x o) h' x o) : Inv X pins σ (upd H x o) { s with heap := h', toks := t' } := I.un (Un.write mu he k heo) (I.hok.write mu he k heo new)
/-- forgetting slots, pins -/
theorem Inv.weak {σ' : List (Option V)} (I : Inv X pins σ H s) (hl : σ'.length = σ.length) (w : ∀ (i : Nat) v, σ'[i]? = some (some v) → σ[i]? = some (some v)) : Inv X pins σ' H s :=
  ⟨I.ok, I.os, I.bare, I.base, let ⟨m, hn, hl'⟩ := I.loc; ⟨m, hn, fun i x v e1 e2 e3 => hl' i x v e1 (w i v e2) e3⟩, I.cell, I.free, I.freeC, I.pin, I.hok, hl.trans I.len⟩
theorem Inv.pins_of {pins' : List (Addr × Obj)} (I : Inv X pins σ H s) (h : ∀ p ∈ pins', s.heap.get? p.1 = some p.2 ∧ H p.1 = none ∧ p.1 ≠ X.env.locals ∧ p.1 ∉ X.fs ∧ ∀ v, p.2.data ≠ .cell v) : Inv X pins' σ H s :=
  ⟨I.ok, I.os, I.bare, I.base, I.loc, I.cell, I.free, I.freeC, fun p hp => (List.mem_append.mp hp).elim (fun z => I.pin p (List.mem_append_left _ z)) (h p), I.hok, I.len⟩

theorem nodup_ix {N : List Str} (hN : N.Nodup) {i j : Nat} {x : Str} (a : N[i]? = some x) (b : N[j]? = some x) : i = j := by
  obtain ⟨h1, e1⟩ := List.getElem?_eq_some_iff.mp a
  obtain ⟨h2, e2⟩ := List.getElem?_eq_some_iff.mp b
  exact (List.getElem_inj hN).mp (e1.trans e2.symm)

/-- a name is stored; what changed -/
theorem store_ok2 {M : Model} {A : Around} {E : Value → Shared → Prop} {i : Nat} {x : Str} {v : V} {u : Value} {Q : Unit → Shared → Prop} (I : Inv X pins σ H s) (hN : X.N.Nodup) (hi : X.N[i]? = some x) (hx : Loc X.env.scope x) (r : RelV v u)
    (h : ∀ s', Inv X pins (σ.set i (some v)) H s' → (∃ a, Heap.SameBut a s.heap s'.heap ∧ (a = X.env.locals ∨ X.env.cells.lookup x = some a)) → Q () s') (hf : X.fn x = true ∨ X.env.scope.names.lookup x = some .local := by first | exact .inl rfl | exact .inr rfl | assumption) : wpAny M A (storeName X.env x u) Q E s := by
  obtain ⟨m, hn, hl⟩ := id I.loc
  have hcls : (X.env.scope.kind == .class || (X.env.scope.kind == .module && X.env.locals != X.env.globals)) = false := by rw [I.ok.kind]; rfl
  have hiσ : i < σ.length := by rw [I.len]; exact (List.getElem?_eq_some_iff.mp hi).1
  have cne := I.cne
  have tracked : ∀ {a : Addr} {h' : Heap}, (∃ o, s.heap.get? a = some o ∧ H a = none) → Heap.SameBut a s.heap h' → HOk X.prog X.w H h' := fun {a h'} ha hs b ob e => by
    obtain ⟨_, _, hfree⟩ := ha
    refine (I.hok b ob e).stay (fun c w' hc q => (hs.2 c ?_).trans q) (fun _ q => q) fun _ _ q => q
    rintro rfl
    rcases hc with rfl | hc
    · rw [hfree] at e; cases e
    · rw [hfree] at hc; cases hc
  rcases hx with hk | hk
  · refine wpAny_storeName_local hk hn (fun h' hn' hs => ?_) hcls
    obtain ⟨oL, _, _, hoL, _⟩ := id hn
    refine h _ ⟨I.ok, I.os, I.bare, ⟨fun b o e n hb hx => ?_, fun b o e n hb hx => ?_, I.base.free, fun b o e hx => ?_, I.base.tups, I.base.frzs, I.base.tbls⟩, ⟨_, hn', fun j y v' e1 e2 e3 => ?_⟩, fun y c e => ?_, I.free, I.freeC, fun p hp => ?_, tracked ⟨oL, hoL, I.free⟩ hs, by simpa using I.len⟩ ⟨_, hs, .inl rfl⟩
    · exact (hs.2 b (Nat.ne_of_lt (Nat.lt_of_lt_of_le (Heap.lt_size e) I.ok.above))).trans (I.base.keep b o e n hb hx)
    · obtain ⟨sl, e1⟩ := I.base.slot b o e n hb hx
      exact ⟨sl, (hs.2 b (Nat.ne_of_lt (Nat.lt_of_lt_of_le (Heap.lt_size e) I.ok.above))).trans e1⟩
    · obtain ⟨o', e1⟩ := I.base.there b o e hx
      exact ⟨o', (hs.2 b (Nat.ne_of_lt (Nat.lt_of_lt_of_le (Heap.lt_size e) I.ok.above))).trans e1⟩
    · by_cases hj : j = i
      · subst hj
        rw [hi] at e1; cases e1
        rw [List.getElem?_set_self hiσ] at e2
        cases e2
        exact ⟨u, r, .inl ⟨hk, by simp⟩⟩
      · rw [List.getElem?_set_ne (Ne.symm hj)] at e2
        obtain ⟨u', r', q⟩ := hl j y v' e1 e2 e3
        refine ⟨u', r', ?_⟩
        rcases q with ⟨k, e⟩ | ⟨k, c, e, z⟩
        · refine .inl ⟨k, ?_⟩
          have : y ≠ x := fun e => hj (nodup_ix hN e1 (e ▸ hi))
          simp [this, e]
        · exact .inr ⟨k, c, e, z.sameBut hs (cne y c e)⟩
    · obtain ⟨w', z⟩ := I.cell y c e
      exact ⟨w', z.sameBut hs (cne y c e)⟩
    · obtain ⟨e, n, ne, nf, d⟩ := I.pin p hp
      exact ⟨(hs.2 p.1 ne).trans e, n, ne, nf, d⟩
  · have hfn : X.fn x = true := by
      rcases hf with z | z
      · exact z
      · rw [z] at hk; cases hk
    obtain ⟨c, hc⟩ := I.ok.has x (.inl hk)
    obtain ⟨w', z⟩ := I.cell x c hc
    refine wpAny_storeName_cell I.ok.kind hk hc z (fun h' hc' hs => ?_)
    obtain ⟨oc, hoc, hocd⟩ := id z
    refine h { s with heap := h' } ⟨I.ok, I.os, I.bare, ⟨fun b o e n hb hx => ?_, fun b o e n hb hx => ?_, I.base.free, fun b o e hx => ?_, I.base.tups, I.base.frzs, I.base.tbls⟩, ⟨m, hn.sameBut hs (Ne.symm (cne x c hc)), fun j y v' e1 e2 e3 => ?_⟩, fun y c' e => ?_, I.free, I.freeC, fun p hp => ?_, tracked ⟨oc, hoc, I.freeC x c hc⟩ hs, by simpa using I.len⟩ ⟨c, hs, .inr hc⟩
    · exact (hs.2 b (Nat.ne_of_lt (Nat.lt_of_lt_of_le (Heap.lt_size e) (I.ok.cab x c hfn hc)))).trans (I.base.keep b o e n hb hx)
    · obtain ⟨sl, e1⟩ := I.base.slot b o e n hb hx
      exact ⟨sl, (hs.2 b (Nat.ne_of_lt (Nat.lt_of_lt_of_le (Heap.lt_size e) (I.ok.cab x c hfn hc)))).trans e1⟩
    · obtain ⟨o', e1⟩ := I.base.there b o e hx
      exact ⟨o', (hs.2 b (Nat.ne_of_lt (Nat.lt_of_lt_of_le (Heap.lt_size e) (I.ok.cab x c hfn hc)))).trans e1⟩
    · by_cases hj : j = i
      · subst hj
        rw [hi] at e1; cases e1
        rw [List.getElem?_set_self hiσ] at e2
        cases e2
        exact ⟨u, r, .inr ⟨.inl hk, c, hc, hc'⟩⟩
      · rw [List.getElem?_set_ne (Ne.symm hj)] at e2
        obtain ⟨u', r', q⟩ := hl j y v' e1 e2 e3
        refine ⟨u', r', ?_⟩
        rcases q with q | ⟨k, c', e, z'⟩
        · exact .inl q
        · refine .inr ⟨k, c', e, z'.sameBut hs ?_⟩
          rintro rfl
          exact hj (nodup_ix hN e1 (I.ok.inj _ _ _ e hc ▸ hi))
    · by_cases hcc : c' = c
      · subst hcc; exact ⟨_, hc'⟩
      · obtain ⟨w2, z2⟩ := I.cell y c' e
        exact ⟨w2, z2.sameBut hs hcc⟩
    · obtain ⟨e, n, ne, nf, d⟩ := I.pin p hp
      refine ⟨(hs.2 p.1 ?_).trans e, n, ne, nf, d⟩
      intro q
      rw [q, hoc] at e
      have q' : oc = p.2 := Option.some.inj e
      exact d w' (by rw [← q']; exact hocd)
theorem store_ok {M : Model} {A : Around} {E : Value → Shared → Prop} {i : Nat} {x : Str} {v : V} {u : Value} {Q : Unit → Shared → Prop} (I : Inv X pins σ H s) (hN : X.N.Nodup) (hi : X.N[i]? = some x) (hx : Loc X.env.scope x) (r : RelV v u)
    (h : ∀ s', Inv X pins (σ.set i (some v)) H s' → Q () s') (hf : X.fn x = true ∨ X.env.scope.names.lookup x = some .local := by first | exact .inl rfl | exact .inr rfl | assumption) : wpAny M A (storeName X.env x u) Q E s :=
  store_ok2 I hN hi hx r (fun s' I' _ => h s' I') hf
/-- behind a call or a block, the state as it is -/
theorem Inv.call' {s' : Shared} {ch : List Addr} (I : Inv X pins σ H s) (ho : s'.os = s.os) (u : Un (frs X.stack) ch H H' s.heap s'.heap) (hok : HOk X.prog X.w H' s'.heap) (hg : AllBare s'.gens)
    (hch : ∀ b ∈ ch, (b ∈ X.ex ∨ X.s₀.heap.objs.size ≤ b) ∧ b ≠ X.env.locals ∧ (∀ x c, X.env.cells.lookup x = some c → c ≠ b) ∧ ∀ p ∈ X.pn ++ pins, p.1 ≠ b) : Inv X pins σ H' s' := by
  obtain ⟨h', g', d', t', o'⟩ := s'
  have e : o' = s.os := ho
  subst e
  exact I.call (g' := g') (t' := t') (d' := d') u hok hg hch
end

/-! ### the judgements -/
/-- an exception: its class, its own dict's address (where it has one), the abstract heap behind it -/
abbrev XK := Value → Option Addr → Hp → Prop
abbrev St := List (Option V)
abbrev VK := V → Hp → Prop
/-- an expression's reading; a test's; an argument list's -/
abbrev TE := St → Hp → VK → Prop
abbrev TT := St → Hp → (Bool → Hp → Prop) → Prop
abbrev TA := St → Hp → (List V → Hp → Prop) → Prop
/-- what is wanted behind a statement -/
structure Ends where
  nx : St → Hp → Prop
  rt : VK
  bk : St → Hp → Prop := fun _ _ => False
  ct : St → Hp → Prop := fun _ _ => False
abbrev TS := Ends → St → Hp → Prop

def EP (X : Cx) (pins : List (Addr × Obj)) (σ : St) (Q : VK) (u : Value) (s' : Shared) : Prop := ∃ v H', Inv X pins σ H' s' ∧ RelV v u ∧ Q v H'
def TP (X : Cx) (pins : List (Addr × Obj)) (σ : St) (Q : Bool → Hp → Prop) (b : Bool) (s' : Shared) : Prop := ∃ H', Inv X pins σ H' s' ∧ Q b H'
def AP (X : Cx) (pins : List (Addr × Obj)) (σ : St) (Q : List V → Hp → Prop) (us : List Value) (s' : Shared) : Prop := ∃ vs H', Inv X pins σ H' s' ∧ Vals vs us ∧ Q vs H'
def SP (X : Cx) (pins : List (Addr × Obj)) (D : Ends) (f : Flow) (s' : Shared) : Prop :=
  match f with
  | .next => ∃ σ' H', Inv X pins σ' H' s' ∧ D.nx σ' H'
  | .brk => ∃ σ' H', Inv X pins σ' H' s' ∧ D.bk σ' H'
  | .cont => ∃ σ' H', Inv X pins σ' H' s' ∧ D.ct σ' H'
  | .ret u => ∃ v σ' H', Inv X pins σ' H' s' ∧ RelV v u ∧ D.rt v H'

def PE (X : Cx) (e : Expr) (t : TE) : Prop :=
  ∀ (pins : List (Addr × Obj)) (s : Shared) (σ : St) (H : Hp) (Q : VK), Inv X pins σ H s → t σ H Q → wpAny (model X.prog X.w) X.A (eval e X.env) (EP X pins σ Q) X.xe s
def PT (X : Cx) (e : Expr) (t : TT) : Prop :=
  ∀ (pins : List (Addr × Obj)) (s : Shared) (σ : St) (H : Hp) (Q : Bool → Hp → Prop), Inv X pins σ H s → t σ H Q → wpAny (model X.prog X.w) X.A (isTrue e X.env (eval e X.env)) (TP X pins σ Q) X.xe s
/-- a test whatever its 'whole' is (and, or) -/
def PW (X : Cx) (e : Expr) (t : TT) : Prop :=
  ∀ (whole : Sem Value) (pins : List (Addr × Obj)) (s : Shared) (σ : St) (H : Hp) (Q : Bool → Hp → Prop), Inv X pins σ H s → t σ H Q → wpAny (model X.prog X.w) X.A (isTrue e X.env whole) (TP X pins σ Q) X.xe s
theorem PW.pt {X : Cx} {e : Expr} {t : TT} (h : PW X e t) : PT X e t := h _
/-- an argument list (no star), from the left -/
def PA (X : Cx) (es : List Expr) (t : TA) : Prop :=
  ∀ (pos : Pos) (pins : List (Addr × Obj)) (s : Shared) (σ : St) (H : Hp) (Q : List V → Hp → Prop), Inv X pins σ H s → t σ H Q → wpAny (model X.prog X.w) X.A (spliced (backTo pos (starEach es X.env))) (AP X pins σ Q) X.xe s
def PS (X : Cx) (st : Stmt) (t : TS) : Prop :=
  ∀ (pins : List (Addr × Obj)) (s : Shared) (σ : St) (H : Hp) (D : Ends), Inv X pins σ H s → t D σ H → wpAny (model X.prog X.w) X.A (exec st X.env) (SP X pins D) X.xe s
def PSs (X : Cx) (st : List Stmt) (t : TS) : Prop :=
  ∀ (pins : List (Addr × Obj)) (s : Shared) (σ : St) (H : Hp) (D : Ends), Inv X pins σ H s → t D σ H → wpAny (model X.prog X.w) X.A (execs st X.env) (SP X pins D) X.xe s
/-- weaken the end -/
theorem thn {α : Type} {t : Sem α} {Q Q' : α → Shared → Prop} {M : Model} {A : Around} {E : Value → Shared → Prop} {s : Shared} (h : wpAny M A t Q E s) (hQ : ∀ a s, Q a s → Q' a s) : wpAny M A t Q' E s := wpAny_mono h hQ fun _ _ x => x
end L2

namespace L2
open PySem PySem.Spec PyProof.Rows
section
variable {X : Cx}

/-! ### names and constants -/
def tVar (i : Nat) : TE := fun σ H Q => ∃ v, σ[i]? = some (some v) ∧ Q v H
def tC (v : V) : TE := fun _ H Q => Q v H
theorem pe_var {i : Nat} {x : Str} {pos : Pos} (hN : X.N[i]? = some x) (hv : Vis X.env.scope x) (hd : (x == ("__debug__" : Str)) = false := by decide) (hcd : (x == ("__classdict__" : Str)) = false := by decide) : PE X (.Name x pos) (tVar i) := by
  intro pins s σ H Q I h
  obtain ⟨v, e, h⟩ := h
  obtain ⟨m, hn, hl⟩ := I.loc
  obtain ⟨u, r, l⟩ := hl i x v hN e hv
  have fin : EP X pins σ Q u s := ⟨v, H, I, r, h⟩
  rcases l with ⟨hk, hm⟩ | ⟨hk, c, hc, hcell⟩
  · exact wpAny_Name (wpAny_loadName_local I.ok.kind hk hn hm fin) hd
  · rcases hk with hk | hk
    · exact wpAny_Name (wpAny_loadName_cell I.ok.kind hk hc hcell fin) hd
    · exact wpAny_Name (wpAny_loadName_free I.ok.kind hk hc hcell fin hcd) hd
theorem pe_int {i j pos} : PE X (.Constant (.int i) j pos) (tC (.int i)) := fun _ _ _ H _ I h => wpAny_Constant_int ⟨.int i, H, I.tok _, ⟨_, rfl⟩, h⟩
theorem pe_bl {b j pos} : PE X (.Constant (.bool b) j pos) (tC (.bl b)) := fun _ _ _ H _ I h => Constant_bool ⟨.bl b, H, I, rfl, h⟩
theorem pe_str {x j pos} : PE X (.Constant (.str x) j pos) (tC (.str x)) := fun _ _ _ H _ I h => Calls.Constant_str ⟨.str x, H, I.tok _, ⟨_, rfl⟩, h⟩

/-- a global name of the def -/
def Gl (X : Cx) (x : Str) : Prop := X.env.kindOf x = some .globalImplicit
theorem ld_glob {E : Value → Shared → Prop} {pins : List (Addr × Obj)} {s : Shared} {σ : St} {H : Hp} {x : Str} {u : Value} {pos : Pos} {Q : Value → Shared → Prop} (I : Inv X pins σ H s) (hg : Gl X x) (hm : X.mg x = some u) (h : Q u s)
    (hd : (x == ("__debug__" : Str)) = false := by decide) : wpAny (model X.prog X.w) X.A (eval (.Name x pos) X.env) Q E s :=
  Calls.Name_function_global I.ok.kind hg (Calls.loadGlobal_global (by rw [I.ok.glob]; exact I.mod.glob.keeps I.bk) hm h) hd
theorem ld_blt {E : Value → Shared → Prop} {pins : List (Addr × Obj)} {s : Shared} {σ : St} {H : Hp} {x : Str} {u : Value} {pos : Pos} {Q : Value → Shared → Prop} (I : Inv X pins σ H s) (hg : Gl X x) (hm : X.mg x = none) (hv : bootBuiltins x = some u) (h : Q u s)
    (hn : x ≠ "__name__" := by decide) (hd : (x == ("__debug__" : Str)) = false := by decide) : wpAny (model X.prog X.w) X.A (eval (.Name x pos) X.env) Q E s := by
  obtain ⟨mb, h1, h2⟩ := I.mod.blt
  exact Calls.Name_function_global I.ok.kind hg (Calls.loadGlobal_builtin (by rw [I.ok.glob]; exact I.mod.glob.keeps I.bk) hm (by rw [I.ok.blt]; exact h1.keeps I.bk) ((h2 x hn).trans hv) h) hd
/-- a module's constant, a class, a function, as a value -/
theorem pe_glob {x : Str} {v : V} {u : Value} {pos : Pos} (hg : Gl X x) (hm : X.mg x = some u) (r : RelV v u) (hd : (x == ("__debug__" : Str)) = false := by decide) : PE X (.Name x pos) (tC v) :=
  fun _ _ _ H _ I h => ld_glob I hg hm ⟨v, H, I, r, h⟩ hd
theorem pe_bltn {x : Str} {v : V} {u : Value} {pos : Pos} (hg : Gl X x) (hm : X.mg x = none) (hv : bootBuiltins x = some u) (r : RelV v u) (hn : x ≠ "__name__" := by decide) (hd : (x == ("__debug__" : Str)) = false := by decide) : PE X (.Name x pos) (tC v) :=
  fun _ _ _ H _ I h => ld_blt I hg hm hv ⟨v, H, I, r, h⟩ hn hd

/-! ### arithmetic -/
variable {a b : Expr} {ta tb : TE} {pos : Pos}
/-! ### comparisons -/
/-! ### and, or, not -/
variable {tA tB' : TT} {rest : List Expr}
def tOr (t u : TT) : TT := fun σ H Q => t σ H fun c H1 => if c = true then Q true H1 else u σ H1 Q
def tNot (t : TT) : TT := fun σ H Q => t σ H fun c H1 => Q (!c) H1
theorem pw_or1 (ha : PT X a tA) : PW X (.BoolOp .Or [a] pos) tA := by
  intro wh pins s σ H Q I h
  refine isTrue_or (thn (ha pins s σ H Q I h) fun c s1 e => ?_)
  cases c with
  | false => exact isTrue_or_nil e
  | true => exact e
theorem pw_or (ha : PT X a tA) (hb : PW X (.BoolOp .Or (b :: rest) pos) tB') : PW X (.BoolOp .Or (a :: b :: rest) pos) (tOr tA tB') := by
  intro wh pins s σ H Q I h
  refine isTrue_or (thn (ha pins s σ H _ I h) fun c s1 ⟨H1, I1, q1⟩ => ?_)
  cases c with
  | true => exact ⟨H1, I1, q1⟩
  | false => exact hb wh pins s1 σ H1 Q I1 q1
theorem pt_not (ha : PT X a tA) : PT X (.UnaryOp .Not a pos) (tNot tA) := by
  intro pins s σ H Q I h
  exact isTrue_not (ha pins s σ H (fun c H1 => Q (!c) H1) I h)
theorem pe_one {op} {t : TE} (h : PE X a t) : PE X (.BoolOp op [a] pos) t := fun pins s σ H Q I hw => BoolOp_one (h pins s σ H Q I hw)
/-- a if t else b -/
def tIf (t : TT) (ta tb : TE) : TE := fun σ H Q => t σ H fun c H1 => if c = true then ta σ H1 Q else tb σ H1 Q
theorem pe_ifExp {c : Expr} (hc : PT X c tA) (ha : PE X a ta) (hb : PE X b tb) : PE X (.IfExp c a b pos) (tIf tA ta tb) := by
  intro pins s σ H Q I h
  refine wpAny_IfExp (thn (hc pins s σ H _ I h) fun d s1 ⟨H1, I1, q1⟩ => ?_)
  cases d with
  | true => exact ha pins s1 σ H1 Q I1 q1
  | false => exact hb pins s1 σ H1 Q I1 q1
end
end L2

namespace L2
open PySem PySem.Spec PyProof.Rows

/-! ### a list, a tuple that is read: tracked, frozen, or an object of the module -/
def SqL (K : PySem.W.Frag) (H : Hp) (a : Addr) (xs : List V) : Prop :=
  Rd H a (.lst xs) ∨
    ∃ (o : Obj) (its : Array Value) (n : Nat), K.lookup a = some o ∧ o.cls = .type "list" ∧ o.dict = none ∧ o.data = .seq its n ∧ its.size ≤ sizeLine ∧ Vals xs its.toList
def SqT (K : PySem.W.Frag) (H : Hp) (a : Addr) (xs : List V) : Prop :=
  Rd H a (.tup xs) ∨
    ∃ (o : Obj) (its : Array Value) (n : Nat), K.lookup a = some o ∧ o.cls = .type "tuple" ∧ o.data = .seq its n ∧ its.size ≤ sizeLine ∧ Vals xs its.toList
def absV : Value → Option V
  | .none => some .non
  | .bool b => some (.bl b)
  | .int i _ => some (.int i)
  | .str x _ => some (.str x)
  | .bytes b _ => some (.byt b)
  | .float b _ => some (.flt b)
  | .ref a => some (.ref a)
  | .type n => some (.ty n)
  | _ => none
theorem RelV.abs {x : V} {u : Value} (r : RelV x u) : absV u = some x := by
  cases x with
  | non => cases r; rfl
  | bl _ => cases r; rfl
  | int _ => obtain ⟨t, rfl⟩ := r; rfl
  | str _ => obtain ⟨t, rfl⟩ := r; rfl
  | byt _ => obtain ⟨t, rfl⟩ := r; rfl
  | flt _ => obtain ⟨t, rfl⟩ := r; rfl
  | ref _ => cases r; rfl
  | ty _ => cases r; rfl
theorem RelV.inj {x y : V} {u : Value} (r : RelV x u) (q : RelV y u) : x = y := Option.some.inj (r.abs.symm.trans q.abs)
theorem Vals.inj : ∀ {xs ys : List V} {us : List Value}, Vals xs us → Vals ys us → xs = ys
  | _, _, _, .nil, .nil => rfl
  | _, _, _, .cons r t, .cons r' t' => by rw [r.inj r', Vals.inj t t']
section
variable {X : Cx} {pins : List (Addr × Obj)} {σ : St} {H : Hp} {s : Shared} {a : Addr} {xs ys : List V}
theorem SqL.of {K : PySem.W.Frag} (h : H a = some (.lst xs)) : SqL K H a xs := .inl (.inl h)
theorem SqT.of {K : PySem.W.Frag} (h : H a = some (.tup xs)) : SqT K H a xs := .inl (.inl h)
theorem Inv.list (I : Inv X pins σ H s) (h : SqL X.K H a xs) : ∃ its : List Value, Vals xs its ∧ PlainL s.heap a its.toArray ∧ xs.length ≤ sizeLine := by
  rcases h with h | ⟨o, its, n, hk, hc, hd, hs, hz, r⟩
  · obtain ⟨z, its, n, r, e⟩ := h.ok I.hok
    exact ⟨its, r, ⟨_, n, e, rfl, rfl, rfl⟩, z⟩
  · refine ⟨its.toList, r, ⟨o, n, I.kIn a o hk, hc, hd, by simpa using hs⟩, ?_⟩
    have e := r.length
    simp only [Array.length_toList] at e
    omega
theorem Inv.tuple (I : Inv X pins σ H s) (h : SqT X.K H a xs) : ∃ its : List Value, Vals xs its ∧ IsTup s.heap a its.toArray ∧ xs.length ≤ sizeLine := by
  rcases h with h | ⟨o, its, n, hk, hc, hs, hz, r⟩
  · obtain ⟨z, its, r, p⟩ := h.ok I.hok
    exact ⟨its, r, p, z⟩
  · refine ⟨its.toList, r, ⟨o, I.kIn a o hk, hc, n, by simpa using hs⟩, ?_⟩
    have e := r.length
    simp only [Array.length_toList] at e
    omega
theorem Inv.list_inj (I : Inv X pins σ H s) (h : SqL X.K H a xs) (h' : SqL X.K H a ys) : xs = ys := by
  obtain ⟨its, r, ⟨o, n, e, _, _, d⟩, _⟩ := I.list h
  obtain ⟨its', r', ⟨o', n', e', _, _, d'⟩, _⟩ := I.list h'
  rw [e] at e'; cases e'
  rw [d] at d'
  injection d' with d1 _
  have : its = its' := by simpa using congrArg Array.toList d1
  subst this
  exact r.inj r'
theorem Inv.tuple_inj (I : Inv X pins σ H s) (h : SqT X.K H a xs) (h' : SqT X.K H a ys) : xs = ys := by
  obtain ⟨its, r, ⟨o, e, _, n, d⟩, _⟩ := I.tuple h
  obtain ⟨its', r', ⟨o', e', _, n', d'⟩, _⟩ := I.tuple h'
  rw [e] at e'; cases e'
  rw [d] at d'
  injection d' with d1 _
  have : its = its' := by simpa using congrArg Array.toList d1
  subst this
  exact r.inj r'
end

/-! ### another wish about exceptions -/
abbrev Cx.wish (X : Cx) (E : Value → Shared → Prop) : Cx := { X with xe := E }
/-- no exception leaves -/
abbrev Cx.nox (X : Cx) : Cx := X.wish fun _ _ => False
theorem Cx.Ok.wish {X : Cx} (ok : X.Ok) (E : Value → Shared → Prop) : (X.wish E).Ok :=
  ⟨ok.mod, ok.kind, ok.glob, ok.blt, ok.above, ok.inj, ok.has, ok.cab, ok.hd, ok.frames, ok.stk, ok.exf, ok.bs, ok.bsz, ok.noex, ok.exfs, ok.funs, ok.frf⟩
theorem Cx.Ok.unwish {X : Cx} {E : Value → Shared → Prop} (ok : (X.wish E).Ok) : X.Ok :=
  ⟨ok.mod, ok.kind, ok.glob, ok.blt, ok.above, ok.inj, ok.has, ok.cab, ok.hd, ok.frames, ok.stk, ok.exf, ok.bs, ok.bsz, ok.noex, ok.exfs, ok.funs, ok.frf⟩
section
variable {X : Cx} {pins : List (Addr × Obj)} {σ : St} {H : Hp} {s : Shared} {E : Value → Shared → Prop}
theorem Inv.wish (I : Inv X pins σ H s) (E : Value → Shared → Prop) : Inv (X.wish E) pins σ H s := ⟨I.ok.wish E, I.os, I.bare, I.base, I.loc, I.cell, I.free, I.freeC, I.pin, I.hok, I.len⟩
theorem Inv.unwish (I : Inv (X.wish E) pins σ H s) : Inv X pins σ H s := ⟨I.ok.unwish, I.os, I.bare, I.base, I.loc, I.cell, I.free, I.freeC, I.pin, I.hok, I.len⟩
theorem SP.unwish {D : Ends} {f : Flow} {s' : Shared} (h : SP (X.wish E) pins D f s') : SP X pins D f s' := by
  cases f with
  | next => obtain ⟨σ', H', I, q⟩ := h; exact ⟨σ', H', I.unwish, q⟩
  | brk => obtain ⟨σ', H', I, q⟩ := h; exact ⟨σ', H', I.unwish, q⟩
  | cont => obtain ⟨σ', H', I, q⟩ := h; exact ⟨σ', H', I.unwish, q⟩
  | ret u => obtain ⟨v, σ', H', I, r, q⟩ := h; exact ⟨v, σ', H', I.unwish, r, q⟩
theorem PE.nox {e : Expr} {t : TE} (h : PE X.nox e t) : PE X e t := fun pins s σ H Q I hw =>
  wpAny_mono (h pins s σ H Q (I.wish _) hw) (fun _ _ ⟨v, H', I', r, q⟩ => ⟨v, H', I'.unwish, r, q⟩) fun _ _ z => False.elim z
theorem PT.nox {e : Expr} {t : TT} (h : PT X.nox e t) : PT X e t := fun pins s σ H Q I hw =>
  wpAny_mono (h pins s σ H Q (I.wish _) hw) (fun _ _ ⟨H', I', q⟩ => ⟨H', I'.unwish, q⟩) fun _ _ z => False.elim z
theorem PSs.nox {st : List Stmt} {t : TS} (h : PSs X.nox st t) : PSs X st t := fun pins s σ H D I hw =>
  wpAny_mono (h pins s σ H D (I.wish _) hw) (fun _ _ q => q.unwish) fun _ _ z => False.elim z
end

/-! ### blocks and small statements -/
section
variable {X : Cx} {st : Stmt} {rest : List Stmt} {t u : TS} {e : Expr} {te : TE} {pos : Pos}
def tNext : TS := fun D σ H => D.nx σ H
def tSeq (t u : TS) : TS := fun D σ H => t { D with nx := u D } σ H
theorem pss_nil : PSs X [] tNext := fun _ _ σ H _ I h => wpAny_execs_nil ⟨σ, H, I, h⟩
theorem pss_cons (h1 : PS X st t) (h2 : PSs X rest u) : PSs X (st :: rest) (tSeq t u) := by
  intro pins s σ H D I h
  refine wpAny_execs_cons (thn (h1 pins s σ H { D with nx := u D } I h) fun f s1 q => ?_)
  cases f with
  | next =>
    obtain ⟨σ', H', I', q⟩ := q
    exact h2 pins s1 σ' H' D I' q
  | ret v => exact q
  | brk => exact q
  | cont => exact q
theorem pss_one (h1 : PS X st t) : PSs X [st] t := by
  intro pins s σ H D I h
  refine wpAny_execs_cons (thn (h1 pins s σ H D I h) fun f s1 q => ?_)
  cases f with
  | next => exact wpAny_execs_nil q
  | ret v => exact q
  | brk => exact q
  | cont => exact q
/-- in a def's body nothing is shown -/
theorem Inv.quiet {pins : List (Addr × Obj)} {σ : St} {H : Hp} {s : Shared} (I : Inv X pins σ H s) : interactive X.env = false := by simp [interactive, I.ok.kind]
/-- an expression whose value is dropped -/
def tDrop (te : TE) : TS := fun D σ H => te σ H fun _ H1 => D.nx σ H1
theorem ps_expr (he : PE X e te) (hs : swapsWith e none pos.line X.env = pure false := by rfl) : PS X (.Expr e pos) (tDrop te) := by
  intro pins s σ H D I h
  exact wpAny_Expr_any (thn (he pins s σ H _ I h) fun v s1 ⟨x, H1, I1, r1, q1⟩ => ⟨σ, H1, I1, q1⟩) I.quiet hs
def tRet (te : TE) : TS := fun D σ H => te σ H D.rt
theorem ps_ret (he : PE X e te) : PS X (.Return (some e) pos) (tRet te) := by
  intro pins s σ H D I h
  exact wpAny_Return_some (thn (he pins s σ H _ I h) fun v s1 ⟨x, H1, I1, r1, q1⟩ => ⟨x, σ, H1, I1, r1, q1⟩)
def tIfS (c : TT) (t u : TS) : TS := fun D σ H => c σ H fun b H1 => if b = true then t D σ H1 else u D σ H1
theorem ps_if {c : Expr} {a b : List Stmt} {tc : TT} (hc : PT X c tc) (ha : PSs X a t) (hb : PSs X b u) : PS X (.If c a b pos) (tIfS tc t u) := by
  intro pins s σ H D I h
  refine wpAny_If (thn (hc pins s σ H _ I h) fun d s1 ⟨H1, I1, q1⟩ => ?_)
  cases d with
  | true => exact ha pins s1 σ H1 D I1 q1
  | false => exact hb pins s1 σ H1 D I1 q1
/-- code that the proof never comes to -/
def tNever : TS := fun _ _ _ => False
theorem ps_never : PS X st tNever := fun _ _ _ _ _ _ h => h.elim
end

/-! ### targets -/
abbrev TG := V → St → Hp → (St → Hp → Prop) → Prop
abbrev TGs := List V → St → Hp → (St → Hp → Prop) → Prop
def PG (X : Cx) (target : Expr) (t : TG) : Prop :=
  ∀ (pins : List (Addr × Obj)) (s : Shared) (σ : St) (H : Hp) (v : V) (u : Value) (Q : St → Hp → Prop), Inv X pins σ H s → RelV v u → t v σ H Q →
    wpAny (model X.prog X.w) X.A (assign target X.env u) (fun _ s' => ∃ σ' H', Inv X pins σ' H' s' ∧ Q σ' H') X.xe s
/-- several targets, one after another -/
def PGs (X : Cx) (ts : List Expr) (t : TGs) : Prop :=
  ∀ (pins : List (Addr × Obj)) (s : Shared) (σ : St) (H : Hp) (vs : List V) (us : List Value) (Q : St → Hp → Prop), Inv X pins σ H s → Vals vs us → t vs σ H Q →
    wpAny (model X.prog X.w) X.A (assignInOrder ((assignEach ts X.env).map (·.2)) us) (fun _ s' => ∃ σ' H', Inv X pins σ' H' s' ∧ Q σ' H') X.xe s
/-- o[i] = v, by values -/
abbrev TSet := V → V → V → Hp → (Hp → Prop) → Prop
def PSet (X : Cx) (t : TSet) : Prop :=
  ∀ (pins : List (Addr × Obj)) (s : Shared) (σ : St) (H : Hp) (o i v : V) (ov iv u : Value) (Q : Hp → Prop), Inv X pins σ H s → RelV o ov → RelV i iv → RelV v u → t o i v H Q →
    wpAny (model X.prog X.w) X.A (setItem ov iv u) (fun _ s' => ∃ H', Inv X pins σ H' s' ∧ Q H') X.xe s
section
variable {X : Cx} {pos : Pos}
def gName (i : Nat) : TG := fun v σ H Q => Q (σ.set i (some v)) H
theorem pg_name {i : Nat} {x : Str} (hN : X.N.Nodup) (hi : X.N[i]? = some x) (hx : Loc X.env.scope x) (hf : X.fn x = true ∨ X.env.scope.names.lookup x = some .local := by first | exact .inl rfl | exact .inr rfl | assumption) : PG X (.Name x pos) (gName i) := by
  intro pins s σ H v u Q I r h
  exact wpAny_assign_Name (store_ok I hN hi hx r (fun s' I' => ⟨_, H, I', h⟩) hf)
def gNil : TGs := fun vs σ H Q => vs = [] ∧ Q σ H
def gCons (t : TG) (u : TGs) : TGs := fun vs σ H Q => ∃ v r, vs = v :: r ∧ t v σ H fun σ' H' => u r σ' H' Q
theorem pgs_nil : PGs X [] gNil := by
  intro pins s σ H vs us Q I r h
  obtain ⟨e, h⟩ := h
  subst e
  cases r
  exact assignInOrder_nil ⟨σ, H, I, h⟩
theorem pgs_cons {e : Expr} {es : List Expr} {t : TG} {u : TGs} (h1 : PG X e t) (h2 : PGs X es u)
    (hs : (assignEach (e :: es) X.env).map (·.2) = assign e X.env :: (assignEach es X.env).map (·.2) := by rfl) : PGs X (e :: es) (gCons t u) := by
  intro pins s σ H vs us Q I r h
  obtain ⟨v, vr, e1, h⟩ := h
  subst e1
  cases r with
  | cons r rr =>
    rw [hs]
    refine assignInOrder_cons (thn (h1 pins s σ H _ _ _ I r h) fun _ s1 ⟨σ1, H1, I1, q1⟩ => ?_)
    exact h2 pins s1 σ1 H1 _ _ Q I1 rr q1
/-- (a, b, ..) = a tuple of that length -/
def gTup (K : PySem.W.Frag) (n : Nat) (t : TGs) : TG := fun v σ H Q => ∃ a xs, v = .ref a ∧ SqT K H a xs ∧ xs.length = n ∧ t xs σ H Q
theorem pg_tup {es : List Expr} {k : Nat} {t : TGs} {n : Nat} (hc : X.calm = true) (h : PGs X es t)
    (hn : (assignEach es X.env).length = n := by rfl) (hst : (assignEach es X.env).findIdx? (·.1) = none := by rfl) : PG X (.Tuple es k pos) (gTup X.K n t) := by
  intro pins s σ H v u Q I r hw
  obtain ⟨a, xs, e1, hq, hl, hw⟩ := hw
  subst e1
  cases r
  obtain ⟨its, rv, ht, hz⟩ := I.tuple hq
  refine assign_Tuple_tuple (I.ok.hd hc) ht (by simp [hn, ← hl, rv.length]) hst fun h' hx => ?_
  have I1 : Inv X pins σ H { s with heap := h' } := I.kept (t' := s.toks) fun b o e => hx b o (Nat.ne_of_lt (Heap.lt_size e)) e
  exact h pins _ σ H xs _ Q I1 (by simpa using rv) hw
/-- o[i] = .. -/
def gSub (to ti : TE) (t : TSet) : TG := fun v σ H Q => to σ H fun o H1 => ti σ H1 fun i H2 => t o i v H2 fun H3 => Q σ H3
theorem pg_sub {o i : Expr} {to ti : TE} {t : TSet} (ho : PE X o to) (hi : PE X i ti) (hs : PSet X t)
    (ha : ∀ v, assign (.Subscript o i pos) X.env v = (do
      let ov ← holding [v] (eval o X.env)
      let iv ← holding [v, ov] (eval i X.env)
      standAt pos
      holding [v, ov, iv] (setItem ov iv v)
      release [v, ov, iv] []) := by intro _; rfl) : PG X (.Subscript o i pos) (gSub to ti t) := by
  intro pins s σ H v u Q I r h
  rw [ha]
  refine wpAny_bind (wpAny_holding (thn (ho pins s σ H _ I h) fun ov s1 ⟨x, H1, I1, r1, q1⟩ => ?_))
  refine wpAny_bind (wpAny_holding (thn (hi pins s1 σ H1 _ I1 q1) fun iv s2 ⟨y, H2, I2, r2, q2⟩ => ?_))
  refine wpAny_bind (wpAny_standAt (wpAny_bind (wpAny_holding (thn (hs pins s2 σ H2 x y v ov iv u _ I2 r1 r2 r q2) fun _ s3 ⟨H3, I3, q3⟩ => ?_))))
  exact wpAny_release ⟨σ, H3, I3, q3⟩
/-- target = value -/
def tAsg (te : TE) (g : TG) : TS := fun D σ H => te σ H fun x H1 => g x σ H1 D.nx
theorem ps_asg {tg e : Expr} {te : TE} {g : TG} (he : PE X e te) (hg : PG X tg g) (hs : swapsWithSole [tg] e pos.line X.env = pure false := by rfl) (hw : swappedStores [tg] e X.env = pure none := by rfl)
    (h1 : (assignEach [tg] X.env).map (·.2) = [assign tg X.env] := by rfl) : PS X (.Assign [tg] e pos) (tAsg te g) := by
  intro pins s σ H D I h
  refine wpAny_Assign_stores (thn (he pins s σ H _ I h) fun v s1 ⟨x, H1, I1, r1, q1⟩ => ?_) hs hw
  rw [h1]
  exact thn (hg pins s1 σ H1 x v _ I1 r1 q1) fun _ s2 q => q
/-- name = value -/
theorem ps_set {i : Nat} {x : Str} {e : Expr} {te : TE} {pos' : Pos} (hN : X.N.Nodup) (hi : X.N[i]? = some x) (hx : Loc X.env.scope x) (he : PE X e te) (hs : swapsWith e (some (.Name x pos')) pos.line X.env = pure false := by rfl) (hf : X.fn x = true ∨ X.env.scope.names.lookup x = some .local := by first | exact .inl rfl | exact .inr rfl | assumption) :
    PS X (.Assign [.Name x pos'] e pos) (tAsg te (gName i)) := by
  intro pins s σ H D I h
  refine wpAny_Assign_Name (thn (he pins s σ H _ I h) fun v s1 ⟨y, H1, I1, r1, q1⟩ => ?_) hs
  exact store_ok I1 hN hi hx r1 (fun s2 I2 => ⟨_, H1, I2, q1⟩) hf
/-- a, b = x, y with plain local names: stored from the right; the pair itself is not tracked (the opening rows as in PyProof/Rows/TupAssign.lean:23) -/
def tPar (i j : Nat) (ta : TA) : TS := fun D σ H => ta σ H fun vs H1 => ∃ v w, vs = [v, w] ∧ D.nx ((σ.set i (some v)).set j (some w)) H1
theorem ps_par {i j : Nat} {x y : Str} {a b : Expr} {ta : TA} {px py pt : Pos} {kt k2 pt2} (hc : X.calm = true) (hN : X.N.Nodup) (hi : X.N[i]? = some x) (hj : X.N[j]? = some y) (hij : i ≠ j)
    (hx : X.env.scope.names.lookup x = some .local) (hy : X.env.scope.names.lookup y = some .local) (ha : PA X [a, b] ta)
    (hw : swappedStores [.Tuple [.Name x px, .Name y py] kt pt] (.Tuple [a, b] k2 pt2) X.env = pure (some [x, y]))
    (hs : swapsWithSole [.Tuple [.Name x px, .Name y py] kt pt] (.Tuple [a, b] k2 pt2) pos.line X.env = pure false := by rfl) :
    PS X (.Assign [.Tuple [.Name x px, .Name y py] kt pt] (.Tuple [a, b] k2 pt2) pos) (tPar i j ta) := by
  intro pins s σ H D I h
  rw [exec_Assign_arm]
  refine wpAny_bind (wpAny_standAt ?_)
  rw [hs]
  refine wpAny_bind (wpAny_pure ?_)
  rw [if_neg (by decide)]
  refine wpAny_bind (Tuple_ (thn (ha _ pins s σ H _ I h) fun us s1 ⟨vs, H1, I1, r1, q1⟩ => ?_))
  obtain ⟨v, w, e1, q1⟩ := q1
  subst e1
  obtain ⟨u1, u2, rfl, rv, rw'⟩ : ∃ u1 u2, us = [u1, u2] ∧ RelV v u1 ∧ RelV w u2 := by
    cases r1 with
    | cons p q =>
      cases q with
      | cons p' q' =>
        cases q'
        exact ⟨_, _, rfl, p, p'⟩
  refine wpAny_newObj_type ?_ (by show 2 ≤ sizeLine; decide)
  have I2 : Inv X pins σ H1 { s1 with heap := s1.heap.push { cls := .type "tuple", data := .seq [u1, u2].toArray } } := I1.kept (t' := s1.toks) fun b o e => Heap.get?_push_of_some _ e
  rw [hw]
  refine wpAny_bind (wpAny_pure ?_)
  show wpAny (model X.prog X.w) X.A (do rule "assign.swapped-stores"; let items ← unpackItems (.ref s1.heap.objs.size) 2 none; assignInOrder [fun v => bindName X.env y v, fun v => bindName X.env x v] items.reverse; pure Flow.next) _ _ _
  refine wpAny_bind (wpAny_rule (wpAny_bind (unpackItems_tuple (items := #[u1, u2]) (I.ok.hd hc) (IsTup.new s1.heap _) fun h' hx' => ?_)))
  have I3 := I2.kept (h' := h') (t' := s1.toks) fun b o e => hx' b o (Nat.ne_of_lt (Heap.lt_size e)) e
  show wpAny _ _ (assignInOrder [fun v => bindName X.env y v, fun v => bindName X.env x v] [u2, u1] >>= fun _ => pure Flow.next) _ _ _
  refine wpAny_bind (assignInOrder_cons (wpAny_bindName (store_ok I3 hN hj (.inl hy) rw' (fun s2 I4 => ?_) (.inr hy))))
  refine assignInOrder_cons (wpAny_bindName (store_ok I4 hN hi (.inl hx) rv (fun s3 I5 => assignInOrder_nil (wpAny_pure ?_)) (.inr hx)))
  rw [List.set_comm _ _ (Ne.symm hij)] at I5
  exact ⟨_, H1, I5, q1⟩
end

/-! ### while -/
section
variable {X : Cx} {pos : Pos}
/-- the invariant W with its measure -/
def tWhile (c : TT) (tb : TS) : TS := fun D σ H => ∃ W : Nat → St → Hp → Prop, (∃ m, W m σ H) ∧ ∀ m σ H, W m σ H →
  c σ H fun b H1 => if b = true then ∃ N : St → Hp → Prop, (∀ σ' H', N σ' H' → ∃ m', m' < m ∧ W m' σ' H') ∧ tb { D with nx := N, ct := N, bk := D.nx } σ H1 else D.nx σ H1
theorem ps_while {c : Expr} {body : List Stmt} {tc : TT} {tb : TS} (hp : PassesOwn (model X.prog X.w) X.A X.env X.xe) (hc : PT X c tc) (hb : PSs X body tb) : PS X (.While c body [] pos) (tWhile tc tb) := by
  intro pins s σ H D I h
  obtain ⟨W, ⟨m0, w0⟩, turn⟩ := h
  refine wpAny_While (codeAny_whileLoop (fun n s' => ∃ σ' H', Inv X pins σ' H' s' ∧ W n σ' H') ?_ m0 ⟨σ, H, I, w0⟩)
  rintro n s1 ⟨σ1, H1, I1, w1⟩
  refine wpAny_passesOwn hp (thn (hc pins s1 σ1 H1 _ I1 (turn n σ1 H1 w1)) fun b s2 ⟨H2, I2, q2⟩ => ?_)
  cases b with
  | true =>
    obtain ⟨N, hN, q2⟩ := q2
    rw [if_pos rfl]
    refine wpAny_passesOwn hp (thn (hb pins s2 σ1 H2 _ I2 q2) fun f s3 q3 => ?_)
    cases f with
    | next =>
      obtain ⟨σ3, H3, I3, n3⟩ := q3
      obtain ⟨m', hm, w3⟩ := hN σ3 H3 n3
      exact ⟨m', hm, σ3, H3, I3, w3⟩
    | cont =>
      obtain ⟨σ3, H3, I3, n3⟩ := q3
      obtain ⟨m', hm, w3⟩ := hN σ3 H3 n3
      exact ⟨m', hm, σ3, H3, I3, w3⟩
    | brk => exact q3
    | ret v => exact q3
  | false =>
    rw [if_neg Bool.false_ne_true]
    exact wpAny_execs_nil ⟨σ1, H2, I2, q2⟩
end

/-! ### what a loop or a comprehension walks -/
/-- at turn i: it yields x (the heap may grow), or it stops -/
structure It where
  go : Nat → Hp → Prop
  yld : Nat → Hp → V → Hp → Prop
  stop : Nat → Hp → Prop
/-- the iterator's own objects may turn: they are not the frame's, not pinned, younger than the entry (or a comprehension's own) -/
def FpOk (X : Cx) (pins : List (Addr × Obj)) (H : Hp) (b : Addr) : Prop :=
  H b = none ∧ b ≠ X.env.locals ∧ b ∉ X.fs ∧ (b ∈ X.ex ∨ X.s₀.heap.objs.size ≤ b) ∧ (∀ x c, X.env.cells.lookup x = some c → c ≠ b) ∧ ∀ p ∈ X.pn ++ pins, p.1 ≠ b
theorem Inv.fpOk {X : Cx} {pins : List (Addr × Obj)} {σ : St} {H H' : Hp} {s : Shared} {b : Addr} (I : Inv X pins σ H s) (hb : s.heap.objs.size ≤ b) (hn : H' b = none) : FpOk X pins H' b := by
  refine ⟨hn, Nat.ne_of_gt (Nat.lt_of_lt_of_le I.lt hb), I.nofs hb, .inr (Nat.le_trans I.sz hb), fun x c e z => ?_, fun p hp z => ?_⟩
  · obtain ⟨v, q⟩ := I.cell x c e
    exact absurd (Nat.lt_of_lt_of_le q.lt (by rw [z]; exact hb)) (Nat.lt_irrefl _)
  · exact absurd (Nat.lt_of_lt_of_le (Heap.lt_size (I.pin p hp).1) (by rw [z]; exact hb)) (Nat.lt_irrefl _)
structure Turn (P : Program) (w : World) (K : PySem.W.Frag) (tg : Expr) (J : It) (fp : List Addr) (it : Addr) (tn : Nat → Heap → Prop) : Prop where
  mem : it ∈ fp
  obj : ∀ i h, tn i h → ∀ b ∈ fp, ∃ o, h.get? b = some o ∧ ∀ v, o.data ≠ .cell v
  keep : ∀ i h h', tn i h → (∀ b ∈ fp, ∀ o, h.get? b = some o → h'.get? b = some o) → tn i h'
  item : ∀ (X : Cx), X.prog = P → X.w = w → X.K = K → X.calm = true → ∀ (i : Nat) (pins : List (Addr × Obj)) (s : Shared) (σ : St) (H : Hp) (E : Value → Shared → Prop), Inv X pins σ H s → (∀ b ∈ fp, FpOk X pins H b) → tn i s.heap → J.go i H →
    wpAny (model P w) X.A (pyNext (.ref it)) (fun r s1 => ∃ u, r = some u ∧
      wpAny (model P w) X.A (letOwnedTupleGo tg (.ref it) u) (fun _ s2 => ∃ x H', Inv X pins σ H' s2 ∧ RelV x u ∧ J.yld i H x H' ∧ tn (i + 1) s2.heap ∧ ∀ b ∈ fp, H' b = none) E s1) E s
  done : ∀ (X : Cx), X.prog = P → X.w = w → X.K = K → X.calm = true → ∀ (i : Nat) (pins : List (Addr × Obj)) (s : Shared) (σ : St) (H : Hp) (E : Value → Shared → Prop), Inv X pins σ H s → (∀ b ∈ fp, FpOk X pins H b) → tn i s.heap → J.stop i H →
    wpAny (model P w) X.A (pyNext (.ref it)) (fun r s1 => r = none ∧ Inv X pins σ H s1) E s
  self : ∀ (A : Around) (i : Nat) (s : Shared) (Q : Value → Shared → Prop) (E : Value → Shared → Prop), tn i s.heap → Q (.ref it) s → wpAny (model P w) A (pyIter (.ref it)) Q E s
abbrev TI := St → Hp → (It → Hp → Prop) → Prop
/-- an iterator has come -/
def PIE (X : Cx) (pins : List (Addr × Obj)) (σ : St) (tg : Expr) (R : It → Hp → Prop) (itv : Value) (s2 : Shared) : Prop :=
  ∃ (it : Addr) (fp : List Addr) (tn : Nat → Heap → Prop) (J : It) (H' : Hp), itv = .ref it ∧ Inv X pins σ H' s2 ∧ Turn X.prog X.w X.K tg J fp it tn ∧ tn 0 s2.heap ∧ (∀ b ∈ fp, FpOk X pins H' b) ∧ R J H'
def PI (X : Cx) (tg iter : Expr) (wi : TI) : Prop :=
  ∀ (pins : List (Addr × Obj)) (s : Shared) (σ : St) (H : Hp) (R : It → Hp → Prop), Inv X pins σ H s → wi σ H R →
    wpAny (model X.prog X.w) X.A (eval iter X.env) (fun v s1 => wpAny (model X.prog X.w) X.A (pyIter v) (PIE X pins σ tg R) X.xe s1) X.xe s

/-- the step ahead of the store is nothing for an iterator that keeps no tuple -/
theorem go_of {M : Model} {A : Around} {E : Value → Shared → Prop} {s : Shared} {tg : Expr} {it : Addr} {u : Value} {o : Obj} {n : String} {vs : Array Value} {Q : Unit → Shared → Prop} (ho : s.heap.get? it = some o) (hc : o.cls = .type n) (hd : o.data = .fields vs)
    (hn : ["enumerate", "zip", "dict_itemiterator", "dict_reverseitemiterator", "odict_iterator", "itertools.zip_longest", "itertools.pairwise"].contains n = false) (hQ : Q () s) : wpAny M A (letOwnedTupleGo tg (.ref it) u) Q E s := by
  unfold letOwnedTupleGo
  cases tg <;> first
    | exact wpAny_pure hQ
    | (cases u <;> first
        | exact wpAny_pure hQ
        | (refine wpAny_bind (wpAny_load ho ?_)
           rw [hc, hd]
           show wpAny M A (if (["enumerate", "zip", "dict_itemiterator", "dict_reverseitemiterator", "odict_iterator", "itertools.zip_longest", "itertools.pairwise"].contains n && vs[0]? == some (rawInt _)) = true then _ else _) Q E s
           rw [if_neg (by intro h; rw [hn, Bool.false_and] at h; cases h)]
           exact wpAny_pure hQ))

/-- the list at a, as it stands at each turn (a loop may append to it) -/
def Itl (K : PySem.W.Frag) (a : Addr) : It :=
  ⟨fun i H => ∃ xs x, SqL K H a xs ∧ xs[i]? = some x, fun i H x H' => H' = H ∧ ∀ xs, SqL K H a xs → xs[i]? = some x, fun i H => ∃ xs, SqL K H a xs ∧ xs.length ≤ i⟩
def Itt (K : PySem.W.Frag) (a : Addr) : It :=
  ⟨fun i H => ∃ xs x, SqT K H a xs ∧ xs[i]? = some x, fun i H x H' => H' = H ∧ ∀ xs, SqT K H a xs → xs[i]? = some x, fun i H => ∃ xs, SqT K H a xs ∧ xs.length ≤ i⟩
/-- lo, lo + 1, .. (n of them) -/
def Itr (lo : Int) (n : Nat) : It := ⟨fun i _ => i < n, fun i H x H' => H' = H ∧ x = .int (lo + i), fun i _ => n ≤ i⟩
theorem turn_list {P : Program} {w : World} {K : PySem.W.Frag} {tg : Expr} (a it : Addr) : Turn P w K tg (Itl K a) [it] it (fun i h => h.IsListIter it a i) where
  mem := by simp
  obj := fun i h st b hb => by
    have e : b = it := by simpa using hb
    subst e
    obtain ⟨o, e, c, d⟩ := st
    exact ⟨o, e, fun v z => by rw [d] at z; cases z⟩
  keep := fun i h h' st k => st.at fun o e => k it (by simp) o e
  item := by
    intro X hP hw hK hc i pins s σ H E I hf st hg
    subst hP hw hK
    obtain ⟨xs, x, hq, hx⟩ := hg
    obtain ⟨its, rv, p, hz⟩ := I.list hq
    obtain ⟨u, hu, ru⟩ := rv.get hx
    obtain ⟨f0, f1, f2, f3, f4, f5⟩ := hf it (by simp)
    refine wpAny_pyNext_list_item st p.isList (x := u) (by simpa using hu) fun h' st' sb => ?_
    have I1 : Inv X pins σ H { s with heap := h' } := I.turned (t' := s.toks) (fun b o hb e => (sb.2 b hb).trans e) f0 f1 f3 f4 f5
    obtain ⟨o, e, c, d⟩ := id st'
    exact ⟨u, rfl, go_of (s := { s with heap := h' }) e c d (by decide) ⟨x, H, I1, ru, ⟨rfl, fun ys hy => by rw [I.list_inj hy hq]; exact hx⟩, st', fun b hb => (hf b hb).1⟩⟩
  done := by
    intro X hP hw hK hc i pins s σ H E I hf st hg
    subst hP hw hK
    obtain ⟨xs, hq, hx⟩ := hg
    obtain ⟨its, rv, p, hz⟩ := I.list hq
    obtain ⟨f0, f1, f2, f3, f4, f5⟩ := hf it (by simp)
    have hl := rv.length
    exact wpAny_pyNext_list_end (I.ok.hd hc) st p.isList (by simp; omega) fun h' eb => ⟨rfl, I.turned (t' := s.toks) (fun b o hb e => eb b o hb e) f0 f1 f3 f4 f5⟩
  self := fun _ _ _ _ _ st h => wpAny_pyIter_listiter st h
theorem turn_tuple {P : Program} {w : World} {K : PySem.W.Frag} {tg : Expr} (a it : Addr) : Turn P w K tg (Itt K a) [it] it (fun i h => h.IsTupleIter it a i) where
  mem := by simp
  obj := fun i h st b hb => by
    have e : b = it := by simpa using hb
    subst e
    obtain ⟨o, e, c, d⟩ := st
    exact ⟨o, e, fun v z => by rw [d] at z; cases z⟩
  keep := fun i h h' st k => st.at fun o e => k it (by simp) o e
  item := by
    intro X hP hw hK hc i pins s σ H E I hf st hg
    subst hP hw hK
    obtain ⟨xs, x, hq, hx⟩ := hg
    obtain ⟨its, rv, p, hz⟩ := I.tuple hq
    obtain ⟨u, hu, ru⟩ := rv.get hx
    obtain ⟨f0, f1, f2, f3, f4, f5⟩ := hf it (by simp)
    refine wpAny_pyNext_tuple_item st (show s.heap.IsTuple a its.toArray from p) (x := u) (by simpa using hu) fun h' st' sb => ?_
    have I1 : Inv X pins σ H { s with heap := h' } := I.turned (t' := s.toks) (fun b o hb e => (sb.2 b hb).trans e) f0 f1 f3 f4 f5
    obtain ⟨o, e, c, d⟩ := id st'
    exact ⟨u, rfl, go_of (s := { s with heap := h' }) e c d (by decide) ⟨x, H, I1, ru, ⟨rfl, fun ys hy => by rw [I.tuple_inj hy hq]; exact hx⟩, st', fun b hb => (hf b hb).1⟩⟩
  done := by
    intro X hP hw hK hc i pins s σ H E I hf st hg
    subst hP hw hK
    obtain ⟨xs, hq, hx⟩ := hg
    obtain ⟨its, rv, p, hz⟩ := I.tuple hq
    obtain ⟨f0, f1, f2, f3, f4, f5⟩ := hf it (by simp)
    have hl := rv.length
    exact wpAny_pyNext_tuple_end (I.ok.hd hc) st (show s.heap.IsTuple a its.toArray from p) (by simp; omega) fun h' eb => ⟨rfl, I.turned (t' := s.toks) (fun b o hb e => eb b o hb e) f0 f1 f3 f4 f5⟩
  self := fun _ _ _ _ _ st h => wpAny_pyIter_tupleiter st h
theorem turn_range {P : Program} {w : World} {K : PySem.W.Frag} {tg : Expr} (it : Addr) (lo : Int) (n : Nat) : Turn P w K tg (Itr lo n) [it] it (fun i h => IsRangeIter h it (lo + (i : Nat) * 1) ((n : Int) - (i : Nat)) 1) where
  mem := by simp
  obj := fun i h st b hb => by
    have e : b = it := by simpa using hb
    subst e
    exact ⟨_, st, fun v z => by
      have z' : Data.fields _ = Data.cell v := z
      cases z'⟩
  keep := fun i h h' st k => k it (by simp) _ st
  item := by
    intro X hP hw hK hc i pins s σ H E I hf st hg
    subst hP hw hK
    obtain ⟨f0, f1, f2, f3, f4, f5⟩ := hf it (by simp)
    have W := Walks.range (prog := X.prog) (w := X.w) (I.ok.hd hc) it lo 1 n
    refine W.item i s _ _ hg st fun v h' tk hv st' kk => ?_
    obtain ⟨t, rfl⟩ := hv
    have I1 : Inv X pins σ H { s with heap := h', toks := tk } := I.turned (fun b o hb e => kk b o (by simpa using hb) e) f0 f1 f3 f4 f5
    refine ⟨_, rfl, go_of (s := { s with heap := h', toks := tk }) (n := "range_iterator") st' rfl rfl (by decide) ⟨.int (lo + i), H, I1, ⟨t, ?_⟩, ⟨rfl, rfl⟩, st', fun b hb => (hf b hb).1⟩⟩
    rw [Int.mul_one]
  done := by
    intro X hP hw hK hc i pins s σ H E I hf st hg
    subst hP hw hK
    obtain ⟨f0, f1, f2, f3, f4, f5⟩ := hf it (by simp)
    exact wpAny_pyNext_range_end (I.ok.hd hc) st (by have : n ≤ i := hg; omega) fun h' eb => ⟨rfl, I.turned (t' := s.toks) (fun b o hb e => eb b o hb e) f0 f1 f3 f4 f5⟩
  self := fun _ _ _ _ _ st h => wpAny_pyIter_rangeiter st h
end L2

namespace L2
open PySem PySem.Spec PyProof.Rows
section
variable {X : Cx} {tg : Expr}
/-- a range object just made, walked -/
theorem range_it {pins : List (Addr × Obj)} {σ : St} {H : Hp} {s : Shared} {R : It → Hp → Prop} {E : Value → Shared → Prop} {lo hi : Int} {t u v : Tok} {tk : Nat} (I : Inv X pins σ H s) (h1 : -(2 ^ 62) ≤ lo) (h2 : lo < 2 ^ 62) (h3 : -(2 ^ 62) ≤ hi) (h4 : hi < 2 ^ 62)
    (q : R (Itr lo (hi - lo).toNat) H) : wpAny (model X.prog X.w) X.A (pyIter (.ref s.heap.objs.size)) (PIE X pins σ tg R) E { s with heap := s.heap.push { cls := .type "range", data := .fields #[.int lo t, .int hi u, .int 1 v] }, toks := tk } := by
  refine wpAny_pyIter_range (IsRange.new ..) (small_one h1 h2 h3 h4) ?_
  have I1 : Inv X pins σ H { s with heap := s.heap.push { cls := .type "range", data := .fields #[.int lo t, .int hi u, .int 1 v] }, toks := tk } := I.kept fun b o e => Heap.get?_push_of_some _ e
  refine ⟨(s.heap.push { cls := .type "range", data := .fields #[.int lo t, .int hi u, .int 1 v] }).objs.size, [(s.heap.push { cls := .type "range", data := .fields #[.int lo t, .int hi u, .int 1 v] }).objs.size], _, _, H, rfl,
    I1.kept (t' := tk) fun b o e => Heap.get?_push_of_some _ e, turn_range _ lo (hi - lo).toNat, ?_, fun b hb => ?_, q⟩
  · have e1 : lo + ((0 : Nat) : Int) * 1 = lo := by simp
    have e2 : (((hi - lo).toNat : Nat) : Int) - ((0 : Nat) : Int) = Builtin.Range.rangeSize lo hi 1 := by rw [rangeSize_one]; split <;> omega
    show IsRangeIter _ _ (lo + ((0 : Nat) : Int) * 1) ((((hi - lo).toNat : Nat) : Int) - ((0 : Nat) : Int)) 1
    rw [e1, e2]
    exact Heap.get?_push_size _ rfl
  · have e : b = (s.heap.push { cls := .type "range", data := .fields #[.int lo t, .int hi u, .int 1 v] }).objs.size := by simpa using hb
    subst e
    exact I1.fpOk (Nat.le_refl _) (I1.hok.fresh (Nat.le_refl _))
def iRng1 (ta : TA) : TI := fun σ H R => ta σ H fun vs H1 => ∃ j : Int, vs = [.int j] ∧ -(2 ^ 62) ≤ j ∧ j < 2 ^ 62 ∧ R (Itr 0 j.toNat) H1
def iRng2 (ta : TA) : TI := fun σ H R => ta σ H fun vs H1 => ∃ i j : Int, vs = [.int i, .int j] ∧ (-(2 ^ 62) ≤ i ∧ i < 2 ^ 62 ∧ -(2 ^ 62) ≤ j ∧ j < 2 ^ 62) ∧ R (Itr i (j - i).toNat) H1
theorem pi_range1 {a : Expr} {ta : TA} {p pos : Pos} (hg : Gl X "range") (hm : X.mg "range" = none) (ha : PA X [a] ta) (hs : starEach [a] X.env = [(false, eval a X.env)] := by rfl) : PI X tg (.Call (.Name "range" p) [a] [] pos) (iRng1 ta) := by
  intro pins s σ H R I h
  refine Call_ (ld_blt I hg hm boot_range (PyProof.Rows.callWith_type1 (thn (ha pos pins s σ H _ I h) fun us s1 ⟨vs, H1, I1, r1, q1⟩ => ?_) hs rfl))
  obtain ⟨j, e, q1, q2, q⟩ := q1
  subst e
  cases r1 with
  | cons r rr =>
    cases rr
    obtain ⟨t, rfl⟩ := r
    exact call_range_1 (range_it I1 (by omega) (by omega) q1 q2 (by simpa using q))
theorem pi_range2 {a b : Expr} {ta : TA} {p pos : Pos} (hg : Gl X "range") (hm : X.mg "range" = none) (ha : PA X [a, b] ta) (hs : starEach [a, b] X.env = [(false, eval a X.env), (false, eval b X.env)] := by rfl) (hs2 : starEach [b] X.env = [(false, eval b X.env)] := by rfl) :
    PI X tg (.Call (.Name "range" p) [a, b] [] pos) (iRng2 ta) := by
  intro pins s σ H R I h
  refine Call_ (ld_blt I hg hm boot_range (PyProof.Rows.callWith_type1 (thn (ha pos pins s σ H _ I h) fun us s1 ⟨vs, H1, I1, r1, q1⟩ => ?_) (by rw [hs, hs2]) (by rw [hs2]; rfl)))
  obtain ⟨i, j, e, ⟨q1, q2, q3, q4⟩, q⟩ := q1
  subst e
  cases r1 with
  | cons r rr =>
    cases rr with
    | cons r' rr =>
      cases rr
      obtain ⟨t, rfl⟩ := r
      obtain ⟨t', rfl⟩ := r'
      exact call_range_2 (range_it I1 q1 q2 q3 q4 q)

/-! ### for -/
/-- W: the invariant by the turn and a measure; N: what the body is to reach -/
def tFor (wi : TI) (g : TG) (tb : TS) : TS := fun D σ H => wi σ H fun J H1 => ∃ W : Nat → Nat → St → Hp → Prop, (∃ m, W 0 m σ H1) ∧ ∀ i m σ H, W i m σ H →
  (J.stop i H ∧ D.nx σ H) ∨ (J.go i H ∧ ∃ N : St → Hp → Prop, (∀ σ' H', N σ' H' → ∃ m', m' < m ∧ W (i + 1) m' σ' H') ∧ ∀ x H', J.yld i H x H' → g x σ H' fun σ2 H2 => tb { D with nx := N, ct := N, bk := D.nx } σ2 H2)
/-- the records at fp as they stand -/
def pinsAt (fp : List Addr) (h : Heap) : List (Addr × Obj) := fp.filterMap fun b => (h.get? b).map fun o => (b, o)
theorem mem_pinsAt {fp : List Addr} {h : Heap} {b : Addr} {o : Obj} (hb : b ∈ fp) (e : h.get? b = some o) : (b, o) ∈ pinsAt fp h := List.mem_filterMap.mpr ⟨b, hb, by rw [e]; rfl⟩
theorem of_pinsAt {fp : List Addr} {h : Heap} {p : Addr × Obj} (hp : p ∈ pinsAt fp h) : p.1 ∈ fp ∧ h.get? p.1 = some p.2 := by
  obtain ⟨b, hb, e⟩ := List.mem_filterMap.mp hp
  cases q : h.get? b with
  | none => rw [q] at e; cases e
  | some o =>
    rw [q] at e
    have e' : (b, o) = p := Option.some.inj e
    subst e'
    exact ⟨hb, q⟩
theorem Inv.pinned {pins : List (Addr × Obj)} {σ : St} {H : Hp} {s : Shared} {fp : List Addr} (I : Inv X pins σ H s) (hf : ∀ b ∈ fp, FpOk X pins H b) (ho : ∀ b ∈ fp, ∃ o, s.heap.get? b = some o ∧ ∀ v, o.data ≠ .cell v) : Inv X (pins ++ pinsAt fp s.heap) σ H s :=
  I.pins_of fun p hp => (List.mem_append.mp hp).elim (fun z => I.pin p (List.mem_append_right _ z)) fun z => by
    obtain ⟨hb, e⟩ := of_pinsAt z
    obtain ⟨f0, f1, f2, _⟩ := hf p.1 hb
    obtain ⟨o, e', d⟩ := ho p.1 hb
    rw [e] at e'; cases e'
    exact ⟨e, f0, f1, f2, d⟩
theorem Inv.unpinned {pins pl : List (Addr × Obj)} {σ : St} {H : Hp} {s : Shared} (I : Inv X (pins ++ pl) σ H s) : Inv X pins σ H s := I.pins_of fun p hp => I.pin p (List.mem_append_right _ (List.mem_append_left _ hp))
theorem ps_for {iter : Expr} {body : List Stmt} {wi : TI} {g : TG} {tb : TS} {pos : Pos} (hp : PassesOwn (model X.prog X.w) X.A X.env X.xe) (hc : X.calm = true) (hi : PI X tg iter wi) (hg : PG X tg g) (hb : PSs X body tb)
    (hs : ∀ x, foldedSetIterable iter X.env x = pure x := by intro _; rfl) : PS X (.For tg iter body [] pos) (tFor wi g tb) := by
  intro pins s σ H D I h
  refine wpAny_For (thn (hi pins s σ H _ I h) fun v s1 h1 => thn h1 fun itv s2 h2 => ?_) hs
  obtain ⟨it, fp, tn, J, H2, e, I2, T, st2, f2, W, ⟨m0, w0⟩, turn⟩ := h2
  subst e
  -- what stays true of the iterator's objects through the loop
  have stat : ∀ {H' : Hp}, (∀ b ∈ fp, H' b = none) → ∀ b ∈ fp, FpOk X pins H' b := fun hn b hb => ⟨hn b hb, (f2 b hb).2⟩
  refine codeAny_forLoop_any (fun n s' => ∃ i σ' H', Inv X pins σ' H' s' ∧ tn i s'.heap ∧ (∀ b ∈ fp, H' b = none) ∧ W i n σ' H') ?_ m0 ⟨0, σ, H2, I2, st2, fun b hb => (f2 b hb).1, w0⟩
  rintro n s3 ⟨i, σ3, H3, I3, st3, fr3, w3⟩
  rcases turn i n σ3 H3 w3 with ⟨stop, qn⟩ | ⟨go, N, hN, step⟩
  · refine wpAny_passesOwn hp (thn (T.done X rfl rfl rfl hc i pins s3 σ3 H3 X.xe I3 (stat fr3) st3 stop) fun r s4 ⟨hr, I4⟩ => ?_)
    subst hr
    exact wpAny_execs_nil ⟨σ3, H3, I4, qn⟩
  · refine wpAny_passesOwn hp (thn (T.item X rfl rfl rfl hc i pins s3 σ3 H3 X.xe I3 (stat fr3) st3 go) fun r s4 ⟨u, hr, h4⟩ => ?_)
    subst hr
    refine wpAny_passesOwn hp (thn h4 fun _ s5 ⟨x, H5, I5, r5, y5, st5, fr5⟩ => ?_)
    have I5' := I5.pinned (stat fr5) (T.obj _ _ st5)
    refine wpAny_passesOwn hp (thn (hg _ s5 σ3 H5 x u _ I5' r5 (step x H5 y5)) fun _ s6 ⟨σ6, H6, I6, q6⟩ => ?_)
    refine wpAny_passesOwn hp (thn (hb _ s6 σ6 H6 _ I6 q6) fun f s7 q7 => ?_)
    have again : ∀ {σ7 : St} {H7 : Hp}, Inv X (pins ++ pinsAt fp s5.heap) σ7 H7 s7 → N σ7 H7 → ∃ m, m < n ∧ ∃ i σ' H', Inv X pins σ' H' s7 ∧ tn i s7.heap ∧ (∀ b ∈ fp, H' b = none) ∧ W i m σ' H' := fun {σ7 H7} I7 n7 => by
      obtain ⟨m', hm, w7⟩ := hN σ7 H7 n7
      refine ⟨m', hm, i + 1, σ7, H7, I7.unpinned, T.keep _ _ _ st5 fun b hb o e => (I7.pin (b, o) (List.mem_append_right _ (List.mem_append_right _ (mem_pinsAt hb e)))).1, fun b hb => ?_, w7⟩
      obtain ⟨o, e, d⟩ := T.obj _ _ st5 b hb
      exact (I7.pin (b, o) (List.mem_append_right _ (List.mem_append_right _ (mem_pinsAt hb e)))).2.1
    cases f with
    | next => obtain ⟨σ7, H7, I7, n7⟩ := q7; exact again I7 n7
    | cont => obtain ⟨σ7, H7, I7, n7⟩ := q7; exact again I7 n7
    | brk => obtain ⟨σ7, H7, I7, q7⟩ := q7; exact ⟨σ7, H7, I7.unpinned, q7⟩
    | ret v => obtain ⟨x7, σ7, H7, I7, r7, q7⟩ := q7; exact ⟨x7, σ7, H7, I7.unpinned, r7, q7⟩
end

/-! ### the forms one uses -/
theorem for_range {lo : Int} {n : Nat} {g : TG} {tb : TS} {D : Ends} {σ : St} {H : Hp} (Pv : Nat → St → Hp → Prop) (h0 : Pv 0 σ H)
    (hs : ∀ i σ H, i < n → Pv i σ H → g (.int (lo + i)) σ H fun σ2 H2 => tb { D with nx := Pv (i + 1), ct := Pv (i + 1), bk := D.nx } σ2 H2) (hd : ∀ σ H, Pv n σ H → D.nx σ H) :
    ∃ W : Nat → Nat → St → Hp → Prop, (∃ m, W 0 m σ H) ∧ ∀ i m σ H, W i m σ H →
      ((Itr lo n).stop i H ∧ D.nx σ H) ∨ ((Itr lo n).go i H ∧ ∃ N : St → Hp → Prop, (∀ σ' H', N σ' H' → ∃ m', m' < m ∧ W (i + 1) m' σ' H') ∧ ∀ x H', (Itr lo n).yld i H x H' → g x σ H' fun σ2 H2 => tb { D with nx := N, ct := N, bk := D.nx } σ2 H2) := by
  refine ⟨fun i m σ H => m = n - i ∧ i ≤ n ∧ Pv i σ H, ⟨n, by simp, Nat.zero_le _, h0⟩, ?_⟩
  rintro i m σ H ⟨rfl, hi, p⟩
  by_cases hlt : i < n
  · refine .inr ⟨hlt, Pv (i + 1), fun σ' H' p' => ⟨n - (i + 1), by omega, rfl, hlt, p'⟩, fun x H' y => ?_⟩
    obtain ⟨e, y⟩ := y
    subst e y
    exact hs i σ _ hlt p
  · have e : i = n := by omega
    subst e
    exact .inl ⟨Nat.le_refl _, hd σ H p⟩
end L2

namespace L2
open PySem PySem.Spec PyProof.Rows

abbrev R2 := V → V → Hp → VK → Prop
/-- a two-place operation on values: f is binaryOp op, inplaceOp op or compareOp op -/
def OpR (X : Cx) (f : Value → Value → Sem Value) (r : R2) : Prop :=
  ∀ (pins : List (Addr × Obj)) (s : Shared) (σ : St) (H : Hp) (x y : V) (v u : Value) (Q : VK), Inv X pins σ H s → RelV x v → RelV y u → r x y H Q →
    wpAny (model X.prog X.w) X.A (f v u) (EP X pins σ Q) X.xe s
/-- a one-place operation -/
def UnR (X : Cx) (f : Value → Sem Value) (r : V → Hp → VK → Prop) : Prop :=
  ∀ (pins : List (Addr × Obj)) (s : Shared) (σ : St) (H : Hp) (x : V) (v : Value) (Q : VK), Inv X pins σ H s → RelV x v → r x H Q →
    wpAny (model X.prog X.w) X.A (f v) (EP X pins σ Q) X.xe s
/-- a call of a value that is known (a builtin, a type) with values -/
def CallR (X : Cx) (f : Value) (r : List V → Hp → VK → Prop) : Prop :=
  ∀ (pins : List (Addr × Obj)) (s : Shared) (σ : St) (H : Hp) (xs : List V) (us : List Value) (Q : VK), Inv X pins σ H s → Vals xs us → r xs H Q →
    wpAny (model X.prog X.w) X.A (call f us) (EP X pins σ Q) X.xe s
/-- a value's truth -/
def TruR (X : Cx) (r : V → Hp → (Bool → Hp → Prop) → Prop) : Prop :=
  ∀ (pins : List (Addr × Obj)) (s : Shared) (σ : St) (H : Hp) (x : V) (v : Value) (Q : Bool → Hp → Prop), Inv X pins σ H s → RelV x v → r x H Q →
    wpAny (model X.prog X.w) X.A (truthy v) (TP X pins σ Q) X.xe s

def tOp (r : R2) (ta tb : TE) : TE := fun σ H Q => ta σ H fun x H1 => tb σ H1 fun y H2 => r x y H2 Q
def tUn (r : V → Hp → VK → Prop) (ta : TE) : TE := fun σ H Q => ta σ H fun x H1 => r x H1 Q
/-- ints in, under C, and a value out -/
def rI (C : Int → Int → Prop) (g : Int → Int → V) : R2 := fun x y H Q => ∃ i j, x = .int i ∧ y = .int j ∧ C i j ∧ Q (g i j) H
def rI0 (g : Int → Int → V) : R2 := fun x y H Q => ∃ i j, x = .int i ∧ y = .int j ∧ Q (g i j) H
def rU (g : Int → V) : V → Hp → VK → Prop := fun x H Q => ∃ i, x = .int i ∧ Q (g i) H

section
variable {X : Cx} {a b c : Expr} {ta tb tc : TE} {pos : Pos}

theorem binT (ha : PE X a ta) (hb : PE X b tb) {pins : List (Addr × Obj)} {s : Shared} {σ : St} {H : Hp} {R : V → V → Hp → Prop} (I : Inv X pins σ H s)
    (h : ta σ H fun x H1 => tb σ H1 fun y H2 => R x y H2) {Q : Value → Shared → Prop} {f : Value → Value → Sem Value}
    (hf : ∀ v u s2 x y H2, Inv X pins σ H2 s2 → RelV x v → RelV y u → R x y H2 → wpAny (model X.prog X.w) X.A (f v u) Q X.xe s2) :
    wpAny (model X.prog X.w) X.A (eval a X.env) (fun v s₁ => wpAny (model X.prog X.w) X.A (eval b X.env) (fun u s₂ => wpAny (model X.prog X.w) X.A (f v u) Q X.xe s₂) X.xe s₁) X.xe s := by
  refine thn (ha pins s σ H _ I h) fun v s1 ⟨x, H1, I1, r1, q1⟩ => ?_
  refine thn (hb pins s1 σ H1 _ I1 q1) fun u s2 ⟨y, H2, I2, r2, q2⟩ => ?_
  exact hf v u s2 x y H2 I2 r1 r2 q2

theorem pe_op {op : Operator} {r : R2} (ho : OpR X (binaryOp op) r) (ha : PE X a ta) (hb : PE X b tb) : PE X (.BinOp a op b pos) (tOp r ta tb) := by
  intro pins s σ H Q I h
  exact wpAny_BinOp (binT ha hb I h fun v u s2 x y H2 I2 rx ry q => ho pins s2 σ H2 x y v u Q I2 rx ry q)
theorem pe_un {op : UnaryOp} {r : V → Hp → VK → Prop} (ho : UnR X (unaryOp op) r) (ha : PE X a ta) : PE X (.UnaryOp op a pos) (tUn r ta) := by
  intro pins s σ H Q I h
  exact UnaryOp_ (thn (ha pins s σ H _ I h) fun v s1 ⟨x, H1, I1, r1, q1⟩ => ho pins s1 σ H1 x v Q I1 r1 q1)
/-! ### ints -/
theorem opI {f : Value → Value → Sem Value} {C : Int → Int → Prop} {g : Int → Int → Int}
    (rule : ∀ (i j : Int) (t u : Tok) (s : Shared) (Q : Value → Shared → Prop) (E : Value → Shared → Prop), C i j → Q (.int (g i j) s.toks) { s with toks := s.toks + 1 } → wpAny (model X.prog X.w) X.A (f (.int i t) (.int j u)) Q E s) :
    OpR X f (rI C fun i j => .int (g i j)) := by
  intro pins s σ H x y v u Q I rx ry h
  obtain ⟨i, j, rfl, rfl, hc, q⟩ := h
  obtain ⟨t, rfl⟩ := rx
  obtain ⟨t', rfl⟩ := ry
  exact rule i j t t' s _ _ hc ⟨.int (g i j), H, I.tok _, ⟨_, rfl⟩, q⟩
theorem opI0 {f : Value → Value → Sem Value} {g : Int → Int → Int}
    (rule : ∀ (i j : Int) (t u : Tok) (s : Shared) (Q : Value → Shared → Prop) (E : Value → Shared → Prop), Q (.int (g i j) s.toks) { s with toks := s.toks + 1 } → wpAny (model X.prog X.w) X.A (f (.int i t) (.int j u)) Q E s) :
    OpR X f (rI0 fun i j => .int (g i j)) := by
  intro pins s σ H x y v u Q I rx ry h
  obtain ⟨i, j, rfl, rfl, q⟩ := h
  obtain ⟨t, rfl⟩ := rx
  obtain ⟨t', rfl⟩ := ry
  exact rule i j t t' s _ _ ⟨.int (g i j), H, I.tok _, ⟨_, rfl⟩, q⟩
theorem opB0 {f : Value → Value → Sem Value} {g : Int → Int → Bool}
    (rule : ∀ (i j : Int) (t u : Tok) (s : Shared) (Q : Value → Shared → Prop) (E : Value → Shared → Prop), Q (.bool (g i j)) s → wpAny (model X.prog X.w) X.A (f (.int i t) (.int j u)) Q E s) :
    OpR X f (rI0 fun i j => .bl (g i j)) := by
  intro pins s σ H x y v u Q I rx ry h
  obtain ⟨i, j, rfl, rfl, q⟩ := h
  obtain ⟨t, rfl⟩ := rx
  obtain ⟨t', rfl⟩ := ry
  exact rule i j t t' s _ _ ⟨.bl (g i j), H, I, rfl, q⟩

def CDiv (i j : Int) : Prop := 0 < j ∧ j < 1073741824
def CPow (i j : Int) : Prop := 0 ≤ j ∧ j ≤ 1000000 ∧ i.natAbs < 2 ^ 64
def CMul (i j : Int) : Prop := (-(2 ^ 64) < i ∧ i < 2 ^ 64) ∨ (-(2 ^ 64) < j ∧ j < 2 ^ 64)
theorem CMul.ok {i j : Int} (h : CMul i j) : IntMulOk i j := by
  rcases h with ⟨h1, h2⟩ | ⟨h1, h2⟩
  · exact .of_left (intBits_le_64 h1 h2)
  · exact .of_right (intBits_le_64 h1 h2)
theorem two_pow_nn (k : Nat) : (0 : Int) ≤ 2 ^ k := by
  rw [two_pow_cast]
  exact Int.natCast_nonneg _

theorem op_add : OpR X (binaryOp .Add) (rI0 fun i j => .int (i + j)) := opI0 fun _ _ _ _ _ _ _ q => add_int q
theorem op_sub : OpR X (binaryOp .Sub) (rI0 fun i j => .int (i - j)) := opI0 fun _ _ _ _ _ _ _ q => sub_int q
/-- % by a positive divisor of any size -/
theorem op_mod : OpR X (binaryOp .Mod) (rI (fun _ j => 0 < j) fun i j => .int (i % j)) := opI fun i j _ _ _ _ _ hc q => by
  have h1 : (0 : Int) < j := hc
  exact mod_int' (by omega) (by rw [Int.fmod_eq_emod_of_nonneg i (by omega)]; exact q)
theorem op_pow : OpR X (binaryOp .Pow) (rI CPow fun i j => .int (i ^ j.toNat)) := opI fun _ _ _ _ _ _ _ hc q => pow_int_small hc.1 hc.2.1 hc.2.2 q
theorem op_shr : OpR X (binaryOp .RShift) (rI (fun _ j => 0 ≤ j) fun i j => .int (i / 2 ^ j.toNat)) := opI fun i j _ _ _ _ _ hc q =>
  rshift_int hc (by rw [Int.fdiv_eq_ediv_of_nonneg i (two_pow_nn _)]; exact q)
theorem unI {f : Value → Sem Value} {g : Int → Int}
    (rule : ∀ (i : Int) (t : Tok) (s : Shared) (Q : Value → Shared → Prop) (E : Value → Shared → Prop), Q (.int (g i) s.toks) { s with toks := s.toks + 1 } → wpAny (model X.prog X.w) X.A (f (.int i t)) Q E s) :
    UnR X f (rU fun i => .int (g i)) := by
  intro pins s σ H x v Q I rx h
  obtain ⟨i, rfl, q⟩ := h
  obtain ⟨t, rfl⟩ := rx
  exact rule i t s _ _ ⟨.int (g i), H, I.tok _, ⟨_, rfl⟩, q⟩
theorem un_neg : UnR X (unaryOp .USub) (rU fun i => .int (-i)) := unI fun _ _ _ _ _ q => neg_int q
/-! ### bools among ints: n += (a < b) -/
end

/-! ### comparisons -/
/-- the scalars that == tells apart as data does -/
def scal : V → V → Bool
  | .non, .non => true | .non, .int _ => true | .int _, .non => true | .non, .bl _ => true | .bl _, .non => true | .non, .str _ => true | .str _, .non => true
  | .int _, .int _ => true | .bl _, .bl _ => true | .str _, .str _ => true | .byt _, .byt _ => true
  | .int _, .str _ => true | .str _, .int _ => true | .bl _, .str _ => true | .str _, .bl _ => true
  | _, _ => false
def rEq : R2 := fun x y H Q => scal x y = true ∧ Q (.bl (decide (x = y))) H
def rNe : R2 := fun x y H Q => scal x y = true ∧ Q (.bl (!decide (x = y))) H

theorem dec_int {i j : Int} : decide (V.int i = V.int j) = (i == j) := by
  rw [Bool.eq_iff_iff]
  simp
theorem dec_bl {i j : Bool} : decide (V.bl i = V.bl j) = (i == j) := by
  rw [Bool.eq_iff_iff]
  simp
theorem dec_str {i j : Str} : decide (V.str i = V.str j) = (i == j) := by
  rw [Bool.eq_iff_iff]
  simp
theorem dec_byt {i j : Array UInt8} : decide (V.byt i = V.byt j) = (i.toList == j.toList) := by
  rw [Bool.eq_iff_iff]
  cases i
  cases j
  simp

section
variable {X : Cx} {a b c : Expr} {ta tb tc : TE} {pos : Pos}
theorem fin_bl {pins : List (Addr × Obj)} {σ : St} {H : Hp} {s : Shared} {Q : VK} {k k' : Bool} (I : Inv X pins σ H s) (q : Q (.bl k) H) (e : k = k') : EP X pins σ Q (.bool k') s := by
  subst e
  exact ⟨.bl k, H, I, rfl, q⟩
theorem op_eq : OpR X (compareOp .Eq) rEq := by
  intro pins s σ H x y v u Q I rx ry h
  obtain ⟨hs, q⟩ := h
  cases x with
  | non =>
    cases rx
    cases y with
    | non => cases ry; exact PySem.EqNone.eq_none_none (fin_bl I q (by simp))
    | bl j => cases ry; exact PySem.EqNone.eq_none_bool (fin_bl I q (by simp))
    | int j => obtain ⟨t', rfl⟩ := ry; exact PySem.EqNone.eq_none_int (fin_bl I q (by simp))
    | str j => obtain ⟨t', rfl⟩ := ry; exact PySem.EqNone.eq_none_str (fin_bl I q (by simp))
    | _ => exact absurd (show false = true from hs) Bool.false_ne_true
  | bl i =>
    cases rx
    cases y with
    | non => cases ry; exact PySem.EqNone.eq_bool_none (fin_bl I q (by simp))
    | bl j => cases ry; exact eq_bool (fin_bl I q dec_bl)
    | str j => obtain ⟨t', rfl⟩ := ry; exact PySem.EqMixed.eq_bool_str (fin_bl I q (by simp))
    | _ => exact absurd (show false = true from hs) Bool.false_ne_true
  | int i =>
    obtain ⟨t, rfl⟩ := rx
    cases y with
    | non => cases ry; exact PySem.EqNone.eq_int_none (fin_bl I q (by simp))
    | int j => obtain ⟨t', rfl⟩ := ry; exact eq_int (fin_bl I q dec_int)
    | str j => obtain ⟨t', rfl⟩ := ry; exact PySem.EqMixed.eq_int_str (fin_bl I q (by simp))
    | _ => exact absurd (show false = true from hs) Bool.false_ne_true
  | str i =>
    obtain ⟨t, rfl⟩ := rx
    cases y with
    | non => cases ry; exact PySem.EqNone.eq_str_none (fin_bl I q (by simp))
    | bl j => cases ry; exact PySem.EqMixed.eq_str_bool (fin_bl I q (by simp))
    | int j => obtain ⟨t', rfl⟩ := ry; exact PySem.EqMixed.eq_str_int (fin_bl I q (by simp))
    | str j => obtain ⟨t', rfl⟩ := ry; exact eq_str (fin_bl I q dec_str)
    | _ => exact absurd (show false = true from hs) Bool.false_ne_true
  | byt i =>
    obtain ⟨t, rfl⟩ := rx
    cases y with
    | byt j => obtain ⟨t', rfl⟩ := ry; exact PySem.W.eq_bytes (fin_bl I q dec_byt)
    | _ => exact absurd (show false = true from hs) Bool.false_ne_true
  | _ => cases y <;> exact absurd (show false = true from hs) Bool.false_ne_true
theorem op_ne : OpR X (compareOp .NotEq) rNe := by
  intro pins s σ H x y v u Q I rx ry h
  obtain ⟨hs, q⟩ := h
  cases x with
  | non =>
    cases rx
    cases y with
    | non => cases ry; exact PySem.EqNone.ne_none_none (fin_bl I q (by simp))
    | bl j => cases ry; exact PySem.EqNone.ne_none_bool (fin_bl I q (by simp))
    | int j => obtain ⟨t', rfl⟩ := ry; exact PySem.EqNone.ne_none_int (fin_bl I q (by simp))
    | str j => obtain ⟨t', rfl⟩ := ry; exact PySem.EqNone.ne_none_str (fin_bl I q (by simp))
    | _ => exact absurd (show false = true from hs) Bool.false_ne_true
  | bl i =>
    cases rx
    cases y with
    | non => cases ry; exact PySem.EqNone.ne_bool_none (fin_bl I q (by simp))
    | bl j => cases ry; exact ne_bool (fin_bl I q (congrArg not dec_bl))
    | str j => obtain ⟨t', rfl⟩ := ry; exact PySem.EqMixed.ne_bool_str (fin_bl I q (by simp))
    | _ => exact absurd (show false = true from hs) Bool.false_ne_true
  | int i =>
    obtain ⟨t, rfl⟩ := rx
    cases y with
    | non => cases ry; exact PySem.EqNone.ne_int_none (fin_bl I q (by simp))
    | int j => obtain ⟨t', rfl⟩ := ry; exact ne_int (fin_bl I q (congrArg not dec_int))
    | str j => obtain ⟨t', rfl⟩ := ry; exact PySem.EqMixed.ne_int_str (fin_bl I q (by simp))
    | _ => exact absurd (show false = true from hs) Bool.false_ne_true
  | str i =>
    obtain ⟨t, rfl⟩ := rx
    cases y with
    | non => cases ry; exact PySem.EqNone.ne_str_none (fin_bl I q (by simp))
    | bl j => cases ry; exact PySem.EqMixed.ne_str_bool (fin_bl I q (by simp))
    | int j => obtain ⟨t', rfl⟩ := ry; exact PySem.EqMixed.ne_str_int (fin_bl I q (by simp))
    | str j => obtain ⟨t', rfl⟩ := ry; exact ne_str (fin_bl I q (congrArg not dec_str))
    | _ => exact absurd (show false = true from hs) Bool.false_ne_true
  | byt i =>
    obtain ⟨t, rfl⟩ := rx
    cases y with
    | byt j => obtain ⟨t', rfl⟩ := ry; exact PySem.W.ne_bytes (fin_bl I q (congrArg not dec_byt))
    | _ => exact absurd (show false = true from hs) Bool.false_ne_true
  | _ => cases y <;> exact absurd (show false = true from hs) Bool.false_ne_true

theorem op_lt : OpR X (compareOp .Lt) (rI0 fun i j => .bl (decide (i < j))) := opB0 fun _ _ _ _ _ _ _ q => lt_int q
theorem op_le : OpR X (compareOp .LtE) (rI0 fun i j => .bl (decide (i ≤ j))) := opB0 fun _ _ _ _ _ _ _ q => le_int q
theorem op_gt : OpR X (compareOp .Gt) (rI0 fun i j => .bl (decide (j < i))) := opB0 fun _ _ _ _ _ _ _ q => gt_int q
theorem op_ge : OpR X (compareOp .GtE) (rI0 fun i j => .bl (decide (j ≤ i))) := opB0 fun _ _ _ _ _ _ _ q => ge_int q
theorem op_lt_str : OpR X (compareOp .Lt) (fun x y H Q => ∃ i j, x = .str i ∧ y = .str j ∧ Q (.bl (decide (i.cps.toList < j.cps.toList))) H) := by
  intro pins s σ H x y v u Q I rx ry h
  obtain ⟨i, j, rfl, rfl, q⟩ := h
  obtain ⟨t, rfl⟩ := rx
  obtain ⟨t', rfl⟩ := ry
  exact lt_str (fin_bl I q rfl)
/-- is, is not of two objects that are tracked lists or instances -/
def isObj : HO → Bool
  | .lst _ => true
  | .ins _ _ _ => true
  | _ => false
/-- two rules for one operation: by cases -/
theorem OpR.or {f : Value → Value → Sem Value} {r r' : R2} (h : OpR X f r) (h' : OpR X f r') : OpR X f (fun x y H Q => r x y H Q ∨ r' x y H Q) := by
  intro pins s σ H x y v u Q I rx ry q
  rcases q with q | q
  · exact h pins s σ H x y v u Q I rx ry q
  · exact h' pins s σ H x y v u Q I rx ry q

theorem nomark (b : Expr) {op : CmpOp} (h : op ≠ .In := by decide) (h2 : op ≠ .NotIn := by decide) : behindInMarks op b = false := by
  have e1 : (op == CmpOp.In) = false := by cases op <;> first | rfl | exact absurd rfl h
  have e2 : (op == CmpOp.NotIn) = false := by cases op <;> first | rfl | exact absurd rfl h2
  cases b <;> simp [behindInMarks, e1, e2]
/-- a comparison as a value; hm: nomark b, or (for in, not in) by with_unfolding_all rfl -/
theorem pe_cmpR {op : CmpOp} {r : R2} (ho : OpR X (compareOp op) r) (ha : PE X a ta) (hb : PE X b tb) (hm : behindInMarks op b = false) : PE X (.Compare a [op] [b] pos) (tOp r ta tb) := by
  intro pins s σ H Q I h
  exact wpAny_Compare1 (binT ha hb I h fun v u s2 x y H2 I2 rx ry q => ho pins s2 σ H2 x y v u Q I2 rx ry q) hm
/-! ### truth -/
/-- a value's truth by the abstract heap -/
def TruV (K : PySem.W.Frag) (x : V) (H : Hp) (k : Bool) : Prop :=
  match x with
  | .non => k = false
  | .bl b => k = b
  | .int i => k = (i != 0)
  | .str y => y.length ≤ sizeLine ∧ k = ((y.length : Int) != 0)
  | .byt y => y.size ≤ sizeLine ∧ k = ((y.size : Int) != 0)
  | .ref p => (∃ xs, SqL K H p xs ∧ k = !xs.isEmpty) ∨ (∃ xs, SqT K H p xs ∧ k = !xs.isEmpty) ∨ ∃ kvs, H p = some (.dK kvs) ∧ k = !kvs.isEmpty
  | _ => False
theorem isEmpty_kv {κ : Type} {kvs : List (κ × V)} {vs : List (κ × Value)} (r : KV kvs vs) : (!vs.isEmpty) = !kvs.isEmpty := by
  cases r <;> rfl
theorem isEmpty_of {xs : List V} {its : List Value} (r : Vals xs its) : (!its.toArray.isEmpty) = !xs.isEmpty := by
  cases r <;> simp
theorem line63 : (sizeLine : Nat) < 2 ^ 63 := by rw [sizeLine_eq]; decide
theorem tru_ok : TruR X (fun x H Q => ∃ k, TruV X.K x H k ∧ Q k H) := by
  intro pins s σ H x v Q I rx h
  obtain ⟨k, e, q⟩ := h
  have hl := line63
  have hs : sizeLine = 16777216 := sizeLine_eq
  cases x with
  | non =>
    cases rx
    have e' : k = false := e
    subst e'
    exact truthy_none ⟨H, I, q⟩
  | bl b =>
    cases rx
    have e' : k = b := e
    subst e'
    exact wpAny_truthy_bool ⟨H, I, q⟩
  | int i =>
    obtain ⟨t, rfl⟩ := rx
    have e' : k = (i != 0) := e
    subst e'
    exact PySem.P.truthy_int ⟨H, I, q⟩
  | str y =>
    obtain ⟨t, rfl⟩ := rx
    obtain ⟨hy, e'⟩ : y.length ≤ sizeLine ∧ k = ((y.length : Int) != 0) := e
    subst e'
    exact PySem.P.truthy_str (by omega) ⟨H, I.tok _, q⟩
  | byt y =>
    obtain ⟨t, rfl⟩ := rx
    obtain ⟨hy, e'⟩ : y.size ≤ sizeLine ∧ k = ((y.size : Int) != 0) := e
    subst e'
    exact PySem.W.truthy_bytes (by omega) ⟨H, I.tok _, q⟩
  | ref p =>
    cases rx
    have e' : (∃ xs, SqL X.K H p xs ∧ k = !xs.isEmpty) ∨ (∃ xs, SqT X.K H p xs ∧ k = !xs.isEmpty) ∨ ∃ kvs, H p = some (.dK kvs) ∧ k = !kvs.isEmpty := e
    rcases e' with ⟨xs, hx, e'⟩ | ⟨xs, hx, e'⟩ | ⟨kvs, hx, e'⟩
    · subst e'
      obtain ⟨its, r, pl, hz⟩ := I.list hx
      have hlen := r.length
      exact wpAny_truthy_list pl.isList (by simp only [List.size_toArray]; omega) ⟨H, I.tok _, by rw [isEmpty_of r]; exact q⟩
    · subst e'
      obtain ⟨its, r, pl, hz⟩ := I.tuple hx
      have hlen := r.length
      exact truthy_tuple pl (by simp only [List.size_toArray]; omega) ⟨H, I.tok _, by rw [isEmpty_of r]; exact q⟩
    · subst e'
      obtain ⟨hz, hS, vs, r, m⟩ : kvs.length ≤ sizeLine ∧ (p == sysModules) = false ∧ ∃ vs, KV kvs vs ∧ s.heap.DictOf (mixKind X.prog X.w) p vs := I.hok p _ hx
      have hlen : kvs.length = vs.length := Paired.length r
      exact wpAny_truthy_dict hS m (by omega) ⟨H, I.tok _, by rw [isEmpty_kv r]; exact q⟩
  | _ => exact (show False from e).elim
/-- any expression whose test is its value's truth (a name, a call, a subscript, a field ..: he by fun _ => rfl) -/
theorem pt_truth (ha : PE X a ta) (he : ∀ whole, isTrue a X.env whole = (do let v ← whole; standAt a.pos; holding [v] (truthy v))) :
    PT X a (fun σ H Q => ta σ H fun x H' => ∃ k, TruV X.K x H' k ∧ Q k H') := by
  intro pins s σ H Q I h
  exact isTrue_plain (thn (ha pins s σ H _ I h) fun v s1 ⟨x, H1, I1, r1, q1⟩ => tru_ok pins s1 σ H1 x v Q I1 r1 q1) (he _)

/-! ### strs and bytes -/
theorem op_add_str : OpR X (binaryOp .Add) (fun x y H Q => ∃ i j, x = .str i ∧ y = .str j ∧ i.length + j.length ≤ sizeLine ∧ Q (.str (i ++ j)) H) := by
  intro pins s σ H x y v u Q I rx ry h
  obtain ⟨i, j, rfl, rfl, hz, q⟩ := h
  obtain ⟨t, rfl⟩ := rx
  obtain ⟨t', rfl⟩ := ry
  exact add_str (fun t' tk => ⟨.str (i ++ j), H, I.tok _, ⟨_, rfl⟩, q⟩) hz
/-! ### scalar builtins, by CallR -/
theorem vals1 {x : V} {us : List Value} (r : Vals [x] us) : ∃ u, us = [u] ∧ RelV x u := by
  cases r with
  | cons r1 r2 => cases r2; exact ⟨_, rfl, r1⟩
theorem vals2 {x y : V} {us : List Value} (r : Vals [x, y] us) : ∃ u w', us = [u, w'] ∧ RelV x u ∧ RelV y w' := by
  cases r with
  | cons r1 r2 =>
    cases r2 with
    | cons r3 r4 => cases r4; exact ⟨_, _, rfl, r1, r3⟩
theorem call_abs : CallR X (.builtin "abs") (fun xs H Q => ∃ i, xs = [.int i] ∧ Q (.int (if i < 0 then -i else i)) H) := by
  intro pins s σ H xs us Q I r h
  obtain ⟨i, rfl, q⟩ := h
  obtain ⟨u, rfl, t, rfl⟩ := vals1 r
  exact call_abs_int fun u tk => ⟨.int (if i < 0 then -i else i), H, I.tok _, ⟨_, rfl⟩, q⟩
theorem call_max2 (hc : X.calm = true) : CallR X (.builtin "max") (fun xs H Q => ∃ i j, xs = [.int i, .int j] ∧ Q (.int (if j > i then j else i)) H) := by
  intro pins s σ H xs us Q I r h
  obtain ⟨i, j, rfl, q⟩ := h
  obtain ⟨u, w', rfl, ⟨t, rfl⟩, ⟨t', rfl⟩⟩ := vals2 r
  refine max_two_ints (I.ok.hd hc) fun h' tk k => ⟨_, H, I.kept k, ?_, q⟩
  by_cases hj : j > i
  · rw [if_pos hj, if_pos hj]; exact ⟨_, rfl⟩
  · rw [if_neg hj, if_neg hj]; exact ⟨_, rfl⟩
theorem call_min2 (hc : X.calm = true) : CallR X (.builtin "min") (fun xs H Q => ∃ i j, xs = [.int i, .int j] ∧ Q (.int (if j < i then j else i)) H) := by
  intro pins s σ H xs us Q I r h
  obtain ⟨i, j, rfl, q⟩ := h
  obtain ⟨u, w', rfl, ⟨t, rfl⟩, ⟨t', rfl⟩⟩ := vals2 r
  refine min_two_ints (I.ok.hd hc) fun h' tk k => ⟨_, H, I.kept k, ?_, q⟩
  by_cases hj : j < i
  · rw [if_pos hj, if_pos hj]; exact ⟨_, rfl⟩
  · rw [if_neg hj, if_neg hj]; exact ⟨_, rfl⟩
theorem call_int1 : CallR X (.type "int") (fun xs H Q => (∃ i, xs = [.int i] ∧ Q (.int i) H) ∨ ∃ k, xs = [.bl k] ∧ Q (.int (if k then 1 else 0)) H) := by
  intro pins s σ H xs us Q I r h
  rcases h with ⟨i, rfl, q⟩ | ⟨k, rfl, q⟩
  · obtain ⟨u, rfl, t, rfl⟩ := vals1 r
    exact call_int_int ⟨.int i, H, I, ⟨_, rfl⟩, q⟩
  · obtain ⟨u, rfl, r1⟩ := vals1 r
    cases r1
    exact call_int_bool ⟨.int (if k then 1 else 0), H, I.tok _, ⟨_, rfl⟩, q⟩
end
end L2

namespace L2
open PySem PySem.Spec PyProof.Rows

/-! ### an instance, its attributes a map -/
structure ObjM (h : Heap) (x dx C : Addr) (mA : Str → Option Value) : Prop where
  obj : h.get? x = some (PySem.W.instObj C dx)
  ns : h.Ns1 dx mA
  ne : dx ≠ x

theorem lookIn_ns {h : Heap} {dx : Addr} {mA : Str → Option Value} (n : h.Ns1 dx mA) : ∃ od, h.get? dx = some od ∧ ∀ name, PySem.W.lookIn name od = some (mA name) := by
  obtain ⟨o, es, ep, ho, hd, hk, _, hm⟩ := n
  refine ⟨o, ho, fun name => ?_⟩
  have e := hm name
  unfold nsFind findBy at e
  rw [← Array.find?_toList] at e
  unfold PySem.W.lookIn
  rw [hd]
  dsimp only
  split
  · rename_i y q
    rw [q] at e
    exact congrArg some e
  · rename_i q
    rw [q] at e
    have a : es.toList.any (·.refKey) = false := by
      rw [List.any_eq_false]
      intro y hy
      obtain ⟨z, t, hkey⟩ := hk y (Array.mem_toList_iff.mp hy)
      simp [DictEntry.refKey, hkey]
    have a' : ¬ es.toList.any (·.refKey) = true := by rw [a]; exact Bool.false_ne_true
    rw [if_neg a']
    exact congrArg some e

theorem ObjM.look {h : Heap} {x dx C : Addr} {mA : Str → Option Value} (I : ObjM h x dx C mA) : ∃ od, PySem.W.InstAt h x (PySem.W.instObj C dx) C (some od) ∧ ∀ name, PySem.W.lookIn name od = some (mA name) :=
  let ⟨od, ho, hl⟩ := lookIn_ns I.ns
  ⟨od, ⟨I.obj, rfl, rfl, ho⟩, hl⟩

section
variable {prog : Program} {w : World} {A : Around} {E : Value → Shared → Prop} {s : Shared} {K : PySem.W.Frag} {x dx C f : Addr} {mA : Str → Option Value} {name : Str} {v : Value}

theorem get_map {expr : Bool} {Q : Value → Shared → Prop} (X : K.In s.heap) (I : ObjM s.heap x dx C mA) (hg : PySem.W.plainGet K C name = true) (hh : PySem.W.hasDictIn K C = true)
    (ha : PySem.W.findIn K (.ref C) name = some none) (hv : mA name = some v) (hv' : PySem.W.handedIn v = true) (h : Q v { s with toks := s.toks + 1 }) :
    wpAny (model prog w) A (getAttr (.ref x) name expr) Q E s := by
  obtain ⟨od, J, hl⟩ := I.look
  exact PySem.W.get_value X J (PySem.W.plainGet_of hg).1 (PySem.W.findObj_own hh ha rfl (by rw [hl, hv])) hv' h

theorem get_meth {pl : Sem Bool} {Q : Value × List Value → Shared → Prop} (X : K.In s.heap) (I : ObjM s.heap x dx C mA) (hg : PySem.W.plainGet K C name = true)
    (hf : PySem.W.findIn K (.ref C) name = some (some (.ref f))) (ht : PySem.W.isFn K (.ref f) = true) (hv : mA name = none) (h : Q (.ref f, [.ref x]) s) :
    wpAny (model prog w) A (getMethod (.ref x) name pl) Q E s := by
  obtain ⟨od, J, hl⟩ := I.look
  exact PySem.W.method_fn X J (PySem.W.plainGet_of hg).1 (PySem.W.plainGet_of hg).2 hf (beq_iff_eq.mp ht) (by show (PySem.W.lookIn name od).map (·.isSome) = some false; rw [hl, hv]; rfl) h

theorem set_map {ns : List Str} {Q : Unit → Shared → Prop} (X : K.In s.heap) (I : ObjM s.heap x dx C mA)
    (hs : PySem.W.findIn K (.ref C) "__setattr__" = some (some (.builtin "object.__setattr__"))) (hp : PySem.W.plainOver K C = true) (ht : PySem.W.takerIn K C name = some none) (hh : PySem.W.hasDictIn K C = true)
    (hw : PySem.Within mA ns) (hsz : ns.length ≤ sizeLine)
    (h : ∀ h', ObjM h' x dx C (fun y => if y = name then some v else mA y) → Heap.SameBut dx s.heap h' → Q () { s with heap := h', toks := s.toks + 2 }) :
    wpAny (model prog w) A (setAttr (.ref x) name v) Q E s := by
  obtain ⟨od, J, hl⟩ := I.look
  refine PySem.W.set_plain X J hs (PySem.W.osa_open (s := { s with toks := s.toks + 1 }) (r := none) X J hp ht fun b => ?_)
  obtain ⟨cd, hc, hd'⟩ := PySem.W.any_some hh
  have hx : s.heap.get? x = some ⟨.ref C, some dx, .plain, #[]⟩ := I.obj
  refine wpAny_bind (wpAny_pure (wpAny_bind (wpAny_bind (wpAny_loadPart hx (wpAny_bind (PySem.W.Looks.here (s := { s with toks := s.toks + 1 }) (PySem.W.looks_clsIn X hc) ?_))))))
  rw [hd']
  refine wpAny_pure (a := some dx) (wpAny_bind (wpAny_pure (wpAny_bind ?_)))
  refine wpAny_nsSet1 (s := { s with toks := s.toks + 1 }) I.ns fun h' hn2 hs2 => ?_
  obtain ⟨oD, esD, epD, hoD, hdD, hcD⟩ := hn2.count (PySem.Within.cons name v hw)
  refine wpAny_bind (wpAny_lookBehind hoD (by rw [hdD]; exact pastItsLine_dict (Nat.le_trans hcD (by rw [List.length_cons]; omega))) ?_)
  exact wpAny_pure (h _ ⟨(hs2.2 _ (Ne.symm I.ne)).trans I.obj, hn2, I.ne⟩ hs2)

/-- C(..): the dict at the heap's end, the instance behind it; then its __init__ -/
theorem make_map {R : Result → Shared → Prop} {vs : List Value} {kw : List (Str × Value)} (X : K.In s.heap) (hm : PySem.W.makesIn K C = true)
    (hi : PySem.W.findIn K (.ref C) "__init__" = some (some (.ref f))) (hf : PySem.W.typeIn K (.ref f) = some (.type "function"))
    (h : codeAny (model prog w) (A.under (.builtin "type.__call__" ⟨.ref C :: vs, kw⟩)) (.call (.ref f) ⟨.ref (s.heap.objs.size + 1) :: vs, kw⟩) (PySem.W.InitBack (s.heap.objs.size + 1) R)
      { s with heap := (s.heap.push PySem.W.emptyDict).push (PySem.W.instObj C s.heap.objs.size) }) :
    codeAny (model prog w) A (.call (.ref C) ⟨vs, kw⟩) R s := by
  obtain ⟨hh, g, d, t, os⟩ := s
  exact PySem.W.make_core (PySem.W.makes_of X hm) (PySem.W.looks_findIn X hi) (fun self => PySem.W.bind_fn X self hf) (.inl rfl) h
end

/-! ### the attributes as a list of pairs -/
def putF (f : Str) (v : V) : List (Str × V) → List (Str × V)
  | [] => [(f, v)]
  | (g, x) :: r => if g = f then (g, v) :: r else (g, x) :: putF f v r
theorem lookup_putF (f g : Str) (v : V) : ∀ fs : List (Str × V), (putF f v fs).lookup g = if g = f then some v else fs.lookup g
  | [] => by
    show List.lookup g [(f, v)] = _
    by_cases h : g = f
    · have hb : (g == f) = true := beq_iff_eq.mpr h
      simp only [List.lookup, hb, if_pos h]
    · have hb : (g == f) = false := beq_eq_false_iff_ne.mpr h
      simp only [List.lookup, hb, if_neg h]
  | (k, x) :: r => by
    have ih := lookup_putF f g v r
    rw [show putF f v ((k, x) :: r) = (if k = f then (k, v) :: r else (k, x) :: putF f v r) from rfl]
    by_cases hk : k = f
    · rw [if_pos hk]
      by_cases h : g = k
      · have hb : (g == k) = true := beq_iff_eq.mpr h
        simp only [List.lookup, hb, if_pos (h.trans hk)]
      · have hb : (g == k) = false := beq_eq_false_iff_ne.mpr h
        simp only [List.lookup, hb, if_neg (fun e : g = f => h (e.trans hk.symm))]
    · rw [if_neg hk]
      by_cases h : g = k
      · have hb : (g == k) = true := beq_iff_eq.mpr h
        simp only [List.lookup, hb, if_neg (fun e : g = f => hk (h.symm.trans e))]
      · have hb : (g == k) = false := beq_eq_false_iff_ne.mpr h
        simp only [List.lookup, hb]
        exact ih
theorem keys_putF (f : Str) (v : V) : ∀ fs : List (Str × V), f ∈ (putF f v fs).map (·.1) ∧ ∀ g, g ∈ fs.map (·.1) → g ∈ (putF f v fs).map (·.1)
  | [] => ⟨by simp [putF], fun g h => by simp at h⟩
  | (k, x) :: r => by
    obtain ⟨i1, i2⟩ := keys_putF f v r
    rw [show putF f v ((k, x) :: r) = (if k = f then (k, v) :: r else (k, x) :: putF f v r) from rfl]
    by_cases hk : k = f
    · rw [if_pos hk]
      subst hk
      exact ⟨by simp, fun g h => by simpa using h⟩
    · rw [if_neg hk]
      refine ⟨?_, fun g h => ?_⟩
      · rw [List.map_cons]
        exact List.mem_cons_of_mem _ i1
      · rw [List.map_cons] at h ⊢
        rcases List.mem_cons.mp h with e | e
        · exact List.mem_cons.mpr (.inl e)
        · exact List.mem_cons_of_mem _ (i2 g e)
theorem length_putF (f : Str) (v : V) : ∀ fs : List (Str × V), (putF f v fs).length ≤ fs.length + 1
  | [] => by simp [putF]
  | (k, x) :: r => by
    have ih := length_putF f v r
    rw [show putF f v ((k, x) :: r) = (if k = f then (k, v) :: r else (k, x) :: putF f v r) from rfl]
    by_cases hk : k = f
    · rw [if_pos hk, List.length_cons, List.length_cons]; omega
    · rw [if_neg hk, List.length_cons, List.length_cons]; omega

theorem RelO.some_of {v : V} {o : Option Value} (r : RelO (some v) o) : ∃ u, o = some u ∧ RelV v u := by
  cases o with
  | none => exact (show False from r).elim
  | some u => exact ⟨u, rfl, r⟩
theorem RelO.none_of {o : Option Value} (r : RelO none o) : o = none := by
  cases o with
  | none => rfl
  | some u => exact (show False from r).elim
theorem handed_of {v : V} {u : Value} (r : RelV v u) : PySem.W.handedIn u = true := by
  cases v with
  | non => cases (show u = Value.none from r); rfl
  | bl b => cases (show u = Value.bool b from r); rfl
  | int i => obtain ⟨t, e⟩ := (show ∃ t, u = Value.int i t from r); cases e; rfl
  | str x => obtain ⟨t, e⟩ := (show ∃ t, u = Value.str x t from r); cases e; rfl
  | byt b => obtain ⟨t, e⟩ := (show ∃ t, u = Value.bytes b t from r); cases e; rfl
  | flt b => obtain ⟨t, e⟩ := (show ∃ t, u = Value.float b t from r); cases e; rfl
  | ref a => cases (show u = Value.ref a from r); rfl
  | ty n => cases (show u = Value.type n from r); rfl

section
variable {P : Program} {w : World} {H H' : Hp} {h h' : Heap} {a C dx : Addr} {fs fs' : List (Str × V)}
theorem ins_get (hok : HOk P w H h) (e : H a = some (.ins C dx fs)) : ∃ mA, ObjM h a dx C mA ∧ (∀ f, RelO (fs.lookup f) (mA f)) ∧ PySem.Within mA (fs.map (·.1)) ∧ fs.length ≤ 1000 ∧ H dx = some (.own a) := by
  obtain ⟨d, z, ne, ob, mA, n, r, q⟩ := (show ObjOk P w H h a (.ins C dx fs) from hok a _ e)
  exact ⟨mA, ⟨ob, n, ne⟩, r, q, z, d⟩
end

/-! ### what of the text a class must have -/
structure Cls (K : PySem.W.Frag) (C : Addr) : Prop where
  pg : PySem.W.plainGet K C Str.empty = true
  hd : PySem.W.hasDictIn K C = true
  po : PySem.W.plainOver K C = true
  sa : PySem.W.findIn K (.ref C) "__setattr__" = some (some (.builtin "object.__setattr__"))
theorem Cls.get {K : PySem.W.Frag} {C : Addr} (c : Cls K C) (f : Str) : PySem.W.plainGet K C f = true := c.pg
/-- no class of it has the name -/
def NoAttr (K : PySem.W.Frag) (C : Addr) (f : Str) : Prop := PySem.W.findIn K (.ref C) f = some none
theorem NoAttr.taker {K : PySem.W.Frag} {C : Addr} {f : Str} (n : NoAttr K C f) : PySem.W.takerIn K C f = some none := by
  unfold PySem.W.takerIn
  rw [show PySem.W.findIn K (.ref C) f = some none from n]
  rfl
/-- a constant of the class -/
structure Con (K : PySem.W.Frag) (C : Addr) (f : Str) (v : V) (u : Value) : Prop where
  at_ : PySem.W.findIn K (.ref C) f = some (some u)
  rel : RelV v u
  get : PySem.W.specialIn K u "__get__" = some none
  cp : PySem.W.copiedNames.contains f = false
/-- a method: a plain def of the class or of one above it -/
structure Meth (K : PySem.W.Frag) (C : Addr) (m : Str) (f : Addr) : Prop where
  at_ : PySem.W.findIn K (.ref C) m = some (some (.ref f))
  fn : PySem.W.isFn K (.ref f) = true
  kp : PySem.W.keepIn K (.ref f) = true

section
variable {X : Cx} {pins : List (Addr × Obj)} {σ : St} {H : Hp} {s : Shared} {a C dx : Addr} {fs : List (Str × V)} {f : Str} {v : V} {A : Around} {E : Value → Shared → Prop}

theorem getattr_ok {b : Bool} {Q : Value → Shared → Prop} (I : Inv X pins σ H s) (e : H a = some (.ins C dx fs)) (c : Cls X.K C) (n : NoAttr X.K C f) (l : fs.lookup f = some v)
    (h : ∀ u s', Inv X pins σ H s' → RelV v u → Q u s') : wpAny (model X.prog X.w) A (getAttr (.ref a) f b) Q E s := by
  obtain ⟨mA, O, r, _, _, _⟩ := ins_get I.hok e
  obtain ⟨u, hu, ru⟩ := RelO.some_of (v := v) (o := mA f) (by rw [← l]; exact r f)
  exact get_map I.kIn O (c.get f) c.hd n hu (handed_of ru) (h u _ (I.tok _) ru)

theorem getmeth_ok {m : Str} {g : Addr} {pl : Sem Bool} {Q : Value × List Value → Shared → Prop} (I : Inv X pins σ H s) (e : H a = some (.ins C dx fs)) (c : Cls X.K C) (k : Meth X.K C m g) (l : fs.lookup m = none)
    (h : Q (.ref g, [.ref a]) s) : wpAny (model X.prog X.w) A (getMethod (.ref a) m pl) Q E s := by
  obtain ⟨mA, O, r, _, _, _⟩ := ins_get I.hok e
  have hn : mA m = none := RelO.none_of (by rw [← l]; exact r m)
  exact get_meth I.kIn O (c.get m) k.at_ k.fn hn h

theorem setattr_ok {y : V} {u : Value} {Q : Unit → Shared → Prop} (I : Inv X pins σ H s) (e : H a = some (.ins C dx fs)) (c : Cls X.K C) (n : NoAttr X.K C f) (hl : fs.length < 1000) (ry : RelV y u)
    (h : ∀ s', Inv X pins σ (upd H a (.ins C dx (putF f y fs))) s' → Q () s') : wpAny (model X.prog X.w) A (setAttr (.ref a) f u) Q E s := by
  obtain ⟨mA, O, r, wi, _, ho⟩ := ins_get I.hok e
  have hz : (fs.map (·.1)).length ≤ sizeLine := by rw [List.length_map, sizeLine_eq]; omega
  refine set_map I.kIn O c.sa c.po n.taker c.hd wi hz fun h' O' sb => h _ ?_
  have hd : ∃ o, h'.get? dx = some o := let ⟨o, _, _, e', _⟩ := O'.ns; ⟨o, e'⟩
  refine I.write (x := a) (e := dx) (by rw [e]; exact True.intro) (.inr ho) (fun b q hb z => (sb.2 b hb).trans z) hd ?_
  refine ⟨by rw [upd_ne O.ne]; exact ho, ?_, O.ne, O'.obj, _, O'.ns, fun g => ?_, fun g hg => ?_⟩
  · have := length_putF f y fs; omega
  · show RelO ((putF f y fs).lookup g) (if g = f then some u else mA g)
    rw [lookup_putF]
    by_cases q : g = f
    · rw [if_pos q, if_pos q]; exact ry
    · rw [if_neg q, if_neg q]; exact r g
  · by_cases q : g = f
    · rw [q]; exact (keys_putF f y fs).1
    · refine (keys_putF f y fs).2 g (wi g fun z => hg ?_)
      show (if g = f then some u else mA g) = none
      rw [if_neg q]; exact z

/-- a new instance, tracked, without attributes -/
theorem Inv.made (I : Inv X pins σ H s) : Inv X pins σ (upd (upd H s.heap.objs.size (.own (s.heap.objs.size + 1))) (s.heap.objs.size + 1) (.ins C s.heap.objs.size []))
    { s with heap := (s.heap.push PySem.W.emptyDict).push (PySem.W.instObj C s.heap.objs.size) } := by
  have e1 : (s.heap.push PySem.W.emptyDict).get? s.heap.objs.size = some PySem.W.emptyDict := Heap.get?_push_size s.heap rfl
  have e2 : ((s.heap.push PySem.W.emptyDict).push (PySem.W.instObj C s.heap.objs.size)).get? (s.heap.objs.size + 1) = some (PySem.W.instObj C s.heap.objs.size) := by
    have := Heap.get?_push_size (s.heap.push PySem.W.emptyDict) (o := PySem.W.instObj C s.heap.objs.size) rfl
    rwa [Heap.size_push] at this
  have e3 : (s.heap.push PySem.W.emptyDict).Ns s.heap.objs.size (fun _ => none) := ⟨PySem.W.emptyDict, #[], _, e1, rfl, (fun e he => absurd he (by simp)), fun _ => rfl⟩
  have I1 := I.laid (a := s.heap.objs.size) (o := .own (s.heap.objs.size + 1)) (h' := s.heap.push PySem.W.emptyDict) (t' := s.toks) (fun b u q => Heap.get?_push_of_some _ q) (Nat.le_refl _) ⟨_, e1⟩
  refine I1.laid (a := s.heap.objs.size + 1) (o := .ins C s.heap.objs.size []) (t' := s.toks) (fun b u q => Heap.get?_push_of_some _ q) (Nat.le_of_eq (Heap.size_push _ _)) ?_
  have ne : s.heap.objs.size ≠ s.heap.objs.size + 1 := Nat.ne_of_lt (Nat.lt_succ_self _)
  refine ⟨by rw [upd_ne ne, upd_same], Nat.zero_le _, ne, e2, fun _ => none, (Heap.Ns1.of_empty e3).at fun o q => Heap.get?_push_of_some _ q, fun _ => True.intro, fun y hy => absurd rfl hy⟩

/-- e.f where nothing but the object is asked: through attributeBase (super) and the last hold -/
theorem attr_of {prog : Program} {w : World} {env : Env} {e : Expr} {f : Str} {pos : Pos} {s : Shared} {Q : Value → Shared → Prop} (hb : attributeBase e f env (eval e env) = eval e env)
    (h : wpAny (model prog w) A (eval e env) (fun o s₁ => wpAny (model prog w) A (getAttr o f true) Q E s₁) E s) : wpAny (model prog w) A (eval (.Attribute e f pos) env) Q E s :=
  Attribute_any_ h (by rw [arm_eval_Attribute, hb])
end

/-! ### readings and rules -/
/-- e.f, an attribute of the instance -/
def tFld (K : PySem.W.Frag) (ta : TE) (f : Str) : TE := fun σ H Q => ta σ H fun x H1 => ∃ a C dx fs v, x = .ref a ∧ H1 a = some (.ins C dx fs) ∧ Cls K C ∧ NoAttr K C f ∧ fs.lookup f = some v ∧ Q v H1
/-- e.f = value -/
def sFld (K : PySem.W.Frag) (ta tv : TE) (f : Str) : TS := fun D σ H => tv σ H fun y H1 => ta σ H1 fun x H2 => ∃ a C dx fs, x = .ref a ∧ H2 a = some (.ins C dx fs) ∧ Cls K C ∧ NoAttr K C f ∧ fs.length < 1000 ∧
  D.nx σ (upd H2 a (.ins C dx (putF f y fs)))
section
variable {X : Cx} {o e value : Expr} {f : Str} {pos pos' tpos : Pos} {ta tv : TE}
theorem pe_fld (he : PE X e ta) (hb : attributeBase e f X.env (eval e X.env) = eval e X.env) : PE X (.Attribute e f pos) (tFld X.K ta f) := by
  intro pins s σ H Q I h
  refine attr_of hb (thn (he pins s σ H _ I h) fun u s1 ⟨x, H1, I1, rx, a, C, dx, fs, v, ex, ea, c, n, l, q⟩ => ?_)
  subst ex
  obtain rfl : u = Value.ref a := rx
  exact getattr_ok I1 ea c n l fun u' s2 I2 ru => ⟨v, H1, I2, ru, q⟩
theorem ps_fld (ha : PE X o ta) (hv : PE X value tv) (hs : swapsWith value (some (.Attribute o f pos')) pos.line X.env = pure false) : PS X (.Assign [.Attribute o f pos'] value pos) (sFld X.K ta tv f) := by
  intro pins s σ H D I h
  refine plainObj_wpAny_Assign_Attribute (thn (hv pins s σ H _ I h) fun u s1 ⟨y, H1, I1, ry, q⟩ => thn (ha pins s1 σ H1 _ I1 q) fun ov s2 ⟨x, H2, I2, rx, a, C, dx, fs, ex, ea, c, n, l, q2⟩ => ?_) hs
  subst ex
  obtain rfl : ov = Value.ref a := rx
  exact setattr_ok I2 ea c n l ry fun s3 I3 => ⟨σ, _, I3, q2⟩
end

/-! ### isinstance -/
section
variable {X : Cx} {pins : List (Addr × Obj)} {σ : St} {H : Hp} {s : Shared} {A : Around} {E : Value → Shared → Prop} {Q : Value → Shared → Prop} {c : Value} {b : Bool}
/-- the type of a value, as the fragment's deciders take it; for an instance its class -/
inductive TyOf (K : PySem.W.Frag) (H : Hp) : V → Value → Prop where
  | non : TyOf K H .non (.type "NoneType")
  | bl (x : Bool) : TyOf K H (.bl x) (.type "bool")
  | int (i : Int) : TyOf K H (.int i) (.type "int")
  | str (x : Str) : TyOf K H (.str x) (.type "str")
  | flt (x : UInt64) : TyOf K H (.flt x) (.type "float")
  | lst {a : Addr} {xs : List V} (e : H a = some (.lst xs)) : TyOf K H (.ref a) (.type "list")
  | frz {a : Addr} {o : Obj} {xs : List V} (e : H a = some (.frz o (.lst xs))) : TyOf K H (.ref a) (.type "list")
  | tup {a : Addr} {xs : List V} (e : H a = some (.tup xs)) : TyOf K H (.ref a) (.type "tuple")
  | dK {a : Addr} {kvs : List (Key × V)} (e : H a = some (.dK kvs)) : TyOf K H (.ref a) (.type "dict")
  | dT {a : Addr} {kvs : List (List Key × V)} (e : H a = some (.dT kvs)) : TyOf K H (.ref a) (.type "dict")
  | ins {a C dx : Addr} {fs : List (Str × V)} (e : H a = some (.ins C dx fs)) (cl : Cls K C) (ha : PySem.W.findIn K (.ref C) "__class__" = some (some (.builtin "object.__class__")))
      (hn : PySem.W.specialIn K (.builtin "object.__class__") "__get__" = some (some (.builtin "getset_descriptor.__get__"))) (htk : PySem.W.takesIn K (.builtin "object.__class__") = some true)
      (hm : PySem.W.mroIn K C (.type "object") = some true) : TyOf K H (.ref a) (.ref C)
end
end L2

namespace L2
open PySem PySem.Spec PyProof.Rows

/-! ### room -/
structure Room (k : Nat) (A : Around) : Prop where
  hd : A.handled = none
  dp : A.depth + 3 * k + 5 < recursionLimit
  un : A.units + 16 * k + 200 < cLine
theorem Room.mono {j k : Nat} {A : Around} (r : Room k A) (h : j ≤ k) : Room j A := ⟨r.hd, by have := r.dp; omega, by have := r.un; omega⟩
theorem Room.deeper {k : Nat} {A : Around} (r : Room (k + 1) A) (env : Env) : Room k (A.deeper env) :=
  ⟨r.hd, by have := r.dp; show A.depth + 1 + 3 * k + 5 < _; omega, by have := r.un; show A.units + 3 + 16 * k + 200 < _; omega⟩
theorem Room.in1 {k : Nat} {A : Around} (r : Room (k + 1) A) : Room k A.in1 :=
  ⟨r.hd, by have := r.dp; show A.depth + 3 * k + 5 < _; omega, by have := r.un; show A.units + 1 + 16 * k + 200 < _; omega⟩
theorem make_depth {A : Around} {C : Addr} {us : List Value} {kw : List (Str × Value)} : (A.under (.builtin "type.__call__" ⟨.ref C :: us, kw⟩)).depth = A.depth + 1 := by
  first | rfl | simp [Around.under, Code.weight, Code.isCreation, Code.isGuard, Code.isCaller, Code.frames, Code.isFrame, guardIds]
theorem make_units {A : Around} {C : Addr} {us : List Value} {kw : List (Str × Value)} : (A.under (.builtin "type.__call__" ⟨.ref C :: us, kw⟩)).units = A.units + 1 := by
  first | rfl | simp [Around.under, Code.cUnits, Code.frames, Code.isFrame]
theorem Room.make {k : Nat} {A : Around} (r : Room (k + 1) A) (C : Addr) (us : List Value) (kw : List (Str × Value)) : Room k (A.under (.builtin "type.__call__" ⟨.ref C :: us, kw⟩)) :=
  ⟨r.hd, by have := r.dp; rw [make_depth]; omega, by have := r.un; rw [make_units]; omega⟩
theorem Room.depth {k : Nat} {A : Around} (r : Room k A) : A.depth < recursionLimit := by have := r.dp; omega
theorem Room.units {k : Nat} {A : Around} (r : Room k A) : A.units + 64 < cLine := by have := r.un; omega
/-! ### argument lists and displays -/
def tNil : TA := fun _ H Q => Q [] H
def tCons (ta : TE) (tr : TA) : TA := fun σ H Q => ta σ H fun x H1 => tr σ H1 fun xs H2 => Q (x :: xs) H2
section
variable {X : Cx} {e : Expr} {es : List Expr} {te : TE} {t : TA} {pos : Pos}
theorem pa_nil : PA X [] tNil := fun _ _ _ _ H Q I h => Calls.spliced_nil ⟨[], H, I, .nil, h⟩
theorem pa_cons (ha : PE X e te) (hr : PA X es t) (hs : starEach (e :: es) X.env = (false, eval e X.env) :: starEach es X.env := by rfl) : PA X (e :: es) (tCons te t) := by
  intro pos pins s σ H Q I h
  rw [hs]
  show wpAny _ _ (spliced ((false, eval e X.env) :: backTo pos (starEach es X.env))) _ _ s
  refine Calls.spliced_cons (thn (ha pins s σ H _ I h) fun u s1 ⟨x, H1, I1, r1, q1⟩ => ?_)
  exact thn (hr pos pins s1 σ H1 _ I1 q1) fun us s2 ⟨xs, H2, I2, r2, q2⟩ => ⟨x :: xs, H2, I2, .cons r1 r2, q2⟩

/-- a tuple, a list of written items -/
def tTup (t : TA) : TE := fun σ H Q => t σ H fun xs H1 => xs.length ≤ sizeLine ∧ ∀ p, H1 p = none → Q (.ref p) (upd H1 p (.tup xs))
def tLst (t : TA) : TE := fun σ H Q => t σ H fun xs H1 => xs.length ≤ sizeLine ∧ ∀ p, H1 p = none → Q (.ref p) (upd H1 p (.lst xs))
theorem pe_tup {x1} (h : PA X es t) : PE X (.Tuple es x1 pos) (tTup t) := by
  intro pins s σ H Q I hq
  refine wpAny_Tuple_spliced (thn (h pos pins s σ H _ I hq) fun us s1 ⟨xs, H1, I1, r, z, q⟩ => ⟨by rw [← r.length]; exact z, ?_⟩)
  have hf : H1 s1.heap.objs.size = none := I1.hok.fresh (Nat.le_refl _)
  refine ⟨.ref s1.heap.objs.size, upd H1 s1.heap.objs.size (.tup xs), I1.laid (t' := s1.toks) (fun b u e => Heap.get?_push_of_some _ e) (Nat.le_refl _) ?_, rfl, q _ hf⟩
  exact ⟨z, us, r, ⟨_, Heap.get?_push_size _ rfl, rfl, _, rfl⟩⟩
theorem pe_lst (h : PA X es t) : PE X (.List es pos) (tLst t) := by
  intro pins s σ H Q I hq
  refine wpAny_List_spliced (thn (h pos pins s σ H _ I hq) fun us s1 ⟨xs, H1, I1, r, z, q⟩ => ⟨by rw [← r.length]; exact z, ?_⟩)
  have hf : H1 s1.heap.objs.size = none := I1.hok.fresh (Nat.le_refl _)
  refine ⟨.ref s1.heap.objs.size, upd H1 s1.heap.objs.size (.lst xs), I1.laid (t' := s1.toks) (fun b u e => Heap.get?_push_of_some _ e) (Nat.le_refl _) ?_, rfl, q _ hf⟩
  exact ⟨z, us, 0, r, Heap.get?_push_size _ rfl⟩
end

/-! ### what a def promises -/
/-- a def's promise: the bound arguments in the parameters' order, the heap, the wanted end, the wanted exception -/
abbrev Sp := List V → Hp → VK → XK → Prop
/-- how an exception lies behind a call (file 08 gives it): the callers' frames, abstract heap and state ahead of the call, the wish, the exception, the state -/
abbrev CXT := List Env → Hp → Shared → XK → Value → Shared → Prop

/-- the state at a call -/
structure Env0 (P : Program) (w : World) (K : PySem.W.Frag) (mg : Str → Option Value) (base : Heap) (A : Around) (outer : List Env) (s : Shared) (H : Hp) : Prop where
  frames : A.frames = some outer
  mod : Mod K mg base
  bs : ∀ b o, base.get? b = some o → s.heap.get? b = some o ∧ H b = none
  bsz : base.objs.size ≤ s.heap.objs.size
  funs : s.heap.FunFrames base outer
  frf : ∀ b ∈ frs outer, H b = none
  hok : HOk P w H s.heap
  bare : AllBare s.gens
/-- a call's end -/
def CE (outer : List Env) (P : Program) (w : World) (H : Hp) (s : Shared) (Q : VK) (u : Value) (s' : Shared) : Prop :=
  ∃ v H', s'.os = s.os ∧ AllBare s'.gens ∧ Un (frs outer) [] H H' s.heap s'.heap ∧ HOk P w H' s'.heap ∧ RelV v u ∧ Q v H'
def CR (CX : CXT) (outer : List Env) (P : Program) (w : World) (H : Hp) (s : Shared) (Q : VK) (E : XK) (r : Result) (s' : Shared) : Prop :=
  match r with
  | .ok (.ret u) => CE outer P w H s Q u s'
  | .ok _ => False
  | .error e => CX outer H s E e s'
structure FnOk (P : Program) (w : World) (K : PySem.W.Frag) (mg : Str → Option Value) (base : Heap) (CX : CXT) (k : Nat) (f : Addr) (fd : FuncData) (ps : List Str) (sp : Sp) : Prop where
  len : ∀ vs H Q E, sp vs H Q E → vs.length = ps.length
  run : ∀ (A : Around) (outer : List Env) (s : Shared) (H : Hp) (args : Args) (us : List Value) (vs : List V) (Q : VK) (E : XK), Room k A → Env0 P w K mg base A outer s H → BindsTo s fd args (ps.zip us) → Vals vs us → sp vs H Q E →
    codeAny (model P w) A (.call (.ref f) args) (CR CX outer P w H s Q E) s
theorem FnOk.mono {P : Program} {w : World} {K : PySem.W.Frag} {mg : Str → Option Value} {base : Heap} {CX : CXT} {j k : Nat} {f : Addr} {fd : FuncData} {ps : List Str} {sp : Sp} (F : FnOk P w K mg base CX j f fd ps sp) (h : j ≤ k) :
    FnOk P w K mg base CX k f fd ps sp := ⟨F.len, fun A outer s H args us vs Q E hr => F.run A outer s H args us vs Q E (hr.mono h)⟩
/-- a weaker promise -/
theorem FnOk.imp {P : Program} {w : World} {K : PySem.W.Frag} {mg : Str → Option Value} {base : Heap} {CX : CXT} {k : Nat} {f : Addr} {fd : FuncData} {ps : List Str} {sp sp' : Sp} (F : FnOk P w K mg base CX k f fd ps sp)
    (h : ∀ vs H Q E, sp' vs H Q E → sp vs H Q E) : FnOk P w K mg base CX k f fd ps sp' :=
  ⟨fun vs H Q E q => F.len vs H Q E (h _ _ _ _ q), fun A outer s H args us vs Q E hr he hb hv hs => F.run A outer s H args us vs Q E hr he hb hv (h _ _ _ _ hs)⟩

theorem Env0.make {P : Program} {w : World} {K : PySem.W.Frag} {mg : Str → Option Value} {base : Heap} {A : Around} {outer : List Env} {s : Shared} {H : Hp} (e : Env0 P w K mg base A outer s H) (C : Addr) (us : List Value) (kw : List (Str × Value)) :
    Env0 P w K mg base (A.under (.builtin "type.__call__" ⟨.ref C :: us, kw⟩)) outer s H := ⟨by first | exact e.frames | (simpa [Around.under, Code.envs, Code.isFrame, pushEnvs] using e.frames), e.mod, e.bs, e.bsz, e.funs, e.frf, e.hok, e.bare⟩
theorem Env0.in1 {P : Program} {w : World} {K : PySem.W.Frag} {mg : Str → Option Value} {base : Heap} {A : Around} {outer : List Env} {s : Shared} {H : Hp} (e : Env0 P w K mg base A outer s H) :
    Env0 P w K mg base A.in1 outer s H := ⟨e.frames, e.mod, e.bs, e.bsz, e.funs, e.frf, e.hok, e.bare⟩

section
variable {X : Cx} {pins : List (Addr × Obj)} {σ : St} {H : Hp} {s s' : Shared}
/-- from a body: what a callee wants -/
theorem Inv.env0 (I : Inv X pins σ H s) : Env0 X.prog X.w X.K X.mg X.base X.A X.stack s H :=
  ⟨I.ok.frames, I.ok.mod, I.bs, Nat.le_trans I.ok.bsz I.sz, I.stack, I.stkFree, I.hok, I.bare⟩
/-- behind a call -/
theorem Inv.after {Q : VK} {u : Value} (I : Inv X pins σ H s) (h : CE X.stack X.prog X.w H s Q u s') : EP X pins σ Q u s' := by
  obtain ⟨v, H', os, bare, un, hok, r, q⟩ := h
  obtain ⟨hh, g, d, t, os'⟩ := s'
  obtain rfl : os' = s.os := os
  exact ⟨v, H', I.call (h' := hh) (g' := g) (d' := d) (t' := t) (ch := []) un hok bare (fun b z => absurd z (by simp)), r, q⟩
end

/-! ### calls -/
/-- f(..): the written arguments, then the defaults dvs; E: what is wanted of an exception -/
def tCall (sp : Sp) (dvs : List V) (E : XK) (t : TA) : TE := fun σ H Q => t σ H fun vs H1 => sp (vs ++ dvs) H1 Q E
/-- o.m(..) of an instance of the class at C -/
def tMeth (C : Addr) (m : Str) (sp : Sp) (dvs : List V) (E : XK) (ta : TE) (t : TA) : TE := fun σ H Q => ta σ H fun x H1 => ∃ a dx fs, x = .ref a ∧ H1 a = some (.ins C dx fs) ∧ fs.lookup m = none ∧
  t σ H1 fun vs H2 => sp (x :: (vs ++ dvs)) H2 Q E
/-- C(..): a new instance and its dict, then __init__ -/
def tMake (C : Addr) (sp : Sp) (dvs : List V) (E : XK) (t : TA) : TE := fun σ H Q => t σ H fun vs H1 => ∀ x dx, H1 x = none → H1 dx = none → dx ≠ x →
  sp (.ref x :: (vs ++ dvs)) (upd (upd H1 dx (.own x)) x (.ins C dx [])) (fun v H2 => v = .non ∧ Q (.ref x) H2) E

/-- how the parameters are bound: us the positional arguments, kw the keywords' values by name, ds the defaults that fill up -/
def Binds (K : PySem.W.Frag) (fd : FuncData) (ps : List Str) (ds : List Value) : Prop :=
  ∀ (s : Shared) (us : List Value), K.In s.heap → (us ++ ds).length = ps.length → BindsTo s fd ⟨us, []⟩ (ps.zip (us ++ ds))
/-- every parameter is given -/
theorem Binds.all {K : PySem.W.Frag} {fd : FuncData} {ps : List Str} (h : ∀ us : List Value, us.length = ps.length → bindArgs fd ⟨us, []⟩ = pure (ps.zip us)) : Binds K fd ps [] := fun s us _ hl => by
  rw [List.append_nil] at hl ⊢
  exact .of_eq (h us hl)

/-- an exception of a callee reaches what this body wants of exceptions -/
def Passes (CX : CXT) (X : Cx) (E : XK) : Prop := ∀ (pins : List (Addr × Obj)) (σ : St) (H : Hp) (s : Shared) (e : Value) (s' : Shared), Inv X pins σ H s → CX X.stack H s E e s' → X.xe e s'

section
variable {X : Cx} {CX : CXT} {k : Nat} {f C : Addr} {fd : FuncData} {ps : List Str} {sp : Sp} {dvs : List V} {ds : List Value} {E : XK} {x m : Str} {p pos apos : Pos} {e o : Expr} {es : List Expr} {ta : TE} {t : TA}

/-- the callee runs -/
theorem run_fn {pins : List (Addr × Obj)} {σ : St} {H : Hp} {s : Shared} {Q : VK} {us : List Value} {vs : List V} (F : FnOk X.prog X.w X.K X.mg X.base CX k f fd ps sp) (hr : Room k X.A) (hb : Binds X.K fd ps ds) (hd : Vals dvs ds) (hx : Passes CX X E)
    (I : Inv X pins σ H s) (r : Vals vs us) (h : sp (vs ++ dvs) H Q E) : wpAny (model X.prog X.w) X.A (call (.ref f) us) (EP X pins σ Q) X.xe s := by
  have r2 : Vals (vs ++ dvs) (us ++ ds) := r.append hd
  have hl : (us ++ ds).length = ps.length := by rw [← r2.length]; exact F.len _ _ _ _ h
  refine wpAny_call (codeAny_mono (F.run X.A X.stack s H ⟨us, []⟩ (us ++ ds) (vs ++ dvs) Q E hr I.env0 (hb s us I.kIn hl) r2 h) fun r s' hq => ?_)
  cases r with
  | error e => exact hx pins σ H s e s' I hq
  | ok fl =>
    cases fl with
    | ret u => exact I.after hq
    | next => exact False.elim hq
    | brk => exact False.elim hq
    | cont => exact False.elim hq

theorem pe_call (F : FnOk X.prog X.w X.K X.mg X.base CX k f fd ps sp) (hr : Room k X.A) (hg : Gl X x) (hm : X.mg x = some (.ref f)) (hk : PySem.W.keepIn X.K (.ref f) = true) (hb : Binds X.K fd ps ds) (hd : Vals dvs ds) (hx : Passes CX X E)
    (ha : PA X (e :: es) t) (hdb : (x == ("__debug__" : Str)) = false := by decide) (he : starEach (e :: es) X.env = (false, eval e X.env) :: starEach es X.env := by rfl) (hpl : (backTo pos (starEach es X.env)).any (·.1) = false := by rfl) :
    PE X (.Call (.Name x p) (e :: es) [] pos) (tCall sp dvs E t) := by
  intro pins s σ H Q I h
  refine wpAny_Call_Name_kw (ld_glob I hg hm ?_ hdb)
  refine PySem.W.callWith_K (h₀ := X.base) I.ok.mod.kin hk (thn (ha pos pins s σ H _ I h) fun us s1 ⟨vs, H1, I1, r, q⟩ => ⟨I1.kIn, ?_⟩) he hpl
  exact run_fn F hr hb hd hx I1 r q
theorem pe_call0 (F : FnOk X.prog X.w X.K X.mg X.base CX k f fd ps sp) (hr : Room k X.A) (hg : Gl X x) (hm : X.mg x = some (.ref f)) (hk : PySem.W.keepIn X.K (.ref f) = true) (hb : Binds X.K fd ps ds) (hd : Vals dvs ds) (hx : Passes CX X E)
    (hdb : (x == ("__debug__" : Str)) = false := by decide) : PE X (.Call (.Name x p) [] [] pos) (tCall sp dvs E tNil) := by
  intro pins s σ H Q I h
  refine wpAny_Call_Name_kw (ld_glob I hg hm ?_ hdb)
  exact PySem.W.callWith_K0 I.kIn hk (run_fn (us := []) F hr hb hd hx I .nil h)

/-- o.m(e, ..) -/
theorem pe_meth {pl : Sem Bool} (he : PE X o ta) (c : Cls X.K C) (hm : Meth X.K C m f) (F : FnOk X.prog X.w X.K X.mg X.base CX k f fd ps sp) (hr : Room k X.A) (hb : Binds X.K fd ps ds) (hd : Vals dvs ds) (hx : Passes CX X E) (ha : PA X (e :: es) t)
    (hst : starEach (e :: es) X.env = (false, eval e X.env) :: starEach es X.env := by rfl) (hpl : (backTo pos (starEach es X.env)).any (·.1) = false := by rfl)
    (ht : eval (.Call (.Attribute o m apos) (e :: es) [] pos) X.env = (do
      let ov ← eval o X.env
      standAt apos.atName
      let (f, first) ← holding [ov] (getMethod ov m pl)
      callWith pos f first (backTo pos (starEach (e :: es) X.env)) (backToKw pos (keywordEach [] X.env))) := by rfl) :
    PE X (.Call (.Attribute o m apos) (e :: es) [] pos) (tMeth C m sp dvs E ta t) := by
  intro pins s σ H Q I h
  refine PySem.W.methodCall_KW (pl := pl) (thn (he pins s σ H _ I h) fun u s1 ⟨x, H1, I1, rx, a, dx, fs, ex, ea, l, q⟩ => ?_) ht
  subst ex
  obtain rfl : u = Value.ref a := rx
  refine getmeth_ok I1 ea c hm l ?_
  refine PySem.W.callWith_K (first := [.ref a]) (h₀ := X.base) I.ok.mod.kin hm.kp (thn (ha pos pins s1 σ H1 _ I1 q) fun us s2 ⟨vs, H2, I2, r, q2⟩ => ⟨I2.kIn, ?_⟩) hst hpl
  exact run_fn (us := .ref a :: us) (vs := .ref a :: vs) F hr hb hd hx I2 (.cons rfl r) q2
/-- what a class must have to be made -/
structure Mk (K : PySem.W.Frag) (C f : Addr) : Prop where
  makes : PySem.W.makesIn K C = true
  init : PySem.W.findIn K (.ref C) "__init__" = some (some (.ref f))
  fn : PySem.W.isFn K (.ref f) = true
  kp : PySem.W.keepIn K (.ref C) = true

theorem run_make {pins : List (Addr × Obj)} {σ : St} {H : Hp} {s : Shared} {Q : VK} {us : List Value} {vs : List V} (M : Mk X.K C f) (F : FnOk X.prog X.w X.K X.mg X.base CX k f fd ps sp) (hr : Room (k + 1) X.A) (hb : Binds X.K fd ps ds) (hd : Vals dvs ds)
    (hx : Passes CX X E) (I : Inv X pins σ H s) (r : Vals vs us)
    (h : ∀ x dx, H x = none → H dx = none → dx ≠ x → sp (.ref x :: (vs ++ dvs)) (upd (upd H dx (.own x)) x (.ins C dx [])) (fun v H2 => v = .non ∧ Q (.ref x) H2) E) :
    wpAny (model X.prog X.w) X.A (call (.ref C) us) (EP X pins σ Q) X.xe s := by
  have hq := h (s.heap.objs.size + 1) s.heap.objs.size (I.hok.fresh (Nat.le_succ _)) (I.hok.fresh (Nat.le_refl _)) (Nat.ne_of_lt (Nat.lt_succ_self _))
  have I2 := Inv.made (C := C) I
  have r2 : Vals (V.ref (s.heap.objs.size + 1) :: (vs ++ dvs)) (Value.ref (s.heap.objs.size + 1) :: (us ++ ds)) := .cons rfl (r.append hd)
  have hl : (Value.ref (s.heap.objs.size + 1) :: us ++ ds).length = ps.length := by
    have e := r2.length
    rw [F.len _ _ _ _ hq] at e
    exact e.symm
  refine wpAny_call (make_map (f := f) I.kIn M.makes M.init (beq_iff_eq.mp M.fn) (codeAny_mono (F.run _ X.stack _ _ ⟨Value.ref (s.heap.objs.size + 1) :: us, []⟩ (Value.ref (s.heap.objs.size + 1) :: (us ++ ds)) _ _ E (hr.make C us [])
    (I2.env0.make C us []) (hb _ (Value.ref (s.heap.objs.size + 1) :: us) I2.kIn hl) r2 hq) fun r s' hq' => ?_))
  cases r with
  | error e => exact hx pins σ _ _ e s' I2 hq'
  | ok fl =>
    cases fl with
    | ret u =>
      obtain ⟨v, H', I3, rv, ev, q3⟩ := I2.after hq'
      subst ev
      exact ⟨rv, ⟨V.ref (s.heap.objs.size + 1), H', I3, rfl, q3⟩⟩
    | next => exact False.elim hq'
    | brk => exact False.elim hq'
    | cont => exact False.elim hq'
theorem pe_make (M : Mk X.K C f) (F : FnOk X.prog X.w X.K X.mg X.base CX k f fd ps sp) (hr : Room (k + 1) X.A) (hg : Gl X x) (hm : X.mg x = some (.ref C)) (hb : Binds X.K fd ps ds) (hd : Vals dvs ds) (hx : Passes CX X E)
    (ha : PA X (e :: es) t) (hdb : (x == ("__debug__" : Str)) = false := by decide) (he : starEach (e :: es) X.env = (false, eval e X.env) :: starEach es X.env := by rfl) (hpl : (backTo pos (starEach es X.env)).any (·.1) = false := by rfl) :
    PE X (.Call (.Name x p) (e :: es) [] pos) (tMake C sp dvs E t) := by
  intro pins s σ H Q I h
  refine wpAny_Call_Name_kw (ld_glob I hg hm ?_ hdb)
  refine PySem.W.callWith_K (h₀ := X.base) I.ok.mod.kin M.kp (thn (ha pos pins s σ H _ I h) fun us s1 ⟨vs, H1, I1, r, q⟩ => ⟨I1.kIn, ?_⟩) he hpl
  exact run_make M F hr hb hd hx I1 r q
end

/-! ### keywords -/
section
variable {X : Cx} {CX : CXT} {k : Nat} {f C : Addr} {fd : FuncData} {ps ks : List Str} {sp : Sp} {E : XK} {x m : Str} {p pos apos kpos : Pos} {e o : Expr} {es : List Expr} {kws : List Keyword} {te ta : TE} {t tk : TA} {nm : Option Str}
/-- how a call with keywords binds: g puts the positional values us and the keywords' values ws (names ks) in the parameters' order, defaults among them -/
structure KBinds (K : PySem.W.Frag) (fd : FuncData) (ps ks : List Str) (g : List Value → List Value → List Value) (gV : List V → List V → List V) : Prop where
  to : ∀ (s : Shared) (us ws : List Value), K.In s.heap → (g us ws).length = ps.length → BindsTo s fd ⟨us, ks.zip ws⟩ (ps.zip (g us ws))
  rel : ∀ {vs : List V} {us : List Value} {zs : List V} {ws : List Value}, Vals vs us → Vals zs ws → Vals (gV vs zs) (g us ws)
variable {g : List Value → List Value → List Value} {gV : List V → List V → List V}
end

/-! ### a def's body keeps its promise -/
/-- names: the parameters first -/
structure FnScope (N P : List Str) (sc : Scope) : Prop where
  kind : sc.kind = .function
  co : sc.isCoroutine = false
  gen : sc.isGenerator = false
  nd : N.Nodup
  pre : N.take P.length = P
  par : ∀ x ∈ P, sc.names.lookup x = some .local ∨ sc.names.lookup x = some .cell
  nofree : ∀ y ∈ sc.names, y.2 ≠ .free

theorem bindL_out {kindOf : Str → Option NameKind} {x : Str} : ∀ {binds : List (Str × Value)} {m : Str → Option Value}, (∀ v, (x, v) ∉ binds) → bindL kindOf binds m x = m x
  | [], _, _ => rfl
  | (n, v) :: r, m, h => by
    unfold bindL
    rw [bindL_out fun w hw => h w (List.mem_cons_of_mem _ hw)]
    split
    · have : x ≠ n := by rintro rfl; exact h v List.mem_cons_self
      simp [this]
    · rfl
theorem bindC_out {kindOf : Str → Option NameKind} {x : Str} : ∀ {binds : List (Str × Value)} {m : Str → Option Value}, (∀ v, (x, v) ∉ binds) → bindC kindOf binds m x = m x
  | [], _, _ => rfl
  | (n, v) :: r, m, h => by
    unfold bindC
    rw [bindC_out fun w hw => h w (List.mem_cons_of_mem _ hw)]
    split
    · rfl
    · have : x ≠ n := by rintro rfl; exact h v List.mem_cons_self
      simp [this]
theorem bindL_get {kindOf : Str → Option NameKind} {x : Str} {v : Value} : ∀ {P : List Str} {vs : List Value} {i : Nat} {m : Str → Option Value}, P.Nodup → P[i]? = some x → vs[i]? = some v → kindOf x = some .local →
    bindL kindOf (P.zip vs) m x = some v
  | [], _, _, _, _, h, _, _ => by simp at h
  | _ :: _, [], _, _, _, _, h, _ => by simp at h
  | p :: P, w :: vs, 0, m, nd, h1, h2, hk => by
    simp at h1 h2; subst h1; subst h2
    show bindL kindOf ((p, w) :: P.zip vs) m p = _
    unfold bindL
    rw [bindL_out fun v hv => (List.nodup_cons.mp nd).1 (List.of_mem_zip hv).1, if_pos hk]
    simp
  | p :: P, w :: vs, i + 1, m, nd, h1, h2, hk => by
    show bindL kindOf ((p, w) :: P.zip vs) m x = _
    unfold bindL
    exact bindL_get (i := i) (List.nodup_cons.mp nd).2 (by simpa using h1) (by simpa using h2) hk
theorem bindC_get {kindOf : Str → Option NameKind} {x : Str} {v : Value} : ∀ {P : List Str} {vs : List Value} {i : Nat} {m : Str → Option Value}, P.Nodup → P[i]? = some x → vs[i]? = some v → kindOf x ≠ some .local →
    bindC kindOf (P.zip vs) m x = some v
  | [], _, _, _, _, h, _, _ => by simp at h
  | _ :: _, [], _, _, _, _, h, _ => by simp at h
  | p :: P, w :: vs, 0, m, nd, h1, h2, hk => by
    simp at h1 h2; subst h1; subst h2
    show bindC kindOf ((p, w) :: P.zip vs) m p = _
    unfold bindC
    rw [bindC_out fun v hv => (List.nodup_cons.mp nd).1 (List.of_mem_zip hv).1, if_neg hk]
    simp
  | p :: P, w :: vs, i + 1, m, nd, h1, h2, hk => by
    show bindC kindOf ((p, w) :: P.zip vs) m x = _
    unfold bindC
    exact bindC_get (i := i) (List.nodup_cons.mp nd).2 (by simpa using h1) (by simpa using h2) hk

/-- the names' values at the entry -/
def start (N : List Str) (vs : List V) : St := vs.map some ++ List.replicate (N.length - vs.length) none

/-- the context of a def's body, at its entry; an exception leaves the frame, then lies as CX says -/
def cxOf (CX : CXT) (P : Program) (w : World) (K : PySem.W.Frag) (mg : Str → Option Value) (base : Heap) (N : List Str) (qual : Str) (scope : Scope) (f : Addr) (cd : Value) (A : Around) (outer : List Env) (s : Shared) (H : Hp) (E : XK) : Cx where
  prog := P
  w := w
  K := K
  mg := mg
  base := base
  A := A.deeper (envOfC qual scope s.heap.objs.size f cd)
  N := N
  s₀ := s
  H₀ := H
  env := envOfC qual scope s.heap.objs.size f cd
  outer := outer
  stack := envOfC qual scope s.heap.objs.size f cd :: outer
  ex := []
  calm := true
  fn := fun _ => true
  pn := []
  xe := fun e s' => wpAny (model P w) (A.deeper (envOfC qual scope s.heap.objs.size f cd)) (leaving (envOfC qual scope s.heap.objs.size f cd) e) (fun _ s'' => CX outer H s E e s'') (fun e' s'' => CX outer H s E e' s'') s'

theorem cell_has {sc : Scope} {n : Nat} {x : Str} (h : sc.names.lookup x = some .cell) : ∃ c, (cellsFrom n sc.names []).lookup x = some c := by
  have q := PySem.W.cellsFrom_some sc.names n [] (.inl h)
  exact Option.isSome_iff_exists.mp q

theorem inv_start {CX : CXT} {P : Program} {w : World} {K : PySem.W.Frag} {mg : Str → Option Value} {base : Heap} {N ps : List Str} {qual : Str} {scope : Scope} {f : Addr} {cd : Value} {A : Around} {outer : List Env} {s s1 : Shared} {H : Hp} {E : XK} {us : List Value} {vs : List V}
    (S : FnScope N ps scope) (hd : A.handled = none) (e0 : Env0 P w K mg base A outer s H) (hl : vs.length = ps.length) (r : Vals vs us)
    (x : InCallC s s.heap.objs.size (bindL (envOfC qual scope s.heap.objs.size f cd).kindOf (ps.zip us) fun _ => none) (cellsFrom (s.heap.objs.size + 1) scope.names []) (bindC (envOfC qual scope s.heap.objs.size f cd).kindOf (ps.zip us) fun _ => none) s1) :
    Inv (cxOf CX P w K mg base N qual scope f cd A outer s H E) [] (start N vs) H s1 := by
  have hpl : ps.length ≤ N.length := by have := congrArg List.length S.pre; rw [List.length_take] at this; omega
  obtain ⟨h1, tk, rfl, hk⟩ := x.done
  have noA : ∀ b : Addr, b ∉ (cxOf CX P w K mg base N qual scope f cd A outer s H E).ex := fun b z => absurd (show b ∈ ([] : List Addr) from z) (by simp)
  refine ⟨⟨e0.mod, S.kind, rfl, rfl, Nat.le_refl _, fun y z c h1 h2 => ?_, fun y hy => ?_, fun y c _ h => ?_, fun _ => hd, Around.frames_deeper e0.frames, .inr ⟨rfl, rfl⟩, fun b z => absurd z (noA b), e0.bs, e0.bsz, fun b _ _ => noA b, fun b z => absurd z (noA b), e0.funs, e0.frf⟩,
    rfl, e0.bare, Un.kept hk, ⟨_, x.toInCall.ns, fun i y v h1 h2 h3 => ?_⟩, fun y c h => ⟨_, x.cell y c h⟩, e0.hok.fresh (Nat.le_refl _), fun y c h => ?_, fun p hp => absurd (show p ∈ ([] : List (Addr × Obj)) from hp) (by simp), e0.hok.kept hk, ?_⟩
  · exact name_of_addr x.apart (PySem.mem_of_lookup h1) (PySem.mem_of_lookup h2)
  · have hy : scope.names.lookup y = some .cell ∨ scope.names.lookup y = some .free := hy
    rcases hy with hy | hy
    · exact cell_has hy
    · exact absurd rfl (S.nofree _ (PySem.mem_of_lookup hy))
  · exact Nat.le_of_lt (x.above y c (PySem.mem_of_lookup h))
  · have hi : i < vs.length := by
      unfold start at h2
      by_cases hi : i < vs.length
      · exact hi
      · rw [List.getElem?_append_right (by simpa using hi)] at h2
        rw [List.getElem?_replicate] at h2
        split at h2 <;> cases h2
    have ha : vs[i]? = some v := by
      unfold start at h2
      rw [List.getElem?_append_left (by simpa using hi), List.getElem?_map] at h2
      cases e : vs[i]? with
      | none => rw [e] at h2; cases h2
      | some a => rw [e] at h2; cases h2; rfl
    obtain ⟨u, hu, rv⟩ := r.get ha
    have hp : ps[i]? = some y := by
      rw [← S.pre, List.getElem?_take_of_lt (by omega)]; exact h1
    have ndP : ps.Nodup := by rw [← S.pre]; exact S.nd.sublist (List.take_sublist _ _)
    refine ⟨u, rv, ?_⟩
    rcases S.par y (List.mem_of_getElem? hp) with k | k
    · exact .inl ⟨k, bindL_get ndP hp hu k⟩
    · obtain ⟨c, e⟩ := cell_has (n := s.heap.objs.size + 1) k
      refine .inr ⟨.inl k, c, e, ?_⟩
      have q := x.cell y c e
      rw [bindC_get ndP hp hu (by show scope.names.lookup y ≠ _; rw [k]; decide)] at q
      exact q
  · exact e0.hok.fresh (Nat.le_of_lt (x.above y c (PySem.mem_of_lookup h)))
  · unfold start
    show _ = N.length
    rw [List.length_append, List.length_map, List.length_replicate]
    omega

/-- THE RULE: a def (or a method) of the text, by its body. The body's reading t is chosen for each entry; it is run at the parameters' values -/
theorem fn_of {CX : CXT} {P : Program} {w : World} {K : PySem.W.Frag} {mg : Str → Option Value} {base : Heap} {k : Nat} {f : Addr} {name qual : Str} {params : Arguments} {body : List Stmt} {scope : Scope} {dV kV doc pm cdv ct oc : Value} {an od : Option Addr}
    {osl : Array (Option Value)} {N ps : List Str} {sp : Sp} (lk : K.lookup f = some ⟨oc, od, .func (PySem.W.fnOf name qual params body scope dV kV doc pm an cdv ct), osl⟩) (hcd : PySem.W.codeIn K cdv qual = true) (S : FnScope N ps scope)
    (len : ∀ vs H Q E, sp vs H Q E → vs.length = ps.length)
    (hbody : ∀ (A : Around) (outer : List Env) (s : Shared) (H : Hp) (vs : List V) (Q : VK) (E : XK), Room k (A.deeper (envOfC qual scope s.heap.objs.size f cdv)) → sp vs H Q E →
      ∃ t, PSs (cxOf CX P w K mg base N qual scope f cdv A outer s H E) body t ∧ t { nx := fun _ H' => Q .non H', rt := Q } (start N vs) H) :
    FnOk P w K mg base CX (k + 1) f (PySem.W.fnOf name qual params body scope dV kV doc pm an cdv ct) ps sp := by
  refine ⟨len, fun A outer s H args us vs Q E hr e0 hb r hsp => ?_⟩
  have hl := len _ _ _ _ hsp
  have KX : K.In s.heap := e0.mod.kin.keeps fun b o e => (e0.bs b o e).1
  have lim : s.heap.NoLimit := e0.mod.nolimit.keeps fun b o e => (e0.bs b o e).1
  have hkind : ∀ y ∈ ps.zip us, scope.names.lookup y.1 = some .local ∨ (scope.names.lookup y.1 = some .cell ∧ ((cellsFrom (s.heap.objs.size + 1) scope.names []).lookup y.1).isSome = true) := fun ⟨n, v⟩ hy => by
    rcases S.par n (List.of_mem_zip hy).1 with q | q
    · exact .inl q
    · exact .inr ⟨q, PySem.W.cellsFrom_some _ _ _ (.inl q)⟩
  refine codeAny_call_function hr.depth (KX _ _ lk) rfl S.co S.gen rfl (PySem.W.codeRec_of KX hcd) (hb _ _ _ _ ?_)
  refine wpAny_newFunctionEnv_cells S.kind hkind fun env he s1 x => ?_
  subst he
  refine ⟨lim.keeps x.toInCall.keep, codeAny_func ?_⟩
  obtain ⟨t, ht, hq⟩ := hbody A outer s H vs Q E (hr.deeper _) hsp
  have I : Inv (cxOf CX P w K mg base N qual scope f cdv A outer s H E) [] (start N vs) H s1 := inv_start S hr.hd e0 hl r x
  refine wpAny_mono (ht [] s1 (start N vs) H _ I hq) (fun fl s' hs => ?_) fun e s' hs => hs
  have fin : ∀ {σ' : St} {H' : Hp} {v : V} {u : Value}, Inv (cxOf CX P w K mg base N qual scope f cdv A outer s H E) [] σ' H' s' → RelV v u → Q v H' → CE outer P w H s Q u s' :=
    fun {σ' H' v u} J rv q => ⟨v, H', J.os, J.bare, J.base, J.hok, rv, q⟩
  cases fl with
  | ret u =>
    obtain ⟨v, σ', H', J, rv, q⟩ := hs
    exact fin J rv q
  | next =>
    obtain ⟨σ', H', J, q⟩ := hs
    exact fin (v := V.non) (u := Value.none) J rfl q
  | brk =>
    obtain ⟨_, _, _, q⟩ := hs
    exact False.elim q
  | cont =>
    obtain ⟨_, _, _, q⟩ := hs
    exact False.elim q
end L2

namespace L2
open PySem PySem.Spec PyProof.Rows
section
variable {X : Cx} {x : Str} {p pos : Pos} {e : Expr} {es : List Expr} {t : TA} {id T : String} {r : List V → Hp → VK → Prop}

def tCB (r : List V → Hp → VK → Prop) (t : TA) : TE := fun σ H Q => t σ H fun vs H1 => r vs H1 Q
/-- f(e, ..), f a built-in function -/
theorem pe_callB (hc : CallR X (.builtin id) r) (hg : Gl X x) (hm : X.mg x = none) (hv : bootBuiltins x = some (.builtin id)) (ha : PA X (e :: es) t) (hn : x ≠ "__name__" := by decide) (hdb : (x == ("__debug__" : Str)) = false := by decide)
    (he : starEach (e :: es) X.env = (false, eval e X.env) :: starEach es X.env := by rfl) (hpl : (backTo pos (starEach es X.env)).any (·.1) = false := by rfl) : PE X (.Call (.Name x p) (e :: es) [] pos) (tCB r t) := by
  intro pins s σ H Q I h
  refine wpAny_Call_Name_kw (ld_blt I hg hm hv ?_ hn hdb)
  exact PyProof.Rows.callWith_builtin1 (thn (ha pos pins s σ H _ I h) fun us s1 ⟨vs, H1, I1, r1, q1⟩ => hc pins s1 σ H1 vs us Q I1 r1 q1) he hpl
/-- T(e, ..), T a built-in type -/
theorem pe_callTy (hc : CallR X (.type T) r) (hg : Gl X x) (hm : X.mg x = none) (hv : bootBuiltins x = some (.type T)) (ha : PA X (e :: es) t) (hn : x ≠ "__name__" := by decide) (hdb : (x == ("__debug__" : Str)) = false := by decide)
    (he : starEach (e :: es) X.env = (false, eval e X.env) :: starEach es X.env := by rfl) (hpl : (backTo pos (starEach es X.env)).any (·.1) = false := by rfl) : PE X (.Call (.Name x p) (e :: es) [] pos) (tCB r t) := by
  intro pins s σ H Q I h
  refine wpAny_Call_Name_kw (ld_blt I hg hm hv ?_ hn hdb)
  exact PyProof.Rows.callWith_type1 (thn (ha pos pins s σ H _ I h) fun us s1 ⟨vs, H1, I1, r1, q1⟩ => hc pins s1 σ H1 vs us Q I1 r1 q1) he hpl
end
end L2

namespace HT
open PySem PyProof.Rows

section
open PySem.SeqAt
open PySem.AutoSeq1 (wpAny_loadPart')
open PySem.MeetsSeq PySem.MeetsSeq2 PySem.MeetsSeq3

end

section
variable {prog : Program} {w : World} {A : Around} {E : Value → Shared → Prop} {s : Shared}

/-! ### t[a:b], not the whole -/
end
end HT

namespace L2
open PySem PySem.Spec PyProof.Rows

/-! ### the parts of a slice -/
abbrev TO := St → Hp → (Option Int → Hp → Prop) → Prop
section
variable {X : Cx} {e : Expr} {te : TE} {lo hi : Option Expr} {tl th : TO} {pos p2 : Pos}

/-- what a slice of a value is, by values: the slice object stands at sl -/
def SlR (X : Cx) (r : V → Option Int → Option Int → Hp → VK → Prop) : Prop :=
  ∀ (pins : List (Addr × Obj)) (s : Shared) (σ : St) (H : Hp) (x : V) (v vl vu : Value) (lo hi : Option Int) (sl : Addr) (Q : VK), Inv X pins σ H s → RelV x v → s.heap.IsSliceOf sl vl vu .none → IsPart vl lo → IsPart vu hi → r x lo hi H Q →
    ∃ T id, typeLookup (.type T) "__getitem__" = pure (some (.builtin id)) ∧ s.TypeIs v T ∧ wpAny (model X.prog X.w) X.A (getItem v (.ref sl)) (EP X pins σ Q) X.xe s
theorem SlR.or {r r' : V → Option Int → Option Int → Hp → VK → Prop} (h : SlR X r) (h' : SlR X r') : SlR X (fun x lo hi H Q => r x lo hi H Q ∨ r' x lo hi H Q) := by
  intro pins s σ H x v vl vu lo hi sl Q I rx hs pl pu q
  rcases q with q | q
  · exact h pins s σ H x v vl vu lo hi sl Q I rx hs pl pu q
  · exact h' pins s σ H x v vl vu lo hi sl Q I rx hs pl pu q
/-! ### t < u, t + u -/
end
end L2

namespace L2
open PySem PySem.Spec PyProof.Rows

/-! ### places -/
/-- the place that an index of any sign means -/
def ixN (n : Nat) (i : Int) : Option Nat := if 0 ≤ i then (if i < n then some i.toNat else none) else if -(n : Int) ≤ i then some (i + n).toNat else none
def atI {α : Type} (xs : List α) (i : Int) : Option α := (ixN xs.length i).bind fun j => xs[j]?
theorem ixN_seq {n : Nat} {i : Int} {j : Nat} (h : ixN n i = some j) : seqIndex? i n = some j ∧ j < n ∧ -(n : Int) ≤ i ∧ i < n := by
  unfold ixN at h
  by_cases h0 : 0 ≤ i
  · rw [if_pos h0] at h
    by_cases h1 : i < n
    · rw [if_pos h1] at h
      have e : i.toNat = j := Option.some.inj h
      exact ⟨by rw [seqIndex_of h0 h1, e], by omega, by omega, h1⟩
    · rw [if_neg h1] at h; cases h
  · rw [if_neg h0] at h
    by_cases h1 : -(n : Int) ≤ i
    · rw [if_pos h1] at h
      have e : (i + n).toNat = j := Option.some.inj h
      exact ⟨by rw [seqIndex_neg (by omega) h1, e], by omega, h1, by omega⟩
    · rw [if_neg h1] at h; cases h
theorem atI_get {α : Type} {xs : List α} {i : Int} {v : α} (h : atI xs i = some v) : ∃ j, seqIndex? i xs.length = some j ∧ xs[j]? = some v ∧ j < xs.length ∧ -(xs.length : Int) ≤ i ∧ i < xs.length := by
  unfold atI at h
  cases e : ixN xs.length i with
  | none => rw [e] at h; cases h
  | some j =>
    rw [e] at h
    obtain ⟨h1, h2, h3, h4⟩ := ixN_seq e
    exact ⟨j, h1, h, h2, h3, h4⟩
theorem atI_nat {α : Type} {xs : List α} {j : Nat} {v : α} (h : xs[j]? = some v) : atI xs (j : Int) = some v := by
  have hj : j < xs.length := (List.getElem?_eq_some_iff.mp h).1
  have e : ixN xs.length (j : Int) = some j := by
    unfold ixN
    rw [if_pos (by omega), if_pos (by omega)]; simp
  unfold atI; rw [e]; exact h
/-! ### what may be subscripted -/
/-- what stands as an index of a plain subscript -/
def PlainIx (b : Expr) : Prop := ∀ o i, subscripted b false o i = operate [o, i] (getItem o i)
/-- a subscript by values -/
def IxR (X : Cx) (r : R2) : Prop :=
  ∀ (value slice : Expr) (pins : List (Addr × Obj)) (s : Shared) (σ : St) (H : Hp) (x y : V) (v u : Value) (Q : VK), Inv X pins σ H s → RelV x v → RelV y u → r x y H Q →
    subscripted slice false v u = operate [v, u] (getItem v u) → wpAny (model X.prog X.w) X.A (subscriptTail value slice v u) (EP X pins σ Q) X.xe s
/-- a call of a builtin's method by values: the receiver, the arguments -/
def MtR (X : Cx) (id : String) (r : V → List V → Hp → VK → Prop) : Prop :=
  ∀ (pins : List (Addr × Obj)) (s : Shared) (σ : St) (H : Hp) (x : V) (xs : List V) (v : Value) (us : List Value) (Q : VK), Inv X pins σ H s → RelV x v → Vals xs us → r x xs H Q →
    wpAny (model X.prog X.w) X.A (call (.builtin id) (v :: us)) (EP X pins σ Q) X.xe s
section
variable {X : Cx} {a b : Expr} {ta tb : TE} {pos : Pos}
theorem IxR.or {r r' : R2} (h : IxR X r) (h' : IxR X r') : IxR X (fun x y H Q => r x y H Q ∨ r' x y H Q) := by
  intro value slice pins s σ H x y v u Q I rx ry q hs
  rcases q with q | q
  · exact h value slice pins s σ H x y v u Q I rx ry q hs
  · exact h' value slice pins s σ H x y v u Q I rx ry q hs
theorem MtR.or {id : String} {r r' : V → List V → Hp → VK → Prop} (h : MtR X id r) (h' : MtR X id r') : MtR X id (fun x xs H Q => r x xs H Q ∨ r' x xs H Q) := by
  intro pins s σ H x xs v us Q I rx rs q
  rcases q with q | q
  · exact h pins s σ H x xs v us Q I rx rs q
  · exact h' pins s σ H x xs v us Q I rx rs q
/-- a[b] -/
theorem pe_ix {r : R2} (hr : IxR X r) (ha : PE X a ta) (hb : PE X b tb) (hs : PlainIx b) : PE X (.Subscript a b pos) (tOp r ta tb) := by
  intro pins s σ H Q I h
  exact Subscript_ (binT ha hb I h fun v u s2 x y H2 I2 rx ry q => hr a b pins s2 σ H2 x y v u Q I2 rx ry q (hs _ _))

def rIxL (K : PySem.W.Frag) : R2 := fun x y H Q => ∃ p xs i v, x = .ref p ∧ y = .int i ∧ SqL K H p xs ∧ atI xs i = some v ∧ Q v H
def rIxT (K : PySem.W.Frag) : R2 := fun x y H Q => ∃ p xs i v, x = .ref p ∧ y = .int i ∧ SqT K H p xs ∧ atI xs i = some v ∧ Q v H
def rIxS : R2 := fun x y H Q => ∃ z i c, x = .str z ∧ y = .int i ∧ z.length ≤ sizeLine ∧ atI z.cps.toList i = some c ∧ Q (.str ⟨#[c]⟩) H
theorem ix_list : IxR X (rIxL X.K) := by
  intro value slice pins s σ H x y v u Q I rx ry h hs
  obtain ⟨p, xs, i, z, rfl, rfl, hq, he, q⟩ := h
  cases rx
  obtain ⟨t, rfl⟩ := ry
  obtain ⟨its, r, pl, hz⟩ := I.list hq
  obtain ⟨j, h1, h2, h3, h4, h5⟩ := atI_get he
  obtain ⟨w, ew, rw'⟩ := r.get h2
  have hl := r.length
  have hn := line63
  have fin : EP X pins σ Q w s := ⟨z, H, I, rw', q⟩
  by_cases h0 : 0 ≤ i
  · have hj : i.toNat = j := by
      rw [seqIndex_of h0 h5] at h1
      exact Option.some.inj h1
    exact item_listR pl.isList h0 (by omega) (by rw [hj]; simpa using ew) fin hs
  · have hj : (i + (its.toArray.size : Int)).toNat = j := by
      rw [seqIndex_neg (by omega) h4] at h1
      rw [List.size_toArray, ← hl]
      exact Option.some.inj h1
    exact subscriptTail_builtinR (x := w) pl.isList.typeIs slot_list_getitem.lookup
      (wpAny_getItem_list_neg (Q := fun r s' => r = w ∧ EP X pins σ Q r s') pl.isList (by omega) (by rw [List.size_toArray] <;> omega) (by omega) (by rw [hj]; simpa using ew) ⟨rfl, fin⟩) hs
theorem ix_tup : IxR X (rIxT X.K) := by
  intro value slice pins s σ H x y v u Q I rx ry h hs
  obtain ⟨p, xs, i, z, rfl, rfl, hq, he, q⟩ := h
  cases rx
  obtain ⟨t, rfl⟩ := ry
  obtain ⟨its, r, pl, hz⟩ := I.tuple hq
  obtain ⟨j, h1, h2, h3, h4, h5⟩ := atI_get he
  obtain ⟨w, ew, rw'⟩ := r.get h2
  have hl := r.length
  have hn := line63
  have fin : EP X pins σ Q w s := ⟨z, H, I, rw', q⟩
  exact subscriptTail_builtinR (x := w) pl.typeIs slot_tuple_getitem.lookup
    (getItem_tuple (j := j) (Q := fun r s' => r = w ∧ EP X pins σ Q r s') pl (by omega) (by omega) (by rw [List.size_toArray, ← hl]; exact h1) (by simpa using ew) ⟨rfl, fin⟩) hs
theorem ix_str : IxR X rIxS := by
  intro value slice pins s σ H x y v u Q I rx ry h hs
  obtain ⟨z, i, c, rfl, rfl, hz, he, q⟩ := h
  obtain ⟨t, rfl⟩ := rx
  obtain ⟨t', rfl⟩ := ry
  obtain ⟨j, h1, h2, h3, h4, h5⟩ := atI_get he
  have hl : z.cps.toList.length = z.length := by simp [Str.length]
  rw [hl] at h1 h4 h5
  have hn := line63
  exact tail_any (typeIs_str s z t) slot_str_getitem.lookup (getItem_str (c := c) (by
    have e1 : decide (i < -(2 ^ 63 : Int)) = false := decide_eq_false (by omega)
    have e2 : decide (i ≥ 2 ^ 63) = false := decide_eq_false (by omega)
    rw [e1, e2, Bool.or_false]) (by rw [h1]; simpa using h2) ⟨.str ⟨#[c]⟩, H, I.tok _, ⟨_, rfl⟩, q⟩) hs
/-- list, tuple or str -/
def rIx (K : PySem.W.Frag) : R2 := fun x y H Q => rIxL K x y H Q ∨ rIxT K x y H Q ∨ rIxS x y H Q
theorem ix_seq : IxR X (rIx X.K) := ix_list.or (ix_tup.or ix_str)

/-! ### xs[i] = v, any sign -/
/-- the list's object behind a store -/
theorem mapSeq_set (its : List Value) (n j : Nat) (u : Value) : Obj.mapSeq (·.setIfInBounds j u) { cls := .type "list", data := .seq its.toArray n } = { cls := .type "list", data := .seq (its.set j u).toArray n } := by
  simp [Obj.mapSeq]
theorem Inv.lst {pins : List (Addr × Obj)} {σ : St} {H : Hp} {s : Shared} {p : Addr} {xs : List V} (I : Inv X pins σ H s) (h : H p = some (.lst xs)) :
    ∃ (its : List Value) (n : Nat), Vals xs its ∧ s.heap.get? p = some { cls := .type "list", data := .seq its.toArray n } ∧ xs.length ≤ sizeLine := by
  obtain ⟨z, its, n, r, e⟩ := I.hok p _ h
  exact ⟨its, n, r, e, z⟩
/-- the list at p is written by an update of its object -/
theorem Inv.lstUpd {pins : List (Addr × Obj)} {σ : St} {H : Hp} {s : Shared} {p : Addr} {xs ys : List V} {its its' : List Value} {n n' : Nat} {f : Obj → Obj} (I : Inv X pins σ H s) (h : H p = some (.lst xs))
    (ho : s.heap.get? p = some { cls := .type "list", data := .seq its.toArray n }) (hf : f { cls := .type "list", data := .seq its.toArray n } = { cls := .type "list", data := .seq its'.toArray n' }) (r : Vals ys its') (hz : ys.length ≤ sizeLine) (t : Nat) :
    Inv X pins σ (upd H p (.lst ys)) { s with heap := s.heap.update p f, toks := t } := by
  have e : (s.heap.update p f).get? p = some { cls := .type "list", data := .seq its'.toArray n' } := by
    rw [Heap.get?_update_self f ho (by rw [hf] <;> rfl), hf]
  refine I.write (x := p) (e := p) (by rw [h]; trivial) (.inl rfl) (fun b u hb q => (Heap.get?_update_other _ _ (Ne.symm hb)).trans q) ⟨_, e⟩ ?_
  exact ⟨hz, its', n', r, e⟩
def rSetL : V → V → V → Hp → (Hp → Prop) → Prop := fun o i v H Q => ∃ p xs k j, o = .ref p ∧ i = .int k ∧ H p = some (.lst xs) ∧ ixN xs.length k = some j ∧ Q (upd H p (.lst (xs.set j v)))
theorem set_list : PSet X rSetL := by
  intro pins s σ H o i v ov iv u Q I ro ri rv h
  obtain ⟨p, xs, k, j, rfl, rfl, hp, hj, q⟩ := h
  cases ro
  obtain ⟨t, rfl⟩ := ri
  obtain ⟨its, n, r, ho, hz⟩ := I.lst hp
  obtain ⟨h1, h2, h3, h4⟩ := ixN_seq hj
  have hl := r.length
  have hn := line63
  have I' : Inv X pins σ (upd H p (.lst (xs.set j v))) { s with heap := s.heap.update p (Obj.mapSeq (·.setIfInBounds j u)) } :=
    I.lstUpd hp ho (mapSeq_set its n j u) (r.set rv j) (by rw [List.length_set]; exact hz) s.toks
  by_cases h0 : 0 ≤ k
  · have hk : k.toNat = j := by
      rw [seqIndex_of h0 h4] at h1
      exact Option.some.inj h1
    exact PySem.W.ki_setAt ho h0 (by omega) (by rw [List.size_toArray, ← hl]; exact h4) (by rw [hk]; exact ⟨_, I', q⟩)
  · have hk : (k + (its.toArray.size : Int)).toNat = j := by
      rw [seqIndex_neg (by omega) h3] at h1
      rw [List.size_toArray, ← hl]
      exact Option.some.inj h1
    exact PySem.W.ki_setBack ho (by omega) (by rw [List.size_toArray, ← hl]; exact h3) (by omega) (by rw [hk]; exact ⟨_, I', q⟩)

/-! ### slices -/
/-! ### in, not in: flat items -/
/-! ### len, list(x), tuple(x) of any list or tuple that is read -/
theorem call_len_seq : CallR X (.builtin "len") (fun xs H Q => ∃ p ys, xs = [.ref p] ∧ (SqL X.K H p ys ∨ SqT X.K H p ys) ∧ Q (.int ys.length) H) := by
  intro pins s σ H xs us Q I r h
  obtain ⟨p, ys, rfl, hq, q⟩ := h
  obtain ⟨u, rfl, rx⟩ := vals1 r
  cases rx
  have hn := line63
  rcases hq with hq | hq
  · obtain ⟨its, r', pl, hz⟩ := I.list hq
    have hlen := r'.length
    exact Calls.call_len_list pl.isList (by simp only [List.size_toArray] <;> omega) ⟨.int ys.length, H, I.tok _, ⟨s.toks + 1, by rw [List.size_toArray, hlen]⟩, q⟩
  · obtain ⟨its, r', pl, hz⟩ := I.tuple hq
    have hlen := r'.length
    exact len_tuple pl (by simp only [List.size_toArray] <;> omega) ⟨.int ys.length, H, I.tok _, ⟨s.toks + 1, by rw [List.size_toArray, hlen]⟩, q⟩
theorem call_len_str : CallR X (.builtin "len") (fun xs H Q => ∃ z, xs = [.str z] ∧ z.length ≤ sizeLine ∧ Q (.int z.length) H) := by
  intro pins s σ H xs us Q I r h
  obtain ⟨z, rfl, hz, q⟩ := h
  obtain ⟨u, rfl, t, rfl⟩ := vals1 r
  have hn := line63
  exact len_str (by omega) ⟨.int z.length, H, I.tok _, ⟨_, rfl⟩, q⟩
theorem CallR.or {f : Value} {r r' : List V → Hp → VK → Prop} (h : CallR X f r) (h' : CallR X f r') : CallR X f (fun xs H Q => r xs H Q ∨ r' xs H Q) := by
  intro pins s σ H xs us Q I rs q
  rcases q with q | q
  · exact h pins s σ H xs us Q I rs q
  · exact h' pins s σ H xs us Q I rs q
theorem call_list_of : CallR X (.type "list") (fun xs H Q => ∃ p ys, xs = [.ref p] ∧ (SqL X.K H p ys ∨ SqT X.K H p ys) ∧ ∀ l, H l = none → Q (.ref l) (upd H l (.lst ys))) := by
  intro pins s σ H xs us Q I r h
  obtain ⟨p, ys, rfl, hq, q⟩ := h
  obtain ⟨u, rfl, rx⟩ := vals1 r
  cases rx
  have fin : ∀ (its : List Value), Vals ys its → ys.length ≤ sizeLine → ∀ (h' : Heap) (c' : Nat), (∀ b o', s.heap.get? b = some o' → h'.get? b = some o') →
      h'.get? s.heap.objs.size = some { cls := .type "list", dict := none, data := .seq its.toArray c', slots := #[] } → EP X pins σ Q (.ref s.heap.objs.size) { s with heap := h' } := fun its r' hz h' c' kp e =>
    ⟨.ref s.heap.objs.size, _, I.laid (t' := s.toks) kp (Nat.le_refl _) (show ObjOk X.prog X.w _ h' _ (.lst ys) from ⟨hz, its, c', r', e⟩), rfl, q _ (I.hok.fresh (Nat.le_refl _))⟩
  rcases hq with hq | hq
  · obtain ⟨its, r', pl, hz⟩ := I.list hq
    have hlen := r'.length
    obtain ⟨o, ho, hc, n, hd⟩ := pl.isList
    exact call_list_seq p (.inl rfl) ho hc hd (fun h' c' kp e => fin its r' hz h' c' kp e) (by simp only [List.size_toArray] <;> omega)
  · obtain ⟨its, r', pl, hz⟩ := I.tuple hq
    have hlen := r'.length
    obtain ⟨o, ho, hc, n, hd⟩ := pl
    exact call_list_seq p (.inr rfl) ho hc hd (fun h' c' kp e => fin its r' hz h' c' kp e) (by simp only [List.size_toArray] <;> omega)
theorem call_tuple_of : CallR X (.type "tuple") (fun xs H Q => ∃ p ys, xs = [.ref p] ∧ ((SqL X.K H p ys ∧ ∀ l, H l = none → Q (.ref l) (upd H l (.tup ys))) ∨ (SqT X.K H p ys ∧ Q (.ref p) H))) := by
  intro pins s σ H xs us Q I r h
  obtain ⟨p, ys, rfl, h⟩ := h
  obtain ⟨u, rfl, rx⟩ := vals1 r
  cases rx
  rcases h with ⟨hq, q⟩ | ⟨hq, q⟩
  · obtain ⟨its, r', pl, hz⟩ := I.list hq
    have hlen := r'.length
    refine call_tuple_list pl.isList (fun h' kp => ?_) (by simp only [List.size_toArray] <;> omega)
    have I1 : Inv X pins σ H { s with heap := h' } := I.kept (t' := s.toks) kp
    have I2 : Inv X pins σ (upd H h'.objs.size (.tup ys)) { s with heap := h'.push { cls := .type "tuple", data := .seq its.toArray } } :=
      I1.laid (t' := s.toks) (fun b o e => Heap.get?_push_of_some _ e) (Nat.le_refl _) (show ObjOk X.prog X.w _ _ _ (.tup ys) from ⟨hz, its, r', IsTup.new _ _⟩)
    exact ⟨.ref h'.objs.size, _, I2, rfl, q _ (I1.hok.fresh (Nat.le_refl _))⟩
  · obtain ⟨its, r', pl, hz⟩ := I.tuple hq
    exact call_tuple_same pl ⟨.ref p, H, I, rfl, q⟩

/-! ### the call of a builtin's method: o.m(..) -/
/-- the value is of that builtin type -/
def tyV (K : PySem.W.Frag) (T : String) (x : V) (H : Hp) : Prop := match x with
  | .str _ => T = "str"
  | .int _ => T = "int"
  | .ref p => (T = "list" ∧ ∃ xs, SqL K H p xs) ∨ (T = "tuple" ∧ ∃ o, K.lookup p = some o ∧ o.cls = .type "tuple" ∧ o.dict = none) ∨
      (T = "dict" ∧ ((∃ kvs, H p = some (.dK kvs)) ∨ ∃ kvs, H p = some (.dT kvs))) ∨ (T = "set" ∧ ∃ S n, H p = some (.set S n))
  | _ => False
theorem tyV_is {pins : List (Addr × Obj)} {σ : St} {H : Hp} {s : Shared} {T : String} {x : V} {v : Value} (I : Inv X pins σ H s) (r : RelV x v) (ty : tyV X.K T x H) :
    s.TypeIs v T ∧ ∀ a, v = .ref a → ∃ ob, s.heap.get? a = some ob ∧ ob.dict = none := by
  cases x with
  | str z =>
    obtain ⟨t, rfl⟩ := r
    cases (show T = "str" from ty)
    exact ⟨typeIs_str s z t, fun _ e => nomatch e⟩
  | int i =>
    obtain ⟨t, rfl⟩ := r
    cases (show T = "int" from ty)
    exact ⟨typeIs_int s i t, fun _ e => nomatch e⟩
  | ref p =>
    cases r
    rcases ty with ⟨rfl, xs, hq⟩ | ⟨rfl, o, hk, hc, hd⟩ | ⟨rfl, hk⟩ | ⟨rfl, S, n, hk⟩
    · obtain ⟨its, _, pl, _⟩ := I.list hq
      refine ⟨pl.isList.typeIs, fun a e => ?_⟩
      cases e
      obtain ⟨o, n, e, c, hd, _⟩ := pl
      exact ⟨o, e, hd⟩
    · refine ⟨⟨o, I.kIn p o hk, hc⟩, fun a e => ?_⟩
      cases e
      exact ⟨o, I.kIn _ o hk, hd⟩
    · have z : ∃ o, s.heap.get? p = some o ∧ o.ExactDict := by
        rcases hk with ⟨kvs, hk⟩ | ⟨kvs, hk⟩
        · obtain ⟨_, _, _, _, o, _, _, e, ex, _⟩ := I.hok p _ hk
          exact ⟨o, e, ex⟩
        · obtain ⟨_, _, _, _, o, _, _, e, ex, _⟩ := I.hok p _ hk
          exact ⟨o, e, ex⟩
      obtain ⟨o, e, ex⟩ := z
      refine ⟨⟨o, e, ex.1⟩, fun a e2 => ?_⟩
      cases e2
      exact ⟨o, e, ex.2.1⟩
    · obtain ⟨o, _, _, _, e, ex, _⟩ := I.hok p _ hk
      refine ⟨⟨o, e, ex.1⟩, fun a e2 => ?_⟩
      cases e2
      exact ⟨o, e, ex.2.1⟩
  | _ => exact False.elim ty
def tBM0 (K : PySem.W.Frag) (T : String) (r : V → List V → Hp → VK → Prop) (to : TE) : TE := fun σ H Q => to σ H fun x H1 => tyV K T x H1 ∧ r x [] H1 Q
def tBM (K : PySem.W.Frag) (T : String) (r : V → List V → Hp → VK → Prop) (to : TE) (t : TA) : TE := fun σ H Q => to σ H fun x H1 => tyV K T x H1 ∧ t σ H1 fun xs H2 => r x xs H2 Q
variable {o e : Expr} {es : List Expr} {to : TE} {t : TA} {name : Str} {apos cpos : Pos} {T id : String} {r : V → List V → Hp → VK → Prop}
theorem pe_bm0 (pa : PlainAttrs T) (slot : Slot T name id) (hty : typeOf (.builtin id) = pure (.type "method_descriptor")) (hm : MtR X id r) (ho : PE X o to)
    (hbase : attributeBase o name X.env (eval o X.env) = eval o X.env := by rfl) (hline : (apos.endLine == cpos.line) = true := by rfl) : PE X (.Call (.Attribute o name apos) [] [] cpos) (tBM0 X.K T r to) := by
  intro pins s σ H Q I h
  refine wpAny_Call_method0_late hbase hline (thn (ho pins s σ H _ I h) fun v s1 ⟨x, H1, I1, r1, ty, q1⟩ => ?_)
  obtain ⟨h1, h2⟩ := tyV_is I1 r1 ty
  exact ⟨T, id, pa, slot, hty, h1, h2, Calls.callWith_builtin rfl (PySem.evalArgs_none (hm pins s1 σ H1 x [] v [] Q I1 r1 .nil q1))⟩
theorem pe_bm (pa : PlainAttrs T) (slot : Slot T name id) (hty : typeOf (.builtin id) = pure (.type "method_descriptor")) (hm : MtR X id r) (ho : PE X o to) (ha : PA X (e :: es) t)
    (hbase : attributeBase o name X.env (eval o X.env) = eval o X.env := by rfl)
    (hfew : ((backTo cpos (starEach (e :: es) X.env)).all (fun x => !x.1) && (backToKw cpos (keywordEach [] X.env)).all (fun x => x.1.isSome)
      && decide ((e :: es).length + ([] : List Keyword).length + (if ([] : List Keyword).isEmpty then 0 else 1) < 30)) = true := by rfl)
    (hline : (apos.endLine == cpos.line) = true := by rfl) (hs : starEach (e :: es) X.env = (false, eval e X.env) :: starEach es X.env := by rfl) (hplain : (backTo cpos (starEach es X.env)).any (·.1) = false := by rfl) :
    PE X (.Call (.Attribute o name apos) (e :: es) [] cpos) (tBM X.K T r to t) := by
  intro pins s σ H Q I h
  refine wpAny_Call_method_late hbase hfew hline rfl (thn (ho pins s σ H _ I h) fun v s1 ⟨x, H1, I1, r1, ty, q1⟩ => ?_)
  obtain ⟨h1, h2⟩ := tyV_is I1 r1 ty
  refine ⟨T, id, pa, slot, hty, h1, h2, ?_⟩
  have hA := ha cpos pins s1 σ H1 _ I1 q1
  rw [hs] at hA ⊢
  refine Calls.callWith_builtin (by show (false || (backTo cpos (starEach es X.env)).any (·.1)) = false; rw [hplain] <;> rfl) (Calls.evalArgs_plain ?_)
  exact thn hA fun us s2 ⟨vs, H2, I2, r2, q2⟩ => hm pins s2 σ H2 x vs v us Q I2 r1 r2 q2
/- xs.append(e), list.index on a module's tuple .. are MtR facts of 06m -/
end
end L2

namespace L2
open PySem PySem.Spec PyProof.Rows

def MtM (X : Cx) (id : String) (r : V → List V → Hp → VK → Prop) : Prop :=
  ∀ (pins : List (Addr × Obj)) (s : Shared) (σ : St) (H : Hp) (x : V) (xs : List V) (v : Value) (us : List Value) (Q : VK), Inv X pins σ H s → RelV x v → Vals xs us → r x xs H Q →
    wpAny (model X.prog X.w) X.A (call (.builtin id) (v :: us)) (EP X pins σ Q) X.xe s

/-! ### lists of values -/
theorem Vals.one : ∀ {x : V} {us : List Value}, Vals [x] us → ∃ u, us = [u] ∧ RelV x u
  | _, _, .cons r .nil => ⟨_, rfl, r⟩
theorem Vals.two : ∀ {x y : V} {us : List Value}, Vals [x, y] us → ∃ u v, us = [u, v] ∧ RelV x u ∧ RelV y v
  | _, _, _, .cons r (.cons q .nil) => ⟨_, _, rfl, r, q⟩
theorem Vals.zero : ∀ {us : List Value}, Vals [] us → us = []
  | _, .nil => rfl
theorem Vals.dropLast {xs : List V} {us : List Value} (h : Vals xs us) : Vals xs.dropLast us.dropLast := by
  induction h with
  | nil => exact .nil
  | cons r t ih =>
    cases t with
    | nil => exact .nil
    | cons q t' => exact .cons r ih
theorem Vals.eraseIdx : ∀ {xs : List V} {us : List Value} (i : Nat), Vals xs us → Vals (xs.eraseIdx i) (us.eraseIdx i)
  | _, _, _, .nil => .nil
  | _, _, 0, .cons _ t => t
  | _, _, i + 1, .cons r t => .cons r (Vals.eraseIdx i t)
theorem Vals.reverse {xs : List V} {us : List Value} (h : Vals xs us) : Vals xs.reverse us.reverse := by
  induction h with
  | nil => exact .nil
  | cons r t ih => rw [List.reverse_cons, List.reverse_cons]; exact Vals.append ih (.cons r .nil)
theorem erase_last {α : Type} (l : List α) : l.eraseIdx (l.length - 1) = l.dropLast := by
  induction l with
  | nil => rfl
  | cons a r ih =>
    cases r with
    | nil => rfl
    | cons b r =>
      have e : (a :: b :: r).length - 1 = ((b :: r).length - 1) + 1 := by
        have h1 : (a :: b :: r).length = r.length + 2 := rfl
        have h2 : (b :: r).length = r.length + 1 := rfl
        omega
      rw [e, List.eraseIdx_cons_succ, ih]
      all_goals rfl
section
variable {X : Cx} {pins : List (Addr × Obj)} {σ : St} {H : Hp} {s : Shared} {l b : Addr} {xs ys zs : List V}

/-! ### the two steps: a tracked list is rewritten, a new list is laid -/
theorem Inv.lset {its its' : List Value} {n : Nat} {f : Array Value → Array Value} {t' : Nat} (I : Inv X pins σ H s) (hH : H l = some (.lst xs))
    (e : s.heap.get? l = some { cls := .type "list", data := .seq its.toArray n }) (hf : f its.toArray = its'.toArray) (hv : Vals ys its') (hz : ys.length ≤ sizeLine) :
    Inv X pins σ (upd H l (.lst ys)) { s with heap := s.heap.update l (Obj.mapSeq f), toks := t' } := by
  have q := PySem.IsL.update e f
  rw [hf] at q
  refine I.write (x := l) (e := l) (by rw [hH]; exact trivial) (.inl rfl) (fun b' u hb hu => (Heap.get?_update_other s.heap (Obj.mapSeq f) (Ne.symm hb)).trans hu) ⟨_, q⟩ ?_
  exact ⟨hz, its', _, hv, q⟩
theorem Inv.lnew {its : List Value} {t' : Nat} (I : Inv X pins σ H s) (hv : Vals ys its) (hz : ys.length ≤ sizeLine) :
    Inv X pins σ (upd H s.heap.objs.size (.lst ys)) { s with heap := s.heap.push { cls := .type "list", data := .seq its.toArray }, toks := t' } :=
  I.laid (fun _ _ q => Heap.get?_push_of_some _ q) (Nat.le_refl _) ⟨hz, its, 0, hv, Heap.get?_push_size _ rfl⟩
theorem Inv.fresh (I : Inv X pins σ H s) : H s.heap.objs.size = none := I.hok.fresh (Nat.le_refl _)
theorem Inv.lstM (I : Inv X pins σ H s) (hH : H l = some (.lst xs)) : xs.length ≤ sizeLine ∧ ∃ (its : List Value) (n : Nat), Vals xs its ∧ xs.length = its.length ∧ s.heap.get? l = some { cls := .type "list", data := .seq its.toArray n } := by
  obtain ⟨z, its, n, r, e⟩ := I.hok l _ hH
  exact ⟨z, its, n, r, r.length, e⟩

theorem notLongL {n : Nat} (h : n ≤ sizeLine) : Builtin.List.listTooLong n = false := by
  unfold Builtin.List.listTooLong
  exact decide_eq_false (by omega)
end

section
variable {X : Cx}

/-! ### methods -/
def rAppend : V → List V → Hp → VK → Prop := fun x vs H Q => ∃ l xs y, x = .ref l ∧ vs = [y] ∧ H l = some (.lst xs) ∧ xs.length < sizeLine ∧ Q .non (upd H l (.lst (xs ++ [y])))
theorem mt_append : MtM X "list.append" rAppend := by
  intro pins s σ H x vs v us Q I rx rv h
  obtain ⟨l, xs, y, rfl, rfl, hH, hz, q⟩ := h
  cases rx
  obtain ⟨u, rfl, ru⟩ := rv.one
  obtain ⟨z, its, n, r, hl, e⟩ := I.lstM hH
  refine call_meets F.slot_list_append ⟨_, e, rfl⟩ F.entry_list_append (F.args_list_append_2 _ _) (PySem.list_append l its.toArray n u (by rw [List.size_toArray]; omega)) ⟨e, ?_⟩
  refine ⟨.non, _, I.lset (its' := its ++ [u]) hH e (by simp) (r.append (.cons ru .nil)) ?_, rfl, q⟩
  rw [List.length_append, List.length_singleton]
  omega

def rExtend : V → List V → Hp → VK → Prop := fun x vs H Q => ∃ l b xs zs, x = .ref l ∧ vs = [.ref b] ∧ H l = some (.lst xs) ∧ H b = some (.lst zs) ∧ xs.length + zs.length ≤ sizeLine ∧ Q .non (upd H l (.lst (xs ++ zs)))
theorem mt_extend : MtM X "list.extend" rExtend := by
  intro pins s σ H x vs v us Q I rx rv h
  obtain ⟨l, b, xs, zs, rfl, rfl, hH, hB, hz, q⟩ := h
  cases rx
  obtain ⟨u, rfl, ru⟩ := rv.one
  cases ru
  obtain ⟨z, its, n, r, hl, e⟩ := I.lstM hH
  obtain ⟨z2, its2, n2, r2, hl2, e2⟩ := I.lstM hB
  have hsz : its.toArray.size + its2.toArray.size ≤ sizeLine := by rw [List.size_toArray, List.size_toArray]; omega
  have hlong : ¬ (!its.toArray.isEmpty && Builtin.List.listTooLong (its.toArray.size + its2.toArray.size)) = true := by
    rw [notLongL hsz, Bool.and_false]
    exact Bool.false_ne_true
  refine call_meets F.slot_list_extend ⟨_, e, rfl⟩ F.entry_list_extend (F.args_list_extend_2 _ _)
    (AutoSeq1.list_extend_list_list_0 l its.toArray n b its2.toArray n2 hlong (by rw [List.size_toArray]; omega) (by omega)) ⟨e, e2, ?_⟩
  refine ⟨.non, _, I.lset (its' := its ++ its2) hH e (by simp) (r.append r2) ?_, rfl, q⟩
  rw [List.length_append]
  omega

def rPop : V → List V → Hp → VK → Prop := fun x vs H Q => ∃ l xs y, x = .ref l ∧ vs = [] ∧ H l = some (.lst xs) ∧ xs[xs.length - 1]? = some y ∧ Q y (upd H l (.lst xs.dropLast))
theorem mt_pop : MtM X "list.pop" rPop := by
  intro pins s σ H x vs v us Q I rx rv h
  obtain ⟨l, xs, y, rfl, rfl, hH, hy, q⟩ := h
  cases rx
  have hus := rv.zero
  subst hus
  obtain ⟨z, its, n, r, hl, e⟩ := I.lstM hH
  obtain ⟨u, hu, ru⟩ := r.get hy
  have hy' : its.toArray[its.toArray.size - 1]? = some u := by
    show its.toArray[its.length - 1]? = some u
    rw [← Array.getElem?_toList, ← hl]
    exact hu
  refine call_meets F.slot_list_pop ⟨_, e, rfl⟩ F.entry_list_pop (F.args_list_pop_1 _) (MeetsSeq.list_pop_last l its.toArray n u hy' (by rw [List.size_toArray]; omega)) ⟨e, ?_⟩
  refine ⟨y, _, I.lset (its' := its.dropLast) hH e ?_ r.dropLast ?_, ru, q⟩
  · show its.toArray.eraseIdxIfInBounds (its.toArray.size - 1) = its.dropLast.toArray
    rw [List.size_toArray, List.eraseIdxIfInBounds_toArray, erase_last]
  · rw [List.length_dropLast]
    omega

def rClear : V → List V → Hp → VK → Prop := fun x vs H Q => ∃ l xs, x = .ref l ∧ vs = [] ∧ H l = some (.lst xs) ∧ Q .non (upd H l (.lst []))
theorem mt_clear : MtM X "list.clear" rClear := by
  intro pins s σ H x vs v us Q I rx rv h
  obtain ⟨l, xs, rfl, rfl, hH, q⟩ := h
  cases rx
  have hus := rv.zero
  subst hus
  obtain ⟨z, its, n, r, hl, e⟩ := I.lstM hH
  refine call_meets F.slot_list_clear ⟨_, e, rfl⟩ F.entry_list_clear (F.args_list_clear_1 _) (AutoSeq1.list_clear_list_0 l its.toArray n (by rw [List.size_toArray]; omega)) ⟨e, ?_⟩
  exact ⟨.non, _, I.lset (its' := []) (ys := []) hH e rfl .nil (Nat.zero_le _), rfl, q⟩

/-! ### list + list, list += list, list * int -/
def rCat : R2 := fun x y H Q => ∃ l b xs zs, x = .ref l ∧ y = .ref b ∧ H l = some (.lst xs) ∧ H b = some (.lst zs) ∧ xs.length + zs.length ≤ sizeLine ∧ ∀ p, H p = none → Q (.ref p) (upd H p (.lst (xs ++ zs)))
theorem op_cat : OpR X (binaryOp .Add) rCat := by
  intro pins s σ H x y v u Q I rx ry h
  obtain ⟨l, b, xs, zs, rfl, rfl, hH, hB, hz, q⟩ := h
  cases rx
  cases ry
  obtain ⟨z, its, n, r, hl, e⟩ := I.lstM hH
  obtain ⟨z2, its2, n2, r2, hl2, e2⟩ := I.lstM hB
  refine PySem.P.add_list e e2 ?_ (by rw [List.size_toArray, List.size_toArray]; omega)
  have ea : its.toArray ++ its2.toArray = (its ++ its2).toArray := by simp
  rw [ea]
  exact ⟨.ref _, _, I.lnew (t' := s.toks) (r.append r2) (by rw [List.length_append]; omega), rfl, q _ I.fresh⟩
/-! ### del xs[i] -/
end

/-! ### xs[a:b] = ys -/
section
variable {prog : Program} {w : World} {A : Around} {E : Value → Shared → Prop} {s : Shared}
set_option maxRecDepth 100000 in
end

section
variable {X : Cx}
end
end L2

namespace Att
open PySem PySem.W PySem.Calls PyProof.Rows

/-! ### the script -/
theorem ints_of_wellAll {P : Params} {h : Heap} : ∀ (ns : List Int) (vs : List Value), WellAll P h vs (ns.map WData.int) → IntsAre vs ns := by
  intro ns
  induction ns with
  | nil =>
    intro vs w
    rw [List.map_nil] at w
    cases w
    exact .nil
  | cons n ns ih =>
    intro vs w
    rw [List.map_cons] at w
    cases w with
    | cons a b =>
      cases a
      exact .cons _ _ (ih _ b)

theorem script_of {l : OpenLaw} {n : Nat} (hn : l.most = some n) {P : Params} {h : Heap} {args : List WData} {vals : List Value}
    (hpre : l.row.toRowW.claim.pre args = true) (hwl : WellAll P h vals args) :
    ∃ a vs ns, vals = [Value.ref a] ∧ args = [WData.list (ns.map WData.int)] ∧ h.get? a = some { cls := .type "list", data := .seq vs.toArray } ∧ IntsAre vs ns ∧ ns.length ≤ n := by
  have hsh : WShape.hasAll [] args [.list .int] = true := (pre_splitW hpre).1
  have hc : l.pre.holds [] { args := args } = true := (pre_splitW hpre).2
  obtain ⟨d, r, rfl, h1, h2⟩ := hasAllW_cons hsh
  obtain rfl := hasAllW_nil h2
  obtain ⟨xs, rfl, h3⟩ := hasW_list h1
  obtain ⟨ns, rfl⟩ := items_int h3
  have hlen : ns.length ≤ n := by
    unfold OpenLaw.pre at hc
    have h4 : (WTm.not (.lt (.lit (.int (n : Int))) (.len (.arg 0)))).holds [] { args := [.list (ns.map .int)] } = true := by
      have h4 := (holds_andW hc).1
      rw [hn] at h4
      exact h4
    have h5 := condW_of h4 (w_not (w_lt w_lit (w_len_list (w_arg rfl))))
    rw [List.length_map] at h5
    refine Nat.le_of_not_lt fun q => ?_
    have q' : (n : Int) < ((ns.length : Nat) : Int) := by omega
    first
      | (rw [decide_eq_true q'] at h5; exact absurd h5 (by decide))
      | (simp at h5; omega)
  cases hwl with
  | cons w1 w2 =>
    cases w2
    cases w1 with
    | list ho hall => exact ⟨_, _, ns, rfl, rfl, ho, ints_of_wellAll ns _ hall, hlen⟩

theorem post_true (l : OpenLaw) (args : List WData) : l.row.toRowW.claim.post args (.bool true) args = true :=
  postW_of (r := l.row.toRowW) (X := (true == true))
    (show WShape.has [] (.bool true) .bool = true by first | rfl | decide | simp [WShape.has, WShape.arms, WShape.armsAll])
    (show (WTm.eq .res (.lit (.bool true))).value [] { args := args, res := some (.bool true), after := args } = some (.bool (true == true)) from w_eq_bool (w_res rfl) w_lit) rfl

/-! ### the attachment: holds_open's last premise (the goal 'hc' behind k_head) from a wpAny of the law's body -/
/-- the same from a codeAny of the CALL (for a layer whose function contracts speak of calls) -/
theorem attach_call {l : OpenLaw} {n : Nat} {q : Program} {loose : List Str} {XP : (Str → Option Value) → Heap → Prop} {YP : World → Heap → Prop} {d : DefRec}
    (hn : l.most = some n) (hdf : d.params.defaults = [])
    (call : ∀ (w : World) (s₀ s₁ : Shared) (mg mb : Str → Option Value) (fa : Addr) (o : Obj) (pm cd doc : Value) (a : Addr) (vs : List Value) (ns : List Int),
      Ground q loose [] XP w s₀ mg mb s₁.heap → YP w s₁.heap →
      s₁.heap.get? fa = some o → o.data = .func (docDef d.name d.params d.body d.scope pm cd doc) → s₁.heap.CodeRec cd d.name → mg d.name = some (.ref fa) →
      s₁.heap.get? a = some { cls := .type "list", data := .seq vs.toArray } → IntsAre vs ns → ns.length ≤ n → s₁.gens = #[] →
      codeAny (model l.prog w) callerA (.call (.ref fa) ⟨[.ref a], []⟩) (fun r s' => r = .ok (.ret (.bool true)) ∧ OldK s₁.heap s'.heap ∧ s'.os = s₁.os ∧ AllBare s'.gens) s₁) :
    WalkO q loose XP YP l.row.toRowW d [] (fun f vs => PySem.call f vs) := by
  intro w s₀ s₁ mg mb G Y fa o pm cd doc dV kV ho hd hcd hD hmg hg args vals as hpre hlay hrd hwl hlo
  obtain rfl : dV = .none := Dflts.none hD hdf
  obtain rfl : kV = .none := Dflts.noKw hD
  obtain ⟨a, vs, ns, rfl, rfl, hobj, hints, hlen⟩ := script_of hn hpre hwl
  refine enter_call (codeAny_mono (call w s₀ s₁ mg mb fa o pm cd doc a vs ns G Y ho (fd_plain hd) hcd hmg hobj hints hlen hg) fun r s' hq => ?_)
  obtain ⟨rfl, h2, h3, h4⟩ := hq
  exact ⟨.inl ⟨.bool true, .bool true, [], rfl, fun _ => rfl, .bool true, post_true l _, fun _ => ⟨List.Pairwise.nil, fun _ hm => (nomatch hm)⟩⟩, h2, h3, h4⟩

/-! ### rules over ANY heap (no ledger) from facts about the written part K: the library's own take a ledger (News) for what they write -/
section
variable {prog : Program} {w : World} {A : Around} {E : Value → Shared → Prop} {s : Shared} {K : Frag}

/-! the whole heap as the ledger: makes every rule that writes through a ledger a rule over any heap -/
def ledger (h : Heap) (L d : Addr) : List (Addr × Obj) := (List.range h.objs.size).filterMap fun a => if a = L ∨ a = d then none else (h.get? a).map fun o => (a, o)
end
end Att

namespace L2
open PySem PySem.Spec PyProof.Rows

theorem vals_ints : ∀ {vs : List Value} {ns : List Int}, IntsAre vs ns → Vals (ns.map V.int) vs
  | _, _, .nil => .nil
  | _, _, .cons n t h => .cons ⟨t, rfl⟩ (vals_ints h)

/-- nothing is tracked but the script, known to the object (or it is an object of the module) -/
def Only (H : Hp) : Prop := ∀ b, H b = none ∨ ∃ o xs, H b = some (.frz o (.lst xs))

/-- THE HEAD: the law's promise, at the heap behind the top. F, the promise of the law's def, may use that base is part of the heap (so K.In base, base.Ns mainGlobals mg stand in Mod) -/
theorem law_call {P : Program} {w : World} {K : PySem.W.Frag} {mg mb : Str → Option Value} {CX : CXT} {k : Nat} {fa a : Addr} {fd : FuncData} {x : Str} {sp : Sp} {s₁ : Shared} {vs : List Value} {ns : List Int}
    (KX : K.In s₁.heap) (hns : s₁.heap.Ns mainGlobals mg) (hb : s₁.heap.Ns builtinsNs mb) (hbb : ∀ x : Str, x ≠ "__name__" → mb x = bootBuiltins x) (hlim : s₁.heap.NoLimit) (hg : s₁.gens = #[])
    (ha : s₁.heap.get? a = some { cls := .type "list", data := .seq vs.toArray }) (hi : IntsAre vs ns) (hl : ns.length ≤ sizeLine) (hr : Room k callerA)
    (F : ∀ base : Heap, K.In base → base.Ns mainGlobals mg → FnOk P w K mg base CX k fa fd [x] sp) (hbind : ∀ (s : Shared) (u : Value), BindsTo s fd ⟨[u], []⟩ [(x, u)])
    (hsp : ∀ H : Hp, Only H → SqL K H a (ns.map V.int) → sp [.ref a] H (fun v _ => v = .bl true) fun _ _ _ => False)
    (hCX : ∀ H e s', CX [] H s₁ (fun _ _ _ => False) e s' → False) :
    codeAny (model P w) callerA (.call (.ref fa) ⟨[.ref a], []⟩) (fun r s' => r = .ok (.ret (.bool true)) ∧ OldK s₁.heap s'.heap ∧ s'.os = s₁.os ∧ AllBare s'.gens) s₁ := by
  have rv := vals_ints hi
  have lenV := hi.length
  -- from an abstract heap in which nothing but the script may be tracked
  have core : ∀ H : Hp, Only H → SqL K H a (ns.map V.int) → HOk P w H s₁.heap → (∀ b, H b ≠ none → b = a) → (H a ≠ none → K.lookup a = none) →
      codeAny (model P w) callerA (.call (.ref fa) ⟨[.ref a], []⟩) (fun r s' => r = .ok (.ret (.bool true)) ∧ OldK s₁.heap s'.heap ∧ s'.os = s₁.os ∧ AllBare s'.gens) s₁ := by
    intro H hO hS hok hA hK
    have base_of : ∀ {b : Addr} {o : Obj}, s₁.heap.get? b = some o → H b = none → (hidT s₁.heap H).get? b = some o := fun e n => hidT_get e n
    have noA : ∀ {b : Addr} {o : Obj} {es : Array DictEntry} {ep : Nat}, s₁.heap.get? b = some o → o.data = .dict es ep → H b = none := fun {b o es ep} e d => by
      cases q : H b with
      | none => rfl
      | some u =>
        have e' : b = a := hA b (by rw [q]; simp)
        subst e'
        rw [ha] at e; cases e
        have d' : Data.seq vs.toArray _ = Data.dict es ep := d
        cases d'
    have nsK : ∀ {b : Addr} {m : Str → Option Value}, s₁.heap.Ns b m → (hidT s₁.heap H).Ns b m := fun {b m} ⟨o, es, ep, e, d, r⟩ => ⟨o, es, ep, base_of e (noA e d), d, r⟩
    have hKb : K.In (hidT s₁.heap H) := fun b o e => base_of (KX b o e) (by
      cases q : H b with
      | none => rfl
      | some u =>
        have e' : b = a := hA b (by rw [q]; simp)
        subst e'
        rw [hK (by rw [q]; simp)] at e; cases e)
    have hM : Mod K mg (hidT s₁.heap H) := ⟨hKb, nsK hns, ⟨mb, nsK hb, hbb⟩, let ⟨mc, h1, h2⟩ := hlim; ⟨mc, nsK h1, h2⟩⟩
    have e0 : Env0 P w K mg (hidT s₁.heap H) callerA [] s₁ H := ⟨rfl, hM, fun b o e => of_hidT e, Nat.le_of_eq (hidT_size _ _), trivial, fun b hb => absurd (show b ∈ ([] : List Addr) from hb) (by simp), hok, .of_eq hg⟩
    refine codeAny_mono ((F _ hKb (nsK hns)).run callerA [] s₁ H ⟨[.ref a], []⟩ [.ref a] [.ref a] _ _ hr e0 (hbind s₁ (.ref a)) (.cons rfl .nil) (hsp H hO hS)) fun r s' h => ?_
    cases r with
    | error e => exact (hCX H e s' h).elim
    | ok fl =>
      cases fl with
      | next => exact False.elim h
      | brk => exact False.elim h
      | cont => exact False.elim h
      | ret u =>
        obtain ⟨v, H', os, bare, un, hok', r', q⟩ := h
        have q' : v = .bl true := q
        subst q'
        obtain rfl : u = Value.bool true := r'
        refine ⟨rfl, OldK.of_keep fun b o e => ?_, os, bare⟩
        cases q : H b with
        | none => exact un.keep b o e q (by intro z; exact absurd (show b ∈ ([] : List Addr) from z) (by simp)) (by simp)
        | some u =>
          rcases hO b with z | ⟨ob, xs, z⟩
          · rw [q] at z; cases z
          · have z2 := un.frzs b ob _ z
            obtain ⟨e1, _⟩ := hok b _ z
            obtain ⟨e2, _⟩ := hok' b _ z2
            rw [e] at e1; cases e1
            exact e2
  cases hk : K.lookup a with
  | some o =>
    -- the script is one of the module's own objects
    have e := KX a o hk
    rw [ha] at e
    cases e
    refine core (fun _ => none) (fun _ => .inl rfl) (.inr ⟨_, vs.toArray, _, hk, rfl, rfl, rfl, by rw [List.size_toArray, lenV]; exact hl, by simpa using rv⟩) (fun b u z => by have z' : (none : Option HO) = some u := z; cases z') (fun b z => absurd rfl z) fun z => absurd rfl z
  | none =>
    refine core (fun b => if b = a then some (.frz { cls := .type "list", data := .seq vs.toArray } (.lst (ns.map V.int))) else none) (fun b => ?_) (.inl (.inr ⟨{ cls := .type "list", data := .seq vs.toArray }, if_pos rfl⟩)) (fun b u z => ?_) (fun b z => ?_) fun _ => hk
    · by_cases hb : b = a
      · exact .inr ⟨_, _, if_pos hb⟩
      · exact .inl (if_neg hb)
    · by_cases hb : b = a
      · have z' := (if_pos hb).symm.trans z
        cases z'
        subst hb
        exact ⟨ha, by rw [List.length_map]; exact hl, vs, _, rv, ha⟩
      · have z' := (if_neg hb).symm.trans z
        cases z'
    · by_cases hb : b = a
      · exact hb
      · exact absurd (if_neg hb) z
end L2

namespace L2
open PySem PySem.Spec PyProof.Rows

abbrev KOf {K : PySem.W.Frag} {h : Heap} (_ : K.In h) : PySem.W.Frag := K

/-- the goal that k_head leaves (case hc), from the law's promise. F gives the function object fd (K's own) once, then the promise over every base -/
theorem walk_of {l : PySem.W.OpenLaw} {n k : Nat} {q : Program} {loose : List Str} {XP : (Str → Option Value) → Heap → Prop} {YP : World → Heap → Prop} {d : DefRec} {K : Params → PySem.W.Frag} {CX : World → CXT} {sp : World → Sp} {x : Str}
    (hn : l.most = some n) (hn2 : n ≤ sizeLine) (hdf : d.params.defaults = []) (hr : Room k callerA)
    (hY : ∀ (w : World) (h : Heap), YP w h → (K w.params).In h)
    (F : ∀ (w : World) (mg : Str → Option Value) (fa : Addr) (h : Heap), (K w.params).In h → h.Ns mainGlobals mg → mg d.name = some (.ref fa) →
      ∃ fd : FuncData, (∀ (s : Shared) (u : Value), BindsTo s fd ⟨[u], []⟩ [(x, u)]) ∧
        ∀ base : Heap, (K w.params).In base → base.Ns mainGlobals mg → FnOk l.prog w (K w.params) mg base (CX w) k fa fd [x] (sp w))
    (hsp : ∀ (w : World) (H : Hp) (a : Addr) (ns : List Int), ns.length ≤ n → Only H → SqL (K w.params) H a (ns.map V.int) → sp w [.ref a] H (fun v _ => v = .bl true) fun _ _ _ => False)
    (hCX : ∀ (w : World) (H : Hp) (s : Shared) (e : Value) (s' : Shared), CX w [] H s (fun _ _ _ => False) e s' → False) :
    PySem.W.WalkO q loose XP YP l.row.toRowW d [] (fun f vs => PySem.call f vs) := by
  refine Att.attach_call hn hdf fun w s₀ s₁ mg mb fa o pm cd doc a vs ns G Y ho hd hcd hmg hobj hints hlen hg => ?_
  have KX := hY w _ Y
  obtain ⟨fd, hb, hF⟩ := F w mg fa _ KX G.T.g hmg
  exact law_call KX G.T.g G.T.b G.T.builtins G.T.nolimit hg hobj hints (Nat.le_trans hlen hn2) hr hF hb (fun H hO hS => hsp w H a ns hlen hO hS) fun H e s' => hCX w H s₁ e s'
/-- the same where the promise hangs on the written part alone: (sp := My.sp_law), no hole under a binder -/
theorem walk_ofK {l : PySem.W.OpenLaw} {n k : Nat} {q : Program} {loose : List Str} {XP : (Str → Option Value) → Heap → Prop} {YP : World → Heap → Prop} {d : DefRec} {K : Params → PySem.W.Frag} {CX : CXT} {sp : PySem.W.Frag → Sp} {x : Str}
    (hn : l.most = some n) (hn2 : n ≤ sizeLine) (hdf : d.params.defaults = []) (hr : Room k callerA)
    (hY : ∀ (w : World) (h : Heap), YP w h → (K w.params).In h)
    (F : ∀ (w : World) (mg : Str → Option Value) (fa : Addr) (h : Heap), (K w.params).In h → h.Ns mainGlobals mg → mg d.name = some (.ref fa) →
      ∃ fd : FuncData, (∀ (s : Shared) (u : Value), BindsTo s fd ⟨[u], []⟩ [(x, u)]) ∧
        ∀ base : Heap, (K w.params).In base → base.Ns mainGlobals mg → FnOk l.prog w (K w.params) mg base CX k fa fd [x] (sp (K w.params)))
    (hsp : ∀ (K : PySem.W.Frag) (H : Hp) (a : Addr) (ns : List Int), ns.length ≤ n → Only H → SqL K H a (ns.map V.int) → sp K [.ref a] H (fun v _ => v = .bl true) fun _ _ _ => False)
    (hCX : ∀ (H : Hp) (s : Shared) (e : Value) (s' : Shared), CX [] H s (fun _ _ _ => False) e s' → False) :
    PySem.W.WalkO q loose XP YP l.row.toRowW d [] (fun f vs => PySem.call f vs) :=
  walk_of (K := K) (CX := fun _ => CX) (sp := fun w => sp (K w.params)) hn hn2 hdf hr hY F (fun w H a ns h1 h2 h3 => hsp (K w.params) H a ns h1 h2 h3) fun _ H s e s' => hCX H s e s'
end L2



/-! SHORT WORDS over the layer: a def of the text, its body, what a loop and a test want. -/
namespace L2
open PySem PySem.Spec PyProof.Rows

/-! ### the text by places -/
/-- the j-th statement of a class's body -/
def inClass (s : Stmt) (j : Nat) : Stmt := match s with
  | .ClassDef _ _ _ body _ _ _ _ _ _ _ => body.getD j (.Pass ⟨0, 0, 0, 0⟩)
  | _ => .Pass ⟨0, 0, 0, 0⟩
def defArgs (s : Stmt) : Arguments := match s with
  | .FunctionDef _ a _ _ _ _ _ _ _ _ => a
  | _ => { posonlyargs := [], args := [], vararg := none, kwonlyargs := [], kw_defaults := [], kwarg := none, defaults := [] }
def defBody (s : Stmt) : List Stmt := match s with
  | .FunctionDef _ _ b _ _ _ _ _ _ _ => b
  | _ => []
def defScope (s : Stmt) : Scope := match s with
  | .FunctionDef _ _ _ _ _ _ sc _ _ _ => sc
  | _ => { kind := .function, names := [], isGenerator := false, isCoroutine := false }

/-! ### no exception leaves a def -/
abbrev CX0 : CXT := fun _ _ _ _ _ _ => False
abbrev E0 : XK := fun _ _ _ => False
theorem pass0 {X : Cx} : Passes CX0 X E0 := fun _ _ _ _ _ _ _ h => h.elim

/-! ### a def (or method) of the text as it stands behind the top -/
structure Fun (K : PySem.W.Frag) (x qual : Str) (st : Stmt) (f : Addr) (fd : FuncData) : Prop where
  ex : ∃ (oc : Value) (od : Option Addr) (kV doc pm : Value) (an : Option Addr) (cdv ct : Value) (osl : Array (Option Value)),
    fd = PySem.W.fnOf x qual (defArgs st) (defBody st) (defScope st) .none kV doc pm an cdv ct ∧ K.lookup f = some ⟨oc, od, .func fd, osl⟩ ∧ PySem.W.codeIn K cdv qual = true
  kp : PySem.W.keepIn K (.ref f) = true
section
variable {P : Program} {w : World} {K : PySem.W.Frag} {mg : Str → Option Value} {base : Heap}
/-- THE RULE for a def: its body as a term of rules, and the reading of that term -/
theorem Fun.ok {x qual : Str} {st : Stmt} {f : Addr} {fd : FuncData} {N ps : List Str} {k : Nat} {sp : Sp} (F : Fun K x qual st f fd) (S : FnScope N ps (defScope st)) (len : ∀ vs H Q E, sp vs H Q E → vs.length = ps.length)
    (hbody : ∀ (cdv : Value) (A : Around) (outer : List Env) (s : Shared) (H : Hp) (vs : List V) (Q : VK) (E : XK), Room k (A.deeper (envOfC qual (defScope st) s.heap.objs.size f cdv)) → sp vs H Q E →
      ∃ t, PSs (cxOf CX0 P w K mg base N qual (defScope st) f cdv A outer s H E).nox (defBody st) t ∧ t { nx := fun _ H' => Q .non H', rt := Q } (start N vs) H) : FnOk P w K mg base CX0 (k + 1) f fd ps sp := by
  obtain ⟨oc, od, kV, doc, pm, an, cdv, ct, osl, rfl, lk, hcd⟩ := F.ex
  refine fn_of lk hcd S len fun A outer s H vs Q E hr hsp => ?_
  obtain ⟨t, h, q⟩ := hbody cdv A outer s H vs Q E hr hsp
  exact ⟨t, h.nox, q⟩
/-- how its arguments bind (no defaults): h is «fun _ _ _ _ _ _ us hl => match us, hl with | [_, _], _ => rfl», one _ a parameter -/
theorem Fun.binds {x qual : Str} {st : Stmt} {f : Addr} {fd : FuncData} {ps : List Str} (F : Fun K x qual st f fd)
    (h : ∀ (kV doc pm : Value) (an : Option Addr) (cdv ct : Value) (us : List Value), us.length = ps.length → bindArgs (PySem.W.fnOf x qual (defArgs st) (defBody st) (defScope st) .none kV doc pm an cdv ct) ⟨us, []⟩ = pure (ps.zip us)) : Binds K fd ps [] := by
  obtain ⟨oc, od, kV, doc, pm, an, cdv, ct, osl, rfl, lk, hcd⟩ := F.ex
  exact .all (h kV doc pm an cdv ct)
theorem fun_mk {x qual : Str} {st : Stmt} {f : Addr} {oc : Value} {od an : Option Addr} {osl : Array (Option Value)} {kV doc pm cdv ct : Value} (l : K.lookup f = some ⟨oc, od, .func (PySem.W.fnOf x qual (defArgs st) (defBody st) (defScope st) .none kV doc pm an cdv ct), osl⟩)
    (c : PySem.W.codeIn K cdv qual = true) (k : PySem.W.keepIn K (.ref f) = true) : Fun K x qual st f (PySem.W.fnOf x qual (defArgs st) (defBody st) (defScope st) .none kV doc pm an cdv ct) := ⟨⟨oc, od, kV, doc, pm, an, cdv, ct, osl, rfl, l, c⟩, k⟩
end
theorem hu_of {A : Around} {k : Nat} (hr : Room k A) : A.units + 1 < cLine := Nat.lt_of_le_of_lt (Nat.add_le_add_left (by decide : 1 ≤ 64) _) hr.units
/-! ### expressions in short: the name that stands in the i-th slot -/
section
variable {X : Cx}
end

/-! ### tests -/
theorem iteF {A B : Prop} (h : B) : if false = true then A else B := by
  rw [if_neg Bool.false_ne_true]
  exact h
theorem ite2 {c A B : Prop} [Decidable c] (h1 : c → A) (h2 : ¬ c → B) : if c then A else B := by
  by_cases h : c
  · rw [if_pos h]
    exact h1 h
  · rw [if_neg h]
    exact h2 h
theorem iteNS {c A B : Prop} [Decidable c] (hc : c) (h : B) : if (!decide c) = true then A else B := by
  rw [decide_eq_true hc]
  exact iteF h

/-! ### heaps -/
/-- all that was tracked is as it was -/
def Same (H H' : Hp) : Prop := ∀ b o, H b = some o → H' b = some o
theorem Same.refl (H : Hp) : Same H H := fun _ _ h => h
theorem Same.trans {H H1 H2 : Hp} (a : Same H H1) (b : Same H1 H2) : Same H H2 := fun c o h => b c o (a c o h)
theorem Same.free {H H' : Hp} (e : Same H H') {l : Addr} (h : H' l = Option.none) : H l = Option.none := by
  cases q : H l with
  | none => rfl
  | some o =>
    rw [e l o q] at h
    cases h
theorem Same.seq {K : PySem.W.Frag} {H H' : Hp} {a : Addr} {xs : List V} (e : Same H H') (h : SqL K H a xs) : SqL K H' a xs := by
  rcases h with (h | ⟨o, h⟩) | h
  · exact .inl (.inl (e _ _ h))
  · exact .inl (.inr ⟨o, e _ _ h⟩)
  · exact .inr h

end L2

set_option Elab.async false
set_option linter.all false
set_option maxRecDepth 100000
set_option maxHeartbeats 4000000
namespace L2
open PySem PySem.Spec PyProof.Rows

/-! ### the signs of a text, walked -/
def Its (x : Str) : It := ⟨fun i _ => i < x.cps.size, fun i H y H' => H' = H ∧ ∃ c, x.cps[i]? = some c ∧ y = .str ⟨#[c]⟩, fun i _ => x.cps.size ≤ i⟩
theorem turn_str {P : Program} {w : World} {K : PySem.W.Frag} {tg : Expr} (x : Str) (it : Addr) {ty : String} {t : Tok} (hty : ty = "str_ascii_iterator" ∨ ty = "str_iterator") :
    Turn P w K tg (Its x) [it] it (fun i h => h.IsStrIter it ty x t i) where
  mem := by simp
  obj := fun i h st b hb => by
    have e : b = it := by simpa using hb
    subst e
    obtain ⟨o, e, c, d⟩ := st
    exact ⟨o, e, fun v z => by rw [d] at z; cases z⟩
  keep := fun i h h' st k => by
    obtain ⟨o, e, r⟩ := st
    exact ⟨o, k it (by simp) o e, r⟩
  item := by
    intro X hP hw hK hc i pins s σ H E I hf st hg
    subst hP hw hK
    have hi : i < x.cps.size := hg
    obtain ⟨f0, f1, f2, f3, f4, f5⟩ := hf it (by simp)
    rcases hty with rfl | rfl
    · refine wpAny_pyNext_ascii_item st (c := x.cps[i]) (by simp [hi]) fun h' st' sb => ?_
      have I1 : Inv X pins σ H { s with heap := h', toks := s.toks + 1 } := I.turned (fun b o hb e => (sb.2 b hb).trans e) f0 f1 f3 f4 f5
      obtain ⟨o, e, c, d⟩ := id st'
      exact ⟨_, rfl, go_of (s := { s with heap := h', toks := s.toks + 1 }) e c d (by decide) ⟨.str ⟨#[x.cps[i]]⟩, H, I1, ⟨_, rfl⟩, ⟨rfl, x.cps[i], by simp [hi], rfl⟩, st', fun b hb => (hf b hb).1⟩⟩
    · refine wpAny_pyNext_wide_item st (c := x.cps[i]) (by simp [hi]) fun h' st' sb => ?_
      have I1 : Inv X pins σ H { s with heap := h', toks := s.toks + 1 } := I.turned (fun b o hb e => (sb.2 b hb).trans e) f0 f1 f3 f4 f5
      obtain ⟨o, e, c, d⟩ := id st'
      exact ⟨_, rfl, go_of (s := { s with heap := h', toks := s.toks + 1 }) e c d (by decide) ⟨.str ⟨#[x.cps[i]]⟩, H, I1, ⟨_, rfl⟩, ⟨rfl, x.cps[i], by simp [hi], rfl⟩, st', fun b hb => (hf b hb).1⟩⟩
  done := by
    intro X hP hw hK hc i pins s σ H E I hf st hg
    subst hP hw hK
    have hi : x.cps.size ≤ i := hg
    obtain ⟨f0, f1, f2, f3, f4, f5⟩ := hf it (by simp)
    rcases hty with rfl | rfl
    · exact wpAny_pyNext_ascii_end (I.ok.hd hc) st (by simp [hi]) fun h' eb => ⟨rfl, I.turned (t' := s.toks) (fun b o hb e => eb b o hb e) f0 f1 f3 f4 f5⟩
    · exact wpAny_pyNext_wide_end (I.ok.hd hc) st (by simp [hi]) fun h' eb => ⟨rfl, I.turned (t' := s.toks) (fun b o hb e => eb b o hb e) f0 f1 f3 f4 f5⟩
  self := fun _ _ _ _ _ st h => by
    rcases hty with rfl | rfl
    · exact wpAny_pyIter_striter_ascii st h
    · exact wpAny_pyIter_striter_wide st h
def iStr (tl : TE) : TI := fun σ H R => tl σ H fun x H1 => ∃ z, x = .str z ∧ R (Its z) H1
theorem pi_str {X : Cx} {tg l : Expr} {tl : TE} (hl : PE X l tl) : PI X tg l (iStr tl) := by
  intro pins s σ H R I h
  refine thn (hl pins s σ H _ I h) fun v s1 ⟨x, H1, I1, r1, q1⟩ => ?_
  obtain ⟨z, e, q⟩ := q1
  subst e
  obtain ⟨t, rfl⟩ := r1
  refine wpAny_pyIter_strU ?_
  refine ⟨s1.heap.objs.size, [s1.heap.objs.size], _, _, H1, rfl, I1.kept (t' := s1.toks) fun b o e => Heap.get?_push_of_some _ e, turn_str (ty := strIterType z) (t := t) z _ ?_, ⟨_, Heap.get?_push_size _ rfl, rfl, rfl⟩, fun b hb => ?_, q⟩
  · unfold strIterType
    split
    · exact .inl rfl
    · exact .inr rfl
  · have e : b = s1.heap.objs.size := by simpa using hb
    subst e
    exact I1.fpOk (Nat.le_refl _) (I1.hok.fresh (Nat.le_refl _))
end L2

set_option Elab.async false
set_option linter.all false
set_option maxRecDepth 100000
set_option maxHeartbeats 4000000
namespace L2
open PySem PySem.Spec PyProof.Rows

/-! ### a comprehension -/
def Wk : St → St → Prop
  | [], [] => True
  | Option.none :: r, _ :: q => Wk r q
  | some a :: r, b :: q => b = some a ∧ Wk r q
  | _, _ => False
theorem Wk.len : ∀ {a b : St}, Wk a b → a.length = b.length
  | [], [], _ => rfl
  | Option.none :: r, _ :: q, h => congrArg (· + 1) (Wk.len (a := r) (b := q) h)
  | some _ :: r, _ :: q, h => congrArg (· + 1) (Wk.len (a := r) (b := q) h.2)
  | [], _ :: _, h => h.elim
  | Option.none :: _, [], h => h.elim
  | some _ :: _, [], h => h.elim
theorem Wk.get : ∀ {a b : St}, Wk a b → ∀ (i : Nat) v, a[i]? = some (some v) → b[i]? = some (some v)
  | [], [], _, i, v, e => by simp at e
  | Option.none :: r, y :: q, h, 0, v, e => by simp at e
  | Option.none :: r, y :: q, h, i + 1, v, e => by simpa using Wk.get (a := r) (b := q) h i v (by simpa using e)
  | some x :: r, y :: q, h, 0, v, e => by
    have e' : x = v := by simpa using e
    rw [h.1, e'] <;> simp
  | some x :: r, y :: q, h, i + 1, v, e => by simpa using Wk.get (a := r) (b := q) h.2 i v (by simpa using e)
  | [], _ :: _, h, _, _, _ => h.elim
  | Option.none :: _, [], h, _, _, _ => h.elim
  | some _ :: _, [], h, _, _, _ => h.elim
def clOf (cells : List (Str × Addr)) : List (Str × NameKind) → List (Str × Addr) → List (Str × Addr)
  | [], acc => acc
  | (n, k) :: r, acc => if k == .free then clOf cells r ((n, (cells.lookup n).getD 0) :: acc) else clOf cells r acc
theorem closureFor_clOf {sc : Scope} {env : Env} (h : ∀ y ∈ sc.names, y.2 = .free → ∃ c, env.cells.lookup y.1 = some c) : closureFor sc env = pure (clOf env.cells sc.names []) := by
  unfold closureFor
  have key : ∀ (l : List (Str × NameKind)) (acc : List (Str × Addr)), (∀ y ∈ l, y.2 = .free → ∃ c, env.cells.lookup y.1 = some c) →
      (forIn l acc fun x r => match x with | (name, kind) => if (kind == .free) = true then do let a ← cellOf env name; pure (ForInStep.yield ((name, a) :: r)) else pure (ForInStep.yield r) : Sem (List (Str × Addr))) = pure (clOf env.cells l acc) := by
    intro l
    induction l with
    | nil => intro acc _; rfl
    | cons y r ih =>
      intro acc hy
      obtain ⟨n, k⟩ := y
      have hr : ∀ y ∈ r, y.2 = .free → ∃ c, env.cells.lookup y.1 = some c := fun y hm => hy y (List.mem_cons_of_mem _ hm)
      rw [List.forIn_cons]
      by_cases hk : k = .free
      · subst hk
        obtain ⟨c, hc⟩ := hy (n, .free) List.mem_cons_self rfl
        have e1 : cellOf env n = pure c := by unfold cellOf; rw [hc]
        have e2 : clOf env.cells ((n, .free) :: r) acc = clOf env.cells r ((n, c) :: acc) := by
          show (if (NameKind.free == NameKind.free) = true then clOf env.cells r ((n, (env.cells.lookup n).getD 0) :: acc) else clOf env.cells r acc) = _
          rw [if_pos (by decide), hc]; rfl
        rw [e2, ← ih ((n, c) :: acc) hr]
        show (do let x ← (if (NameKind.free == NameKind.free) = true then do let a ← cellOf env n; pure (ForInStep.yield ((n, a) :: acc)) else pure (ForInStep.yield acc) : Sem _); _) = _
        rw [if_pos (by decide), e1]
        rfl
      · have hb : (k == NameKind.free) = false := by simpa using hk
        have e2 : clOf env.cells ((n, k) :: r) acc = clOf env.cells r acc := by
          show (if (k == NameKind.free) = true then clOf env.cells r ((n, (env.cells.lookup n).getD 0) :: acc) else clOf env.cells r acc) = _
          rw [hb]; rfl
        rw [e2, ← ih acc hr]
        show (do let x ← (if (k == NameKind.free) = true then do let a ← cellOf env n; pure (ForInStep.yield ((n, a) :: acc)) else pure (ForInStep.yield acc) : Sem _); _) = _
        rw [hb]
        rfl
  have := key sc.names [] h
  first | exact this | (rw [this]; rfl) | simpa using this
theorem clOf_lookup {cells : List (Str × Addr)} : ∀ {l : List (Str × NameKind)} {acc : List (Str × Addr)} {n : Str} {c : Addr}, (∀ y ∈ l, y.2 = .free → ∃ c, cells.lookup y.1 = some c) → (∀ n c, acc.lookup n = some c → cells.lookup n = some c) →
    (clOf cells l acc).lookup n = some c → cells.lookup n = some c
  | [], acc, n, c, _, ha, e => ha n c e
  | (m, k) :: r, acc, n, c, hl, ha, e => by
    have hr : ∀ y ∈ r, y.2 = .free → ∃ c, cells.lookup y.1 = some c := fun y hm => hl y (List.mem_cons_of_mem _ hm)
    have e' : (if (k == NameKind.free) = true then clOf cells r ((m, (cells.lookup m).getD 0) :: acc) else clOf cells r acc).lookup n = some c := e
    by_cases hk : (k == NameKind.free) = true
    · rw [if_pos hk] at e'
      refine clOf_lookup hr (fun n c z => ?_) e'
      obtain ⟨d, hd⟩ := hl (m, k) List.mem_cons_self (by simpa using hk)
      rw [List.lookup_cons] at z
      by_cases hn : (n == m) = true
      · rw [hn] at z
        have : n = m := by simpa using hn
        subst this
        have hd' : cells.lookup n = some d := hd
        rw [hd'] at z ⊢
        simpa using z
      · have hn' : (n == m) = false := by simpa using hn
        rw [hn'] at z
        exact ha n c z
    · rw [if_neg hk] at e'
      exact clOf_lookup hr ha e'
theorem clOf_some {cells : List (Str × Addr)} : ∀ {l : List (Str × NameKind)} {acc : List (Str × Addr)} {n : Str}, ((n, NameKind.free) ∈ l ∨ ∃ c, acc.lookup n = some c) → ∃ c, (clOf cells l acc).lookup n = some c
  | [], acc, n, h => by
    rcases h with h | h
    · cases h
    · exact h
  | (m, k) :: r, acc, n, h => by
    show ∃ c, (if (k == NameKind.free) = true then clOf cells r ((m, (cells.lookup m).getD 0) :: acc) else clOf cells r acc).lookup n = some c
    have hcons : ∀ a, n = m ∨ (∃ c, acc.lookup n = some c) → ∃ c, ((m, a) :: acc).lookup n = some c := fun a z => by
      rw [List.lookup_cons]
      by_cases hn : (n == m) = true
      · rw [hn]; exact ⟨_, rfl⟩
      · have hn' : (n == m) = false := by simpa using hn
        rw [hn']
        rcases z with z | z
        · exact absurd (by simpa using z) hn
        · exact z
    by_cases hk : (k == NameKind.free) = true
    · rw [if_pos hk]
      refine clOf_some ?_
      rcases h with h | h
      · rcases List.mem_cons.mp h with e | h
        · exact .inr (hcons _ (.inl (congrArg Prod.fst e)))
        · exact .inl h
      · exact .inr (hcons _ (.inr h))
    · rw [if_neg hk]
      refine clOf_some ?_
      rcases h with h | h
      · rcases List.mem_cons.mp h with e | h
        · have : k = .free := (congrArg Prod.snd e).symm
          rw [this] at hk
          exact absurd (by decide) hk
        · exact .inl h
      · exact .inr h
def rlb (env : Env) (p : Str × NameKind) : Str × NameKind := if (p.2 == NameKind.free && env.scope.kind == ScopeKind.function && env.kindOf p.1 == some NameKind.cell) = true then (p.1, NameKind.cell) else p
theorem relabel_names (sc : Scope) (env : Env) : (relabel sc env).names = sc.names.map (rlb env) := rfl
theorem rlb_fst (env : Env) (p : Str × NameKind) : (rlb env p).1 = p.1 := by
  unfold rlb
  split <;> rfl
theorem rlb_free {env : Env} {p : Str × NameKind} (h : p.2 ≠ .cell) (h2 : (rlb env p).2 = .cell ∨ (rlb env p).2 = .free) : p.2 = .free := by
  unfold rlb at h2
  split at h2
  · rename_i q
    rw [Bool.and_eq_true, Bool.and_eq_true] at q
    simpa using q.1.1
  · rcases h2 with h2 | h2
    · exact absurd h2 h
    · exact h2
theorem relabel_free' {env : Env} : ∀ {names : List (Str × NameKind)} {x : Str} {k : NameKind}, (∀ y ∈ names, y.2 ≠ .cell) → (k = .cell ∨ k = .free) → (names.map (rlb env)).lookup x = some k → (x, NameKind.free) ∈ names
  | [], x, k, _, _, e => by simp at e
  | p :: r, x, k, hc, hk, e => by
    have hr : ∀ y ∈ r, y.2 ≠ .cell := fun y hm => hc y (List.mem_cons_of_mem _ hm)
    have e0 : rlb env p = (p.1, (rlb env p).2) := by rw [← rlb_fst env p]
    rw [List.map_cons, e0, List.lookup_cons] at e
    by_cases hx : x = p.1
    · have hb : (x == p.1) = true := by simpa using hx
      rw [hb] at e
      have e2 : (rlb env p).2 = k := Option.some.inj e
      have hj := rlb_free (env := env) (hc p List.mem_cons_self) (by rw [e2]; exact hk)
      have : (x, NameKind.free) = p := by rw [hx, ← hj]
      rw [this]
      exact List.mem_cons_self
    · have hb : (x == p.1) = false := by simpa using hx
      rw [hb] at e
      exact List.mem_cons_of_mem _ (relabel_free' hr hk e)
theorem relabel_free {env : Env} {sc : Scope} {x : Str} {k : NameKind} (hc : ∀ y ∈ sc.names, y.2 ≠ .cell) (hk : k = .cell ∨ k = .free) (e : (relabel sc env).names.lookup x = some k) : (x, NameKind.free) ∈ sc.names :=
  relabel_free' (env := env) hc hk (by rw [← relabel_names]; exact e)

/-- the values that a block sees at its start: of the names it takes from around it -/
def blkS (ix : List (Option Nat)) (σ : St) : St := ix.map fun o => o.bind fun i => (σ[i]?).join
def FreeOk (XN : List Str) (env : Env) (sc : Scope) : List Str → List (Option Nat) → Prop
  | [], [] => True
  | _ :: N, Option.none :: ix => FreeOk XN env sc N ix
  | y :: N, some i :: ix => XN[i]? = some y ∧ env.kindOf y = some .cell ∧ (relabel sc env).names.lookup y = some .cell ∧ FreeOk XN env sc N ix
  | _, _ => False
theorem FreeOk.len {XN : List Str} {env : Env} {sc : Scope} : ∀ {N : List Str} {ix : List (Option Nat)}, FreeOk XN env sc N ix → ix.length = N.length
  | [], [], _ => rfl
  | _ :: N, Option.none :: ix, h => congrArg (· + 1) (FreeOk.len (N := N) (ix := ix) h)
  | _ :: N, some _ :: ix, h => congrArg (· + 1) (FreeOk.len (N := N) (ix := ix) h.2.2.2)
  | [], _ :: _, h => h.elim
  | _ :: _, [], h => h.elim
theorem FreeOk.get {XN : List Str} {env : Env} {sc : Scope} : ∀ {N : List Str} {ix : List (Option Nat)}, FreeOk XN env sc N ix → ∀ (j : Nat) (y : Str) (i : Nat), N[j]? = some y → ix[j]? = some (some i) →
    XN[i]? = some y ∧ env.kindOf y = some .cell ∧ (relabel sc env).names.lookup y = some .cell
  | [], [], _, j, y, i, e, _ => by simp at e
  | _ :: N, Option.none :: ix, h, 0, y, i, e, e2 => by simp at e2
  | _ :: N, Option.none :: ix, h, j + 1, y, i, e, e2 => FreeOk.get (N := N) (ix := ix) h j y i (by simpa using e) (by simpa using e2)
  | z :: N, some k :: ix, h, 0, y, i, e, e2 => by
    have e' : z = y := by simpa using e
    have e2' : k = i := by simpa using e2
    subst e'; subst e2'
    exact ⟨h.1, h.2.1, h.2.2.1⟩
  | _ :: N, some _ :: ix, h, j + 1, y, i, e, e2 => FreeOk.get (N := N) (ix := ix) h.2.2.2 j y i (by simpa using e) (by simpa using e2)
  | [], _ :: _, h, _, _, _, _, _ => h.elim
  | _ :: _, [], h, _, _, _, _, _ => h.elim

/-- the context of a comprehension's block -/
def cxB (X : Cx) (sc : Scope) (C : Addr) (N : List Str) (s₀ : Shared) (H₀ : Hp) (fp : List Addr) : Cx :=
  { X with N := N, s₀ := s₀, H₀ := H₀, env := compEnvC sc (clOf X.env.cells sc.names []) C X.env, outer := X.stack, ex := fp, fn := fun _ => false, pn := [], xe := fun _ _ => False }
structure CompOk (X : Cx) (sc : Scope) (N : List Str) (ix : List (Option Nat)) : Prop where
  kind : sc.kind = .function
  nocell : (sc.names.all fun y => y.2 != .cell) = true
  names : (sc.names.all fun y => y.2 != .local || sc.names.lookup y.1 == some .local) = true
  free : (sc.names.all fun y => y.2 != .free || X.env.scope.names.lookup y.1 == some .cell) = true
  fr : FreeOk X.N X.env sc N ix
section
variable {X : Cx} {sc : Scope} {N : List Str} {ix : List (Option Nat)} {pins : List (Addr × Obj)} {σ : St} {H : Hp} {s : Shared}
theorem CompOk.cells (c : CompOk X sc N ix) (ok : X.Ok) : ∀ y ∈ sc.names, y.2 = .free → ∃ c, X.env.cells.lookup y.1 = some c := fun y hy e => by
  have h := List.all_eq_true.mp c.free y hy
  rw [e] at h
  have h' : X.env.scope.names.lookup y.1 = some .cell := by simpa using h
  exact ok.has y.1 (.inl h')
theorem CompOk.nc (c : CompOk X sc N ix) : ∀ y ∈ sc.names, y.2 ≠ .cell := fun y hy => by simpa using List.all_eq_true.mp c.nocell y hy
theorem CompOk.nm (c : CompOk X sc N ix) : ∀ y ∈ sc.names, y.2 = .local → sc.names.lookup y.1 = some .local := fun y hy e => by
  have h := List.all_eq_true.mp c.names y hy
  rw [e] at h
  simpa using h
/-- the block begins: s₂ the state at its entry (the iterator is made), s₄ behind the frame's making -/
theorem inv_block {C : Addr} {fp : List Addr} {h₁ : Heap} {t' : Nat} (c : CompOk X sc N ix) (I : Inv X pins σ H s) (hf : ∀ b ∈ fp, FpOk X pins H b) (hfp : ∀ b ∈ fp, b < s.heap.objs.size) (hC : s.heap.objs.size ≤ C)
    (hn : h₁.Ns C (fun _ => none)) (old : ∀ b o, s.heap.get? b = some o → h₁.get? b = some o) : Inv (cxB X sc C N s H fp) [] (blkS ix σ) H { s with heap := h₁, toks := t' } := by
  have hcells := c.cells I.ok
  have sub : ∀ n c, (clOf X.env.cells sc.names []).lookup n = some c → X.env.cells.lookup n = some c := fun n c e => clOf_lookup hcells (fun n c z => by simp at z) e
  refine ⟨⟨I.ok.mod, c.kind, I.ok.glob, I.ok.blt, hC, fun x y d h1 h2 => I.ok.inj x y d (sub x d h1) (sub y d h2), fun x hx => ?_, fun x d z => absurd z (by simp [cxB]), I.ok.hd, I.ok.frames, .inl rfl, fun b hb => ⟨?_, fun x d e => ?_⟩, I.bs, Nat.le_trans I.ok.bsz I.sz, fun b o e hb => ?_, fun b hb hs => ?_, I.stack, I.stkFree⟩,
    rfl, I.bare, Un.kept old, ⟨_, hn, fun j y v e1 e2 e3 => ?_⟩, fun x d e => ?_, I.hok.fresh hC, fun x d e => I.freeC x d (sub x d e), fun p hp => absurd (show p ∈ ([] : List (Addr × Obj)) from hp) (by simp), I.hok.kept old, ?_⟩
  · refine clOf_some (.inl ?_)
    rcases hx with hx | hx
    · exact relabel_free c.nc (.inl rfl) (show (relabel sc X.env).names.lookup x = some .cell from hx)
    · exact relabel_free c.nc (.inr rfl) (show (relabel sc X.env).names.lookup x = some .free from hx)
  · exact Nat.ne_of_lt (Nat.lt_of_lt_of_le (hfp b hb) hC)
  · exact (hf b hb).2.2.2.2.1 x d (sub x d e)
  · rcases (hf b hb).2.2.2.1 with z | z
    · exact I.ok.noex b o e z
    · exact absurd (Nat.lt_of_lt_of_le (Heap.lt_size e) (Nat.le_trans I.ok.bsz z)) (Nat.lt_irrefl _)
  · rcases List.mem_cons.mp (I.stkSub b hs) with z | z
    · exact (hf b hb).2.1 z
    · exact (hf b hb).2.2.1 z
  · have hj : ∃ i, ix[j]? = some (some i) ∧ σ[i]? = some (some v) := by
      unfold blkS at e2
      rw [List.getElem?_map] at e2
      cases q : ix[j]? with
      | none => rw [q] at e2; cases e2
      | some o =>
        rw [q] at e2
        cases o with
        | none => cases e2
        | some i =>
          refine ⟨i, rfl, ?_⟩
          have e2' : (σ[i]?).join = some v := Option.some.inj e2
          cases q2 : σ[i]? with
          | none => rw [q2] at e2'; cases e2'
          | some w => rw [q2] at e2'; exact congrArg some e2'
    obtain ⟨i, hi, hv⟩ := hj
    obtain ⟨k1, k2, k3⟩ := c.fr.get j y i e1 hi
    obtain ⟨m, hm, hl⟩ := I.loc
    obtain ⟨u, r, l⟩ := hl i y v k1 hv (.inr (.inl k2))
    refine ⟨u, r, ?_⟩
    rcases l with ⟨z, _⟩ | ⟨_, d, hd, hcell⟩
    · rw [k2] at z; cases z
    · obtain ⟨d', hd'⟩ : ∃ d', (clOf X.env.cells sc.names []).lookup y = some d' := clOf_some (.inl (relabel_free c.nc (.inl rfl) k3))
      have := sub y d' hd'
      rw [hd] at this
      cases this
      exact .inr ⟨.inl k3, d, hd', hcell.keeps old⟩
  · obtain ⟨v, z⟩ := I.cell x d (sub x d e)
    exact ⟨v, z.keeps old⟩
  · show (blkS ix σ).length = N.length
    unfold blkS
    rw [List.length_map, c.fr.len]
/-- the block ends -/
theorem inv_unblock {C : Addr} {fp : List Addr} {pins' : List (Addr × Obj)} {σ' : St} {H' : Hp} {s' : Shared} (I : Inv X pins σ H s) (hf : ∀ b ∈ fp, FpOk X pins H b) (J : Inv (cxB X sc C N s H fp) pins' σ' H' s') : Inv X pins σ H' s' := by
  refine I.call' (ch := fp) J.os J.base J.hok J.bare fun b hb => ?_
  obtain ⟨f0, f1, f2, f3, f4, f5⟩ := hf b hb
  exact ⟨f3, f1, f4, f5⟩
end
def PTs (X : Cx) (ifs : List Expr) (t : TT) : Prop :=
  ∀ (pins : List (Addr × Obj)) (s : Shared) (σ : St) (H : Hp) (Q : Bool → Hp → Prop), Inv X pins σ H s → t σ H Q →
    wpAny (model X.prog X.w) X.A (forIn ifs true fun c r => if r = true then do let ok ← isTrue c X.env (eval c X.env); pure (ForInStep.yield ok) else pure (ForInStep.yield r)) (TP X pins σ Q) X.xe s
def tAll : TT := fun _ H Q => Q true H
theorem pts_nil {X : Cx} : PTs X [] tAll := fun _ _ _ H _ I h => wpAny_tests_nil ⟨H, I, h⟩
theorem pts_one {X : Cx} {c : Expr} {t : TT} (h : PT X c t) : PTs X [c] t := fun pins s σ H Q I hw => wpAny_tests_one (h pins s σ H Q I hw)

/-- what a comprehension asks: W by the turn, a measure, the items so far -/
def CompW (J : It) (D : Addr) (σb : St) (g : TG) (tt : TT) (te : TE) (Q : Hp → List V → Prop) (W : Nat → Nat → List V → Hp → Prop) : Prop :=
  ∀ i m ys H, W i m ys H → H D = some (.lst ys) ∧ ((J.stop i H ∧ Q H ys) ∨ (J.go i H ∧ ∀ x H3, J.yld i H x H3 → g x σb H3 fun σ4 H4 => Wk σb σ4 ∧ tt σ4 H4 fun b H5 =>
    if b = true then te σ4 H5 fun y H6 => H6 D = some (.lst ys) ∧ ys.length < sizeLine ∧ ∃ m', m' < m ∧ W (i + 1) m' (ys ++ [y]) (upd H6 D (.lst (ys ++ [y]))) else ∃ m', m' < m ∧ W (i + 1) m' ys H5))
def tComp (ix : List (Option Nat)) (wi : TI) (g : TG) (tt : TT) (te : TE) : TE := fun σ H Q => wi σ H fun J H1 => ∀ D, H1 D = none → ∃ W, (∃ m, W 0 m [] (upd H1 D (.lst []))) ∧ CompW J D (blkS ix σ) g tt te (fun H _ => Q (.ref D) H) W

section
variable {X : Cx} {sc : Scope} {N : List Str} {ix : List (Option Nat)} {elt tg iter : Expr} {ifs : List Expr} {pos : Pos} {wi : TI} {g : TG} {tt : TT} {te : TE}
/-- the block's rules, in every context that it may run in -/
structure Blk (X : Cx) (sc : Scope) (N : List Str) (tg elt : Expr) (ifs : List Expr) (g : TG) (tt : TT) (te : TE) : Prop where
  tg : ∀ C s H fp, PG (cxB X sc C N s H fp) tg g
  tests : ∀ C s H fp, PTs (cxB X sc C N s H fp) ifs tt
  elt : ∀ C s H fp, PE (cxB X sc C N s H fp) elt te
theorem comp_loop {J : It} {fp : List Addr} {it D : Addr} {tn : Nat → Heap → Prop} {σb : St} {Q : Hp → List V → Prop} {R : Result → Shared → Prop} {W : Nat → Nat → List V → Hp → Prop}
    (hc : X.calm = true) (hxe : X.xe = fun _ _ => False) (T : Turn X.prog X.w X.K tg J fp it tn) (hg : PG X tg g) (ht : PTs X ifs tt) (he : PE X elt te) (turn : CompW J D σb g tt te Q W)
    (stat : ∀ {H' : Hp}, (∀ b ∈ fp, H' b = none) → ∀ b ∈ fp, FpOk X [] H' b)
    (fin : ∀ {σ' : St} {H' : Hp} {s' : Shared} {ys : List V}, Inv X [] σ' H' s' → Q H' ys → R (.ok .next) s')
    {m0 i0 : Nat} {ys0 : List V} {H0 : Hp} {s0 : Shared} (I0 : Inv X [] σb H0 s0) (st0 : tn i0 s0.heap) (fr0 : ∀ b ∈ fp, H0 b = none) (w0 : W i0 m0 ys0 H0) :
    codeAny (model X.prog X.w) X.A (.compLoop (.ListComp elt [⟨tg, iter, ifs, 0⟩] sc pos) 0 (.ref it) (.ref D) X.env) R s0 := by
  have noE : ∀ {E' : Value → Shared → Prop} (e : Value) (s' : Shared), X.xe e s' → E' e s' := fun {E'} e s' z => by rw [hxe] at z; exact z.elim
  refine codeAny_loop rfl (fun n s' => ∃ i ys H', Inv X [] σb H' s' ∧ tn i s'.heap ∧ (∀ b ∈ fp, H' b = none) ∧ W i n ys H') ?_ m0 ⟨i0, ys0, H0, I0, st0, fr0, w0⟩
  rintro n s3 ⟨i, ys, H3, I3, st3, fr3, w3⟩
  show wpAny _ X.A ((compTurn (.ListComp elt [⟨tg, iter, ifs, 0⟩] sc pos) 0 (.ref it) (.ref D) X.env).onRaise (fun x => do noteFrame x X.env; theTreesLotGoes x)) _ _ s3
  refine wpAny_noted ?_
  rw [compTurn_list]
  refine wpAny_bind (wpAny_standAt (wpAny_bind ?_))
  obtain ⟨hDl, next⟩ := turn i n ys H3 w3
  rcases next with ⟨stop, q⟩ | ⟨go, step⟩
  · refine thn (T.done X rfl rfl rfl hc i [] s3 σb H3 _ I3 (stat fr3) st3 stop) fun r s4 ⟨hr, I4⟩ => ?_
    subst hr
    exact wpAny_pure (fin I4 q)
  · refine thn (T.item X rfl rfl rfl hc i [] s3 σb H3 _ I3 (stat fr3) st3 go) fun r s4 ⟨u, hr, h4⟩ => ?_
    subst hr
    refine wpAny_bind (thn h4 fun _ s5 ⟨x, H5, I5, r5, y5, st5, fr5⟩ => ?_)
    have I5' := I5.pinned (stat fr5) (T.obj _ _ st5)
    have back : ∀ {σ' : St} {H' : Hp} {s' : Shared}, Inv X ([] ++ pinsAt fp s5.heap) σ' H' s' → Wk σb σ' → Inv X [] σb H' s' ∧ tn (i + 1) s'.heap ∧ ∀ b ∈ fp, H' b = none := fun {σ' H' s'} I7 wk => by
      refine ⟨(I7.unpinned).weak wk.len wk.get, T.keep _ _ _ st5 fun b hb o e => (I7.pin (b, o) (List.mem_append_right _ (List.mem_append_right _ (mem_pinsAt hb e)))).1, fun b hb => ?_⟩
      obtain ⟨o, e, d⟩ := T.obj _ _ st5 b hb
      exact (I7.pin (b, o) (List.mem_append_right _ (List.mem_append_right _ (mem_pinsAt hb e)))).2.1
    refine wpAny_bind (wpAny_mono (hg _ s5 σb H5 x u _ I5' r5 (step x H5 y5)) (fun _ s6 ⟨σ6, H6, I6, wk, q6⟩ => ?_) noE)
    refine wpAny_bind (wpAny_mono (ht _ s6 σ6 H6 _ I6 q6) (fun ok s7 ⟨H7, I7, q7⟩ => ?_) noE)
    cases ok with
    | false =>
      obtain ⟨m', hm, w7⟩ := q7
      obtain ⟨b1, b2, b3⟩ := back I7 wk
      exact wpAny_pure ⟨rfl, m', hm, i + 1, ys, H7, b1, b2, b3, w7⟩
    | true =>
      refine wpAny_bind (wpAny_bind (wpAny_mono (he _ s7 σ6 H7 _ I7 q7) (fun v s8 ⟨y, H8, I8, r8, hD8, hl8, m', hm, w8⟩ => ?_) noE))
      refine wpAny_bind (wpAny_mono (mt_append _ s8 σ6 H8 (.ref D) [y] (.ref D) [v] (fun _ H9 => H9 = upd H8 D (.lst (ys ++ [y]))) I8 rfl (.cons r8 .nil) ⟨D, ys, y, rfl, rfl, hD8, hl8, rfl⟩) (fun _ s9 ⟨z, H9, I9, _, e9⟩ => ?_) noE)
      subst e9
      obtain ⟨b1, b2, b3⟩ := back I9 wk
      exact wpAny_pure (wpAny_pure ⟨rfl, m', hm, i + 1, ys ++ [y], _, b1, b2, b3, w8⟩)
theorem comp_core {pins : List (Addr × Obj)} {σ : St} {H : Hp} {s : Shared} {E : Value → Shared → Prop} {RR : Value → Addr → Result → Shared → Prop} {it : Addr} {fp : List Addr} {tn : Nat → Heap → Prop} {J : It} {Q : Addr → Hp → List V → Prop}
    (hc : X.calm = true) (c : CompOk X sc N ix) (B : Blk X sc N tg elt ifs g tt te) (I : Inv X pins σ H s) (T : Turn X.prog X.w X.K tg J fp it tn) (st : tn 0 s.heap) (hf : ∀ b ∈ fp, FpOk X pins H b)
    (h : ∀ D, H D = none → ∃ W, (∃ m, W 0 m [] (upd H D (.lst []))) ∧ CompW J D (blkS ix σ) g tt te (Q D) W)
    (hR : ∀ D C H' s' ys, Inv X pins σ H' s' → FpOk X pins H' C → (∃ m, s'.heap.Ns C m) → Q D H' ys → RR (.ref D) C (.ok .next) s') :
    wpAny (model X.prog X.w) X.A (newList []) (fun acc s₃ => wpAny (model X.prog X.w) X.A (newFunctionEnv sc X.env.globals (clOf X.env.cells sc.names []) [] X.env.qual none .none (some X.env)) (fun cenv s₄ =>
      codeAny (model X.prog X.w) X.A (.compStart (.ListComp elt [⟨tg, iter, ifs, 0⟩] sc pos) 0 (.ref it) acc { cenv with scope := relabel sc X.env }) (RR acc cenv.locals) s₄) E s₃) E s := by
  have hlt : ∀ b ∈ fp, b < s.heap.objs.size := fun b hb => let ⟨o, e, _⟩ := T.obj _ _ st b hb; Heap.lt_size e
  refine wpAny_newObj_type ?_ (by show 0 ≤ sizeLine; exact Nat.zero_le _)
  have hD : H s.heap.objs.size = none := I.hok.fresh (Nat.le_refl _)
  obtain ⟨W, ⟨m0, w0⟩, turn⟩ := h s.heap.objs.size hD
  have I1 : Inv X pins σ (upd H s.heap.objs.size (.lst [])) { s with heap := s.heap.push { cls := .type "list", data := .seq ([] : List Value).toArray } } := I.lnew (t' := s.toks) (its := []) .nil (Nat.zero_le _)
  have k1 : ∀ b o, s.heap.get? b = some o → (s.heap.push { cls := .type "list", data := .seq ([] : List Value).toArray }).get? b = some o := fun b o e => Heap.get?_push_of_some _ e
  have hne : ∀ b ∈ fp, b ≠ s.heap.objs.size := fun b hb => Nat.ne_of_lt (hlt b hb)
  have hf1 : ∀ b ∈ fp, FpOk X pins (upd H s.heap.objs.size (.lst [])) b := fun b hb => ⟨by rw [upd_ne (hne b hb)]; exact (hf b hb).1, (hf b hb).2⟩
  have st1 : tn 0 (s.heap.push { cls := .type "list", data := .seq ([] : List Value).toArray }) := T.keep _ _ _ st fun b _ o e => k1 b o e
  generalize hs1 : ({ s with heap := s.heap.push { cls := .type "list", data := .seq ([] : List Value).toArray } } : Shared) = s1 at I1
  have hs1h : s1.heap = s.heap.push { cls := .type "list", data := .seq ([] : List Value).toArray } := by rw [← hs1]
  generalize hDe : s.heap.objs.size = D at *
  show wpAny _ _ _ _ _ s1
  refine wpAny_newFunctionEnv c.nc (by intro y hy; simp at hy) (fun h₁ hns₁ hsb₁ => ?_) c.kind
  have old : ∀ b o, s1.heap.get? b = some o → h₁.get? b = some o := fun b o e => (hsb₁.2 b (Nat.ne_of_lt (Heap.lt_size e))).trans (Heap.get?_push_of_some _ e)
  have hlt1 : ∀ b ∈ fp, b < s1.heap.objs.size := fun b hb => by
    obtain ⟨o, e, _⟩ := T.obj _ _ st1 b hb
    rw [hs1h]
    exact Heap.lt_size e
  have J0 := inv_block (h₁ := h₁) (t' := s1.toks + ([] : List (Str × Value)).length) c I1 hf1 hlt1 (Nat.le_refl _) (by simpa using hns₁) old
  have stB : tn 0 h₁ := T.keep _ _ _ (by rw [hs1h]; exact st1 : tn 0 s1.heap) fun b _ o e => old b o e
  have fpB : ∀ {H' : Hp}, (∀ b ∈ fp, H' b = none) → ∀ b ∈ fp, FpOk (cxB X sc s1.heap.objs.size N s1 (upd H D (.lst [])) fp) [] H' b := fun {H'} hn b hb => by
    obtain ⟨f0, f1, f2, f3, f4, f5⟩ := hf1 b hb
    refine ⟨hn b hb, Nat.ne_of_lt (hlt1 b hb), ?_, .inl hb, fun x d e => f4 x d (clOf_lookup (c.cells I.ok) (fun n c z => by simp at z) e), fun p hp => absurd (show p ∈ ([] : List (Addr × Obj)) from hp) (by simp)⟩
    intro z
    rcases List.mem_cons.mp (I1.stkSub b z) with q | q
    · exact f1 q
    · exact f2 q
  have fin : ∀ {σ' : St} {H' : Hp} {s' : Shared} {ys : List V}, Inv (cxB X sc s1.heap.objs.size N s1 (upd H D (.lst [])) fp) [] σ' H' s' → Q D H' ys → RR (.ref D) s1.heap.objs.size (.ok .next) s' := fun {σ' H' s' ys} J q =>
    hR D _ H' s' ys (inv_unblock I1 hf1 J) (I1.fpOk (Nat.le_refl _) J.free) (let ⟨m, hn, _⟩ := J.loc; ⟨m, hn⟩) q
  have loop : codeAny (model X.prog X.w) X.A (.compLoop (.ListComp elt [⟨tg, iter, ifs, 0⟩] sc pos) 0 (.ref it) (.ref D) (cxB X sc s1.heap.objs.size N s1 (upd H D (.lst [])) fp).env) (RR (.ref D) s1.heap.objs.size) { s1 with heap := h₁, toks := s1.toks + ([] : List (Str × Value)).length } :=
    comp_loop (X := cxB X sc s1.heap.objs.size N s1 (upd H D (.lst [])) fp) hc rfl T (B.tg _ _ _ _) (B.tests _ _ _ _) (B.elt _ _ _ _) turn fpB fin J0 stB (fun b hb => (hf1 b hb).1) w0
  exact codeAny_compStart_list loop (T.self _ 0 _ _ _ stB loop)
theorem pe_comp (hc : X.calm = true) (c : CompOk X sc N ix) (hi : PI X tg iter wi) (B : Blk X sc N tg elt ifs g tt te) (hs : ∀ x, foldedSetIterable iter X.env x = pure x := by intro _; rfl) : PE X (.ListComp elt [⟨tg, iter, ifs, 0⟩] sc pos) (tComp ix wi g tt te) := by
  intro pins s σ H Q I h
  rw [eval_ListComp]
  refine wpAny_comprehension_free (use := none) rfl hs (closureFor_clOf (c.cells I.ok)) c.kind c.nm (thn (hi pins s σ H _ I h) fun xv s₁ h₁ => thn h₁ fun itv s₂ h₂ => ?_)
  obtain ⟨it, fp, tn, J, H2, e, I2, T, st2, f2, q2⟩ := h₂
  subst e
  refine comp_core (RR := fun acc C => compPost (model X.prog X.w) X.A X.xe none (EP X pins σ Q) acc C) (Q := fun D H _ => Q (.ref D) H) hc c B I2 T st2 f2 q2 ?_
  intro D C H' s' ys I' fC ns q
  refine ⟨_, ns.choose_spec, fun h' sb => ⟨.ref D, H', ?_, rfl, q⟩⟩
  obtain ⟨f0, f1, f2, f3, f4, f5⟩ := fC
  exact I'.turned (t' := s'.toks) (fun b o hb e => (sb.2 b hb).trans e) f0 f1 f3 f4 f5
/-- name = [..]: the store comes ahead of the block's end -/
theorem ps_setC {i : Nat} {y : Str} {py spos : Pos} (hc : X.calm = true) (hN : X.N.Nodup) (hy : X.N[i]? = some y) (hl : X.env.scope.names.lookup y = some .local)
    (hsw : swapsWith (.ListComp elt [⟨tg, iter, ifs, 0⟩] sc pos) (some (.Name y py)) spos.line X.env = pure true)
    (c : CompOk X sc N ix) (hi : PI X tg iter wi) (B : Blk X sc N tg elt ifs g tt te) (hs : ∀ x, foldedSetIterable iter X.env x = pure x := by intro _; rfl) :
    PS X (.Assign [.Name y py] (.ListComp elt [⟨tg, iter, ifs, 0⟩] sc pos) spos) (tAsg (tComp ix wi g tt te) (gName i)) := by
  intro pins s σ H D0 I h
  rw [exec_Assign_Name_used _ _ _ _ hsw]
  refine wpAny_bind (wpAny_standAt (wpAny_bind ?_))
  show wpAny _ X.A (do let _ ← comprehension (.ListComp elt [⟨tg, iter, ifs, 0⟩] sc pos) sc X.env _ (newList []) false (eval iter X.env) (some (assign (.Name y py) X.env))) _ _ s
  refine wpAny_bind (wpAny_mono (wpAny_comprehension_free (use := some (assign (.Name y py) X.env)) (Q := fun _ s' => SP X pins D0 .next s') rfl hs (closureFor_clOf (c.cells I.ok)) c.kind c.nm
    (thn (hi pins s σ H _ I h) fun xv s₁ h₁ => thn h₁ fun itv s₂ h₂ => ?_)) (fun _ s' hq => wpAny_pure (wpAny_pure hq)) fun _ _ e => e)
  obtain ⟨it, fp, tn, J, H2, e, I2, T, st2, f2, q2⟩ := h₂
  subst e
  refine comp_core (RR := fun acc C => compPost (model X.prog X.w) X.A X.xe (some (assign (.Name y py) X.env)) (fun _ s' => SP X pins D0 .next s') acc C) (Q := fun D H _ => D0.nx (σ.set i (some (.ref D))) H) hc c B I2 T st2 f2 q2 ?_
  intro D C H' s' ys I' fC ns q
  show wpAny _ X.A (assign (.Name y py) X.env (.ref D)) _ _ _
  obtain ⟨f0, f1, f2, f3, f4, f5⟩ := fC
  refine wpAny_assign_Name (store_ok2 I' hN hy (.inl hl) (v := .ref D) rfl (fun s2 J2 ⟨a, sb, ha⟩ => ?_) (.inr hl))
  obtain ⟨m, hn⟩ := ns
  have neC : C ≠ a := by
    rcases ha with z | z
    · rw [z]; exact f1
    · exact fun e => f4 y a z e.symm
  refine ⟨m, hn.sameBut sb neC, fun h3 sb3 => ⟨_, H', ?_, q⟩⟩
  exact J2.turned (t' := s2.toks) (fun b o hb e => (sb3.2 b hb).trans e) f0 f1 f3 f4 f5
end
end L2



set_option Elab.async false
set_option linter.all false
set_option maxRecDepth 100000
namespace L2
open PySem PySem.Spec PyProof.Rows

/-! ### lists of pairs as tables -/
section
variable {κ : Type} [DecidableEq κ]
def valV (kvs : List (κ × V)) (k : κ) : Option V := (kvs.find? fun kv => decide (kv.1 = k)).map (·.2)
/-- in its place, or at the end -/
def putK (kvs : List (κ × V)) (k : κ) (v : V) : List (κ × V) :=
  if (kvs.any fun kv => decide (kv.1 = k)) = true then kvs.map (fun kv => if kv.1 = k then (kv.1, v) else kv) else kvs ++ [(k, v)]
def dropK (kvs : List (κ × V)) (k : κ) : List (κ × V) := kvs.filter fun kv => decide (kv.1 ≠ k)

theorem valV_pos {p : κ × V} {r : List (κ × V)} {k : κ} (e : p.1 = k) : valV (p :: r) k = some p.2 := by simp [valV, List.find?_cons, e]
theorem valV_neg {p : κ × V} {r : List (κ × V)} {k : κ} (e : ¬ p.1 = k) : valV (p :: r) k = valV r k := by simp [valV, List.find?_cons, e]
theorem valV_any (k : κ) : ∀ kvs : List (κ × V), (kvs.any fun kv => decide (kv.1 = k)) = (valV kvs k).isSome
  | [] => rfl
  | p :: r => by
    rw [List.any_cons]
    by_cases e : p.1 = k
    · simp only [valV_pos e, decide_eq_true e, Bool.true_or, Option.isSome_some]
    · rw [valV_neg e, decide_eq_false e, Bool.false_or]; exact valV_any k r
theorem valV_map (k j : κ) (y : V) : ∀ kvs : List (κ × V), valV (kvs.map fun kv => if kv.1 = k then (kv.1, y) else kv) j = (valV kvs j).map fun x => if j = k then y else x
  | [] => rfl
  | p :: r => by
    have ih := valV_map k j y r
    rw [List.map_cons]
    by_cases h : p.1 = k
    · rw [if_pos h]
      by_cases e : p.1 = j
      · rw [valV_pos (p := (p.1, y)) e, valV_pos e, Option.map_some, if_pos (e.symm.trans h)]
      · rw [valV_neg (p := (p.1, y)) e, valV_neg e, ih]
    · rw [if_neg h]
      by_cases e : p.1 = j
      · rw [valV_pos (p := p) e, valV_pos e, Option.map_some, if_neg (fun z => h (e.trans z))]
      · rw [valV_neg (p := p) e, valV_neg e, ih]
theorem valV_snoc (k j : κ) (y : V) : ∀ kvs : List (κ × V), valV kvs k = none → valV (kvs ++ [(k, y)]) j = if j = k then some y else valV kvs j
  | [], _ => by
    by_cases e : k = j
    · rw [if_pos e.symm]; exact valV_pos (p := (k, y)) e
    · rw [if_neg (fun z => e z.symm)]; exact valV_neg (p := (k, y)) e
  | p :: r, hn => by
    rw [List.cons_append]
    have hk : ¬ p.1 = k := fun z => by rw [valV_pos z] at hn; cases hn
    rw [valV_neg hk] at hn
    have ih := valV_snoc k j y r hn
    by_cases e : p.1 = j
    · rw [valV_pos e, valV_pos e, if_neg (fun z => hk (e.trans z))]
    · rw [valV_neg e, valV_neg e, ih]
theorem valV_put (kvs : List (κ × V)) (k j : κ) (y : V) : valV (putK kvs k y) j = if j = k then some y else valV kvs j := by
  unfold putK
  by_cases a : (kvs.any fun kv => decide (kv.1 = k)) = true
  · rw [if_pos a, valV_map]
    rw [valV_any] at a
    by_cases e : j = k
    · obtain ⟨x, hx⟩ := Option.isSome_iff_exists.mp a
      rw [if_pos e, e, hx, Option.map_some, if_pos rfl]
    · rw [if_neg e]
      cases valV kvs j with
      | none => rfl
      | some x => rw [Option.map_some, if_neg e]
  · rw [if_neg a]
    refine valV_snoc k j y kvs ?_
    rw [valV_any] at a
    cases q : valV kvs k with
    | none => rfl
    | some x => rw [q] at a; exact (a rfl).elim
theorem length_putK (kvs : List (κ × V)) (k : κ) (v : V) : (putK kvs k v).length ≤ kvs.length + 1 := by
  unfold putK
  split
  · rw [List.length_map]; omega
  · rw [List.length_append, List.length_cons, List.length_nil]; omega
theorem putK_new {kvs : List (κ × V)} {k : κ} (v : V) (h : valV kvs k = none) : putK kvs k v = kvs ++ [(k, v)] := by
  unfold putK
  rw [valV_any, h]
  exact if_neg (by decide)

theorem RelO.isSome_eq {o : Option V} {u : Option Value} (r : RelO o u) : o.isSome = u.isSome := by
  cases o with
  | none => cases u with
    | none => rfl
    | some _ => exact (show False from r).elim
  | some _ => cases u with
    | none => exact (show False from r).elim
    | some _ => rfl
theorem RelO.getD {o : Option V} {u : Option Value} {d : V} {d' : Value} (r : RelO o u) (rd : RelV d d') : RelV (o.getD d) (u.getD d') := by
  cases o with
  | none => cases u with
    | none => exact rd
    | some _ => exact (show False from r).elim
  | some _ => cases u with
    | none => exact (show False from r).elim
    | some _ => exact r

/-- raw tables of the same keys -/
theorem KV.val {kvs : List (κ × V)} {vs : List (κ × Value)} (r : KV kvs vs) (k : κ) : RelO (valV kvs k) (valueAt vs k) := by
  unfold KV at r
  induction r with
  | nil => exact True.intro
  | @cons p q ps qs h t ih =>
    obtain ⟨h1, h2⟩ := h
    by_cases e : p.1 = k
    · have e' : q.1 = k := h1.symm.trans e
      have b : valueAt (q :: qs) k = some q.2 := by simp [valueAt, List.find?_cons, e']
      rw [valV_pos e, b]; exact h2
    · have e' : ¬ q.1 = k := fun z => e (h1.trans z)
      have b : valueAt (q :: qs) k = valueAt qs k := by simp [valueAt, List.find?_cons, e']
      rw [valV_neg e, b]; exact ih
theorem KV.any {kvs : List (κ × V)} {vs : List (κ × Value)} (r : KV kvs vs) (k : κ) : (kvs.any fun kv => decide (kv.1 = k)) = vs.any fun kv => decide (kv.1 = k) := by
  unfold KV at r
  induction r with
  | nil => rfl
  | cons h t ih => rw [List.any_cons, List.any_cons, ih, h.1]
theorem KV.repl {kvs : List (κ × V)} {vs : List (κ × Value)} (r : KV kvs vs) (k : κ) {y : V} {u : Value} (ry : RelV y u) :
    KV (kvs.map fun kv => if kv.1 = k then (kv.1, y) else kv) (vs.map fun kv => if kv.1 = k then (kv.1, u) else kv) := by
  unfold KV at r ⊢
  induction r with
  | nil => exact .nil
  | @cons p q ps qs h t ih =>
    rw [List.map_cons, List.map_cons]
    refine .cons ?_ ih
    obtain ⟨h1, h2⟩ := h
    by_cases e : p.1 = k
    · rw [if_pos e, if_pos (h1.symm.trans e)]; exact ⟨h1, ry⟩
    · rw [if_neg e, if_neg (fun z => e (h1.trans z))]; exact ⟨h1, h2⟩
theorem KV.put {kvs : List (κ × V)} {vs : List (κ × Value)} (r : KV kvs vs) (k : κ) {y : V} {u : Value} (ry : RelV y u) : KV (putK kvs k y) (stored vs k u) := by
  unfold putK stored
  rw [r.any k]
  by_cases e : (vs.any fun kv => decide (kv.1 = k)) = true
  · rw [if_pos e, if_pos e]; exact r.repl k ry
  · rw [if_neg e, if_neg e]; exact Paired.snoc r ⟨rfl, ry⟩
theorem KV.drop {kvs : List (κ × V)} {vs : List (κ × Value)} (r : KV kvs vs) (k : κ) : KV (dropK kvs k) (without vs k) := by
  unfold KV at r ⊢
  unfold dropK without
  induction r with
  | nil => exact .nil
  | @cons p q ps qs h t ih =>
    obtain ⟨h1, h2⟩ := h
    rw [List.filter_cons, List.filter_cons]
    by_cases e : p.1 = k
    · have a : ¬ decide (p.1 ≠ k) = true := by simp [e]
      have b : ¬ decide (q.1 ≠ k) = true := by simp [h1.symm.trans e]
      rw [if_neg a, if_neg b]; exact ih
    · have e' : ¬ q.1 = k := fun z => e (h1.trans z)
      have a : decide (p.1 ≠ k) = true := by simp [e]
      have b : decide (q.1 ≠ k) = true := by simp [e']
      rw [if_pos a, if_pos b]; exact .cons ⟨h1, h2⟩ ih
theorem KV.keys {kvs : List (κ × V)} {vs : List (κ × Value)} (r : KV kvs vs) : kvs.map (·.1) = vs.map (·.1) := by
  unfold KV at r
  induction r with
  | nil => rfl
  | cons h t ih => rw [List.map_cons, List.map_cons, ih, h.1]
theorem KV.length {kvs : List (κ × V)} {vs : List (κ × Value)} (r : KV kvs vs) : kvs.length = vs.length := Paired.length r
end


/-! ### a tracked dict, its keys ints and texts or tuples of these -/
theorem kV_is {P : Program} {w : World} {k : Key} {u : Value} (r : RelV (kV k) u) : (mixKind P w).is k u = true := by
  cases k with
  | inl i => obtain ⟨t, e⟩ := (show ∃ t, u = Value.int i t from r); subst e; exact mixKind_int P w i t
  | inr x => obtain ⟨t, e⟩ := (show ∃ t, u = Value.str x t from r); subst e; exact mixKind_str P w x t
theorem items_are {P : Program} {w : World} : ∀ {ks : List Key} {us : List Value}, Vals (ks.map kV) us → ItemsAre (mixKind P w) ks us
  | [], _, r => by rw [List.map_nil] at r; cases r; exact .nil
  | k :: ks, _, r => by
    rw [List.map_cons] at r
    cases r with
    | cons h t => exact .cons (kV_is h) (items_are t)

/-- raw entries of a dict with tuple keys -/
abbrev KT (H : Hp) : List (List Key × V) → List (List Key × Addr × Value) → Prop := Paired fun p q => p.1 = q.1 ∧ H q.2.1 = some (.tup (p.1.map kV)) ∧ RelV p.2 q.2.2
theorem KT.val {H : Hp} {kvs : List (List Key × V)} {xs : List (List Key × Addr × Value)} (r : KT H kvs xs) (k : List Key) : RelO (valV kvs k) ((atKey xs k).map (·.2)) := by
  induction r with
  | nil => exact True.intro
  | @cons p q ps qs h t ih =>
    obtain ⟨h1, _, h2⟩ := h
    by_cases e : p.1 = k
    · have e' : q.1 = k := h1.symm.trans e
      have b : atKey (q :: qs) k = some q.2 := by simp [atKey, List.find?_cons, e']
      rw [valV_pos e, b]; exact h2
    · have e' : ¬ q.1 = k := fun z => e (h1.trans z)
      have b : atKey (q :: qs) k = atKey qs k := by simp [atKey, List.find?_cons, e']
      rw [valV_neg e, b]; exact ih
theorem KT.repl {H : Hp} {kvs : List (List Key × V)} {xs : List (List Key × Addr × Value)} (r : KT H kvs xs) (k : List Key) {y : V} {u : Value} (ry : RelV y u) :
    KT H (kvs.map fun kv => if kv.1 = k then (kv.1, y) else kv) (xs.map (putAt k u)) := by
  induction r with
  | nil => exact .nil
  | @cons p q ps qs h t ih =>
    rw [List.map_cons, List.map_cons]
    refine .cons ?_ ih
    obtain ⟨h1, h2, h3⟩ := h
    unfold putAt
    by_cases e : p.1 = k
    · rw [if_pos e, if_pos (h1.symm.trans e)]; exact ⟨h1, h2, ry⟩
    · rw [if_neg e, if_neg (fun z => e (h1.trans z))]; exact ⟨h1, h2, h3⟩
theorem KT.put {H : Hp} {kvs : List (List Key × V)} {xs : List (List Key × Addr × Value)} (r : KT H kvs xs) (k : List Key) {b : Addr} {y : V} {u : Value} (hb : H b = some (.tup (k.map kV))) (ry : RelV y u) :
    KT H (putK kvs k y) (storedH xs k b u) := by
  have e : (kvs.any fun kv => decide (kv.1 = k)) = (atKey xs k).isSome := by
    rw [valV_any, (r.val k).isSome_eq, Option.isSome_map]
  unfold putK storedH
  rw [e]
  by_cases q : (atKey xs k).isSome = true
  · rw [if_pos q, if_pos q]; exact r.repl k ry
  · rw [if_neg q, if_neg q]; exact Paired.snoc r ⟨rfl, hb, ry⟩
theorem KT.keeps {H H' : Hp} {kvs : List (List Key × V)} {xs : List (List Key × Addr × Value)} (r : KT H kvs xs) (ht : ∀ b ys, H b = some (.tup ys) → H' b = some (.tup ys)) : KT H' kvs xs :=
  Paired.mapP r fun _ _ z => ⟨z.1, ht _ _ z.2.1, z.2.2⟩

section
variable {P : Program} {w : World} {H : Hp} {h : Heap} {a : Addr}
theorem rd_of {u : HO} (ok : HOk P w H h) (e : Rd H a u) : ObjOk P w H h a u := e.ok ok
theorem dk_rd {kvs : List (Key × V)} (ok : HOk P w H h) (e : Rd H a (.dK kvs)) : kvs.length ≤ sizeLine ∧ (a == sysModules) = false ∧ ∃ vs, KV kvs vs ∧ h.DictOf (mixKind P w) a vs :=
  show ObjOk P w H h a (.dK kvs) from rd_of ok e
theorem dk_of {kvs : List (Key × V)} (ok : HOk P w H h) (e : H a = some (.dK kvs)) : kvs.length ≤ sizeLine ∧ (a == sysModules) = false ∧ ∃ vs, KV kvs vs ∧ h.DictOf (mixKind P w) a vs := dk_rd ok (.inl e)
/-- a tracked tuple of ints and texts is a key -/
theorem key_of {ks : List Key} (ok : HOk P w H h) (e : H a = some (.tup (ks.map kV))) : (tupleKind (mixKind P w)).is h ks a := by
  obtain ⟨_, its, r, o, h1, h2, n, h3⟩ := (show ObjOk P w H h a (.tup (ks.map kV)) from ok a _ e)
  exact ⟨o, its.toArray, n, h1, h2, h3, by simpa using items_are r⟩
theorem dt_rd {kvs : List (List Key × V)} (ok : HOk P w H h) (e : Rd H a (.dT kvs)) : kvs.length ≤ sizeLine ∧ (a == sysModules) = false ∧
    ∃ xs, KT H kvs xs ∧ h.DictOfH (tupleKind (mixKind P w)) a xs := by
  obtain ⟨z, y, xs, r, o, es, ep, h1, h2, h3, h4, h5⟩ := (show ObjOk P w H h a (.dT kvs) from rd_of ok e)
  refine ⟨z, y, xs, r, o, es, ep, h1, h2, h3, h4, fun x hx => ?_, h5⟩
  have all : ∀ {l : List (List Key × V)} {m : List (List Key × Addr × Value)}, KT H l m → ∀ x ∈ m, (tupleKind (mixKind P w)).is h x.1 x.2.1 := by
    intro l m q
    induction q with
    | nil => intro x hx; exact nomatch hx
    | @cons p q ps qs hq t ih =>
      intro x hx
      rcases List.mem_cons.mp hx with e | hx
      · subst e
        exact key_of ok (by rw [← hq.1]; exact hq.2.1)
      · exact ih x hx
  exact all r x hx
theorem dt_of {kvs : List (List Key × V)} (ok : HOk P w H h) (e : H a = some (.dT kvs)) : kvs.length ≤ sizeLine ∧ (a == sysModules) = false ∧
    ∃ xs, KT H kvs xs ∧ h.DictOfH (tupleKind (mixKind P w)) a xs := dt_rd ok (.inl e)
end

/-- what the dict at a holds at the key y -/
def DGet (H : Hp) (a : Addr) (y : V) (r : Option V) : Prop :=
  (∃ kvs k, Rd H a (.dK kvs) ∧ y = kV k ∧ r = valV kvs k) ∨ ∃ kvs k b, Rd H a (.dT kvs) ∧ y = .ref b ∧ H b = some (.tup (k.map kV)) ∧ r = valV kvs k
/-- the heap behind a[y] = v -/
def DPut (H : Hp) (a : Addr) (y v : V) (H' : Hp) : Prop :=
  (∃ kvs k, H a = some (.dK kvs) ∧ y = kV k ∧ kvs.length < sizeLine ∧ H' = upd H a (.dK (putK kvs k v))) ∨
  ∃ kvs k b, H a = some (.dT kvs) ∧ y = .ref b ∧ H b = some (.tup (k.map kV)) ∧ kvs.length < sizeLine ∧ H' = upd H a (.dT (putK kvs k v))
theorem DGet.k {H : Hp} {a : Addr} {kvs : List (Key × V)} {k : Key} (e : H a = some (.dK kvs)) : DGet H a (kV k) (valV kvs k) := .inl ⟨kvs, k, .inl e, rfl, rfl⟩
theorem DGet.t {H : Hp} {a b : Addr} {kvs : List (List Key × V)} {k : List Key} (e : H a = some (.dT kvs)) (eb : H b = some (.tup (k.map kV))) : DGet H a (.ref b) (valV kvs k) := .inr ⟨kvs, k, b, .inl e, rfl, eb, rfl⟩
theorem DPut.k {H : Hp} {a : Addr} {kvs : List (Key × V)} {k : Key} {v : V} (e : H a = some (.dK kvs)) (hl : kvs.length < sizeLine) : DPut H a (kV k) v (upd H a (.dK (putK kvs k v))) := .inl ⟨kvs, k, e, rfl, hl, rfl⟩
theorem DPut.t {H : Hp} {a b : Addr} {kvs : List (List Key × V)} {k : List Key} {v : V} (e : H a = some (.dT kvs)) (eb : H b = some (.tup (k.map kV))) (hl : kvs.length < sizeLine) :
    DPut H a (.ref b) v (upd H a (.dT (putK kvs k v))) := .inr ⟨kvs, k, b, e, rfl, eb, hl, rfl⟩


section
variable {X : Cx} {pins : List (Addr × Obj)} {σ : St} {H : Hp} {s : Shared} {a : Addr} {y v : V} {u r : Value} {o : Option V} {A : Around} {E : Value → Shared → Prop}

theorem Inv.big (I : Inv X pins σ H s) : sysModules < s.heap.objs.size := by
  have h : mainGlobals < s.heap.objs.size := (I.mod.glob.keeps I.bk).lt
  exact Nat.lt_trans (by decide) h

/-- d[y], there -/
theorem d_getItem {Q : Value → Shared → Prop} (hu : A.units + 1 < cLine) (I : Inv X pins σ H s) (g : DGet H a y (some v)) (ry : RelV y u) (h : ∀ w' s', Inv X pins σ H s' → RelV v w' → Q w' s') :
    wpAny (model X.prog X.w) A (getItem (.ref a) u) Q E s := by
  rcases g with ⟨kvs, k, e, ey, l⟩ | ⟨kvs, k, b, e, ey, eb, l⟩
  · subst ey
    obtain ⟨z, hd, vs, rel, dd⟩ := dk_rd I.hok e
    obtain ⟨w', hw, rw'⟩ := RelO.some_of (v := v) (o := valueAt vs k) (by rw [l]; exact rel.val k)
    exact wpAny_getItem_of (kV_is ry) dd.mapOf hw (h w' _ (I.tok _) rw')
  · subst ey
    cases (show u = Value.ref b from ry)
    obtain ⟨z, hd, xs, rel, dd⟩ := dt_rd I.hok e
    obtain ⟨w', hw, rw'⟩ := RelO.some_of (v := v) (o := (atKey xs k).map (·.2)) (by rw [l]; exact rel.val k)
    obtain ⟨p, hp, hp2⟩ := Option.map_eq_some_iff.mp hw
    refine wpAny_getItem_heap (tupleKind_room_in1 hu) (key_of I.hok eb) dd hp ?_
    rw [hp2]
    exact h w' _ (I.tok _) rw'
/-- a dict's object is replaced -/
theorem d_write {h' : Heap} {t' : Nat} {ob : HO} (I : Inv X pins σ H s) (mu : Mut (H a)) (hs : Heap.SameBut a s.heap h') (he : ∃ q, h'.get? a = some q) (new : ObjOk X.prog X.w (upd H a ob) h' a ob) :
    Inv X pins σ (upd H a ob) { s with heap := h', toks := t' } :=
  I.write (x := a) (e := a) mu (.inl rfl) (fun b q hb z => (hs.2 b hb).trans z) he new
theorem dk_new {P : Program} {w : World} {H' : Hp} {h' : Heap} {kvs : List (Key × V)} {vs : List (Key × Value)} (z : kvs.length ≤ sizeLine) (hd : (a == sysModules) = false) (rel : KV kvs vs) (dd : h'.DictOf (mixKind P w) a vs) :
    ObjOk P w H' h' a (.dK kvs) := ⟨z, hd, vs, rel, dd⟩
/-- d[y] = v -/
theorem d_setItem {H' : Hp} {Q : Unit → Shared → Prop} (hu : A.units + 1 < cLine) (I : Inv X pins σ H s) (g : DPut H a y v H') (ry : RelV y u) (rv : RelV v r) (h : ∀ s', Inv X pins σ H' s' → Q () s') :
    wpAny (model X.prog X.w) A (setItem (.ref a) u r) Q E s := by
  rcases g with ⟨kvs, k, e, ey, l, eH⟩ | ⟨kvs, k, b, e, ey, eb, l, eH⟩
  · subst ey eH
    obtain ⟨z, hd, vs, rel, dd⟩ := dk_of I.hok e
    have hz : vs.length ≤ sizeLine := by rw [← rel.length]; exact z
    have hl : (putK kvs k v).length ≤ sizeLine := by have := length_putK kvs k v; omega
    refine wpAny_setItem_pairs (hsz := hz) (kV_is ry) dd fun h' dd' hs => h _ ?_
    have he : ∃ q, h'.get? a = some q := let ⟨q, _, _, hq, _⟩ := dd'; ⟨q, hq⟩
    exact d_write I (by rw [e]; exact True.intro) hs he (dk_new hl hd (rel.put k rv) dd')
  · subst ey eH
    cases (show u = Value.ref b from ry)
    obtain ⟨z, hd, xs, rel, dd⟩ := dt_of I.hok e
    have hz : xs.length ≤ sizeLine := by rw [← Paired.length rel]; exact z
    have hl : (putK kvs k v).length ≤ sizeLine := by have := length_putK kvs k v; omega
    refine wpAny_setItem_heap (hsz := hz) (tupleKind_room_in1 hu) (key_of I.hok eb) dd fun h' dd' hs => h _ ?_
    obtain ⟨q, es, ep, hq, h2, h3, h4, _, h5⟩ := dd'
    refine d_write I (by rw [e]; exact True.intro) hs ⟨q, hq⟩ ⟨hl, hd, _, (rel.put k eb rv).keeps fun c ys ec => ?_, q, es, ep, hq, h2, h3, h4, h5⟩
    rw [upd_ne (ne_of ec e (fun z => nomatch z))]
    exact ec
end

section
variable {X : Cx} {pins : List (Addr × Obj)} {σ : St} {H : Hp} {s : Shared} {a : Addr} {kvs : List (Key × V)} {k : Key} {u : Value} {A : Around} {E : Value → Shared → Prop}
end


/-! ### readings and rules -/
/-- the element of a subscription, not a slice -/
def NoSl (i : Expr) : Prop := ∀ ov iv, subscripted i false ov iv = operate [ov, iv] (getItem ov iv)
theorem subD_of {prog : Program} {w : World} {A : Around} {E : Value → Shared → Prop} {s : Shared} {env : Env} {value slice : Expr} {pos : Pos} {T id : String} {Q : Value → Shared → Prop}
    (hl : typeLookup (.type T) "__getitem__" = pure (some (.builtin id))) (hs : NoSl slice)
    (h : wpAny (model prog w) A (eval value env) (fun o s₁ => wpAny (model prog w) A (eval slice env) (fun i s₂ => s₂.TypeIs o T ∧ wpAny (model prog w) A (getItem o i) Q E s₂) E s₁) E s) :
    wpAny (model prog w) A (eval (.Subscript value slice pos) env) Q E s := by
  refine Subscript_ (wpAny_mono h (fun o s₁ h₁ => wpAny_mono h₁ (fun i s₂ h₂ => ?_) fun _ _ x => x) fun _ _ x => x)
  obtain ⟨hT, h₂⟩ := h₂
  unfold subscriptTail
  refine wpAny_bind ?_
  rw [getitemInPython_of_ne hT.not_modules]
  refine wpAny_bind (wpAny_specialOf hT hl ?_)
  have fin : wpAny (model prog w) A (subscripted slice false o i) (fun r s₃ => wpAny (model prog w) A (letTemporaryGo value o r >>= fun _ => pure r) Q E s₃) E s₂ := by
    rw [hs o i]
    exact wpAny_operating (wpAny_mono h₂ (fun r s₃ h₃ => wpAny_bind (wpAny_letTemporaryGo (wpAny_pure h₃))) fun _ _ x => x)
  first
    | exact wpAny_pure (wpAny_bind fin)
    | exact wpAny_bind (wpAny_pure (wpAny_bind fin))
    | exact wpAny_bind fin

theorem dict_typeIs {X : Cx} {pins : List (Addr × Obj)} {σ : St} {H : Hp} {s : Shared} {a : Addr} {y : V} {o : Option V} (I : Inv X pins σ H s) (g : DGet H a y o) : s.TypeIs (.ref a) "dict" := by
  rcases g with ⟨kvs, k, e, _, _⟩ | ⟨kvs, k, b, e, _, _, _⟩
  · obtain ⟨_, _, vs, _, dd⟩ := dk_rd I.hok e
    exact dd.typeIs
  · obtain ⟨_, _, xs, _, dd⟩ := dt_rd I.hok e
    exact dd.typeIs
/-- d[y] -/
def tDGet (td ty : TE) : TE := fun σ H Q => td σ H fun x H1 => ty σ H1 fun y H2 => ∃ a v, x = .ref a ∧ DGet H2 a y (some v) ∧ Q v H2
/-- d[y] = v -/
def sDPut (td ty tv : TE) : TS := fun D σ H => tv σ H fun v H1 => td σ H1 fun x H2 => ty σ H2 fun y H3 => ∃ a H4, x = .ref a ∧ DPut H3 a y v H4 ∧ D.nx σ H4
section
variable {X : Cx} {o i e value : Expr} {pos pos' tpos : Pos} {td ty tv : TE}
theorem pe_dget (hu : X.A.units + 1 < cLine) (ho : PE X o td) (hi : PE X i ty) (hs : NoSl i) : PE X (.Subscript o i pos) (tDGet td ty) := by
  intro pins s σ H Q I h
  refine subD_of PySem.F.slot_dict_getitem.lookup hs (thn (ho pins s σ H _ I h) fun u s1 ⟨x, H1, I1, rx, q1⟩ => thn (hi pins s1 σ H1 _ I1 q1) fun iv s2 ⟨y, H2, I2, ry, a, v, ex, g, q2⟩ => ?_)
  subst ex
  obtain rfl : u = Value.ref a := rx
  exact ⟨dict_typeIs I2 g, d_getItem hu I2 g ry fun w' s3 I3 rw' => ⟨v, H2, I3, rw', q2⟩⟩
theorem ps_dput (hu : X.A.units + 1 < cLine) (ho : PE X o td) (hi : PE X i ty) (hv : PE X value tv) (hs : swapsWith value (some (.Subscript o i pos')) pos.line X.env = pure false) :
    PS X (.Assign [.Subscript o i pos'] value pos) (sDPut td ty tv) := by
  intro pins s σ H D I h
  refine wpAny_Assign_Subscript (thn (hv pins s σ H _ I h) fun r s1 ⟨v, H1, I1, rv, q1⟩ => thn (ho pins s1 σ H1 _ I1 q1) fun u s2 ⟨x, H2, I2, rx, q2⟩ => thn (hi pins s2 σ H2 _ I2 q2) fun iv s3 ⟨y, H3, I3, ry, a, H4, ex, g, q3⟩ => ?_) hs
  subst ex
  obtain rfl : u = Value.ref a := rx
  exact d_setItem hu I3 g ry rv fun s4 I4 => ⟨σ, H4, I4, q3⟩
end


/-! ### displays -/
theorem dk_empty {P : Program} {w : World} {H : Hp} (h : Heap) (hb : sysModules < h.objs.size) : ObjOk P w H (h.push { cls := .type "dict", data := .dict #[] }) h.objs.size (.dK []) :=
  ⟨Nat.zero_le _, beq_eq_false_iff_ne.mpr (Ne.symm (Nat.ne_of_lt hb)), [], .nil, Heap.DictOf.new h⟩
/-- {}, to be a dict of the kind that is wanted -/
def tDNewK : TE := fun _ H Q => ∀ p, H p = none → Q (.ref p) (upd H p (.dK []))
section
variable {X : Cx} {pos : Pos}
theorem pe_dnewK : PE X (.Dict [] [] pos) tDNewK := fun pins s σ H Q I h =>
  wpAny_Dict_empty ⟨.ref s.heap.objs.size, _, I.laid (a := s.heap.objs.size) (o := .dK []) (t' := s.toks) (fun _ _ q => Heap.get?_push_of_some _ q) (Nat.le_refl _) (dk_empty s.heap I.big), rfl, h _ (I.hok.fresh (Nat.le_refl _))⟩
end

/-- the pairs of a display, from the left -/
def tPairs : List (TE × TE) → St → Hp → (List (V × V) → Hp → Prop) → Prop
  | [], _, H, Q => Q [] H
  | (tk, tv) :: r, σ, H, Q => tk σ H fun x H1 => tv σ H1 fun y H2 => tPairs r σ H2 fun ps H3 => Q ((x, y) :: ps) H3
abbrev VV : List (V × V) → List (Value × Value) → Prop := Paired fun p q => RelV p.1 q.1 ∧ RelV p.2 q.2
def PPs (X : Cx) (pos : Pos) (keys : List (Option Expr)) (values : List Expr) (trs : List (TE × TE)) : Prop :=
  ∀ (pins : List (Addr × Obj)) (s : Shared) (σ : St) (H : Hp) (Q : List (V × V) → Hp → Prop), Inv X pins σ H s → tPairs trs σ H Q →
    wpAny (model X.prog X.w) X.A (evalPairs (pairTrees keys values X.env pos)) (fun vs s' => ∃ ps H', Inv X pins σ H' s' ∧ VV ps vs ∧ Q ps H') X.xe s
theorem pps_nil {X : Cx} {pos : Pos} : PPs X pos [] [] [] := fun pins s σ H Q I h => pairTrees_nil_walk ⟨[], H, I, .nil, h⟩
theorem pps_cons {X : Cx} {pos : Pos} {k v : Expr} {ks : List (Option Expr)} {vs : List Expr} {tk tv : TE} {trs : List (TE × TE)} (hk : PE X k tk) (hv : PE X v tv) (hr : PPs X pos ks vs trs) :
    PPs X pos (some k :: ks) (v :: vs) ((tk, tv) :: trs) := fun pins s σ H Q I h =>
  pairTrees_cons_walk (thn (hk pins s σ H _ I h) fun u s1 ⟨x, H1, I1, rx, q1⟩ => thn (hv pins s1 σ H1 _ I1 q1) fun w2 s2 ⟨y, H2, I2, ry, q2⟩ =>
    thn (hr pins s2 σ H2 _ I2 q2) fun ws s3 ⟨ps, H3, I3, rel, q3⟩ => ⟨(x, y) :: ps, H3, I3, .cons ⟨rx, ry⟩ rel, q3⟩)

def mergeK (kvs more : List (Key × V)) : List (Key × V) := more.foldl (fun acc kv => putK acc kv.1 kv.2) kvs
theorem KV.merge : ∀ {more : List (Key × V)} {rs : List (Key × Value)} {kvs : List (Key × V)} {vs : List (Key × Value)}, KV more rs → KV kvs vs → KV (mergeK kvs more) (merged vs rs) := by
  intro more rs kvs vs r
  unfold KV at r
  induction r generalizing kvs vs with
  | nil => intro q; exact q
  | @cons p q ps qs h t ih =>
    intro r0
    have e : KV (putK kvs p.1 p.2) (stored vs q.1 q.2) := by
      have := r0.put p.1 h.2
      rw [← h.1]; exact this
    exact ih e
theorem length_mergeK : ∀ (more kvs : List (Key × V)), (mergeK kvs more).length ≤ kvs.length + more.length
  | [], kvs => by show kvs.length ≤ kvs.length + 0; omega
  | p :: r, kvs => by
    have h1 := length_mergeK r (putK kvs p.1 p.2)
    have h2 := length_putK kvs p.1 p.2
    show (mergeK (putK kvs p.1 p.2) r).length ≤ _
    rw [List.length_cons]; omega
theorem carries_of {P : Program} {w : World} : ∀ {kvs : List (Key × V)} {ws : List (Value × Value)}, VV (kvs.map fun kv => (kV kv.1, kv.2)) ws → ∃ rs, Carries (mixKind P w) ws rs ∧ KV kvs rs
  | [], _, r => by rw [List.map_nil] at r; cases r; exact ⟨[], True.intro, .nil⟩
  | p :: kvs, _, r => by
    rw [List.map_cons] at r
    cases r with
    | @cons a b as bs h t =>
      obtain ⟨rs, c, q⟩ := carries_of (P := P) (w := w) t
      obtain ⟨b1, b2⟩ := b
      exact ⟨(p.1, b2) :: rs, ⟨kV_is h.1, rfl, c⟩, .cons ⟨rfl, h.2⟩ q⟩
/-- {k: v, ..} with keys ints and texts; the new dict stands empty while the pairs are made -/
def tDisp (trs : List (TE × TE)) : TE := fun σ H Q => ∀ p, H p = none → tPairs trs σ (upd H p (.dK [])) fun ps H2 => H2 p = some (.dK []) ∧ ∃ kvs : List (Key × V), ps = kvs.map (fun kv => (kV kv.1, kv.2)) ∧ kvs.length ≤ 15 ∧ Q (.ref p) (upd H2 p (.dK (mergeK [] kvs)))
theorem pe_disp {X : Cx} {pos : Pos} {keys : List (Option Expr)} {values : List Expr} {trs : List (TE × TE)} (h : PPs X pos keys values trs) (hall : keys.all (·.isSome) = true) (hl : keys.length = values.length) (h0 : keys ≠ [])
    (h15 : keys.length ≤ 15) : PE X (.Dict keys values pos) (tDisp trs) := by
  intro pins s σ H Q I q
  have hn := I.hok.fresh (Nat.le_refl s.heap.objs.size)
  have I1 := I.laid (a := s.heap.objs.size) (o := .dK []) (h' := s.heap.push { cls := .type "dict", data := .dict #[] }) (t' := s.toks) (fun _ _ q => Heap.get?_push_of_some _ q) (Nat.le_refl _) (dk_empty s.heap I.big)
  refine wpAny_Dict_walk (knd := mixKind X.prog X.w) hall hl h0 h15 (thn (h pins _ σ _ _ I1 (q _ hn)) fun ws s2 ⟨ps, H2, I2, rel, e, kvs, ep, lk, q2⟩ => ?_)
  subst ep
  obtain ⟨rs, c, rk⟩ := carries_of (P := X.prog) (w := X.w) rel
  obtain ⟨z, hd, vs0, r0, dd⟩ := dk_of I2.hok e
  cases r0
  refine ⟨rs, c, dd, fun h' dd' hs => ⟨.ref s.heap.objs.size, _, ?_, rfl, q2⟩⟩
  have hz : (mergeK [] kvs).length ≤ sizeLine := by
    have h1 := length_mergeK kvs []
    rw [List.length_nil] at h1
    rw [sizeLine_eq]; omega
  have he : ∃ q, h'.get? s.heap.objs.size = some q := let ⟨q, _, _, hq, _⟩ := dd'; ⟨q, hq⟩
  exact d_write I2 (by rw [e]; exact True.intro) hs he (dk_new hz hd (rk.merge .nil) dd')


/-! ### methods -/
/-- a method call o.m(e) of a built-in, with one argument: what must be seen of the text -/
structure M1 (X : Cx) (o : Expr) (m : Str) (apos : Pos) (e : Expr) (cpos : Pos) : Prop where
  base : attributeBase o m X.env (eval o X.env) = eval o X.env
  few : ((backTo cpos (starEach [e] X.env)).all (fun x => !x.1) && (backToKw cpos (keywordEach [] X.env)).all (fun x => x.1.isSome)
    && decide (([e] : List Expr).length + ([] : List Keyword).length + (if ([] : List Keyword).isEmpty then 0 else 1) < 30)) = true
  line : (apos.endLine == cpos.line) = true
  trees : backTo cpos (starEach [e] X.env) = [(false, eval e X.env)]
structure M2 (X : Cx) (o : Expr) (m : Str) (apos : Pos) (e f : Expr) (cpos : Pos) : Prop where
  base : attributeBase o m X.env (eval o X.env) = eval o X.env
  few : ((backTo cpos (starEach [e, f] X.env)).all (fun x => !x.1) && (backToKw cpos (keywordEach [] X.env)).all (fun x => x.1.isSome)
    && decide (([e, f] : List Expr).length + ([] : List Keyword).length + (if ([] : List Keyword).isEmpty then 0 else 1) < 30)) = true
  line : (apos.endLine == cpos.line) = true
  trees : backTo cpos (starEach [e, f] X.env) = [(false, eval e X.env), (false, eval f X.env)]

/-- a is a dict, whatever its keys -/
def IsD (H : Hp) (a : Addr) : Prop := (∃ kvs, Rd H a (.dK kvs)) ∨ ∃ kvs, Rd H a (.dT kvs)
theorem isD_at {X : Cx} {pins : List (Addr × Obj)} {σ : St} {H : Hp} {s : Shared} {a : Addr} (I : Inv X pins σ H s) (d : IsD H a) :
    s.TypeIs (.ref a) "dict" ∧ (∀ b, Value.ref a = .ref b → ∃ ob, s.heap.get? b = some ob ∧ ob.dict = none) ∧ (a == sysModules) = false := by
  rcases d with ⟨kvs, e⟩ | ⟨kvs, e⟩
  · obtain ⟨_, hd, vs, _, dd⟩ := dk_rd I.hok e
    refine ⟨dd.typeIs, fun b q => ?_, hd⟩
    cases q
    obtain ⟨ob, _, _, h1, h2, _⟩ := dd
    exact ⟨ob, h1, h2.2.1⟩
  · obtain ⟨_, hd, xs, _, dd⟩ := dt_rd I.hok e
    refine ⟨dd.typeIs, fun b q => ?_, hd⟩
    cases q
    obtain ⟨ob, _, _, h1, h2, _⟩ := dd
    exact ⟨ob, h1, h2.2.1⟩

section
variable {X : Cx} {pins : List (Addr × Obj)} {σ : St} {H : Hp} {s : Shared} {a : Addr} {y d : V} {u r : Value} {o : Option V} {A : Around} {E : Value → Shared → Prop}
/-- d.get(y, x) -/
theorem d_get2 {Q : Value → Shared → Prop} (hu : A.units + 1 < cLine) (I : Inv X pins σ H s) (g : DGet H a y o) (ry : RelV y u) (rd : RelV d r) (h : ∀ w' s', Inv X pins σ H s' → RelV (o.getD d) w' → Q w' s') :
    wpAny (model X.prog X.w) A (call (.builtin "dict.get") [.ref a, u, r]) Q E s := by
  rcases g with ⟨kvs, k, e, ey, l⟩ | ⟨kvs, k, b, e, ey, eb, l⟩
  · subst ey
    obtain ⟨z, hd, vs, rel, dd⟩ := dk_rd I.hok e
    refine call_meetsIn PySem.F.slot_dict_get dd.typeIs PySem.F.entry_dict_get (PySem.F.args_dict_get_3 _ _ _) (meets_dict_get_default (mixKind X.prog X.w) a (kV_is ry) hd r) ⟨_, dd.mapOf, h _ _ (I.tok _) ?_⟩
    rw [l]
    exact (rel.val k).getD rd
  · subst ey
    cases (show u = Value.ref b from ry)
    obtain ⟨z, hd, xs, rel, dd⟩ := dt_rd I.hok e
    refine call_meetsIn PySem.F.slot_dict_get dd.typeIs PySem.F.entry_dict_get (PySem.F.args_dict_get_3 _ _ _) (meetsH_dict_get_default (tupleKind (mixKind X.prog X.w)) a b hd r) ⟨tupleKind_room_in1 hu, k, xs, key_of I.hok eb, dd, h _ _ (I.tok _) ?_⟩
    rw [l]
    exact (rel.val k).getD rd
end

def tDGet2 (td ty tx : TE) : TE := fun σ H Q => td σ H fun x H1 => ∃ a, x = .ref a ∧ IsD H1 a ∧ ty σ H1 fun y H2 => tx σ H2 fun z H3 => ∃ o, DGet H3 a y o ∧ Q (o.getD z) H3
section
variable {X : Cx} {o e f : Expr} {apos cpos : Pos} {td ty tx : TE}
theorem pe_dget2 (hu : X.A.units + 1 < cLine) (ho : PE X o td) (he : PE X e ty) (hf : PE X f tx) (m : M2 X o "get" apos e f cpos) : PE X (.Call (.Attribute o "get" apos) [e, f] [] cpos) (tDGet2 td ty tx) := by
  intro pins s σ H Q I h
  refine wpAny_Call_method m.base m.few m.line PySem.F.plainAttrs_dict PySem.F.slot_dict_get PySem.F.type_dict_get (thn (ho pins s σ H _ I h) fun u s1 ⟨x, H1, I1, rx, a, ex, d, q1⟩ => ?_)
  subst ex
  obtain rfl : u = Value.ref a := rx
  obtain ⟨t1, t2, _⟩ := isD_at I1 d
  refine ⟨t1, t2, ?_⟩
  rw [m.trees]
  refine Calls.callWith_builtin rfl (Calls.evalArgs_plain (Calls.spliced_cons (thn (he pins s1 σ H1 _ I1 q1) fun iv s2 ⟨y, H2, I2, ry, q2⟩ =>
    Calls.spliced_cons (thn (hf pins s2 σ H2 _ I2 q2) fun fv s3 ⟨z, H3, I3, rz, ov, g, q3⟩ => Calls.spliced_nil ?_))))
  exact d_get2 hu I3 g ry rz fun w' s4 I4 rw' => ⟨_, H3, I4, rw', q3⟩
end

/-! ### dict(d): a copy -/
section
variable {X : Cx} {pins : List (Addr × Obj)} {σ : St} {H : Hp} {s : Shared} {a : Addr} {kvs : List (Key × V)} {A : Around} {E : Value → Shared → Prop}
end


section
variable {X : Cx} {pins : List (Addr × Obj)} {σ : St} {H : Hp} {s : Shared} {a : Addr} {y : V} {u : Value} {A : Around} {E : Value → Shared → Prop}
end
end L2

set_option Elab.async false
set_option linter.all false
set_option maxRecDepth 100000
set_option maxHeartbeats 4000000
namespace L2
open PySem PySem.Spec PyProof.Rows

theorem OpR.imp {X : Cx} {f : Value → Value → Sem Value} {r r' : R2} (h : OpR X f r) (i : ∀ x y H Q, r' x y H Q → r x y H Q) : OpR X f r' :=
  fun pins s σ H x y v u Q I rx ry q => h pins s σ H x y v u Q I rx ry (i x y H Q q)
theorem CallR.imp {X : Cx} {f : Value} {r r' : List V → Hp → VK → Prop} (h : CallR X f r) (i : ∀ xs H Q, r' xs H Q → r xs H Q) : CallR X f r' :=
  fun pins s σ H xs us Q I rs q => h pins s σ H xs us Q I rs (i xs H Q q)
/-- by what stands in the slot -/
def tV (i : Nat) : TE := fun σ H Q => match σ[i]? with
  | some (some v) => Q v H
  | _ => False
theorem vr {X : Cx} (i : Nat) {x : Str} {pos : Pos} (hN : X.N[i]? = some x := by rfl) (hv : Vis X.env.scope x := by first | exact Or.inl rfl | exact Or.inr (Or.inl rfl) | exact Or.inr (Or.inr rfl)) (hd : (x == ("__debug__" : Str)) = false := by decide)
    (hcd : (x == ("__classdict__" : Str)) = false := by decide) : PE X (.Name x pos) (tV i) := fun pins s σ H Q I h => by
  refine pe_var hN hv hd hcd pins s σ H Q I ?_
  unfold tV at h
  split at h
  · rename_i v e
    exact ⟨v, e, h⟩
  · exact h.elim

/-! ### operations, read by the values' shapes -/
def rI2 (g : Int → Int → V) : R2 := fun x y H Q => match x, y with
  | .int i, .int j => Q (g i j) H
  | _, _ => False
def rIC (C : Int → Int → Prop) (g : Int → Int → V) : R2 := fun x y H Q => match x, y with
  | .int i, .int j => C i j ∧ Q (g i j) H
  | _, _ => False
theorem OpR.i2 {X : Cx} {f : Value → Value → Sem Value} {g : Int → Int → V} (h : OpR X f (rI0 g)) : OpR X f (rI2 g) := h.imp fun x y H Q q => by
  cases x <;> cases y <;> first | exact ⟨_, _, rfl, rfl, q⟩ | exact (show False from q).elim
theorem OpR.ic {X : Cx} {f : Value → Value → Sem Value} {C : Int → Int → Prop} {g : Int → Int → V} (h : OpR X f (rI C g)) : OpR X f (rIC C g) := h.imp fun x y H Q q => by
  cases x <;> cases y <;> first | exact ⟨_, _, rfl, rfl, q.1, q.2⟩ | exact (show False from q).elim
section
variable {X : Cx}
def rAddM : R2 := fun x y H Q => match x, y with
  | .int i, .int j => Q (.int (i + j)) H
  | .str i, .str j => i.length + j.length ≤ sizeLine ∧ Q (.str (i ++ j)) H
  | _, _ => False
theorem o_add : OpR X (binaryOp .Add) rAddM := (op_add.or op_add_str).imp fun x y H Q q => by
  cases x <;> cases y <;> first | exact .inl ⟨_, _, rfl, rfl, q⟩ | exact .inr ⟨_, _, rfl, rfl, q.1, q.2⟩ | exact (show False from q).elim
theorem o_sub : OpR X (binaryOp .Sub) (rI2 fun i j => .int (i - j)) := op_sub.i2
def CPos (i j : Int) : Prop := 0 < j
def CNn (i j : Int) : Prop := 0 ≤ j
theorem cp {i j : Int} (h : 0 < j := by decide) : CPos i j := h
theorem cn {i j : Int} (h : 0 ≤ j := by decide) : CNn i j := h
theorem cd {i j : Int} (h : 0 < j := by decide) (h2 : j < 1073741824 := by decide) : CDiv i j := ⟨h, h2⟩
theorem cw {i j : Int} (h : 0 ≤ j := by decide) (h2 : j ≤ 1000000 := by decide) (h3 : i.natAbs < 2 ^ 64 := by decide) : CPow i j := ⟨h, h2, h3⟩
theorem cl {i j : Int} (h : -(2 ^ 64) < i := by decide) (h2 : i < 2 ^ 64 := by decide) : CMul i j := .inl ⟨h, h2⟩
theorem cr {i j : Int} (h : -(2 ^ 64) < j := by decide) (h2 : j < 2 ^ 64 := by decide) : CMul i j := .inr ⟨h, h2⟩
theorem o_mod : OpR X (binaryOp .Mod) (rIC CPos fun i j => .int (i % j)) := op_mod.ic
theorem o_pow : OpR X (binaryOp .Pow) (rIC CPow fun i j => .int (i ^ j.toNat)) := op_pow.ic
theorem o_shr : OpR X (binaryOp .RShift) (rIC CNn fun i j => .int (i / 2 ^ j.toNat)) := op_shr.ic
theorem op_le_str : OpR X (compareOp .LtE) (fun x y H Q => ∃ i j, x = .str i ∧ y = .str j ∧ Q (.bl (!decide (j.cps.toList < i.cps.toList))) H) := by
  intro pins s σ H x y v u Q I rx ry h
  obtain ⟨i, j, rfl, rfl, q⟩ := h
  obtain ⟨t, rfl⟩ := rx
  obtain ⟨t', rfl⟩ := ry
  exact PySem.P.le_str (fin_bl I q rfl)
def rCmpM (f : Int → Int → Bool) (g : Str → Str → Bool) : R2 := fun x y H Q => match x, y with
  | .int i, .int j => Q (.bl (f i j)) H
  | .str i, .str j => Q (.bl (g i j)) H
  | _, _ => False
theorem o_lt : OpR X (compareOp .Lt) (rCmpM (fun i j => decide (i < j)) fun i j => decide (i.cps.toList < j.cps.toList)) := (op_lt.or op_lt_str).imp fun x y H Q q => by
  cases x <;> cases y <;> first | exact .inl ⟨_, _, rfl, rfl, q⟩ | exact .inr ⟨_, _, rfl, rfl, q⟩ | exact (show False from q).elim
theorem o_le : OpR X (compareOp .LtE) (rCmpM (fun i j => decide (i ≤ j)) fun i j => !decide (j.cps.toList < i.cps.toList)) := (op_le.or op_le_str).imp fun x y H Q q => by
  cases x <;> cases y <;> first | exact .inl ⟨_, _, rfl, rfl, q⟩ | exact .inr ⟨_, _, rfl, rfl, q⟩ | exact (show False from q).elim
theorem o_gt : OpR X (compareOp .Gt) (rI2 fun i j => .bl (decide (j < i))) := op_gt.i2
theorem o_ge : OpR X (compareOp .GtE) (rI2 fun i j => .bl (decide (j ≤ i))) := op_ge.i2
/-- == of two values without objects; the deep one is o_eqD -/
def rEqM (neg : Bool) : R2 := fun x y H Q => match x, y with
  | .int i, .int j => Q (.bl (if neg then !decide (i = j) else decide (i = j))) H
  | .str i, .str j => Q (.bl (if neg then !decide (i = j) else decide (i = j))) H
  | .bl i, .bl j => Q (.bl (if neg then !decide (i = j) else decide (i = j))) H
  | .non, .non => Q (.bl (!neg)) H
  | .non, .int _ => Q (.bl neg) H
  | .non, .str _ => Q (.bl neg) H
  | .non, .bl _ => Q (.bl neg) H
  | .int _, .non => Q (.bl neg) H
  | .str _, .non => Q (.bl neg) H
  | .bl _, .non => Q (.bl neg) H
  | .int _, .str _ => Q (.bl neg) H
  | .str _, .int _ => Q (.bl neg) H
  | _, _ => False
theorem o_eq : OpR X (compareOp .Eq) (rEqM false) := op_eq.imp fun x y H Q q => by
  cases x <;> cases y <;> first | exact (show False from q).elim | (refine ⟨rfl, ?_⟩; revert q; simp [rEqM])
theorem o_ne : OpR X (compareOp .NotEq) (rEqM true) := op_ne.imp fun x y H Q q => by
  cases x <;> cases y <;> first | exact (show False from q).elim | (refine ⟨rfl, ?_⟩; revert q; simp [rEqM])
def rU1 (g : Int → V) : V → Hp → VK → Prop := fun x H Q => match x with
  | .int i => Q (g i) H
  | _ => False
theorem u_neg : UnR X (unaryOp .USub) (rU1 fun i => .int (-i)) := fun pins s σ H x v Q I r q => un_neg pins s σ H x v Q I r (by
  cases x <;> first | exact ⟨_, rfl, q⟩ | exact (show False from q).elim)
/-! ### truths -/
def mB (Q : Bool → Hp → Prop) : VK := fun x H => match x with
  | .bl c => Q c H
  | _ => False
variable {a b c : Expr} {ta tb tc : TE} {pos : Pos} {rest : List Expr}
def mAnd (ta tb : TE) : TE := fun σ H Q => ta σ H (mB fun c H1 => if c = true then tb σ H1 Q else Q (.bl false) H1)
def mNot (ta : TE) : TE := fun σ H Q => ta σ H (mB fun c H1 => Q (.bl (!c)) H1)
theorem mB_iff {Q : Bool → Hp → Prop} {x : V} {H : Hp} (h : mB Q x H) : ∃ c, x = .bl c ∧ Q c H := by
  cases x <;> first | exact ⟨_, rfl, h⟩ | exact (show False from h).elim
theorem m_and (ha : PE X a ta) (hb : PE X (.BoolOp .And (b :: rest) pos) tb) : PE X (.BoolOp .And (a :: b :: rest) pos) (mAnd ta tb) := by
  intro pins s σ H Q I h
  refine BoolOp_and (thn (ha pins s σ H _ I h) fun v s1 ⟨x, H1, I1, r1, q1⟩ => ?_)
  obtain ⟨c, rfl, q1⟩ := mB_iff q1
  cases r1
  refine wpAny_truthy_bool ?_
  cases c with
  | true => exact hb pins s1 σ H1 Q I1 q1
  | false => exact ⟨.bl false, H1, I1, rfl, q1⟩
theorem m_not (ha : PE X a ta) : PE X (.UnaryOp .Not a pos) (mNot ta) := by
  intro pins s σ H Q I h
  refine UnaryOp_ (thn (ha pins s σ H _ I h) fun v s1 ⟨x, H1, I1, r1, q1⟩ => ?_)
  obtain ⟨c, rfl, q1⟩ := mB_iff q1
  cases r1
  exact not_of (wpAny_truthy_bool ⟨.bl (!c), H1, I1, rfl, q1⟩)
/-- a test that is a bool's expression -/
def mT (t : TE) : TT := fun σ H Q => t σ H (mB Q)
theorem t_val (h : PE X a ta) (he : ∀ whole, isTrue a X.env whole = (do let v ← whole; standAt a.pos; holding [v] (truthy v)) := by intro _; rfl) : PT X a (mT ta) := by
  intro pins s σ H Q I hw
  refine isTrue_plain (thn (h pins s σ H _ I hw) fun v s1 ⟨x, H1, I1, r1, q1⟩ => ?_) (he _)
  obtain ⟨d, rfl, q⟩ := mB_iff q1
  cases r1
  exact wpAny_truthy_bool ⟨H1, I1, q⟩
theorem t_cmp {op : CmpOp} {r : R2} (ho : OpR X (compareOp op) r) (ha : PE X a ta) (hb : PE X b tb) (hm : behindInMarks op b = false) : PT X (.Compare a [op] [b] pos) (mT (tOp r ta tb)) := by
  intro pins s σ H Q I h
  refine wpAny_isTrue_Compare1 (thn (ha pins s σ H _ I h) fun v s1 ⟨x, H1, I1, r1, q1⟩ => thn (hb pins s1 σ H1 _ I1 q1) fun u s2 ⟨y, H2, I2, r2, q2⟩ =>
    thn (ho pins s2 σ H2 x y v u _ I2 r1 r2 q2) fun c s3 ⟨z, H3, I3, r3, q3⟩ => ?_) hm
  obtain ⟨k, rfl, q3⟩ := mB_iff q3
  cases r3
  exact wpAny_truthy_bool ⟨H3, I3, q3⟩
def mChain (r r' : R2) (ta tb tc : TE) : TE := fun σ H Q => ta σ H fun x H1 => tb σ H1 fun y H2 => r x y H2 (mB fun k H3 => if k = true then tc σ H3 fun w' H4 => r' y w' H4 Q else Q (.bl false) H3)
theorem m_chain {op op' : CmpOp} {r r' : R2} (ho : OpR X (compareOp op) r) (ho' : OpR X (compareOp op') r') (ha : PE X a ta) (hb : PE X b tb) (hc : PE X c tc)
    (hm : lastMarks [op, op'] [b, c] = false := by with_unfolding_all rfl) : PE X (.Compare a [op, op'] [b, c] pos) (mChain r r' ta tb tc) := by
  intro pins s σ H Q I h
  refine Compare_chain (thn (ha pins s σ H _ I h) fun v s1 ⟨x, H1, I1, r1, q1⟩ => chain_link (thn (hb pins s1 σ H1 _ I1 q1) fun u s2 ⟨y, H2, I2, r2, q2⟩ =>
    thn (ho pins s2 σ H2 x y v u _ I2 r1 r2 q2) fun d s3 ⟨z, H3, I3, r3, q3⟩ => ?_)) hm
  obtain ⟨k, rfl, q3⟩ := mB_iff q3
  cases r3
  refine wpAny_truthy_bool ?_
  cases k with
  | false => exact ite_ff ⟨.bl false, H3, I3, rfl, q3⟩
  | true => exact ite_tt (chain_last (thn (hc pins s3 σ H3 _ I3 q3) fun w' s4 ⟨z', H4, I4, r4, q4⟩ => ho' pins s4 σ H4 y z' u w' Q I4 r2 r4 q4))
/-! ### isinstance -/
open PySem.W in
theorem kit_of {pins : List (Addr × Obj)} {σ : St} {H : Hp} {s : Shared} {x : V} {u t : Value} (I : Inv X pins σ H s) (rx : RelV x u) (ty : TyOf X.K H x t) :
    ∃ Hh : Heap → Prop, KitX X.K u t Hh ∧ Hh s.heap ∧ u ≠ .builtin "__main__.__loader__#opaque" := by
  cases ty with
  | non => cases (show u = Value.none from rx); exact ⟨_, PySem.W.kitx_none, True.intro, fun z => nomatch z⟩
  | bl y => cases (show u = Value.bool y from rx); exact ⟨_, PySem.W.kitx_bool, True.intro, fun z => nomatch z⟩
  | int i => obtain ⟨t, q⟩ := (show ∃ t, u = Value.int i t from rx); cases q; exact ⟨_, PySem.W.kitx_int, True.intro, fun z => nomatch z⟩
  | str y => obtain ⟨t, q⟩ := (show ∃ t, u = Value.str y t from rx); cases q; exact ⟨_, PySem.W.kitx_str, True.intro, fun z => nomatch z⟩
  | flt y => obtain ⟨t, q⟩ := (show ∃ t, u = Value.float y t from rx); cases q; exact ⟨_, PySem.W.kitx_float, True.intro, fun z => nomatch z⟩
  | @lst a xs ea =>
    cases (show u = Value.ref a from rx)
    obtain ⟨_, _, n, _, h1⟩ := (show ObjOk X.prog X.w H s.heap a (.lst xs) from I.hok a _ ea)
    exact ⟨_, PySem.W.kitx_list, ⟨_, h1, rfl⟩, fun z => nomatch z⟩
  | @frz a ob xs ea =>
    cases (show u = Value.ref a from rx)
    obtain ⟨_, _, _, n, _, h1⟩ := (show ObjOk X.prog X.w H s.heap a (.frz ob (.lst xs)) from I.hok a _ ea)
    exact ⟨_, PySem.W.kitx_list, ⟨_, h1, rfl⟩, fun z => nomatch z⟩
  | @tup a xs ea =>
    cases (show u = Value.ref a from rx)
    obtain ⟨_, _, _, p⟩ := (show ObjOk X.prog X.w H s.heap a (.tup xs) from I.hok a _ ea)
    obtain ⟨o, h1, h2, _⟩ := p
    exact ⟨_, PySem.W.kitx_tuple, ⟨o, h1, h2⟩, fun z => nomatch z⟩
  | @dK a kvs ea =>
    cases (show u = Value.ref a from rx)
    obtain ⟨_, _, vs, _, p⟩ := (show ObjOk X.prog X.w H s.heap a (.dK kvs) from I.hok a _ ea)
    obtain ⟨o, es, ep, h1, h2, _⟩ := p
    exact ⟨_, PySem.W.kitx_dict, ⟨o, h1, h2.1⟩, fun z => nomatch z⟩
  | @dT a kvs ea =>
    cases (show u = Value.ref a from rx)
    obtain ⟨_, _, xs, _, o, es, ep, h1, h2, _⟩ := (show ObjOk X.prog X.w H s.heap a (.dT kvs) from I.hok a _ ea)
    exact ⟨_, PySem.W.kitx_dict, ⟨o, h1, h2.1⟩, fun z => nomatch z⟩
  | @ins a C dx fs ea cl ha hn htk hm =>
    cases (show u = Value.ref a from rx)
    obtain ⟨mA, O, _⟩ := ins_get I.hok ea
    obtain ⟨od, J, _⟩ := O.look
    exact ⟨_, PySem.W.kitx_own (cl.get _) cl.hd ha hn htk hm, J, fun z => nomatch z⟩
def cVal : V → Value
  | .ty n => .type n
  | .ref a => .ref a
  | _ => .none
def isCls : V → Bool
  | .ty _ => true
  | .ref _ => true
  | _ => false
theorem cVal_of {c : V} {u : Value} (h : isCls c = true) (r : RelV c u) : u = cVal c := by
  cases c <;> first | exact r | exact absurd (show false = true from h) Bool.false_ne_true
/-- isinstance(x, C): the type of x, then kitOne's answer -/
def rIsi (K : PySem.W.Frag) : List V → Hp → VK → Prop := fun xs H Q => ∃ x c t b, xs = [x, c] ∧ isCls c = true ∧ TyOf K H x t ∧ PySem.W.kitOne K t (cVal c) = some b ∧ Q (.bl b) H
theorem call_isi : CallR X (.builtin "isinstance") (rIsi X.K) := by
  intro pins s σ H xs us Q I r h
  obtain ⟨x, c, t, b, rfl, hc, ty, e, q⟩ := h
  obtain ⟨u, w', rfl, rx, rc⟩ := vals2 r
  cases cVal_of hc rc
  obtain ⟨Hh, Z, p, hx⟩ := kit_of I rx ty
  exact PySem.W.kia_one Z I.kIn p e hx fun tk => ⟨.bl b, H, I.tok tk, rfl, q⟩

/-! ### all -/
/-! ### x in range(a, b) -/
end
end L2

set_option Elab.async false
set_option linter.all false
set_option maxRecDepth 100000
set_option maxHeartbeats 4000000
namespace L2
open PySem PySem.Spec PyProof.Rows

theorem and_if {Q : V → Prop} {p r : Prop} [Decidable p] [Decidable r] (q : Q (.bl (decide (p ∧ r)))) : if decide p = true then Q (.bl (decide r)) else Q (.bl false) := by
  by_cases h : p
  · rw [if_pos (decide_eq_true h)]
    have e : decide (p ∧ r) = decide r := by by_cases z : r <;> simp [h, z]
    rw [← e]; exact q
  · rw [if_neg (fun z => h (of_decide_eq_true z))]
    have e : decide (p ∧ r) = false := decide_eq_false fun z => h z.1
    rw [← e]; exact q
theorem ifP {c : Prop} [Decidable c] {A B : Prop} (hc : c) (h : A) : if decide c = true then A else B := by rw [if_pos (decide_eq_true hc)]; exact h
theorem ifN {c : Prop} [Decidable c] {A B : Prop} (hc : ¬ c) (h : B) : if decide c = true then A else B := by rw [if_neg (fun z => hc (of_decide_eq_true z))]; exact h
theorem ifC {c : Prop} [Decidable c] {A B : Prop} (h1 : c → A) (h2 : ¬ c → B) : if decide c = true then A else B := by
  by_cases h : c
  · exact ifP h (h1 h)
  · exact ifN h (h2 h)
theorem ifB {b : Bool} {A B : Prop} (h1 : b = true → A) (h2 : b = false → B) : if b = true then A else B := by
  cases b with
  | true => rw [if_pos rfl]; exact h1 rfl
  | false => rw [if_neg Bool.false_ne_true]; exact h2 rfl
theorem bt_len : bootBuiltins "len" = some (.builtin "len") := by decide +kernel
theorem bt_isinstance : bootBuiltins "isinstance" = some (.builtin "isinstance") := by decide +kernel
theorem bt_min : bootBuiltins "min" = some (.builtin "min") := by decide +kernel
theorem bt_max : bootBuiltins "max" = some (.builtin "max") := by decide +kernel
theorem bt_enumerate : bootBuiltins "enumerate" = some (.type "enumerate") := by decide +kernel
theorem bt_zip : bootBuiltins "zip" = some (.type "zip") := by decide +kernel
theorem bt_int : bootBuiltins "int" = some (.type "int") := by decide +kernel
theorem bt_bool : bootBuiltins "bool" = some (.type "bool") := by decide +kernel
theorem bt_list : bootBuiltins "list" = some (.type "list") := by decide +kernel
theorem bt_tuple : bootBuiltins "tuple" = some (.type "tuple") := by decide +kernel
theorem pe_gl {X : Cx} {x : Str} {v : V} {pos : Pos} (hg : Gl X x) (h : ∃ u, X.mg x = some u ∧ RelV v u) (hd : (x == ("__debug__" : Str)) = false := by decide) : PE X (.Name x pos) (tC v) :=
  let ⟨_, e, r⟩ := h
  pe_glob hg e r hd

/-- what a loop walks, by the value -/
def iAny (K : PySem.W.Frag) (tl : TE) : TI := fun σ H R => tl σ H fun x H1 => match x with
  | .str z => R (Its z) H1
  | .ref a => ((∃ xs, SqL K H1 a xs) ∧ R (Itl K a) H1) ∨ ((∃ xs, SqT K H1 a xs) ∧ R (Itt K a) H1)
  | _ => False
theorem pi_any {X : Cx} {tg l : Expr} {tl : TE} (hl : PE X l tl) : PI X tg l (iAny X.K tl) := by
  intro pins s σ H R I h
  have hl1 : PE X l tl := hl
  refine thn (hl pins s σ H _ I h) fun v s1 ⟨x, H1, I1, r1, q1⟩ => ?_
  cases x with
  | str z =>
    have := pi_str (X := X) (tg := tg) (l := l) (tl := tC (.str z)) 
    obtain ⟨t, rfl⟩ := r1
    refine wpAny_pyIter_strU ?_
    refine ⟨s1.heap.objs.size, [s1.heap.objs.size], _, _, H1, rfl, I1.kept (t' := s1.toks) fun b o e => Heap.get?_push_of_some _ e, turn_str (ty := strIterType z) (t := t) z _ ?_, ⟨_, Heap.get?_push_size _ rfl, rfl, rfl⟩, fun b hb => ?_, q1⟩
    · unfold strIterType
      split
      · exact .inl rfl
      · exact .inr rfl
    · have e : b = s1.heap.objs.size := by simpa using hb
      subst e
      exact I1.fpOk (Nat.le_refl _) (I1.hok.fresh (Nat.le_refl _))
  | ref a =>
    cases r1
    rcases q1 with ⟨⟨xs, hq⟩, q⟩ | ⟨⟨xs, hq⟩, q⟩
    · obtain ⟨its, rv, p, hz⟩ := I1.list hq
      refine wpAny_pyIter_list p.isList ?_
      refine ⟨s1.heap.objs.size, [s1.heap.objs.size], _, _, H1, rfl, I1.kept (t' := s1.toks) fun b o e => Heap.get?_push_of_some _ e, turn_list a _, ⟨_, Heap.get?_push_size _ rfl, rfl, rfl⟩, fun b hb => ?_, q⟩
      have e : b = s1.heap.objs.size := by simpa using hb
      subst e
      exact I1.fpOk (Nat.le_refl _) (I1.hok.fresh (Nat.le_refl _))
    · obtain ⟨its, rv, p, hz⟩ := I1.tuple hq
      refine wpAny_pyIter_tuple (show s1.heap.IsTuple a its.toArray from p) ?_
      refine ⟨s1.heap.objs.size, [s1.heap.objs.size], _, _, H1, rfl, I1.kept (t' := s1.toks) fun b o e => Heap.get?_push_of_some _ e, turn_tuple a _, ⟨_, Heap.get?_push_size _ rfl, rfl, rfl⟩, fun b hb => ?_, q⟩
      have e : b = s1.heap.objs.size := by simpa using hb
      subst e
      exact I1.fpOk (Nat.le_refl _) (I1.hok.fresh (Nat.le_refl _))
  | _ => exact (show False from q1).elim

theorem call_lenM {X : Cx} : CallR X (.builtin "len") (fun xs H Q => match xs with
    | [.str z] => z.length ≤ sizeLine ∧ Q (.int z.length) H
    | [.ref p] => ∃ ys, (SqL X.K H p ys ∨ SqT X.K H p ys) ∧ Q (.int ys.length) H
    | _ => False) := (call_len_str.or call_len_seq).imp fun xs H Q q => by
  match xs, q with
  | [.str z], q => exact .inl ⟨z, rfl, q.1, q.2⟩
  | [.ref p], q => obtain ⟨ys, h, q⟩ := q; exact .inr ⟨p, ys, rfl, h, q⟩

/-! ### a comprehension, by what it walks -/
section
variable {D : Addr} {σb : St} {g : TG} {tt : TT} {te : TE} {Q : Hp → List V → Prop} {H : Hp} {K : PySem.W.Frag}
/-- what one turn asks -/
def CompT (D : Addr) (σb : St) (g : TG) (tt : TT) (te : TE) (x : V) (ys : List V) (H : Hp) (P : List V → Hp → Prop) : Prop :=
  g x σb H fun σ4 H4 => Wk σb σ4 ∧ tt σ4 H4 fun b H5 => if b = true then te σ4 H5 fun y H6 => H6 D = some (.lst ys) ∧ ys.length < sizeLine ∧ P (ys ++ [y]) (upd H6 D (.lst (ys ++ [y]))) else P ys H5
theorem comp_list {a : Addr} {xs : List V} (Pv : Nat → List V → Hp → Prop) (h0 : Pv 0 [] H) (hq : ∀ i ys H, Pv i ys H → SqL K H a xs) (hl : ∀ i ys H, Pv i ys H → H D = some (.lst ys))
    (hs : ∀ (i : Nat) x ys H P, xs[i]? = some x → Pv i ys H → (∀ a b, Pv (i + 1) a b → P a b) → CompT D σb g tt te x ys H P) (hd : ∀ ys H, Pv xs.length ys H → Q H ys) : ∃ W, (∃ m, W 0 m [] H) ∧ CompW (Itl K a) D σb g tt te Q W := by
  refine ⟨fun i m ys H => m = xs.length - i ∧ i ≤ xs.length ∧ Pv i ys H, ⟨_, rfl, Nat.zero_le _, h0⟩, ?_⟩
  rintro i m ys H ⟨rfl, hi, p⟩
  refine ⟨hl i ys H p, ?_⟩
  have q := hq i ys H p
  by_cases hlt : i < xs.length
  · refine .inr ⟨⟨xs, xs[i], q, by simp [hlt]⟩, fun x H3 y => ?_⟩
    obtain ⟨rfl, y⟩ := y
    exact hs i x ys _ (fun a b => ∃ m', m' < xs.length - i ∧ m' = xs.length - (i + 1) ∧ i + 1 ≤ xs.length ∧ Pv (i + 1) a b) (y xs q) p (fun a b q => ⟨xs.length - (i + 1), by omega, rfl, hlt, q⟩)
  · have e : i = xs.length := by omega
    subst e
    exact .inl ⟨⟨xs, q, Nat.le_refl _⟩, hd ys H p⟩
theorem comp_rng {lo : Int} {n : Nat} (Pv : Nat → List V → Hp → Prop) (h0 : Pv 0 [] H) (hl : ∀ i ys H, Pv i ys H → H D = some (.lst ys))
    (hs : ∀ (i : Nat) ys H P, i < n → Pv i ys H → (∀ a b, Pv (i + 1) a b → P a b) → CompT D σb g tt te (.int (lo + i)) ys H P) (hd : ∀ ys H, Pv n ys H → Q H ys) : ∃ W, (∃ m, W 0 m [] H) ∧ CompW (Itr lo n) D σb g tt te Q W := by
  refine ⟨fun i m ys H => m = n - i ∧ i ≤ n ∧ Pv i ys H, ⟨_, rfl, Nat.zero_le _, h0⟩, ?_⟩
  rintro i m ys H ⟨rfl, hi, p⟩
  refine ⟨hl i ys H p, ?_⟩
  by_cases hlt : i < n
  · refine .inr ⟨hlt, fun x H3 y => ?_⟩
    obtain ⟨rfl, rfl⟩ := y
    exact hs i ys _ (fun a b => ∃ m', m' < n - i ∧ m' = n - (i + 1) ∧ i + 1 ≤ n ∧ Pv (i + 1) a b) hlt p (fun a b q => ⟨n - (i + 1), by omega, rfl, hlt, q⟩)
  · have e : i = n := by omega
    subst e
    exact .inl ⟨Nat.le_refl _, hd ys H p⟩
end

/-! ### heaps that have grown -/
theorem Same.new {H : Hp} {p : Addr} {o : HO} (h : H p = none) : Same H (upd H p o) := fun b u e => by rw [upd_ne (ne_of_none e h)]; exact e
theorem Same.sqT {K : PySem.W.Frag} {H H' : Hp} {a : Addr} {xs : List V} (e : Same H H') (h : SqT K H a xs) : SqT K H' a xs := by
  rcases h with (h | ⟨o, h⟩) | h
  · exact .inl (.inl (e _ _ h))
  · exact .inl (.inr ⟨o, e _ _ h⟩)
  · exact .inr h
/-! ### deep data -/
mutual
def DV (K : PySem.W.Frag) (H : Hp) : PyData → V → Prop
  | .none, x => x = .non
  | .bool b, x => x = .bl b
  | .int i, x => x = .int i
  | .str z, x => x = .str z
  | .list ds, x => ∃ a xs, x = .ref a ∧ SqL K H a xs ∧ DVs K H ds xs
  | .tuple ds, x => ∃ a xs, x = .ref a ∧ SqT K H a xs ∧ DVs K H ds xs
  | .dict _, _ => False
def DVs (K : PySem.W.Frag) (H : Hp) : List PyData → List V → Prop
  | [], xs => xs = []
  | d :: ds, xs => ∃ y ys, xs = y :: ys ∧ DV K H d y ∧ DVs K H ds ys
end
mutual
theorem DV.same {K : PySem.W.Frag} {H H' : Hp} (e : Same H H') : ∀ {d : PyData} {x : V}, DV K H d x → DV K H' d x
  | .none, x, h => by simpa [DV] using h
  | .bool b, x, h => by simpa [DV] using h
  | .int i, x, h => by simpa [DV] using h
  | .str z, x, h => by simpa [DV] using h
  | .list ds, x, h => by
    rw [DV] at h ⊢
    obtain ⟨a, xs, h1, h2, h3⟩ := h
    exact ⟨a, xs, h1, e.seq h2, DVs.same e h3⟩
  | .tuple ds, x, h => by
    rw [DV] at h ⊢
    obtain ⟨a, xs, h1, h2, h3⟩ := h
    exact ⟨a, xs, h1, e.sqT h2, DVs.same e h3⟩
  | .dict _, x, h => by rw [DV] at h; exact h.elim
theorem DVs.same {K : PySem.W.Frag} {H H' : Hp} (e : Same H H') : ∀ {ds : List PyData} {xs : List V}, DVs K H ds xs → DVs K H' ds xs
  | [], xs, h => by simpa [DVs] using h
  | d :: ds, xs, h => by
    rw [DVs] at h ⊢
    obtain ⟨y, ys, h1, h2, h3⟩ := h
    exact ⟨y, ys, h1, DV.same e h2, DVs.same e h3⟩
end
section
variable {X : Cx} {pins : List (Addr × Obj)} {σ : St} {H : Hp} {s : Shared}
mutual
theorem DV.reads (I : Inv X pins σ H s) : ∀ {d : PyData} {x : V} {u : Value}, DV X.K H d x → RelV x u → ∃ as, Reads s.heap u d as
  | .none, x, u, h, r => by
    rw [DV] at h; subst h; cases r; exact ⟨_, .none⟩
  | .bool b, x, u, h, r => by
    rw [DV] at h; subst h; cases r; exact ⟨_, .bool b⟩
  | .int i, x, u, h, r => by
    rw [DV] at h; subst h; obtain ⟨t, rfl⟩ := r; exact ⟨_, .int i t⟩
  | .str z, x, u, h, r => by
    rw [DV] at h; subst h; obtain ⟨t, rfl⟩ := r; exact ⟨_, .str z t⟩
  | .list ds, x, u, h, r => by
    rw [DV] at h
    obtain ⟨a, xs, rfl, h2, h3⟩ := h
    cases r
    obtain ⟨its, rv, ⟨o, n, e, c, _, d⟩, _⟩ := I.list h2
    obtain ⟨as, q⟩ := DVs.reads I h3 rv
    exact ⟨_, .list e c d (by simpa using q)⟩
  | .tuple ds, x, u, h, r => by
    rw [DV] at h
    obtain ⟨a, xs, rfl, h2, h3⟩ := h
    cases r
    obtain ⟨its, rv, ⟨o, e, c, n, d⟩, _⟩ := I.tuple h2
    obtain ⟨as, q⟩ := DVs.reads I h3 rv
    exact ⟨_, .tuple e c d (by simpa using q)⟩
  | .dict _, x, u, h, r => by rw [DV] at h; exact h.elim
theorem DVs.reads (I : Inv X pins σ H s) : ∀ {ds : List PyData} {xs : List V} {us : List Value}, DVs X.K H ds xs → Vals xs us → ∃ as, ReadsAll s.heap us ds as
  | [], xs, us, h, r => by
    rw [DVs] at h; subst h; cases r; exact ⟨_, .nil⟩
  | d :: ds, xs, us, h, r => by
    rw [DVs] at h
    obtain ⟨y, ys, rfl, h2, h3⟩ := h
    cases r with
    | cons r rs =>
      obtain ⟨as, q⟩ := DV.reads I h2 r
      obtain ⟨bs, p⟩ := DVs.reads I h3 rs
      exact ⟨_, .cons q p⟩
end
end
/-- == of data, whatever its depth -/
def rEqD (K : PySem.W.Frag) (neg : Bool) : R2 := fun x y H Q => ∃ d e, DV K H d x ∧ DV K H e y ∧ SeqAt.shaped d = true ∧ SeqAt.shaped e = true ∧ Q (.bl (if neg then !PyData.eqv d e else PyData.eqv d e)) H
theorem o_eqD {X : Cx} (hu : X.A.units + 64 < cLine) : OpR X (compareOp .Eq) (rEqD X.K false) := by
  intro pins s σ H x y v u Q I rx ry h
  obtain ⟨d, e, h1, h2, s1, s2, q⟩ := h
  obtain ⟨as, ra⟩ := h1.reads I rx
  obtain ⟨bs, rb⟩ := h2.reads I ry
  exact eq_dataH ra rb s1 s2 hu ⟨.bl _, H, I, rfl, q⟩
theorem o_neD {X : Cx} (hu : X.A.units + 64 < cLine) : OpR X (compareOp .NotEq) (rEqD X.K true) := by
  intro pins s σ H x y v u Q I rx ry h
  obtain ⟨d, e, h1, h2, s1, s2, q⟩ := h
  obtain ⟨as, ra⟩ := h1.reads I rx
  obtain ⟨bs, rb⟩ := h2.reads I ry
  exact ne_dataH ra rb s1 s2 hu ⟨.bl _, H, I, rfl, q⟩
end L2

set_option Elab.async false
set_option linter.all false
set_option maxRecDepth 100000
set_option maxHeartbeats 4000000
namespace L2
open PySem PySem.Spec PyProof.Rows

/-! ### texts: slices, methods, numbers -/
section
variable {X : Cx}
theorem SlR.imp {r r' : V → Option Int → Option Int → Hp → VK → Prop} (h : SlR X r) (i : ∀ x lo hi H Q, r' x lo hi H Q → r x lo hi H Q) : SlR X r' :=
  fun pins s σ H x v vl vu lo hi sl Q I rx hs pl pu q => h pins s σ H x v vl vu lo hi sl Q I rx hs pl pu (i x lo hi H Q q)
theorem MtR.imp {id : String} {r r' : V → List V → Hp → VK → Prop} (h : MtR X id r) (i : ∀ x xs H Q, r' x xs H Q → r x xs H Q) : MtR X id r' :=
  fun pins s σ H x xs v us Q I rx rs q => h pins s σ H x xs v us Q I rx rs (i x xs H Q q)
/-- t.startswith(u) -/
def rStarts : V → List V → Hp → VK → Prop := fun x xs H Q => match x, xs with
  | .str z, [.str y] => Q (.bl (Txt.startswith z y)) H
  | _, _ => False
theorem mt_starts : MtR X "str.startswith" rStarts := by
  intro pins s σ H x xs v us Q I rx rs q
  match x, xs, q with
  | .str z, [.str y], q =>
    obtain ⟨t, rfl⟩ := rx
    obtain ⟨u, rfl, t', rfl⟩ := vals1 rs
    exact SC.startswith ⟨.bl _, H, I, rfl, q⟩
variable {o e : Expr} {es : List Expr} {to : TE} {t : TA} {apos cpos : Pos}
theorem pe_m.startswith (ho : PE X o to) (ha : PA X (e :: es) t)
    (hbase : attributeBase o "startswith" X.env (eval o X.env) = eval o X.env := by rfl)
    (hfew : ((backTo cpos (starEach (e :: es) X.env)).all (fun x => !x.1) && (backToKw cpos (keywordEach [] X.env)).all (fun x => x.1.isSome)
      && decide ((e :: es).length + ([] : List Keyword).length + (if ([] : List Keyword).isEmpty then 0 else 1) < 30)) = true := by rfl)
    (hline : (apos.endLine == cpos.line) = true := by rfl) (hs : starEach (e :: es) X.env = (false, eval e X.env) :: starEach es X.env := by rfl) (hplain : (backTo cpos (starEach es X.env)).any (·.1) = false := by rfl) :
    PE X (.Call (.Attribute o "startswith" apos) (e :: es) [] cpos) (tBM X.K "str" rStarts to t) := pe_bm F.plainAttrs_str F.slot_str_startswith F.type_str_startswith mt_starts ho ha hbase hfew hline hs hplain
end
end L2

set_option Elab.async false
set_option linter.all false
set_option maxRecDepth 100000
set_option maxHeartbeats 4000000
namespace L2
open PySem PySem.Spec PyProof.Rows
/-! ### joins: what holds behind a part, said once -/
section
variable {X : Cx} {st : Stmt} {rest : List Stmt} {t u : TS} {e : Expr} {te : TE} {tt : TT}
def tSeqM (t u : TS) : TS := fun D σ H => ∃ M : St → Hp → Prop, t { D with nx := M } σ H ∧ ∀ σ' H', M σ' H' → u D σ' H'
theorem pss_consM (h1 : PS X st t) (h2 : PSs X rest u) : PSs X (st :: rest) (tSeqM t u) := by
  intro pins s σ H D I h
  obtain ⟨M, h, hm⟩ := h
  refine wpAny_execs_cons (thn (h1 pins s σ H { D with nx := M } I h) fun f s1 q => ?_)
  cases f with
  | next =>
    obtain ⟨σ', H', I', q⟩ := q
    exact h2 pins s1 σ' H' D I' (hm _ _ q)
  | ret v => exact q
  | brk => exact q
  | cont => exact q
end
end L2

set_option Elab.async false
set_option linter.all false
set_option maxRecDepth 100000
set_option maxHeartbeats 4000000
namespace L2
open PySem PySem.Spec PyProof.Rows
/-! ### iterators of several records; enumerate, zip -/
section
variable {X : Cx} {pins : List (Addr × Obj)} {σ : St} {H : Hp} {s : Shared} {h' : Heap}
/-- records of ours have turned, a thing may have been laid -/
theorem Inv.turnedNew {t' : Nat} {ch : List Addr} {a : Addr} {o : HO} (I : Inv X pins σ H s) (k : ∀ b u, b ∉ ch → s.heap.get? b = some u → h'.get? b = some u) (hf : ∀ b ∈ ch, FpOk X pins H b)
    (ha : s.heap.objs.size ≤ a) (new : ObjOk X.prog X.w (upd H a o) h' a o) : Inv X pins σ (upd H a o) { s with heap := h', toks := t' } := by
  have hna : H a = none := I.hok.fresh ha
  have nch : ∀ b u, H b = some u → b ∉ ch := fun b u e z => by
    rw [(hf b z).1] at e
    cases e
  have nea : ∀ b u, H b = some u → b ≠ a := fun b u e z => by
    rw [z, hna] at e
    cases e
  have old : ∀ b u, s.heap.get? b = some u → b ≠ a := fun b u e => Nat.ne_of_lt (Nat.lt_of_lt_of_le (Heap.lt_size e) ha)
  refine I.step (g' := s.gens) (d' := s.drawn) (ch := ch) (fun b hb => ?_) (fun b u _ _ hc e _ => k b u hc e) (fun b u _ _ hc e _ => ⟨u.slots, k b u hc e⟩) (fun b u _ e n => ?_) (fun b u hc e => ⟨u, k b u hc e⟩)
    (fun b xs e => ?_) (fun b u v e => ?_) (fun b ps e => ⟨#[], ?_⟩) (fun m hm => ?_) (fun b u e => ?_) I.bare
  · obtain ⟨_, f1, _, f3, f4, f5⟩ := hf b hb
    exact ⟨f3, f1, f4, f5⟩
  · rw [upd_ne (old b u e)]; exact n
  · rw [upd_ne (nea b _ e)]; exact e
  · rw [upd_ne (nea b _ e)]; exact e
  · rw [upd_ne (nea b _ e), e]; simp
  · obtain ⟨ob, es, ep, ho, r⟩ := hm
    exact ⟨ob, es, ep, k _ ob (fun z => (hf _ z).2.1 rfl) ho, r⟩
  · by_cases hb : b = a
    · subst hb
      rw [upd_same] at e
      cases e
      exact new
    · rw [upd_ne hb] at e
      refine (I.hok b u e).stay (fun c v hc q => k c v ?_ q) (fun c q => ?_) fun c xs q => ?_
      · rcases hc with z | z
        · rw [z]; exact nch b u e
        · exact nch c _ z
      · rw [upd_ne (nea c _ q)]; exact q
      · rw [upd_ne (nea c _ q)]; exact q
theorem Inv.turnedN {t' : Nat} {ch : List Addr} (I : Inv X pins σ H s) (k : ∀ b u, b ∉ ch → s.heap.get? b = some u → h'.get? b = some u) (hf : ∀ b ∈ ch, FpOk X pins H b) : Inv X pins σ H { s with heap := h', toks := t' } := by
  have nch : ∀ b u, H b = some u → b ∉ ch := fun b u e z => by
    rw [(hf b z).1] at e
    cases e
  refine I.step (g' := s.gens) (d' := s.drawn) (ch := ch) (fun b hb => ?_) (fun b u _ _ hc e _ => k b u hc e) (fun b u _ _ hc e _ => ⟨u.slots, k b u hc e⟩) (fun b u _ e n => n) (fun b u hc e => ⟨u, k b u hc e⟩)
    (fun b xs e => e) (fun b u v e => e) (fun b ps e => ⟨#[], by rw [e]; simp⟩) (fun m hm => ?_) (fun b u e => ?_) I.bare
  · obtain ⟨_, f1, _, f3, f4, f5⟩ := hf b hb
    exact ⟨f3, f1, f4, f5⟩
  · obtain ⟨ob, es, ep, ho, r⟩ := hm
    exact ⟨ob, es, ep, k _ ob (fun z => (hf _ z).2.1 rfl) ho, r⟩
  · refine (I.hok b u e).stay (fun c v hc q => k c v ?_ q) (fun c q => q) fun c xs q => q
    rcases hc with z | z
    · rw [z]; exact nch b u e
    · exact nch c _ z
end
/-- (i, the item) of the tracked list at a -/
def Ite (a : Addr) : It := ⟨fun i H => ∃ xs x, H a = some (.lst xs) ∧ xs[i]? = some x,
  fun i H x H' => ∃ p y, H p = none ∧ x = .ref p ∧ (∀ xs, H a = some (.lst xs) → xs[i]? = some y) ∧ H' = upd H p (.tup [.int (i : Nat), y]), fun i H => ∃ xs, H a = some (.lst xs) ∧ xs.length ≤ i⟩
theorem turn_enum {P : Program} {w : World} {K : PySem.W.Frag} {es : List Expr} {k : Nat} {pos : Pos} (a e it : Addr) (hne : e ≠ it) :
    Turn P w K (.Tuple es k pos) (Ite a) [e, it] e (fun i h => (∃ old, IsEnum h e it i old) ∧ h.IsListIter it a i) where
  mem := by simp
  obj := fun i h st b hb => by
    obtain ⟨⟨old, he⟩, o, h1, h2, h3⟩ := st
    rcases List.mem_cons.mp hb with rfl | hb
    · exact ⟨_, he, fun v z => by cases z⟩
    · rw [List.mem_singleton.mp hb]
      exact ⟨o, h1, fun v z => by rw [h3] at z; cases z⟩
  keep := fun i h h' st kp => by
    obtain ⟨⟨old, he⟩, o, h1, r⟩ := st
    exact ⟨⟨old, kp e (by simp) _ he⟩, o, kp it (by simp) o h1, r⟩
  item := by
    intro X hP hw hK hc i pins s σ H E I hf st hg
    subst hP hw hK
    obtain ⟨⟨old, he⟩, hit⟩ := st
    obtain ⟨xs, x, hl, hx⟩ := hg
    obtain ⟨z, its, n, r, hlen, eo⟩ := I.lstM hl
    obtain ⟨u, hu, ru⟩ := Vals.get r hx
    have hil : s.heap.IsList a its.toArray := ⟨_, eo, rfl, _, rfl⟩
    refine wpAny_pyNext_enum_item he hit hil (x := u) (by simpa using hu) hne fun h1 e1 e2 e3 e4 e5 => ?_
    refine ⟨_, rfl, wpAny_letOwnedTupleGo_enum e1 fun h2 e6 sb => ?_⟩
    have hps : s.heap.objs.size ≠ e := fun q => absurd (Heap.lt_size he) (by rw [← q]; exact Nat.lt_irrefl _)
    have hpi : s.heap.objs.size ≠ it := fun q => by
      obtain ⟨o, ho, _⟩ := hit
      exact absurd (Heap.lt_size ho) (by rw [← q]; exact Nat.lt_irrefl _)
    have hn : H s.heap.objs.size = none := I.hok.fresh (Nat.le_refl _)
    have e3' : h2.get? s.heap.objs.size = some { cls := .type "tuple", data := .seq #[.int i s.toks, u] } := (sb.2 _ hps).trans e3
    have J : Inv X pins σ (upd H s.heap.objs.size (.tup [.int (i : Nat), x])) { s with heap := h2, toks := s.toks + 1 } := by
      refine I.turnedNew (ch := [e, it]) (fun b o hb q => ?_) hf (Nat.le_refl _) ⟨by rw [sizeLine_eq]; show 2 ≤ 16777216; decide, [.int i s.toks, u], .cons ⟨_, rfl⟩ (.cons ru .nil), _, e3', rfl, 0, rfl⟩
      have b1 : b ≠ e := fun z => hb (by simp [z])
      have b2 : b ≠ it := fun z => hb (by simp [z])
      exact (sb.2 b b1).trans (e5 b o b1 b2 q)
    refine ⟨.ref s.heap.objs.size, _, J, rfl, ⟨s.heap.objs.size, x, hn, rfl, fun ys hy => ?_, rfl⟩, ⟨⟨u, ?_⟩, ?_⟩, fun b hb => ?_⟩
    · rw [hl] at hy
      cases hy
      exact hx
    · have e6' : IsEnum h2 e it ((i : Int) + 1) u := e6
      have e7 : ((i + 1 : Nat) : Int) = (i : Int) + 1 := by omega
      rw [e7]
      exact e6'
    · obtain ⟨o, ho, r⟩ := e2
      exact ⟨o, (sb.2 it (Ne.symm hne)).trans ho, r⟩
    · have hb' : b ≠ s.heap.objs.size := by
        rcases List.mem_cons.mp hb with rfl | hb
        · exact hps.symm
        · rw [List.mem_singleton.mp hb]; exact hpi.symm
      rw [upd_ne hb']
      exact (hf b hb).1
  done := by
    intro X hP hw hK hc i pins s σ H E I hf st hg
    subst hP hw hK
    obtain ⟨⟨old, he⟩, hit⟩ := st
    obtain ⟨xs, hl, hx⟩ := hg
    obtain ⟨z, its, n, r, hlen, eo⟩ := I.lstM hl
    have hil : s.heap.IsList a its.toArray := ⟨_, eo, rfl, _, rfl⟩
    refine wpAny_pyNext_enum_end (I.ok.hd hc) he hit hil (by simp; omega) fun h1 eb => ⟨rfl, I.turnedN (ch := [e, it]) (t' := s.toks) (fun b o hb q => eb b o (fun z => hb (by simp [z])) q) hf⟩
  self := fun _ _ _ _ _ st h => by
    obtain ⟨⟨old, he⟩, _⟩ := st
    exact wpAny_pyIter_enum he h
def iEnum (ta : TA) : TI := fun σ H R => ta σ H fun vs H1 => ∃ a xs, vs = [.ref a] ∧ H1 a = some (.lst xs) ∧ R (Ite a) H1
theorem pi_enum {X : Cx} {es : List Expr} {k : Nat} {tpos : Pos} {e : Expr} {ta : TA} {p pos : Pos} (hg : Gl X "enumerate") (hm : X.mg "enumerate" = none) (ha : PA X [e] ta) (hs : starEach [e] X.env = [(false, eval e X.env)] := by rfl) :
    PI X (.Tuple es k tpos) (.Call (.Name "enumerate" p) [e] [] pos) (iEnum ta) := by
  intro pins s σ H R I h
  refine wpAny_Call_Name_kw (ld_blt I hg hm bt_enumerate ?_ (by decide) (by decide))
  refine PyProof.Rows.callWith_type1 (thn (ha pos pins s σ H _ I h) fun us s1 ⟨vs, H1, I1, r1, a, xs, e1, hl, q⟩ => ?_) hs rfl
  subst e1
  obtain ⟨u, rfl, ru⟩ := vals1 r1
  cases ru
  obtain ⟨z, its, n, r, hlen, eo⟩ := I1.lstM hl
  refine call_enumerate_1 (n := n) eo fun h2 e1 e2 e3 e4 => ?_
  have I2 : Inv X pins σ H1 { s1 with heap := h2 } := I1.kept (t' := s1.toks) e4
  have hne : s1.heap.objs.size + 1 ≠ s1.heap.objs.size := Nat.succ_ne_self _
  refine wpAny_pyIter_enum e1 ?_
  refine ⟨s1.heap.objs.size + 1, [s1.heap.objs.size + 1, s1.heap.objs.size], _, _, H1, rfl, I2, turn_enum a _ _ hne, ⟨⟨_, e1⟩, e2⟩, fun b hb => ?_, q⟩
  have hb' : s1.heap.objs.size ≤ b := by
    rcases List.mem_cons.mp hb with rfl | hb
    · omega
    · rw [List.mem_singleton.mp hb]
      exact Nat.le_refl _
  exact I1.fpOk hb' (I1.hok.fresh hb')
/-- over enumerate(xs), the list stays -/
theorem for_enum {a : Addr} {xs : List V} {g : TG} {tb : TS} {D : Ends} {σ : St} {H : Hp} (Pv : Nat → St → Hp → Prop) (h0 : Pv 0 σ H) (hl : ∀ i σ H, Pv i σ H → H a = some (.lst xs))
    (hs : ∀ (i : Nat) x σ H p, xs[i]? = some x → Pv i σ H → H p = none → g (.ref p) σ (upd H p (.tup [.int (i : Nat), x])) fun σ2 H2 => tb { D with nx := Pv (i + 1), ct := Pv (i + 1), bk := D.nx } σ2 H2) (hd : ∀ σ H, Pv xs.length σ H → D.nx σ H) :
    ∃ W : Nat → Nat → St → Hp → Prop, (∃ m, W 0 m σ H) ∧ ∀ i m σ H, W i m σ H →
      ((Ite a).stop i H ∧ D.nx σ H) ∨ ((Ite a).go i H ∧ ∃ N : St → Hp → Prop, (∀ σ' H', N σ' H' → ∃ m', m' < m ∧ W (i + 1) m' σ' H') ∧ ∀ x H', (Ite a).yld i H x H' → g x σ H' fun σ2 H2 => tb { D with nx := N, ct := N, bk := D.nx } σ2 H2) := by
  refine ⟨fun i m σ H => m = xs.length - i ∧ i ≤ xs.length ∧ Pv i σ H, ⟨_, rfl, Nat.zero_le _, h0⟩, ?_⟩
  rintro i m σ H ⟨rfl, hi, p⟩
  have q := hl i σ H p
  by_cases hlt : i < xs.length
  · refine .inr ⟨⟨xs, xs[i], q, by simp [hlt]⟩, Pv (i + 1), fun σ' H' p' => ⟨_, by omega, rfl, hlt, p'⟩, fun x H' y => ?_⟩
    obtain ⟨b, v, hb, rfl, hv, rfl⟩ := y
    exact hs i v σ H b (hv xs q) p hb
  · have e : i = xs.length := by omega
    subst e
    exact .inl ⟨⟨xs, q, Nat.le_refl _⟩, hd σ H p⟩
theorem comp_enum {D : Addr} {σb : St} {g : TG} {tt : TT} {te : TE} {Q : Hp → List V → Prop} {H : Hp} {a : Addr} {xs : List V} (Pv : Nat → List V → Hp → Prop) (h0 : Pv 0 [] H) (hq : ∀ i ys H, Pv i ys H → H a = some (.lst xs)) (hl : ∀ i ys H, Pv i ys H → H D = some (.lst ys))
    (hs : ∀ (i : Nat) x ys H p P, xs[i]? = some x → Pv i ys H → H p = none → (∀ a b, Pv (i + 1) a b → P a b) → CompT D σb g tt te (.ref p) ys (upd H p (.tup [.int (i : Nat), x])) P) (hd : ∀ ys H, Pv xs.length ys H → Q H ys) : ∃ W, (∃ m, W 0 m [] H) ∧ CompW (Ite a) D σb g tt te Q W := by
  refine ⟨fun i m ys H => m = xs.length - i ∧ i ≤ xs.length ∧ Pv i ys H, ⟨_, rfl, Nat.zero_le _, h0⟩, ?_⟩
  rintro i m ys H ⟨rfl, hi, p⟩
  refine ⟨hl i ys H p, ?_⟩
  have q := hq i ys H p
  by_cases hlt : i < xs.length
  · refine .inr ⟨⟨xs, xs[i], q, by simp [hlt]⟩, fun x H3 y => ?_⟩
    obtain ⟨b, v, hb, rfl, hv, rfl⟩ := y
    exact hs i v ys H b (fun a b => ∃ m', m' < xs.length - i ∧ m' = xs.length - (i + 1) ∧ i + 1 ≤ xs.length ∧ Pv (i + 1) a b) (hv xs q) p hb fun a b r => ⟨_, by omega, rfl, hlt, r⟩
  · have e : i = xs.length := by omega
    subst e
    exact .inl ⟨⟨xs, q, Nat.le_refl _⟩, hd ys H p⟩
/-- pairs of the items of the tracked lists at a and b -/
def Itz (a b : Addr) : It := ⟨fun i H => ∃ xs ys x y, H a = some (.lst xs) ∧ H b = some (.lst ys) ∧ xs[i]? = some x ∧ ys[i]? = some y,
  fun i H v H' => ∃ p x y, H p = none ∧ v = .ref p ∧ (∀ xs, H a = some (.lst xs) → xs[i]? = some x) ∧ (∀ ys, H b = some (.lst ys) → ys[i]? = some y) ∧ H' = upd H p (.tup [x, y]),
  fun i H => ∃ xs ys, H a = some (.lst xs) ∧ H b = some (.lst ys) ∧ (xs.length ≤ i ∨ ys.length ≤ i)⟩
theorem turn_zip {P : Program} {w : World} {K : PySem.W.Frag} {es : List Expr} {k : Nat} {pos : Pos} (a b z TI TO i1 i2 : Addr) (nd : [z, TI, TO, i1, i2].Nodup) :
    Turn P w K (.Tuple es k pos) (Itz a b) [z, TI, TO, i1, i2] z (fun i h => IsZip h z TI TO .none ∧ IsPair h TI (.ref i1) (.ref i2) ∧ (∃ u v, IsPair h TO u v) ∧ h.IsListIter i1 a i ∧ h.IsListIter i2 b i) := by
  have n1 : TI ≠ z := fun e => by simp [e] at nd
  have n2 : TO ≠ z := fun e => by simp [e] at nd
  have n3 : i1 ≠ z := fun e => by simp [e] at nd
  have n4 : i2 ≠ z := fun e => by simp [e] at nd
  have n5 : TI ≠ TO := fun e => by simp [e] at nd
  have n6 : TI ≠ i1 := fun e => by simp [e] at nd
  have n7 : TI ≠ i2 := fun e => by simp [e] at nd
  have n8 : TO ≠ i1 := fun e => by simp [e] at nd
  have n9 : TO ≠ i2 := fun e => by simp [e] at nd
  have n0 : i1 ≠ i2 := fun e => by simp [e] at nd
  have apart : ∀ {H : Hp} {xs ys : List V}, (∀ c ∈ [z, TI, TO, i1, i2], H c = none) → H a = some (.lst xs) → H b = some (.lst ys) → ZipApart z TI TO i1 i2 a b := fun {H xs ys} hf ha hb =>
    ⟨n1, n2, n3, n4, n5, n6, n7, n8, n9, n0, ne_of_none ha (hf z (by simp)), ne_of_none ha (hf TO (by simp)), ne_of_none ha (hf i1 (by simp)), ne_of_none ha (hf i2 (by simp)),
      ne_of_none hb (hf z (by simp)), ne_of_none hb (hf TO (by simp)), ne_of_none hb (hf i1 (by simp)), ne_of_none hb (hf i2 (by simp))⟩
  refine { mem := by simp, obj := ?_, keep := ?_, item := ?_, done := ?_, self := ?_ }
  · rintro i h ⟨h1, h2, ⟨u, v, h3⟩, ⟨o4, h4, _, d4⟩, ⟨o5, h5, _, d5⟩⟩ c hc
    simp only [List.mem_cons, List.not_mem_nil, or_false] at hc
    rcases hc with rfl | rfl | rfl | rfl | rfl
    · exact ⟨_, h1, fun v z => by cases z⟩
    · exact ⟨_, h2, fun v z => by cases z⟩
    · exact ⟨_, h3, fun v z => by cases z⟩
    · exact ⟨_, h4, fun v z => by rw [d4] at z; cases z⟩
    · exact ⟨_, h5, fun v z => by rw [d5] at z; cases z⟩
  · rintro i h h' ⟨h1, h2, ⟨u, v, h3⟩, ⟨o4, h4, r4⟩, ⟨o5, h5, r5⟩⟩ kp
    exact ⟨kp z (by simp) _ h1, kp TI (by simp) _ h2, ⟨u, v, kp TO (by simp) _ h3⟩, ⟨o4, kp i1 (by simp) _ h4, r4⟩, ⟨o5, kp i2 (by simp) _ h5, r5⟩⟩
  · intro X hP hw hK hc i pins s σ H E I hf st hg
    subst hP hw hK
    obtain ⟨h1, h2, ⟨u, v, h3⟩, h4, h5⟩ := st
    obtain ⟨xs, ys, x, y, ha, hb, hx, hy⟩ := hg
    obtain ⟨_, its, n, r, hlen, eo⟩ := I.lstM ha
    obtain ⟨_, its2, m, r2, hlen2, eo2⟩ := I.lstM hb
    obtain ⟨ux, hux, rux⟩ := Vals.get r hx
    obtain ⟨uy, huy, ruy⟩ := Vals.get r2 hy
    have hn : H s.heap.objs.size = none := I.hok.fresh (Nat.le_refl _)
    have new : ∀ c ∈ [z, TI, TO, i1, i2], c ≠ s.heap.objs.size := fun c hc q => by
      have : ∃ o, s.heap.get? c = some o := by
        simp only [List.mem_cons, List.not_mem_nil, or_false] at hc
        obtain ⟨o4, h4, _⟩ := h4
        obtain ⟨o5, h5, _⟩ := h5
        rcases hc with rfl | rfl | rfl | rfl | rfl
        · exact ⟨_, h1⟩
        · exact ⟨_, h2⟩
        · exact ⟨_, h3⟩
        · exact ⟨_, h4⟩
        · exact ⟨_, h5⟩
      obtain ⟨o, ho⟩ := this
      exact absurd (Heap.lt_size ho) (by rw [q]; exact Nat.lt_irrefl _)
    refine wpAny_pyNext_zip_item (apart (fun c hc => (hf c hc).1) ha hb) h1 h2 h3 h4 h5 (xs := its.toArray) (ys := its2.toArray) ⟨_, eo, rfl, _, rfl⟩ ⟨_, eo2, rfl, _, rfl⟩ (x := ux) (y := uy) (by simpa using hux) (by simpa using huy)
      fun h6 e1 e2 e3 e4 e5 e6 e7 => ?_
    refine ⟨_, rfl, wpAny_letOwnedTupleGo_zip e1 fun h7 e8 sb => ?_⟩
    have J : Inv X pins σ (upd H s.heap.objs.size (.tup [x, y])) { s with heap := h7 } := by
      refine I.turnedNew (t' := s.toks) (ch := [z, TI, TO, i1, i2]) (fun c o hc q => ?_) hf (Nat.le_refl _) ⟨by rw [sizeLine_eq]; show 2 ≤ 16777216; decide, [ux, uy], .cons rux (.cons ruy .nil), _, (sb.2 _ (new z (by simp)).symm).trans e5, rfl, 0, rfl⟩
      have c1 : c ≠ z := fun w => hc (by simp [w])
      exact (sb.2 c c1).trans (e7 c o c1 (fun w => hc (by simp [w])) (fun w => hc (by simp [w])) (fun w => hc (by simp [w])) q)
    refine ⟨.ref s.heap.objs.size, _, J, rfl, ⟨s.heap.objs.size, x, y, hn, rfl, fun xs' h => by rw [ha] at h; cases h; exact hx, fun ys' h => by rw [hb] at h; cases h; exact hy, rfl⟩, ⟨e8, ?_, ⟨ux, uy, ?_⟩, ?_, ?_⟩, fun c hc => ?_⟩
    · exact (sb.2 TI n1).trans (e7 TI _ n1 n5 n6 n7 h2)
    · exact (sb.2 TO n2).trans e2
    · obtain ⟨o, ho, q⟩ := e3
      exact ⟨o, (sb.2 i1 n3).trans ho, q⟩
    · obtain ⟨o, ho, q⟩ := e4
      exact ⟨o, (sb.2 i2 n4).trans ho, q⟩
    · rw [upd_ne (new c hc)]
      exact (hf c hc).1
  · intro X hP hw hK hc i pins s σ H E I hf st hg
    subst hP hw hK
    obtain ⟨h1, h2, ⟨u, v, h3⟩, h4, h5⟩ := st
    obtain ⟨xs, ys, ha, hb, hx⟩ := hg
    obtain ⟨_, its, n, r, hlen, eo⟩ := I.lstM ha
    obtain ⟨_, its2, m, r2, hlen2, eo2⟩ := I.lstM hb
    refine wpAny_pyNext_zip_end (I.ok.hd hc) (apart (fun c hc => (hf c hc).1) ha hb) h1 h2 h3 h4 h5 (xs := its.toArray) (ys := its2.toArray) ⟨_, eo, rfl, _, rfl⟩ ⟨_, eo2, rfl, _, rfl⟩ (by simp; omega) fun h6 e7 => ?_
    exact ⟨rfl, I.turnedN (t' := s.toks) (ch := [z, TI, TO, i1, i2]) (fun c o hc q => e7 c o (fun w => hc (by simp [w])) (fun w => hc (by simp [w])) (fun w => hc (by simp [w])) (fun w => hc (by simp [w])) q) hf⟩
  · exact fun _ _ _ _ _ st h => wpAny_pyIter_zip st.1 h
def iZip (ta : TA) : TI := fun σ H R => ta σ H fun vs H1 => ∃ a b xs ys, vs = [.ref a, .ref b] ∧ H1 a = some (.lst xs) ∧ H1 b = some (.lst ys) ∧ R (Itz a b) H1
theorem pi_zip {X : Cx} {es : List Expr} {k : Nat} {tpos : Pos} {e f : Expr} {ta : TA} {p pos : Pos} (hg : Gl X "zip") (hm : X.mg "zip" = none) (ha : PA X [e, f] ta) (hs : starEach [e, f] X.env = (false, eval e X.env) :: starEach [f] X.env := by rfl)
    (hpl : (backTo pos (starEach [f] X.env)).any (·.1) = false := by rfl) : PI X (.Tuple es k tpos) (.Call (.Name "zip" p) [e, f] [] pos) (iZip ta) := by
  intro pins s σ H R I h
  refine wpAny_Call_Name_kw (ld_blt I hg hm bt_zip ?_ (by decide) (by decide))
  refine PyProof.Rows.callWith_type1 (thn (ha pos pins s σ H _ I h) fun us s1 ⟨vs, H1, I1, r1, a, b, xs, ys, e1, hl, hl2, q⟩ => ?_) hs hpl
  subst e1
  obtain ⟨u, v, rfl, ru, rv⟩ := vals2 r1
  cases ru
  cases rv
  obtain ⟨_, its, n, r, hlen, eo⟩ := I1.lstM hl
  obtain ⟨_, its2, m, r2, hlen2, eo2⟩ := I1.lstM hl2
  refine call_zip_2 (xs := its.toArray) (ys := its2.toArray) ⟨_, eo, rfl, _, rfl⟩ ⟨_, eo2, rfl, _, rfl⟩ fun h2 e1 e2 e3 e4 e5 e6 e7 => ?_
  have I2 : Inv X pins σ H1 { s1 with heap := h2 } := I1.kept (t' := s1.toks) e7
  refine wpAny_pyIter_zip e1 ?_
  refine ⟨s1.heap.objs.size + 4, [s1.heap.objs.size + 4, s1.heap.objs.size + 2, s1.heap.objs.size + 3, s1.heap.objs.size, s1.heap.objs.size + 1], _, _, H1, rfl, I2, turn_zip a b _ _ _ _ _ (by simp), ⟨e1, e2, ⟨_, _, e3⟩, e4, e5⟩, fun c hc => ?_, q⟩
  have hc' : s1.heap.objs.size ≤ c := by
    simp only [List.mem_cons, List.not_mem_nil, or_false] at hc
    rcases hc with z | z | z | z | z <;> rw [z] <;> first | exact Nat.le_refl _ | exact Nat.le_add_right _ _
  exact I1.fpOk hc' (I1.hok.fresh hc')
theorem comp_zip {D : Addr} {σb : St} {g : TG} {tt : TT} {te : TE} {Q : Hp → List V → Prop} {H : Hp} {a b : Addr} {xs ys : List V} (he : xs.length = ys.length) (Pv : Nat → List V → Hp → Prop) (h0 : Pv 0 [] H) (hq : ∀ i zs H, Pv i zs H → H a = some (.lst xs) ∧ H b = some (.lst ys)) (hl : ∀ i zs H, Pv i zs H → H D = some (.lst zs))
    (hs : ∀ (i : Nat) x y zs H p P, xs[i]? = some x → ys[i]? = some y → Pv i zs H → H p = none → (∀ a b, Pv (i + 1) a b → P a b) → CompT D σb g tt te (.ref p) zs (upd H p (.tup [x, y])) P) (hd : ∀ zs H, Pv xs.length zs H → Q H zs) : ∃ W, (∃ m, W 0 m [] H) ∧ CompW (Itz a b) D σb g tt te Q W := by
  refine ⟨fun i m zs H => m = xs.length - i ∧ i ≤ xs.length ∧ Pv i zs H, ⟨_, rfl, Nat.zero_le _, h0⟩, ?_⟩
  rintro i m zs H ⟨rfl, hi, p⟩
  refine ⟨hl i zs H p, ?_⟩
  obtain ⟨q1, q2⟩ := hq i zs H p
  by_cases hlt : i < xs.length
  · refine .inr ⟨⟨xs, ys, xs[i], ys[i]'(by omega), q1, q2, by simp [hlt], by simp [show i < ys.length by omega]⟩, fun v H3 y => ?_⟩
    obtain ⟨c, x, y, hc, rfl, hx, hy, rfl⟩ := y
    exact hs i x y zs H c (fun a b => ∃ m', m' < xs.length - i ∧ m' = xs.length - (i + 1) ∧ i + 1 ≤ xs.length ∧ Pv (i + 1) a b) (hx xs q1) (hy ys q2) p hc fun a b r => ⟨_, by omega, rfl, hlt, r⟩
  · have e : i = xs.length := by omega
    subst e
    exact .inl ⟨⟨xs, ys, q1, q2, .inl (Nat.le_refl _)⟩, hd zs H p⟩
end L2

set_option Elab.async false
set_option linter.all false
set_option maxRecDepth 100000
set_option maxHeartbeats 4000000
namespace NumM
open PySem PySem.NumText

theorem toNat_ofNat {c : Nat} (h : c < 128) : (Char.ofNat c).toNat = c := by
  have : c.isValidChar := Or.inl (by omega)
  simp [Char.ofNat, this, Char.toNat, Char.ofNatAux]
theorem back {cs : List Nat} (h : AllDigits cs) : (cs.map Char.ofNat).map Char.toNat = cs := by
  rw [List.map_map]
  induction cs with
  | nil => rfl
  | cons c cs ih =>
    rw [List.map_cons, ih h.tail]
    have := h.head
    show (Char.ofNat c).toNat :: cs = _
    rw [toNat_ofNat (by omega)]
end NumM
namespace L2
open PySem PySem.Spec PyProof.Rows
def mixed (c k : Int) : Int := if c % 4 = 1 then c / 2 ^ (2 + 40 * k).toNat % 2 ^ (40 : Int).toNat else
  ((((c + 7919 * k) % 2147483647 * 48271 + k) % 2147483647) * ((((c + 7919 * k) % 2147483647 * 48271 + k) % 2147483647) + 7) % 2147483629) * (((((c + 7919 * k) % 2147483647 * 48271 + k) % 2147483647) * ((((c + 7919 * k) % 2147483647 * 48271 + k) % 2147483647) + 7) % 2147483629) + 3) % 2147483587
theorem mixed_bd (c k : Int) : 0 ≤ mixed c k ∧ mixed c k < 1099511627776 := by
  unfold mixed
  split
  · rw [show ((2 : Int) ^ (40 : Int).toNat) = 1099511627776 by decide]
    omega
  · generalize (((c + 7919 * k) % 2147483647 * 48271 + k) % 2147483647) * ((((c + 7919 * k) % 2147483647 * 48271 + k) % 2147483647) + 7) % 2147483629 = n
    generalize n * (n + 3) = m
    omega
def within (lo hi : Int) : Option Int → Option Int
  | some n => if lo ≤ n ∧ n ≤ hi then some n else none
  | none => none
def madeB (t S : Str) (m : Int) : Bool := decide (1 ≤ (t.cps.size : Int) ∧ (t.cps.size : Int) ≤ m) && t.cps.toList.all fun c => decide (c ∈ S.cps.toList)
end L2

set_option Elab.async false
set_option linter.all false
set_option maxRecDepth 100000
set_option maxHeartbeats 4000000
namespace SplM
open PySem
/-- the parts between the signs c -/
def splitC (c : Nat) : List Nat → List (List Nat)
  | [] => [[]]
  | a :: l => if a = c then [] :: splitC c l else match splitC c l with
    | [] => [[a]]
    | p :: r => (a :: p) :: r
/-- the parts with c between -/
def joinC (c : Nat) : List (List Nat) → List Nat
  | [] => []
  | [p] => p
  | p :: q :: r => p ++ c :: joinC c (q :: r)
theorem splitC_ne (c : Nat) : ∀ l, splitC c l ≠ []
  | [] => by simp [splitC]
  | a :: l => by
    unfold splitC
    split
    · exact List.cons_ne_nil _ _
    · split <;> exact List.cons_ne_nil _ _
theorem joinC_cons (c : Nat) (p : List Nat) {r : List (List Nat)} (h : r ≠ []) : joinC c (p :: r) = p ++ c :: joinC c r := by
  cases r with
  | nil => exact absurd rfl h
  | cons q r => rfl
theorem split_app (c : Nat) : ∀ (p l : List Nat), c ∉ p → splitC c (p ++ c :: l) = p :: splitC c l
  | [], l, _ => by simp [splitC]
  | a :: p, l, h => by
    have ha : a ≠ c := fun e => h (by rw [e]; exact List.mem_cons_self)
    have ih := split_app c p l fun z => h (List.mem_cons_of_mem _ z)
    rw [List.cons_append, splitC, if_neg ha, ih]
theorem split_free (c : Nat) : ∀ (p : List Nat), c ∉ p → splitC c p = [p]
  | [], _ => rfl
  | a :: p, h => by
    have ha : a ≠ c := fun e => h (by rw [e]; exact List.mem_cons_self)
    unfold splitC
    rw [if_neg ha, split_free c p fun z => h (List.mem_cons_of_mem _ z)]
theorem split_join (c : Nat) : ∀ (ps : List (List Nat)), ps ≠ [] → (∀ p ∈ ps, c ∉ p) → splitC c (joinC c ps) = ps
  | [], h, _ => absurd rfl h
  | [p], _, h => split_free c p (h p List.mem_cons_self)
  | p :: q :: r, _, h => by
    rw [joinC, split_app c p _ (h p List.mem_cons_self), split_join c (q :: r) (List.cons_ne_nil _ _) fun x hx => h x (List.mem_cons_of_mem _ hx)]
theorem join_split (c : Nat) : ∀ l, joinC c (splitC c l) = l
  | [] => rfl
  | a :: l => by
    have ih := join_split c l
    unfold splitC
    split
    · rename_i e
      rw [joinC_cons c [] (splitC_ne c l), ih, e]; rfl
    · cases hs : splitC c l with
      | nil => exact absurd hs (splitC_ne c l)
      | cons p r =>
        rw [hs] at ih
        show joinC c ((a :: p) :: r) = a :: l
        cases r with
        | nil => rw [← ih]; rfl
        | cons q r => rw [← ih]; rfl
theorem split_len (c : Nat) : ∀ l, (splitC c l).length ≤ l.length + 1
  | [] => Nat.le_refl _
  | a :: l => by
    have ih := split_len c l
    unfold splitC
    split
    · simp only [List.length_cons]; omega
    · cases hs : splitC c l with
      | nil => simp
      | cons q r => rw [hs] at ih; simp only [List.length_cons] at ih ⊢; omega
theorem codes_join (c : Nat) : ∀ ts : List Str, (Str.join ⟨#[c]⟩ ts).cps.toList = joinC c (ts.map fun t => t.cps.toList)
  | [] => rfl
  | [t] => rfl
  | t :: u :: r => by
    have ih := codes_join c (u :: r)
    show (t ++ (⟨#[c]⟩ : Str) ++ Str.join ⟨#[c]⟩ (u :: r)).cps.toList = _
    rw [Str.cps_append, Str.cps_append, Array.toList_append, Array.toList_append, ih]
    show t.cps.toList ++ [c] ++ _ = t.cps.toList ++ c :: _
    rw [List.append_assoc]; rfl
/-- t.split(c), by the codes -/
theorem codes_split (x : Str) (c : Nat) : (Txt.split x ⟨#[c]⟩).map (fun t => t.cps.toList) = splitC c x.cps.toList := by
  have h1 := StrLaws.join_split x ⟨#[c]⟩
  have h2 := StrLaws.split_free x c
  have hne : Txt.split x ⟨#[c]⟩ ≠ [] := by
    unfold Txt.split
    split
    · exact List.cons_ne_nil _ _
    · split
      · exact List.cons_ne_nil _ _
      · rw [StrLaws.partsBetween_eq]
        obtain ⟨p, r, e⟩ := StrLaws.partsFrom_ne x (⟨#[c]⟩ : Str).length 0 (Builtin.Str.occurrences x ⟨#[c]⟩ 0 x.length (x.length + 1))
        rw [e]; exact List.cons_ne_nil _ _
  have h3 := codes_join c (Txt.split x ⟨#[c]⟩)
  rw [h1] at h3
  rw [h3, split_join c _ (by simpa using hne) ?_]
  intro p hp
  obtain ⟨t, ht, rfl⟩ := List.mem_map.mp hp
  exact h2 t ht
end SplM
namespace L2
open PySem PySem.Spec PyProof.Rows
/-! ### join, split, fields of texts, truth, list methods -/
section
variable {X : Cx}
theorem vals_strs : ∀ {ts : List Str} {us : List Value}, Vals (ts.map V.str) us → StrsAre us ts
  | [], us, r => by
    rw [List.map_nil] at r
    cases r
    exact .nil
  | t :: ts, us, r => by
    rw [List.map_cons] at r
    cases r with
    | cons r1 r2 =>
      obtain ⟨k, rfl⟩ := r1
      exact .cons t k (vals_strs r2)
/-- sep.join(texts), of a list or a tuple -/
def rJoin (K : PySem.W.Frag) : V → List V → Hp → VK → Prop := fun x xs H Q => ∃ (z : Str) (p : Addr) (ts : List Str), x = .str z ∧ xs = [.ref p] ∧ (SqL K H p (ts.map V.str) ∨ SqT K H p (ts.map V.str)) ∧
  (ts.map (·.length)).sum + ts.length * z.length ≤ 16777216 ∧ Q (.str (Txt.join z ts)) H
theorem mt_join : MtR X "str.join" (rJoin X.K) := by
  intro pins s σ H x xs v us Q I rx rs h
  obtain ⟨z, p, ts, rfl, rfl, hp, hz, q⟩ := h
  obtain ⟨t, rfl⟩ := rx
  obtain ⟨u, rfl, ru⟩ := vals1 rs
  cases ru
  rcases hp with hp | hp
  · obtain ⟨its, r, pl, _⟩ := I.list hp
    exact join_list pl.isList (by simpa using vals_strs r) hz fun t' k => ⟨.str _, H, I.tok _, ⟨_, rfl⟩, q⟩
  · obtain ⟨its, r, pl, _⟩ := I.tuple hp
    exact join_tuple pl (by simpa using vals_strs r) hz fun t' k => ⟨.str _, H, I.tok _, ⟨_, rfl⟩, q⟩
theorem vals_of_strs : ∀ (l : List (Str × Tok)), Vals ((l.map (·.1)).map V.str) (strValues l)
  | [] => .nil
  | p :: l => .cons ⟨p.2, rfl⟩ (vals_of_strs l)
open Builtin.Str in
theorem split_new {P : Program} {w : World} {A : Around} {E : Value → Shared → Prop} {s : Shared} {x y : Str} {t u : Tok} {Q : Value → Shared → Prop} (hy : (y.length == 0) = false) (hx : x.length ≤ sizeLine)
    (hp : (partsBetween x (occurrences x y 0 x.length (x.length + 1)) y.length).length ≤ sizeLine)
    (h : ∀ (l : List (Str × Tok)) (k : Nat), l.map (·.1) = Txt.split x y → Q (.ref s.heap.objs.size) { s with heap := s.heap.push { cls := .type "list", data := .seq (strValues l).toArray }, toks := k }) :
    wpAny (model P w) A (call (.builtin "str.split") [.str x t, .str y u]) Q E s := by
  by_cases h1 : (decide (x.length < y.length) || decide (strKind x < strKind y)) = true
  · refine call_meets F.slot_str_split (typeIs_str s x t) F.entry_str_split (F.args_str_split_2 _ _) (meets_str_split_cannot_occur x y t u h1) ?_
    exact h [(x, t)] s.toks (by unfold Txt.split; rw [if_pos h1]; rfl)
  · have h1' := eq_false_of_ne_true h1
    by_cases h2 : (occurrences x y 0 x.length (x.length + 1)).isEmpty = true
    · refine call_meets F.slot_str_split (typeIs_str s x t) F.entry_str_split (F.args_str_split_2 _ _) (meets_str_split_not_found x y t u h1' hy h2) ?_
      exact h [(x, t)] s.toks (by unfold Txt.split; rw [if_neg h1, if_pos h2]; rfl)
    · have h2' := eq_false_of_ne_true h2
      refine call_meets F.slot_str_split (typeIs_str s x t) F.entry_str_split (F.args_str_split_2 _ _) (meets_str_split_sep x y t u h1' hy h2' hx hp) ?_
      have := h (numbered s.toks (partsBetween x (occurrences x y 0 x.length (x.length + 1)) y.length)) (s.toks + (partsBetween x (occurrences x y 0 x.length (x.length + 1)) y.length).length)
        ((numbered_texts _ _).trans (by unfold Txt.split; rw [if_neg h1, if_neg h2]))
      rw [← strsFrom_eq] at this
      exact this
/-- text.split(sign): a new list -/
def rSplit : V → List V → Hp → VK → Prop := fun x xs H Q => ∃ (z : Str) (c : Nat), x = .str z ∧ xs = [.str ⟨#[c]⟩] ∧ z.cps.size + 2 ≤ sizeLine ∧
  ∀ (l : Addr) (ts : List Str), H l = none → ts.map (fun t => t.cps.toList) = SplM.splitC c z.cps.toList → Q (.ref l) (upd H l (.lst (ts.map V.str)))
theorem mt_split : MtR X "str.split" rSplit := by
  intro pins s σ H x xs v us Q I rx rs h
  obtain ⟨z, c, rfl, rfl, hz, q⟩ := h
  obtain ⟨t, rfl⟩ := rx
  obtain ⟨u, rfl, t', rfl⟩ := vals1 rs
  have hs : (Txt.split z ⟨#[c]⟩).length ≤ sizeLine := by
    have h1 := congrArg List.length (SplM.codes_split z c)
    have h2 := SplM.split_len c z.cps.toList
    rw [List.length_map] at h1
    simp only [Array.length_toList] at h2
    omega
  have hpl : (Builtin.Str.partsBetween z (Builtin.Str.occurrences z ⟨#[c]⟩ 0 z.length (z.length + 1)) (⟨#[c]⟩ : Str).length).length ≤ sizeLine := by
    have h1 := PySem.StrLaws.occ_length_le z ⟨#[c]⟩ 0 z.length (z.length + 1)
    rw [PySem.StrLaws.partsBetween_eq]
    have h3 : ∀ (cuts : List Nat) (a : Nat), (PySem.StrLaws.partsFrom z (⟨#[c]⟩ : Str).length a cuts).length = cuts.length + 1 := by
      intro cuts
      induction cuts with
      | nil => intro a; rfl
      | cons d cuts ih => intro a; show (_ :: _).length = _; rw [List.length_cons, ih]; rfl
    rw [h3]
    have h4 := PySem.StrLaws.occ_length_le_len z ⟨#[c]⟩ 0 z.length (z.length + 1)
    have e : z.length = z.cps.size := rfl
    omega
  refine split_new rfl (show z.cps.size ≤ sizeLine by omega) hpl fun l k e => ?_
  refine ⟨.ref s.heap.objs.size, _, I.lnew (t' := k) (ys := (l.map (·.1)).map V.str) (vals_of_strs l) (by rw [List.length_map, e]; exact hs), rfl, q _ _ (I.hok.fresh (Nat.le_refl _)) ?_⟩
  rw [e]
  exact SplM.codes_split z c

/-! fields of an f-string -/
variable {o e : Expr} {es : List Expr} {to : TE} {t : TA} {apos cpos : Pos}
theorem pe_m.join (ho : PE X o to) (ha : PA X (e :: es) t) (hbase : attributeBase o "join" X.env (eval o X.env) = eval o X.env := by rfl)
    (hfew : ((backTo cpos (starEach (e :: es) X.env)).all (fun x => !x.1) && (backToKw cpos (keywordEach [] X.env)).all (fun x => x.1.isSome) && decide ((e :: es).length + ([] : List Keyword).length + (if ([] : List Keyword).isEmpty then 0 else 1) < 30)) = true := by rfl)
    (hline : (apos.endLine == cpos.line) = true := by rfl) (hs : starEach (e :: es) X.env = (false, eval e X.env) :: starEach es X.env := by rfl) (hplain : (backTo cpos (starEach es X.env)).any (·.1) = false := by rfl) :
    PE X (.Call (.Attribute o "join" apos) (e :: es) [] cpos) (tBM X.K "str" (rJoin X.K) to t) := pe_bm F.plainAttrs_str F.slot_str_join F.type_str_join mt_join ho ha hbase hfew hline hs hplain
theorem pe_m.split (ho : PE X o to) (ha : PA X (e :: es) t) (hbase : attributeBase o "split" X.env (eval o X.env) = eval o X.env := by rfl)
    (hfew : ((backTo cpos (starEach (e :: es) X.env)).all (fun x => !x.1) && (backToKw cpos (keywordEach [] X.env)).all (fun x => x.1.isSome) && decide ((e :: es).length + ([] : List Keyword).length + (if ([] : List Keyword).isEmpty then 0 else 1) < 30)) = true := by rfl)
    (hline : (apos.endLine == cpos.line) = true := by rfl) (hs : starEach (e :: es) X.env = (false, eval e X.env) :: starEach es X.env := by rfl) (hplain : (backTo cpos (starEach es X.env)).any (·.1) = false := by rfl) :
    PE X (.Call (.Attribute o "split" apos) (e :: es) [] cpos) (tBM X.K "str" rSplit to t) := pe_bm F.plainAttrs_str F.slot_str_split F.type_str_split mt_split ho ha hbase hfew hline hs hplain
theorem pe_m.append (ho : PE X o to) (ha : PA X (e :: es) t) (hbase : attributeBase o "append" X.env (eval o X.env) = eval o X.env := by rfl)
    (hfew : ((backTo cpos (starEach (e :: es) X.env)).all (fun x => !x.1) && (backToKw cpos (keywordEach [] X.env)).all (fun x => x.1.isSome) && decide ((e :: es).length + ([] : List Keyword).length + (if ([] : List Keyword).isEmpty then 0 else 1) < 30)) = true := by rfl)
    (hline : (apos.endLine == cpos.line) = true := by rfl) (hs : starEach (e :: es) X.env = (false, eval e X.env) :: starEach es X.env := by rfl) (hplain : (backTo cpos (starEach es X.env)).any (·.1) = false := by rfl) :
    PE X (.Call (.Attribute o "append" apos) (e :: es) [] cpos) (tBM X.K "list" rAppend to t) := pe_bm F.plainAttrs_list F.slot_list_append F.type_list_append mt_append ho ha hbase hfew hline hs hplain
theorem pe_m.clear (ho : PE X o to) (hbase : attributeBase o "clear" X.env (eval o X.env) = eval o X.env := by rfl) (hline : (apos.endLine == cpos.line) = true := by rfl) :
    PE X (.Call (.Attribute o "clear" apos) [] [] cpos) (tBM0 X.K "list" rClear to) := pe_bm0 F.plainAttrs_list F.slot_list_clear F.type_list_clear mt_clear ho hbase hline
theorem pe_m.pop (ho : PE X o to) (hbase : attributeBase o "pop" X.env (eval o X.env) = eval o X.env := by rfl) (hline : (apos.endLine == cpos.line) = true := by rfl) :
    PE X (.Call (.Attribute o "pop" apos) [] [] cpos) (tBM0 X.K "list" rPop to) := pe_bm0 F.plainAttrs_list F.slot_list_pop F.type_list_pop mt_pop ho hbase hline
end
/-! ### tuples stay -/
def TK (H H' : Hp) : Prop := ∀ b xs, H b = some (.tup xs) → H' b = some (.tup xs)
theorem TK.refl (H : Hp) : TK H H := fun _ _ h => h
theorem TK.trans {H H1 H2 : Hp} (a : TK H H1) (b : TK H1 H2) : TK H H2 := fun c o h => b c o (a c o h)
theorem Same.tk {H H' : Hp} (e : Same H H') : TK H H' := fun b xs h => e b _ h
theorem TK.lst {H : Hp} {l : Addr} {xs ys : List V} (h : H l = some (.lst xs)) : TK H (upd H l (.lst ys)) := fun b zs e => by
  rw [upd_ne (ne_of e h (by intro z; cases z))]; exact e
theorem Same.put {H H' : Hp} {D : Addr} {o : HO} (e : Same H H') (h : H D = none) : Same H (upd H' D o) := fun b u q => by
  rw [upd_ne (ne_of_none q h)]; exact e b u q
theorem atI_cons {α : Type} {xs : List α} {i : Int} {v : α} (k : Nat) (hk : (k : Int) = i) (h : xs[k]? = some v) : atI xs i = some v := by rw [← hk]; exact atI_nat h
def nameB (t : Str) : Bool := madeB t "abcdefghijklmnopqrstuvwxyz" 8
end L2

set_option Elab.async false
set_option linter.all false
set_option maxRecDepth 100000
set_option maxHeartbeats 4000000
namespace L2
open PySem PySem.Spec PyProof.Rows
/-! ### units -/
structure U where
  name : Str
  value : Int
  size : Int
  path : List Str
def uV (p : Addr) (u : U) : List V := [.str u.name, .int u.value, .int u.size, .ref p]
def IsU (H : Hp) (u : U) (x : V) : Prop := ∃ a p, x = .ref a ∧ H a = some (.tup (uV p u)) ∧ H p = some (.tup (u.path.map V.str))
theorem IsU.tk {H H' : Hp} {u : U} {x : V} (k : TK H H') (h : IsU H u x) : IsU H' u x := let ⟨a, p, h1, h2, h3⟩ := h; ⟨a, p, h1, k a _ h2, k p _ h3⟩
abbrev AllU (H : Hp) : List U → List V → Prop := Paired (IsU H)
theorem AllU.tk {H H' : Hp} (k : TK H H') : ∀ {us : List U} {xs : List V}, AllU H us xs → AllU H' us xs
  | _, _, .nil => .nil
  | _, _, .cons r t => .cons (r.tk k) (AllU.tk k t)
theorem AllU.len {H : Hp} {us : List U} {xs : List V} (h : AllU H us xs) : us.length = xs.length := Paired.length h
theorem AllU.get {H : Hp} : ∀ {us : List U} {xs : List V} {i : Nat} {x : V}, AllU H us xs → xs[i]? = some x → ∃ u, us[i]? = some u ∧ IsU H u x
  | _, _, _, _, .nil, h => by cases h
  | _, _, 0, _, .cons r _, h => ⟨_, rfl, by cases h; exact r⟩
  | _, _, i + 1, _, .cons _ t, h => AllU.get (i := i) t h
theorem AllU.take {H : Hp} : ∀ {us : List U} {xs : List V} (k : Nat), AllU H us xs → AllU H (us.take k) (xs.take k)
  | _, _, 0, _ => by rw [List.take_zero, List.take_zero]; exact .nil
  | _, _, _ + 1, .nil => .nil
  | _, _, k + 1, .cons r t => .cons r (AllU.take k t)
theorem AllU.snoc {H : Hp} {u : U} {x : V} (r : IsU H u x) : ∀ {us : List U} {xs : List V}, AllU H us xs → AllU H (us ++ [u]) (xs ++ [x])
  | _, _, .nil => .cons r .nil
  | _, _, .cons q t => .cons q (AllU.snoc r t)
structure GoodU (u : U) : Prop where
  nm : nameB u.name = true
  v0 : -1000000000 ≤ u.value
  v1 : u.value ≤ 1000000000
  s0 : 1 ≤ u.size
  s1 : u.size ≤ 1000000
  pl : u.path.length ≤ 3
  pn : ∀ n ∈ u.path, nameB n = true
structure GoodL (us : List U) : Prop where
  l1 : 1 ≤ us.length
  l2 : us.length ≤ 24
  each : ∀ u ∈ us, GoodU u
  nd : (us.map U.name).Nodup
  pth : ∀ u ∈ us, ∀ v ∈ us, u.path.length = v.path.length
/-! deep data of units -/
def uD (u : U) : PyData := .tuple [.str u.name, .int u.value, .int u.size, .tuple (u.path.map PyData.str)]
theorem dvs_str {K : PySem.W.Frag} {H : Hp} : ∀ (l : List Str), DVs K H (l.map PyData.str) (l.map V.str)
  | [] => by simp [DVs]
  | c :: l => by
    rw [List.map_cons, List.map_cons, DVs]
    exact ⟨_, _, rfl, by simp [DV], dvs_str l⟩
theorem IsU.dv {K : PySem.W.Frag} {H : Hp} {u : U} {x : V} (h : IsU H u x) : DV K H (uD u) x := by
  obtain ⟨a, p, rfl, h2, h3⟩ := h
  rw [uD, DV]
  refine ⟨a, _, rfl, SqT.of h2, ?_⟩
  rw [uV, DVs]
  refine ⟨_, _, rfl, by simp [DV], ?_⟩
  rw [DVs]
  refine ⟨_, _, rfl, by simp [DV], ?_⟩
  rw [DVs]
  refine ⟨_, _, rfl, by simp [DV], ?_⟩
  rw [DVs]
  refine ⟨_, _, rfl, ?_, by simp [DVs]⟩
  rw [DV]
  exact ⟨p, _, rfl, SqT.of h3, dvs_str _⟩
theorem AllU.dvs {K : PySem.W.Frag} {H : Hp} : ∀ {us : List U} {xs : List V}, AllU H us xs → DVs K H (us.map uD) xs
  | _, _, .nil => by simp [DVs]
  | _, _, .cons r t => by
    rw [List.map_cons, DVs]
    exact ⟨_, _, rfl, r.dv, AllU.dvs t⟩
/-! the rules with the written part told apart (within a comprehension) -/
section
variable {X : Cx} {K : PySem.W.Frag}
theorem ix_seqK (h : X.K = K) : IxR X (rIx K) := h ▸ ix_seq
theorem pg_tupK (h : X.K = K) {es : List Expr} {k : Nat} {t : TGs} {n : Nat} {pos : Pos} (hc : X.calm = true) (hp : PGs X es t) (hn : (assignEach es X.env).length = n := by rfl) (hst : (assignEach es X.env).findIdx? (·.1) = none := by rfl) :
    PG X (.Tuple es k pos) (gTup K n t) := h ▸ pg_tup hc hp hn hst
end
end L2

set_option Elab.async false
set_option linter.all false
set_option maxRecDepth 100000
set_option maxHeartbeats 4000000
namespace L2
open PySem PySem.Spec PyProof.Rows

/-! ### an own exception's class, asked of an instance -/
structure XCls (K : PySem.W.Frag) (D : Addr) : Prop where
  ga : PySem.W.findIn K (.ref D) "__getattribute__" = some (some (.builtin "BaseException.__getattribute__"))
  gn : PySem.W.findIn K (.ref D) "__getattr__" = some none
  cl : PySem.W.findIn K (.ref D) "__class__" = some (some (.builtin "object.__class__"))
  mb : PySem.W.mroIn K D (.type "BaseException") = some true
  mo : PySem.W.mroIn K D (.type "object") = some true
  isc : (PySem.W.clsIn K D).isSome = true

section
variable {prog : Program} {w : World} {A : Around} {E : Value → Shared → Prop} {h : Heap} {g : Array GenState} {d : Drawn} {t : Nat} {os : OsState} {a D : Addr} {o : Obj} {K : PySem.W.Frag}
theorem xc_check {M : Model} {nameV : Value} {Q : Unit → Shared → Prop} (c : XCls K D) (X : K.In h) (hx : h.get? a = some o) (hc : o.cls = .ref D) (hq : Q () ⟨h, g, d, t, os⟩) :
    wpAny M A (checkBuiltinCall "BaseException.__getattribute__" ⟨[.ref a, nameV], []⟩) Q E ⟨h, g, d, t, os⟩ := by
  have hk : builtinKind "BaseException.__getattribute__" = some .slot := by decide +kernel
  have hsplit : splitId "BaseException.__getattribute__" = some ("BaseException", "__getattribute__") := by decide +kernel
  have ha := F.args_bexc_ga (.ref a) nameV
  simp only [checkBuiltinCall, hk, hsplit]
  refine wpAny_bind ?_
  unfold isInstance
  repeat (first | (with_reducible refine wpAny_loadPart_at hx ?_; rw [hc]) | with_reducible refine (PySem.W.looks_mroIn X c.mb).at ?_ | wp_step)
  exact hq
theorem xc_get {R : Result → Shared → Prop} (c : XCls K D) (X : K.In h) (hx : h.get? a = some o) (hc : o.cls = .ref D) (hq : R (.ok (.ret (.ref D))) ⟨h, g, d, t, os⟩) :
    codeAny (model prog w) A (.call (.builtin "getset_descriptor.__get__") ⟨[.builtin "object.__class__", .ref a, .ref D], []⟩) R ⟨h, g, d, t, os⟩ := by
  have hT5 : (⟨h, g, d, t, os⟩ : Shared).TypeIs (.builtin "object.__class__") "getset_descriptor" := F.typeOf_object_class
  have hO : PySem.W.Looks (model prog w) h (isSubtype (.ref D) (.type (".".intercalate ("object.__class__".cutAt '.').dropLast))) true := by
    rw [F.owner_object_class]; exact PySem.W.looks_mroIn X c.mo
  refine codeAny_call_builtin F.slot_gs_get.plain F.entry_gs_get (F.slot_gs_get.check _ _ _ _ _ _ _ _ hT5 (F.args_gs_get _ _ _) ?_)
  repeat (any_goals (first | assumption | (with_reducible refine wpAny_loadPart_at hx ?_; rw [hc]) | with_reducible refine hO.at ?_ | wp_step))
  refine ⟨Code.quiet_builtin _ (by decide +kernel), codeAny_builtin F.entry_object_class ?_⟩
  repeat (any_goals (first | assumption | (with_reducible refine wpAny_loadPart_at hx ?_; rw [hc]) | wp_step))
theorem xc_entry {tk : Tok} {Q : Fin → Shared → Prop} (c : XCls K D) (X : K.In h) (hx : h.get? a = some o) (hc : o.cls = .ref D) (hq : Q (.done (.ret (.ref D))) ⟨h, g, d, t, os⟩) :
    wpAny (model prog w) A (Builtin.«object.__getattribute__» ⟨[.ref a, .str "__class__" tk], []⟩) Q E ⟨h, g, d, t, os⟩ := by
  have hT5 : (⟨h, g, d, t, os⟩ : Shared).TypeIs (.builtin "object.__class__") "getset_descriptor" := F.typeOf_object_class
  have f5 := F.typeOf_object_class
  have f6 := F.slot_gs_get.lookup
  have f7 := F.slot_gs_set.lookup
  repeat (any_goals (first | assumption | (with_reducible refine wpAny_loadPart_at hx ?_; rw [hc]) | with_reducible refine (PySem.W.looks_findIn X c.cl).at ?_ | wp_step))
  refine xc_get c X hx hc ?_
  repeat (any_goals (first | assumption | wp_step))
theorem xc_by {tk : Tok} {fill expr : Bool} {Q : Value → Shared → Prop} (c : XCls K D) (X : K.In h) (hx : h.get? a = some o) (hc : o.cls = .ref D) (hq : Q (.ref D) ⟨h, g, d, t, os⟩) :
    wpAny (model prog w) A (getAttrBy (.ref a) (.str "__class__" tk) fill expr) Q E ⟨h, g, d, t, os⟩ := by
  have f3 := PySem.F.attrBase_ValueError.ga.bind (.ref a)
  have hx0 : (expr && onTheHeap (Value.builtin "BaseException.__getattribute__")) = false := by cases expr <;> rfl
  have hx2 : (Value.builtin "BaseException.__getattribute__" == Value.builtin "object.__getattribute__") = false := by decide +kernel
  have hx1 : (onTheHeap (Value.ref D) && Value.builtin "BaseException.__getattribute__" == Value.builtin "object.__getattribute__") = false := by rw [hx2]; rfl
  repeat (any_goals (first | assumption | (with_reducible refine wpAny_loadPart_at hx ?_; rw [hc]) | with_reducible refine (PySem.W.looks_findIn X c.ga).at ?_ | with_reducible refine (PySem.W.looks_findIn X c.gn).at ?_ | wp_step))
  refine codeAny_call_builtin PySem.F.attrBase_ValueError.ga.plain F.entry_bexc_ga (xc_check c X hx hc (xc_entry c X hx hc ?_))
  repeat (any_goals (first | assumption | wp_step))
theorem xc_attr {Q : Option Value → Shared → Prop} (c : XCls K D) (X : K.In h) (hx : h.get? a = some o) (hc : o.cls = .ref D) (hq : Q (some (.ref D)) ⟨h, g, d, t + 1, os⟩) :
    wpAny (model prog w) A (getAttr? (.ref a) "__class__") Q E ⟨h, g, d, t, os⟩ := by
  unfold getAttr? getAttrBy?
  repeat (any_goals (first | assumption | with_reducible apply xc_by c X hx hc | wp_step))
end
def XAt (a D : Addr) (h : Heap) : Prop := ∃ o, h.get? a = some o ∧ o.cls = .ref D
theorem kitx_exc {K : PySem.W.Frag} {a D : Addr} (c : XCls K D) : PySem.W.KitX K (.ref a) (.ref D) (XAt a D) where
  ty := fun M h _ p => by
    obtain ⟨o, h1, h2⟩ := p
    exact h2 ▸ (PySem.W.Looks.ld h1).andThen .now
  it := fun _ _ X _ => by
    obtain ⟨cdD, hcD⟩ := Option.isSome_iff_exists.mp c.isc
    unfold PySem.W.clsIn at hcD
    split at hcD
    · rename_i c' d' cd' sl' ho
      intro A' Q' E' s' k q
      unfold isType loadHead
      exact wpAny_bind (wpAny_loadPart (k _ _ (X _ _ ho)) (wpAny_pure q))
    · cases hcD
  ne := fun h tp dd its n sl X htp => by
    obtain ⟨cdD, hcD⟩ := Option.isSome_iff_exists.mp c.isc
    refine Bool.eq_false_iff.mpr fun q => ?_
    have e : D = tp := Value.ref.inj (beq_iff_eq.mp q)
    subst e
    unfold PySem.W.clsIn at hcD
    split at hcD
    · rename_i c' d' cd' sl' ho
      have z := (X _ _ ho).symm.trans htp
      cases z
    · cases hcD
  ca := fun {_ _ _ _ _ s} X p k => by
    obtain ⟨h, g, d, t, os⟩ := s
    obtain ⟨o, h1, h2⟩ := p
    exact xc_attr c X h1 h2 k
end L2

set_option Elab.async false
set_option linter.all false
set_option maxRecDepth 100000
set_option maxHeartbeats 4000000
namespace L2
open PySem PySem.Spec PyProof.Rows

/-! ### an own exception leaves -/
theorem ObjOk.isObj {P : Program} {w : World} {H : Hp} {h : Heap} {a : Addr} {o : HO} (x : ObjOk P w H h a o) : ∃ u, h.get? a = some u := by
  cases o with
  | lst xs => obtain ⟨_, _, _, _, e⟩ := x; exact ⟨_, e⟩
  | tup xs => obtain ⟨_, _, _, _, e, _⟩ := x; exact ⟨_, e⟩
  | dK kvs => obtain ⟨_, _, _, _, o, _, _, e, _⟩ := x; exact ⟨_, e⟩
  | dT kvs => obtain ⟨_, _, _, _, o, _, _, e, _⟩ := x; exact ⟨_, e⟩
  | set S n => obtain ⟨o, _, _, _, e, _⟩ := x; exact ⟨_, e⟩
  | ins C dx fs => obtain ⟨_, _, _, e, _⟩ := x; exact ⟨_, e⟩
  | own y => exact x
  | xd fs => obtain ⟨_, ⟨_, _, _, e, _⟩, _⟩ := x; exact ⟨_, e⟩
  | rng lo hi => obtain ⟨_, _, _, e⟩ := x; exact ⟨_, e⟩
  | frz ob u => exact ⟨_, x.1⟩
  | tbl ps => exact ⟨_, x⟩
  | met f y => exact ⟨_, x⟩
  | ext φ => exact x.2.1

/-- the exception at x, of the class at D, flies: B holds all of before (but the callers' frames) and all that is tracked -/
structure XF (P : Program) (w : World) (outer : List Env) (H : Hp) (s : Shared) (x D : Addr) (a0 : Value) (B : Heap) (H' : Hp) (s' : Shared) : Prop where
  os : s'.os = s.os
  bare : AllBare s'.gens
  un : Un (frs outer) [] H H' s.heap s'.heap
  hok : HOk P w H' s'.heap
  fly : Heap.FlyingW B outer x (.ref D) a0 s'.heap
  cov : ∀ b o, s'.heap.get? b = some o → ((∃ o', s.heap.get? b = some o') ∨ (∃ u, H' b = some u)) → b ∉ frs outer → B.get? b = some o
section
variable {P : Program} {w : World} {outer : List Env} {H H' : Hp} {s s' : Shared} {x D : Addr} {a0 : Value} {B : Heap}
theorem fly_out {h : Heap} (f : Heap.FlyingW B outer x (.ref D) a0 h) : x ∉ frs outer := fun hm => by
  obtain ⟨_, _, f3, oe, vs, T, oT, ts, he, _, hd, _⟩ := f
  obtain ⟨_, o, ho, hn⟩ := f3.mem hm
  rw [he] at ho
  cases ho
  exact hn vs hd
theorem XF.new (F : XF P w outer H s x D a0 B H' s') : ∀ o, s.heap.get? x ≠ some o := fun o e => by
  obtain ⟨o', e'⟩ := F.un.there x o e (by simp)
  have := F.cov x o' e' (.inl ⟨o, e⟩) (fly_out F.fly)
  rw [F.fly.2.1] at this
  cases this
theorem XF.free (F : XF P w outer H s x D a0 B H' s') : H' x = none := by
  cases q : H' x with
  | none => rfl
  | some u =>
    obtain ⟨o, e⟩ := (F.hok x u q).isObj
    have := F.cov x o e (.inr ⟨u, q⟩) (fly_out F.fly)
    rw [F.fly.2.1] at this
    cases this
end
section
variable {X : Cx} {pins : List (Addr × Obj)} {σ : St} {H H' : Hp} {s s' : Shared} {x D : Addr} {a0 : Value} {B h2 : Heap}
end
section
variable {P : Program} {w : World} {K : PySem.W.Frag} {mg : Str → Option Value} {base : Heap} {N : List Str} {qual : Str} {scope : Scope} {f : Addr} {cdv : Value} {A : Around} {outer : List Env} {s0 : Shared} {H0 : Hp} {E : XK}
end
section
variable {P : Program} {w : World} {K : PySem.W.Frag} {mg : Str → Option Value} {base : Heap}
end
end L2

set_option Elab.async false
set_option linter.all false
set_option maxRecDepth 100000
set_option maxHeartbeats 4000000
namespace L2
open PySem PySem.Spec PyProof.Rows

/-! ### an own exception is caught -/
/-- what a class must have to be named behind except -/
structure XHd (K : PySem.W.Frag) (C : Addr) : Prop where
  isc : (PySem.W.clsIn K C).isSome = true
  ty : PySem.W.typeIn K (.ref C) = some (.type "type")
  mb : PySem.W.mroIn K C (.type "BaseException") = some true
/-- within the except suite that holds the exception at x -/
def Cx.inX (X : Cx) (x : Addr) : Cx := { X with A := X.A.mark (some (.ref x)), calm := false, xe := fun _ _ => False }
section
variable {X : Cx} {pins : List (Addr × Obj)} {σ : St} {H H' H1 : Hp} {s s' s1 : Shared} {x D C : Addr} {a0 : Value} {B h2 : Heap}
theorem Inv.inX (I : Inv X pins σ H s) (x : Addr) : Inv (X.inX x) pins σ H s :=
  ⟨⟨I.ok.mod, I.ok.kind, I.ok.glob, I.ok.blt, I.ok.above, I.ok.inj, I.ok.has, I.ok.cab, fun z => absurd (show false = true from z) Bool.false_ne_true, I.ok.frames, I.ok.stk, I.ok.exf, I.ok.bs, I.ok.bsz, I.ok.noex, I.ok.exfs, I.ok.funs, I.ok.frf⟩,
    I.os, I.bare, I.base, I.loc, I.cell, I.free, I.freeC, I.pin, I.hok, I.len⟩
end
end L2

set_option Elab.async false
set_option linter.all false
set_option maxRecDepth 100000
set_option maxHeartbeats 4000000
namespace L2
open PySem PySem.Spec PyProof.Rows

section
variable {X : Cx} {pins : List (Addr × Obj)} {σ : St} {H H' H1 : Hp} {s s' s1 : Shared} {x D C : Addr} {a0 : Value} {B h2 : Heap} {cn en : Str} {ie : Nat} {b₀ : Stmt} {suite : List Stmt} {cp hp : Pos} {ts : TS} {DE : Ends}
end
section
variable {X : Cx} {k ie : Nat} {f C : Addr} {fd : FuncData} {ps : List Str} {sp : Sp} {dvs : List V} {ds : List Value} {fx cn en : Str} {p pos p2 cp hp tp : Pos} {e : Expr} {es : List Expr} {t : TA} {b₀ : Stmt} {suite : List Stmt} {ts : TS}
end

/-! ### isinstance of such a one -/
def TyX (K : PySem.W.Frag) (H : Hp) (x : V) (t : Value) : Prop := TyOf K H x t ∨ ∃ a D φ, x = .ref a ∧ t = .ref D ∧ XCls K D ∧ H a = some (.ext φ) ∧ ∀ h, φ h → XAt a D h
section
variable {X : Cx}
open PySem.W in
theorem kit_ofX {pins : List (Addr × Obj)} {σ : St} {H : Hp} {s : Shared} {x : V} {u t : Value} (I : Inv X pins σ H s) (rx : RelV x u) (ty : TyX X.K H x t) :
    ∃ Hh : Heap → Prop, KitX X.K u t Hh ∧ Hh s.heap ∧ u ≠ .builtin "__main__.__loader__#opaque" := by
  rcases ty with ty | ⟨a, D, φ, rfl, rfl, c, e, hφ⟩
  · exact kit_of I rx ty
  · cases (show u = Value.ref a from rx)
    exact ⟨_, kitx_exc c, hφ _ (I.hok a _ e).1, fun z => nomatch z⟩
end
end L2

set_option Elab.async false
set_option linter.all false
set_option maxRecDepth 100000
set_option maxHeartbeats 4000000
namespace L2
open PySem PySem.Spec PyProof.Rows
section
variable {prog : Program} {w : World} {A : Around} {E : Value → Shared → Prop} {h : Heap} {g : Array GenState} {d : Drawn} {t : Nat} {os : OsState} {a D dx : Addr} {o : Obj} {vs : Array Value} {cd : ClassData} {K : PySem.W.Frag} {name : Str} {mA : Str → Option Value} {v : Value}
/-! setting -/
abbrev bmV : List Value := [.type "ValueError", .type "Exception", .type "BaseException", .type "object"]
def isRf : Value → Bool
  | .ref _ => true
  | _ => false
def vTail (l : List Value) : Bool := l.dropWhile isRf == bmV
/-- what a class must have that its instances take the attribute name -/
structure XSet (K : PySem.W.Frag) (D : Addr) (name : Str) (cd : ClassData) : Prop where
  k : PySem.W.clsIn K D = some cd
  dct : cd.hasDict = true
  mro : vTail cd.mro = true
  mo : PySem.W.mroIn K D (.type "object") = some true
  sa : PySem.W.findIn K (.ref D) "__setattr__" = some (some (.builtin "object.__setattr__"))
  na : PySem.W.findIn K (.ref D) name = some none
end

/-! making one whose class has its own __init__ -/
section
variable {prog : Program} {w : World} {A : Around} {E : Value → Shared → Prop} {h : Heap} {g : Array GenState} {d : Drawn} {t : Nat} {os : OsState}
variable {nm q : Str} {C N fI : Addr} {bs bm bmB : List Value} {hdct : Bool} {sn : List Str} {sub : List Value} {ab : Bool} {col : Option Bool} {dd : Option Addr} {k0 k1 k2 k3 k5 : Option Value} {B newId initId : String} {mN : Str → Option Value} {rest : List Value} {oI : Obj}
end
end L2

set_option Elab.async false
set_option linter.all false
set_option maxRecDepth 100000
set_option maxHeartbeats 4000000
namespace L2
open PySem PySem.Spec PyProof.Rows

/-! ### exceptions as values: made, their attributes -/
def XD0 (a D : Addr) : Heap → Prop := fun h => ∃ o vs, h.get? a = some o ∧ o.cls = .ref D ∧ o.data = .fields vs ∧ o.dict = none ∧ vs[1]? = some .none
def XD1 (a D dx : Addr) : Heap → Prop := fun h => ∃ o vs, h.get? a = some o ∧ o.cls = .ref D ∧ o.data = .fields vs ∧ o.dict = some dx ∧ vs[1]? = some .none
def XDct (dx : Addr) (fs : List (Str × V)) : Heap → Prop := fun h => ∃ mA, h.Ns1 dx mA ∧ ∀ f, RelO (fs.lookup f) (mA f)
theorem XD0.at {a D : Addr} {h : Heap} (x : XD0 a D h) : XAt a D h := let ⟨o, _, e, c, _⟩ := x; ⟨o, e, c⟩
theorem XD1.at {a D dx : Addr} {h : Heap} (x : XD1 a D dx h) : XAt a D h := let ⟨o, _, e, c, _⟩ := x; ⟨o, e, c⟩
section
variable {P : Program} {w : World} {H : Hp} {h : Heap} {a D dx : Addr} {fs : List (Str × V)}
theorem XD0.ok (x : XD0 a D h) : ObjOk P w H h a (.ext (XD0 a D)) := ⟨x, let ⟨o, _, e, _⟩ := x; ⟨o, e⟩, fun _ _ ⟨o, vs, e, r⟩ k => ⟨o, vs, k o e, r⟩⟩
theorem XD1.ok (x : XD1 a D dx h) : ObjOk P w H h a (.ext (XD1 a D dx)) := ⟨x, let ⟨o, _, e, _⟩ := x; ⟨o, e⟩, fun _ _ ⟨o, vs, e, r⟩ k => ⟨o, vs, k o e, r⟩⟩
theorem XDct.ok (x : XDct dx fs h) : ObjOk P w H h dx (.ext (XDct dx fs)) := ⟨x, let ⟨_, ⟨o, _, _, e, _⟩, _⟩ := x; ⟨o, e⟩, fun _ _ ⟨mA, n, r⟩ k => ⟨mA, n.at k, r⟩⟩
end
section
variable {X : Cx} {pins : List (Addr × Obj)} {σ : St} {H : Hp} {s : Shared} {h' : Heap} {x dx D : Addr} {φ : Heap → Prop} {ox od : HO}
/-- a new object, tracked -/
theorem Inv.tracked {t' : Nat} (I : Inv X pins σ H s) (k : ∀ b u, s.heap.get? b = some u → h'.get? b = some u) (hn : s.heap.get? x = none) (new : ObjOk X.prog X.w (upd H x ox) h' x ox) : Inv X pins σ (upd H x ox) { s with heap := h', toks := t' } := by
  have hx : H x = none := by
    cases q : H x with
    | none => rfl
    | some u =>
      obtain ⟨o, e⟩ := (I.hok x u q).isObj
      rw [hn] at e
      cases e
  have ne : ∀ b o, s.heap.get? b = some o → b ≠ x := fun b o e z => by rw [z, hn] at e; cases e
  have nh : ∀ b u, H b = some u → b ≠ x := fun b u e z => by rw [z, hx] at e; cases e
  refine I.un ⟨fun b o e _ _ _ => k b o e, fun b o e _ _ _ => ⟨o.slots, k b o e⟩, fun b o e n _ => ?_, fun b o e _ => ⟨o, k b o e⟩, fun b xs e => ?_, fun b o u e => ?_, fun b ps e => ⟨#[], ?_⟩⟩ fun b u e => ?_
  · rw [upd_ne (ne b o e)]; exact n
  · rw [upd_ne (nh b _ e)]; exact e
  · rw [upd_ne (nh b _ e)]; exact e
  · rw [upd_ne (nh b _ e), e]; simp
  · by_cases hb : b = x
    · subst hb
      rw [upd_same] at e
      cases e
      exact new
    · rw [upd_ne hb] at e
      exact (I.hok b u e).stay (fun c v _ q => k c v q) (fun c q => by rw [upd_ne (nh c _ q)]; exact q) fun c xs q => by rw [upd_ne (nh c _ q)]; exact q
end
section
variable {X : Cx} {o e value : Expr} {f : Str} {pos pos' tpos : Pos} {ta tv : TE}
end
end L2

set_option Elab.async false
set_option linter.all false
set_option maxRecDepth 100000
set_option maxHeartbeats 4000000
namespace L2
open PySem PySem.Spec PyProof.Rows

/-! ### own exception classes, read off the text -/
def xIn (K : PySem.W.Frag) (C : Addr) (fI : Option Value) : Bool := match K.lookup C with
  | some ⟨.type "type", _, .cls cd, sl⟩ => (match cd.mro, sl.toList with
    | .ref C' :: bm, [_, _, _, _, some (.builtin n), _] => C' == C && n == "ValueError.__new__" && !cd.hasDel && PySem.W.tailIn K bmV bm && PySem.W.nsOkIn K cd.ns && PySem.W.nsIn K cd.ns "__init__" == some fI
    | _, _ => false)
  | _ => false
structure XObj (h : Heap) (C : Addr) (fI : Option Value) : Prop where
  obj : ∃ bm N nm q bs hdct sn sub ab col dd k0 k1 k2 k3 k5 mN, h.get? C = some (excClassObj nm q C N bs bm hdct sn sub ab col dd k0 k1 k2 k3 k5 "ValueError.__new__") ∧ h.Ns N mN ∧ mN "__init__" = fI ∧ OwnTail h bmV bm
def xcIn (K : PySem.W.Frag) (D : Addr) : Bool := PySem.W.findIn K (.ref D) "__getattribute__" == some (some (.builtin "BaseException.__getattribute__")) && PySem.W.findIn K (.ref D) "__getattr__" == some none &&
  PySem.W.findIn K (.ref D) "__class__" == some (some (.builtin "object.__class__")) && PySem.W.mroIn K D (.type "BaseException") == some true && PySem.W.mroIn K D (.type "object") == some true && (PySem.W.clsIn K D).isSome && PySem.W.typeIn K (.ref D) == some (.type "type")
theorem xc_of {K : PySem.W.Frag} {D : Addr} (h : xcIn K D = true) : XCls K D := by
  unfold xcIn at h
  simp only [Bool.and_eq_true, beq_iff_eq] at h
  obtain ⟨⟨⟨⟨⟨⟨h1, h2⟩, h3⟩, h4⟩, h5⟩, h6⟩, h7⟩ := h
  exact ⟨h1, h2, h3, h4, h5, h6⟩
theorem xh_of {K : PySem.W.Frag} {D : Addr} (h : xcIn K D = true) : XHd K D := by
  unfold xcIn at h
  simp only [Bool.and_eq_true, beq_iff_eq] at h
  obtain ⟨⟨⟨⟨⟨⟨h1, h2⟩, h3⟩, h4⟩, h5⟩, h6⟩, h7⟩ := h
  exact ⟨h6, h7, h4⟩
def xsIn (K : PySem.W.Frag) (D : Addr) (name : Str) : Bool := ((PySem.W.clsIn K D).any fun cd => cd.hasDict && vTail cd.mro) && PySem.W.mroIn K D (.type "object") == some true &&
  PySem.W.findIn K (.ref D) "__setattr__" == some (some (.builtin "object.__setattr__")) && PySem.W.findIn K (.ref D) name == some none
theorem xs_of {K : PySem.W.Frag} {D : Addr} {name : Str} (h : xsIn K D name = true) : ∃ cd, XSet K D name cd := by
  unfold xsIn at h
  simp only [Bool.and_eq_true, beq_iff_eq] at h
  obtain ⟨⟨⟨h1, h2⟩, h3⟩, h4⟩ := h
  obtain ⟨cd, e, e2⟩ := PySem.W.any_some h1
  rw [Bool.and_eq_true] at e2
  exact ⟨cd, e, e2.1, e2.2, h2, h3, h4⟩
section
variable {P : Program} {w : World} {K : PySem.W.Frag} {mg : Str → Option Value} {base : Heap} {N : List Str} {qual : Str} {scope : Scope} {f : Addr} {cdv : Value} {A : Around} {outer : List Env} {s0 : Shared} {H0 : Hp} {E : XK}
end

/-! ### C() and C(e, ..) -/
section
variable {X : Cx} {k : Nat} {f C : Addr} {fd : FuncData} {ps : List Str} {sp : Sp} {x : Str} {p pos : Pos} {e : Expr} {es : List Expr} {t : TA}
end
end L2

set_option Elab.async false
set_option linter.all false
set_option maxRecDepth 100000
set_option maxHeartbeats 4000000
namespace L2
open PySem PySem.Spec PyProof.Rows

/-! ### d.setdefault(k, v), in the order of coming -/
section
variable {prog : Program} {w : World} {KT : Type} [DecidableEq KT] {knd : KeyKind prog w KT} {A : Around} {E : Value → Shared → Prop} {s : Shared} {d : Addr} {kvs : List (KT × Value)} {k : KT} {key dflt : Value}
theorem sd_new {Q : Value → Shared → Prop} (hkey : knd.is k key = true) (hm : s.heap.DictOf knd d kvs) (hz : kvs.length ≤ sizeLine) (hno : valueAt kvs k = none)
    (h : ∀ h', h'.DictOf knd d (kvs ++ [(k, dflt)]) → Heap.SameBut d s.heap h' → Q dflt { s with heap := h', toks := s.toks + 1 }) : wpAny (model prog w) A (dictSetDefault d key dflt) Q E s := by
  obtain ⟨ob, en, ep, gob, xob, dob, kob, pob, nob⟩ := hm
  have ez : en.size ≤ sizeLine := by
    have l1 := pob.length
    have l2 : en.toList.length = en.size := by simp
    omega
  have hall : ∀ q ∈ kvs, q.1 ≠ k := fun q hq hqk => by
    unfold valueAt at hno
    rw [Option.map_eq_none_iff, List.find?_eq_none] at hno
    exact hno q hq (by simpa using hqk)
  have fnd : (en.findIdx? fun e => knd.is k e.key) = none := by
    have e1 : (en.findIdx? fun e => knd.is k e.key) = kvs.findIdx? fun q => decide (q.1 = k) := by
      rw [← pob.findIdx k]
      obtain ⟨l⟩ := en
      simp
    rw [e1, List.findIdx?_eq_none_iff]
    intro q hq
    simpa using hall q hq
  unfold dictSetDefault
  refine wpAny_holding (wpAny_bind (knd.pyHash hkey (wpAny_bind (wpAny_dictFind_of (s := { s with toks := s.toks + 1 }) hkey gob dob kob ?_))))
  rw [fnd]
  refine wpAny_bind (wpAny_rule (wpAny_bind (wpAny_updateDictKeys (hz := ez) (s := { s with toks := s.toks + 1 }) gob dob (wpAny_pure (h _ ⟨_, _, ep + 1, Heap.get?_update_self _ gob (Obj.isFreed_of_dict (Obj.data_mapDictKeys dob _)),
    xob.mapDictKeys _, Obj.data_mapDictKeys dob _, kob.push hkey _, ?_, ?_⟩ (Heap.SameBut.update ..))))))
  · have ap := pob.append hkey (knd.hash k) dflt
    obtain ⟨l⟩ := en
    simpa using ap
  · rw [List.map_append, List.nodup_append]
    refine ⟨nob, by simp, fun a ha b hb => ?_⟩
    obtain ⟨q, hq, rfl⟩ := List.mem_map.mp ha
    have hb' : b = k := by simpa using hb
    rw [hb']
    exact hall q hq
theorem sd_meets (hkey : knd.is k key = true) (hd : (d == sysModules) = false) (dflt : Value) : MeetsIn prog w (Builtin.«dict.setdefault» ⟨[.ref d, key, dflt], []⟩) (fun _ R s => ∃ kvs, s.heap.DictOf knd d kvs ∧ kvs.length ≤ sizeLine ∧
    (∀ v, valueAt kvs k = some v → R (.ok (.ret v)) { s with toks := s.toks + 1 }) ∧ (valueAt kvs k = none → ∀ h', h'.DictOf knd d (kvs ++ [(k, dflt)]) → Heap.SameBut d s.heap h' → R (.ok (.ret dflt)) { s with heap := h', toks := s.toks + 1 })) :=
  .of_wp fun A R s ⟨kvs, hm, hz, h1, h2⟩ => by
    have le : s.heap.DictLe d sizeLine := by
      obtain ⟨ob, en, ep, gob, xob, dob, kob, pob, nob⟩ := id hm
      intro o2 e2 p2 g2 d2
      rw [gob] at g2
      cases g2
      rw [dob] at d2
      cases d2
      have l1 := pob.length
      have l2 : en.toList.length = en.size := by simp
      omega
    unfold Builtin.«dict.setdefault»
    refine wpAny_bind ?_
    unfold Builtin.Dict.keyAndDefault
    refine wpAny_bind (wpAny_notOrdered_dict hm.typeIs (show wpAny _ _ (pure (d, key, some dflt)) _ _ s from wpAny_pure ?_))
    show wpAny _ _ (if (d == sysModules) = true then _ else (dictSetDefault d key dflt >>= _)) _ _ s
    rw [if_neg (by rw [hd]; exact Bool.false_ne_true)]
    cases hv : valueAt kvs k with
    | some v => exact wpAny_bind (wpAny_dictSetDefault_of (hz := le) hkey hm.mapOf (fun v' hv' => wpAny_pure ⟨v', rfl, h1 v' hv'⟩) fun hn => absurd hn (by rw [hv]; exact fun z => nomatch z))
    | none => exact wpAny_bind (sd_new hkey hm hz hv fun h' m' s' => wpAny_pure ⟨dflt, rfl, h2 hv h' m' s'⟩)
end
def rSetD : V → List V → Hp → VK → Prop := fun x vs H Q => ∃ (a : Addr) (kvs : List (Key × V)) (k : Key) (v : V), x = .ref a ∧ vs = [kV k, v] ∧ H a = some (.dK kvs) ∧ kvs.length < sizeLine ∧
  (∀ y, valV kvs k = some y → Q y H) ∧ (valV kvs k = none → Q v (upd H a (.dK (kvs ++ [(k, v)]))))
section
variable {X : Cx}
theorem mt_setD : MtR X "dict.setdefault" rSetD := by
  intro pins s σ H x vs v us Q I rx rv h
  obtain ⟨a, kvs, k, y, rfl, rfl, e, l, h1, h2⟩ := h
  cases rx
  obtain ⟨u1, u2, rfl, r1, r2⟩ := vals2 rv
  obtain ⟨z, hd, vs, rel, dd⟩ := dk_of I.hok e
  have hz : vs.length ≤ sizeLine := by rw [← rel.length]; exact z
  refine call_meetsIn PySem.F.slot_dict_setdefault dd.typeIs PySem.F.entry_dict_setdefault (PySem.F.args_dict_setdefault_3 _ _ _) (sd_meets (knd := mixKind X.prog X.w) (kV_is r1) hd u2) ⟨vs, dd, hz, fun v' hv' => ?_, fun hn h' m' s' => ?_⟩
  · have := rel.val k
    rw [hv'] at this
    cases q : valV kvs k with
    | none => rw [q] at this; exact False.elim this
    | some y' =>
      rw [q] at this
      exact ⟨y', H, I.tok _, this, h1 y' q⟩
  · have := rel.val k
    rw [hn] at this
    have q : valV kvs k = none := by
      cases q : valV kvs k with
      | none => rfl
      | some y' => rw [q] at this; exact False.elim this
    have e2 : KV (kvs ++ [(k, y)]) (vs ++ [(k, u2)]) := by
      have p := rel.put k r2
      have s1 : stored vs k u2 = vs ++ [(k, u2)] := by
        unfold stored
        rw [if_neg]
        intro w
        have w' := (rel.any k).trans w
        rw [valV_any, q] at w'
        cases w'
      rw [putK_new y q, s1] at p
      exact p
    have hl : (kvs ++ [(k, y)]).length ≤ sizeLine := by rw [List.length_append]; exact l
    have he : ∃ ob, h'.get? a = some ob := let ⟨ob, _, _, hq, _⟩ := m'; ⟨ob, hq⟩
    exact ⟨y, _, d_write I (by rw [e]; exact True.intro) s' he (dk_new hl hd e2 m'), r2, h2 q⟩
end
end L2

set_option Elab.async false
set_option linter.all false
set_option maxRecDepth 100000
set_option maxHeartbeats 4000000
namespace L2
open PySem PySem.Spec PyProof.Rows

/-! ### list(d.items()) -/
def IV (v d : Addr) : Heap → Prop := fun h => h.IsItemsView v d
def rItems : V → List V → Hp → VK → Prop := fun x vs H Q => ∃ (d : Addr) (kvs : List (Key × V)), x = .ref d ∧ vs = [] ∧ H d = some (.dK kvs) ∧ ∀ v, H v = none → Q (.ref v) (upd H v (.ext (IV v d)))
section
variable {X : Cx} {o e : Expr} {es : List Expr} {to : TE} {t : TA} {apos cpos : Pos}
theorem mt_items : MtR X "dict.items" rItems := by
  intro pins s σ H x vs v us Q I rx rv h
  obtain ⟨d, kvs, rfl, rfl, e, q⟩ := h
  cases rx
  cases rv
  obtain ⟨z, hd, ws, rel, dd⟩ := dk_of I.hok e
  refine call_meetsIn PySem.F.slot_dict_items dd.typeIs PySem.F.entry_dict_items (PySem.F.args_dict_items_1 _) (meets_dict_items (mixKind X.prog X.w) d hd) ⟨⟨ws, dd⟩, ?_⟩
  refine ⟨.ref s.heap.objs.size, _, I.laid (t' := s.toks) (a := s.heap.objs.size) (o := .ext (IV s.heap.objs.size d)) (fun b u e => Heap.get?_push_of_some _ e) (Nat.le_refl _) ?_, rfl, q _ (I.hok.fresh (Nat.le_refl _))⟩
  have g : (s.heap.push { cls := .type "dict_items", data := .fields #[.ref d] }).get? s.heap.objs.size = some { cls := .type "dict_items", data := .fields #[.ref d] } := Heap.get?_push_size _ rfl
  exact ⟨⟨_, g, rfl, rfl⟩, ⟨_, g⟩, fun h1 h2 ⟨ob, e1, r⟩ k => ⟨ob, k ob e1, r⟩⟩
end
section
variable {X : Cx} {o e : Expr} {es : List Expr} {to : TE} {t : TA} {apos cpos : Pos}
theorem pe_m.setdefault (ho : PE X o to) (ha : PA X (e :: es) t) (hbase : attributeBase o "setdefault" X.env (eval o X.env) = eval o X.env := by rfl)
    (hfew : ((backTo cpos (starEach (e :: es) X.env)).all (fun x => !x.1) && (backToKw cpos (keywordEach [] X.env)).all (fun x => x.1.isSome) && decide ((e :: es).length + ([] : List Keyword).length + (if ([] : List Keyword).isEmpty then 0 else 1) < 30)) = true := by rfl)
    (hline : (apos.endLine == cpos.line) = true := by rfl) (hs : starEach (e :: es) X.env = (false, eval e X.env) :: starEach es X.env := by rfl) (hplain : (backTo cpos (starEach es X.env)).any (·.1) = false := by rfl) :
    PE X (.Call (.Attribute o "setdefault" apos) (e :: es) [] cpos) (tBM X.K "dict" rSetD to t) := pe_bm F.plainAttrs_dict F.slot_dict_setdefault F.type_dict_setdefault mt_setD ho ha hbase hfew hline hs hplain
theorem pe_m.items (ho : PE X o to) (hbase : attributeBase o "items" X.env (eval o X.env) = eval o X.env := by rfl) (hline : (apos.endLine == cpos.line) = true := by rfl) :
    PE X (.Call (.Attribute o "items" apos) [] [] cpos) (tBM0 X.K "dict" rItems to) := pe_bm0 F.plainAttrs_dict F.slot_dict_items F.type_dict_items mt_items ho hbase hline
end
end L2

set_option Elab.async false
set_option linter.all false
set_option maxRecDepth 100000
set_option maxHeartbeats 4000000
namespace L2
open PySem PySem.Spec PyProof.Rows
section
variable {X : Cx}
end
end L2

set_option Elab.async false
set_option linter.all false
set_option maxRecDepth 100000
set_option maxHeartbeats 4000000
namespace L2
open PySem PySem.Spec PyProof.Rows
section
variable {M : Model} {A : Around} {E : Value → Shared → Prop} {s : Shared} {env : Env} {K : PySem.W.Frag} {D : Addr}
end
end L2

set_option Elab.async false
set_option linter.all false
set_option maxRecDepth 100000
set_option maxHeartbeats 4000000
namespace L2
open PySem PySem.Spec PyProof.Rows

/-! ### an exception in flight, its dict kept in view -/
/-- the exception at e, its class, its dict, its newest trace at T, that trace's mark -/
def Fx (h : Heap) (e : Addr) (cls : Value) (dct : Option Addr) (fl : Value) (T : Addr) : Prop :=
  ∃ ob fs oT ts, h.get? e = some ob ∧ ob.cls = cls ∧ ob.dict = dct ∧ ob.data = .fields fs ∧ fs[1]? = some (.ref T) ∧ T ≠ e ∧ h.get? T = some oT ∧ oT.data = .fields ts ∧ ts[3]? = some fl
section
variable {M : Model} {A : Around} {E : Value → Shared → Prop} {s : Shared} {base : Heap} {env : Env} {outer : List Env} {L e : Addr} {ob : Obj} {fs : Array Value} {head : Value} {more : Bool}
end
end L2

set_option Elab.async false
set_option linter.all false
set_option maxRecDepth 100000
set_option maxHeartbeats 4000000
namespace L2
open PySem PySem.Spec PyProof.Rows
section
variable {M : Model} {A : Around} {E : Value → Shared → Prop} {s : Shared} {base : Heap} {env : Env} {outer : List Env} {L e T : Addr} {ob : Obj} {fs : Array Value} {cls fl : Value} {dct : Option Addr}
/-- what a walk of the traces leaves: of all but the things at xs the objects, of the frames up to slots -/
def KeptBut (xs fr : List Addr) (h h' : Heap) : Prop :=
  (∀ b o, b ∉ xs → b ∉ fr → h.get? b = some o → h'.get? b = some o) ∧ ∀ b o, b ∉ xs → h.get? b = some o → ∃ sl, h'.get? b = some { o with slots := sl }
theorem KeptBut.trans {xs ys fr : List Addr} {h h1 h2 : Heap} (a : KeptBut xs fr h h1) (b : KeptBut ys fr h1 h2) : KeptBut (xs ++ ys) fr h h2 :=
  ⟨fun c o n f g => b.1 c o (fun z => n (List.mem_append_right _ z)) f (a.1 c o (fun z => n (List.mem_append_left _ z)) f g), fun c o n g => by
    obtain ⟨s1, g1⟩ := a.2 c o (fun z => n (List.mem_append_left _ z)) g
    obtain ⟨s2, g2⟩ := b.2 c _ (fun z => n (List.mem_append_right _ z)) g1
    exact ⟨s2, g2⟩⟩
end
end L2

set_option Elab.async false
set_option linter.all false
set_option maxRecDepth 100000
set_option maxHeartbeats 4000000
namespace L2
open PySem PySem.Spec PyProof.Rows
/-! ### an own exception with attributes leaves -/
/-- the exception at x, of the class at D, with the dict dct, flies; it and its newest trace are new and untracked -/
structure XG (P : Program) (w : World) (outer : List Env) (H : Hp) (s : Shared) (x D : Addr) (dct : Option Addr) (T : Addr) (H' : Hp) (s' : Shared) : Prop where
  os : s'.os = s.os
  bare : AllBare s'.gens
  un : Un (frs outer) [] H H' s.heap s'.heap
  hok : HOk P w H' s'.heap
  fx : Fx s'.heap x (.ref D) dct .none T
  nx : s.heap.get? x = none
  nT : s.heap.get? T = none
  ux : H' x = none
  uT : H' T = none
section
variable {P : Program} {w : World} {K : PySem.W.Frag} {mg : Str → Option Value} {base : Heap} {N : List Str} {qual : Str} {scope : Scope} {f : Addr} {cdv : Value} {A : Around} {outer : List Env} {s0 : Shared} {H0 : Hp} {E : XK}
end
section
variable {P : Program} {w : World} {K : PySem.W.Frag} {mg : Str → Option Value} {base : Heap}
end
end L2

set_option Elab.async false
set_option linter.all false
set_option maxRecDepth 100000
set_option maxHeartbeats 4000000
namespace L2
open PySem PySem.Spec PyProof.Rows
/-! ### an own exception with attributes is raised -/
/-- the abstract heap without what stands at x -/
def untr (H : Hp) (x : Addr) : Hp := fun b => if b = x then none else H b
theorem untr_ne {H : Hp} {x b : Addr} (h : b ≠ x) : untr H x b = H b := by unfold untr; rw [if_neg h]
theorem untr_same {H : Hp} {x : Addr} : untr H x x = none := by unfold untr; rw [if_pos rfl]
theorem Inv.untr {X : Cx} {pins : List (Addr × Obj)} {σ : St} {H : Hp} {s : Shared} {x : Addr} {φ : Heap → Prop} (I : Inv X pins σ H s) (hx : H x = some (.ext φ)) : Inv X pins σ (untr H x) s := by
  have nt : ∀ b u, H b = some u → (∀ ψ, u ≠ .ext ψ) → b ≠ x := fun b u e n z => by
    rw [z, hx] at e
    cases e
    exact n φ rfl
  have fr : ∀ b, H b = none → L2.untr H x b = none := fun b e => by
    by_cases z : b = x
    · rw [z]; exact untr_same
    · rw [untr_ne z]; exact e
  have hok : HOk X.prog X.w (L2.untr H x) s.heap := fun b u e => by
    by_cases z : b = x
    · rw [z, untr_same] at e
      cases e
    · rw [untr_ne z] at e
      refine (I.hok b u e).stay (fun _ _ _ q => q) (fun c q => ?_) fun c xs q => ?_
      · rw [untr_ne (nt c _ q fun _ z => nomatch z)]; exact q
      · rw [untr_ne (nt c _ q fun _ z => nomatch z)]; exact q
  exact I.un (t' := s.toks) (h' := s.heap) ⟨fun b o e _ _ _ => e, fun b o e _ _ _ => ⟨o.slots, e⟩, fun b o e n _ => fr b n, fun b o e _ => ⟨o, e⟩, fun b xs e => by rw [untr_ne (nt b _ e fun _ z => nomatch z)]; exact e,
    fun b o u e => by rw [untr_ne (nt b _ e fun _ z => nomatch z)]; exact e, fun b ps e => ⟨#[], by rw [untr_ne (nt b _ e fun _ z => nomatch z), e]; simp⟩⟩ hok
section
variable {P : Program} {w : World} {K : PySem.W.Frag} {mg : Str → Option Value} {base : Heap} {N : List Str} {qual : Str} {scope : Scope} {f : Addr} {cdv : Value} {A : Around} {outer : List Env} {s0 : Shared} {H0 : Hp} {E : XK}
end
end L2

set_option Elab.async false
set_option linter.all false
set_option maxRecDepth 100000
set_option maxHeartbeats 4000000
namespace L2
open PySem PySem.Spec PyProof.Rows
/-! ### an own exception with attributes is caught -/
def XCt (a D : Addr) (dct : Option Addr) : Heap → Prop := fun h => ∃ o vs, h.get? a = some o ∧ o.cls = .ref D ∧ o.data = .fields vs ∧ o.dict = dct
theorem XCt.at {a D : Addr} {dct : Option Addr} {h : Heap} (x : XCt a D dct h) : XAt a D h := let ⟨o, _, e, c, _⟩ := x; ⟨o, e, c⟩
section
variable {X : Cx} {pins : List (Addr × Obj)} {σ : St} {H H' : Hp} {s s' : Shared} {x D C T T2 : Addr} {dct : Option Addr} {fl : Value} {h2 : Heap} {xs : List Addr}
end
section
variable {X : Cx} {pins : List (Addr × Obj)} {σ : St} {H H' : Hp} {s s' : Shared} {x D C T : Addr} {dct : Option Addr} {cn en : Str} {ie : Nat} {b₀ : Stmt} {suite : List Stmt} {cp hp : Pos} {ts : TS} {DE : Ends}
end
end L2

set_option Elab.async false
set_option linter.all false
set_option maxRecDepth 100000
set_option maxHeartbeats 4000000
namespace L2
open PySem PySem.Spec PyProof.Rows
section
variable {X : Cx} {k ie : Nat} {f C : Addr} {fd : FuncData} {ps : List Str} {sp : Sp} {dvs : List V} {ds : List Value} {fx cn en : Str} {p pos p2 cp hp tp : Pos} {e : Expr} {es : List Expr} {t : TA} {b₀ : Stmt} {suite : List Stmt} {ts : TS}
end
end L2

set_option linter.all false
namespace FrM
theorem gcd_step (x y : Int) : Int.gcd y (x % y) = Int.gcd x y := by
  have e : x = x % y + y * (x / y) := (Int.emod_add_mul_ediv x y).symm
  rw [Int.gcd_comm x y]
  conv => rhs; rw [e]
  rw [Int.gcd_add_mul_left_right]
def Bt (n : Nat) (i : Int) : Prop := i.natAbs < 2 ^ n
theorem Bt.mono {m n : Nat} {i : Int} (h : Bt m i) (l : m ≤ n) : Bt n i := Nat.lt_of_lt_of_le h (Nat.pow_le_pow_right (by decide) l)
theorem Bt.le {n : Nat} {i j : Int} (h : Bt n i) (l : j.natAbs ≤ i.natAbs) : Bt n j := Nat.lt_of_le_of_lt l h
theorem Bt.sub {n : Nat} {i j : Int} (h : Bt n i) (h' : Bt n j) : Bt (n + 1) (i - j) := by
  unfold Bt at *
  rw [Nat.pow_succ]
  omega
theorem Bt.neg {n : Nat} {i : Int} (h : Bt n i) : Bt n (-i) := by
  unfold Bt at *
  omega
/-- what is told of a fraction -/
structure Low (T B t b : Int) : Prop where
  pos : 1 ≤ b
  cop : Int.gcd t b = 1
  eq : t * B = T * b
theorem low (t b : Int) (hb : 0 < b) : 0 < (Int.gcd t b : Int) ∧ (Int.gcd t b : Int) ≤ b ∧ Low t b (t / (Int.gcd t b : Int)) (b / (Int.gcd t b : Int)) ∧ (t / (Int.gcd t b : Int)).natAbs ≤ t.natAbs ∧ (b / (Int.gcd t b : Int)).natAbs ≤ b.natAbs := by
  have hg : 0 < Int.gcd t b := Int.gcd_pos_iff.mpr (.inr (by omega))
  have hgi : 0 < (Int.gcd t b : Int) := by omega
  have d1 := Int.gcd_dvd_left t b
  have d2 := Int.gcd_dvd_right t b
  have e1 := Int.ediv_mul_cancel d1
  have e2 := Int.ediv_mul_cancel d2
  have hle : (Int.gcd t b : Int) ≤ b := Int.le_of_dvd hb d2
  refine ⟨hgi, hle, ⟨?_, Int.gcd_ediv_gcd_ediv_gcd hg, ?_⟩, ?_, ?_⟩
  · have := Int.ediv_pos_of_pos_of_dvd hb (by omega) d2
    omega
  · rw [← Int.mul_ediv_assoc _ d2, Int.mul_comm, ← Int.mul_ediv_assoc _ d1, Int.mul_comm]
  · have := congrArg Int.natAbs e1
    rw [Int.natAbs_mul] at this
    rw [← this]
    exact Nat.le_mul_of_pos_right _ (by simpa using hg)
  · have := congrArg Int.natAbs e2
    rw [Int.natAbs_mul] at this
    rw [← this]
    exact Nat.le_mul_of_pos_right _ (by simpa using hg)
theorem Low.neg {T B t b : Int} (h : Low (-T) (-B) t b) : Low T B t b := ⟨h.pos, h.cop, by have := h.eq; rw [Int.mul_neg, Int.neg_mul] at this; omega⟩
theorem dvd_cop {b t b' : Int} (c : Int.gcd t b = 1) (h : b ∣ t * b') : b ∣ b' := by
  rw [← Int.natAbs_dvd_natAbs] at *
  rw [Int.natAbs_mul] at h
  exact Nat.Coprime.dvd_of_dvd_mul_left (by rw [Nat.coprime_comm]; exact c) h
/-- two fractions in lowest terms that are equal across are equal -/
theorem Low.uniq {T B t b t' b' : Int} (hB : B ≠ 0) (h : Low T B t b) (h' : Low T B t' b') : t = t' ∧ b = b' := by
  have e : t * b' = t' * b := by
    have : (t * b') * B = (t' * b) * B := by
      rw [Int.mul_assoc, Int.mul_comm b' B, ← Int.mul_assoc, h.eq, Int.mul_assoc t' b B, Int.mul_comm b B, ← Int.mul_assoc, h'.eq, Int.mul_assoc, Int.mul_assoc, Int.mul_comm b b']
    exact Int.eq_of_mul_eq_mul_right hB this
  have d1 : b ∣ b' := by
    have : b ∣ t * b' := ⟨t', by rw [e, Int.mul_comm]⟩
    exact dvd_cop h.cop this
  have d2 : b' ∣ b := by
    have : b' ∣ t' * b := ⟨t, by rw [← e, Int.mul_comm]⟩
    exact dvd_cop h'.cop this
  have eb : b = b' := Int.dvd_antisymm (by have := h.pos; omega) (by have := h'.pos; omega) d1 d2
  refine ⟨?_, eb⟩
  rw [eb] at e
  exact Int.eq_of_mul_eq_mul_right (by have := h'.pos; omega) e
end FrM

set_option linter.all false
set_option maxRecDepth 100000
namespace L2
open PySem PySem.Spec PyProof.Rows FrM
section
variable {X : Cx}
/-! ### products and quotients of great numbers -/
def CMulB (i j : Int) : Prop := (Bt 8000 i ∧ Bt 8000 j) ∨ CMul i j
theorem CMulB.ok {i j : Int} (h : CMulB i j) : IntMulOk i j := by
  rcases h with ⟨h1, h2⟩ | h
  · exact IntMulOk.of_le (m := 8000) (n := 8000) (intBits_le_iff.mpr h1) (intBits_le_iff.mpr h2) (by decide)
  · exact h.ok
def CDivB (i j : Int) : Prop := 0 < j ∧ Bt 8000 j
theorem CDivB.no {i j : Int} (h : CDivB i j) : Builtin.divisionGoesByPylong i j = false := by
  refine PyProof.noPylong_of_log2 ?_
  have h2 : j.natAbs < 2 ^ 8000 := h.2
  by_cases h0 : j.natAbs = 0
  · rw [h0]; decide +kernel
  · have : j.natAbs.log2 < 8000 := (Nat.log2_lt h0).mpr h2
    omega
theorem op_mulB : OpR X (binaryOp .Mult) (rI CMulB fun i j => .int (i * j)) := opI fun _ _ _ _ _ _ _ hc q => mul_int q hc.ok
theorem op_fdivB : OpR X (binaryOp .FloorDiv) (rI CDivB fun i j => .int (i / j)) := opI fun i j _ _ _ _ _ hc q => by
  have h1 : (0 : Int) < j := hc.1
  exact floordiv_int (by omega) (by rw [Int.fdiv_eq_ediv_of_nonneg i (by omega)]; exact q) (.inl hc.no)
theorem o_mulB : OpR X (binaryOp .Mult) (rIC CMulB fun i j => .int (i * j)) := op_mulB.ic
theorem o_fdivB : OpR X (binaryOp .FloorDiv) (rIC CDivB fun i j => .int (i / j)) := op_fdivB.ic
theorem cmB {i j : Int} {m n : Nat} (h : Bt m i) (h' : Bt n j) (hm : m ≤ 8000 := by decide) (hn : n ≤ 8000 := by decide) : CMulB i j := .inl ⟨h.mono hm, h'.mono hn⟩
theorem clB {i j : Int} (h : -(2 ^ 64) < i := by decide) (h2 : i < 2 ^ 64 := by decide) : CMulB i j := .inr (cl h h2)
theorem crB {i j : Int} (h : -(2 ^ 64) < j := by decide) (h2 : j < 2 ^ 64 := by decide) : CMulB i j := .inr (cr h h2)
theorem cdB {i j : Int} {n : Nat} (h : 0 < j) (h' : Bt n j) (hn : n ≤ 8000 := by decide) : CDivB i j := ⟨h, h'.mono hn⟩
theorem bt_abs : bootBuiltins "abs" = some (.builtin "abs") := by decide +kernel
end
end L2

set_option Elab.async false
set_option linter.all false
set_option maxRecDepth 100000
set_option maxHeartbeats 4000000
namespace L2
open PySem PySem.Spec PyProof.Rows
/-! ### long rows of arguments (the layer's own rule is slow for them) -/
def isSt : Expr → Bool
  | .Starred .. => true
  | _ => false
theorem star_cons {e : Expr} {es : List Expr} {env : Env} (h : isSt e = false) : starEach (e :: es) env = (false, eval e env) :: starEach es env := by
  cases e <;> first | rfl | cases h
theorem pa_consQ {X : Cx} {e : Expr} {es : List Expr} {te : TE} {t : TA} (ha : PE X e te) (hr : PA X es t) (h : isSt e = false := by rfl) : PA X (e :: es) (tCons te t) := pa_cons ha hr (star_cons h)
/-- a text's last return of one of twelve told things; the judgment is kept whole (unfolding it is slow) -/
@[irreducible] def PSq (X : Cx) (sts : List Stmt) (t : TS) : Prop := PSs X sts t
theorem pss_consI {X : Cx} {st : Stmt} {sts : List Stmt} {t u : TS} (h1 : PS X st t) (h2 : PSq X sts u) : PSs X (st :: sts) (tSeq t u) := by
  unfold PSq at h2
  exact pss_cons h1 h2
/-- two promises of one def -/
theorem FnOk.or {P : Program} {w : World} {K : PySem.W.Frag} {mg : Str → Option Value} {base : Heap} {CX : CXT} {k : Nat} {f : Addr} {fd : FuncData} {ps : List Str} {sp sp' : Sp} (F : FnOk P w K mg base CX k f fd ps sp) (F' : FnOk P w K mg base CX k f fd ps sp') :
    FnOk P w K mg base CX k f fd ps (fun vs H Q E => sp vs H Q E ∨ sp' vs H Q E) :=
  ⟨fun vs H Q E h => h.elim (F.len vs H Q E) (F'.len vs H Q E), fun A outer s H args us vs Q E hr he hb hv hs => hs.elim (F.run A outer s H args us vs Q E hr he hb hv) (F'.run A outer s H args us vs Q E hr he hb hv)⟩
section
variable {X : Cx} {k ie ir : Nat} {f C : Addr} {fd : FuncData} {ps : List Str} {sp : Sp} {dvs : List V} {ds : List Value} {fx cn en rn : Str} {p pos p2 p3 cp hp tp : Pos} {e : Expr} {es : List Expr} {t : TA} {b₀ : Stmt} {suite : List Stmt} {ts : TS}
end
end L2

set_option linter.all false
namespace FrM
def lowP (t b : Int) : Int × Int := (t / (Int.gcd t b : Int), b / (Int.gcd t b : Int))
def sz (z : List Int) (k : Nat) : Int := z.getD k 0
def sumL (z : List Int) (l : List Nat) : Int := (l.map (sz z)).sum
def stay (z : List Int) (l : List Nat) (w : Int) : List Nat := l.filter fun k => decide (sz z k * w < sumL z l)
theorem stay_le (z : List Int) (l : List Nat) (w : Int) : (stay z l w).length ≤ l.length := List.length_filter_le _ _
def fin (z : List Int) (l : List Nat) (w : Int) : List Nat × Int :=
  if (stay z l w).length = l.length then (l, w) else fin z (stay z l w) (w - ((l.length : Int) - ((stay z l w).length : Int)))
termination_by l.length
decreasing_by
  have := stay_le z l w
  omega
theorem fin_stop {z : List Int} {l : List Nat} {w : Int} (h : (stay z l w).length = l.length) : fin z l w = (l, w) := by
  rw [fin, if_pos h]
theorem fin_go {z : List Int} {l : List Nat} {w : Int} (h : (stay z l w).length ≠ l.length) : fin z l w = fin z (stay z l w) (w - ((l.length : Int) - ((stay z l w).length : Int))) := by
  rw [fin, if_neg h]
theorem sumL_ge (z : List Int) : ∀ (l : List Nat), (∀ k ∈ l, 1 ≤ sz z k) → (l.length : Int) ≤ sumL z l
  | [], _ => by simp [sumL]
  | a :: l, h => by
    have := sumL_ge z l (fun k hk => h k (List.mem_cons_of_mem _ hk))
    have h1 := h a List.mem_cons_self
    unfold sumL at *
    rw [List.map_cons, List.sum_cons, List.length_cons]
    omega
theorem sum_ge_mul (z : List Int) (w S : Int) : ∀ (l : List Nat), (∀ k ∈ l, S ≤ sz z k * w) → (l.length : Int) * S ≤ sumL z l * w
  | [], _ => by simp [sumL]
  | a :: l, h => by
    have := sum_ge_mul z w S l (fun k hk => h k (List.mem_cons_of_mem _ hk))
    have h1 := h a List.mem_cons_self
    unfold sumL at *
    rw [List.map_cons, List.sum_cons, List.length_cons, Int.add_mul]
    have e : ((l.length + 1 : Nat) : Int) * S = (l.length : Int) * S + S := by rw [Int.natCast_add, Int.add_mul]; simp
    rw [e]
    omega
theorem stay_pos {z : List Int} {l : List Nat} {w : Int} (hz : ∀ k ∈ l, 1 ≤ sz z k) (hw : w < l.length) (hl : 0 < l.length) : 0 < (stay z l w).length := by
  by_cases h : 0 < (stay z l w).length
  · exact h
  · exfalso
    have e : stay z l w = [] := List.length_eq_zero_iff.mp (by omega)
    have hall : ∀ k ∈ l, sumL z l ≤ sz z k * w := fun k hk => by
      have := (List.filter_eq_nil_iff.mp e) k hk
      simp at this
      exact this
    have h1 := sum_ge_mul z w (sumL z l) l hall
    have h2 := sumL_ge z l hz
    have h3 : 0 < sumL z l := by omega
    rw [Int.mul_comm (sumL z l) w] at h1
    have := Int.le_of_mul_le_mul_right h1 h3
    omega
/-- what is kept round by round -/
structure Rnd (z : List Int) (n : Nat) (m : Int) (l : List Nat) (w : Int) : Prop where
  pos : 0 < l.length
  sub : ∀ k ∈ l, k < n
  lt : w < l.length
  dif : w - l.length = m - n
  fil : l = (List.range n).filter fun k => decide (k ∈ l)
theorem Rnd.len {z : List Int} {n : Nat} {m : Int} {l : List Nat} {w : Int} (h : Rnd z n m l w) : l.length ≤ n := by
  have e := congrArg List.length h.fil
  have := List.length_filter_le (fun k => decide (k ∈ l)) (List.range n)
  rw [List.length_range] at this
  omega
theorem Rnd.start {z : List Int} {n : Nat} {m : Int} (h0 : 0 < n) (hm : m < n) : Rnd z n m (List.range n) m := by
  refine ⟨by rw [List.length_range]; exact h0, fun k hk => List.mem_range.mp hk, by rw [List.length_range]; exact hm, by rw [List.length_range], ?_⟩
  rw [List.filter_eq_self.mpr]
  intro k hk
  exact decide_eq_true hk
theorem Rnd.step {z : List Int} {n : Nat} {m : Int} {l : List Nat} {w : Int} (hz : ∀ k, k < n → 1 ≤ sz z k) (h : Rnd z n m l w) : Rnd z n m (stay z l w) (w - ((l.length : Int) - ((stay z l w).length : Int))) := by
  have hp := stay_pos (fun k hk => hz k (h.sub k hk)) h.lt h.pos
  refine ⟨hp, fun k hk => h.sub k (List.mem_filter.mp hk).1, by have := h.lt; omega, by have := h.dif; omega, ?_⟩
  have e : (List.range n).filter (fun k => decide (k ∈ stay z l w)) = ((List.range n).filter fun k => decide (k ∈ l)).filter fun k => decide (sz z k * w < sumL z l) := by
    rw [List.filter_filter]
    refine List.filter_congr fun k _ => ?_
    rw [Bool.eq_iff_iff]
    simp [stay]
    exact And.comm
  rw [e, ← h.fil]
  rfl
theorem Rnd.fin {z : List Int} {n : Nat} {m : Int} (hz : ∀ k, k < n → 1 ≤ sz z k) : ∀ (c : Nat) (l : List Nat) (w : Int), l.length ≤ c → Rnd z n m l w → Rnd z n m (fin z l w).1 (fin z l w).2
  | 0, l, w, hc, h => absurd h.pos (by omega)
  | c + 1, l, w, hc, h => by
    by_cases e : (stay z l w).length = l.length
    · rw [fin_stop e]; exact h
    · rw [fin_go e]
      have := stay_le z l w
      exact Rnd.fin hz c _ _ (by omega) (h.step hz)
/-- the shares over one bottom -/
structure Top (m : Int) (n : Nat) (S : Int) (N : Nat → Int) : Prop where
  pos : 0 < S
  all : ((List.range n).map N).sum = m * S
/-- what is due -/
def due (z : List Int) (m : Int) : List (Int × Int) :=
  if (z.length : Int) ≤ m then z.map fun _ => (1, 1) else if m = 0 then z.map fun _ => (0, 1)
  else (List.range z.length).map fun k => if decide (k ∈ (fin z (List.range z.length) m).1) = true then lowP (sz z k * (fin z (List.range z.length) m).2) (sumL z (fin z (List.range z.length) m).1) else (1, 1)
end FrM

set_option Elab.async false
set_option linter.all false
set_option maxRecDepth 100000
set_option maxHeartbeats 4000000
namespace L2
open PySem PySem.Spec PyProof.Rows
/-! ### tuples of ints that the text holds -/
/-! ### isinstance of these, too -/
def TyS (K : PySem.W.Frag) (H : Hp) (x : V) (t : Value) : Prop := TyOf K H x t ∨ ∃ a xs, x = .ref a ∧ t = .type "tuple" ∧ SqT K H a xs
section
variable {X : Cx}
open PySem.W in
theorem kit_ofS {pins : List (Addr × Obj)} {σ : St} {H : Hp} {s : Shared} {x : V} {u t : Value} (I : Inv X pins σ H s) (rx : RelV x u) (ty : TyS X.K H x t) :
    ∃ Hh : Heap → Prop, KitX X.K u t Hh ∧ Hh s.heap ∧ u ≠ .builtin "__main__.__loader__#opaque" := by
  rcases ty with ty | ⟨a, xs, rfl, rfl, hq⟩
  · exact kit_of I rx ty
  · cases (show u = Value.ref a from rx)
    obtain ⟨its, rv, p, hz⟩ := I.tuple hq
    exact ⟨_, PySem.W.kitx_tuple, let ⟨o, e, c, _⟩ := p; ⟨o, e, c⟩, fun z => nomatch z⟩
/-! ### sum of ints -/
theorem bt_sum : bootBuiltins "sum" = some (.builtin "sum") := by decide +kernel
theorem ints_are : ∀ {ns : List Int} {us : List Value}, Vals (ns.map V.int) us → IntsAre us ns
  | [], _, .nil => .nil
  | n :: ns, _, .cons r t => by
    obtain ⟨t', rfl⟩ := r
    exact .cons _ _ (ints_are t)
theorem call_sumI (hc : X.calm = true) : CallR X (.builtin "sum") (fun xs H Q => ∃ (p : Addr) (ns : List Int), xs = [.ref p] ∧ SqL X.K H p (ns.map V.int) ∧ Q (.int ns.sum) H) := by
  intro pins s σ H xs us Q I r h
  obtain ⟨p, ns, rfl, hq, q⟩ := h
  obtain ⟨u, rfl, rx⟩ := vals1 r
  cases rx
  obtain ⟨its, rv, pl, hz⟩ := I.list hq
  have hi := ints_are rv
  obtain ⟨xs, ex⟩ := hi.allInts.items
  have e2 : (numsOf its) = ns := hi.numsOf
  refine sum_intListG (I.ok.hd hc) (xs := xs) (by rw [← ex]; exact pl.isList) fun h' tk t' hk => ?_
  have e3 : preSum (numAt xs) xs.size = ns.sum := by
    rw [preSum_eq, List.take_of_length_le (by simp), ← e2, ← nums_intItems, ← ex]
  rw [e3]
  exact ⟨.int ns.sum, H, I.kept hk, ⟨_, rfl⟩, q⟩
/-! ### list(range(n)) -/
/-! ### for k in range(a, b, c), c from 1 on -/
def Itr3 (lo c : Int) (n : Nat) : It := ⟨fun i _ => i < n, fun i H x H' => H' = H ∧ x = .int (lo + i * c), fun i _ => n ≤ i⟩
theorem turn_range3 {P : Program} {w : World} {K : PySem.W.Frag} {tg : Expr} (it : Addr) (lo c : Int) (n : Nat) : Turn P w K tg (Itr3 lo c n) [it] it (fun i h => IsRangeIter h it (lo + (i : Nat) * c) ((n : Int) - (i : Nat)) c) where
  mem := by simp
  obj := fun i h st b hb => by
    have e : b = it := by simpa using hb
    subst e
    exact ⟨_, st, fun v z => by
      have z' : Data.fields _ = Data.cell v := z
      cases z'⟩
  keep := fun i h h' st k => k it (by simp) _ st
  item := by
    intro X hP hw hK hc i pins s σ H E I hf st hg
    subst hP hw hK
    obtain ⟨f0, f1, f2, f3, f4, f5⟩ := hf it (by simp)
    have W := Walks.range (prog := X.prog) (w := X.w) (I.ok.hd hc) it lo c n
    refine W.item i s _ _ hg st fun v h' tk hv st' kk => ?_
    obtain ⟨t, rfl⟩ := hv
    have I1 : Inv X pins σ H { s with heap := h', toks := tk } := I.turned (fun b o hb e => kk b o (by simpa using hb) e) f0 f1 f3 f4 f5
    exact ⟨_, rfl, go_of (s := { s with heap := h', toks := tk }) (n := "range_iterator") st' rfl rfl (by decide) ⟨.int (lo + i * c), H, I1, ⟨t, rfl⟩, ⟨rfl, rfl⟩, st', fun b hb => (hf b hb).1⟩⟩
  done := by
    intro X hP hw hK hc i pins s σ H E I hf st hg
    subst hP hw hK
    obtain ⟨f0, f1, f2, f3, f4, f5⟩ := hf it (by simp)
    exact wpAny_pyNext_range_end (I.ok.hd hc) st (by have : n ≤ i := hg; omega) fun h' eb => ⟨rfl, I.turned (t' := s.toks) (fun b o hb e => eb b o hb e) f0 f1 f3 f4 f5⟩
  self := fun _ _ _ _ _ st h => wpAny_pyIter_rangeiter st h
theorem for_range3 {lo c : Int} {n : Nat} {g : TG} {tb : TS} {D : Ends} {σ : St} {H : Hp} (Pv : Nat → St → Hp → Prop) (h0 : Pv 0 σ H)
    (hs : ∀ i σ H, i < n → Pv i σ H → g (.int (lo + i * c)) σ H fun σ2 H2 => tb { D with nx := Pv (i + 1), ct := Pv (i + 1), bk := D.nx } σ2 H2) (hd : ∀ σ H, Pv n σ H → D.nx σ H) :
    ∃ W : Nat → Nat → St → Hp → Prop, (∃ m, W 0 m σ H) ∧ ∀ i m σ H, W i m σ H →
      ((Itr3 lo c n).stop i H ∧ D.nx σ H) ∨ ((Itr3 lo c n).go i H ∧ ∃ N : St → Hp → Prop, (∀ σ' H', N σ' H' → ∃ m', m' < m ∧ W (i + 1) m' σ' H') ∧ ∀ x H', (Itr3 lo c n).yld i H x H' → g x σ H' fun σ2 H2 => tb { D with nx := N, ct := N, bk := D.nx } σ2 H2) := by
  refine ⟨fun i m σ H => m = n - i ∧ i ≤ n ∧ Pv i σ H, ⟨n, by simp, Nat.zero_le _, h0⟩, ?_⟩
  rintro i m σ H ⟨rfl, hi, p⟩
  by_cases hlt : i < n
  · refine .inr ⟨hlt, Pv (i + 1), fun σ' H' p' => ⟨n - (i + 1), by omega, rfl, hlt, p'⟩, fun x H' y => ?_⟩
    obtain ⟨e, y⟩ := y
    subst e y
    exact hs i σ _ hlt p
  · have e : i = n := by omega
    subst e
    exact .inl ⟨Nat.le_refl _, hd σ H p⟩
end
end L2

set_option Elab.async false
set_option linter.all false
set_option maxRecDepth 100000
set_option maxHeartbeats 4000000
namespace HT
open PySem PySem.Spec PyProof.Rows
section
variable {prog : Program} {w : World} {A : Around} {E : Value → Shared → Prop} {s : Shared}
end
end HT
namespace L2
open PySem PySem.Spec PyProof.Rows
section
variable {X : Cx}
/-! ### () + t is t itself -/
/-! ### long rows, kept whole (unfolding the judgment is slow) -/
@[irreducible] def PAq (X : Cx) (es : List Expr) (t : TA) : Prop := PA X es t
theorem paq_nil : PAq X [] tNil := by unfold PAq; exact pa_nil
end
end L2

set_option Elab.async false
set_option linter.all false
set_option maxRecDepth 100000
namespace L2
open PySem PySem.Spec PyProof.Rows
/-! ### (a, b, ..) = a list of that length -/
section
variable {X : Cx} {pos : Pos}
end
end L2

set_option Elab.async false
set_option linter.all false
set_option maxRecDepth 100000
namespace L2
open PySem PySem.Spec PyProof.Rows
section
variable {X : Cx}
/-! ### o[i] op= e over a list -/
/-! ### lists of the same objects -/
end
end L2

set_option Elab.async false
set_option linter.all false
set_option maxRecDepth 100000
namespace L2
open PySem PySem.Spec PyProof.Rows
section
variable {X : Cx} {k : Nat} {f : Addr} {fd : FuncData} {ps : List Str} {sp : Sp} {x : Str} {p pos : Pos} {e : Expr} {es : List Expr} {t : TA} {tf : TE} {ds : List Value} {dvs : List V} {CX : CXT} {E : XK}
/-! ### a def handed in, and called by its name here -/
end
end L2

set_option Elab.async false
set_option linter.all false
set_option maxRecDepth 100000
set_option maxHeartbeats 4000000
namespace L2
open PySem PySem.Spec PyProof.Rows
section
variable {X : Cx} {a b c d : Expr} {ta tb tc td : TE} {pos : Pos}
/-! ### a chain of three comparisons -/
end
section
variable {X : Cx} {o e : Expr} {es : List Expr} {to : TE} {t : TA} {apos cpos : Pos}
theorem pe_m.extend (ho : PE X o to) (ha : PA X (e :: es) t) (hbase : attributeBase o "extend" X.env (eval o X.env) = eval o X.env := by rfl)
    (hfew : ((backTo cpos (starEach (e :: es) X.env)).all (fun x => !x.1) && (backToKw cpos (keywordEach [] X.env)).all (fun x => x.1.isSome) && decide ((e :: es).length + ([] : List Keyword).length + (if ([] : List Keyword).isEmpty then 0 else 1) < 30)) = true := by rfl)
    (hline : (apos.endLine == cpos.line) = true := by rfl) (hs : starEach (e :: es) X.env = (false, eval e X.env) :: starEach es X.env := by rfl) (hplain : (backTo cpos (starEach es X.env)).any (·.1) = false := by rfl) :
    PE X (.Call (.Attribute o "extend" apos) (e :: es) [] cpos) (tBM X.K "list" rExtend to t) := pe_bm F.plainAttrs_list F.slot_list_extend F.type_list_extend mt_extend ho ha hbase hfew hline hs hplain
end
end L2

set_option Elab.async false
set_option linter.all false
set_option maxRecDepth 100000
set_option maxHeartbeats 4000000
namespace L2
open PySem PySem.Spec PyProof.Rows
/-! ### enumerate over a tuple -/
section
variable {prog : Program} {w : World} {A : Around} {E : Value → Shared → Prop} {s : Shared}
theorem nxt_tup {it tp : Addr} {j : Nat} {zs : Array Value} {y : Value} {Q : Value → Shared → Prop} (st : s.heap.IsTupleIter it tp j) (hz : s.heap.IsTuple tp zs) (hy : zs[j]? = some y)
    (q : ∀ g, g.IsTupleIter it tp (j + 1) → Heap.SameBut it s.heap g → Q y { s with heap := g }) : wpAny (model prog w) A (Builtin.SmallTypes.nextOf (.ref it)) Q E s := by
  obtain ⟨u, hu, uc, ud⟩ := id st
  obtain ⟨v, hv, _, vn, vd⟩ := hz
  unfold Builtin.SmallTypes.nextOf
  refine wpAny_bind (wpAny_callSpecial?_slot (name := Str.ofString "__next__") st.typeIs F.slot_tuple_iterator_next (wpAny_call_entry F.slot_tuple_iterator_next st.typeIs F.entry_tuple_iterator_next ?_ (F.args_tuple_iterator_next_1 _)))
  show wpAny _ _ (field (Value.ref it) 0 >>= _) _ _ s
  refine wpAny_bind (wpAny_field hu ud (x := .ref tp) rfl ?_)
  show wpAny _ _ (if (Value.ref tp == Value.none) = true then _ else _) _ _ s
  rw [if_neg (show ¬ ((Value.ref tp == Value.none) = true) from Bool.false_ne_true)]
  show wpAny _ _ (field (Value.ref it) 1 >>= _) _ _ s
  refine wpAny_bind (wpAny_field hu ud (x := .int j 0) rfl ?_)
  show wpAny _ _ (seqItems? (.ref tp) >>= _) _ _ s
  refine wpAny_bind (wpAny_seqItems hv vd ?_)
  simp only [Int.toNat_natCast, hy]
  refine wpAny_bind (wpAny_setField hu ud (by simp) (wpAny_pure ⟨y, rfl, wpAny_pure (q _ ?_ (Heap.SameBut.update ..))⟩))
  exact ⟨_, Heap.get?_update_self _ hu (Obj.isFreed_of_fields (Obj.data_mapFields ud _)), (Obj.cls_mapFields ..).trans uc, by rw [Obj.data_mapFields ud]; simp [rawInt]⟩
theorem nxt_tup_end {it tp : Addr} {j : Nat} {zs : Array Value} {Q : Value → Shared → Prop} (hh : A.handled = none) (st : s.heap.IsTupleIter it tp j) (hz : s.heap.IsTuple tp zs) (hy : zs[j]? = none)
    (q : ∀ g x, Heap.ExtBut it s.heap g → (∃ o, g.get? x = some o ∧ o.cls = .type "StopIteration") → E (.ref x) { s with heap := g }) : wpAny (model prog w) A (Builtin.SmallTypes.nextOf (.ref it)) Q E s := by
  obtain ⟨u, hu, uc, ud⟩ := id st
  obtain ⟨v, hv, _, vn, vd⟩ := hz
  unfold Builtin.SmallTypes.nextOf
  refine wpAny_bind (wpAny_callSpecial?_slot (name := Str.ofString "__next__") st.typeIs F.slot_tuple_iterator_next (wpAny_call_entry F.slot_tuple_iterator_next st.typeIs F.entry_tuple_iterator_next ?_ (F.args_tuple_iterator_next_1 _)))
  show wpAny _ _ (field (Value.ref it) 0 >>= _) _ _ s
  refine wpAny_bind (wpAny_field hu ud (x := .ref tp) rfl ?_)
  show wpAny _ _ (if (Value.ref tp == Value.none) = true then _ else _) _ _ s
  rw [if_neg (show ¬ ((Value.ref tp == Value.none) = true) from Bool.false_ne_true)]
  show wpAny _ _ (field (Value.ref it) 1 >>= _) _ _ s
  refine wpAny_bind (wpAny_field hu ud (x := .int j 0) rfl ?_)
  show wpAny _ _ (seqItems? (.ref tp) >>= _) _ _ s
  refine wpAny_bind (wpAny_seqItems hv vd ?_)
  simp only [Int.toNat_natCast, hy]
  refine wpAny_bind (wpAny_rule (wpAny_bind (wpAny_setField hu ud (by simp) ?_)))
  show wpAny _ _ (newExc (Value.type "StopIteration") [] >>= _) _ _ _
  refine wpAny_bind ?_; simp only [newExc, newTuple]; refine wpAny_bind (wpAny_newObj_type ?_ (by size_fits))
  refine wpAny_bind (m := firstArgMember _ _) (wpAny_of_eq (a := Value.none) (by first | rfl | (simp only [firstArgMember]; rfl)) ?_); refine wpAny_newObj_type ?_ (by size_fits)
  simp only [raiseNew]; refine wpAny_bind (wpAny_handled ?_)
  first | rw [show A.in1.handled = none from hh] | rw [hh] | rw [show A.in1.in1.handled = none from hh]
  refine wpAny_bind (wpAny_pure (wpAny_throw ?_))
  exact q _ _ (((Heap.SameBut.update ..).extBut.push _).push _) ⟨_, Heap.get?_push_size _ rfl, rfl⟩
theorem tup_draws {it tp : Addr} {zs : Array Value} (hne : tp ≠ it) (hh : A.handled = none) : Draws prog w A it [it, tp] zs.size (fun i x => zs[i]? = some x) (fun i g => g.IsTupleIter it tp i ∧ g.IsTuple tp zs) where
  live := fun i g st => let ⟨⟨o, ho, _⟩, _⟩ := st; ⟨o, ho⟩
  frame := fun i g g' st kp => by
    obtain ⟨⟨o, ho, r⟩, v, hv, r2⟩ := st
    exact ⟨⟨o, kp it (by simp) o ho, r⟩, v, kp tp (by simp) v hv, r2⟩
  item := fun i s Q E hi st q => by
    have ex : zs[i]? = some zs[i] := by simp [hi]
    exact nxt_tup st.1 st.2 ex fun g g1 sb => q _ g s.toks ex ⟨g1, st.2.extBut sb.extBut hne⟩ sb
  done := fun s Q E st q => nxt_tup_end hh st.1 st.2 (by simp) fun g x eb ho => q g x eb ho
theorem enum_newT (tp : Addr) (zs : Array Value) (m : Nat) (dt : Option Addr) (sl : Array (Option Value)) : Meets (Builtin.«enumerate.__new__» ⟨[.type "enumerate", .ref tp], []⟩) (fun _ R s => s.heap.get? tp = some { cls := .type "tuple", dict := dt, data := .seq zs m, slots := sl } ∧
      R (.ok (.ret (.ref (s.heap.push { cls := .type "tuple_iterator", data := .fields #[.ref tp, .int 0 0] }).objs.size))) { s with heap := (s.heap.push { cls := .type "tuple_iterator", data := .fields #[.ref tp, .int 0 0] }).push { cls := .type "enumerate", data := .fields #[.none, .bool false, .ref s.heap.objs.size, rawInt 0, .none, .none] } }) :=
  .of_wp fun prog w A R s h => by
    obtain ⟨hp, g, d, tk, os⟩ := s; obtain ⟨hq, h⟩ := h
    have hsub := sub_enumerate
    have hT : Heap.IsTuple (Shared.heap ⟨hp, g, d, tk, os⟩) tp zs := ⟨_, hq, rfl, m, rfl⟩
    wp_walk using PySem.AutoSeq1.wpAny_loadPart' hq
    refine wpAny_stack_any fun st => wpAny_pure ?_
    split
    · rename_i c _ _ _ _ _; cases (c == Value.type "enumerate")
      · wp_walk using PySem.AutoSeq1.wpAny_loadPart' hq, wpAny_pyIter_tuple hT
        exact ⟨_, rfl, h⟩
      · wp_walk using PySem.AutoSeq1.wpAny_loadPart' hq, wpAny_pyIter_tuple hT
        exact ⟨_, rfl, h⟩
    · wp_walk using PySem.AutoSeq1.wpAny_loadPart' hq, wpAny_pyIter_tuple hT
      exact ⟨_, rfl, h⟩
theorem call_enumT {tp : Addr} {zs : Array Value} {Q : Value → Shared → Prop} (hT : s.heap.IsTuple tp zs)
    (h : ∀ g, IsEnum g (s.heap.objs.size + 1) s.heap.objs.size 0 .none → g.IsTupleIter s.heap.objs.size tp 0 → g.objs.size = s.heap.objs.size + 2 → (∀ b o, s.heap.get? b = some o → g.get? b = some o) → Q (.ref (s.heap.objs.size + 1)) { s with heap := g }) :
    wpAny (model prog w) A (call (.type "enumerate") [.ref tp]) Q E s := by
  obtain ⟨⟨c, dct, dt, sl⟩, hl, hc, m, hd⟩ := hT
  replace hc : c = .type "tuple" := hc
  replace hd : dt = .seq zs m := hd
  subst hc hd
  refine callType_new F.called_enumerate (by decide) (F.typeCall_enumerate_1 _) (F.newCall_enumerate_1 _) (fun obj => F.args_object_init_2 obj _) F.entry_enumerate_new (enum_newT tp zs m dct sl) ⟨hl, ?_⟩
  have hz : (s.heap.push { cls := .type "tuple_iterator", data := .fields #[.ref tp, .int 0 0] }).objs.size = s.heap.objs.size + 1 := Heap.size_push ..
  show _ ∧ _; rw [hz]
  have he : IsEnum ((s.heap.push { cls := .type "tuple_iterator", data := .fields #[.ref tp, .int 0 0] }).push { cls := .type "enumerate", data := .fields #[.none, .bool false, .ref s.heap.objs.size, rawInt 0, .none, .none] }) (s.heap.objs.size + 1) s.heap.objs.size 0 .none := by
    have z := Heap.get?_push_size (s.heap.push { cls := .type "tuple_iterator", data := .fields #[.ref tp, .int 0 0] }) (o := { cls := .type "enumerate", data := .fields #[.none, .bool false, .ref s.heap.objs.size, rawInt 0, .none, .none] }) rfl
    rw [hz] at z; exact z
  exact ⟨⟨_, he, rfl⟩, h _ he ⟨_, Heap.get?_push_of_some _ (Heap.get?_push_size _ rfl), rfl, rfl⟩ (by rw [Heap.size_push, hz]) fun b o x => Heap.get?_push_of_some _ (Heap.get?_push_of_some _ x)⟩
end
/-- (i, the item) of the tracked tuple at a -/
def Itu (a : Addr) : It := ⟨fun i H => ∃ xs x, H a = some (.tup xs) ∧ xs[i]? = some x,
  fun i H x H' => ∃ p y, H p = none ∧ x = .ref p ∧ (∀ xs, H a = some (.tup xs) → xs[i]? = some y) ∧ H' = upd H p (.tup [.int (i : Nat), y]), fun i H => ∃ xs, H a = some (.tup xs) ∧ xs.length ≤ i⟩
theorem turn_enumT {P : Program} {w : World} {K : PySem.W.Frag} {es : List Expr} {k : Nat} {pos : Pos} (a e it : Addr) (hne : e ≠ it) (hat : a ≠ it) :
    Turn P w K (.Tuple es k pos) (Itu a) [e, it] e (fun i h => (∃ old, IsEnum h e it i old) ∧ h.IsTupleIter it a i) where
  mem := by simp
  obj := fun i h st b hb => by
    obtain ⟨⟨old, he⟩, o, h1, h2, h3⟩ := st
    rcases List.mem_cons.mp hb with rfl | hb
    · exact ⟨_, he, fun v z => by cases z⟩
    · rw [List.mem_singleton.mp hb]
      exact ⟨o, h1, fun v z => by rw [h3] at z; cases z⟩
  keep := fun i h h' st kp => by
    obtain ⟨⟨old, he⟩, o, h1, r⟩ := st
    exact ⟨⟨old, kp e (by simp) _ he⟩, o, kp it (by simp) o h1, r⟩
  item := by
    intro X hP hw hK hc i pins s σ H E I hf st hg
    subst hP hw hK
    obtain ⟨⟨old, he⟩, hit⟩ := st
    obtain ⟨xs, x, hl, hx⟩ := hg
    obtain ⟨_, its, rv, ot, hot, hoc, n, hod⟩ := (show ObjOk X.prog X.w H s.heap a (.tup xs) from I.hok a _ hl)
    obtain ⟨u, hu, ru⟩ := Vals.get rv hx
    have hT : s.heap.IsTuple a its.toArray := ⟨ot, hot, hoc, n, hod⟩
    have hsz : i < its.toArray.size := by
      have := (List.getElem?_eq_some_iff.mp hu).1
      simpa using this
    have hea : e ≠ a := fun z => by
      have he' := he
      unfold IsEnum at he'
      rw [z, hot] at he'
      cases he'
      exact absurd hoc (fun h => by injection h with h; exact absurd h (by decide))
    refine wpAny_pyNext_enum_itemD (tup_draws hat (I.ok.hd hc)) he ⟨hit, hT⟩ hsz hne (by simp [hne, hea]) fun u' h1 tk hP' e1 e2 e3 e4 e5 => ?_
    have eu : u' = u := by
      have z : its.toArray[i]? = some u := by simpa using hu
      rw [hP'] at z; cases z; rfl
    subst eu
    refine ⟨_, rfl, wpAny_letOwnedTupleGo_enum e1 fun h2 e6 sb => ?_⟩
    have hps : s.heap.objs.size ≠ e := fun q => absurd (Heap.lt_size he) (by rw [← q]; exact Nat.lt_irrefl _)
    have hpi : s.heap.objs.size ≠ it := fun q => by
      obtain ⟨o, ho, _⟩ := hit
      exact absurd (Heap.lt_size ho) (by rw [← q]; exact Nat.lt_irrefl _)
    have hn : H s.heap.objs.size = none := I.hok.fresh (Nat.le_refl _)
    have e3' : h2.get? s.heap.objs.size = some { cls := .type "tuple", data := .seq #[.int i tk, u'] } := (sb.2 _ hps).trans e3
    have J : Inv X pins σ (upd H s.heap.objs.size (.tup [.int (i : Nat), x])) { s with heap := h2, toks := tk + 1 } := by
      refine I.turnedNew (ch := [e, it]) (fun b o hb q => ?_) hf (Nat.le_refl _) ⟨by rw [sizeLine_eq]; show 2 ≤ 16777216; decide, [.int i tk, u'], .cons ⟨_, rfl⟩ (.cons ru .nil), _, e3', rfl, 0, rfl⟩
      have b1 : b ≠ e := fun z => hb (by simp [z])
      have b2 : b ≠ it := fun z => hb (by simp [z])
      exact (sb.2 b b1).trans (e5 b o b1 b2 q)
    refine ⟨.ref s.heap.objs.size, _, J, rfl, ⟨s.heap.objs.size, x, hn, rfl, fun ys hy => ?_, rfl⟩, ⟨⟨u', ?_⟩, ?_⟩, fun b hb => ?_⟩
    · rw [hl] at hy
      cases hy
      exact hx
    · have e6' : IsEnum h2 e it ((i : Int) + 1) u' := e6
      have e7 : ((i + 1 : Nat) : Int) = (i : Int) + 1 := by omega
      rw [e7]
      exact e6'
    · obtain ⟨⟨o, ho, r⟩, _⟩ := e2
      exact ⟨o, (sb.2 it (Ne.symm hne)).trans ho, r⟩
    · have hb' : b ≠ s.heap.objs.size := by
        rcases List.mem_cons.mp hb with rfl | hb
        · exact hps.symm
        · rw [List.mem_singleton.mp hb]; exact hpi.symm
      rw [upd_ne hb']
      exact (hf b hb).1
  done := by
    intro X hP hw hK hc i pins s σ H E I hf st hg
    subst hP hw hK
    obtain ⟨⟨old, he⟩, hit⟩ := st
    obtain ⟨xs, hl, hx⟩ := hg
    obtain ⟨_, its, rv, ot, hot, hoc, n, hod⟩ := (show ObjOk X.prog X.w H s.heap a (.tup xs) from I.hok a _ hl)
    have hT : s.heap.IsTuple a its.toArray := ⟨ot, hot, hoc, n, hod⟩
    have hl2 := rv.length
    have hno : its.toArray[i]? = none := by simp; omega
    unfold pyNext
    refine wpAny_bind (wpAny_attempt (wpAny_callSpecial?_slot (name := Str.ofString "__next__") (⟨_, he, rfl⟩ : s.TypeIs (.ref e) "enumerate") F.slot_enumerate_next (wpAny_call_entry F.slot_enumerate_next (⟨_, he, rfl⟩ : s.TypeIs (.ref e) "enumerate") F.entry_enumerate_next ?_ (F.args_enumerate_next_1 _))))
    show wpAny _ _ (field (Value.ref e) 2 >>= _) _ _ _
    refine wpAny_bind (wpAny_field he rfl (x := Value.ref it) rfl ?_)
    refine wpAny_bind (nxt_tup_end (I.ok.hd hc) hit hT hno fun h1 x1 eb hx1 => ?_)
    obtain ⟨o1, ho1, hc1⟩ := hx1
    refine wpAny_bind (wpAny_isInstance (T := "StopIteration") (b := true) ⟨o1, ho1, hc1⟩ isSubtype_stop (wpAny_pure ?_))
    exact ⟨rfl, I.turnedN (ch := [e, it]) (t' := s.toks) (fun b o hb q => eb b o (fun z => hb (by simp [z])) q) hf⟩
  self := fun _ _ _ _ _ st h => by
    obtain ⟨⟨old, he⟩, _⟩ := st
    exact wpAny_pyIter_enum he h
def iEnumT (ta : TA) : TI := fun σ H R => ta σ H fun vs H1 => ∃ a xs, vs = [.ref a] ∧ H1 a = some (.tup xs) ∧ R (Itu a) H1
theorem pi_enumT {X : Cx} {es : List Expr} {k : Nat} {tpos : Pos} {e : Expr} {ta : TA} {p pos : Pos} (hg : Gl X "enumerate") (hm : X.mg "enumerate" = none) (ha : PA X [e] ta) (hs : starEach [e] X.env = [(false, eval e X.env)] := by rfl) :
    PI X (.Tuple es k tpos) (.Call (.Name "enumerate" p) [e] [] pos) (iEnumT ta) := by
  intro pins s σ H R I h
  refine wpAny_Call_Name_kw (ld_blt I hg hm bt_enumerate ?_ (by decide) (by decide))
  refine PyProof.Rows.callWith_type1 (thn (ha pos pins s σ H _ I h) fun us s1 ⟨vs, H1, I1, r1, a, xs, e1, hl, q⟩ => ?_) hs rfl
  subst e1
  obtain ⟨u, rfl, ru⟩ := vals1 r1
  cases ru
  obtain ⟨_, its, rv, ot, hot, hoc, n, hod⟩ := (show ObjOk X.prog X.w H1 s1.heap a (.tup xs) from I1.hok a _ hl)
  refine call_enumT (zs := its.toArray) ⟨ot, hot, hoc, n, hod⟩ fun h2 e1 e2 e3 e4 => ?_
  have I2 : Inv X pins σ H1 { s1 with heap := h2 } := I1.kept (t' := s1.toks) e4
  have hne : s1.heap.objs.size + 1 ≠ s1.heap.objs.size := Nat.succ_ne_self _
  have hat : a ≠ s1.heap.objs.size := Nat.ne_of_lt (Heap.lt_size hot)
  refine wpAny_pyIter_enum e1 ?_
  refine ⟨s1.heap.objs.size + 1, [s1.heap.objs.size + 1, s1.heap.objs.size], _, _, H1, rfl, I2, turn_enumT a _ _ hne hat, ⟨⟨_, e1⟩, e2⟩, fun b hb => ?_, q⟩
  have hb' : s1.heap.objs.size ≤ b := by
    rcases List.mem_cons.mp hb with rfl | hb
    · omega
    · rw [List.mem_singleton.mp hb]
      exact Nat.le_refl _
  exact I1.fpOk hb' (I1.hok.fresh hb')
/-- over enumerate(xs), the tuple stays -/
theorem for_enumT {a : Addr} {xs : List V} {g : TG} {tb : TS} {D : Ends} {σ : St} {H : Hp} (Pv : Nat → St → Hp → Prop) (h0 : Pv 0 σ H) (hl : ∀ i σ H, Pv i σ H → H a = some (.tup xs))
    (hs : ∀ (i : Nat) x σ H p, xs[i]? = some x → Pv i σ H → H p = none → g (.ref p) σ (upd H p (.tup [.int (i : Nat), x])) fun σ2 H2 => tb { D with nx := Pv (i + 1), ct := Pv (i + 1), bk := D.nx } σ2 H2) (hd : ∀ σ H, Pv xs.length σ H → D.nx σ H) :
    ∃ W : Nat → Nat → St → Hp → Prop, (∃ m, W 0 m σ H) ∧ ∀ i m σ H, W i m σ H →
      ((Itu a).stop i H ∧ D.nx σ H) ∨ ((Itu a).go i H ∧ ∃ N : St → Hp → Prop, (∀ σ' H', N σ' H' → ∃ m', m' < m ∧ W (i + 1) m' σ' H') ∧ ∀ x H', (Itu a).yld i H x H' → g x σ H' fun σ2 H2 => tb { D with nx := N, ct := N, bk := D.nx } σ2 H2) := by
  refine ⟨fun i m σ H => m = xs.length - i ∧ i ≤ xs.length ∧ Pv i σ H, ⟨_, rfl, Nat.zero_le _, h0⟩, ?_⟩
  rintro i m σ H ⟨rfl, hi, p⟩
  have q := hl i σ H p
  by_cases hlt : i < xs.length
  · refine .inr ⟨⟨xs, xs[i], q, by simp [hlt]⟩, Pv (i + 1), fun σ' H' p' => ⟨_, by omega, rfl, hlt, p'⟩, fun x H' y => ?_⟩
    obtain ⟨b, v, hb, rfl, hv, rfl⟩ := y
    exact hs i v σ H b (hv xs q) p hb
  · have e : i = xs.length := by omega
    subst e
    exact .inl ⟨⟨xs, q, Nat.le_refl _⟩, hd σ H p⟩
end L2

set_option Elab.async false
set_option linter.all false
set_option maxRecDepth 100000
set_option maxHeartbeats 4000000
namespace L2
open PySem PySem.Spec PyProof.Rows
section
variable {X : Cx}
/-! ### for k in range(a, b, -1) -/
theorem small_down {a b : Int} (ha : 0 ≤ a) (ha' : a < 2 ^ 60) (hb : -(2 ^ 60) ≤ b) (hb' : b < 2 ^ 60) : Builtin.Range.small a b (-1) = true := by
  unfold Builtin.Range.small Builtin.Range.rangeSize
  simp only [Builtin.Range.rangeFitsLong, Bool.and_eq_true, Bool.or_eq_true, decide_eq_true_eq, beq_iff_eq, show ¬ ((-1 : Int) > 0) by decide, if_false, show (-(-1 : Int)) = 1 by decide, Int.ediv_one]
  split <;> omega
theorem down_size {a b : Int} (h : b ≤ a) : (((a - b).toNat : Nat) : Int) = Builtin.Range.rangeSize a b (-1) := by
  unfold Builtin.Range.rangeSize
  simp only [show ¬ ((-1 : Int) > 0) by decide, if_false, show (-(-1 : Int)) = 1 by decide, Int.ediv_one]
  split <;> omega
def iRngD (ta : TA) : TI := fun σ H R => ta σ H fun vs H1 => ∃ i j : Int, vs = [.int i, .int j, .int (-1)] ∧ (0 ≤ i ∧ i < 2 ^ 60 ∧ -(2 ^ 60) ≤ j ∧ j ≤ i) ∧ R (Itr3 i (-1) (i - j).toNat) H1
theorem range_itD {tg : Expr} {pins : List (Addr × Obj)} {σ : St} {H : Hp} {s : Shared} {R : It → Hp → Prop} {E : Value → Shared → Prop} {lo hi : Int} {t u v : Tok} {tk : Nat} (I : Inv X pins σ H s) (h1 : 0 ≤ lo) (h2 : lo < 2 ^ 60) (h3 : -(2 ^ 60) ≤ hi) (h4 : hi ≤ lo)
    (q : R (Itr3 lo (-1) (lo - hi).toNat) H) : wpAny (model X.prog X.w) X.A (pyIter (.ref s.heap.objs.size)) (PIE X pins σ tg R) E { s with heap := s.heap.push { cls := .type "range", data := .fields #[.int lo t, .int hi u, .int (-1) v] }, toks := tk } := by
  refine wpAny_pyIter_range (IsRange.new ..) (small_down h1 h2 h3 (by omega)) ?_
  have I1 : Inv X pins σ H { s with heap := s.heap.push { cls := .type "range", data := .fields #[.int lo t, .int hi u, .int (-1) v] }, toks := tk } := I.kept fun b o e => Heap.get?_push_of_some _ e
  refine ⟨(s.heap.push { cls := .type "range", data := .fields #[.int lo t, .int hi u, .int (-1) v] }).objs.size, [(s.heap.push { cls := .type "range", data := .fields #[.int lo t, .int hi u, .int (-1) v] }).objs.size], _, _, H, rfl,
    I1.kept (t' := tk) fun b o e => Heap.get?_push_of_some _ e, turn_range3 _ lo (-1) (lo - hi).toNat, ?_, fun b hb => ?_, q⟩
  · have e1 : lo + ((0 : Nat) : Int) * (-1) = lo := by simp
    have e2 : (((lo - hi).toNat : Nat) : Int) - ((0 : Nat) : Int) = Builtin.Range.rangeSize lo hi (-1) := by rw [down_size h4]; simp
    show IsRangeIter _ _ (lo + ((0 : Nat) : Int) * (-1)) ((((lo - hi).toNat : Nat) : Int) - ((0 : Nat) : Int)) (-1)
    rw [e1, e2]
    exact Heap.get?_push_size _ rfl
  · have e : b = (s.heap.push { cls := .type "range", data := .fields #[.int lo t, .int hi u, .int (-1) v] }).objs.size := by simpa using hb
    subst e
    exact I1.fpOk (Nat.le_refl _) (I1.hok.fresh (Nat.le_refl _))
theorem pi_rangeD {tg a b c : Expr} {ta : TA} {p pos : Pos} (hg : Gl X "range") (hm : X.mg "range" = none) (ha : PA X [a, b, c] ta) (hs : starEach [a, b, c] X.env = [(false, eval a X.env), (false, eval b X.env), (false, eval c X.env)] := by rfl) (hs2 : starEach [b, c] X.env = [(false, eval b X.env), (false, eval c X.env)] := by rfl) :
    PI X tg (.Call (.Name "range" p) [a, b, c] [] pos) (iRngD ta) := by
  intro pins s σ H R I h
  refine Call_ (ld_blt I hg hm boot_range (PyProof.Rows.callWith_type1 (thn (ha pos pins s σ H _ I h) fun us s1 ⟨vs, H1, I1, r1, q1⟩ => ?_) (by rw [hs, hs2]) (by rw [hs2]; rfl)))
  obtain ⟨i, j, e, ⟨q1, q2, q3, q4⟩, q⟩ := q1
  subst e
  cases r1 with
  | cons r rr =>
    cases rr with
    | cons r' rr =>
      cases rr with
      | cons r'' rr =>
        cases rr
        obtain ⟨t, rfl⟩ := r
        obtain ⟨t', rfl⟩ := r'
        obtain ⟨t'', rfl⟩ := r''
        exact call_range_3 (by decide) (range_itD I1 q1 q2 q3 q4 q) (.inl (PyProof.noPylong_of_log2 (by decide +kernel)))
end
end L2

set_option linter.all false
namespace Wr
/-- how many sets of some places there are -/
def ch : Nat → Nat → Nat
  | _, 0 => 1
  | 0, _ + 1 => 0
  | n + 1, k + 1 => ch n k + ch n (k + 1)
theorem ch_zero (n : Nat) : ch n 0 = 1 := by cases n <;> rfl
theorem ch_succ (n k : Nat) : ch (n + 1) (k + 1) = ch n k + ch n (k + 1) := rfl
theorem ch_gt : ∀ {n k : Nat}, n < k → ch n k = 0
  | 0, k + 1, _ => rfl
  | n + 1, k + 1, h => by rw [ch_succ, ch_gt (by omega), ch_gt (by omega)]
theorem ch_pos : ∀ {n k : Nat}, k ≤ n → 0 < ch n k
  | n, 0, _ => by rw [ch_zero]; decide
  | n + 1, k + 1, h => by rw [ch_succ]; have := ch_pos (n := n) (k := k) (by omega); omega
theorem ch_step : ∀ {n k : Nat}, k ≤ n → ch n (k + 1) * (k + 1) = ch n k * (n - k)
  | 0, 0, _ => rfl
  | n + 1, 0, _ => by
    have ih := ch_step (n := n) (k := 0) (by omega)
    rw [ch_zero] at ih
    rw [ch_succ, ch_zero, ch_zero]
    omega
  | n + 1, k + 1, h => by
    have i1 := ch_step (n := n) (k := k) (by omega)
    rw [ch_succ n (k + 1), ch_succ n k]
    by_cases c : k + 1 ≤ n
    · have i2 := ch_step (n := n) (k := k + 1) c
      obtain ⟨m, rfl⟩ : ∃ m, n = k + 1 + m := ⟨n - (k + 1), by omega⟩
      have e1 : k + 1 + m - k = m + 1 := by omega
      have e2 : k + 1 + m - (k + 1) = m := by omega
      have e3 : k + 1 + m + 1 - (k + 1) = m + 1 := by omega
      rw [e1] at i1
      rw [e2] at i2
      rw [e3]
      grind
    · have e : n = k := by omega
      subst e
      have e1 : ch n (n + 1) = 0 := ch_gt (by omega)
      have e2 : ch n (n + 1 + 1) = 0 := ch_gt (by omega)
      rw [e1, e2, Nat.sub_self]
      simp
/-- the row of sets is bent -/
theorem ch_bent {n k : Nat} : ch n k * ch n (k + 2) ≤ ch n (k + 1) * ch n (k + 1) := by
  by_cases c : k + 1 ≤ n
  · have i1 := ch_step (n := n) (k := k) (by omega)
    have i2 := ch_step (n := n) (k := k + 1) c
    obtain ⟨m, rfl⟩ : ∃ m, n = k + 1 + m := ⟨n - (k + 1), by omega⟩
    have e1 : k + 1 + m - k = m + 1 := by omega
    have e2 : k + 1 + m - (k + 1) = m := by omega
    rw [e1] at i1
    rw [e2] at i2
    generalize ch (k + 1 + m) k = a at *
    generalize ch (k + 1 + m) (k + 1) = b at *
    generalize ch (k + 1 + m) (k + 2) = d at *
    -- b (k+1) = a (m+1), d (k+2) = b m
    have h : (a * d) * ((k + 2) * (m + 1)) = (b * b) * ((k + 1) * m) := by
      have : (a * (m + 1)) * (d * (k + 2)) = (b * (k + 1)) * (b * m) := by rw [← i1, ← i2]
      grind
    have h2 : (b * b) * ((k + 1) * m) ≤ (b * b) * ((k + 2) * (m + 1)) := Nat.mul_le_mul_left _ (Nat.mul_le_mul (by omega) (by omega))
    rw [← h] at h2
    exact Nat.le_of_mul_le_mul_right h2 (Nat.mul_pos (by omega) (by omega))
  · rw [ch_gt (n := n) (k := k + 2) (by omega)]; omega
/-! sums -/
def sm (h : Nat → Nat) : Nat → Nat
  | 0 => 0
  | n + 1 => sm h n + h n
theorem sm_congr {h g : Nat → Nat} : ∀ {n : Nat}, (∀ i < n, h i = g i) → sm h n = sm g n
  | 0, _ => rfl
  | n + 1, e => by rw [sm, sm, sm_congr (fun i hi => e i (by omega)), e n (by omega)]
theorem sm_add (h g : Nat → Nat) : ∀ n, sm (fun i => h i + g i) n = sm h n + sm g n
  | 0 => rfl
  | n + 1 => by rw [sm, sm, sm, sm_add h g n]; omega
/-- shifted by one -/
theorem sm_shift (o g : Nat → Nat) : ∀ n, sm (fun f => o f * g (f + 1)) n = sm (fun f => (match f with | 0 => 0 | f + 1 => o f) * g f) (n + 1)
  | 0 => by simp [sm]
  | n + 1 => by rw [sm, sm_shift o g n]; rfl
section
variable (op : Nat → Nat → Bool)
/-- in how many ways it comes to so many found, when so many are looked at -/
def W : Nat → Nat → Nat
  | 0, 0 => 1
  | 0, _ + 1 => 0
  | k + 1, 0 => if op k 0 = true then W k 0 else 0
  | k + 1, f + 1 => (if op k (f + 1) = true then W k (f + 1) else 0) + (if op k f = true then W k f else 0)
def O (k f : Nat) : Nat := if op k f = true then W op k f else 0
theorem W_zero (k : Nat) : W op (k + 1) 0 = O op k 0 := rfl
theorem W_succ (k f : Nat) : W op (k + 1) (f + 1) = O op k (f + 1) + O op k f := rfl
theorem W_gt : ∀ {k f : Nat}, k < f → W op k f = 0
  | 0, f + 1, _ => rfl
  | k + 1, f + 1, h => by
    have h1 : W op k (f + 1) = 0 := W_gt (by omega)
    have h2 : W op k f = 0 := W_gt (by omega)
    rw [W_succ]; unfold O; rw [h1, h2]; simp
theorem O_gt {k f : Nat} (h : k < f) : O op k f = 0 := by unfold O; rw [W_gt op h]; simp
variable (N : Nat) (c : Nat → Nat → Nat)
/-- reckoned from the end back -/
def G : Nat → Nat → Nat → Nat → Nat
  | 0, k, f, r => c k f * ch (N - k) r
  | d + 1, k, f, r => if op k f = true then G d (k + 1) f r + (match r with | 0 => 0 | r + 1 => G d (k + 1) (f + 1) r) else c k f * ch (N - k) r
theorem G_zero (k f r : Nat) : G op N c 0 k f r = c k f * ch (N - k) r := by rw [G.eq_def]
theorem G_succ (d k f r : Nat) : G op N c (d + 1) k f r = if op k f = true then G op N c d (k + 1) f r + (match r with | 0 => 0 | r + 1 => G op N c d (k + 1) (f + 1) r) else c k f * ch (N - k) r := by rw [G.eq_def]
variable (b n : Nat)
def chb (k f : Nat) : Nat := if f ≤ b then ch (N - k) (b - f) else 0
def gk (k f : Nat) : Nat := if f ≤ b then G op N c (n - k) k f (b - f) else 0
/-- what ends at so many looked at -/
def en (k : Nat) : Nat := sm (fun f => if op k f = true then 0 else c k f * (W op k f * chb N b k f)) (k + 1)
def T (k : Nat) : Nat := sm (fun f => W op k f * gk op N c b n k f) (k + 1)
theorem gk_open {k f : Nat} (hk : k < n) (ho : op k f = true) : gk op N c b n k f = gk op N c b n (k + 1) f + gk op N c b n (k + 1) (f + 1) := by
  unfold gk
  obtain ⟨d, hd⟩ : ∃ d, n - k = d + 1 := ⟨n - k - 1, by omega⟩
  have hd2 : n - (k + 1) = d := by omega
  rw [hd, hd2]
  by_cases c1 : f ≤ b
  · rw [if_pos c1, if_pos c1, G_succ, if_pos ho]
    cases hr : b - f with
    | zero => rw [if_neg (by omega)]
    | succ r => rw [if_pos (by omega), show b - (f + 1) = r by omega]
  · rw [if_neg c1, if_neg c1, if_neg (by omega)]
theorem gk_shut {k f : Nat} (ho : op k f = false) : gk op N c b n k f = c k f * chb N b k f := by
  unfold gk chb
  by_cases c1 : f ≤ b
  · rw [if_pos c1, if_pos c1]
    cases n - k with
    | zero => rw [G_zero]
    | succ d => rw [G_succ, if_neg (by rw [ho]; decide)]
  · rw [if_neg c1, if_neg c1, Nat.mul_zero]
theorem T_step {k : Nat} (hk : k < n) : T op N c b n k = en op N c b k + T op N c b n (k + 1) := by
  have h1 : T op N c b n k = sm (fun f => (if op k f = true then 0 else c k f * (W op k f * chb N b k f)) + (O op k f * gk op N c b n (k + 1) f + O op k f * gk op N c b n (k + 1) (f + 1))) (k + 1) := by
    refine sm_congr fun f _ => ?_
    cases ho : op k f with
    | true =>
      rw [gk_open op N c b n hk ho]
      have e : O op k f = W op k f := by unfold O; rw [ho]; rfl
      rw [e, Nat.mul_add]
      exact (Nat.zero_add _).symm
    | false =>
      rw [gk_shut op N c b n ho]
      have e : O op k f = 0 := by unfold O; rw [ho]; rfl
      rw [e, Nat.zero_mul, Nat.zero_mul, ← Nat.mul_assoc, Nat.mul_comm (W op k f), Nat.mul_assoc]
      rfl
  rw [h1, sm_add, sm_add, sm_shift (O op k) (gk op N c b n (k + 1))]
  unfold en T
  congr 1
  have h2 : sm (fun f => O op k f * gk op N c b n (k + 1) f) (k + 1) = sm (fun f => O op k f * gk op N c b n (k + 1) f) (k + 1 + 1) := by
    show _ = sm (fun f => O op k f * gk op N c b n (k + 1) f) (k + 1) + O op k (k + 1) * gk op N c b n (k + 1) (k + 1)
    rw [O_gt op (by omega), Nat.zero_mul]
    exact (Nat.add_zero _).symm
  rw [h2, ← sm_add]
  refine sm_congr fun f _ => ?_
  cases f with
  | zero => rw [W_zero]; simp
  | succ f => rw [W_succ, Nat.add_mul]
theorem T_end (hl : ∀ f, op n f = false) : T op N c b n n = en op N c b n := by
  refine sm_congr fun f _ => ?_
  rw [gk_shut op N c b n (hl f), hl f]
  simp only [Bool.false_eq_true, if_false]
  rw [← Nat.mul_assoc, ← Nat.mul_assoc, Nat.mul_comm (W op n f)]
theorem T_sum : ∀ {k : Nat}, k ≤ n → T op N c b n 0 = sm (fun j => en op N c b j) k + T op N c b n k
  | 0, _ => by simp [sm]
  | k + 1, h => by rw [T_sum (k := k) (by omega), T_step op N c b n (by omega), sm]; omega
/-- all endings together are what the way back tells -/
theorem total (hl : ∀ f, op n f = false) : sm (fun j => en op N c b j) (n + 1) = G op N c n 0 0 b := by
  have h := T_sum op N c b n (Nat.le_refl n)
  rw [T_end op N c b n hl] at h
  rw [sm, ← h]
  unfold T
  rw [sm, sm, Nat.zero_add, W, Nat.one_mul]
  unfold gk
  rw [if_pos (Nat.zero_le _), Nat.sub_zero, Nat.sub_zero]
end
/-! more bad ones, seldom let by -/
section
variable (op by_ : Nat → Nat → Bool) (N : Nat)
def cb (k f : Nat) : Nat := if by_ k f = true then 1 else 0
theorem G_le : ∀ {d k f r : Nat}, k + d ≤ N → G op N (cb by_) d k f r ≤ ch (N - k) r
  | 0, k, f, r, _ => by
    rw [G_zero]; unfold cb; split
    · omega
    · omega
  | d + 1, k, f, r, h => by
    rw [G_succ]
    by_cases ho : op k f = true
    · rw [if_pos ho]
      obtain ⟨m, hm⟩ : ∃ m, N - k = m + 1 := ⟨N - k - 1, by omega⟩
      have hm2 : N - (k + 1) = m := by omega
      rw [hm]
      cases r with
      | zero =>
        have := G_le (d := d) (k := k + 1) (f := f) (r := 0) (by omega)
        rw [hm2, ch_zero] at this
        rw [ch_zero]
        exact this
      | succ r =>
        have h1 := G_le (d := d) (k := k + 1) (f := f) (r := r + 1) (by omega)
        have h2 := G_le (d := d) (k := k + 1) (f := f + 1) (r := r) (by omega)
        rw [hm2] at h1 h2
        rw [ch_succ]
        show G op N (cb by_) d (k + 1) f (r + 1) + G op N (cb by_) d (k + 1) (f + 1) r ≤ _
        omega
    · rw [if_neg ho]; unfold cb; split
      · omega
      · omega
/-- the kinds of words at a look -/
structure Mono : Prop where
  opby : ∀ k f, op k f = true → by_ k f = false
  by_le : ∀ k f, by_ k (f + 1) = true → by_ k f = true
  down : ∀ k f, op k f = false → by_ k f = false → op k (f + 1) = false ∧ by_ k (f + 1) = false
variable (M : Mono op by_)
include M
/-- one more found is worse -/
theorem G_found : ∀ {d k f r : Nat}, k + d ≤ N → G op N (cb by_) d k (f + 1) r ≤ G op N (cb by_) d k f r := by
  intro d
  induction d with
  | zero =>
    intro k f r _
    rw [G_zero, G_zero]
    refine Nat.mul_le_mul_right _ ?_
    unfold cb
    by_cases h : by_ k (f + 1) = true
    · rw [if_pos h, if_pos (M.by_le k f h)]; exact Nat.le_refl _
    · rw [if_neg h]; exact Nat.zero_le _
  | succ d ih =>
    intro k f r h
    by_cases hb : by_ k f = true
    · have ho : ¬ op k f = true := fun z => by rw [M.opby k f z] at hb; cases hb
      have e : G op N (cb by_) (d + 1) k f r = ch (N - k) r := by rw [G_succ, if_neg ho]; unfold cb; rw [if_pos hb, Nat.one_mul]
      rw [e]
      exact G_le op by_ N h
    · by_cases ho : op k f = true
      · by_cases ho1 : op k (f + 1) = true
        · rw [G_succ, G_succ, if_pos ho, if_pos ho1]
          have i1 := ih (k := k + 1) (f := f) (r := r) (by omega)
          cases r with
          | zero => exact Nat.add_le_add i1 (Nat.le_refl _)
          | succ r => exact Nat.add_le_add i1 (ih (k := k + 1) (f := f + 1) (r := r) (by omega))
        · have hb1 : ¬ by_ k (f + 1) = true := fun z => hb (M.by_le k f z)
          rw [G_succ op N (cb by_) d k (f + 1) r, if_neg ho1]
          unfold cb
          rw [if_neg hb1, Nat.zero_mul]
          exact Nat.zero_le _
      · have hb' : by_ k f = false := by cases e : by_ k f with | true => exact absurd e hb | false => rfl
        have ho' : op k f = false := by cases e : op k f with | true => exact absurd e ho | false => rfl
        obtain ⟨z1, z2⟩ := M.down k f ho' hb'
        rw [G_succ op N (cb by_) d k (f + 1) r, if_neg (by rw [z1]; decide)]
        unfold cb
        rw [if_neg (by rw [z2]; decide), Nat.zero_mul]
        exact Nat.zero_le _
theorem mix {g0 g1 h0 h1 a c d : Nat} (A1 : g1 * c ≤ g0 * d) (A2 : h1 * a ≤ h0 * c) (B : h1 ≤ g0) (L : a * d ≤ c * c) (hc : 0 < c) : (g1 + h1) * (a + c) ≤ (g0 + h0) * (c + d) := by
  clear M
  refine Nat.le_of_mul_le_mul_left (?_ : c * ((g1 + h1) * (a + c)) ≤ c * ((g0 + h0) * (c + d))) hc
  have k1 : (g1 * c) * a ≤ (g0 * d) * a := Nat.mul_le_mul_right _ A1
  have k2 : (g1 * c) * c ≤ (g0 * d) * c := Nat.mul_le_mul_right _ A1
  have k3 : (h1 * a) * c ≤ (h0 * c) * c := Nat.mul_le_mul_right _ A2
  have k4 : (h1 * a) * d ≤ (h0 * c) * d := Nat.mul_le_mul_right _ A2
  obtain ⟨e, he⟩ : ∃ e, c * c = a * d + e := ⟨c * c - a * d, by omega⟩
  have k5 : h1 * e ≤ g0 * e := Nat.mul_le_mul_right _ B
  have q1 : c * ((g1 + h1) * (a + c)) = (g1 * c) * a + (g1 * c) * c + (h1 * a) * c + h1 * (c * c) := by grind
  have q2 : c * ((g0 + h0) * (c + d)) = g0 * (c * c) + (g0 * d) * c + (h0 * c) * c + (h0 * c) * d := by grind
  rw [q1, q2, he, Nat.mul_add, Nat.mul_add]
  have q3 : h1 * (a * d) = (h1 * a) * d := by grind
  have q4 : g0 * (a * d) = (g0 * d) * a := by grind
  rw [q3, q4]
  omega
theorem G_more : ∀ {d k f r : Nat}, k + d ≤ N → G op N (cb by_) d k f (r + 1) * ch (N - k) r ≤ G op N (cb by_) d k f r * ch (N - k) (r + 1) := by
  intro d
  induction d with
  | zero =>
    intro k f r _
    rw [G_zero, G_zero]
    exact Nat.le_of_eq (by grind)
  | succ d ih =>
    intro k f r h
    by_cases ho : op k f = true
    · rw [G_succ, G_succ, if_pos ho, if_pos ho]
      obtain ⟨m, hm⟩ : ∃ m, N - k = m + 1 := ⟨N - k - 1, by omega⟩
      have hm2 : N - (k + 1) = m := by omega
      rw [hm]
      have A1 := ih (k := k + 1) (f := f) (r := r) (by omega)
      have B := G_found op by_ N M (d := d) (k := k + 1) (f := f) (r := r) (by omega)
      have l1 := G_le op by_ N (d := d) (k := k + 1) (f := f) (r := r + 1) (by omega)
      have l2 := G_le op by_ N (d := d) (k := k + 1) (f := f + 1) (r := r) (by omega)
      rw [hm2] at A1 l1 l2
      cases r with
      | zero =>
        rw [ch_zero, ch_succ, ch_zero]
        rw [ch_zero] at A1
        show (G op N (cb by_) d (k + 1) f 1 + G op N (cb by_) d (k + 1) (f + 1) 0) * 1 ≤ (G op N (cb by_) d (k + 1) f 0 + 0) * (1 + ch m 1)
        have A1' : G op N (cb by_) d (k + 1) f 1 * 1 ≤ G op N (cb by_) d (k + 1) f 0 * ch m 1 := A1
        have key : ∀ i j p y : Nat, p * 1 ≤ i * y → j ≤ i → (p + j) * 1 ≤ (i + 0) * (1 + y) := fun i j p y h1 h2 => by
          rw [Nat.add_zero, Nat.mul_add]
          omega
        exact key _ _ _ _ A1' B
      | succ r =>
        have A2 := ih (k := k + 1) (f := f + 1) (r := r) (by omega)
        rw [hm2] at A2
        rw [ch_succ, ch_succ]
        show (G op N (cb by_) d (k + 1) f (r + 1 + 1) + G op N (cb by_) d (k + 1) (f + 1) (r + 1)) * (ch m r + ch m (r + 1)) ≤ (G op N (cb by_) d (k + 1) f (r + 1) + G op N (cb by_) d (k + 1) (f + 1) r) * (ch m (r + 1) + ch m (r + 1 + 1))
        by_cases hc : 0 < ch m (r + 1)
        · exact mix op by_ M A1 A2 B ch_bent hc
        · have hz : m < r + 1 := by
            by_cases z : r + 1 ≤ m
            · exact absurd (ch_pos z) hc
            · omega
          rw [ch_gt (show m < r + 1 + 1 by omega)] at l1
          have z1 : G op N (cb by_) d (k + 1) f (r + 1 + 1) = 0 := by omega
          have z2 : G op N (cb by_) d (k + 1) (f + 1) (r + 1) = 0 := by omega
          rw [z1, z2]
          simp
    · rw [G_succ, G_succ, if_neg ho, if_neg ho]
      exact Nat.le_of_eq (by grind)
end
/-! as lists -/
theorem sm_list (p : Nat → Bool) (g : Nat → Nat) : ∀ n, (((List.range n).filter p).map g).sum = sm (fun f => if p f = true then g f else 0) n
  | 0 => rfl
  | n + 1 => by
    rw [List.range_succ, List.filter_append, List.map_append, List.sum_append, sm_list p g n, sm]
    by_cases h : p n = true
    · rw [if_pos h, List.filter_cons_of_pos h]; simp
    · rw [if_neg h, List.filter_cons_of_neg h]; simp
theorem sm_first (h : Nat → Nat) : ∀ n, sm h (n + 1) = h 0 + sm (fun j => h (j + 1)) n
  | 0 => by simp [sm]
  | n + 1 => by rw [sm, sm_first h n, sm]; omega
theorem sm_flat (F : Nat → List Nat) : ∀ n, ((List.range n).flatMap F).sum = sm (fun k => (F k).sum) n
  | 0 => rfl
  | n + 1 => by rw [List.range_succ, List.flatMap_append, List.sum_append, sm_flat F n, sm]; simp
section
variable (op : Nat → Nat → Bool) (N b : Nat)
/-- those found at which an end comes -/
def fs (k : Nat) : List Nat := (List.range (k + 1)).filter fun f => !op k f && decide (0 < W op k f * chb N b k f)
theorem fs_sum (c : Nat → Nat → Nat) (k : Nat) : ((fs op N b k).map fun f => c k f * (W op k f * chb N b k f)).sum = en op N c b k := by
  unfold fs en
  rw [sm_list]
  refine sm_congr fun f _ => ?_
  cases ho : op k f with
  | true => simp
  | false =>
    by_cases h : 0 < W op k f * chb N b k f
    · simp [h]
    · have e : W op k f * chb N b k f = 0 := by omega
      simp [e]
theorem ends_sum (c : Nat → Nat → Nat) (n : Nat) (h0 : op 0 0 = true) (hl : ∀ f, op n f = false) : ((List.range n).flatMap fun k => (fs op N b (k + 1)).map fun f => c (k + 1) f * (W op (k + 1) f * chb N b (k + 1) f)).sum = G op N c n 0 0 b := by
  rw [sm_flat, ← total op N c b n hl, sm_first]
  have e0 : en op N c b 0 = 0 := by unfold en; rw [sm, sm, h0]; simp
  rw [e0, Nat.zero_add]
  exact sm_congr fun k _ => fs_sum op N b c (k + 1)
theorem W_le : ∀ (k f : Nat), W op k f ≤ 2 ^ k
  | 0, 0 => Nat.le_refl _
  | 0, _ + 1 => Nat.zero_le _
  | k + 1, 0 => by
    rw [W_zero]; unfold O
    have := W_le k 0
    have e : (2 : Nat) ^ (k + 1) = 2 ^ k + 2 ^ k := by omega
    split <;> omega
  | k + 1, f + 1 => by
    rw [W_succ]; unfold O
    have h1 := W_le k (f + 1)
    have h2 := W_le k f
    have e : (2 : Nat) ^ (k + 1) = 2 ^ k + 2 ^ k := by omega
    split <;> split <;> omega
/-- too many bad ones for the places left -/
theorem G_many (c : Nat → Nat → Nat) : ∀ {d k f r : Nat}, k + d ≤ N → N - k < r → G op N c d k f r = 0
  | 0, k, f, r, _, h => by rw [G_zero, ch_gt h, Nat.mul_zero]
  | d + 1, k, f, r, hd, h => by
    rw [G_succ]
    by_cases ho : op k f = true
    · rw [if_pos ho, G_many c (by omega) (by omega)]
      cases r with
      | zero => rfl
      | succ r => rw [Nat.zero_add]; exact G_many c (by omega) (by omega)
    · rw [if_neg ho, ch_gt h, Nat.mul_zero]
end
theorem ch_le : ∀ (n k : Nat), ch n k ≤ 2 ^ n
  | 0, 0 => Nat.le_refl _
  | 0, _ + 1 => Nat.zero_le _
  | n + 1, 0 => by rw [ch_zero]; exact Nat.one_le_two_pow
  | n + 1, k + 1 => by
    rw [ch_succ]
    have h1 := ch_le n k
    have h2 := ch_le n (k + 1)
    have e : (2 : Nat) ^ (n + 1) = 2 ^ n + 2 ^ n := by omega
    omega
theorem G_leC (op : Nat → Nat → Bool) (N : Nat) (c : Nat → Nat → Nat) (C : Nat) (hc : ∀ k f, k ≤ N → c k f ≤ C) : ∀ {d k f r : Nat}, k + d ≤ N → G op N c d k f r ≤ C * ch (N - k) r
  | 0, k, f, r, h => by rw [G_zero]; exact Nat.mul_le_mul_right _ (hc k f (by omega))
  | d + 1, k, f, r, h => by
    rw [G_succ]
    by_cases ho : op k f = true
    · rw [if_pos ho]
      obtain ⟨m, hm⟩ : ∃ m, N - k = m + 1 := ⟨N - k - 1, by omega⟩
      have hm2 : N - (k + 1) = m := by omega
      rw [hm]
      cases r with
      | zero =>
        have := G_leC op N c C hc (d := d) (k := k + 1) (f := f) (r := 0) (by omega)
        rw [hm2, ch_zero] at this
        rw [ch_zero]
        exact this
      | succ r =>
        have h1 := G_leC op N c C hc (d := d) (k := k + 1) (f := f) (r := r + 1) (by omega)
        have h2 := G_leC op N c C hc (d := d) (k := k + 1) (f := f + 1) (r := r) (by omega)
        rw [hm2] at h1 h2
        rw [ch_succ, Nat.mul_add]
        show G op N c d (k + 1) f (r + 1) + G op N c d (k + 1) (f + 1) r ≤ _
        omega
    · rw [if_neg ho]; exact Nat.mul_le_mul_right _ (hc k f (by omega))
theorem G_one (op : Nat → Nat → Bool) (N : Nat) : ∀ {d k f r : Nat}, k + d ≤ N → G op N (fun _ _ => 1) d k f r = ch (N - k) r
  | 0, k, f, r, _ => by rw [G_zero, Nat.one_mul]
  | d + 1, k, f, r, h => by
    rw [G_succ]
    by_cases ho : op k f = true
    · rw [if_pos ho]
      obtain ⟨m, hm⟩ : ∃ m, N - k = m + 1 := ⟨N - k - 1, by omega⟩
      have hm2 : N - (k + 1) = m := by omega
      rw [hm, G_one op N (by omega), hm2]
      cases r with
      | zero => rw [ch_zero, ch_zero]; rfl
      | succ r =>
        show ch m (r + 1) + G op N (fun _ _ => 1) d (k + 1) (f + 1) r = _
        rw [G_one op N (by omega), hm2, ch_succ]; omega
    · rw [if_neg ho, Nat.one_mul]
end Wr

set_option Elab.async false
set_option linter.all false
set_option maxRecDepth 100000
set_option maxHeartbeats 4000000
namespace My
open PySem L2 FrM Wr
/-! the text, by places -/
def top (i : Nat) : Stmt := PySem.Challenge.pw_fewspeak_k84_whole_more_bad_seldom_by.main.body.getD i (.Pass ⟨0, 0, 0, 0⟩)
abbrev s_NoTable___init__ : Stmt := inClass (top 3) 0
abbrev s_greatest_divisor : Stmt := top 6
abbrev s_share : Stmt := top 7
abbrev s_is_whole : Stmt := top 9
abbrev s_is_row : Stmt := top 15
abbrev s_need_table : Stmt := top 16
abbrev s_word_of : Stmt := top 17
abbrev s_choices : Stmt := top 18
abbrev s_one_more : Stmt := top 19
abbrev s_Looks___init__ : Stmt := inClass (top 20) 0
abbrev s_Looks_endings : Stmt := inClass (top 20) 2
abbrev s_Looks_let_by : Stmt := inClass (top 20) 3
abbrev s_Looks_looked_at : Stmt := inClass (top 20) 4
abbrev s_endings_at : Stmt := top 21
abbrev s_L_cell : Stmt := top 23
abbrev s_L_mixed : Stmt := top 24
abbrev s_L_rows : Stmt := top 25
abbrev s_L_word : Stmt := top 26
abbrev s_L_lowest : Stmt := top 27
abbrev s_L_sets : Stmt := top 28
abbrev s_L_back : Stmt := top 29
abbrev s_L_endings_right : Stmt := top 30
abbrev s_law : Stmt := top 31
theorem sc_greatest_divisor : FnScope ["one", "other"] ["one", "other"] (defScope s_greatest_divisor) := ⟨rfl, rfl, rfl, by decide +kernel, rfl, by decide +kernel, by decide +kernel⟩
theorem sc_share : FnScope ["top", "bottom", "divisor"] ["top", "bottom"] (defScope s_share) := ⟨rfl, rfl, rfl, by decide +kernel, rfl, by decide +kernel, by decide +kernel⟩
theorem sc_is_whole : FnScope ["thing", "low", "high"] ["thing", "low", "high"] (defScope s_is_whole) := ⟨rfl, rfl, rfl, by decide +kernel, rfl, by decide +kernel, by decide +kernel⟩
theorem sc_is_row : FnScope ["thing"] ["thing"] (defScope s_is_row) := ⟨rfl, rfl, rfl, by decide +kernel, rfl, by decide +kernel, by decide +kernel⟩
theorem sc_need_table : FnScope ["rows", "number", "row"] ["rows"] (defScope s_need_table) := ⟨rfl, rfl, rfl, by decide +kernel, rfl, by decide +kernel, by decide +kernel⟩
theorem sc_word_of : FnScope ["row", "found", "let", "turn"] ["row", "found"] (defScope s_word_of) := ⟨rfl, rfl, rfl, by decide +kernel, rfl, by decide +kernel, by decide +kernel⟩
theorem sc_choices : FnScope ["many", "some", "told", "number"] ["many", "some"] (defScope s_choices) := ⟨rfl, rfl, rfl, by decide +kernel, rfl, by decide +kernel, by decide +kernel⟩
theorem sc_one_more : FnScope ["ways"] ["ways"] (defScope s_one_more) := ⟨rfl, rfl, rfl, by decide +kernel, rfl, by decide +kernel, by decide +kernel⟩
theorem sc_Looks___init__ : FnScope ["self", "rows"] ["self", "rows"] (defScope s_Looks___init__) := ⟨rfl, rfl, rfl, by decide +kernel, rfl, by decide +kernel, by decide +kernel⟩
theorem sc_Looks_endings : FnScope ["self", "lot", "bad", "told", "ways", "number", "row"] ["self", "lot", "bad"] (defScope s_Looks_endings) := ⟨rfl, rfl, rfl, by decide +kernel, rfl, by decide +kernel, by decide +kernel⟩
theorem sc_Looks_let_by : FnScope ["self", "lot", "bad", "by"] ["self", "lot", "bad"] (defScope s_Looks_let_by) := ⟨rfl, rfl, rfl, by decide +kernel, rfl, by decide +kernel, by decide +kernel⟩
theorem sc_Looks_looked_at : FnScope ["self", "lot", "bad", "looks"] ["self", "lot", "bad"] (defScope s_Looks_looked_at) := ⟨rfl, rfl, rfl, by decide +kernel, rfl, by decide +kernel, by decide +kernel⟩
theorem sc_endings_at : FnScope ["row", "ways", "left", "bad", "looked", "sets", "told"] ["row", "ways", "left", "bad", "looked"] (defScope s_endings_at) := ⟨rfl, rfl, rfl, by decide +kernel, rfl, by decide +kernel, by decide +kernel⟩
theorem sc_L_cell : FnScope ["_law_script", "_law_k"] ["_law_script", "_law_k"] (defScope s_L_cell) := ⟨rfl, rfl, rfl, by decide +kernel, rfl, by decide +kernel, by decide +kernel⟩
theorem sc_L_mixed : FnScope ["_law_cell_here", "_law_k", "_law_number"] ["_law_cell_here", "_law_k"] (defScope s_L_mixed) := ⟨rfl, rfl, rfl, by decide +kernel, rfl, by decide +kernel, by decide +kernel⟩
theorem sc_L_rows : FnScope ["_law_cell_here", "_law_many", "_law_way", "_law_rows_here", "_law_k", "_law_number", "_law_let", "_law_turn"] ["_law_cell_here"] (defScope s_L_rows) := ⟨rfl, rfl, rfl, by decide +kernel, rfl, by decide +kernel, by decide +kernel⟩
theorem sc_L_word : FnScope ["_law_rows_here", "_law_looked", "_law_found"] ["_law_rows_here", "_law_looked", "_law_found"] (defScope s_L_word) := ⟨rfl, rfl, rfl, by decide +kernel, rfl, by decide +kernel, by decide +kernel⟩
theorem sc_L_lowest : FnScope ["_law_top", "_law_bottom", "_law_one", "_law_other"] ["_law_top", "_law_bottom"] (defScope s_L_lowest) := ⟨rfl, rfl, rfl, by decide +kernel, rfl, by decide +kernel, by decide +kernel⟩
theorem sc_L_sets : FnScope ["_law_found", "_law_k", "_law_last"] [] (defScope s_L_sets) := ⟨rfl, rfl, rfl, by decide +kernel, rfl, by decide +kernel, by decide +kernel⟩
theorem sc_L_back : FnScope ["_law_rows_here", "_law_sets_here", "_law_lot", "_law_bad", "_law_after", "_law_looked", "_law_here", "_law_found", "_law_word_here", "_law_every", "_law_one", "_law_other"] ["_law_rows_here", "_law_sets_here", "_law_lot", "_law_bad"] (defScope s_L_back) := ⟨rfl, rfl, rfl, by decide +kernel, rfl, by decide +kernel, by decide +kernel⟩
theorem sc_L_endings_right : FnScope ["_law_told", "_law_rows_here", "_law_sets_here", "_law_lot", "_law_bad", "_law_due", "_law_begun", "_law_looked", "_law_further", "_law_found", "_law_many", "_law_word_here"] ["_law_told", "_law_rows_here", "_law_sets_here", "_law_lot", "_law_bad"] (defScope s_L_endings_right) := ⟨rfl, rfl, rfl, by decide +kernel, rfl, by decide +kernel, by decide +kernel⟩
theorem sc_law : FnScope ["_law_script", "_law_cell_here", "_law_rows_here", "_law_looks", "_law_lot", "_law_sets_here", "_law_before", "_law_bad", "_law_every", "_law_good", "_law_looked", "_law_found"] ["_law_script"] (defScope s_law) := ⟨rfl, rfl, rfl, by decide +kernel, rfl, by decide +kernel, by decide +kernel⟩
structure Ad where
  f_greatest_divisor : Addr
  d_greatest_divisor : FuncData
  f_share : Addr
  d_share : FuncData
  f_is_whole : Addr
  d_is_whole : FuncData
  f_is_row : Addr
  d_is_row : FuncData
  f_need_table : Addr
  d_need_table : FuncData
  f_word_of : Addr
  d_word_of : FuncData
  f_choices : Addr
  d_choices : FuncData
  f_one_more : Addr
  d_one_more : FuncData
  f_endings_at : Addr
  d_endings_at : FuncData
  f_L_cell : Addr
  d_L_cell : FuncData
  f_L_mixed : Addr
  d_L_mixed : FuncData
  f_L_rows : Addr
  d_L_rows : FuncData
  f_L_word : Addr
  d_L_word : FuncData
  f_L_lowest : Addr
  d_L_lowest : FuncData
  f_L_sets : Addr
  d_L_sets : FuncData
  f_L_back : Addr
  d_L_back : FuncData
  f_L_endings_right : Addr
  d_L_endings_right : FuncData
  f_law : Addr
  d_law : FuncData
  c_SpeakError : Addr
  c_NoTable : Addr
  i_NoTable : Addr
  e_NoTable : FuncData
  c_NoLot : Addr
  c_Looks : Addr
  i_Looks : Addr
  e_Looks : FuncData
  x_Looks_endings : Addr
  y_Looks_endings : FuncData
  x_Looks_let_by : Addr
  y_Looks_let_by : FuncData
  x_Looks_looked_at : Addr
  y_Looks_looked_at : FuncData
structure Txt (K : PySem.W.Frag) (mg : Str → Option Value) (a : Ad) : Prop where
  F_greatest_divisor : Fun K "greatest_divisor" "greatest_divisor" s_greatest_divisor a.f_greatest_divisor a.d_greatest_divisor
  B_greatest_divisor : Binds K a.d_greatest_divisor ["one", "other"] []
  m_greatest_divisor : mg "greatest_divisor" = some (.ref a.f_greatest_divisor)
  F_share : Fun K "share" "share" s_share a.f_share a.d_share
  B_share : Binds K a.d_share ["top", "bottom"] []
  m_share : mg "share" = some (.ref a.f_share)
  F_is_whole : Fun K "is_whole" "is_whole" s_is_whole a.f_is_whole a.d_is_whole
  B_is_whole : Binds K a.d_is_whole ["thing", "low", "high"] []
  m_is_whole : mg "is_whole" = some (.ref a.f_is_whole)
  F_is_row : Fun K "is_row" "is_row" s_is_row a.f_is_row a.d_is_row
  B_is_row : Binds K a.d_is_row ["thing"] []
  m_is_row : mg "is_row" = some (.ref a.f_is_row)
  F_need_table : Fun K "need_table" "need_table" s_need_table a.f_need_table a.d_need_table
  B_need_table : Binds K a.d_need_table ["rows"] []
  m_need_table : mg "need_table" = some (.ref a.f_need_table)
  F_word_of : Fun K "word_of" "word_of" s_word_of a.f_word_of a.d_word_of
  B_word_of : Binds K a.d_word_of ["row", "found"] []
  m_word_of : mg "word_of" = some (.ref a.f_word_of)
  F_choices : Fun K "choices" "choices" s_choices a.f_choices a.d_choices
  B_choices : Binds K a.d_choices ["many", "some"] []
  m_choices : mg "choices" = some (.ref a.f_choices)
  F_one_more : Fun K "one_more" "one_more" s_one_more a.f_one_more a.d_one_more
  B_one_more : Binds K a.d_one_more ["ways"] []
  m_one_more : mg "one_more" = some (.ref a.f_one_more)
  F_endings_at : Fun K "endings_at" "endings_at" s_endings_at a.f_endings_at a.d_endings_at
  B_endings_at : Binds K a.d_endings_at ["row", "ways", "left", "bad", "looked"] []
  m_endings_at : mg "endings_at" = some (.ref a.f_endings_at)
  F_L_cell : Fun K "_law_cell" "_law_cell" s_L_cell a.f_L_cell a.d_L_cell
  B_L_cell : Binds K a.d_L_cell ["_law_script", "_law_k"] []
  m_L_cell : mg "_law_cell" = some (.ref a.f_L_cell)
  F_L_mixed : Fun K "_law_mixed" "_law_mixed" s_L_mixed a.f_L_mixed a.d_L_mixed
  B_L_mixed : Binds K a.d_L_mixed ["_law_cell_here", "_law_k"] []
  m_L_mixed : mg "_law_mixed" = some (.ref a.f_L_mixed)
  F_L_rows : Fun K "_law_rows" "_law_rows" s_L_rows a.f_L_rows a.d_L_rows
  B_L_rows : Binds K a.d_L_rows ["_law_cell_here"] []
  m_L_rows : mg "_law_rows" = some (.ref a.f_L_rows)
  F_L_word : Fun K "_law_word" "_law_word" s_L_word a.f_L_word a.d_L_word
  B_L_word : Binds K a.d_L_word ["_law_rows_here", "_law_looked", "_law_found"] []
  m_L_word : mg "_law_word" = some (.ref a.f_L_word)
  F_L_lowest : Fun K "_law_lowest" "_law_lowest" s_L_lowest a.f_L_lowest a.d_L_lowest
  B_L_lowest : Binds K a.d_L_lowest ["_law_top", "_law_bottom"] []
  m_L_lowest : mg "_law_lowest" = some (.ref a.f_L_lowest)
  F_L_sets : Fun K "_law_sets" "_law_sets" s_L_sets a.f_L_sets a.d_L_sets
  B_L_sets : Binds K a.d_L_sets [] []
  m_L_sets : mg "_law_sets" = some (.ref a.f_L_sets)
  F_L_back : Fun K "_law_back" "_law_back" s_L_back a.f_L_back a.d_L_back
  B_L_back : Binds K a.d_L_back ["_law_rows_here", "_law_sets_here", "_law_lot", "_law_bad"] []
  m_L_back : mg "_law_back" = some (.ref a.f_L_back)
  F_L_endings_right : Fun K "_law_endings_right" "_law_endings_right" s_L_endings_right a.f_L_endings_right a.d_L_endings_right
  B_L_endings_right : Binds K a.d_L_endings_right ["_law_told", "_law_rows_here", "_law_sets_here", "_law_lot", "_law_bad"] []
  m_L_endings_right : mg "_law_endings_right" = some (.ref a.f_L_endings_right)
  F_law : Fun K "law" "law" s_law a.f_law a.d_law
  B_law : Binds K a.d_law ["_law_script"] []
  m_law : mg "law" = some (.ref a.f_law)
  g_MOST_ROWS : ∃ u, mg "MOST_ROWS" = some u ∧ RelV (.int 24) u
  g_MOST_WARES : ∃ u, mg "MOST_WARES" = some u ∧ RelV (.int 24) u
  g_MOST_LET : ∃ u, mg "MOST_LET" = some u ∧ RelV (.int 24) u
  g_MOST_TURN : ∃ u, mg "MOST_TURN" = some u ∧ RelV (.int 25) u
  mc_SpeakError : mg "SpeakError" = some (.ref a.c_SpeakError)
  g_SpeakError : ∃ u, mg "SpeakError" = some u ∧ RelV (.ref a.c_SpeakError) u
  kc_SpeakError : PySem.W.keepIn K (.ref a.c_SpeakError) = true
  xc_SpeakError : XCls K a.c_SpeakError
  xh_SpeakError : XHd K a.c_SpeakError
  xi_SpeakError : xIn K a.c_SpeakError none = true
  mc_NoTable : mg "NoTable" = some (.ref a.c_NoTable)
  g_NoTable : ∃ u, mg "NoTable" = some u ∧ RelV (.ref a.c_NoTable) u
  kc_NoTable : PySem.W.keepIn K (.ref a.c_NoTable) = true
  xc_NoTable : XCls K a.c_NoTable
  xh_NoTable : XHd K a.c_NoTable
  xi_NoTable : xIn K a.c_NoTable (some (.ref a.i_NoTable)) = true
  fn_NoTable : PySem.W.isFn K (.ref a.i_NoTable) = true
  Fi_NoTable : Fun K "__init__" "NoTable.__init__" s_NoTable___init__ a.i_NoTable a.e_NoTable
  Bi_NoTable : Binds K a.e_NoTable ["self", "row"] []
  sx_NoTable_row : ∃ cd, XSet K a.c_NoTable "row" cd
  mc_NoLot : mg "NoLot" = some (.ref a.c_NoLot)
  g_NoLot : ∃ u, mg "NoLot" = some u ∧ RelV (.ref a.c_NoLot) u
  kc_NoLot : PySem.W.keepIn K (.ref a.c_NoLot) = true
  xc_NoLot : XCls K a.c_NoLot
  xh_NoLot : XHd K a.c_NoLot
  xi_NoLot : xIn K a.c_NoLot none = true
  mc_Looks : mg "Looks" = some (.ref a.c_Looks)
  g_Looks : ∃ u, mg "Looks" = some u ∧ RelV (.ref a.c_Looks) u
  cl_Looks : Cls K a.c_Looks
  ty_Looks : ∀ H x dx fs, H x = some (.ins a.c_Looks dx fs) → TyOf K H (.ref x) (.ref a.c_Looks)
  mk_Looks : Mk K a.c_Looks a.i_Looks
  Fi_Looks : Fun K "__init__" "Looks.__init__" s_Looks___init__ a.i_Looks a.e_Looks
  Bi_Looks : Binds K a.e_Looks ["self", "rows"] []
  na_Looks_rows : NoAttr K a.c_Looks "rows"
  mt_Looks_endings : Meth K a.c_Looks "endings" a.x_Looks_endings
  mt_Looks_let_by : Meth K a.c_Looks "let_by" a.x_Looks_let_by
  mt_Looks_looked_at : Meth K a.c_Looks "looked_at" a.x_Looks_looked_at
  F_Looks_endings : Fun K "endings" "Looks.endings" s_Looks_endings a.x_Looks_endings a.y_Looks_endings
  B_Looks_endings : Binds K a.y_Looks_endings ["self", "lot", "bad"] []
  F_Looks_let_by : Fun K "let_by" "Looks.let_by" s_Looks_let_by a.x_Looks_let_by a.y_Looks_let_by
  B_Looks_let_by : Binds K a.y_Looks_let_by ["self", "lot", "bad"] []
  F_Looks_looked_at : Fun K "looked_at" "Looks.looked_at" s_Looks_looked_at a.x_Looks_looked_at a.y_Looks_looked_at
  B_Looks_looked_at : Binds K a.y_Looks_looked_at ["self", "lot", "bad"] []
  z_abs : mg "abs" = none
  z_bool : mg "bool" = none
  z_enumerate : mg "enumerate" = none
  z_int : mg "int" = none
  z_isinstance : mg "isinstance" = none
  z_len : mg "len" = none
  z_list : mg "list" = none
  z_max : mg "max" = none
  z_min : mg "min" = none
  z_range : mg "range" = none
  z_sum : mg "sum" = none
  z_tuple : mg "tuple" = none
  z_zip : mg "zip" = none
  bl : ∀ (s : Shared) (u : Value), BindsTo s a.d_law ⟨[u], []⟩ [("_law_script", u)]
/-! promises -/
def spCell (K : PySem.W.Frag) : Sp := fun vs H Q _ => ∃ (p : Addr) (ns : List Int) (k : Int), vs = [.ref p, .int k] ∧ SqL K H p (ns.map V.int) ∧ ns.length ≤ 63 ∧ 0 ≤ k ∧ k ≤ 1000 ∧ ∀ c : Int, Q (.int c) H
def spMixed : Sp := fun vs H Q _ => ∃ (c k : Int), vs = [.int c, .int k] ∧ 0 ≤ k ∧ k ≤ 1000 ∧ ∀ r : Int, 0 ≤ r → r < 1099511627776 → Q (.int r) H
def spLaw (K : PySem.W.Frag) : Sp := fun vs H Q _ => ∃ (p : Addr) (ns : List Int), vs = [.ref p] ∧ SqL K H p (ns.map V.int) ∧ ns.length ≤ 63 ∧ ∀ H', Q (.bl true) H'
theorem law_start {K : PySem.W.Frag} {H : Hp} {a : Addr} {ns : List Int} (hl : ns.length ≤ 63) (_ : Only H) (hS : SqL K H a (ns.map V.int)) : spLaw K [.ref a] H (fun v _ => v = .bl true) fun _ _ _ => False := ⟨a, ns, rfl, hS, hl, fun _ => rfl⟩
/-- a thing for a number, and the whole number that it is -/
inductive Thing (H : Hp) : V → Option Int → Prop
  | int (i : Int) : Thing H (.int i) (some i)
  | bl (b : Bool) : Thing H (.bl b) none
  | non : Thing H .non none
  | str (t : Str) : Thing H (.str t) none
  | lst (p : Addr) (xs : List V) (e : H p = some (.lst xs)) : Thing H (.ref p) none
  | tup (p : Addr) (xs : List V) (e : H p = some (.tup xs)) : Thing H (.ref p) none
  | dK (p : Addr) (kvs : List (Key × V)) (e : H p = some (.dK kvs)) : Thing H (.ref p) none
theorem Thing.same {H H' : Hp} {x : V} {o : Option Int} (s : Same H H') (h : Thing H x o) : Thing H' x o := by
  cases h with
  | int i => exact .int i
  | bl b => exact .bl b
  | non => exact .non
  | str t => exact .str t
  | lst p xs e => exact .lst p xs (s _ _ e)
  | tup p xs e => exact .tup p xs (s _ _ e)
  | dK p kvs e => exact .dK p kvs (s _ _ e)
def inR (lo hi : Int) : Option Int → Bool
  | some i => decide (lo ≤ i ∧ i ≤ hi)
  | none => false
def spWhole3 : Sp := fun vs H Q _ => ∃ (x : V) (lo hi : Int) (o : Option Int), vs = [x, .int lo, .int hi] ∧ Thing H x o ∧ Q (.bl (inR lo hi o)) H
theorem inR_yes {lo hi i : Int} (h0 : lo ≤ i) (h1 : i ≤ hi) : inR lo hi (some i) = true := decide_eq_true ⟨h0, h1⟩
theorem pget {α : Type} {R : α → V → Prop} : ∀ {fs : List α} {xs : List V} {i : Nat} {x : V}, PySem.Paired R fs xs → xs[i]? = some x → ∃ f, fs[i]? = some f ∧ R f x
  | _, _, _, _, .nil, h => by cases h
  | _, _, 0, _, .cons r _, h => ⟨_, rfl, by cases h; exact r⟩
  | _, _, i + 1, _, .cons _ t, h => pget (i := i) t h
theorem take_map {α β : Type} {f : α → β} {l : List α} {i : Nat} {x : α} (h : l[i]? = some x) : (l.take (i + 1)).map f = (l.take i).map f ++ [f x] := by
  rw [List.take_add_one, h, List.map_append]; rfl
theorem made_same {H : Hp} {x dx : Addr} {C : Addr} (hx : H x = none) (hd : H dx = none) : Same H (upd (upd H dx (.own x)) x (.ins C dx [])) := fun b o e => by
  have b1 : b ≠ x := fun z => by rw [z, hx] at e; cases e
  have b2 : b ≠ dx := fun z => by rw [z, hd] at e; cases e
  rw [upd_ne b1, upd_ne b2]
  exact e
/-- a row of a table: let, turn -/
abbrev Rw := Int × Int
def OkR (r : Rw) : Prop := -1 ≤ r.1 ∧ r.1 ≤ 24 ∧ r.1 < r.2 ∧ r.2 ≤ 25
def IsR (H : Hp) (r : Rw) (x : V) : Prop := ∃ p, x = .ref p ∧ H p = some (.tup [.int r.1, .int r.2])
theorem IsR.same {H H' : Hp} {z : Rw} {x : V} (s : Same H H') (h : IsR H z x) : IsR H' z x := let ⟨p, e, q⟩ := h; ⟨p, e, s _ _ q⟩
theorem IsR.lst {H : Hp} {z : Rw} {x : V} {D : Addr} {vs ys : List V} (e : H D = some (.lst vs)) (h : IsR H z x) : IsR (upd H D (.lst ys)) z x := let ⟨p, e', q⟩ := h; ⟨p, e', by rw [upd_ne (fun w => by rw [w, e] at q; cases q)]; exact q⟩
abbrev AllR (H : Hp) : List Rw → List V → Prop := PySem.Paired (IsR H)
theorem AllR.same {H H' : Hp} (s : Same H H') : ∀ {zs : List Rw} {xs : List V}, AllR H zs xs → AllR H' zs xs
  | _, _, .nil => .nil
  | _, _, .cons r t => .cons (r.same s) (AllR.same s t)
theorem AllR.lst {H : Hp} {D : Addr} {vs ys : List V} (e : H D = some (.lst vs)) : ∀ {zs : List Rw} {xs : List V}, AllR H zs xs → AllR (upd H D (.lst ys)) zs xs
  | _, _, .nil => .nil
  | _, _, .cons r t => .cons (r.lst e) (AllR.lst e t)
theorem AllR.snoc {H : Hp} {z : Rw} {x : V} (r : IsR H z x) : ∀ {zs : List Rw} {xs : List V}, AllR H zs xs → AllR H (zs ++ [z]) (xs ++ [x])
  | _, _, .nil => .cons r .nil
  | _, _, .cons q t => .cons q (AllR.snoc r t)
theorem AllR.own {H : Hp} {x C dx : Addr} {fs gs : List (Str × V)} (e : H x = some (.ins C dx fs)) : ∀ {zs : List Rw} {xs : List V}, AllR H zs xs → AllR (upd H x (.ins C dx gs)) zs xs
  | _, _, .nil => .nil
  | _, _, .cons ⟨p, e', q⟩ t => .cons ⟨p, e', by rw [upd_ne (fun z => by rw [z, e] at q; cases q)]; exact q⟩ (AllR.own e t)
/-- a good table -/
structure Tab (rs : List Rw) : Prop where
  pos : 0 < rs.length
  len : rs.length ≤ 24
  ok : ∀ r ∈ rs, OkR r
  last : ∀ r, rs[rs.length - 1]? = some r → r.2 = r.1 + 1
structure TabAt (H : Hp) (l : Addr) (xs : List V) (rs : List Rw) : Prop where
  at_ : H l = some (.lst xs)
  all : AllR H rs xs
  tab : Tab rs
theorem TabAt.same {H H' : Hp} {l : Addr} {xs : List V} {rs : List Rw} (s : Same H H') (h : TabAt H l xs rs) : TabAt H' l xs rs := ⟨s _ _ h.at_, h.all.same s, h.tab⟩
theorem TabAt.xl {H : Hp} {l : Addr} {xs : List V} {rs : List Rw} (h : TabAt H l xs rs) : xs.length = rs.length := (Paired.length h.all).symm
def wd (r : Rw) (f : Int) : Str := if f ≤ r.1 then "by" else if f ≥ r.2 then "down" else "open"
theorem wd_cases (r : Rw) (f : Int) : wd r f = "by" ∨ wd r f = "down" ∨ wd r f = "open" := by
  unfold wd; split
  · exact .inl rfl
  · split
    · exact .inr (.inl rfl)
    · exact .inr (.inr rfl)
def rw_at (rs : List Rw) (i : Nat) : Rw := rs.getD i (0, 0)
theorem rw_get {rs : List Rw} {i : Nat} {r : Rw} (h : rs[i]? = some r) : rw_at rs i = r := by unfold rw_at; rw [List.getD, h]; rfl
/-- how many bad ones are among the first -/
def pre (ws : List Int) (j : Nat) : Int := (ws.take j).sum
theorem last_shut {rs : List Rw} (t : Tab rs) (f : Int) : wd (rw_at rs (rs.length - 1)) f ≠ "open" := by
  have hp := t.pos
  obtain ⟨r, hr⟩ : ∃ r, rs[rs.length - 1]? = some r := ⟨_, List.getElem?_eq_getElem (by omega)⟩
  rw [rw_get hr]
  have e := t.last r hr
  unfold wd
  split
  · decide +kernel
  · split
    · decide +kernel
    · omega
def spRow : Sp := fun vs H Q _ => ∃ (x : V) (r : Rw), vs = [x] ∧ IsR H r x ∧ OkR r ∧ Q (.bl true) H
def spNeed : Sp := fun vs H Q _ => ∃ (l : Addr) (xs : List V) (rs : List Rw), vs = [.ref l] ∧ TabAt H l xs rs ∧ ∀ H', Same H H' → Q .non H'
def spWord : Sp := fun vs H Q _ => ∃ (x : V) (r : Rw) (f : Int), vs = [x, .int f] ∧ IsR H r x ∧ Q (.str (wd r f)) H
/-- a table of looks -/
structure LkAt (a : Ad) (H : Hp) (x : Addr) (rs : List Rw) : Prop where
  ex : ∃ dx t xs, H x = some (.ins a.c_Looks dx [("rows", .ref t)]) ∧ H t = some (.tup xs) ∧ AllR H rs xs
  tab : Tab rs
theorem LkAt.same {a : Ad} {H H' : Hp} {x : Addr} {rs : List Rw} (s : Same H H') (h : LkAt a H x rs) : LkAt a H' x rs := let ⟨⟨dx, t, xs, h1, h2, h3⟩, h4⟩ := h; ⟨⟨dx, t, xs, s _ _ h1, s _ _ h2, h3.same s⟩, h4⟩
def spInit (a : Ad) : Sp := fun vs H Q _ => ∃ (x dx l : Addr) (xs : List V) (rs : List Rw), vs = [.ref x, .ref l] ∧ H x = some (.ins a.c_Looks dx []) ∧ TabAt H l xs rs ∧ ∀ H', (∀ b o, b ≠ x → H b = some o → H' b = some o) → LkAt a H' x rs → Q .non H'
def spGcd : Sp := fun vs H Q _ => ∃ (x y : Int), vs = [.int x, .int y] ∧ 0 ≤ x ∧ 0 ≤ y ∧ Q (.int (Int.gcd x y)) H
/-- a fraction is told -/
def Tell (H : Hp) (Q : VK) (T B : Int) : Prop := ∀ H' p t b, Same H H' → H' p = some (.tup [.int t, .int b]) → Low T B t b → Bt 3000 t → Bt 3000 b → Q (.ref p) H'
def spShare0 : Sp := fun vs H Q _ => ∃ (T B : Int), vs = [.int T, .int B] ∧ 0 < B ∧ Bt 3000 T ∧ Bt 3000 B ∧ Tell H Q T B
def spNo : Sp := fun _ _ _ _ => False
theorem abs_gcd (T B : Int) : Int.gcd (if T < 0 then -T else T) B = Int.gcd T B := by
  split
  · exact Int.neg_gcd
  · rfl
/-- the words of a table, as truths -/
def opF (rs : List Rw) : Nat → Nat → Bool
  | 0, _ => true
  | k + 1, f => decide (wd (rw_at rs k) (f : Int) = "open")
def byF (rs : List Rw) : Nat → Nat → Bool
  | 0, _ => false
  | k + 1, f => decide (wd (rw_at rs k) (f : Int) = "by")
def pr (o : Nat → Nat) : Nat → Nat
  | 0 => 0
  | f + 1 => o f
def chI (m s : Int) : Int := if 0 ≤ s then (ch m.toNat s.toNat : Int) else 0
def nI (l : List Nat) : List V := l.map fun (n : Nat) => V.int (n : Int)
def spChoices : Sp := fun vs H Q _ => ∃ (m k : Int), vs = [.int m, .int k] ∧ 0 ≤ m ∧ m ≤ 100 ∧ -100 ≤ k ∧ k ≤ 100 ∧ Q (.int (chI m k)) H
def spMore : Sp := fun vs H Q _ => ∃ (p : Addr) (op : Nat → Nat → Bool) (k : Nat), vs = [.ref p] ∧ H p = some (.lst (nI ((List.range (k + 1)).map (O op k)))) ∧ k ≤ 50 ∧ ∀ H' r, Same H H' → H r = none → H' r = some (.lst (nI ((List.range (k + 1 + 1)).map (W op (k + 1))))) → Q (.ref r) H'
theorem two_le (x y : V) : [x, y].length ≤ sizeLine := by show 2 ≤ sizeLine; decide
theorem nI_len (l : List Nat) : (nI l).length = l.length := by unfold nI; rw [List.length_map]
theorem nI_get {l : List Nat} {i : Nat} {v : V} (h : (nI l)[i]? = some v) : ∃ n, l[i]? = some n ∧ v = .int (n : Nat) := by
  unfold nI at h
  rw [List.getElem?_map] at h
  cases hc : l[i]? with
  | none => rw [hc] at h; cases h
  | some z => rw [hc] at h; cases h; exact ⟨z, rfl, rfl⟩
theorem rng_get {g : Nat → Nat} {m i n : Nat} (h : ((List.range m).map g)[i]? = some n) : i < m ∧ n = g i := by
  rw [List.getElem?_map] at h
  have hi : i < m := by
    by_cases c : i < m
    · exact c
    · rw [List.getElem?_eq_none (by rw [List.length_range]; omega)] at h; cases h
  rw [List.getElem?_range hi] at h
  cases h
  exact ⟨hi, rfl⟩
theorem rng_at {g : Nat → Nat} {m i : Nat} (h : i < m) : (nI ((List.range m).map g))[i]? = some (.int (g i : Nat)) := by
  unfold nI
  rw [List.getElem?_map, List.getElem?_map, List.getElem?_range h]
  rfl
theorem nI_snoc (l : List Nat) (n : Nat) : nI (l ++ [n]) = nI l ++ [.int (n : Nat)] := by unfold nI; rw [List.map_append]; rfl
theorem nI_map (l : List Nat) : nI l = (l.map fun (n : Nat) => (n : Int)).map V.int := by unfold nI; rw [List.map_map]; rfl
theorem rng_snoc (g : Nat → Nat) (j : Nat) : nI ((List.range (j + 1)).map g) = nI ((List.range j).map g) ++ [.int (g j : Nat)] := by
  rw [List.range_succ, List.map_append]; exact nI_snoc _ _
section
variable {P : Program} {w : World} {K : PySem.W.Frag} {mg : Str → Option Value} {base : Heap} {a : Ad}
theorem ok_cell (T : Txt K mg a) : FnOk P w K mg base CX0 1 a.f_L_cell a.d_L_cell ["_law_script", "_law_k"] (spCell K) := by
  refine T.F_L_cell.ok sc_L_cell (fun vs H Q E h => ?_) (fun cdv A outer s H vs Q E hr h => ?_)
  · obtain ⟨p, ns, k, rfl, _⟩ := h; rfl
  · obtain ⟨p, ns, k, rfl, hS, hl, h0, h1, q⟩ := h
    refine ⟨_, (pss_cons (ps_if (t_cmp o_lt (vr 1) (pe_callB call_lenM rfl T.z_len bt_len (pa_cons (vr 0) pa_nil)) (nomark _)) (pss_one (ps_ret (pe_ix ix_seq (vr 0) (vr 1) (fun _ _ => rfl)))) pss_nil) (pss_one (ps_ret (pe_op o_add (pe_op o_mulB pe_int (vr 1)) pe_int)))), ?_⟩
    refine ⟨ns.map V.int, .inl hS, ?_⟩
    rw [List.length_map]
    refine ite2 (fun c => ?_) (fun c => ?_)
    · have c' : k < (ns.length : Int) := of_decide_eq_true c
      refine .inl ⟨p, _, k, .int (ns.getD k.toNat 0), rfl, rfl, hS, ?_, q _⟩
      have e : ((k.toNat : Nat) : Int) = k := by omega
      rw [← e]
      refine atI_nat ?_
      have hk : k.toNat < ns.length := by omega
      rw [e]
      simp [List.getElem?_map, List.getD, hk]
    · exact ⟨clB, q _⟩
theorem ok_mixed (T : Txt K mg a) : FnOk P w K mg base CX0 1 a.f_L_mixed a.d_L_mixed ["_law_cell_here", "_law_k"] spMixed := by
  refine T.F_L_mixed.ok sc_L_mixed (fun vs H Q E h => ?_) (fun cdv A outer s H vs Q E hr h => ?_)
  · obtain ⟨c, k, rfl, _⟩ := h; rfl
  · obtain ⟨c, k, rfl, h0, h1, q0⟩ := h
    refine ⟨_, (pss_cons (ps_if (t_cmp o_eq (pe_op o_mod (vr 0) pe_int) pe_int (nomark _)) (pss_one (ps_ret (pe_op o_mod (pe_op o_shr (vr 0) (pe_op o_add pe_int (pe_op o_mulB pe_int (vr 1)))) (pe_op o_pow pe_int pe_int)))) pss_nil) (pss_cons (ps_set (i := 2) sc_L_mixed.nd rfl (Or.inl rfl) (pe_op o_mod (pe_op o_add (vr 0) (pe_op o_mulB pe_int (vr 1))) pe_int)) (pss_cons (ps_set (i := 2) sc_L_mixed.nd rfl (Or.inl rfl) (pe_op o_mod (pe_op o_add (pe_op o_mulB (vr 2) pe_int) (vr 1)) pe_int)) (pss_cons (ps_set (i := 2) sc_L_mixed.nd rfl (Or.inl rfl) (pe_op o_mod (pe_op o_mulB (vr 2) (pe_op o_add (vr 2) pe_int)) pe_int)) (pss_one (ps_ret (pe_op o_mod (pe_op o_mulB (vr 2) (pe_op o_add (vr 2) pe_int)) pe_int))))))), ?_⟩
    have q := q0 (mixed c k) (mixed_bd c k).1 (mixed_bd c k).2
    unfold mixed at q
    refine ⟨cp, ?_⟩
    refine ite2 (fun e => ?_) (fun e => ?_)
    · rw [if_pos (of_decide_eq_true e)] at q
      exact ⟨clB, cn (by omega), cw, cp, q⟩
    · rw [if_neg (fun z => e (decide_eq_true z))] at q
      exact ⟨clB, cp, crB, cp, clB (by omega) (by omega), cp, clB (by omega) (by omega), cp, q⟩
theorem ok_whole3 (T : Txt K mg a) : FnOk P w K mg base CX0 1 a.f_is_whole a.d_is_whole ["thing", "low", "high"] spWhole3 := by
  refine T.F_is_whole.ok sc_is_whole (fun vs H Q E h => ?_) (fun cdv A outer s H vs Q E hr h => ?_)
  · obtain ⟨x, lo, hi, o, rfl, _⟩ := h; rfl
  · obtain ⟨x, lo, hi, o, rfl, th, q⟩ := h
    refine ⟨_, (pss_one (ps_ret (m_and (pe_callB call_isi rfl T.z_isinstance bt_isinstance (pa_cons (vr 0) (pa_cons (pe_bltn (v := .ty "int") rfl T.z_int bt_int rfl) pa_nil))) (m_and (m_not (pe_callB call_isi rfl T.z_isinstance bt_isinstance (pa_cons (vr 0) (pa_cons (pe_bltn (v := .ty "bool") rfl T.z_bool bt_bool rfl) pa_nil)))) (pe_one (m_chain o_le o_le (vr 1) (vr 0) (vr 2))))))), ?_⟩
    cases th with
    | int i =>
      refine ⟨_, _, _, true, rfl, rfl, .int i, rfl, ?_⟩
      refine ⟨_, _, _, false, rfl, rfl, .int i, rfl, ?_⟩
      exact and_if (Q := fun v => Q v H) q
    | bl b => exact ⟨_, _, _, true, rfl, rfl, .bl b, rfl, ⟨_, _, _, true, rfl, rfl, .bl b, rfl, q⟩⟩
    | non => exact ⟨_, _, _, false, rfl, rfl, .non, rfl, q⟩
    | str t => exact ⟨_, _, _, false, rfl, rfl, .str t, rfl, q⟩
    | lst p xs e => exact ⟨_, _, _, false, rfl, rfl, .lst e, rfl, q⟩
    | tup p xs e => exact ⟨_, _, _, false, rfl, rfl, .tup e, rfl, q⟩
    | dK p kvs e => exact ⟨_, _, _, false, rfl, rfl, .dK e, rfl, q⟩
theorem ok_isrow (T : Txt K mg a) : FnOk P w K mg base CX0 2 a.f_is_row a.d_is_row ["thing"] spRow := by
  have G_is_whole : FnOk P w K mg base CX0 1 _ _ _ spWhole3 := ok_whole3 T
  refine T.F_is_row.ok sc_is_row (fun vs H Q E h => ?_) (fun cdv A outer s H vs Q E hr h => ?_)
  · obtain ⟨x, r, rfl, _⟩ := h; rfl
  · obtain ⟨x, r, rfl, ⟨p, rfl, hp⟩, ⟨r1, r2, r3, r4⟩, q⟩ := h
    refine ⟨_, (pss_one (ps_ret (m_and (pe_callB call_isi rfl T.z_isinstance bt_isinstance (pa_cons (vr 0) (pa_cons (pe_bltn (v := .ty "tuple") rfl T.z_tuple bt_tuple rfl) pa_nil))) (m_and (pe_cmpR o_eq (pe_callB call_lenM rfl T.z_len bt_len (pa_cons (vr 0) pa_nil)) pe_int (nomark _)) (m_and (pe_call G_is_whole hr rfl T.m_is_whole T.F_is_whole.kp T.B_is_whole .nil pass0 (pa_cons (pe_ix ix_seq (vr 0) pe_int (fun _ _ => rfl)) (pa_cons (pe_un u_neg pe_int) (pa_cons (pe_gl rfl T.g_MOST_LET) pa_nil)))) (pe_one (pe_call G_is_whole hr rfl T.m_is_whole T.F_is_whole.kp T.B_is_whole .nil pass0 (pa_cons (pe_ix ix_seq (vr 0) pe_int (fun _ _ => rfl)) (pa_cons (pe_op o_add (pe_ix ix_seq (vr 0) pe_int (fun _ _ => rfl)) pe_int) (pa_cons (pe_gl rfl T.g_MOST_TURN) pa_nil)))))))))), ?_⟩
    refine ⟨_, _, _, true, rfl, rfl, .tup hp, rfl, ⟨_, .inr (SqT.of hp), ?_⟩⟩
    refine .inr (.inl ⟨p, _, _, _, rfl, rfl, SqT.of hp, atI_cons 0 rfl rfl, ?_⟩)
    refine ⟨_, _, _, _, rfl, .int _, ?_⟩
    rw [inR_yes r1 r2]
    refine .inr (.inl ⟨p, _, _, _, rfl, rfl, SqT.of hp, atI_cons 1 rfl rfl, ?_⟩)
    refine .inr (.inl ⟨p, _, _, _, rfl, rfl, SqT.of hp, atI_cons 0 rfl rfl, ?_⟩)
    refine ⟨_, _, _, _, rfl, .int _, ?_⟩
    rw [inR_yes (by omega) r4]
    exact q
theorem neg1 {n : Nat} (h : 0 < n) : ixN n (-1) = some (n - 1) := by
  unfold ixN
  rw [if_neg (by decide), if_pos (by omega)]
  congr 1
  omega
theorem last_get {xs : List V} (h : 0 < xs.length) : ∃ x, xs[xs.length - 1]? = some x ∧ atI xs (-1) = some x := by
  refine ⟨xs[xs.length - 1], List.getElem?_eq_getElem (by omega), ?_⟩
  unfold atI
  rw [neg1 h]
  exact List.getElem?_eq_getElem (by omega)
theorem ok_need (T : Txt K mg a) : FnOk P w K mg base CX0 3 a.f_need_table a.d_need_table ["rows"] spNeed := by
  have G_is_row : FnOk P w K mg base CX0 2 _ _ _ spRow := ok_isrow T
  refine T.F_need_table.ok sc_need_table (fun vs H Q E h => ?_) (fun cdv A outer s H vs Q E hr h => ?_)
  · obtain ⟨l, xs, rs, rfl, _⟩ := h; rfl
  · obtain ⟨l, xs, rs, rfl, ht, q⟩ := h
    refine ⟨_, (pss_cons (ps_if (PW.pt (pw_or (pt_not (t_val (pe_callB call_isi rfl T.z_isinstance bt_isinstance (pa_cons (vr 0) (pa_cons (pe_bltn (v := .ty "list") rfl T.z_list bt_list rfl) pa_nil))))) (pw_or1 (pt_not (pt_truth (vr 0) (fun _ => rfl)))))) (pss_one ps_never) pss_nil) (pss_cons (ps_if (t_cmp o_gt (pe_callB call_lenM rfl T.z_len bt_len (pa_cons (vr 0) pa_nil)) (pe_gl rfl T.g_MOST_ROWS) (nomark _)) (pss_one ps_never) pss_nil) (pss_cons (ps_for PassesOwn.never rfl (pi_enum rfl T.z_enumerate (pa_cons (vr 0) pa_nil)) (pg_tup rfl (pgs_cons (pg_name (i := 1) sc_need_table.nd rfl (Or.inl rfl)) (pgs_cons (pg_name (i := 2) sc_need_table.nd rfl (Or.inl rfl)) pgs_nil))) (pss_one (ps_if (pt_not (t_val (pe_call G_is_row hr rfl T.m_is_row T.F_is_row.kp T.B_is_row .nil pass0 (pa_cons (vr 2) pa_nil)))) (pss_one ps_never) pss_nil))) (pss_one (ps_if (t_cmp o_ne (pe_ix ix_seq (pe_ix ix_seq (vr 0) (pe_un u_neg pe_int) (fun _ _ => rfl)) pe_int (fun _ _ => rfl)) (pe_op o_add (pe_ix ix_seq (pe_ix ix_seq (vr 0) (pe_un u_neg pe_int) (fun _ _ => rfl)) pe_int (fun _ _ => rfl)) pe_int) (nomark _)) (pss_one ps_never) pss_nil))))), ?_⟩
    have xl := ht.xl
    have hpos := ht.tab.pos
    have hlen := ht.tab.len
    refine ⟨_, _, _, true, rfl, rfl, .lst ht.at_, rfl, ?_⟩
    refine ⟨_, .inl ⟨xs, SqL.of ht.at_, rfl⟩, ?_⟩
    have e1 : xs.isEmpty = false := by cases xs with | nil => simp at xl; omega | cons _ _ => rfl
    rw [e1]
    refine ⟨_, .inl (SqL.of ht.at_), ?_⟩
    refine ifN (by show ¬ ((xs.length : Int) > 24); omega) ?_
    refine ⟨l, _, rfl, ht.at_, for_enum (a := l) (xs := xs) (fun i σ H' => Same H H' ∧ ∃ (x1 x2 : Option V), σ = [some (.ref l), x1, x2]) ⟨Same.refl H, none, none, rfl⟩ (fun i σ H' h => h.1 _ _ ht.at_) ?_ ?_⟩
    · rintro i x σ H1 pt hx ⟨s1, x1, x2, rfl⟩ hpt
      obtain ⟨r, hr, hR⟩ := pget ht.all hx
      have s2 := Same.new (o := .tup [.int (i : Nat), x]) hpt
      refine ⟨pt, _, rfl, SqT.of upd_same, rfl, _, _, rfl, _, _, rfl, rfl, ?_⟩
      exact ⟨x, r, rfl, hR.same (s1.trans s2), ht.tab.ok _ (List.mem_of_getElem? hr), ⟨s1.trans s2, _, _, rfl⟩⟩
    · rintro σ H1 ⟨s1, x1, x2, rfl⟩
      obtain ⟨x, hx, hat⟩ := last_get (xs := xs) (by omega)
      obtain ⟨r, hr, hR⟩ := pget ht.all hx
      obtain ⟨p, rfl, hp⟩ := hR.same s1
      rw [xl] at hr
      have e2 := ht.tab.last r hr
      have hl1 := s1 _ _ ht.at_
      refine .inl ⟨l, _, _, _, rfl, rfl, SqL.of hl1, hat, ?_⟩
      refine .inr (.inl ⟨p, _, _, _, rfl, rfl, SqT.of hp, atI_cons 1 rfl rfl, ?_⟩)
      refine .inl ⟨l, _, _, _, rfl, rfl, SqL.of hl1, hat, ?_⟩
      refine .inr (.inl ⟨p, _, _, _, rfl, rfl, SqT.of hp, atI_cons 0 rfl rfl, ?_⟩)
      exact iteNS e2 (q _ s1)
theorem ok_word (T : Txt K mg a) : FnOk P w K mg base CX0 1 a.f_word_of a.d_word_of ["row", "found"] spWord := by
  refine T.F_word_of.ok sc_word_of (fun vs H Q E h => ?_) (fun cdv A outer s H vs Q E hr h => ?_)
  · obtain ⟨x, r, f, rfl, _⟩ := h; rfl
  · obtain ⟨x, r, f, rfl, ⟨p, rfl, hp⟩, q⟩ := h
    refine ⟨_, (pss_cons (ps_asg (vr 0) (pg_tup rfl (pgs_cons (pg_name (i := 2) sc_word_of.nd rfl (Or.inl rfl)) (pgs_cons (pg_name (i := 3) sc_word_of.nd rfl (Or.inl rfl)) pgs_nil)))) (pss_cons (ps_if (t_cmp o_le (vr 1) (vr 2) (nomark _)) (pss_one (ps_ret pe_str)) pss_nil) (pss_cons (ps_if (t_cmp o_ge (vr 1) (vr 3) (nomark _)) (pss_one (ps_ret pe_str)) pss_nil) (pss_one (ps_ret pe_str))))), ?_⟩
    refine ⟨p, _, rfl, SqT.of hp, rfl, _, _, rfl, _, _, rfl, rfl, ?_⟩
    unfold wd at q
    refine ifC (fun c => ?_) (fun c => ?_)
    · rw [if_pos c] at q; exact q
    · rw [if_neg c] at q
      refine ifC (fun c2 => ?_) (fun c2 => ?_)
      · rw [if_pos c2] at q; exact q
      · rw [if_neg c2] at q; exact q
theorem oi_Looks (T : Txt K mg a) : FnOk P w K mg base CX0 4 a.i_Looks a.e_Looks ["self", "rows"] (spInit a) := by
  have G_need_table : FnOk P w K mg base CX0 3 _ _ _ spNeed := ok_need T
  refine T.Fi_Looks.ok sc_Looks___init__ (fun vs H Q E h => ?_) (fun cdv A outer s H vs Q E hr h => ?_)
  · obtain ⟨x, dx, l, xs, rs, rfl, _⟩ := h; rfl
  · obtain ⟨x, dx, l, xs, rs, rfl, hx, ht, q⟩ := h
    refine ⟨_, (pss_cons (ps_expr (pe_call G_need_table hr rfl T.m_need_table T.F_need_table.kp T.B_need_table .nil pass0 (pa_cons (vr 1) pa_nil))) (pss_one (ps_fld (vr 0) (pe_callTy call_tuple_of rfl T.z_tuple bt_tuple (pa_cons (vr 1) pa_nil)) rfl))), ?_⟩
    refine ⟨l, xs, rs, rfl, ht, fun H1 s1 => ?_⟩
    refine ⟨l, xs, rfl, .inl ⟨SqL.of (s1 _ _ ht.at_), fun t htn => ?_⟩⟩
    have s2 := Same.new (o := .tup xs) htn
    have hx2 := s2 _ _ (s1 _ _ hx)
    have ntx : t ≠ x := fun z => by rw [z, s1 _ _ hx] at htn; cases htn
    refine ⟨x, _, dx, _, rfl, hx2, T.cl_Looks, T.na_Looks_rows, by decide, ?_⟩
    refine q _ (fun b o hb e => by rw [upd_ne hb]; exact s2 _ _ (s1 _ _ e)) ⟨⟨dx, t, xs, upd_same, by rw [upd_ne ntx]; exact upd_same, ?_⟩, ht.tab⟩
    have h3 := ht.all.same (s1.trans s2)
    exact h3.own hx2
theorem ok_gcd (T : Txt K mg a) : FnOk P w K mg base CX0 1 a.f_greatest_divisor a.d_greatest_divisor ["one", "other"] spGcd := by
  refine T.F_greatest_divisor.ok sc_greatest_divisor (fun vs H Q E h => ?_) (fun cdv A outer s H vs Q E hr h => ?_)
  · obtain ⟨x, y, rfl, _⟩ := h; rfl
  · obtain ⟨x0, y0, rfl, h0, h1, q⟩ := h
    refine ⟨_, (pss_cons (ps_while PassesOwn.never (pt_truth (vr 1) (fun _ => rfl)) (pss_one (ps_par rfl sc_greatest_divisor.nd (i := 0) (j := 1) rfl rfl (by decide) rfl rfl (pa_cons (vr 1) (pa_cons (pe_op o_mod (vr 0) (vr 1)) pa_nil)) rfl))) (pss_one (ps_ret (vr 0)))), ?_⟩
    refine ⟨fun m σ H' => H' = H ∧ ∃ x y : Int, 0 ≤ x ∧ 0 ≤ y ∧ m = y.toNat ∧ Int.gcd x y = Int.gcd x0 y0 ∧ σ = [some (.int x), some (.int y)], ⟨_, rfl, x0, y0, h0, h1, rfl, rfl, rfl⟩, ?_⟩
    rintro m σ H' ⟨rfl, x, y, hx, hy, rfl, hg, rfl⟩
    refine ⟨_, rfl, ?_⟩
    refine ifB (fun c => ?_) (fun c => ?_)
    · have c' : y ≠ 0 := by simpa using c
      refine ⟨fun σ' H'' => H'' = H' ∧ σ' = [some (.int y), some (.int (x % y))], ?_, ?_⟩
      · rintro σ' H'' ⟨rfl, rfl⟩
        exact ⟨(x % y).toNat, by have := Int.emod_lt_of_pos x (show 0 < y by omega); have := Int.emod_nonneg x c'; omega, rfl, y, x % y, hy, Int.emod_nonneg x c', rfl, by rw [gcd_step, hg], rfl⟩
      · exact ⟨cp (by omega), _, _, rfl, rfl, rfl⟩
    · have c' : y = 0 := by simpa using c
      subst c'
      rw [Int.gcd_zero_right] at hg
      have : x = (Int.gcd x0 y0 : Int) := by omega
      rw [← this] at q
      exact q
theorem ok_noS (T : Txt K mg a) : FnOk P w K mg base CX0 1 a.f_share a.d_share ["top", "bottom"] spNo := by
  refine T.F_share.ok sc_share (fun vs H Q E h => False.elim h) (fun cdv A outer s H vs Q E hr h => False.elim h)
theorem ok_share0 (T : Txt K mg a) : FnOk P w K mg base CX0 2 a.f_share a.d_share ["top", "bottom"] spShare0 := by
  have G_share : FnOk P w K mg base CX0 1 a.f_share a.d_share ["top", "bottom"] spNo := ok_noS T
  have G_greatest_divisor : FnOk P w K mg base CX0 1 _ _ _ spGcd := ok_gcd T
  refine T.F_share.ok sc_share (fun vs H Q E h => ?_) (fun cdv A outer s H vs Q E hr h => ?_)
  · obtain ⟨x, y, rfl, _⟩ := h; rfl
  · obtain ⟨t, b, rfl, hb, b1, b2, q⟩ := h
    refine ⟨_, (pss_cons (ps_if (t_cmp o_lt (vr 1) pe_int (nomark _)) (pss_one (ps_ret (pe_call G_share hr rfl T.m_share T.F_share.kp T.B_share .nil pass0 (pa_cons (pe_un u_neg (vr 0)) (pa_cons (pe_un u_neg (vr 1)) pa_nil))))) pss_nil) (pss_cons (ps_set (i := 2) sc_share.nd rfl (Or.inl rfl) (pe_call G_greatest_divisor hr rfl T.m_greatest_divisor T.F_greatest_divisor.kp T.B_greatest_divisor .nil pass0 (pa_cons (pe_callB call_abs rfl T.z_abs bt_abs (pa_cons (vr 0) pa_nil)) (pa_cons (vr 1) pa_nil)))) (pss_one (ps_ret (pe_tup (pa_cons (pe_op o_fdivB (vr 0) (vr 2)) (pa_cons (pe_op o_fdivB (vr 1) (vr 2)) pa_nil))))))), ?_⟩
    obtain ⟨l1, l2, l3, l4, l5⟩ := low t b hb
    refine ifC (fun c => absurd c (by omega)) (fun _ => ?_)
    refine ⟨t, rfl, ⟨_, _, rfl, by split <;> omega, by omega, ?_⟩⟩
    rw [abs_gcd]
    have hd : Bt 3000 (Int.gcd t b : Int) := b2.le (by omega)
    refine ⟨cdB l1 hd, cdB l1 hd, two_le _ _, fun p hp => ?_⟩
    exact q _ p _ _ (Same.new hp) upd_same l3 (b1.le l4) (b2.le l5)
theorem ok_choices (T : Txt K mg a) : FnOk P w K mg base CX0 1 a.f_choices a.d_choices ["many", "some"] spChoices := by
  refine T.F_choices.ok sc_choices (fun vs H Q E h => ?_) (fun cdv A outer s H vs Q E hr h => ?_)
  · obtain ⟨m, k, rfl, _⟩ := h; rfl
  · obtain ⟨m, k, rfl, m0, m1, k0, k1, q⟩ := h
    refine ⟨_, (pss_cons (ps_if (PW.pt (pw_or (t_cmp o_lt (vr 1) pe_int (nomark _)) (pw_or1 (t_cmp o_gt (vr 1) (vr 0) (nomark _))))) (pss_one (ps_ret pe_int)) pss_nil) (pss_cons (ps_set (i := 2) sc_choices.nd rfl (Or.inl rfl) pe_int) (pss_cons (ps_for PassesOwn.never rfl (pi_range1 rfl T.z_range (pa_cons (vr 1) pa_nil)) (pg_name (i := 3) sc_choices.nd rfl (Or.inl rfl)) (pss_one (ps_set (i := 2) sc_choices.nd rfl (Or.inl rfl) (pe_op o_fdivB (pe_op o_mulB (vr 2) (pe_op o_sub (vr 0) (vr 3))) (pe_op o_add (vr 3) pe_int))))) (pss_one (ps_ret (vr 2)))))), ?_⟩
    unfold chI at q
    refine ifC (fun c1 => ?_) (fun c1 => ?_)
    · have c1' : ¬ 0 ≤ k := by have z : k < 0 := c1; omega
      rw [if_neg c1'] at q
      exact q
    have c1' : 0 ≤ k := by have z : ¬ k < 0 := c1; omega
    rw [if_pos c1'] at q
    refine ifC (fun c2 => ?_) (fun c2 => ?_)
    · have c2' : k > m := c2
      rw [ch_gt (by omega)] at q
      exact q
    have c2' : k ≤ m := by have z : ¬ k > m := c2; omega
    refine ⟨k, rfl, by omega, by omega, ?_⟩
    refine for_range (lo := 0) (n := k.toNat) (fun i σ H' => H' = H ∧ ∃ (x3 : Option V), σ = [some (.int m), some (.int k), some (.int (ch m.toNat i : Nat)), x3]) ⟨rfl, none, by rw [ch_zero]; rfl⟩ ?_ ?_
    · rintro i σ H' hi ⟨rfl, x3, rfl⟩
      refine ⟨crB (by omega) (by omega), cdB (by omega) (show Bt 40 (0 + (i : Int) + 1) by unfold Bt; omega), rfl, some (.int (0 + (i : Int))), ?_⟩
      have e1 := ch_step (n := m.toNat) (k := i) (by omega)
      have e2 : (ch m.toNat i : Int) * (m - (0 + (i : Int))) = (ch m.toNat (i + 1) : Int) * (0 + (i : Int) + 1) := by
        have z : ((ch m.toNat (i + 1) * (i + 1) : Nat) : Int) = ((ch m.toNat i * (m.toNat - i) : Nat) : Int) := by rw [e1]
        rw [Int.natCast_mul, Int.natCast_mul] at z
        have z1 : ((m.toNat - i : Nat) : Int) = m - (0 + (i : Int)) := by omega
        have z2 : ((i + 1 : Nat) : Int) = 0 + (i : Int) + 1 := by omega
        rw [z1, z2] at z
        exact z.symm
      have e3 : (ch m.toNat i : Int) * (m - (0 + (i : Int))) / (0 + (i : Int) + 1) = (ch m.toNat (i + 1) : Int) := by
        rw [e2]; exact Int.mul_ediv_cancel _ (by omega)
      show [some (V.int m), some (.int k), some (.int ((ch m.toNat i : Int) * (m - (0 + (i : Int))) / (0 + (i : Int) + 1))), some (.int (0 + (i : Int)))] = _
      rw [e3]
    · rintro σ H' ⟨rfl, x3, rfl⟩
      exact q
theorem ok_more (T : Txt K mg a) : FnOk P w K mg base CX0 1 a.f_one_more a.d_one_more ["ways"] spMore := by
  refine T.F_one_more.ok sc_one_more (fun vs H Q E h => ?_) (fun cdv A outer s H vs Q E hr h => ?_)
  · obtain ⟨p, op, k, rfl, _⟩ := h; rfl
  · obtain ⟨p, op, k, rfl, hp, k50, q⟩ := h
    refine ⟨_, (pss_one (ps_ret (pe_comp rfl (N := ["good", "bad"]) (ix := [none, none]) ⟨rfl, rfl, rfl, rfl, trivial⟩ (pi_zip rfl T.z_zip (pa_cons (pe_op op_cat (vr 0) (pe_lst (pa_cons pe_int pa_nil))) (pa_cons (pe_op op_cat (pe_lst (pa_cons pe_int pa_nil)) (vr 0)) pa_nil))) ⟨fun C s H fp => (pg_tupK (K := K) (n := 2) rfl rfl (pgs_cons (pg_name (i := 0) (show List.Nodup (["good", "bad"] : List Str) by decide +kernel) rfl (Or.inl rfl)) (pgs_cons (pg_name (i := 1) (show List.Nodup (["good", "bad"] : List Str) by decide +kernel) rfl (Or.inl rfl)) pgs_nil))), fun C s H fp => pts_nil, fun C s H fp => (pe_op o_add (vr 0) (vr 1))⟩))), ?_⟩
    have sl : sizeLine = 16777216 := sizeLine_eq
    have ln : (nI ((List.range (k + 1)).map (O op k))).length = k + 1 := by rw [nI_len, List.length_map, List.length_range]
    refine ⟨(by decide : 1 ≤ sizeLine), fun p1 hp1 => ?_⟩
    have s1 := Same.new (o := .lst [.int 0]) hp1
    refine ⟨p, p1, _, _, rfl, rfl, s1 _ _ hp, upd_same, by rw [ln]; show _ + 1 ≤ _; omega, fun p2 hp2 => ?_⟩
    have e1 : nI ((List.range (k + 1)).map (O op k)) ++ [.int 0] = nI ((List.range (k + 1 + 1)).map (O op k)) := by
      rw [rng_snoc (O op k) (k + 1), O_gt op (by omega)]; rfl
    rw [e1]
    have s2 := s1.trans (Same.new (o := .lst (nI ((List.range (k + 1 + 1)).map (O op k)))) hp2)
    have h2 := upd_same (H := upd H p1 (.lst [.int 0])) (a := p2) (o := .lst (nI ((List.range (k + 1 + 1)).map (O op k))))
    generalize upd (upd H p1 (.lst [.int 0])) p2 (.lst (nI ((List.range (k + 1 + 1)).map (O op k)))) = H2 at s2 h2
    refine ⟨(by decide : 1 ≤ sizeLine), fun p3 hp3 => ?_⟩
    have s3 := Same.new (o := .lst [.int 0]) hp3
    refine ⟨p3, p, _, _, rfl, rfl, upd_same, s3 _ _ (s2 _ _ hp), by rw [ln]; show 1 + _ ≤ _; omega, fun p4 hp4 => ?_⟩
    have e2 : [.int 0] ++ nI ((List.range (k + 1)).map (O op k)) = nI ((List.range (k + 1 + 1)).map fun f => pr (O op k) f) := by
      rw [List.range_succ_eq_map (n := k + 1), List.map_cons, List.map_map]
      rfl
    rw [e2]
    have s4 := s3.trans (Same.new (o := .lst (nI ((List.range (k + 1 + 1)).map fun f => pr (O op k) f))) hp4)
    have h4 := upd_same (H := upd H2 p3 (.lst [.int 0])) (a := p4) (o := .lst (nI ((List.range (k + 1 + 1)).map fun f => pr (O op k) f)))
    have h24 := s4 _ _ h2
    have s24 := s2.trans s4
    generalize upd (upd H2 p3 (.lst [.int 0])) p4 (.lst (nI ((List.range (k + 1 + 1)).map fun f => pr (O op k) f))) = H4 at s4 h4 h24 s24
    refine ⟨p2, p4, _, _, rfl, h24, h4, fun D hD => ?_⟩
    refine comp_zip (a := p2) (b := p4) (xs := nI ((List.range (k + 1 + 1)).map (O op k))) (ys := nI ((List.range (k + 1 + 1)).map fun f => pr (O op k) f)) (by rw [nI_len, nI_len, List.length_map, List.length_map]) (fun i zs H' => Same H4 H' ∧ H' D = some (.lst zs) ∧ zs = nI ((List.range i).map (W op (k + 1)))) ⟨Same.new hD, upd_same, rfl⟩ (fun i zs H' h => ⟨h.1 _ _ h24, h.1 _ _ h4⟩) (fun i zs H' h => h.2.1) ?_ ?_
    · rintro j x y zs H' pz P' hx hy ⟨s6, hDz, rfl⟩ hpz hP
      obtain ⟨m, hm, rfl⟩ := nI_get hx
      obtain ⟨n, hn, rfl⟩ := nI_get hy
      obtain ⟨hj, rfl⟩ := rng_get hm
      obtain ⟨_, rfl⟩ := rng_get hn
      have s7 := Same.new (o := .tup [.int (O op k j : Nat), .int (pr (O op k) j : Nat)]) hpz
      refine ⟨pz, _, rfl, SqT.of upd_same, rfl, _, _, rfl, _, _, rfl, rfl, trivial, s7 _ _ hDz, ?_, hP _ _ ⟨(s6.trans s7).put hD, upd_same, ?_⟩⟩
      · rw [nI_len, List.length_map, List.length_range]; omega
      · rw [rng_snoc]
        have e : W op (k + 1) j = O op k j + pr (O op k) j := by
          cases j with
          | zero => rw [W_zero]; rfl
          | succ f => rw [W_succ]; rfl
        rw [e, Int.natCast_add]
    · rintro zs H6 ⟨s6, hDz, rfl⟩
      rw [nI_len, List.length_map, List.length_range] at hDz
      exact q _ D (s24.trans s6) (s24.free hD) hDz
end
end My

set_option Elab.async false
set_option linter.all false
set_option maxRecDepth 100000
set_option maxHeartbeats 4000000
namespace My
open PySem L2 FrM Wr
/-- an ending: looked, found, word, many -/
structure Ent where
  lk : Nat
  fd : Nat
  wo : Str
  mn : Nat
def IsE (H : Hp) (e : Ent) (x : V) : Prop := ∃ p, x = .ref p ∧ H p = some (.tup [.int (e.lk : Nat), .int (e.fd : Nat), .str e.wo, .int (e.mn : Nat)])
theorem IsE.same {H H' : Hp} {e : Ent} {x : V} (s : Same H H') (h : IsE H e x) : IsE H' e x := let ⟨p, z, q⟩ := h; ⟨p, z, s _ _ q⟩
theorem IsE.lst {H : Hp} {z : Ent} {x : V} {D : Addr} {vs ys : List V} (e : H D = some (.lst vs)) (h : IsE H z x) : IsE (upd H D (.lst ys)) z x := let ⟨p, e', q⟩ := h; ⟨p, e', by rw [upd_ne (fun w => by rw [w, e] at q; cases q)]; exact q⟩
abbrev AllE (H : Hp) : List Ent → List V → Prop := PySem.Paired (IsE H)
theorem AllE.same {H H' : Hp} (s : Same H H') : ∀ {zs : List Ent} {xs : List V}, AllE H zs xs → AllE H' zs xs
  | _, _, .nil => .nil
  | _, _, .cons r t => .cons (r.same s) (AllE.same s t)
theorem AllE.lst {H : Hp} {D : Addr} {vs ys : List V} (e : H D = some (.lst vs)) : ∀ {zs : List Ent} {xs : List V}, AllE H zs xs → AllE (upd H D (.lst ys)) zs xs
  | _, _, .nil => .nil
  | _, _, .cons r t => .cons (r.lst e) (AllE.lst e t)
theorem AllE.app {H : Hp} : ∀ {zs ws : List Ent} {xs ys : List V}, AllE H zs xs → AllE H ws ys → AllE H (zs ++ ws) (xs ++ ys)
  | _, _, _, _, .nil, h => h
  | _, _, _, _, .cons r t, h => .cons r (AllE.app t h)
theorem AllE.snoc {H : Hp} {z : Ent} {x : V} {zs : List Ent} {xs : List V} (t : AllE H zs xs) (r : IsE H z x) : AllE H (zs ++ [z]) (xs ++ [x]) := t.app (.cons r .nil)
section
variable (rs : List Rw) (N b : Nat)
def mnF (k f : Nat) : Nat := W (opF rs) k f * chb N b k f
def entF (k f : Nat) : Ent := ⟨k, f, wd (rw_at rs (k - 1)) (f : Int), mnF rs N b k f⟩
def entK (k : Nat) : List Ent := (fs (opF rs) N b k).map (entF rs N b k)
def entA (n : Nat) : List Ent := (List.range n).flatMap fun k => entK rs N b (k + 1)
theorem entA_succ (n : Nat) : entA rs N b (n + 1) = entA rs N b n ++ entK rs N b (n + 1) := by
  unfold entA; rw [List.range_succ, List.flatMap_append]; simp
end
theorem fs_len (op : Nat → Nat → Bool) (N b k : Nat) : (fs op N b k).length ≤ k + 1 := by
  unfold fs
  have := List.length_filter_le (fun f => !op k f && decide (0 < W op k f * chb N b k f)) (List.range (k + 1))
  rw [List.length_range] at this
  exact this
theorem chb_I {N b k f : Nat} (hk : k ≤ N) : chI ((N : Int) - k) ((b : Int) - f) = (chb N b k f : Int) := by
  unfold chI chb
  by_cases c : f ≤ b
  · rw [if_pos c, if_pos (by omega)]
    congr 2
    · omega
    · omega
  · rw [if_neg c, if_neg (by omega)]; rfl
theorem W25 {op : Nat → Nat → Bool} {k f : Nat} (hk : k ≤ 24) : W op k f ≤ 16777216 := by
  have h1 := W_le op k f
  have h2 : (2 : Nat) ^ k ≤ 2 ^ 24 := Nat.pow_le_pow_right (by decide) hk
  have h3 : (2 : Nat) ^ 24 = 16777216 := by decide +kernel
  omega
def spEndAt : Sp := fun vs H Q _ => ∃ (xr : V) (rs : List Rw) (p : Addr) (N b k : Nat), vs = [xr, .ref p, .int ((N : Int) - (k + 1 : Nat)), .int (b : Nat), .int ((k + 1 : Nat) : Int)] ∧ IsR H (rw_at rs k) xr ∧ H p = some (.lst (nI ((List.range (k + 1 + 1)).map (W (opF rs) (k + 1))))) ∧ k + 1 ≤ N ∧ N ≤ 24 ∧ b ≤ N ∧ ∀ H' q ys, Same H H' → H' q = some (.lst ys) → AllE H' (entK rs N b (k + 1)) ys → ys.length ≤ 30 → Q (.ref q) H'
def spEnds (a : Ad) : Sp := fun vs H Q _ => ∃ (x : Addr) (rs : List Rw) (N b : Nat), vs = [.ref x, .int (N : Nat), .int (b : Nat)] ∧ LkAt a H x rs ∧ rs.length ≤ N ∧ N ≤ 24 ∧ b ≤ N ∧ ∀ H' q ys, Same H H' → H q = none → H' q = some (.lst ys) → AllE H' (entA rs N b rs.length) ys → ys.length ≤ 1000 → Q (.ref q) H'
section
variable {P : Program} {w : World} {K : PySem.W.Frag} {mg : Str → Option Value} {base : Heap} {a : Ad}
theorem ok_endat (T : Txt K mg a) : FnOk P w K mg base CX0 2 a.f_endings_at a.d_endings_at ["row", "ways", "left", "bad", "looked"] spEndAt := by
  have G_choices : FnOk P w K mg base CX0 1 _ _ _ spChoices := ok_choices T
  have G_word_of : FnOk P w K mg base CX0 1 _ _ _ spWord := ok_word T
  refine T.F_endings_at.ok sc_endings_at (fun vs H Q E h => ?_) (fun cdv A outer s H vs Q E hr h => ?_)
  · obtain ⟨xr, rs, p, N, b, k, rfl, _⟩ := h; rfl
  · obtain ⟨xr, rs, p, N, b, k, rfl, hR, hp, hk, hN, hb, q⟩ := h
    refine ⟨_, (pss_cons (ps_setC rfl (i := 5) sc_endings_at.nd rfl rfl (by with_unfolding_all rfl) (N := ["found", "many", "left", "bad"]) (ix := [none, none, some 2, some 3]) ⟨rfl, rfl, rfl, rfl, ⟨rfl, rfl, rfl, ⟨rfl, rfl, rfl, trivial⟩⟩⟩ (pi_enum rfl T.z_enumerate (pa_cons (vr 1) pa_nil)) ⟨fun C s H fp => (pg_tupK (K := K) (n := 2) rfl rfl (pgs_cons (pg_name (i := 0) (show List.Nodup (["found", "many", "left", "bad"] : List Str) by decide +kernel) rfl (Or.inl rfl)) (pgs_cons (pg_name (i := 1) (show List.Nodup (["found", "many", "left", "bad"] : List Str) by decide +kernel) rfl (Or.inl rfl)) pgs_nil))), fun C s H fp => pts_nil, fun C s H fp => (pe_op o_mulB (vr 1) (pe_call G_choices hr rfl T.m_choices T.F_choices.kp T.B_choices .nil pass0 (pa_cons (vr 2) (pa_cons (pe_op o_sub (vr 3) (vr 0)) pa_nil))))⟩) (pss_cons (ps_setC rfl (i := 6) sc_endings_at.nd rfl rfl (by with_unfolding_all rfl) (N := ["found", "many", "looked", "row"]) (ix := [none, none, some 4, some 0]) ⟨rfl, rfl, rfl, rfl, ⟨rfl, rfl, rfl, ⟨rfl, rfl, rfl, trivial⟩⟩⟩ (pi_enum rfl T.z_enumerate (pa_cons (vr 5) pa_nil)) ⟨fun C s H fp => (pg_tupK (K := K) (n := 2) rfl rfl (pgs_cons (pg_name (i := 0) (show List.Nodup (["found", "many", "looked", "row"] : List Str) by decide +kernel) rfl (Or.inl rfl)) (pgs_cons (pg_name (i := 1) (show List.Nodup (["found", "many", "looked", "row"] : List Str) by decide +kernel) rfl (Or.inl rfl)) pgs_nil))), fun C s H fp => pts_one (t_cmp o_gt (vr 1) pe_int (nomark _)), fun C s H fp => (pe_tup (pa_cons (vr 2) (pa_cons (vr 0) (pa_cons (pe_call G_word_of hr rfl T.m_word_of T.F_word_of.kp T.B_word_of .nil pass0 (pa_cons (vr 3) (pa_cons (vr 0) pa_nil))) (pa_cons (vr 1) pa_nil)))))⟩) (pss_one (ps_ret (pe_comp rfl (N := ["ending"]) (ix := [none]) ⟨rfl, rfl, rfl, rfl, trivial⟩ (pi_any (vr 6)) ⟨fun C s H fp => pg_name (i := 0) (show List.Nodup (["ending"] : List Str) by decide +kernel) rfl (Or.inl rfl), fun C s H fp => pts_one (t_cmp o_ne (pe_ix (ix_seqK (K := K) rfl) (vr 0) pe_int (fun _ _ => rfl)) pe_str (nomark _)), fun C s H fp => (vr 0)⟩))))), ?_⟩
    have sl : sizeLine = 16777216 := sizeLine_eq
    refine ⟨p, _, rfl, hp, fun D hD => ?_⟩
    refine comp_enum (a := p) (xs := nI ((List.range (k + 1 + 1)).map (W (opF rs) (k + 1)))) (fun i ys H' => i ≤ k + 2 ∧ Same H H' ∧ H' D = some (.lst ys) ∧ ys = nI ((List.range i).map (mnF rs N b (k + 1)))) ⟨Nat.zero_le _, Same.new hD, upd_same, rfl⟩ (fun i ys H' h => h.2.1 _ _ hp) (fun i ys H' h => h.2.2.1) ?_ ?_
    · rintro i v ys H1 pt P' hv ⟨hi, s1, hD1, rfl⟩ hpt hP
      obtain ⟨w, hw, rfl⟩ := nI_get hv
      obtain ⟨hlt, rfl⟩ := rng_get hw
      have s2 := Same.new (o := .tup [.int (i : Nat), .int (W (opF rs) (k + 1) i : Nat)]) hpt
      have w25 : W (opF rs) (k + 1) i ≤ 16777216 := W25 (by omega)
      refine ⟨pt, _, rfl, SqT.of upd_same, rfl, _, _, rfl, _, _, rfl, rfl, ⟨rfl, rfl, trivial⟩, ?_⟩
      refine ⟨_, _, rfl, by omega, by omega, by omega, by omega, ⟨clB (by omega) (by omega), s2 _ _ hD1, ?_, hP _ _ ⟨by omega, (s1.trans s2).put hD, upd_same, ?_⟩⟩⟩
      · rw [nI_len, List.length_map, List.length_range]; omega
      · rw [rng_snoc]
        have e : (mnF rs N b (k + 1) i : Int) = (W (opF rs) (k + 1) i : Int) * chI ((N : Int) - (k + 1 : Nat)) ((b : Int) - (i : Nat)) := by
          rw [chb_I hk]; unfold mnF; rw [Int.natCast_mul]
        rw [e]
    rintro ys H1 ⟨_, s1, hD1, rfl⟩
    rw [nI_len, List.length_map, List.length_range] at hD1
    refine ⟨D, _, rfl, hD1, fun D2 hD2 => ?_⟩
    have pos : (List.range (k + 2)).length = k + 2 := List.length_range
    refine comp_enum (a := D) (xs := nI ((List.range (k + 2)).map (mnF rs N b (k + 1)))) (fun i ys H' => i ≤ k + 2 ∧ Same H1 H' ∧ H' D2 = some (.lst ys) ∧ AllE H' (((List.range i).filter fun f => decide (0 < mnF rs N b (k + 1) f)).map (entF rs N b (k + 1))) ys) ⟨Nat.zero_le _, Same.new hD2, upd_same, .nil⟩ (fun i ys H' h => h.2.1 _ _ hD1) (fun i ys H' h => h.2.2.1) ?_ ?_
    · rintro i v ys H2 pt P' hv ⟨hi, s2, hE2, hall⟩ hpt hP
      obtain ⟨u, hu, rfl⟩ := nI_get hv
      obtain ⟨hlt, rfl⟩ := rng_get hu
      have s3 := Same.new (o := .tup [.int (i : Nat), .int (mnF rs N b (k + 1) i : Nat)]) hpt
      have yl : ys.length ≤ i := by
        rw [← Paired.length hall, List.length_map]
        have := List.length_filter_le (fun f => decide (0 < mnF rs N b (k + 1) f)) (List.range i)
        rw [List.length_range] at this
        exact this
      refine ⟨pt, _, rfl, SqT.of upd_same, rfl, _, _, rfl, _, _, rfl, rfl, ⟨rfl, rfl, trivial⟩, ?_⟩
      refine ifC (fun c => ?_) (fun c => ?_)
      · have c' : 0 < mnF rs N b (k + 1) i := by have z : ((mnF rs N b (k + 1) i : Nat) : Int) > 0 := c; omega
        refine ⟨xr, rw_at rs k, _, rfl, ((hR.same s1).same s2).same s3, ?_⟩
        refine ⟨(by decide : 4 ≤ sizeLine), fun pe hpe => ?_⟩
        have s4 := s3.trans (Same.new (o := .tup [.int ((k + 1 : Nat) : Int), .int (i : Nat), .str (wd (rw_at rs k) (i : Nat)), .int (mnF rs N b (k + 1) i : Nat)]) hpe)
        have hE4 := s4 _ _ hE2
        refine ⟨hE4, by omega, hP _ _ ⟨by omega, (s2.trans s4).put hD2, upd_same, ?_⟩⟩
        rw [List.range_succ, List.filter_append, List.map_append, List.filter_cons_of_pos (by simpa using c')]
        exact ((hall.same s4).lst hE4).snoc (IsE.lst hE4 ⟨pe, rfl, upd_same⟩)
      · have c' : ¬ 0 < mnF rs N b (k + 1) i := fun z => c (show ((mnF rs N b (k + 1) i : Nat) : Int) > 0 by omega)
        refine hP _ _ ⟨by omega, s2.trans s3, s3 _ _ hE2, ?_⟩
        rw [List.range_succ, List.filter_append, List.map_append, List.filter_cons_of_neg (by simpa using c')]
        simpa using hall.same s3
    rintro ys H2 ⟨_, s2, hE2, hall⟩
    rw [nI_len, List.length_map, List.length_range] at hall
    have yl : ys.length ≤ k + 2 := by
      rw [← Paired.length hall, List.length_map]
      have := List.length_filter_le (fun f => decide (0 < mnF rs N b (k + 1) f)) (List.range (k + 2))
      rw [List.length_range] at this
      exact this
    generalize hL : ((List.range (k + 2)).filter fun f => decide (0 < mnF rs N b (k + 1) f)) = L at hall
    refine .inl ⟨⟨_, SqL.of hE2⟩, fun D3 hD3 => ?_⟩
    refine comp_list (K := K) (a := D2) (xs := ys) (fun j zs H' => j ≤ ys.length ∧ Same H2 H' ∧ H' D3 = some (.lst zs) ∧ AllE H' (((L.take j).filter fun f => !opF rs (k + 1) f).map (entF rs N b (k + 1))) zs) ⟨Nat.zero_le _, Same.new hD3, upd_same, by rw [List.take_zero]; exact .nil⟩ (fun j zs H' h' => SqL.of (h'.2.1 _ _ hE2)) (fun j zs H' h' => h'.2.2.1) ?_ ?_
    · rintro j y zs H' P' hy ⟨hj, s3, hZ, hz⟩ hP
      have hlt : j < ys.length := (List.getElem?_eq_some_iff.mp hy).1
      obtain ⟨e, he, pe, rfl, hpe⟩ := pget hall hy
      obtain ⟨f, hf, rfl⟩ : ∃ f, L[j]? = some f ∧ e = entF rs N b (k + 1) f := by
        rw [List.getElem?_map] at he
        cases hc : L[j]? with
        | none => rw [hc] at he; cases he
        | some z => rw [hc] at he; cases he; exact ⟨z, rfl, rfl⟩
      have zl : zs.length ≤ j := by
        rw [← Paired.length hz, List.length_map]
        have := List.length_filter_le (fun f => !opF rs (k + 1) f) (L.take j)
        rw [List.length_take] at this
        omega
      have hpe3 : H' pe = some (.tup [.int ((k + 1 : Nat) : Int), .int (f : Nat), .str (wd (rw_at rs k) (f : Int)), .int (mnF rs N b (k + 1) f : Nat)]) := s3 _ _ hpe
      have et : L.take (j + 1) = L.take j ++ [f] := by rw [List.take_add_one, hf]; rfl
      refine ⟨trivial, .inr (.inl ⟨pe, _, _, _, rfl, rfl, SqT.of hpe3, atI_cons 2 rfl rfl, ?_⟩)⟩
      have yes : opF rs (k + 1) f = false → H' D3 = some (.lst zs) ∧ zs.length < sizeLine ∧ P' (zs ++ [.ref pe]) (upd H' D3 (.lst (zs ++ [.ref pe]))) := fun ho => ⟨hZ, by omega, hP _ _ ⟨hlt, s3.put hD3, upd_same, by
        rw [et, List.filter_append, List.map_append, List.filter_cons_of_pos (by rw [ho]; rfl)]
        exact (hz.lst hZ).snoc (IsE.lst hZ ⟨pe, rfl, hpe3⟩)⟩⟩
      have no : opF rs (k + 1) f = true → P' zs H' := fun ho => hP zs H' ⟨hlt, s3, hZ, by
        rw [et, List.filter_append, List.map_append, List.filter_cons_of_neg (by rw [ho]; decide)]
        simpa using hz⟩
      have eo : opF rs (k + 1) f = decide (wd (rw_at rs k) (f : Int) = "open") := rfl
      rcases wd_cases (rw_at rs k) (f : Int) with e | e | e
      · rw [e]; exact yes (by rw [eo, e]; decide +kernel)
      · rw [e]; exact yes (by rw [eo, e]; decide +kernel)
      · rw [e]; exact no (by rw [eo, e]; decide +kernel)
    rintro zs H3 ⟨_, s3, hZ, hz⟩
    have eL : L.length = ys.length := by have := Paired.length hall; rw [List.length_map] at this; exact this
    rw [← eL, List.take_of_length_le (Nat.le_refl _), ← hL, List.filter_filter] at hz
    refine q _ D3 zs ((s1.trans s2).trans s3) hZ hz ?_
    have := fs_len (opF rs) N b (k + 1)
    rw [← Paired.length hz, List.length_map]
    have e2 : ((List.range (k + 2)).filter fun f => !opF rs (k + 1) f && decide (0 < mnF rs N b (k + 1) f)) = fs (opF rs) N b (k + 1) := rfl
    rw [e2]
    omega
end
end My

set_option Elab.async false
set_option linter.all false
set_option maxRecDepth 100000
set_option maxHeartbeats 4000000
namespace My
open PySem L2 FrM Wr
section
variable {P : Program} {w : World} {K : PySem.W.Frag} {mg : Str → Option Value} {base : Heap} {a : Ad}
theorem ok_ends (T : Txt K mg a) : FnOk P w K mg base CX0 3 a.x_Looks_endings a.y_Looks_endings ["self", "lot", "bad"] (spEnds a) := by
  have G_is_whole : FnOk P w K mg base CX0 2 _ _ _ spWhole3 := (ok_whole3 T).mono (by decide)
  have G_one_more : FnOk P w K mg base CX0 2 _ _ _ spMore := (ok_more T).mono (by decide)
  have G_endings_at : FnOk P w K mg base CX0 2 _ _ _ spEndAt := ok_endat T
  have G_word_of : FnOk P w K mg base CX0 2 _ _ _ spWord := (ok_word T).mono (by decide)
  refine T.F_Looks_endings.ok sc_Looks_endings (fun vs H Q E h => ?_) (fun cdv A outer s H vs Q E hr h => ?_)
  · obtain ⟨x, rs, N, b, rfl, _⟩ := h; rfl
  · obtain ⟨x, rs, N, b, rfl, ⟨⟨dx, t, xs, hx, ht, hall⟩, tab⟩, L0, L1, b1, q⟩ := h
    refine ⟨_, (pss_cons (ps_if (PW.pt (pw_or (pt_not (t_val (pe_call G_is_whole hr rfl T.m_is_whole T.F_is_whole.kp T.B_is_whole .nil pass0 (pa_cons (vr 1) (pa_cons (pe_callB call_lenM rfl T.z_len bt_len (pa_cons (pe_fld (vr 0) rfl) pa_nil)) (pa_cons (pe_gl rfl T.g_MOST_WARES) pa_nil)))))) (pw_or1 (pt_not (t_val (pe_call G_is_whole hr rfl T.m_is_whole T.F_is_whole.kp T.B_is_whole .nil pass0 (pa_cons (vr 2) (pa_cons pe_int (pa_cons (vr 1) pa_nil))))))))) (pss_one ps_never) pss_nil) (pss_cons (ps_set (i := 3) sc_Looks_endings.nd rfl (Or.inl rfl) (pe_lst pa_nil)) (pss_cons (ps_set (i := 4) sc_Looks_endings.nd rfl (Or.inl rfl) (pe_lst (pa_cons pe_int pa_nil))) (pss_cons (ps_for PassesOwn.never rfl (pi_enumT rfl T.z_enumerate (pa_cons (pe_fld (vr 0) rfl) pa_nil)) (pg_tup rfl (pgs_cons (pg_name (i := 5) sc_Looks_endings.nd rfl (Or.inl rfl)) (pgs_cons (pg_name (i := 6) sc_Looks_endings.nd rfl (Or.inr rfl)) pgs_nil))) (pss_cons (ps_set (i := 4) sc_Looks_endings.nd rfl (Or.inl rfl) (pe_call G_one_more hr rfl T.m_one_more T.F_one_more.kp T.B_one_more .nil pass0 (pa_cons (vr 4) pa_nil))) (pss_cons (ps_expr (pe_m.extend (vr 3) (pa_cons (pe_call G_endings_at hr rfl T.m_endings_at T.F_endings_at.kp T.B_endings_at .nil pass0 (pa_consQ (vr 6) (pa_consQ (vr 4) (pa_consQ (pe_op o_sub (pe_op o_sub (vr 1) (vr 5)) pe_int) (pa_consQ (vr 2) (pa_consQ (pe_op o_add (vr 5) pe_int) pa_nil)))))) pa_nil))) (pss_one (ps_setC rfl (i := 4) sc_Looks_endings.nd rfl rfl (by with_unfolding_all rfl) (N := ["found", "many", "row"]) (ix := [none, none, some 6]) ⟨rfl, rfl, rfl, rfl, ⟨rfl, rfl, rfl, trivial⟩⟩ (pi_enum rfl T.z_enumerate (pa_cons (vr 4) pa_nil)) ⟨fun C s H fp => (pg_tupK (K := K) (n := 2) rfl rfl (pgs_cons (pg_name (i := 0) (show List.Nodup (["found", "many", "row"] : List Str) by decide +kernel) rfl (Or.inl rfl)) (pgs_cons (pg_name (i := 1) (show List.Nodup (["found", "many", "row"] : List Str) by decide +kernel) rfl (Or.inl rfl)) pgs_nil))), fun C s H fp => pts_nil, fun C s H fp => (pe_ifExp (t_cmp o_eq (pe_call G_word_of hr rfl T.m_word_of T.F_word_of.kp T.B_word_of .nil pass0 (pa_cons (vr 2) (pa_cons (vr 0) pa_nil))) pe_str (nomark _)) (vr 1) pe_int)⟩))))) (pss_one (ps_ret (vr 3))))))), ?_⟩
    have sl : sizeLine = 16777216 := sizeLine_eq
    have xl : xs.length = rs.length := (Paired.length hall).symm
    have r24 := tab.len
    refine ⟨x, _, dx, _, _, rfl, hx, T.cl_Looks, T.na_Looks_rows, rfl, ⟨_, .inr (SqT.of ht), ?_⟩⟩
    refine ⟨_, _, _, _, rfl, .int _, ?_⟩
    rw [inR_yes (by rw [xl]; omega) (by omega)]
    refine ⟨_, _, _, _, rfl, .int _, ?_⟩
    rw [inR_yes (by omega) (by omega)]
    refine ⟨Nat.zero_le _, fun D hD => ⟨(by decide : 1 ≤ sizeLine), fun p0 hp0 => ?_⟩⟩
    have fp0 : H p0 = none := (Same.new hD).free hp0
    have s0 := (Same.new (o := .lst []) hD).trans (Same.new (o := .lst [.int 1]) hp0)
    have nDp : D ≠ p0 := ne_of_none upd_same hp0
    have h0 : nI ((List.range (0 + 1)).map (O (opF rs) 0)) = [.int 1] := rfl
    refine ⟨x, _, dx, _, _, rfl, s0 _ _ hx, T.cl_Looks, T.na_Looks_rows, rfl, ⟨t, _, rfl, s0 _ _ ht, for_enumT (a := t) (xs := xs) (fun i σ H' => i ≤ xs.length ∧ Same H H' ∧ ∃ (ts : List V) (pw : Addr) (x5 x6 : Option V), H' D = some (.lst ts) ∧ ts.length ≤ 30 * i ∧ AllE H' (entA rs N b i) ts ∧ H' pw = some (.lst (nI ((List.range (i + 1)).map (O (opF rs) i)))) ∧ σ = [some (.ref x), some (.int (N : Nat)), some (.int (b : Nat)), some (.ref D), some (.ref pw), x5, x6])
      ⟨Nat.zero_le _, s0, [], p0, none, none, by rw [upd_ne nDp]; exact upd_same, Nat.le_refl _, .nil, upd_same, rfl⟩ (fun i σ H' h => h.2.1 _ _ ht) ?_ ?_⟩⟩
    · rintro i xr σ H1 pt hxr ⟨hi, s1, ts, pw, x5, x6, hD1, tl, hA, hw1, rfl⟩ hpt
      have hlt : i < xs.length := (List.getElem?_eq_some_iff.mp hxr).1
      obtain ⟨r, hr', hR⟩ := pget hall hxr
      obtain rfl : r = rw_at rs i := (rw_get hr').symm
      have s2 := Same.new (o := .tup [.int (i : Nat), xr]) hpt
      refine ⟨pt, _, rfl, SqT.of upd_same, rfl, _, _, rfl, _, _, rfl, rfl, ?_⟩
      have s02 := s1.trans s2
      have hD2 := s2 _ _ hD1
      have hw2 := s2 _ _ hw1
      have hA2 := hA.same s2
      generalize upd H1 pt (.tup [.int (i : Nat), xr]) = H2 at s2 s02 hD2 hw2 hA2
      refine ⟨pw, opF rs, i, rfl, hw2, by omega, fun H3 pu s3 fu hu3 => ?_⟩
      have hD3 := s3 _ _ hD2
      have s03 := s02.trans s3
      refine ⟨.inl ⟨rfl, _, SqL.of hD3⟩, ?_⟩
      have eL : ((N : Int) - (i : Nat) - 1) = (N : Int) - (i + 1 : Nat) := by omega
      refine ⟨xr, rs, pu, N, b, i, (by show [xr, V.ref pu, .int ((N : Int) - (i : Nat) - 1), .int (b : Nat), .int ((i : Int) + 1)] = _; rw [eL]; rfl), hR.same s03, hu3, by omega, L1, b1, fun H4 pq ys s4 hq4 hE4 yl => ?_⟩
      have hD4 := s4 _ _ hD3
      have hu4 := s4 _ _ hu3
      refine ⟨D, pq, _, _, rfl, rfl, hD4, hq4, by omega, ?_⟩
      have s05 := (s03.trans s4).put (o := .lst (ts ++ ys)) hD
      have hD5 := upd_same (H := H4) (a := D) (o := .lst (ts ++ ys))
      have hu5 : upd H4 D (.lst (ts ++ ys)) pu = some (.lst (nI ((List.range (i + 1 + 1)).map (W (opF rs) (i + 1))))) := by
        by_cases c : pu = D
        · rw [c, hD2] at fu; cases fu
        · rw [upd_ne c]; exact hu4
      have hA5 : AllE (upd H4 D (.lst (ts ++ ys))) (entA rs N b (i + 1)) (ts ++ ys) := by
        rw [entA_succ]
        exact (((hA2.same s3).same s4).app hE4).lst hD4
      generalize upd H4 D (.lst (ts ++ ys)) = H5 at s05 hD5 hu5 hA5
      refine ⟨pu, _, rfl, hu5, fun D6 hD6 => ?_⟩
      refine comp_enum (a := pu) (xs := nI ((List.range (i + 1 + 1)).map (W (opF rs) (i + 1)))) (fun j zs H' => j ≤ i + 2 ∧ Same H5 H' ∧ H' D6 = some (.lst zs) ∧ zs = nI ((List.range j).map (O (opF rs) (i + 1)))) ⟨Nat.zero_le _, Same.new hD6, upd_same, rfl⟩ (fun j zs H' h => h.2.1 _ _ hu5) (fun j zs H' h => h.2.2.1) ?_ ?_
      · rintro j v zs H6 pz P' hv ⟨hj, s6, hD6', rfl⟩ hpz hP
        obtain ⟨u, hu, rfl⟩ := nI_get hv
        obtain ⟨hlt', rfl⟩ := rng_get hu
        have s7 := Same.new (o := .tup [.int (j : Nat), .int (W (opF rs) (i + 1) j : Nat)]) hpz
        refine ⟨pz, _, rfl, SqT.of upd_same, rfl, _, _, rfl, _, _, rfl, rfl, ⟨rfl, trivial⟩, ?_⟩
        refine ⟨xr, rw_at rs i, _, rfl, hR.same (s05.trans (s6.trans s7)), ?_⟩
        have eo : opF rs (i + 1) j = decide (wd (rw_at rs i) (j : Int) = "open") := rfl
        have put : ∀ n : Nat, O (opF rs) (i + 1) j = n → _ := fun n en => (⟨s7 _ _ hD6', by rw [nI_len, List.length_map, List.length_range]; omega, hP _ _ ⟨by omega, (s6.trans s7).put hD6, upd_same, by rw [rng_snoc, en]⟩⟩ : upd H6 pz (.tup [.int (j : Nat), .int (W (opF rs) (i + 1) j : Nat)]) D6 = some (.lst (nI ((List.range j).map (O (opF rs) (i + 1))))) ∧ (nI ((List.range j).map (O (opF rs) (i + 1)))).length < sizeLine ∧ P' (nI ((List.range j).map (O (opF rs) (i + 1))) ++ [.int (n : Nat)]) (upd (upd H6 pz (.tup [.int (j : Nat), .int (W (opF rs) (i + 1) j : Nat)])) D6 (.lst (nI ((List.range j).map (O (opF rs) (i + 1))) ++ [.int (n : Nat)]))))
        rcases wd_cases (rw_at rs i) (j : Int) with e | e | e
        · have z : opF rs (i + 1) j = false := by rw [eo, e]; decide +kernel
          rw [e]; exact put 0 (by unfold O; rw [z]; rfl)
        · have z : opF rs (i + 1) j = false := by rw [eo, e]; decide +kernel
          rw [e]; exact put 0 (by unfold O; rw [z]; rfl)
        · have z : opF rs (i + 1) j = true := by rw [eo, e]; decide +kernel
          rw [e]; exact put _ (by unfold O; rw [z]; rfl)
      rintro zs H6 ⟨_, s6, hD6', rfl⟩
      rw [nI_len, List.length_map, List.length_range] at hD6'
      exact ⟨hlt, s05.trans s6, ts ++ ys, D6, _, _, s6 _ _ hD5, by rw [List.length_append]; omega, hA5.same s6, hD6', rfl⟩
    · rintro σ H1 ⟨_, s1, ts, pw, x5, x6, hD1, tl, hA, hw1, rfl⟩
      rw [xl] at hA tl
      exact q _ D ts s1 hD hD1 hA (by omega)
def spFrac (a : Ad) (c : List Rw → Nat → Nat → Nat) : Sp := fun vs H Q _ => ∃ (x : Addr) (rs : List Rw) (N b : Nat), vs = [.ref x, .int (N : Nat), .int (b : Nat)] ∧ LkAt a H x rs ∧ rs.length ≤ N ∧ N ≤ 24 ∧ b ≤ N ∧ ∀ H' p t bt, Same H H' → H' p = some (.tup [.int t, .int bt]) → Low (G (opF rs) N (c rs) rs.length 0 0 b : Nat) (ch N b : Nat) t bt → Bt 3000 t → Bt 3000 bt → Q (.ref p) H'
end
end My

set_option Elab.async false
set_option linter.all false
set_option maxRecDepth 100000
set_option maxHeartbeats 4000000
namespace My
open PySem L2 FrM Wr
def isBy (e : Ent) : Bool := decide (e.wo = ("by" : Str))
theorem sum_filter (p : Ent → Bool) (m : Ent → Nat) : ∀ (l : List Ent), ((l.filter p).map m).sum = (l.map fun e => if p e = true then m e else 0).sum
  | [] => rfl
  | e :: l => by
    by_cases h : p e = true
    · rw [List.filter_cons_of_pos h, List.map_cons, List.map_cons, List.sum_cons, List.sum_cons, sum_filter p m l, if_pos h]
    · rw [List.filter_cons_of_neg h, List.map_cons, List.sum_cons, sum_filter p m l, if_neg h, Nat.zero_add]
theorem entA_map (rs : List Rw) (N b n : Nat) (g : Ent → Nat) : (entA rs N b n).map g = (List.range n).flatMap fun k => (fs (opF rs) N b (k + 1)).map fun f => g (entF rs N b (k + 1) f) := by
  unfold entA entK
  rw [List.map_flatMap]
  congr 1
  funext k
  rw [List.map_map]
  rfl
theorem op_last {rs : List Rw} (t : Tab rs) (f : Nat) : opF rs rs.length f = false := by
  have hp := t.pos
  obtain ⟨k, hk⟩ : ∃ k, rs.length = k + 1 := ⟨rs.length - 1, by omega⟩
  have := last_shut t (f : Int)
  rw [hk] at this ⊢
  exact decide_eq_false this
def cLk : List Rw → Nat → Nat → Nat := fun _ k _ => k
def cBy (rs : List Rw) : Nat → Nat → Nat := cb (byF rs)
theorem by_sum {rs : List Rw} (t : Tab rs) (N b : Nat) : (((entA rs N b rs.length).filter isBy).map Ent.mn).sum = G (opF rs) N (cBy rs) rs.length 0 0 b := by
  rw [sum_filter, entA_map, ← ends_sum (opF rs) N b (cBy rs) rs.length rfl (op_last t)]
  congr 2
  funext k
  refine List.map_congr_left fun f _ => ?_
  unfold cBy cb
  show (if decide (wd (rw_at rs k) (f : Int) = "by") = true then mnF rs N b (k + 1) f else 0) = (if decide (wd (rw_at rs k) (f : Int) = "by") = true then 1 else 0) * mnF rs N b (k + 1) f
  split
  · rw [Nat.one_mul]
  · rw [Nat.zero_mul]
theorem lk_sum {rs : List Rw} (t : Tab rs) (N b : Nat) : ((entA rs N b rs.length).map fun e => e.lk * e.mn).sum = G (opF rs) N (cLk rs) rs.length 0 0 b := by
  rw [entA_map, ← ends_sum (opF rs) N b (cLk rs) rs.length rfl (op_last t)]
  rfl
theorem sum_cast : ∀ (l : List Nat), (l.map fun (n : Nat) => (n : Int)).sum = ((l.sum : Nat) : Int)
  | [] => rfl
  | n :: l => by rw [List.map_cons, List.sum_cons, List.sum_cons, sum_cast l, Int.natCast_add]
theorem Bt_nat {n m : Nat} (h : n < 2 ^ m) : Bt m (n : Int) := by unfold Bt; omega
theorem ch24 {N b : Nat} (h : N ≤ 24) : ch N b ≤ 16777216 := by
  have h1 := ch_le N b
  have h2 : (2 : Nat) ^ N ≤ 2 ^ 24 := Nat.pow_le_pow_right (by decide) h
  have h3 : (2 : Nat) ^ 24 = 16777216 := by decide +kernel
  omega
theorem big3000 : (1000000000 : Nat) < 2 ^ 3000 := by
  have h1 : (2 : Nat) ^ 30 ≤ 2 ^ 3000 := Nat.pow_le_pow_right (by decide) (by decide)
  have h2 : (1000000000 : Nat) < 2 ^ 30 := by decide +kernel
  omega
theorem by_bd {rs : List Rw} {N b : Nat} (h : rs.length ≤ N) : G (opF rs) N (cBy rs) rs.length 0 0 b ≤ ch N b := G_le (opF rs) (byF rs) N (by omega)
theorem lk_bd {rs : List Rw} {N b : Nat} (h : rs.length ≤ N) (hN : N ≤ 24) : G (opF rs) N (cLk rs) rs.length 0 0 b ≤ 24 * ch N b := G_leC (opF rs) N (cLk rs) 24 (fun k f hk => by show k ≤ 24; omega) (by omega)
theorem chI_N {N b : Nat} : chI (N : Nat) (b : Nat) = (ch N b : Nat) := by unfold chI; rw [if_pos (by omega)]; rfl
section
variable {P : Program} {w : World} {K : PySem.W.Frag} {mg : Str → Option Value} {base : Heap} {a : Ad}
theorem ok_let (T : Txt K mg a) : FnOk P w K mg base CX0 4 a.x_Looks_let_by a.y_Looks_let_by ["self", "lot", "bad"] (spFrac a cBy) := by
  have G_Looks_endings : FnOk P w K mg base CX0 3 _ _ _ (spEnds a) := ok_ends T
  have G_share : FnOk P w K mg base CX0 3 _ _ _ spShare0 := (ok_share0 T).mono (by decide)
  have G_choices : FnOk P w K mg base CX0 3 _ _ _ spChoices := (ok_choices T).mono (by decide)
  refine T.F_Looks_let_by.ok sc_Looks_let_by (fun vs H Q E h => ?_) (fun cdv A outer s H vs Q E hr h => ?_)
  · obtain ⟨x, rs, N, b, rfl, _⟩ := h; rfl
  · obtain ⟨x, rs, N, b, rfl, lk, L0, L1, b1, q⟩ := h
    refine ⟨_, (pss_cons (ps_setC rfl (i := 3) sc_Looks_let_by.nd rfl rfl (by with_unfolding_all rfl) (N := ["looked", "found", "word", "many"]) (ix := [none, none, none, none]) ⟨rfl, rfl, rfl, rfl, trivial⟩ (pi_any (pe_meth (vr 0) T.cl_Looks T.mt_Looks_endings G_Looks_endings hr T.B_Looks_endings .nil pass0 (pa_cons (vr 1) (pa_cons (vr 2) pa_nil)))) ⟨fun C s H fp => (pg_tupK (K := K) (n := 4) rfl rfl (pgs_cons (pg_name (i := 0) (show List.Nodup (["looked", "found", "word", "many"] : List Str) by decide +kernel) rfl (Or.inl rfl)) (pgs_cons (pg_name (i := 1) (show List.Nodup (["looked", "found", "word", "many"] : List Str) by decide +kernel) rfl (Or.inl rfl)) (pgs_cons (pg_name (i := 2) (show List.Nodup (["looked", "found", "word", "many"] : List Str) by decide +kernel) rfl (Or.inl rfl)) (pgs_cons (pg_name (i := 3) (show List.Nodup (["looked", "found", "word", "many"] : List Str) by decide +kernel) rfl (Or.inl rfl)) pgs_nil))))), fun C s H fp => pts_one (t_cmp o_eq (vr 2) pe_str (nomark _)), fun C s H fp => (vr 3)⟩) (pss_one (ps_ret (pe_call G_share hr rfl T.m_share T.F_share.kp T.B_share .nil pass0 (pa_cons (pe_callB (call_sumI rfl) rfl T.z_sum bt_sum (pa_cons (vr 3) pa_nil)) (pa_cons (pe_call G_choices hr rfl T.m_choices T.F_choices.kp T.B_choices .nil pass0 (pa_cons (vr 1) (pa_cons (vr 2) pa_nil))) pa_nil)))))), ?_⟩
    have sl : sizeLine = 16777216 := sizeLine_eq
    obtain ⟨dx, t, xs, hx, _⟩ := lk.ex
    refine ⟨x, dx, _, rfl, hx, rfl, ⟨x, rs, N, b, rfl, lk, L0, L1, b1, fun H1 r ys s1 fr hr1 hE yl => ?_⟩⟩
    refine .inl ⟨⟨_, SqL.of hr1⟩, fun D hD => ?_⟩
    refine comp_list (K := K) (a := r) (xs := ys) (fun j zs H' => j ≤ ys.length ∧ Same H1 H' ∧ H' D = some (.lst zs) ∧ zs = nI ((((entA rs N b rs.length).take j).filter isBy).map Ent.mn)) ⟨Nat.zero_le _, Same.new hD, upd_same, by rw [List.take_zero]; rfl⟩ (fun j zs H' h' => SqL.of (h'.2.1 _ _ hr1)) (fun j zs H' h' => h'.2.2.1) ?_ ?_
    · rintro j y zs H' P' hy ⟨hj, s3, hZ, rfl⟩ hP
      have hlt : j < ys.length := (List.getElem?_eq_some_iff.mp hy).1
      obtain ⟨e, he, pe, rfl, hpe⟩ := pget hE hy
      have zl : (nI ((((entA rs N b rs.length).take j).filter isBy).map Ent.mn)).length ≤ j := by
        rw [nI_len, List.length_map]
        have := List.length_filter_le isBy ((entA rs N b rs.length).take j)
        rw [List.length_take] at this
        omega
      have et : (entA rs N b rs.length).take (j + 1) = (entA rs N b rs.length).take j ++ [e] := by rw [List.take_add_one, he]; rfl
      have hpe3 := s3 _ _ hpe
      refine ⟨pe, _, rfl, SqT.of hpe3, rfl, _, _, rfl, _, _, rfl, _, _, rfl, _, _, rfl, rfl, trivial, ?_⟩
      refine ifC (fun c => ?_) (fun c => ?_)
      · have c' : e.wo = "by" := c
        refine ⟨hZ, by omega, hP _ _ ⟨hlt, s3.put hD, upd_same, ?_⟩⟩
        rw [et, List.filter_append, List.map_append, List.filter_cons_of_pos (show isBy e = true from decide_eq_true c')]
        exact (nI_snoc _ _).symm
      · have c' : ¬ e.wo = "by" := c
        refine hP _ _ ⟨hlt, s3, hZ, ?_⟩
        rw [et, List.filter_append, List.map_append, List.filter_cons_of_neg (show ¬ isBy e = true from fun z => c' (of_decide_eq_true z))]
        simp
    rintro zs H2 ⟨_, s2, hZ, rfl⟩
    have el : (entA rs N b rs.length).length = ys.length := Paired.length hE
    rw [← el, List.take_of_length_le (Nat.le_refl _), nI_map] at hZ
    have s12 := s1.trans s2
    refine ⟨D, _, rfl, SqL.of hZ, ?_⟩
    rw [sum_cast, by_sum lk.tab]
    refine ⟨_, _, rfl, by omega, by omega, by omega, by omega, ?_⟩
    rw [chI_N]
    have bd := by_bd (rs := rs) (N := N) (b := b) L0
    have c24 := ch24 (N := N) (b := b) L1
    have cp := ch_pos b1
    have b3 := big3000
    exact ⟨_, _, rfl, by omega, Bt_nat (by omega), Bt_nat (by omega), fun H' p t bt s' hp' hl z1 z2 => q _ p t bt (s12.trans s') hp' hl z1 z2⟩
theorem ok_look (T : Txt K mg a) : FnOk P w K mg base CX0 4 a.x_Looks_looked_at a.y_Looks_looked_at ["self", "lot", "bad"] (spFrac a cLk) := by
  have G_Looks_endings : FnOk P w K mg base CX0 3 _ _ _ (spEnds a) := ok_ends T
  have G_share : FnOk P w K mg base CX0 3 _ _ _ spShare0 := (ok_share0 T).mono (by decide)
  have G_choices : FnOk P w K mg base CX0 3 _ _ _ spChoices := (ok_choices T).mono (by decide)
  refine T.F_Looks_looked_at.ok sc_Looks_looked_at (fun vs H Q E h => ?_) (fun cdv A outer s H vs Q E hr h => ?_)
  · obtain ⟨x, rs, N, b, rfl, _⟩ := h; rfl
  · obtain ⟨x, rs, N, b, rfl, lk, L0, L1, b1, q⟩ := h
    refine ⟨_, (pss_cons (ps_setC rfl (i := 3) sc_Looks_looked_at.nd rfl rfl (by with_unfolding_all rfl) (N := ["looked", "found", "word", "many"]) (ix := [none, none, none, none]) ⟨rfl, rfl, rfl, rfl, trivial⟩ (pi_any (pe_meth (vr 0) T.cl_Looks T.mt_Looks_endings G_Looks_endings hr T.B_Looks_endings .nil pass0 (pa_cons (vr 1) (pa_cons (vr 2) pa_nil)))) ⟨fun C s H fp => (pg_tupK (K := K) (n := 4) rfl rfl (pgs_cons (pg_name (i := 0) (show List.Nodup (["looked", "found", "word", "many"] : List Str) by decide +kernel) rfl (Or.inl rfl)) (pgs_cons (pg_name (i := 1) (show List.Nodup (["looked", "found", "word", "many"] : List Str) by decide +kernel) rfl (Or.inl rfl)) (pgs_cons (pg_name (i := 2) (show List.Nodup (["looked", "found", "word", "many"] : List Str) by decide +kernel) rfl (Or.inl rfl)) (pgs_cons (pg_name (i := 3) (show List.Nodup (["looked", "found", "word", "many"] : List Str) by decide +kernel) rfl (Or.inl rfl)) pgs_nil))))), fun C s H fp => pts_nil, fun C s H fp => (pe_op o_mulB (vr 0) (vr 3))⟩) (pss_one (ps_ret (pe_call G_share hr rfl T.m_share T.F_share.kp T.B_share .nil pass0 (pa_cons (pe_callB (call_sumI rfl) rfl T.z_sum bt_sum (pa_cons (vr 3) pa_nil)) (pa_cons (pe_call G_choices hr rfl T.m_choices T.F_choices.kp T.B_choices .nil pass0 (pa_cons (vr 1) (pa_cons (vr 2) pa_nil))) pa_nil)))))), ?_⟩
    have sl : sizeLine = 16777216 := sizeLine_eq
    obtain ⟨dx, t, xs, hx, _⟩ := lk.ex
    refine ⟨x, dx, _, rfl, hx, rfl, ⟨x, rs, N, b, rfl, lk, L0, L1, b1, fun H1 r ys s1 fr hr1 hE yl => ?_⟩⟩
    refine .inl ⟨⟨_, SqL.of hr1⟩, fun D hD => ?_⟩
    refine comp_list (K := K) (a := r) (xs := ys) (fun j zs H' => j ≤ ys.length ∧ Same H1 H' ∧ H' D = some (.lst zs) ∧ zs = nI (((entA rs N b rs.length).take j).map fun e => e.lk * e.mn)) ⟨Nat.zero_le _, Same.new hD, upd_same, by rw [List.take_zero]; rfl⟩ (fun j zs H' h' => SqL.of (h'.2.1 _ _ hr1)) (fun j zs H' h' => h'.2.2.1) ?_ ?_
    · rintro j y zs H' P' hy ⟨hj, s3, hZ, rfl⟩ hP
      have hlt : j < ys.length := (List.getElem?_eq_some_iff.mp hy).1
      obtain ⟨e, he, pe, rfl, hpe⟩ := pget hE hy
      have lk24 : e.lk ≤ 24 := by
        have hm := List.mem_of_getElem? he
        unfold entA entK at hm
        obtain ⟨k, hk, hm⟩ := List.mem_flatMap.mp hm
        obtain ⟨f, _, rfl⟩ := List.mem_map.mp hm
        have := List.mem_range.mp hk
        show k + 1 ≤ 24
        omega
      have zl : (nI (((entA rs N b rs.length).take j).map fun e => e.lk * e.mn)).length ≤ j := by
        rw [nI_len, List.length_map, List.length_take]; omega
      have hpe3 := s3 _ _ hpe
      refine ⟨pe, _, rfl, SqT.of hpe3, rfl, _, _, rfl, _, _, rfl, _, _, rfl, _, _, rfl, rfl, trivial, clB (by omega) (by omega), ?_⟩
      refine ⟨hZ, by omega, hP _ _ ⟨hlt, s3.put hD, upd_same, ?_⟩⟩
      rw [take_map he, nI_snoc, Int.natCast_mul]
    rintro zs H2 ⟨_, s2, hZ, rfl⟩
    have el : (entA rs N b rs.length).length = ys.length := Paired.length hE
    rw [← el, List.take_of_length_le (Nat.le_refl _), nI_map] at hZ
    have s12 := s1.trans s2
    refine ⟨D, _, rfl, SqL.of hZ, ?_⟩
    rw [sum_cast, lk_sum lk.tab]
    refine ⟨_, _, rfl, by omega, by omega, by omega, by omega, ?_⟩
    rw [chI_N]
    have bd := lk_bd (rs := rs) (N := N) (b := b) L0 L1
    have c24 := ch24 (N := N) (b := b) L1
    have cp := ch_pos b1
    have b3 := big3000
    exact ⟨_, _, rfl, by omega, Bt_nat (by omega), Bt_nat (by omega), fun H' p t bt s' hp' hl z1 z2 => q _ p t bt (s12.trans s') hp' hl z1 z2⟩
end
end My

set_option Elab.async false
set_option linter.all false
set_option maxRecDepth 100000
set_option maxHeartbeats 4000000
namespace My
open PySem L2 FrM Wr
def IsRowS (H : Hp) (i : Nat) (x : V) : Prop := ∃ p, x = .ref p ∧ H p = some (.lst (nI ((List.range (i + 1)).map (ch i))))
structure Sets (H : Hp) (s : Addr) (xs : List V) (m : Nat) : Prop where
  at_ : H s = some (.lst xs)
  len : xs.length = m
  all : ∀ i x, xs[i]? = some x → IsRowS H i x
theorem Sets.same {H H' : Hp} {s : Addr} {xs : List V} {m : Nat} (e : Same H H') (h : Sets H s xs m) : Sets H' s xs m := ⟨e _ _ h.at_, h.len, fun i x hx => let ⟨p, z, q⟩ := h.all i x hx; ⟨p, z, e _ _ q⟩⟩
def spLowest : Sp := fun vs H Q _ => ∃ (T B : Int), vs = [.int T, .int B] ∧ 0 ≤ T ∧ 0 < B ∧ Bt 3000 B ∧ ∀ H' p t b, Same H H' → H' p = some (.tup [.int t, .int b]) → Low T B t b → Q (.ref p) H'
def spSets : Sp := fun vs H Q _ => vs = [] ∧ ∀ H' s xs, Same H H' → Sets H' s xs 25 → Q (.ref s) H'
def spLWord : Sp := fun vs H Q _ => ∃ (l : Addr) (xs : List V) (rs : List Rw) (i : Nat) (f : Int), vs = [.ref l, .int ((i : Int) + 1), .int f] ∧ TabAt H l xs rs ∧ i < rs.length ∧ Q (.str (wd (rw_at rs i) f)) H
def spRows : Sp := fun vs H Q _ => ∃ (c : Int), vs = [.int c] ∧ ∀ H' l xs rs, Same H H' → H l = none → TabAt H' l xs rs → Q (.ref l) H'
theorem p_set {α : Type} {R : α → V → Prop} : ∀ {as : List α} {xs : List V} (n : Nat) {b : α} {x : V}, PySem.Paired R as xs → R b x → PySem.Paired R (as.set n b) (xs.set n x)
  | _, _, _, _, _, .nil, _ => .nil
  | _, _, 0, _, _, .cons _ t, r => .cons r t
  | _, _, n + 1, _, _, .cons q t, r => .cons q (p_set n t r)
section
variable {P : Program} {w : World} {K : PySem.W.Frag} {mg : Str → Option Value} {base : Heap} {a : Ad}
theorem ok_rows (T : Txt K mg a) : FnOk P w K mg base CX0 2 a.f_L_rows a.d_L_rows ["_law_cell_here"] spRows := by
  have G_L_mixed : FnOk P w K mg base CX0 1 _ _ _ spMixed := ok_mixed T
  refine T.F_L_rows.ok sc_L_rows (fun vs H Q E h => ?_) (fun cdv A outer s H vs Q E hr h => ?_)
  · obtain ⟨c, rfl, _⟩ := h; rfl
  · obtain ⟨c, rfl, q⟩ := h
    refine ⟨_, (pss_cons (ps_set (i := 1) sc_L_rows.nd rfl (Or.inl rfl) (pe_op o_add pe_int (pe_op o_mod (pe_call G_L_mixed hr rfl T.m_L_mixed T.F_L_mixed.kp T.B_L_mixed .nil pass0 (pa_cons (vr 0) (pa_cons pe_int pa_nil))) pe_int))) (pss_cons (ps_set (i := 2) sc_L_rows.nd rfl (Or.inl rfl) (pe_op o_mod (pe_call G_L_mixed hr rfl T.m_L_mixed T.F_L_mixed.kp T.B_L_mixed .nil pass0 (pa_cons (vr 0) (pa_cons pe_int pa_nil))) pe_int)) (pss_cons (ps_set (i := 3) sc_L_rows.nd rfl (Or.inl rfl) (pe_lst pa_nil)) (pss_cons (ps_for PassesOwn.never rfl (pi_range1 rfl T.z_range (pa_cons (vr 1) pa_nil)) (pg_name (i := 4) sc_L_rows.nd rfl (Or.inl rfl)) (pss_cons (ps_set (i := 5) sc_L_rows.nd rfl (Or.inl rfl) (pe_call G_L_mixed hr rfl T.m_L_mixed T.F_L_mixed.kp T.B_L_mixed .nil pass0 (pa_cons (vr 0) (pa_cons (pe_op o_add pe_int (vr 4)) pa_nil)))) (pss_cons (ps_set (i := 6) sc_L_rows.nd rfl (Or.inl rfl) (pe_op o_sub (pe_op o_mod (vr 5) pe_int) pe_int)) (pss_consM (ps_if (t_cmp o_gt (vr 2) pe_int (nomark _)) (pss_one (ps_set (i := 6) sc_L_rows.nd rfl (Or.inl rfl) (pe_callB (call_min2 rfl) rfl T.z_min bt_min (pa_cons pe_int (pa_cons (pe_op o_add (pe_op o_sub (pe_op o_fdivB (vr 4) (pe_op o_add pe_int (pe_op o_mod (pe_op o_fdivB (pe_call G_L_mixed hr rfl T.m_L_mixed T.F_L_mixed.kp T.B_L_mixed .nil pass0 (pa_cons (vr 0) (pa_cons pe_int pa_nil))) pe_int) pe_int))) pe_int) (pe_op o_mod (vr 5) pe_int)) pa_nil))))) pss_nil) (pss_cons (ps_set (i := 7) sc_L_rows.nd rfl (Or.inl rfl) (pe_op o_add (pe_op o_add (vr 6) pe_int) (pe_op o_mod (pe_op o_fdivB (vr 5) pe_int) (pe_op o_sub pe_int (vr 6))))) (pss_consM (ps_if (t_cmp o_gt (vr 2) pe_int (nomark _)) (pss_one (ps_set (i := 7) sc_L_rows.nd rfl (Or.inl rfl) (pe_callB (call_min2 rfl) rfl T.z_min bt_min (pa_cons pe_int (pa_cons (pe_op o_add (pe_op o_add (vr 6) pe_int) (pe_op o_mod (pe_op o_fdivB (vr 5) pe_int) pe_int)) pa_nil))))) pss_nil) (pss_one (ps_expr (pe_m.append (vr 3) (pa_cons (pe_tup (pa_cons (vr 6) (pa_cons (vr 7) pa_nil))) pa_nil)))))))))) (pss_cons (ps_asg (pe_tup (pa_cons (pe_ix ix_seq (pe_ix ix_seq (vr 3) (pe_un u_neg pe_int) (fun _ _ => rfl)) pe_int (fun _ _ => rfl)) (pa_cons (pe_op o_add (pe_ix ix_seq (pe_ix ix_seq (vr 3) (pe_un u_neg pe_int) (fun _ _ => rfl)) pe_int (fun _ _ => rfl)) pe_int) pa_nil))) (pg_sub (vr 3) (pe_un u_neg pe_int) set_list)) (pss_one (ps_ret (vr 3)))))))), ?_⟩
    have sl : sizeLine = 16777216 := sizeLine_eq
    refine ⟨c, 0, rfl, by decide, by decide, fun r0 r00 _ => ⟨cp, ?_⟩⟩
    refine ⟨c, 1, rfl, by decide, by decide, fun r1 r10 _ => ⟨cp, ?_⟩⟩
    refine ⟨Nat.zero_le _, fun D hD => ?_⟩
    refine ⟨_, rfl, by omega, by omega, ?_⟩
    refine for_range (lo := 0) (n := (1 + r0 % 24).toNat) (fun i σ H' => ∃ (xs : List V) (rs : List Rw) (x4 x5 x6 x7 : Option V), Same H H' ∧ H' D = some (.lst xs) ∧ AllR H' rs xs ∧ rs.length = i ∧ (∀ z ∈ rs, OkR z) ∧ σ = [some (.int c), some (.int (1 + r0 % 24)), some (.int (r1 % 3)), some (.ref D), x4, x5, x6, x7]) ⟨[], [], none, none, none, none, Same.new hD, upd_same, .nil, rfl, (fun z hz => by cases hz), rfl⟩ ?_ ?_
    · rintro i σ H1 hi ⟨xs, rs, x4, x5, x6, x7, s1, hD1, hall, hrl, hok, rfl⟩
      have xl : xs.length = i := by rw [← hrl]; exact (Paired.length hall).symm
      refine ⟨c, _, rfl, by omega, by omega, fun nu nu0 _ => ⟨cp, ?_⟩⟩
      refine ⟨fun σ' H' => ∃ le : Int, H' = H1 ∧ -1 ≤ le ∧ le ≤ 24 ∧ σ' = [some (.int c), some (.int (1 + r0 % 24)), some (.int (r1 % 3)), some (.ref D), some (.int (0 + (i : Int))), some (.int nu), some (.int le), x7], ?_, ?_⟩
      · refine ifC (fun _ => ?_) (fun _ => ⟨_, rfl, by omega, by omega, rfl⟩)
        refine ⟨c, 1, rfl, by decide, by decide, fun m m0 _ => ⟨cdB (by decide) (show Bt 40 (_ : Int) by unfold Bt; decide), cp, cdB (by omega) (show Bt 40 (2 + m / 3 % 4) by unfold Bt; omega), cp, ?_⟩⟩
        have k0 : 0 ≤ (0 + (i : Int)) / (2 + m / 3 % 4) := Int.ediv_nonneg (by omega) (by omega)
        refine ⟨_, _, rfl, ⟨_, rfl, ?_, ?_, rfl⟩⟩ <;> split <;> omega
      rintro σ' H' ⟨le, rfl, l0, l1, rfl⟩
      refine ⟨cdB (by decide) (show Bt 40 (_ : Int) by unfold Bt; decide), cp (by omega), ?_⟩
      have t0 := Int.emod_nonneg (nu / 32) (show 25 - le ≠ 0 by omega)
      have t1 := Int.emod_lt_of_pos (nu / 32) (show 0 < 25 - le by omega)
      refine ⟨fun σ' H2 => ∃ tu : Int, H2 = H' ∧ le < tu ∧ tu ≤ 25 ∧ σ' = [some (.int c), some (.int (1 + r0 % 24)), some (.int (r1 % 3)), some (.ref D), some (.int (0 + (i : Int))), some (.int nu), some (.int le), some (.int tu)], ?_, ?_⟩
      · refine ifC (fun _ => ?_) (fun _ => ⟨_, rfl, by omega, by omega, rfl⟩)
        refine ⟨cdB (by decide) (show Bt 40 (_ : Int) by unfold Bt; decide), cp, ?_⟩
        refine ⟨_, _, rfl, ⟨_, rfl, ?_, ?_, rfl⟩⟩ <;> split <;> omega
      rintro σ2 H2 ⟨tu, rfl, u0, u1, rfl⟩
      refine ⟨.inl ⟨rfl, _, SqL.of hD1⟩, ⟨by show 2 ≤ sizeLine; decide, fun pt hpt => ?_⟩⟩
      have s2 := Same.new (o := .tup [.int le, .int tu]) hpt
      have hD2 := s2 _ _ hD1
      refine ⟨D, _, _, rfl, rfl, hD2, by omega, ?_⟩
      refine ⟨xs ++ [.ref pt], rs ++ [(le, tu)], _, _, _, _, (s1.trans s2).put hD, upd_same, (AllR.snoc (z := (le, tu)) ⟨pt, rfl, upd_same⟩ (hall.same s2)).lst hD2, by rw [List.length_append, hrl]; rfl, ?_, rfl⟩
      intro z hz
      rcases List.mem_append.mp hz with hz | hz
      · exact hok z hz
      · rw [List.mem_singleton.mp hz]
        exact ⟨l0, l1, u0, u1⟩
    · rintro σ H1 ⟨xs, rs, x4, x5, x6, x7, s1, hD1, hall, hrl, hok, rfl⟩
      have xl : xs.length = rs.length := (Paired.length hall).symm
      obtain ⟨x, hx, hat⟩ := last_get (xs := xs) (by omega)
      obtain ⟨r, hr', hR⟩ := pget hall hx
      obtain ⟨p, rfl, hp⟩ := hR
      have okr := hok r (List.mem_of_getElem? hr')
      refine .inl ⟨D, _, _, _, rfl, rfl, SqL.of hD1, hat, ?_⟩
      refine .inr (.inl ⟨p, _, _, _, rfl, rfl, SqT.of hp, atI_cons 0 rfl rfl, ?_⟩)
      refine .inl ⟨D, _, _, _, rfl, rfl, SqL.of hD1, hat, ?_⟩
      refine .inr (.inl ⟨p, _, _, _, rfl, rfl, SqT.of hp, atI_cons 0 rfl rfl, ?_⟩)
      refine ⟨by show 2 ≤ sizeLine; decide, fun pt hpt => ?_⟩
      have s2 := Same.new (o := .tup [.int r.1, .int (r.1 + 1)]) hpt
      have hD2 := s2 _ _ hD1
      refine ⟨D, _, _, xs.length - 1, rfl, rfl, hD2, neg1 (by omega), ?_⟩
      have hall2 : AllR (upd (upd H1 pt (.tup [.int r.1, .int (r.1 + 1)])) D (.lst (xs.set (xs.length - 1) (.ref pt)))) (rs.set (rs.length - 1) (r.1, r.1 + 1)) (xs.set (xs.length - 1) (.ref pt)) := by
        rw [xl]
        exact p_set (rs.length - 1) ((hall.same s2).lst hD2) (IsR.lst (z := (r.1, r.1 + 1)) hD2 ⟨pt, rfl, upd_same⟩)
      refine q _ D _ _ ((s1.trans s2).put hD) hD ⟨upd_same, hall2, ⟨by rw [List.length_set]; omega, by rw [List.length_set]; omega, ?_, ?_⟩⟩
      · intro z hz
        rcases List.mem_or_eq_of_mem_set hz with hz | hz
        · exact hok z hz
        · rw [hz]
          exact ⟨okr.1, okr.2.1, by show r.1 < r.1 + 1; omega, by show r.1 + 1 ≤ 25; have := okr.2.1; omega⟩
      · intro z hz
        rw [List.length_set, List.getElem?_set_self (by omega)] at hz
        cases hz
        rfl
theorem ok_lword (T : Txt K mg a) : FnOk P w K mg base CX0 1 a.f_L_word a.d_L_word ["_law_rows_here", "_law_looked", "_law_found"] spLWord := by
  refine T.F_L_word.ok sc_L_word (fun vs H Q E h => ?_) (fun cdv A outer s H vs Q E hr h => ?_)
  · obtain ⟨l, xs, rs, i, f, rfl, _⟩ := h; rfl
  · obtain ⟨l, xs, rs, i, f, rfl, ht, hi, q⟩ := h
    refine ⟨_, (pss_cons (ps_if (t_cmp o_le (vr 2) (pe_ix ix_seq (pe_ix ix_seq (vr 0) (pe_op o_sub (vr 1) pe_int) (fun _ _ => rfl)) pe_int (fun _ _ => rfl)) (nomark _)) (pss_one (ps_ret pe_str)) pss_nil) (pss_cons (ps_if (t_cmp o_ge (vr 2) (pe_ix ix_seq (pe_ix ix_seq (vr 0) (pe_op o_sub (vr 1) pe_int) (fun _ _ => rfl)) pe_int (fun _ _ => rfl)) (nomark _)) (pss_one (ps_ret pe_str)) pss_nil) (pss_one (ps_ret pe_str)))), ?_⟩
    have xl := ht.xl
    obtain ⟨xr, hxr⟩ : ∃ xr, xs[i]? = some xr := ⟨_, List.getElem?_eq_getElem (by omega)⟩
    obtain ⟨r, hr', hR⟩ := pget ht.all hxr
    rw [rw_get hr'] at q
    obtain ⟨p, rfl, hp⟩ := hR
    have e : ((i : Int) + 1 - 1) = ((i : Nat) : Int) := by omega
    have hat : atI xs ((i : Int) + 1 - 1) = some (.ref p) := by rw [e]; exact atI_nat hxr
    unfold wd at q
    refine .inl ⟨l, _, _, _, rfl, rfl, SqL.of ht.at_, hat, ?_⟩
    refine .inr (.inl ⟨p, _, _, _, rfl, rfl, SqT.of hp, atI_cons 0 rfl rfl, ?_⟩)
    refine ifC (fun c => ?_) (fun c => ?_)
    · rw [if_pos c] at q; exact q
    · rw [if_neg c] at q
      refine .inl ⟨l, _, _, _, rfl, rfl, SqL.of ht.at_, hat, ?_⟩
      refine .inr (.inl ⟨p, _, _, _, rfl, rfl, SqT.of hp, atI_cons 1 rfl rfl, ?_⟩)
      refine ifC (fun c2 => ?_) (fun c2 => ?_)
      · rw [if_pos c2] at q; exact q
      · rw [if_neg c2] at q; exact q
theorem ok_lowest (T : Txt K mg a) : FnOk P w K mg base CX0 1 a.f_L_lowest a.d_L_lowest ["_law_top", "_law_bottom"] spLowest := by
  refine T.F_L_lowest.ok sc_L_lowest (fun vs H Q E h => ?_) (fun cdv A outer s H vs Q E hr h => ?_)
  · obtain ⟨t, b, rfl, _⟩ := h; rfl
  · obtain ⟨x0, y0, rfl, h0, h1, hB, q⟩ := h
    refine ⟨_, (pss_cons (ps_par rfl sc_L_lowest.nd (i := 2) (j := 3) rfl rfl (by decide) rfl rfl (pa_cons (vr 0) (pa_cons (vr 1) pa_nil)) rfl) (pss_cons (ps_while PassesOwn.never (t_cmp o_ne (vr 3) pe_int (nomark _)) (pss_one (ps_par rfl sc_L_lowest.nd (i := 2) (j := 3) rfl rfl (by decide) rfl rfl (pa_cons (vr 3) (pa_cons (pe_op o_mod (vr 2) (vr 3)) pa_nil)) rfl))) (pss_one (ps_ret (pe_tup (pa_cons (pe_op o_fdivB (vr 0) (vr 2)) (pa_cons (pe_op o_fdivB (vr 1) (vr 2)) pa_nil))))))), ?_⟩
    refine ⟨_, _, rfl, ?_⟩
    refine ⟨fun m σ H' => H' = H ∧ ∃ x y : Int, 0 ≤ x ∧ 0 ≤ y ∧ m = y.toNat ∧ Int.gcd x y = Int.gcd x0 y0 ∧ σ = [some (.int x0), some (.int y0), some (.int x), some (.int y)], ⟨_, rfl, x0, y0, h0, by omega, rfl, rfl, rfl⟩, ?_⟩
    rintro m σ H' ⟨rfl, x, y, hx, hy, rfl, hg, rfl⟩
    refine ifB (fun c => ?_) (fun c => ?_)
    · have c' : y ≠ 0 := by simpa using c
      refine ⟨fun σ' H'' => H'' = H' ∧ σ' = [some (.int x0), some (.int y0), some (.int y), some (.int (x % y))], ?_, ?_⟩
      · rintro σ' H'' ⟨rfl, rfl⟩
        exact ⟨(x % y).toNat, by have := Int.emod_lt_of_pos x (show 0 < y by omega); have := Int.emod_nonneg x c'; omega, rfl, y, x % y, hy, Int.emod_nonneg x c', rfl, by rw [gcd_step, hg], rfl⟩
      · exact ⟨cp (by omega), _, _, rfl, rfl, rfl⟩
    · have c' : y = 0 := by simpa using c
      subst c'
      rw [Int.gcd_zero_right] at hg
      obtain ⟨l1, l2, l3, l4, l5⟩ := low x0 y0 h1
      have e : x = (Int.gcd x0 y0 : Int) := by omega
      subst e
      have hd : Bt 3000 (Int.gcd x0 y0 : Int) := hB.le (by omega)
      exact ⟨cdB l1 hd, cdB l1 hd, two_le _ _, fun p hp => q _ p _ _ (Same.new hp) upd_same l3⟩
theorem ok_sets (T : Txt K mg a) : FnOk P w K mg base CX0 1 a.f_L_sets a.d_L_sets [] spSets := by
  refine T.F_L_sets.ok sc_L_sets (fun vs H Q E h => ?_) (fun cdv A outer s H vs Q E hr h => ?_)
  · obtain ⟨rfl, _⟩ := h; rfl
  · obtain ⟨rfl, q⟩ := h
    refine ⟨_, (pss_cons (ps_set (i := 0) sc_L_sets.nd rfl (Or.inl rfl) (pe_lst (pa_cons (pe_lst (pa_cons pe_int pa_nil)) pa_nil))) (pss_cons (ps_for PassesOwn.never rfl (pi_range1 rfl T.z_range (pa_cons pe_int pa_nil)) (pg_name (i := 1) sc_L_sets.nd rfl (Or.inl rfl)) (pss_cons (ps_set (i := 2) sc_L_sets.nd rfl (Or.inr rfl) (pe_op op_cat (pe_op op_cat (pe_lst (pa_cons pe_int pa_nil)) (pe_ix ix_seq (vr 0) (pe_un u_neg pe_int) (fun _ _ => rfl))) (pe_lst (pa_cons pe_int pa_nil)))) (pss_one (ps_expr (pe_m.append (vr 0) (pa_cons (pe_comp rfl (N := ["_law_j", "_law_last"]) (ix := [none, some 2]) ⟨rfl, rfl, rfl, rfl, ⟨rfl, rfl, rfl, trivial⟩⟩ (pi_range1 rfl T.z_range (pa_cons (pe_op o_add (vr 1) pe_int) pa_nil)) ⟨fun C s H fp => pg_name (i := 0) (show List.Nodup (["_law_j", "_law_last"] : List Str) by decide +kernel) rfl (Or.inl rfl), fun C s H fp => pts_nil, fun C s H fp => (pe_op o_add (pe_ix (ix_seqK (K := K) rfl) (vr 1) (vr 0) (fun _ _ => rfl)) (pe_ix (ix_seqK (K := K) rfl) (vr 1) (pe_op o_add (vr 0) pe_int) (fun _ _ => rfl)))⟩) pa_nil)))))) (pss_one (ps_ret (vr 0))))), ?_⟩
    have sl : sizeLine = 16777216 := sizeLine_eq
    refine ⟨(by decide : 1 ≤ sizeLine), fun p0 hp0 => ⟨(by decide : 1 ≤ sizeLine), fun D hD => ?_⟩⟩
    have s0 := (Same.new (o := .lst [.int 1]) hp0).trans (Same.new (o := .lst [.ref p0]) hD)
    have fD : H D = none := (Same.new hp0).free hD
    have r0 : (upd (upd H p0 (.lst [.int 1])) D (.lst [.ref p0])) p0 = some (.lst (nI ((List.range (0 + 1)).map (ch 0)))) := Same.new (o := .lst [.ref p0]) hD _ _ upd_same
    refine ⟨24, rfl, by decide, by decide, ?_⟩
    refine for_range (lo := 0) (n := (24 : Int).toNat) (fun k σ H' => Same H H' ∧ ∃ (xs : List V) (x1 x2 : Option V), Sets H' D xs (k + 1) ∧ σ = [some (.ref D), x1, x2]) ⟨s0, [.ref p0], none, none, ⟨upd_same, rfl, fun i x hx => by
      cases i with
      | zero => cases hx; exact ⟨p0, rfl, r0⟩
      | succ i => cases hx⟩, rfl⟩ ?_ ?_
    · rintro k σ H1 hk ⟨s1, xs, x1, x2, st, rfl⟩
      have k24 : k < 24 := hk
      have xl := st.len
      obtain ⟨x, hx, hat⟩ := last_get (xs := xs) (by omega)
      rw [show xs.length - 1 = k by omega] at hx
      obtain ⟨pk, rfl, hpk⟩ := st.all k x hx
      have ln : (nI ((List.range (k + 1)).map (ch k))).length = k + 1 := by rw [nI_len, List.length_map, List.length_range]
      refine ⟨(by decide : 1 ≤ sizeLine), fun q1 hq1 => ?_⟩
      have t1 := Same.new (o := .lst [.int 0]) hq1
      refine .inl ⟨D, _, _, _, rfl, rfl, SqL.of (t1 _ _ st.at_), hat, ?_⟩
      refine ⟨q1, pk, _, _, rfl, rfl, upd_same, t1 _ _ hpk, by rw [ln]; show 1 + _ ≤ _; omega, fun q2 hq2 => ?_⟩
      have t2 := Same.new (o := .lst ([.int 0] ++ nI ((List.range (k + 1)).map (ch k)))) hq2
      refine ⟨(by decide : 1 ≤ sizeLine), fun q3 hq3 => ?_⟩
      have t3 := Same.new (o := .lst [.int 0]) hq3
      refine ⟨q2, q3, _, _, rfl, rfl, t3 _ _ upd_same, upd_same, by rw [List.length_append, ln]; show 1 + _ + 1 ≤ _; omega, fun q4 hq4 => ?_⟩
      have eL : [.int 0] ++ nI ((List.range (k + 1)).map (ch k)) ++ [.int 0] = nI ((List.range (k + 3)).map fun f => pr (ch k) f) := by
        rw [rng_snoc (fun f => pr (ch k) f) (k + 2)]
        have z : pr (ch k) (k + 2) = 0 := ch_gt (by omega)
        rw [z]
        congr 1
        rw [List.range_succ_eq_map (n := k + 1), List.map_cons, List.map_map]
        rfl
      rw [eL]
      have t4 := ((t1.trans t2).trans t3).trans (Same.new (o := .lst (nI ((List.range (k + 3)).map fun f => pr (ch k) f))) hq4)
      have g4 := upd_same (H := upd (upd (upd H1 q1 (.lst [.int 0])) q2 (.lst ([.int 0] ++ nI ((List.range (k + 1)).map (ch k))))) q3 (.lst [.int 0])) (a := q4) (o := .lst (nI ((List.range (k + 3)).map fun f => pr (ch k) f)))
      have st4 := st.same t4
      have s4 := s1.trans t4
      generalize upd (upd (upd (upd H1 q1 (.lst [.int 0])) q2 (.lst ([.int 0] ++ nI ((List.range (k + 1)).map (ch k))))) q3 (.lst [.int 0])) q4 (.lst (nI ((List.range (k + 3)).map fun f => pr (ch k) f))) = H4 at t4 g4 st4 s4
      refine ⟨.inl ⟨rfl, _, SqL.of st4.at_⟩, ?_⟩
      refine ⟨_, rfl, by omega, by omega, fun E5 hE5 => ?_⟩
      refine comp_rng (lo := 0) (n := (0 + (k : Int) + 2).toNat) (fun j ys H' => Same H4 H' ∧ H' E5 = some (.lst ys) ∧ ys = nI ((List.range j).map (ch (k + 1)))) ⟨Same.new hE5, upd_same, rfl⟩ (fun j ys H' h => h.2.1) ?_ ?_
      · rintro j ys H5 P' hj ⟨s5, hE, rfl⟩ hP
        have j1 : j < k + 2 := by omega
        have g5 := s5 _ _ g4
        have e0 : (0 + (j : Int)) = ((j : Nat) : Int) := by omega
        have e1 : (0 + (j : Int) + 1) = ((j + 1 : Nat) : Int) := by omega
        refine ⟨⟨rfl, trivial⟩, ?_⟩
        refine .inl ⟨q4, _, _, _, rfl, rfl, SqL.of g5, (by rw [e0]; exact atI_nat (rng_at (by omega))), ?_⟩
        refine .inl ⟨q4, _, _, _, rfl, rfl, SqL.of g5, (by show atI _ (0 + (j : Int) + 1) = _; rw [e1]; exact atI_nat (rng_at (by omega))), ?_⟩
        refine ⟨hE, by rw [nI_len, List.length_map, List.length_range]; omega, hP _ _ ⟨s5.put hE5, upd_same, ?_⟩⟩
        rw [rng_snoc]
        have e : ch (k + 1) j = pr (ch k) j + pr (ch k) (j + 1) := by
          cases j with
          | zero => rw [ch_zero]; show 1 = 0 + ch k 0; rw [ch_zero]
          | succ j => exact ch_succ k j
        rw [e, Int.natCast_add]
      rintro ys H5 ⟨s5, hE, rfl⟩
      have st5 := st4.same s5
      have nDE : D ≠ E5 := ne_of_none st4.at_ hE5
      refine ⟨D, _, _, rfl, rfl, st5.at_, by omega, ?_⟩
      refine ⟨(s4.trans s5).put fD, xs ++ [.ref E5], _, _, ⟨upd_same, by rw [List.length_append, xl]; rfl, fun i x hx => ?_⟩, rfl⟩
      have up : ∀ p ys, H5 p = some (.lst ys) → p ≠ D → upd H5 D (.lst (xs ++ [.ref E5])) p = some (.lst ys) := fun p ys h n => by rw [upd_ne n]; exact h
      by_cases hi : i < xs.length
      · rw [List.getElem?_append_left hi] at hx
        obtain ⟨pi, rfl, hpi⟩ := st5.all i x hx
        refine ⟨pi, rfl, up _ _ hpi fun z => ?_⟩
        rw [z, st5.at_] at hpi
        injection hpi with h1
        injection h1 with h2
        have h3 := congrArg (fun l : List V => l[0]?) h2
        obtain ⟨x0, hx0⟩ : ∃ x0, xs[0]? = some x0 := ⟨_, List.getElem?_eq_getElem (by omega)⟩
        obtain ⟨p00, rfl, _⟩ := st5.all 0 x0 hx0
        have h4 : xs[0]? = (nI ((List.range (i + 1)).map (ch i)))[0]? := h3
        rw [hx0, rng_at (by omega)] at h4
        cases h4
      · rw [List.getElem?_append_right (by omega)] at hx
        have hi2 : i - xs.length = 0 := by
          have := (List.getElem?_eq_some_iff.mp hx).1
          simp at this
          omega
        rw [hi2] at hx
        cases hx
        have ei : i = k + 1 := by omega
        subst ei
        refine ⟨E5, rfl, up _ _ ?_ (Ne.symm nDE)⟩
        have : (0 + (k : Int) + 2).toNat = k + 1 + 1 := by omega
        rw [this] at hE
        exact hE
    · rintro σ H1 ⟨s1, xs, x1, x2, st, rfl⟩
      exact q _ D xs s1 st
end
end My

set_option Elab.async false
set_option linter.all false
set_option maxRecDepth 100000
set_option maxHeartbeats 4000000
namespace My
open PySem L2 FrM Wr
/-- the bounds of what may be found -/
def lo_ (N b k : Nat) : Nat := k + b - N
def hi_ (b k : Nat) : Nat := min k b + 1
theorem putK_len (kvs : List (Key × V)) (k : Key) (v : V) : (putK kvs k v).length ≤ kvs.length + 1 := by
  unfold putK
  split
  · rw [List.length_map]; omega
  · rw [List.length_append]; exact Nat.le_refl _
/-- a dict of pairs, by found -/
def BK (H : Hp) (kvs : List (Key × V)) (A B : Nat → Nat) (l h : Nat) : Prop :=
  ∀ f : Nat, (l ≤ f → f < h → ∃ p, valV kvs (.inl (f : Int)) = some (.ref p) ∧ H p = some (.tup [.int (A f : Nat), .int (B f : Nat)])) ∧ (¬ (l ≤ f ∧ f < h) → valV kvs (.inl (f : Int)) = none)
theorem BK.same {H H' : Hp} {kvs : List (Key × V)} {A B : Nat → Nat} {l h : Nat} (s : Same H H') (z : BK H kvs A B l h) : BK H' kvs A B l h := fun f => ⟨fun h1 h2 => let ⟨p, e, q⟩ := (z f).1 h1 h2; ⟨p, e, s _ _ q⟩, (z f).2⟩
theorem BK.nil {H : Hp} {A B : Nat → Nat} {l : Nat} : BK H [] A B l l := fun f => ⟨fun h1 h2 => by omega, fun _ => rfl⟩
theorem BK.none {H : Hp} {A B : Nat → Nat} {l h : Nat} (hh : h ≤ l) : BK H [] A B l h := fun f => ⟨fun h1 h2 => by omega, fun _ => rfl⟩
theorem BK.put {H : Hp} {kvs : List (Key × V)} {A B : Nat → Nat} {l h : Nat} {p : Addr} (z : BK H kvs A B l h) (hl : l ≤ h) (hp : H p = some (.tup [.int (A h : Nat), .int (B h : Nat)])) : BK H (putK kvs (.inl (h : Int)) (.ref p)) A B l (h + 1) := fun f => by
  rw [valV_put]
  by_cases c : f = h
  · subst c
    rw [if_pos rfl]
    exact ⟨fun _ _ => ⟨p, rfl, hp⟩, fun n => absurd ⟨hl, Nat.lt_succ_self f⟩ n⟩
  · have ne : ¬ ((Sum.inl (f : Int) : Key) = Sum.inl (h : Int)) := fun e => c (by injection e with e; omega)
    rw [if_neg ne]
    exact ⟨fun h1 h2 => (z f).1 h1 (by omega), fun n => (z f).2 fun m => n ⟨m.1, by omega⟩⟩
theorem BK.dict {H : Hp} {D : Addr} {kvs vs ws : List (Key × V)} {A B : Nat → Nat} {l h : Nat} (e : H D = some (.dK vs)) (z : BK H kvs A B l h) : BK (upd H D (.dK ws)) kvs A B l h := fun f => ⟨fun h1 h2 => let ⟨p, e', q⟩ := (z f).1 h1 h2; ⟨p, e', by rw [upd_ne (fun w => by rw [w, e] at q; cases q)]; exact q⟩, (z f).2⟩
theorem BK.congr {H : Hp} {kvs : List (Key × V)} {A B A' B' : Nat → Nat} {l h : Nat} (z : BK H kvs A B l h) (h1 : ∀ f, l ≤ f → f < h → A f = A' f) (h2 : ∀ f, l ≤ f → f < h → B f = B' f) : BK H kvs A' B' l h := fun f => ⟨fun c d => let ⟨p, e, q⟩ := (z f).1 c d; ⟨p, e, by rw [q, h1 f c d, h2 f c d]⟩, (z f).2⟩
section
variable (rs : List Rw) (N b : Nat)
def gB (k f : Nat) : Nat := gk (opF rs) N (cBy rs) b rs.length k f
def gL (k f : Nat) : Nat := gk (opF rs) N (cLk rs) b rs.length k f
end
theorem gk_out {rs : List Rw} {N b k f : Nat} (c : Nat → Nat → Nat) (hn : rs.length ≤ N) (hk : k ≤ rs.length) (h : f < lo_ N b k ∨ b < f) : gk (opF rs) N c b rs.length k f = 0 := by
  unfold gk
  by_cases hb : f ≤ b
  · rw [if_pos hb]
    have hl : f < lo_ N b k := by rcases h with h | h; exact h; omega
    unfold lo_ at hl
    exact G_many (opF rs) N c (by omega) (by omega)
  · rw [if_neg hb]
/-- what a dict tells, or nought -/
theorem BK.get {H : Hp} {kvs : List (Key × V)} {A B : Nat → Nat} {l h : Nat} {d : Addr} (z : BK H kvs A B l h) (f : Nat) (h0 : ¬ (l ≤ f ∧ f < h) → A f = 0 ∧ B f = 0) (hd : H d = some (.tup [.int 0, .int 0])) : ∃ p, (valV kvs (.inl (f : Int))).getD (.ref d) = .ref p ∧ H p = some (.tup [.int (A f : Nat), .int (B f : Nat)]) := by
  by_cases c : l ≤ f ∧ f < h
  · obtain ⟨p, e, q⟩ := (z f).1 c.1 c.2
    exact ⟨p, by rw [e]; rfl, q⟩
  · obtain ⟨a0, b0⟩ := h0 c
    exact ⟨d, by rw [(z f).2 c]; rfl, by rw [hd, a0, b0]; rfl⟩
theorem sets_at {H : Hp} {s : Addr} {xs : List V} {m i j : Nat} (st : Sets H s xs m) (hi : i < m) (hj : j ≤ i) : ∃ p, atI xs ((i : Nat) : Int) = some (.ref p) ∧ H p = some (.lst (nI ((List.range (i + 1)).map (ch i)))) ∧ atI (nI ((List.range (i + 1)).map (ch i))) ((j : Nat) : Int) = some (.int (ch i j : Nat)) := by
  have xl := st.len
  obtain ⟨x, hx⟩ : ∃ x, xs[i]? = some x := ⟨_, List.getElem?_eq_getElem (by omega)⟩
  obtain ⟨p, rfl, hp⟩ := st.all i x hx
  exact ⟨p, atI_nat hx, hp, atI_nat (rng_at (by omega))⟩
def wv (rs : List Rw) : Nat → Nat → Str
  | 0, _ => "open"
  | k + 1, f => wd (rw_at rs k) (f : Int)
theorem wv_cases (rs : List Rw) (k f : Nat) : wv rs k f = "by" ∨ wv rs k f = "down" ∨ wv rs k f = "open" := by
  cases k with
  | zero => exact .inr (.inr rfl)
  | succ k => exact wd_cases _ _
theorem op_wv (rs : List Rw) (k f : Nat) : opF rs k f = decide (wv rs k f = "open") := by
  cases k with
  | zero => rfl
  | succ k => rfl
theorem by_wv (rs : List Rw) (k f : Nat) : byF rs k f = decide (wv rs k f = "by") := by
  cases k with
  | zero => show false = decide (("open" : Str) = "by"); decide +kernel
  | succ k => rfl
def spBack : Sp := fun vs H Q _ => ∃ (l s : Addr) (xs ys : List V) (rs : List Rw) (N b : Nat), vs = [.ref l, .ref s, .int (N : Nat), .int (b : Nat)] ∧ TabAt H l xs rs ∧ Sets H s ys 25 ∧ rs.length ≤ N ∧ N ≤ 24 ∧ b ≤ N ∧ ∀ H' p, Same H H' → H' p = some (.tup [.int (G (opF rs) N (cBy rs) rs.length 0 0 b : Nat), .int (G (opF rs) N (cLk rs) rs.length 0 0 b : Nat)]) → Q (.ref p) H'
section
variable {P : Program} {w : World} {K : PySem.W.Frag} {mg : Str → Option Value} {base : Heap} {a : Ad}
theorem ok_back (T : Txt K mg a) : FnOk P w K mg base CX0 2 a.f_L_back a.d_L_back ["_law_rows_here", "_law_sets_here", "_law_lot", "_law_bad"] spBack := by
  have G_L_word : FnOk P w K mg base CX0 1 _ _ _ spLWord := ok_lword T
  refine T.F_L_back.ok sc_L_back (fun vs H Q E h => ?_) (fun cdv A outer s H vs Q E hr h => ?_)
  · obtain ⟨l, s, xs, ys, rs, N, b, rfl, _⟩ := h; rfl
  · obtain ⟨l, st, xs, ys, rs, N, b, rfl, tb, ss, n1, N1, b1, q⟩ := h
    refine ⟨_, (pss_cons (ps_set (i := 4) sc_L_back.nd rfl (Or.inl rfl) pe_dnewK) (pss_cons (ps_for PassesOwn.never rfl (pi_rangeD rfl T.z_range (pa_cons (pe_callB call_lenM rfl T.z_len bt_len (pa_cons (vr 0) pa_nil)) (pa_cons (pe_un u_neg pe_int) (pa_cons (pe_un u_neg pe_int) pa_nil)))) (pg_name (i := 5) sc_L_back.nd rfl (Or.inl rfl)) (pss_cons (ps_set (i := 6) sc_L_back.nd rfl (Or.inl rfl) pe_dnewK) (pss_cons (ps_for PassesOwn.never rfl (pi_range2 rfl T.z_range (pa_cons (pe_callB (call_max2 rfl) rfl T.z_max bt_max (pa_cons pe_int (pa_cons (pe_op o_add (pe_op o_sub (vr 5) (vr 2)) (vr 3)) pa_nil))) (pa_cons (pe_op o_add (pe_callB (call_min2 rfl) rfl T.z_min bt_min (pa_cons (vr 5) (pa_cons (vr 3) pa_nil))) pe_int) pa_nil))) (pg_name (i := 7) sc_L_back.nd rfl (Or.inl rfl)) (pss_cons (ps_set (i := 8) sc_L_back.nd rfl (Or.inl rfl) pe_str) (pss_consM (ps_if (t_cmp o_gt (vr 5) pe_int (nomark _)) (pss_one (ps_set (i := 8) sc_L_back.nd rfl (Or.inl rfl) (pe_call G_L_word hr rfl T.m_L_word T.F_L_word.kp T.B_L_word .nil pass0 (pa_cons (vr 0) (pa_cons (vr 5) (pa_cons (vr 7) pa_nil)))))) pss_nil) (pss_one (ps_if (t_cmp o_ne (vr 8) pe_str (nomark _)) (pss_cons (ps_set (i := 9) sc_L_back.nd rfl (Or.inl rfl) (pe_ix ix_seq (pe_ix ix_seq (vr 1) (pe_op o_sub (vr 2) (vr 5)) (fun _ _ => rfl)) (pe_op o_sub (vr 3) (vr 7)) (fun _ _ => rfl))) (pss_one (ps_dput (hu_of hr) (vr 6) (vr 7) (pe_tup (pa_cons (pe_op o_mulB (vr 9) (pe_callTy call_int1 rfl T.z_int bt_int (pa_cons (pe_cmpR o_eq (vr 8) pe_str (nomark _)) pa_nil))) (pa_cons (pe_op o_mulB (vr 9) (vr 5)) pa_nil))) rfl))) (pss_cons (ps_set (i := 10) sc_L_back.nd rfl (Or.inl rfl) (pe_dget2 (hu_of hr) (vr 4) (vr 7) (pe_tup (pa_cons pe_int (pa_cons pe_int pa_nil))) ⟨rfl, rfl, rfl, rfl⟩)) (pss_cons (ps_set (i := 11) sc_L_back.nd rfl (Or.inl rfl) (pe_dget2 (hu_of hr) (vr 4) (pe_op o_add (vr 7) pe_int) (pe_tup (pa_cons pe_int (pa_cons pe_int pa_nil))) ⟨rfl, rfl, rfl, rfl⟩)) (pss_one (ps_dput (hu_of hr) (vr 6) (vr 7) (pe_tup (pa_cons (pe_op o_add (pe_ix ix_seq (vr 10) pe_int (fun _ _ => rfl)) (pe_ix ix_seq (vr 11) pe_int (fun _ _ => rfl))) (pa_cons (pe_op o_add (pe_ix ix_seq (vr 10) pe_int (fun _ _ => rfl)) (pe_ix ix_seq (vr 11) pe_int (fun _ _ => rfl))) pa_nil))) rfl))))))))) (pss_one (ps_set (i := 4) sc_L_back.nd rfl (Or.inl rfl) (vr 6)))))) (pss_one (ps_ret (pe_dget (hu_of hr) (vr 4) pe_int (fun _ _ => rfl)))))), ?_⟩
    have sl : sizeLine = 16777216 := sizeLine_eq
    have xl := tb.xl
    have r1 := tb.tab.pos
    intro d0 hd0
    have s0 := Same.new (o := .dK []) hd0
    refine ⟨_, .inl (SqL.of (s0 _ _ tb.at_)), ?_⟩
    refine ⟨_, _, rfl, ⟨by omega, by omega, by omega, by omega⟩, ?_⟩
    refine for_range3 (lo := (xs.length : Int)) (c := -1) (n := ((xs.length : Int) - (-1)).toNat) (fun i σ H' => Same H H' ∧ i ≤ rs.length + 1 ∧ ∃ (da : Addr) (kvs : List (Key × V)) (x5 x6 x7 x8 x9 x10 x11 : Option V), H da = none ∧ H' da = some (.dK kvs) ∧ kvs.length ≤ 100 ∧ (0 < i → BK H' kvs (gB rs N b (rs.length + 1 - i)) (gL rs N b (rs.length + 1 - i)) (lo_ N b (rs.length + 1 - i)) (hi_ b (rs.length + 1 - i))) ∧ σ = [some (.ref l), some (.ref st), some (.int (N : Nat)), some (.int (b : Nat)), some (.ref da), x5, x6, x7, x8, x9, x10, x11])
      ⟨s0, Nat.zero_le _, d0, [], none, none, none, none, none, none, none, hd0, upd_same, Nat.zero_le _, fun h => by omega, rfl⟩ ?_ ?_
    · rintro i σ H1 hi ⟨s1, hi1, da, kvs, x5, x6, x7, x8, x9, x10, x11, fda, hda, kl, hbk, rfl⟩
      have k1 : i ≤ rs.length := by omega
      obtain ⟨k, hk⟩ : ∃ k, k = rs.length - i := ⟨_, rfl⟩
      have kn : k ≤ rs.length := by omega
      have ek : (xs.length : Int) + (i : Int) * (-1) = ((k : Nat) : Int) := by omega
      have ek2 : rs.length + 1 - (i + 1) = k := by omega
      intro dh hdh
      have fdh : H dh = none := s1.free hdh
      have s2 := Same.new (o := .dK []) hdh
      have e1 : (if (xs.length : Int) + (i : Int) * (-1) - (N : Int) + (b : Int) > 0 then (xs.length : Int) + (i : Int) * (-1) - (N : Int) + (b : Int) else 0) = ((lo_ N b k : Nat) : Int) := by rw [ek]; unfold lo_; split <;> omega
      have e2 : (if (b : Int) < (xs.length : Int) + (i : Int) * (-1) then (b : Int) else (xs.length : Int) + (i : Int) * (-1)) + 1 = ((hi_ b k : Nat) : Int) := by rw [ek]; unfold hi_; split <;> omega
      have lh : lo_ N b k ≤ hi_ b k := by unfold lo_ hi_; omega
      refine ⟨_, _, rfl, ⟨_, _, rfl, ?_⟩⟩
      refine ⟨((lo_ N b k : Nat) : Int), ((hi_ b k : Nat) : Int), (by show [V.int (if (xs.length : Int) + (i : Int) * (-1) - (N : Int) + (b : Int) > 0 then (xs.length : Int) + (i : Int) * (-1) - (N : Int) + (b : Int) else 0), V.int ((if (b : Int) < (xs.length : Int) + (i : Int) * (-1) then (b : Int) else (xs.length : Int) + (i : Int) * (-1)) + 1)] = _; rw [e1, e2]), ⟨by omega, by unfold lo_; omega, by omega, by unfold hi_; omega⟩, ?_⟩
      refine for_range (lo := ((lo_ N b k : Nat) : Int)) (n := (((hi_ b k : Nat) : Int) - ((lo_ N b k : Nat) : Int)).toNat) (fun j σ H' => Same H1 H' ∧ j ≤ hi_ b k - lo_ N b k ∧ ∃ (hs : List (Key × V)) (x7 x8 x9 x10 x11 : Option V), H' dh = some (.dK hs) ∧ hs.length ≤ j ∧ BK H' hs (gB rs N b k) (gL rs N b k) (lo_ N b k) (lo_ N b k + j) ∧ σ = [some (.ref l), some (.ref st), some (.int (N : Nat)), some (.int (b : Nat)), some (.ref da), some (.int ((xs.length : Int) + (i : Int) * (-1))), some (.ref dh), x7, x8, x9, x10, x11])
        ⟨s2, Nat.zero_le _, [], x7, x8, x9, x10, x11, upd_same, Nat.le_refl _, .nil, rfl⟩ ?_ ?_
      · rintro j σ H3 hj ⟨s3, hj2, hs, x7, x8, x9, x10, x11, hdh3, hsl, bk3, rfl⟩
        obtain ⟨f, hf⟩ : ∃ f, f = lo_ N b k + j := ⟨_, rfl⟩
        have ef : ((lo_ N b k : Nat) : Int) + (j : Int) = ((f : Nat) : Int) := by omega
        have fhi : f < hi_ b k := by omega
        have flo : lo_ N b k ≤ f := by omega
        have fb : f ≤ b := by unfold hi_ at fhi; omega
        have fk : f ≤ k := by unfold hi_ at fhi; omega
        have fN : b - f ≤ N - k := by unfold lo_ at flo; omega
        have s03 := s1.trans s3
        have tb3 := tb.same s03
        refine ⟨fun σ' H' => H' = H3 ∧ σ' = [some (.ref l), some (.ref st), some (.int (N : Nat)), some (.int (b : Nat)), some (.ref da), some (.int ((xs.length : Int) + (i : Int) * (-1))), some (.ref dh), some (.int (((lo_ N b k : Nat) : Int) + (j : Int))), some (.str (wv rs k f)), x9, x10, x11], ?_, ?_⟩
        · refine ifC (fun c => ?_) (fun c => ?_)
          · have c' : (xs.length : Int) + (i : Int) * (-1) > 0 := c
            obtain ⟨k', rfl⟩ : ∃ k', k = k' + 1 := ⟨k - 1, by omega⟩
            refine ⟨l, xs, rs, k', (f : Int), (by show [V.ref l, V.int ((xs.length : Int) + (i : Int) * (-1)), V.int (((lo_ N b (k' + 1) : Nat) : Int) + (j : Int))] = _; rw [ek, ef]; rfl), tb3, by omega, ⟨rfl, rfl⟩⟩
          · have c' : ¬ (xs.length : Int) + (i : Int) * (-1) > 0 := c
            have k0 : k = 0 := by omega
            subst k0
            exact ⟨rfl, rfl⟩
        rintro σ' H' ⟨rfl, rfl⟩
        have kf : (Sum.inl (f : Int) : Key) = Sum.inl (((lo_ N b k : Nat) : Int) + (j : Int)) := by rw [ef]
        have fin : ∀ H4 pt, Same H' H4 → H4 pt = some (.tup [.int (gB rs N b k f : Nat), .int (gL rs N b k f : Nat)]) → ∀ σ2 : St, (∃ x7 x8 x9 x10 x11 : Option V, σ2 = [some (.ref l), some (.ref st), some (.int (N : Nat)), some (.int (b : Nat)), some (.ref da), some (.int ((xs.length : Int) + (i : Int) * (-1))), some (.ref dh), x7, x8, x9, x10, x11]) → ∃ H5, DPut H4 dh (.int (((lo_ N b k : Nat) : Int) + (j : Int))) (.ref pt) H5 ∧ (Same H1 H5 ∧ j + 1 ≤ hi_ b k - lo_ N b k ∧ ∃ (hs : List (Key × V)) (x7 x8 x9 x10 x11 : Option V), H5 dh = some (.dK hs) ∧ hs.length ≤ j + 1 ∧ BK H5 hs (gB rs N b k) (gL rs N b k) (lo_ N b k) (lo_ N b k + (j + 1)) ∧ σ2 = [some (.ref l), some (.ref st), some (.int (N : Nat)), some (.int (b : Nat)), some (.ref da), some (.int ((xs.length : Int) + (i : Int) * (-1))), some (.ref dh), x7, x8, x9, x10, x11]) := by
          intro H4 pt s4 hpt σ2 hσ
          have hd4 := s4 _ _ hdh3
          refine ⟨_, DPut.k (k := .inl (((lo_ N b k : Nat) : Int) + (j : Int))) hd4 (by omega), (s3.trans s4).put hdh, by omega, putK hs (.inl (((lo_ N b k : Nat) : Int) + (j : Int))) (.ref pt), ?_⟩
          obtain ⟨y7, y8, y9, y10, y11, hσ⟩ := hσ
          refine ⟨y7, y8, y9, y10, y11, upd_same, ?_, ?_, hσ⟩
          · have := putK_len hs (.inl (((lo_ N b k : Nat) : Int) + (j : Int)) : Key) (.ref pt); omega
          · rw [ef, hf] at *
            have z := (BK.put (bk3.same s4) (by omega) hpt)
            exact (BK.dict hd4 z)
        rcases wv_cases rs k f with e | e | e
        · have ho : opF rs k f = false := by rw [op_wv, e]; decide +kernel
          have hy : byF rs k f = true := by rw [by_wv, e]; decide +kernel
          have ss3 := ss.same s03
          obtain ⟨ps, ha1, hps, ha2⟩ := sets_at ss3 (i := N - k) (j := b - f) (by omega) fN
          have c24 := ch24 (N := N - k) (b := b - f) (by omega)
          have eB : (ch (N - k) (b - f) : Int) * 1 = (gB rs N b k f : Nat) := by
            unfold gB; rw [gk_shut _ _ _ _ _ ho]; unfold chb cBy cb; rw [if_pos fb, hy]; simp
          have eL : (ch (N - k) (b - f) : Int) * ((xs.length : Int) + (i : Int) * (-1)) = (gL rs N b k f : Nat) := by
            unfold gL; rw [gk_shut _ _ _ _ _ ho, ek]; unfold chb cLk; rw [if_pos fb, Int.natCast_mul, Int.mul_comm]
          rw [e]
          refine .inl ⟨st, _, _, _, rfl, rfl, SqL.of ss3.at_, (by show atI ys ((N : Int) - ((xs.length : Int) + (i : Int) * (-1))) = _; rw [ek, show (N : Int) - (k : Nat) = ((N - k : Nat) : Int) by omega]; exact ha1), ?_⟩
          refine .inl ⟨ps, _, _, _, rfl, rfl, SqL.of hps, (by show atI _ ((b : Int) - (((lo_ N b k : Nat) : Int) + (j : Int))) = _; rw [ef, show (b : Int) - (f : Nat) = ((b - f : Nat) : Int) by omega]; exact ha2), ?_⟩
          refine .inr ⟨_, rfl, clB (by omega) (by omega), clB (by omega) (by omega), two_le _ _, fun pt hpt => ?_⟩
          obtain ⟨H5, d5, z5⟩ := fin _ pt (Same.new hpt) (by rw [← eB, ← eL]; exact upd_same) _ ⟨_, _, _, _, _, rfl⟩
          exact ⟨dh, H5, rfl, d5, z5⟩
        · have ho : opF rs k f = false := by rw [op_wv, e]; decide +kernel
          have hy : byF rs k f = false := by rw [by_wv, e]; decide +kernel
          have ss3 := ss.same s03
          obtain ⟨ps, ha1, hps, ha2⟩ := sets_at ss3 (i := N - k) (j := b - f) (by omega) fN
          have c24 := ch24 (N := N - k) (b := b - f) (by omega)
          have eB : (ch (N - k) (b - f) : Int) * 0 = (gB rs N b k f : Nat) := by
            unfold gB; rw [gk_shut _ _ _ _ _ ho]; unfold chb cBy cb; rw [if_pos fb, hy]; simp
          have eL : (ch (N - k) (b - f) : Int) * ((xs.length : Int) + (i : Int) * (-1)) = (gL rs N b k f : Nat) := by
            unfold gL; rw [gk_shut _ _ _ _ _ ho, ek]; unfold chb cLk; rw [if_pos fb, Int.natCast_mul, Int.mul_comm]
          rw [e]
          refine .inl ⟨st, _, _, _, rfl, rfl, SqL.of ss3.at_, (by show atI ys ((N : Int) - ((xs.length : Int) + (i : Int) * (-1))) = _; rw [ek, show (N : Int) - (k : Nat) = ((N - k : Nat) : Int) by omega]; exact ha1), ?_⟩
          refine .inl ⟨ps, _, _, _, rfl, rfl, SqL.of hps, (by show atI _ ((b : Int) - (((lo_ N b k : Nat) : Int) + (j : Int))) = _; rw [ef, show (b : Int) - (f : Nat) = ((b - f : Nat) : Int) by omega]; exact ha2), ?_⟩
          refine .inr ⟨_, rfl, clB (by omega) (by omega), clB (by omega) (by omega), two_le _ _, fun pt hpt => ?_⟩
          obtain ⟨H5, d5, z5⟩ := fin _ pt (Same.new hpt) (by rw [← eB, ← eL]; exact upd_same) _ ⟨_, _, _, _, _, rfl⟩
          exact ⟨dh, H5, rfl, d5, z5⟩
        · have ho : opF rs k f = true := by rw [op_wv, e]; decide +kernel
          have kn' : k < rs.length := by
            by_cases c : k < rs.length
            · exact c
            · have : k = rs.length := by omega
              rw [this, op_last tb.tab] at ho
              cases ho
          have bk := hbk (by omega)
          rw [show rs.length + 1 - i = k + 1 by omega] at bk
          have o1 : ¬ (lo_ N b (k + 1) ≤ f ∧ f < hi_ b (k + 1)) → gB rs N b (k + 1) f = 0 ∧ gL rs N b (k + 1) f = 0 := fun n => by
            have : f < lo_ N b (k + 1) ∨ b < f := by unfold hi_ at n; omega
            exact ⟨gk_out _ n1 (by omega) this, gk_out _ n1 (by omega) this⟩
          have o2 : ¬ (lo_ N b (k + 1) ≤ f + 1 ∧ f + 1 < hi_ b (k + 1)) → gB rs N b (k + 1) (f + 1) = 0 ∧ gL rs N b (k + 1) (f + 1) = 0 := fun n => by
            have : f + 1 < lo_ N b (k + 1) ∨ b < f + 1 := by unfold hi_ at n; omega
            exact ⟨gk_out _ n1 (by omega) this, gk_out _ n1 (by omega) this⟩
          have eB : (gB rs N b (k + 1) f : Int) + (gB rs N b (k + 1) (f + 1) : Nat) = (gB rs N b k f : Nat) := by unfold gB; rw [gk_open _ _ _ _ _ kn' ho, Int.natCast_add]
          have eL : (gL rs N b (k + 1) f : Int) + (gL rs N b (k + 1) (f + 1) : Nat) = (gL rs N b k f : Nat) := by unfold gL; rw [gk_open _ _ _ _ _ kn' ho, Int.natCast_add]
          have hda3 := s3 _ _ hda
          have bka := bk.same s3
          rw [e]
          refine ⟨da, rfl, .inl ⟨kvs, .inl hda3⟩, ⟨two_le _ _, fun d1 hd1 => ?_⟩⟩
          have t1 := Same.new (o := .tup [.int 0, .int 0]) hd1
          obtain ⟨p1, hg1, hp1⟩ := (bka.same t1).get (d := d1) f o1 upd_same
          refine ⟨_, (by show DGet _ da (.int (((lo_ N b k : Nat) : Int) + (j : Int))) _; rw [ef]; exact DGet.k (k := .inl (f : Int)) (t1 _ _ hda3)), ?_⟩
          rw [hg1]
          refine ⟨da, rfl, .inl ⟨kvs, .inl (t1 _ _ hda3)⟩, ⟨two_le _ _, fun d2 hd2 => ?_⟩⟩
          have t2 := t1.trans (Same.new (o := .tup [.int 0, .int 0]) hd2)
          obtain ⟨p2, hg2, hp2⟩ := (bka.same t2).get (d := d2) (f + 1) o2 upd_same
          have hp1' := Same.new (o := .tup [.int 0, .int 0]) hd2 _ _ hp1
          refine ⟨_, (by show DGet _ da (.int (((lo_ N b k : Nat) : Int) + (j : Int) + 1)) _; rw [ef, show (f : Int) + 1 = ((f + 1 : Nat) : Int) by omega]; exact DGet.k (k := .inl ((f + 1 : Nat) : Int)) (t2 _ _ hda3)), ?_⟩
          rw [hg2]
          refine .inr (.inl ⟨p1, _, _, _, rfl, rfl, SqT.of hp1', atI_cons 0 rfl rfl, ?_⟩)
          refine .inr (.inl ⟨p2, _, _, _, rfl, rfl, SqT.of hp2, atI_cons 0 rfl rfl, ?_⟩)
          refine .inr (.inl ⟨p1, _, _, _, rfl, rfl, SqT.of hp1', atI_cons 1 rfl rfl, ?_⟩)
          refine .inr (.inl ⟨p2, _, _, _, rfl, rfl, SqT.of hp2, atI_cons 1 rfl rfl, ?_⟩)
          refine ⟨two_le _ _, fun pt hpt => ?_⟩
          obtain ⟨H5, d5, z5⟩ := fin _ pt (t2.trans (Same.new hpt)) (by rw [← eB, ← eL]; exact upd_same) _ ⟨_, _, _, _, _, rfl⟩
          exact ⟨dh, H5, rfl, d5, z5⟩
      · rintro σ H3 ⟨s3, _, hs, x7, x8, x9, x10, x11, hdh3, hsl, bk3, rfl⟩
        have ee : (((hi_ b k : Nat) : Int) - ((lo_ N b k : Nat) : Int)).toNat = hi_ b k - lo_ N b k := by omega
        rw [ee] at bk3 hsl
        have eh : lo_ N b k + (hi_ b k - lo_ N b k) = hi_ b k := by omega
        rw [eh] at bk3
        refine ⟨s1.trans s3, by omega, dh, hs, _, _, _, _, _, _, _, fdh, hdh3, by unfold hi_ at hsl; omega, fun _ => ?_, rfl⟩
        rw [ek2]
        exact bk3
    · rintro σ H1 ⟨s1, _, da, kvs, x5, x6, x7, x8, x9, x10, x11, fda, hda, kl, hbk, rfl⟩
      have ei : ((xs.length : Int) - (-1)).toNat = rs.length + 1 := by omega
      rw [ei] at hbk
      have z := hbk (by omega)
      rw [Nat.sub_self] at z
      obtain ⟨p, hv, hp⟩ := (z 0).1 (by unfold lo_; omega) (by unfold hi_; omega)
      have hdg : DGet H1 da (.int 0) (some (.ref p)) := hv ▸ DGet.k (k := .inl ((0 : Nat) : Int)) hda
      exact ⟨da, .ref p, rfl, hdg, q _ p s1 hp⟩
end
end My

set_option Elab.async false
set_option linter.all false
set_option maxRecDepth 100000
set_option maxHeartbeats 4000000
namespace My
open PySem L2 FrM Wr
/-- a dict of whole numbers, nought where none is -/
def BD (kvs : List (Key × V)) (g : Int → Int) : Prop := ∀ f : Int, (valV kvs (.inl f)).getD (.int 0) = .int (g f)
theorem BD.put {kvs : List (Key × V)} {g : Int → Int} (z : BD kvs g) (f0 m : Int) : BD (putK kvs (.inl f0) (.int m)) (fun f => if f = f0 then m else g f) := fun f => by
  rw [valV_put]
  by_cases c : f = f0
  · subst c
    rw [if_pos rfl]
    show V.int m = V.int (if f = f then m else g f)
    rw [if_pos rfl]
  · rw [if_neg (fun e => c (by injection e))]
    show _ = V.int (if f = f0 then m else g f)
    rw [if_neg c]; exact z f
theorem BD.congr {kvs : List (Key × V)} {g h : Int → Int} (z : BD kvs g) (e : ∀ f, g f = h f) : BD kvs h := fun f => by rw [z f, e f]
/-- what has begun -/
def gO (rs : List Rw) (k l h : Nat) (f : Int) : Int := if (l : Int) ≤ f ∧ f < (h : Int) then (O (opF rs) k f.toNat : Nat) else 0
theorem gO_now {rs : List Rw} {N b k f : Nat} (hf : f ≤ b) (hl : lo_ N b (k + 1) ≤ f) : gO rs k (lo_ N b k) (hi_ b k) (f : Int) = (O (opF rs) k f : Nat) := by
  unfold gO
  by_cases c : f < hi_ b k
  · rw [if_pos ⟨by unfold lo_ at hl ⊢; omega, by omega⟩]; rfl
  · rw [if_neg (by omega)]
    have : k < f := by unfold hi_ at c; omega
    rw [O_gt _ this]; rfl
theorem gO_pre {rs : List Rw} {N b k f : Nat} (hN : k ≤ N) (hb : b ≤ N) (hf : f < hi_ b (k + 1)) (hl : lo_ N b (k + 1) ≤ f) : gO rs k (lo_ N b k) (hi_ b k) ((f : Int) - 1) = (pr (O (opF rs) k) f : Nat) := by
  cases f with
  | zero =>
    unfold gO
    rw [if_neg (by omega)]; rfl
  | succ f =>
    unfold gO
    rw [if_pos ⟨by unfold lo_ at hl ⊢; omega, by unfold hi_ at hf ⊢; omega⟩]
    show ((O (opF rs) k ((f + 1 : Nat) - 1 : Int).toNat : Nat) : Int) = (O (opF rs) k f : Nat)
    have : ((f + 1 : Nat) - 1 : Int).toNat = f := by omega
    rw [this]
theorem gO_succ {rs : List Rw} {k l h : Nat} (hl : l ≤ h) (x : Int) : gO rs k l (h + 1) x = if x = (h : Int) then ((O (opF rs) k h : Nat) : Int) else gO rs k l h x := by
  unfold gO
  by_cases c : x = (h : Int)
  · subst c
    rw [if_pos rfl, if_pos ⟨by omega, by omega⟩]
    rfl
  · rw [if_neg c]
    by_cases c2 : (l : Int) ≤ x ∧ x < (h : Int)
    · rw [if_pos c2, if_pos ⟨c2.1, by omega⟩]
    · rw [if_neg c2, if_neg (by omega)]
theorem W_pr (op : Nat → Nat → Bool) (k f : Nat) : W op (k + 1) f = O op k f + pr (O op k) f := by
  cases f with
  | zero => rw [W_zero]; rfl
  | succ f => rw [W_succ]; rfl
section
variable (rs : List Rw) (N b : Nat)
def PF (k f : Nat) : Bool := !opF rs k f && decide (0 < mnF rs N b k f)
def part (k m : Nat) : List Ent := ((List.range m).filter (PF rs N b k)).map (entF rs N b k)
theorem part_full (k : Nat) : part rs N b k (k + 1) = entK rs N b k := rfl
theorem part_succ (k m : Nat) : part rs N b k (m + 1) = part rs N b k m ++ if PF rs N b k m = true then [entF rs N b k m] else [] := by
  unfold part
  rw [List.range_succ, List.filter_append, List.map_append]
  by_cases c : PF rs N b k m = true
  · rw [if_pos c, List.filter_cons_of_pos c]; rfl
  · rw [if_neg c, List.filter_cons_of_neg c]; rfl
theorem PF_out {k f : Nat} (hk : k ≤ N) (h : f < lo_ N b k ∨ b < f) : PF rs N b k f = false := by
  have z : chb N b k f = 0 := by
    unfold chb
    by_cases c : f ≤ b
    · rw [if_pos c]
      have : f < lo_ N b k := by rcases h with h | h; exact h; omega
      unfold lo_ at this
      exact ch_gt (by omega)
    · rw [if_neg c]
  unfold PF mnF
  rw [z, Nat.mul_zero]
  simp
theorem part_lo (k : Nat) (hk : k ≤ N) : ∀ m, m ≤ lo_ N b k → part rs N b k m = []
  | 0, _ => rfl
  | m + 1, h => by rw [part_succ, part_lo k hk m (by omega), PF_out rs N b hk (.inl (by omega))]; rfl
theorem part_hi (k : Nat) (hk : k ≤ N) : ∀ m, hi_ b k + m ≤ k + 1 → part rs N b k (hi_ b k + m) = part rs N b k (hi_ b k)
  | 0, _ => rfl
  | m + 1, h => by
    rw [← Nat.add_assoc, part_succ, part_hi k hk m (by omega), PF_out rs N b hk (.inr (by unfold hi_ at h ⊢; omega))]
    simp
theorem part_end (k : Nat) (hk : k ≤ N) : part rs N b k (hi_ b k) = entK rs N b k := by
  rw [← part_full, ← part_hi rs N b k hk (k + 1 - hi_ b k) (by unfold hi_; omega)]
  congr 1
  unfold hi_; omega
end
theorem AllE.dict {H : Hp} {D : Addr} {vs ws : List (Key × V)} (e : H D = some (.dK vs)) : ∀ {zs : List Ent} {xs : List V}, AllE H zs xs → AllE (upd H D (.dK ws)) zs xs
  | _, _, .nil => .nil
  | _, _, .cons ⟨p, e', q⟩ t => .cons ⟨p, e', by rw [upd_ne (fun z => by rw [z, e] at q; cases q)]; exact q⟩ (AllE.dict e t)
def Wd (e : Ent) : Prop := e.wo = "by" ∨ e.wo = "down" ∨ e.wo = "open"
def dE (e : Ent) : PyData := .tuple [.int (e.lk : Nat), .int (e.fd : Nat), .str e.wo, .int (e.mn : Nat)]
theorem IsE.dv {K : PySem.W.Frag} {H : Hp} {e : Ent} {x : V} (h : IsE H e x) : DV K H (dE e) x := by
  obtain ⟨p, rfl, hp⟩ := h
  unfold dE
  rw [DV]
  exact ⟨p, _, rfl, SqT.of hp, by simp [DVs, DV]⟩
theorem dvs_e {K : PySem.W.Frag} {H : Hp} : ∀ {zs : List Ent} {xs : List V}, AllE H zs xs → DVs K H (zs.map dE) xs
  | _, _, .nil => by simp [DVs]
  | _, _, .cons r t => by rw [List.map_cons, DVs]; exact ⟨_, _, rfl, r.dv, dvs_e t⟩
theorem lay_e : ∀ (l : List Ent), (∀ e ∈ l, Wd e) → PyData.canLayAll0 (l.map dE) = true ∧ PyData.depthAll (l.map dE) ≤ 2
  | [], _ => by simp [PyData.canLayAll0, PyData.depthAll]
  | t :: l, h => by
    obtain ⟨h1, h2⟩ := lay_e l fun e he => h e (List.mem_cons_of_mem _ he)
    rw [List.map_cons, PyData.canLayAll0, PyData.depthAll, h1]
    have hs : PyData.strOk t.wo = true := by rcases h t List.mem_cons_self with e | e | e <;> rw [e] <;> decide +kernel
    have e : PyData.canLay0 (dE t) = true := by
      unfold dE
      simp only [PyData.canLay0, PyData.canLayAll0, hs, Bool.true_and, Bool.and_true]
    have e2 : PyData.depth (dE t) ≤ 2 := by unfold dE; simp [PyData.depth, PyData.depthAll]
    rw [e]
    exact ⟨rfl, by omega⟩
theorem shaped_e (l : List Ent) (h : ∀ e ∈ l, Wd e) : SeqAt.shaped (.list (l.map dE)) = true := by
  obtain ⟨k1, k2⟩ := lay_e l h
  unfold SeqAt.shaped
  rw [PyData.canLay0, k1, Bool.true_and]
  refine decide_eq_true ?_
  simp only [PyData.depth]
  omega
theorem dv_e {K : PySem.W.Frag} {H : Hp} {p : Addr} {zs : List Ent} {xs : List V} (h : H p = some (.lst xs)) (t : AllE H zs xs) : DV K H (.list (zs.map dE)) (.ref p) := by
  rw [DV]; exact ⟨p, xs, rfl, SqL.of h, dvs_e t⟩
theorem entA_wd (rs : List Rw) (N b n : Nat) : ∀ e ∈ entA rs N b n, Wd e := by
  intro e he
  unfold entA entK at he
  obtain ⟨k, _, he⟩ := List.mem_flatMap.mp he
  obtain ⟨f, _, rfl⟩ := List.mem_map.mp he
  exact wd_cases _ _
theorem all_sum {rs : List Rw} (t : Tab rs) {N b : Nat} (hn : rs.length ≤ N) : ((entA rs N b rs.length).map Ent.mn).sum = ch N b := by
  rw [entA_map]
  have h := ends_sum (opF rs) N b (fun _ _ => 1) rs.length rfl (op_last t)
  rw [G_one (opF rs) N (by omega), Nat.sub_zero] at h
  rw [← h]
  congr 2
  funext k
  refine List.map_congr_left fun f _ => ?_
  rw [Nat.one_mul]
  rfl
theorem eq_d {K : PySem.W.Frag} {H : Hp} {d : PyData} {x y : V} {Q : VK} (h1 : DV K H d x) (h2 : DV K H d y) (hs : SeqAt.shaped d = true) (q : Q (.bl true) H) : rEqD K false x y H Q := by
  refine ⟨_, _, h1, h2, hs, hs, ?_⟩
  rw [SeqAt.eqv_refl _ (SeqAt.canLay_of_shaped hs)]
  exact q
theorem ne_d {K : PySem.W.Frag} {H : Hp} {d : PyData} {x y : V} {Q : VK} (h1 : DV K H d x) (h2 : DV K H d y) (hs : SeqAt.shaped d = true) (q : Q (.bl false) H) : rEqD K true x y H Q := by
  refine ⟨_, _, h1, h2, hs, hs, ?_⟩
  rw [SeqAt.eqv_refl _ (SeqAt.canLay_of_shaped hs)]
  exact q
def spERight : Sp := fun vs H Q _ => ∃ (t l s : Addr) (us xs ys : List V) (rs : List Rw) (N b : Nat), vs = [.ref t, .ref l, .ref s, .int (N : Nat), .int (b : Nat)] ∧ H t = some (.lst us) ∧ AllE H (entA rs N b rs.length) us ∧ TabAt H l xs rs ∧ Sets H s ys 25 ∧ rs.length ≤ N ∧ N ≤ 24 ∧ b ≤ N ∧ ∀ H', Same H H' → Q (.bl true) H'
section
variable {P : Program} {w : World} {K : PySem.W.Frag} {mg : Str → Option Value} {base : Heap} {a : Ad}
theorem ok_eright (T : Txt K mg a) : FnOk P w K mg base CX0 2 a.f_L_endings_right a.d_L_endings_right ["_law_told", "_law_rows_here", "_law_sets_here", "_law_lot", "_law_bad"] spERight := by
  have G_L_word : FnOk P w K mg base CX0 1 _ _ _ spLWord := ok_lword T
  refine T.F_L_endings_right.ok sc_L_endings_right (fun vs H Q E h => ?_) (fun cdv A outer s H vs Q E hr h => ?_)
  · obtain ⟨t, l, s, us, xs, ys, rs, N, b, rfl, _⟩ := h; rfl
  · obtain ⟨t, l, st, us, xs, ys, rs, N, b, rfl, hto, hE, tb, ss, n1, N1, b1, q⟩ := h
    refine ⟨_, (pss_cons (ps_set (i := 5) sc_L_endings_right.nd rfl (Or.inl rfl) (pe_lst pa_nil)) (pss_cons (ps_set (i := 6) sc_L_endings_right.nd rfl (Or.inl rfl) (pe_disp (pps_cons pe_int pe_int pps_nil) rfl rfl (List.cons_ne_nil _ _) (by decide))) (pss_cons (ps_for PassesOwn.never rfl (pi_range2 rfl T.z_range (pa_cons pe_int (pa_cons (pe_op o_add (pe_callB call_lenM rfl T.z_len bt_len (pa_cons (vr 1) pa_nil)) pe_int) pa_nil))) (pg_name (i := 7) sc_L_endings_right.nd rfl (Or.inl rfl)) (pss_cons (ps_set (i := 8) sc_L_endings_right.nd rfl (Or.inl rfl) pe_dnewK) (pss_cons (ps_for PassesOwn.never rfl (pi_range2 rfl T.z_range (pa_cons (pe_callB (call_max2 rfl) rfl T.z_max bt_max (pa_cons pe_int (pa_cons (pe_op o_add (pe_op o_sub (vr 7) (vr 3)) (vr 4)) pa_nil))) (pa_cons (pe_op o_add (pe_callB (call_min2 rfl) rfl T.z_min bt_min (pa_cons (vr 7) (pa_cons (vr 4) pa_nil))) pe_int) pa_nil))) (pg_name (i := 9) sc_L_endings_right.nd rfl (Or.inl rfl)) (pss_cons (ps_set (i := 10) sc_L_endings_right.nd rfl (Or.inl rfl) (pe_op o_add (pe_dget2 (hu_of hr) (vr 6) (vr 9) pe_int ⟨rfl, rfl, rfl, rfl⟩) (pe_dget2 (hu_of hr) (vr 6) (pe_op o_sub (vr 9) pe_int) pe_int ⟨rfl, rfl, rfl, rfl⟩))) (pss_cons (ps_set (i := 11) sc_L_endings_right.nd rfl (Or.inl rfl) (pe_call G_L_word hr rfl T.m_L_word T.F_L_word.kp T.B_L_word .nil pass0 (pa_cons (vr 1) (pa_cons (vr 7) (pa_cons (vr 9) pa_nil))))) (pss_one (ps_if (t_cmp o_eq (vr 11) pe_str (nomark _)) (pss_one (ps_dput (hu_of hr) (vr 8) (vr 9) (vr 10) rfl)) (pss_one (ps_if (t_cmp o_gt (vr 10) pe_int (nomark _)) (pss_one (ps_expr (pe_m.append (vr 5) (pa_cons (pe_tup (pa_cons (vr 7) (pa_cons (vr 9) (pa_cons (vr 11) (pa_cons (pe_op o_mulB (vr 10) (pe_ix ix_seq (pe_ix ix_seq (vr 2) (pe_op o_sub (vr 3) (vr 7)) (fun _ _ => rfl)) (pe_op o_sub (vr 4) (vr 9)) (fun _ _ => rfl))) pa_nil))))) pa_nil)))) pss_nil))))))) (pss_one (ps_set (i := 6) sc_L_endings_right.nd rfl (Or.inl rfl) (vr 8)))))) (pss_one (ps_ret (m_and (pe_callB call_isi rfl T.z_isinstance bt_isinstance (pa_cons (vr 0) (pa_cons (pe_bltn (v := .ty "list") rfl T.z_list bt_list rfl) pa_nil))) (m_and (pe_cmpR (o_eqD hr.units) (vr 0) (vr 5) (nomark _)) (pe_one (pe_cmpR o_eq (pe_callB (call_sumI rfl) rfl T.z_sum bt_sum (pa_cons (pe_comp rfl (N := ["_law_row"]) (ix := [none]) ⟨rfl, rfl, rfl, rfl, trivial⟩ (pi_any (vr 5)) ⟨fun C s H fp => pg_name (i := 0) (show List.Nodup (["_law_row"] : List Str) by decide +kernel) rfl (Or.inl rfl), fun C s H fp => pts_nil, fun C s H fp => (pe_ix (ix_seqK (K := K) rfl) (vr 0) pe_int (fun _ _ => rfl))⟩) pa_nil)) (pe_ix ix_seq (pe_ix ix_seq (vr 2) (vr 3) (fun _ _ => rfl)) (vr 4) (fun _ _ => rfl)) (nomark _)))))))))), ?_⟩
    have sl : sizeLine = 16777216 := sizeLine_eq
    have xl := tb.xl
    have r1 := tb.tab.pos
    refine ⟨Nat.zero_le _, fun D hD => ?_⟩
    have s0 := Same.new (o := .lst []) hD
    intro d0 hd0
    have fd0 : H d0 = none := s0.free hd0
    have nDd : D ≠ d0 := ne_of_none upd_same hd0
    refine ⟨upd_same, [(.inl 0, .int 1)], rfl, by show 1 ≤ 15; decide, ?_⟩
    have s1 : Same H (upd (upd (upd H D (.lst [])) d0 (.dK [])) d0 (.dK (mergeK [] [(.inl 0, .int 1)]))) := (s0.put fd0).put fd0
    have hD1 : (upd (upd (upd H D (.lst [])) d0 (.dK [])) d0 (.dK (mergeK [] [(.inl 0, .int 1)]))) D = some (.lst []) := by rw [upd_ne nDd, upd_ne nDd]; exact upd_same
    have em : mergeK [] [((.inl 0 : Key), V.int 1)] = putK [] (.inl 0) (.int 1) := rfl
    have bd1 : BD (mergeK [] [((.inl 0 : Key), V.int 1)]) (gO rs 0 (lo_ N b 0) (hi_ b 0)) := by
      rw [em]
      refine (BD.put (g := fun _ => 0) (fun f => rfl) 0 1).congr fun f => ?_
      unfold gO lo_ hi_
      by_cases c : f = 0
      · subst c; rw [if_pos rfl, if_pos ⟨by omega, by omega⟩]; rfl
      · rw [if_neg c, if_neg (by omega)]
    have hd1 := upd_same (H := upd (upd H D (.lst [])) d0 (.dK [])) (a := d0) (o := .dK (mergeK [] [(.inl 0, .int 1)]))
    have ml : (mergeK [] [((.inl 0 : Key), V.int 1)]).length ≤ 100 := by rw [em]; have := putK_len [] (.inl 0 : Key) (.int 1); simp at this; omega
    generalize mergeK [] [((.inl 0 : Key), V.int 1)] = kv1 at s1 hD1 bd1 hd1 ml
    generalize upd (upd (upd H D (.lst [])) d0 (.dK [])) d0 (.dK kv1) = H1 at s1 hD1 hd1
    refine ⟨_, .inl (SqL.of (s1 _ _ tb.at_)), ?_⟩
    refine ⟨_, _, rfl, ⟨by omega, by omega, by omega, by omega⟩, ?_⟩
    refine for_range (lo := 1) (n := ((xs.length : Int) + 1 - 1).toNat) (fun i σ H' => Same H H' ∧ i ≤ rs.length ∧ ∃ (ts : List V) (db : Addr) (kvs : List (Key × V)) (x7 x8 x9 x10 x11 : Option V), H' D = some (.lst ts) ∧ AllE H' (entA rs N b i) ts ∧ ts.length ≤ 30 * i ∧ H db = none ∧ H' db = some (.dK kvs) ∧ BD kvs (gO rs i (lo_ N b i) (hi_ b i)) ∧ σ = [some (.ref t), some (.ref l), some (.ref st), some (.int (N : Nat)), some (.int (b : Nat)), some (.ref D), some (.ref db), x7, x8, x9, x10, x11])
      ⟨s1, Nat.zero_le _, [], d0, kv1, none, none, none, none, none, hD1, .nil, Nat.le_refl _, fd0, hd1, bd1, rfl⟩ ?_ ?_
    · rintro i σ H2 hi ⟨s2, hi2, ts, db, kvs, x7, x8, x9, x10, x11, hD2, hA2, tl, fdb, hdb, bd, rfl⟩
      have ilt : i < rs.length := by omega
      intro df hdf
      have fdf : H df = none := s2.free hdf
      have s3 := Same.new (o := .dK []) hdf
      have nDf : D ≠ df := ne_of_none hD2 hdf
      have nbf : db ≠ df := ne_of_none hdb hdf
      have e1 : (if (1 : Int) + (i : Int) - (N : Int) + (b : Int) > 0 then (1 : Int) + (i : Int) - (N : Int) + (b : Int) else 0) = ((lo_ N b (i + 1) : Nat) : Int) := by unfold lo_; split <;> omega
      have e2 : (if (b : Int) < (1 : Int) + (i : Int) then (b : Int) else (1 : Int) + (i : Int)) + 1 = ((hi_ b (i + 1) : Nat) : Int) := by unfold hi_; split <;> omega
      have lh : lo_ N b (i + 1) ≤ hi_ b (i + 1) := by unfold lo_ hi_; omega
      refine ⟨_, _, rfl, ⟨_, _, rfl, ?_⟩⟩
      refine ⟨((lo_ N b (i + 1) : Nat) : Int), ((hi_ b (i + 1) : Nat) : Int), (by show [V.int (if (1 : Int) + (i : Int) - (N : Int) + (b : Int) > 0 then (1 : Int) + (i : Int) - (N : Int) + (b : Int) else 0), V.int ((if (b : Int) < (1 : Int) + (i : Int) then (b : Int) else (1 : Int) + (i : Int)) + 1)] = _; rw [e1, e2]), ⟨by omega, by unfold lo_; omega, by omega, by unfold hi_; omega⟩, ?_⟩
      refine for_range (lo := ((lo_ N b (i + 1) : Nat) : Int)) (n := (((hi_ b (i + 1) : Nat) : Int) - ((lo_ N b (i + 1) : Nat) : Int)).toNat) (fun j σ H' => Same H H' ∧ j ≤ hi_ b (i + 1) - lo_ N b (i + 1) ∧ ∃ (ts : List V) (fv : List (Key × V)) (x9 x10 x11 : Option V), H' D = some (.lst ts) ∧ AllE H' (entA rs N b i ++ part rs N b (i + 1) (lo_ N b (i + 1) + j)) ts ∧ ts.length ≤ 30 * i + j ∧ H' db = some (.dK kvs) ∧ H' df = some (.dK fv) ∧ fv.length ≤ j ∧ BD fv (gO rs (i + 1) (lo_ N b (i + 1)) (lo_ N b (i + 1) + j)) ∧ σ = [some (.ref t), some (.ref l), some (.ref st), some (.int (N : Nat)), some (.int (b : Nat)), some (.ref D), some (.ref db), some (.int (1 + (i : Int))), some (.ref df), x9, x10, x11])
        ⟨s2.trans s3, Nat.zero_le _, ts, [], x9, x10, x11, s3 _ _ hD2, (by rw [part_lo rs N b (i + 1) (by omega) (lo_ N b (i + 1) + 0) (Nat.le_refl _), List.append_nil]; exact hA2.same s3), by omega, s3 _ _ hdb, upd_same, Nat.le_refl _, (fun f => by unfold gO; rw [if_neg (by omega)]; rfl), rfl⟩ ?_ ?_
      · rintro j σ H4 hj ⟨s4, hj2, ts, fv, x9, x10, x11, hD4, hA4, tl4, hdb4, hdf4, fl4, bf4, rfl⟩
        obtain ⟨f, hf⟩ : ∃ f, f = lo_ N b (i + 1) + j := ⟨_, rfl⟩
        have ef : ((lo_ N b (i + 1) : Nat) : Int) + (j : Int) = ((f : Nat) : Int) := by omega
        have fhi : f < hi_ b (i + 1) := by omega
        have flo : lo_ N b (i + 1) ≤ f := by omega
        have fb : f ≤ b := by unfold hi_ at fhi; omega
        have fk : f ≤ i + 1 := by unfold hi_ at fhi; omega
        have fN : b - f ≤ N - (i + 1) := by unfold lo_ at flo; omega
        have tb4 := tb.same s4
        have ss4 := ss.same s4
        have g1 := bd (f : Int)
        rw [gO_now fb flo] at g1
        have g2 := bd ((f : Int) - 1)
        rw [gO_pre (by omega) b1 fhi flo] at g2
        have eW : (O (opF rs) i f : Int) + (pr (O (opF rs) i) f : Nat) = (W (opF rs) (i + 1) f : Nat) := by rw [W_pr, Int.natCast_add]
        refine ⟨db, rfl, .inl ⟨kvs, .inl hdb4⟩, ⟨_, (by show DGet _ db (.int (((lo_ N b (i + 1) : Nat) : Int) + (j : Int))) _; rw [ef]; exact DGet.k (k := .inl (f : Int)) hdb4), ?_⟩⟩
        rw [g1]
        refine ⟨db, rfl, .inl ⟨kvs, .inl hdb4⟩, ⟨_, (by show DGet _ db (.int (((lo_ N b (i + 1) : Nat) : Int) + (j : Int) - 1)) _; rw [ef]; exact DGet.k (k := .inl ((f : Int) - 1)) hdb4), ?_⟩⟩
        rw [g2]
        refine ⟨l, xs, rs, i, (f : Int), (by show [V.ref l, V.int (1 + (i : Int)), V.int (((lo_ N b (i + 1) : Nat) : Int) + (j : Int))] = _; rw [ef, Int.add_comm]), tb4, ilt, ?_⟩
        have eo : opF rs (i + 1) f = decide (wd (rw_at rs i) (f : Int) = "open") := rfl
        rcases wd_cases (rw_at rs i) (f : Int) with e | e | e
        · have ho : opF rs (i + 1) f = false := by rw [eo, e]; decide +kernel
          have o0 : O (opF rs) (i + 1) f = 0 := by unfold O; rw [ho]; rfl
          have bf5 : BD fv (gO rs (i + 1) (lo_ N b (i + 1)) (lo_ N b (i + 1) + (j + 1))) := by
            refine bf4.congr fun x => ?_
            rw [← Nat.add_assoc, gO_succ (by omega), ← hf, o0]
            split
            · rename_i h
              unfold gO; rw [h, hf, if_neg (by omega)]; rfl
            · rfl
          rw [e]
          refine ifC (fun c => ?_) (fun c => ?_)
          · have c' : 0 < W (opF rs) (i + 1) f := by have z : (O (opF rs) i f : Int) + (pr (O (opF rs) i) f : Nat) > 0 := c; omega
            obtain ⟨ps, ha1, hps, ha2⟩ := sets_at ss4 (i := N - (i + 1)) (j := b - f) (by omega) fN
            have w25 : W (opF rs) (i + 1) f ≤ 16777216 := W25 (by omega)
            have eM : ((O (opF rs) i f : Int) + (pr (O (opF rs) i) f : Nat)) * (ch (N - (i + 1)) (b - f) : Nat) = (mnF rs N b (i + 1) f : Nat) := by
              rw [eW]; unfold mnF chb; rw [if_pos fb, Int.natCast_mul]
            have pf : PF rs N b (i + 1) f = true := by
              have cp := ch_pos fN
              have : 0 < mnF rs N b (i + 1) f := by unfold mnF chb; rw [if_pos fb]; exact Nat.mul_pos c' cp
              unfold PF; rw [ho, decide_eq_true this]; rfl
            refine ⟨.inl ⟨rfl, _, SqL.of hD4⟩, ?_⟩
            refine .inl ⟨st, _, _, _, rfl, rfl, SqL.of ss4.at_, (by show atI ys ((N : Int) - (1 + (i : Int))) = _; rw [show (N : Int) - (1 + (i : Int)) = ((N - (i + 1) : Nat) : Int) by omega]; exact ha1), ?_⟩
            refine .inl ⟨ps, _, _, _, rfl, rfl, SqL.of hps, (by show atI _ ((b : Int) - (((lo_ N b (i + 1) : Nat) : Int) + (j : Int))) = _; rw [ef, show (b : Int) - (f : Nat) = ((b - f : Nat) : Int) by omega]; exact ha2), ?_⟩
            refine ⟨clB (by omega) (by omega), (by decide : 4 ≤ sizeLine), fun pe hpe => ?_⟩
            have s5 := Same.new (o := .tup [.int (1 + (i : Int)), .int (((lo_ N b (i + 1) : Nat) : Int) + (j : Int)), .str "by", .int (((O (opF rs) i f : Int) + (pr (O (opF rs) i) f : Nat)) * (ch (N - (i + 1)) (b - f) : Nat))]) hpe
            have hD5 := s5 _ _ hD4
            have isE : IsE (upd H4 pe (.tup [.int (1 + (i : Int)), .int (((lo_ N b (i + 1) : Nat) : Int) + (j : Int)), .str "by", .int (((O (opF rs) i f : Int) + (pr (O (opF rs) i) f : Nat)) * (ch (N - (i + 1)) (b - f) : Nat))])) (entF rs N b (i + 1) f) (.ref pe) := by
              refine ⟨pe, rfl, ?_⟩
              show _ = some (HO.tup [V.int ((i + 1 : Nat) : Int), .int (f : Nat), .str (wd (rw_at rs i) (f : Int)), .int (mnF rs N b (i + 1) f : Nat)])
              rw [upd_same, e, eM, ef, show (1 : Int) + (i : Int) = ((i + 1 : Nat) : Int) by omega]
            refine ⟨D, _, _, rfl, rfl, hD5, by omega, ?_⟩
            refine ⟨(s4.trans s5).put hD, by omega, ts ++ [.ref pe], fv, _, _, _, upd_same, ?_, by rw [List.length_append]; show _ + 1 ≤ _; omega, ?_, ?_, by omega, bf5, rfl⟩
            · have hA4' := hA4
              rw [← hf] at hA4'
              rw [← Nat.add_assoc, part_succ, ← hf, pf, if_pos rfl, ← List.append_assoc]
              exact ((hA4'.same s5).lst hD5).snoc (isE.lst hD5)
            · rw [upd_ne (fun z => by rw [z, hD4] at hdb4; cases hdb4)]; exact s5 _ _ hdb4
            · rw [upd_ne (fun z => by rw [z, hD4] at hdf4; cases hdf4)]; exact s5 _ _ hdf4
          · have c' : W (opF rs) (i + 1) f = 0 := by have z : ¬ (O (opF rs) i f : Int) + (pr (O (opF rs) i) f : Nat) > 0 := c; omega
            have pf : PF rs N b (i + 1) f = false := by unfold PF mnF; rw [c', Nat.zero_mul]; simp
            refine ⟨s4, by omega, ts, fv, _, _, _, hD4, ?_, by omega, hdb4, hdf4, by omega, bf5, rfl⟩
            rw [← Nat.add_assoc, part_succ, ← hf, pf, hf]
            simpa using hA4
        · have ho : opF rs (i + 1) f = false := by rw [eo, e]; decide +kernel
          have o0 : O (opF rs) (i + 1) f = 0 := by unfold O; rw [ho]; rfl
          have bf5 : BD fv (gO rs (i + 1) (lo_ N b (i + 1)) (lo_ N b (i + 1) + (j + 1))) := by
            refine bf4.congr fun x => ?_
            rw [← Nat.add_assoc, gO_succ (by omega), ← hf, o0]
            split
            · rename_i h
              unfold gO; rw [h, hf, if_neg (by omega)]; rfl
            · rfl
          rw [e]
          refine ifC (fun c => ?_) (fun c => ?_)
          · have c' : 0 < W (opF rs) (i + 1) f := by have z : (O (opF rs) i f : Int) + (pr (O (opF rs) i) f : Nat) > 0 := c; omega
            obtain ⟨ps, ha1, hps, ha2⟩ := sets_at ss4 (i := N - (i + 1)) (j := b - f) (by omega) fN
            have w25 : W (opF rs) (i + 1) f ≤ 16777216 := W25 (by omega)
            have eM : ((O (opF rs) i f : Int) + (pr (O (opF rs) i) f : Nat)) * (ch (N - (i + 1)) (b - f) : Nat) = (mnF rs N b (i + 1) f : Nat) := by
              rw [eW]; unfold mnF chb; rw [if_pos fb, Int.natCast_mul]
            have pf : PF rs N b (i + 1) f = true := by
              have cp := ch_pos fN
              have : 0 < mnF rs N b (i + 1) f := by unfold mnF chb; rw [if_pos fb]; exact Nat.mul_pos c' cp
              unfold PF; rw [ho, decide_eq_true this]; rfl
            refine ⟨.inl ⟨rfl, _, SqL.of hD4⟩, ?_⟩
            refine .inl ⟨st, _, _, _, rfl, rfl, SqL.of ss4.at_, (by show atI ys ((N : Int) - (1 + (i : Int))) = _; rw [show (N : Int) - (1 + (i : Int)) = ((N - (i + 1) : Nat) : Int) by omega]; exact ha1), ?_⟩
            refine .inl ⟨ps, _, _, _, rfl, rfl, SqL.of hps, (by show atI _ ((b : Int) - (((lo_ N b (i + 1) : Nat) : Int) + (j : Int))) = _; rw [ef, show (b : Int) - (f : Nat) = ((b - f : Nat) : Int) by omega]; exact ha2), ?_⟩
            refine ⟨clB (by omega) (by omega), (by decide : 4 ≤ sizeLine), fun pe hpe => ?_⟩
            have s5 := Same.new (o := .tup [.int (1 + (i : Int)), .int (((lo_ N b (i + 1) : Nat) : Int) + (j : Int)), .str "down", .int (((O (opF rs) i f : Int) + (pr (O (opF rs) i) f : Nat)) * (ch (N - (i + 1)) (b - f) : Nat))]) hpe
            have hD5 := s5 _ _ hD4
            have isE : IsE (upd H4 pe (.tup [.int (1 + (i : Int)), .int (((lo_ N b (i + 1) : Nat) : Int) + (j : Int)), .str "down", .int (((O (opF rs) i f : Int) + (pr (O (opF rs) i) f : Nat)) * (ch (N - (i + 1)) (b - f) : Nat))])) (entF rs N b (i + 1) f) (.ref pe) := by
              refine ⟨pe, rfl, ?_⟩
              show _ = some (HO.tup [V.int ((i + 1 : Nat) : Int), .int (f : Nat), .str (wd (rw_at rs i) (f : Int)), .int (mnF rs N b (i + 1) f : Nat)])
              rw [upd_same, e, eM, ef, show (1 : Int) + (i : Int) = ((i + 1 : Nat) : Int) by omega]
            refine ⟨D, _, _, rfl, rfl, hD5, by omega, ?_⟩
            refine ⟨(s4.trans s5).put hD, by omega, ts ++ [.ref pe], fv, _, _, _, upd_same, ?_, by rw [List.length_append]; show _ + 1 ≤ _; omega, ?_, ?_, by omega, bf5, rfl⟩
            · have hA4' := hA4
              rw [← hf] at hA4'
              rw [← Nat.add_assoc, part_succ, ← hf, pf, if_pos rfl, ← List.append_assoc]
              exact ((hA4'.same s5).lst hD5).snoc (isE.lst hD5)
            · rw [upd_ne (fun z => by rw [z, hD4] at hdb4; cases hdb4)]; exact s5 _ _ hdb4
            · rw [upd_ne (fun z => by rw [z, hD4] at hdf4; cases hdf4)]; exact s5 _ _ hdf4
          · have c' : W (opF rs) (i + 1) f = 0 := by have z : ¬ (O (opF rs) i f : Int) + (pr (O (opF rs) i) f : Nat) > 0 := c; omega
            have pf : PF rs N b (i + 1) f = false := by unfold PF mnF; rw [c', Nat.zero_mul]; simp
            refine ⟨s4, by omega, ts, fv, _, _, _, hD4, ?_, by omega, hdb4, hdf4, by omega, bf5, rfl⟩
            rw [← Nat.add_assoc, part_succ, ← hf, pf, hf]
            simpa using hA4
        · have ho : opF rs (i + 1) f = true := by rw [eo, e]; decide +kernel
          have pf : PF rs N b (i + 1) f = false := by unfold PF; rw [ho]; rfl
          have oW : O (opF rs) (i + 1) f = W (opF rs) (i + 1) f := by unfold O; rw [ho]; rfl
          rw [e]
          refine ⟨df, _, rfl, DPut.k (k := .inl (((lo_ N b (i + 1) : Nat) : Int) + (j : Int))) hdf4 (by omega), ?_⟩
          refine ⟨s4.put fdf, by omega, ts, putK fv (.inl (((lo_ N b (i + 1) : Nat) : Int) + (j : Int))) (.int ((O (opF rs) i f : Int) + (pr (O (opF rs) i) f : Nat))), _, _, _, by rw [upd_ne nDf]; exact hD4, ?_, by omega, by rw [upd_ne nbf]; exact hdb4, upd_same, ?_, ?_, rfl⟩
          · rw [← Nat.add_assoc, part_succ, ← hf, pf, hf]
            have z : AllE (upd H4 df (.dK (putK fv (.inl (((lo_ N b (i + 1) : Nat) : Int) + (j : Int))) (.int ((O (opF rs) i f : Int) + (pr (O (opF rs) i) f : Nat)))))) (entA rs N b i ++ part rs N b (i + 1) (lo_ N b (i + 1) + j)) ts := hA4.dict hdf4
            rw [hf] at z
            simpa using z
          · have := putK_len fv (.inl (((lo_ N b (i + 1) : Nat) : Int) + (j : Int)) : Key) (.int ((O (opF rs) i f : Int) + (pr (O (opF rs) i) f : Nat))); omega
          · refine (BD.put bf4 _ _).congr fun x => ?_
            show (if x = ((lo_ N b (i + 1) : Nat) : Int) + (j : Int) then ((O (opF rs) i f : Int) + (pr (O (opF rs) i) f : Nat)) else gO rs (i + 1) (lo_ N b (i + 1)) (lo_ N b (i + 1) + j) x) = _
            rw [← Nat.add_assoc, gO_succ (by omega), eW, ef, ← hf, oW]
      · rintro σ H4 ⟨s4, _, ts, fv, x9, x10, x11, hD4, hA4, tl4, hdb4, hdf4, fl4, bf4, rfl⟩
        have ee : (((hi_ b (i + 1) : Nat) : Int) - ((lo_ N b (i + 1) : Nat) : Int)).toNat = hi_ b (i + 1) - lo_ N b (i + 1) := by omega
        have eh : lo_ N b (i + 1) + (hi_ b (i + 1) - lo_ N b (i + 1)) = hi_ b (i + 1) := by omega
        rw [ee] at hA4 tl4 bf4
        rw [eh] at hA4 bf4
        rw [part_end rs N b (i + 1) (by omega), ← entA_succ] at hA4
        refine ⟨s4, ilt, ts, df, fv, _, _, _, _, _, hD4, hA4, by unfold hi_ at tl4; omega, fdf, hdf4, bf4, rfl⟩
    · rintro σ H2 ⟨s2, _, ts, db, kvs, x7, x8, x9, x10, x11, hD2, hA2, tl, fdb, hdb, bd, rfl⟩
      have ei : ((xs.length : Int) + 1 - 1).toNat = rs.length := by omega
      rw [ei] at hA2 tl
      have hto2 := s2 _ _ hto
      refine ⟨_, _, _, true, rfl, rfl, .lst hto2, rfl, ?_⟩
      refine eq_d (dv_e hto2 (hE.same s2)) (dv_e hD2 hA2) (shaped_e _ (entA_wd rs N b rs.length)) ?_
      refine .inl ⟨⟨_, SqL.of hD2⟩, fun E0 hE0 => ?_⟩
      refine comp_list (K := K) (a := D) (xs := ts) (fun j zs H' => j ≤ ts.length ∧ Same H2 H' ∧ H' E0 = some (.lst zs) ∧ zs = nI (((entA rs N b rs.length).take j).map Ent.mn)) ⟨Nat.zero_le _, Same.new hE0, upd_same, by rw [List.take_zero]; rfl⟩ (fun j zs H' h' => SqL.of (h'.2.1 _ _ hD2)) (fun j zs H' h' => h'.2.2.1) ?_ ?_
      · rintro j y zs H' P' hy ⟨hj, s3, hZ, rfl⟩ hP
        have hlt : j < ts.length := (List.getElem?_eq_some_iff.mp hy).1
        obtain ⟨e, he, pe, rfl, hpe⟩ := pget hA2 hy
        have zl : (nI (((entA rs N b rs.length).take j).map Ent.mn)).length ≤ j := by rw [nI_len, List.length_map, List.length_take]; omega
        refine ⟨trivial, .inr (.inl ⟨pe, _, _, _, rfl, rfl, SqT.of (s3 _ _ hpe), atI_cons 3 rfl rfl, ?_⟩)⟩
        refine ⟨hZ, by omega, hP _ _ ⟨hlt, s3.put hE0, upd_same, ?_⟩⟩
        rw [take_map he, nI_snoc]
      rintro zs H3 ⟨_, s3, hZ, rfl⟩
      have el : (entA rs N b rs.length).length = ts.length := Paired.length hA2
      rw [← el, List.take_of_length_le (Nat.le_refl _), nI_map] at hZ
      refine ⟨E0, _, rfl, SqL.of hZ, ?_⟩
      rw [sum_cast, all_sum tb.tab n1]
      have ss3 := ss.same (s2.trans s3)
      obtain ⟨ps, ha1, hps, ha2⟩ := sets_at ss3 (i := N) (j := b) (by omega) b1
      refine .inl ⟨st, _, _, _, rfl, rfl, SqL.of ss3.at_, ha1, ?_⟩
      refine .inl ⟨ps, _, _, _, rfl, rfl, SqL.of hps, ha2, ?_⟩
      have qq := q _ (s2.trans s3)
      rw [← decide_eq_true (rfl : ((ch N b : Nat) : Int) = (ch N b : Nat))] at qq
      exact qq
end
end My

set_option Elab.async false
set_option linter.all false
set_option maxRecDepth 100000
set_option maxHeartbeats 4000000
namespace My
open PySem L2 FrM Wr
theorem mono_F (rs : List Rw) : Mono (opF rs) (byF rs) where
  opby := fun k f h => by
    cases k with
    | zero => rfl
    | succ k =>
      have e : wd (rw_at rs k) (f : Int) = "open" := of_decide_eq_true h
      show decide (wd (rw_at rs k) (f : Int) = "by") = false
      rw [e]; decide +kernel
  by_le := fun k f h => by
    cases k with
    | zero => cases h
    | succ k =>
      have e : wd (rw_at rs k) ((f + 1 : Nat) : Int) = "by" := of_decide_eq_true h
      refine decide_eq_true ?_
      unfold wd at e ⊢
      by_cases c : ((f + 1 : Nat) : Int) ≤ (rw_at rs k).1
      · rw [if_pos (by omega)]
      · rw [if_neg c] at e
        by_cases c2 : ((f + 1 : Nat) : Int) ≥ (rw_at rs k).2
        · rw [if_pos c2] at e; exact absurd e (by decide +kernel)
        · rw [if_neg c2] at e; exact absurd e (by decide +kernel)
  down := fun k f h1 h2 => by
    cases k with
    | zero => cases h1
    | succ k =>
      have e1 : wd (rw_at rs k) (f : Int) ≠ "open" := of_decide_eq_false h1
      have e2 : wd (rw_at rs k) (f : Int) ≠ "by" := of_decide_eq_false h2
      have d : wd (rw_at rs k) ((f + 1 : Nat) : Int) = "down" := by
        unfold wd at e1 e2 ⊢
        by_cases c : (f : Int) ≤ (rw_at rs k).1
        · rw [if_pos c] at e2; exact absurd rfl e2
        · rw [if_neg c] at e1
          by_cases c2 : (f : Int) ≥ (rw_at rs k).2
          · rw [if_neg (by omega), if_pos (by omega)]
          · rw [if_neg c2] at e1; exact absurd rfl e1
      refine ⟨decide_eq_false ?_, decide_eq_false ?_⟩
      · rw [d]; decide +kernel
      · rw [d]; decide +kernel
theorem frac_le {T0 B0 T1 B1 : Nat} {t0 b0 t1 b1 : Int} (h0 : Low T0 B0 t0 b0) (h1 : Low T1 B1 t1 b1) (p0 : 0 < B0) (p1 : 0 < B1) (h : T1 * B0 ≤ T0 * B1) : ¬ t0 * b1 < t1 * b0 := by
  have e0 := h0.eq
  have e1 := h1.eq
  have q0 := h0.pos
  have q1 := h1.pos
  have hI : (T1 : Int) * B0 ≤ (T0 : Int) * B1 := by
    have : ((T1 * B0 : Nat) : Int) ≤ ((T0 * B1 : Nat) : Int) := by omega
    rw [Int.natCast_mul, Int.natCast_mul] at this
    exact this
  have k1 : (t1 * b0) * ((B0 : Int) * B1) = ((T1 : Int) * B0) * (b0 * b1) := by
    have : (t1 * b0) * ((B0 : Int) * B1) = (t1 * B1) * (b0 * B0) := by grind
    rw [this, e1]; grind
  have k0 : (t0 * b1) * ((B0 : Int) * B1) = ((T0 : Int) * B1) * (b0 * b1) := by
    have : (t0 * b1) * ((B0 : Int) * B1) = (t0 * B0) * (b1 * B1) := by grind
    rw [this, e0]; grind
  have kk : (t1 * b0) * ((B0 : Int) * B1) ≤ (t0 * b1) * ((B0 : Int) * B1) := by
    rw [k1, k0]
    exact Int.mul_le_mul_of_nonneg_right hI (Int.mul_nonneg (by omega) (by omega))
  have pp : 0 < (B0 : Int) * B1 := Int.mul_pos (by omega) (by omega)
  have := Int.le_of_mul_le_mul_right kk pp
  omega
def dP (t b : Int) : PyData := .tuple [.int t, .int b]
theorem dv_p {K : PySem.W.Frag} {H : Hp} {p : Addr} {t b : Int} (h : H p = some (.tup [.int t, .int b])) : DV K H (dP t b) (.ref p) := by
  unfold dP
  rw [DV]
  exact ⟨p, _, rfl, SqT.of h, by simp [DVs, DV]⟩
theorem shaped_p (t b : Int) : SeqAt.shaped (dP t b) = true := rfl
section
variable {P : Program} {w : World} {K : PySem.W.Frag} {mg : Str → Option Value} {base : Heap} {a : Ad}
abbrev lawK : Nat := 6
theorem ok_law (T : Txt K mg a) : FnOk P w K mg base CX0 lawK a.f_law a.d_law ["_law_script"] (spLaw K) := by
  have G_L_cell : FnOk P w K mg base CX0 5 _ _ _ (spCell K) := (ok_cell T).mono (by decide)
  have G_L_mixed : FnOk P w K mg base CX0 5 _ _ _ spMixed := (ok_mixed T).mono (by decide)
  have G_L_rows : FnOk P w K mg base CX0 5 _ _ _ spRows := (ok_rows T).mono (by decide)
  have G_Looks : FnOk P w K mg base CX0 4 _ _ _ (spInit a) := oi_Looks T
  have G_L_sets : FnOk P w K mg base CX0 5 _ _ _ spSets := (ok_sets T).mono (by decide)
  have G_L_back : FnOk P w K mg base CX0 5 _ _ _ spBack := (ok_back T).mono (by decide)
  have G_L_lowest : FnOk P w K mg base CX0 5 _ _ _ spLowest := (ok_lowest T).mono (by decide)
  have G_L_endings_right : FnOk P w K mg base CX0 5 _ _ _ spERight := (ok_eright T).mono (by decide)
  have G_Looks_let_by : FnOk P w K mg base CX0 5 _ _ _ (spFrac a cBy) := (ok_let T).mono (by decide)
  have G_Looks_looked_at : FnOk P w K mg base CX0 5 _ _ _ (spFrac a cLk) := (ok_look T).mono (by decide)
  have G_Looks_endings : FnOk P w K mg base CX0 5 _ _ _ (spEnds a) := (ok_ends T).mono (by decide)
  refine T.F_law.ok sc_law (fun vs H Q E h => ?_) (fun cdv A outer s H vs Q E hr h => ?_)
  · obtain ⟨p, ns, rfl, _⟩ := h; rfl
  · obtain ⟨p, ns, rfl, hS, hlen, q⟩ := h
    refine ⟨_, (pss_cons (ps_set (i := 1) sc_law.nd rfl (Or.inl rfl) (pe_call G_L_cell hr rfl T.m_L_cell T.F_L_cell.kp T.B_L_cell .nil pass0 (pa_cons (vr 0) (pa_cons pe_int pa_nil)))) (pss_cons (ps_set (i := 2) sc_law.nd rfl (Or.inl rfl) (pe_call G_L_rows hr rfl T.m_L_rows T.F_L_rows.kp T.B_L_rows .nil pass0 (pa_cons (vr 1) pa_nil))) (pss_cons (ps_set (i := 3) sc_law.nd rfl (Or.inl rfl) (pe_make T.mk_Looks G_Looks hr rfl T.mc_Looks T.Bi_Looks .nil pass0 (pa_cons (pe_callTy call_list_of rfl T.z_list bt_list (pa_cons (vr 2) pa_nil)) pa_nil))) (pss_cons (ps_set (i := 4) sc_law.nd rfl (Or.inl rfl) (pe_op o_add (pe_callB call_lenM rfl T.z_len bt_len (pa_cons (vr 2) pa_nil)) (pe_op o_mod (pe_call G_L_mixed hr rfl T.m_L_mixed T.F_L_mixed.kp T.B_L_mixed .nil pass0 (pa_cons (pe_call G_L_cell hr rfl T.m_L_cell T.F_L_cell.kp T.B_L_cell .nil pass0 (pa_cons (vr 0) (pa_cons pe_int pa_nil))) (pa_cons pe_int pa_nil))) (pe_op o_sub pe_int (pe_callB call_lenM rfl T.z_len bt_len (pa_cons (vr 2) pa_nil)))))) (pss_cons (ps_set (i := 5) sc_law.nd rfl (Or.inl rfl) (pe_call0 G_L_sets hr rfl T.m_L_sets T.F_L_sets.kp T.B_L_sets .nil pass0)) (pss_cons (ps_set (i := 6) sc_law.nd rfl (Or.inl rfl) (pe_tup (pa_cons pe_int (pa_cons pe_int pa_nil)))) (pss_cons (ps_for PassesOwn.never rfl (pi_range1 rfl T.z_range (pa_cons (pe_op o_add (vr 4) pe_int) pa_nil)) (pg_name (i := 7) sc_law.nd rfl (Or.inl rfl)) (pss_cons (ps_set (i := 8) sc_law.nd rfl (Or.inl rfl) (pe_ix ix_seq (pe_ix ix_seq (vr 5) (vr 4) (fun _ _ => rfl)) (vr 7) (fun _ _ => rfl))) (pss_cons (ps_asg (pe_call G_L_back hr rfl T.m_L_back T.F_L_back.kp T.B_L_back .nil pass0 (pa_cons (vr 2) (pa_cons (vr 5) (pa_cons (vr 4) (pa_cons (vr 7) pa_nil))))) (pg_tup rfl (pgs_cons (pg_name (i := 9) sc_law.nd rfl (Or.inl rfl)) (pgs_cons (pg_name (i := 10) sc_law.nd rfl (Or.inl rfl)) pgs_nil)))) (pss_cons (ps_set (i := 11) sc_law.nd rfl (Or.inl rfl) (pe_meth (vr 3) T.cl_Looks T.mt_Looks_let_by G_Looks_let_by hr T.B_Looks_let_by .nil pass0 (pa_cons (vr 4) (pa_cons (vr 7) pa_nil)))) (pss_cons (ps_if (PW.pt (pw_or (pt_not (t_val (pe_callB call_isi rfl T.z_isinstance bt_isinstance (pa_cons (vr 11) (pa_cons (pe_bltn (v := .ty "tuple") rfl T.z_tuple bt_tuple rfl) pa_nil))))) (pw_or1 (t_cmp (o_neD hr.units) (vr 11) (pe_call G_L_lowest hr rfl T.m_L_lowest T.F_L_lowest.kp T.B_L_lowest .nil pass0 (pa_cons (vr 9) (pa_cons (vr 8) pa_nil))) (nomark _))))) (pss_one (ps_ret pe_bl)) pss_nil) (pss_cons (ps_if (t_cmp o_lt (pe_op o_mulB (pe_ix ix_seq (vr 6) pe_int (fun _ _ => rfl)) (pe_ix ix_seq (vr 11) pe_int (fun _ _ => rfl))) (pe_op o_mulB (pe_ix ix_seq (vr 11) pe_int (fun _ _ => rfl)) (pe_ix ix_seq (vr 6) pe_int (fun _ _ => rfl))) (nomark _)) (pss_one (ps_ret pe_bl)) pss_nil) (pss_cons (ps_set (i := 6) sc_law.nd rfl (Or.inl rfl) (vr 11)) (pss_cons (ps_if (t_cmp (o_neD hr.units) (pe_meth (vr 3) T.cl_Looks T.mt_Looks_looked_at G_Looks_looked_at hr T.B_Looks_looked_at .nil pass0 (pa_cons (vr 4) (pa_cons (vr 7) pa_nil))) (pe_call G_L_lowest hr rfl T.m_L_lowest T.F_L_lowest.kp T.B_L_lowest .nil pass0 (pa_cons (vr 10) (pa_cons (vr 8) pa_nil))) (nomark _)) (pss_one (ps_ret pe_bl)) pss_nil) (pss_one (ps_if (pt_not (t_val (pe_call G_L_endings_right hr rfl T.m_L_endings_right T.F_L_endings_right.kp T.B_L_endings_right .nil pass0 (pa_consQ (pe_meth (vr 3) T.cl_Looks T.mt_Looks_endings G_Looks_endings hr T.B_Looks_endings .nil pass0 (pa_cons (vr 4) (pa_cons (vr 7) pa_nil))) (pa_consQ (vr 2) (pa_consQ (vr 5) (pa_consQ (vr 4) (pa_consQ (vr 7) pa_nil)))))))) (pss_one (ps_ret pe_bl)) pss_nil)))))))))) (pss_one (ps_ret pe_bl))))))))), ?_⟩
    have sl : sizeLine = 16777216 := sizeLine_eq
    refine ⟨p, ns, 0, rfl, hS, hlen, by decide, by decide, fun c => ?_⟩
    refine ⟨c, rfl, fun H1 l xs rs s1 fl tb => ?_⟩
    have xl := tb.xl
    have r1 := tb.tab.pos
    have r24 := tb.tab.len
    refine ⟨l, _, rfl, .inl (SqL.of tb.at_), fun l2 hl2 => ?_⟩
    have s2 := Same.new (o := .lst xs) hl2
    have tb2 : TabAt (upd H1 l2 (.lst xs)) l2 xs rs := ⟨upd_same, tb.all.same s2, tb.tab⟩
    generalize upd H1 l2 (.lst xs) = H2 at s2 tb2
    intro x dx hx hdx hne
    have s3 := made_same (C := a.c_Looks) hx hdx
    refine ⟨x, dx, l2, xs, rs, rfl, upd_same, tb2.same s3, fun H3 fr lk => ⟨rfl, ?_⟩⟩
    have s23 : Same H2 H3 := fun b o e => fr _ _ (fun z => by rw [z, hx] at e; cases e) (s3 _ _ e)
    have s13 := s2.trans s23
    have tb3 := tb.same s13
    have hS3 := (s1.trans s13).seq hS
    refine ⟨_, .inl (SqL.of tb3.at_), ?_⟩
    refine ⟨p, ns, 1, rfl, hS3, hlen, by decide, by decide, fun c1 => ?_⟩
    refine ⟨c1, 0, rfl, by decide, by decide, fun r r0 _ => ?_⟩
    refine ⟨_, .inl (SqL.of tb3.at_), cp (by show 0 < 25 - (xs.length : Int); omega), ?_⟩
    have m0 := Int.emod_nonneg r (show 25 - (xs.length : Int) ≠ 0 by omega)
    have m1 := Int.emod_lt_of_pos r (show 0 < 25 - (xs.length : Int) by omega)
    obtain ⟨N, eN⟩ : ∃ N : Nat, (xs.length : Int) + r % (25 - (xs.length : Int)) = ((N : Nat) : Int) := ⟨((xs.length : Int) + r % (25 - (xs.length : Int))).toNat, by omega⟩
    have nN : rs.length ≤ N := by omega
    have N24 : N ≤ 24 := by omega
    refine ⟨rfl, fun H4 st ys s4 ss => ?_⟩
    have lk4 := lk.same s4
    have tb4 := tb3.same s4
    refine ⟨two_le _ _, fun pb hpb => ?_⟩
    have s5 := Same.new (o := .tup [.int 1, .int 1]) hpb
    refine ⟨_, rfl, (by show _ ≤ (xs.length : Int) + r % (25 - (xs.length : Int)) + 1; omega), (by show (xs.length : Int) + r % (25 - (xs.length : Int)) + 1 < _; omega), ?_⟩
    refine for_range (lo := 0) (n := ((xs.length : Int) + r % (25 - (xs.length : Int)) + 1).toNat) (fun i σ H' => Same H4 H' ∧ ∃ (pb : Addr) (t0 b0 : Int) (T0 B0 : Nat) (x7 x8 x9 x10 x11 : Option V), H' pb = some (.tup [.int t0, .int b0]) ∧ Low T0 B0 t0 b0 ∧ 0 < B0 ∧ Bt 3000 t0 ∧ Bt 3000 b0 ∧ (i ≤ N → G (opF rs) N (cBy rs) rs.length 0 0 i * B0 ≤ T0 * ch N i) ∧ σ = [some (.ref p), some (.int c), some (.ref l), some (.ref x), some (.int ((xs.length : Int) + r % (25 - (xs.length : Int)))), some (.ref st), some (.ref pb), x7, x8, x9, x10, x11])
      ⟨s5, pb, 1, 1, 1, 1, none, none, none, none, none, upd_same, ⟨by decide, by decide, rfl⟩, by decide, by unfold Bt; exact Nat.one_lt_two_pow (by decide), by unfold Bt; exact Nat.one_lt_two_pow (by decide), (fun _ => by have := by_bd (rs := rs) (N := N) (b := 0) nN; omega), rfl⟩ ?_ ?_
    · rintro i σ H5 hi ⟨s5, pb, t0, b0, T0, B0, x7, x8, x9, x10, x11, hpb5, low0, B0p, bt0, bb0, hle, rfl⟩
      have iN : i ≤ N := by omega
      have ei : (0 + (i : Int)) = ((i : Nat) : Int) := by omega
      have ss5 := ss.same s5
      obtain ⟨ps, ha1, hps, ha2⟩ := sets_at ss5 (i := N) (j := i) (by omega) iN
      refine .inl ⟨st, _, _, _, rfl, rfl, SqL.of ss5.at_, (by show atI ys ((xs.length : Int) + r % (25 - (xs.length : Int))) = _; rw [eN]; exact ha1), ?_⟩
      refine .inl ⟨ps, _, _, _, rfl, rfl, SqL.of hps, (by rw [ei]; exact ha2), ?_⟩
      refine ⟨l, st, xs, ys, rs, N, i, (by show [V.ref l, V.ref st, V.int ((xs.length : Int) + r % (25 - (xs.length : Int))), V.int (0 + (i : Int))] = _; rw [eN, ei]), tb4.same s5, ss5, nN, N24, iN, fun H6 pk s6 hpk => ?_⟩
      refine ⟨pk, _, rfl, SqT.of hpk, rfl, _, _, rfl, _, _, rfl, rfl, ?_⟩
      have s46 := s5.trans s6
      have lk6 := lk4.same s46
      obtain ⟨d6, _, _, hx6, _⟩ := lk6.ex
      refine ⟨x, d6, _, rfl, hx6, rfl, ⟨x, rs, N, i, (by show [V.ref x, V.int ((xs.length : Int) + r % (25 - (xs.length : Int))), V.int (0 + (i : Int))] = _; rw [eN, ei]), lk6, nN, N24, iN, fun H7 pf t1 b1 s7 hpf low1 bt1 bb1 => ?_⟩⟩
      refine ⟨_, _, _, true, rfl, rfl, .tup hpf, rfl, ?_⟩
      have c24 := ch24 (N := N) (b := i) N24
      have cpo := ch_pos iN
      have b3 := big3000
      refine ⟨_, _, rfl, by omega, by omega, Bt_nat (by omega), fun H8 pl t2 b2 s8 hpl low2 => ?_⟩
      obtain ⟨rfl, rfl⟩ := low1.uniq (by omega) low2
      refine ne_d (dv_p (s8 _ _ hpf)) (dv_p hpl) (shaped_p _ _) ?_
      have hpf8 := s8 _ _ hpf
      have hpb8 := s8 _ _ (s7 _ _ (s6 _ _ hpb5))
      refine .inr (.inl ⟨pb, _, _, _, rfl, rfl, SqT.of hpb8, atI_cons 0 rfl rfl, ?_⟩)
      refine .inr (.inl ⟨pf, _, _, _, rfl, rfl, SqT.of hpf8, atI_cons 1 rfl rfl, ?_⟩)
      refine ⟨cmB bt0 bb1, ?_⟩
      refine .inr (.inl ⟨pf, _, _, _, rfl, rfl, SqT.of hpf8, atI_cons 0 rfl rfl, ?_⟩)
      refine .inr (.inl ⟨pb, _, _, _, rfl, rfl, SqT.of hpb8, atI_cons 1 rfl rfl, ?_⟩)
      refine ⟨cmB bt1 bb0, ifN (frac_le low0 low1 B0p cpo (hle iN)) ?_⟩
      have s48 := (s46.trans s7).trans s8
      have lk8 := lk4.same s48
      obtain ⟨d8, _, _, hx8, _⟩ := lk8.ex
      refine ⟨x, d8, _, rfl, hx8, rfl, ⟨x, rs, N, i, (by show [V.ref x, V.int ((xs.length : Int) + r % (25 - (xs.length : Int))), V.int (0 + (i : Int))] = _; rw [eN, ei]), lk8, nN, N24, iN, fun H9 pg t3 b3' s9 hpg low3 _ _ => ?_⟩⟩
      refine ⟨_, _, rfl, by omega, by omega, Bt_nat (by omega), fun H10 pl2 t4 b4 s10 hpl2 low4 => ?_⟩
      obtain ⟨rfl, rfl⟩ := low3.uniq (by omega) low4
      refine ne_d (dv_p (s10 _ _ hpg)) (dv_p hpl2) (shaped_p _ _) ?_
      have s410 := (s48.trans s9).trans s10
      have lk10 := lk4.same s410
      obtain ⟨d10, _, _, hx10, _⟩ := lk10.ex
      refine ⟨x, d10, _, rfl, hx10, rfl, ⟨x, rs, N, i, (by show [V.ref x, V.int ((xs.length : Int) + r % (25 - (xs.length : Int))), V.int (0 + (i : Int))] = _; rw [eN, ei]), lk10, nN, N24, iN, fun H11 pe us s11 _ hpe hE _ => ?_⟩⟩
      have s411 := s410.trans s11
      refine ⟨pe, l, st, us, xs, ys, rs, N, i, (by show [V.ref pe, V.ref l, V.ref st, V.int ((xs.length : Int) + r % (25 - (xs.length : Int))), V.int (0 + (i : Int))] = _; rw [eN, ei]), hpe, hE, tb4.same s411, ss.same s411, nN, N24, iN, fun H12 s12 => ?_⟩
      have s812 := ((s9.trans s10).trans s11).trans s12
      refine ⟨s411.trans s12, pf, t1, b1, _, _, _, _, _, _, _, s812 _ _ hpf8, low1, cpo, bt1, bb1, fun hN => ?_, rfl⟩
      have gm := G_more (opF rs) (byF rs) N (mono_F rs) (d := rs.length) (k := 0) (f := 0) (r := i) (by omega)
      rw [Nat.sub_zero] at gm
      exact gm
    · rintro σ H5 ⟨s5, pb, t0, b0, T0, B0, x7, x8, x9, x10, x11, hpb5, low0, B0p, bt0, bb0, hle, rfl⟩
      exact q _
end
end My

set_option Elab.async false
set_option linter.all false
set_option maxRecDepth 100000
set_option maxHeartbeats 4000000
namespace My
open PySem L2
theorem txt_mk {K : PySem.W.Frag} {h : Heap} {mg : Str → Option Value} {f0 : Addr} {od0 an0 : Option Addr} {sl0 : Array (Option Value)} {oc0 kV0 dc0 pm0 cd0 ct0 : Value} {f1 : Addr} {od1 an1 : Option Addr} {sl1 : Array (Option Value)} {oc1 kV1 dc1 pm1 cd1 ct1 : Value} {f2 : Addr} {od2 an2 : Option Addr} {sl2 : Array (Option Value)} {oc2 kV2 dc2 pm2 cd2 ct2 : Value} {f3 : Addr} {od3 an3 : Option Addr} {sl3 : Array (Option Value)} {oc3 kV3 dc3 pm3 cd3 ct3 : Value} {f4 : Addr} {od4 an4 : Option Addr} {sl4 : Array (Option Value)} {oc4 kV4 dc4 pm4 cd4 ct4 : Value} {f5 : Addr} {od5 an5 : Option Addr} {sl5 : Array (Option Value)} {oc5 kV5 dc5 pm5 cd5 ct5 : Value} {f6 : Addr} {od6 an6 : Option Addr} {sl6 : Array (Option Value)} {oc6 kV6 dc6 pm6 cd6 ct6 : Value} {f7 : Addr} {od7 an7 : Option Addr} {sl7 : Array (Option Value)} {oc7 kV7 dc7 pm7 cd7 ct7 : Value} {f8 : Addr} {od8 an8 : Option Addr} {sl8 : Array (Option Value)} {oc8 kV8 dc8 pm8 cd8 ct8 : Value} {f9 : Addr} {od9 an9 : Option Addr} {sl9 : Array (Option Value)} {oc9 kV9 dc9 pm9 cd9 ct9 : Value} {f10 : Addr} {od10 an10 : Option Addr} {sl10 : Array (Option Value)} {oc10 kV10 dc10 pm10 cd10 ct10 : Value} {f11 : Addr} {od11 an11 : Option Addr} {sl11 : Array (Option Value)} {oc11 kV11 dc11 pm11 cd11 ct11 : Value} {f12 : Addr} {od12 an12 : Option Addr} {sl12 : Array (Option Value)} {oc12 kV12 dc12 pm12 cd12 ct12 : Value} {f13 : Addr} {od13 an13 : Option Addr} {sl13 : Array (Option Value)} {oc13 kV13 dc13 pm13 cd13 ct13 : Value} {f14 : Addr} {od14 an14 : Option Addr} {sl14 : Array (Option Value)} {oc14 kV14 dc14 pm14 cd14 ct14 : Value} {f15 : Addr} {od15 an15 : Option Addr} {sl15 : Array (Option Value)} {oc15 kV15 dc15 pm15 cd15 ct15 : Value} {f16 : Addr} {od16 an16 : Option Addr} {sl16 : Array (Option Value)} {oc16 kV16 dc16 pm16 cd16 ct16 : Value} {f17 : Addr} {od17 an17 : Option Addr} {sl17 : Array (Option Value)} {oc17 kV17 dc17 pm17 cd17 ct17 : Value} {u0 : Value} {u1 : Value} {u2 : Value} {u3 : Value} {c_SpeakError : Addr} {c_NoTable : Addr} {i_NoTable : Addr} {od_NoTable an_NoTable : Option Addr} {sl_NoTable : Array (Option Value)} {oc_NoTable kV_NoTable dc_NoTable pm_NoTable cd_NoTable ct_NoTable : Value} {c_NoLot : Addr} {c_Looks : Addr} {i_Looks : Addr} {od_Looks an_Looks : Option Addr} {sl_Looks : Array (Option Value)} {oc_Looks kV_Looks dc_Looks pm_Looks cd_Looks ct_Looks : Value} {x_Looks_endings : Addr} {od_Looks_endings an_Looks_endings : Option Addr} {sl_Looks_endings : Array (Option Value)} {oc_Looks_endings kV_Looks_endings dc_Looks_endings pm_Looks_endings cd_Looks_endings ct_Looks_endings : Value} {x_Looks_let_by : Addr} {od_Looks_let_by an_Looks_let_by : Option Addr} {sl_Looks_let_by : Array (Option Value)} {oc_Looks_let_by kV_Looks_let_by dc_Looks_let_by pm_Looks_let_by cd_Looks_let_by ct_Looks_let_by : Value} {x_Looks_looked_at : Addr} {od_Looks_looked_at an_Looks_looked_at : Option Addr} {sl_Looks_looked_at : Array (Option Value)} {oc_Looks_looked_at kV_Looks_looked_at dc_Looks_looked_at pm_Looks_looked_at cd_Looks_looked_at ct_Looks_looked_at : Value} (X : K.In h) (G : h.Ns mainGlobals mg)
    (a0 : PySem.W.nsIn K mainGlobals "greatest_divisor" = some (some (.ref f0))) (l0 : K.lookup f0 = some ⟨oc0, od0, .func (PySem.W.fnOf "greatest_divisor" "greatest_divisor" (defArgs s_greatest_divisor) (defBody s_greatest_divisor) (defScope s_greatest_divisor) .none kV0 dc0 pm0 an0 cd0 ct0), sl0⟩) (c0 : PySem.W.codeIn K cd0 "greatest_divisor" = true) (k0 : PySem.W.keepIn K (.ref f0) = true)
    (a1 : PySem.W.nsIn K mainGlobals "share" = some (some (.ref f1))) (l1 : K.lookup f1 = some ⟨oc1, od1, .func (PySem.W.fnOf "share" "share" (defArgs s_share) (defBody s_share) (defScope s_share) .none kV1 dc1 pm1 an1 cd1 ct1), sl1⟩) (c1 : PySem.W.codeIn K cd1 "share" = true) (k1 : PySem.W.keepIn K (.ref f1) = true)
    (a2 : PySem.W.nsIn K mainGlobals "is_whole" = some (some (.ref f2))) (l2 : K.lookup f2 = some ⟨oc2, od2, .func (PySem.W.fnOf "is_whole" "is_whole" (defArgs s_is_whole) (defBody s_is_whole) (defScope s_is_whole) .none kV2 dc2 pm2 an2 cd2 ct2), sl2⟩) (c2 : PySem.W.codeIn K cd2 "is_whole" = true) (k2 : PySem.W.keepIn K (.ref f2) = true)
    (a3 : PySem.W.nsIn K mainGlobals "is_row" = some (some (.ref f3))) (l3 : K.lookup f3 = some ⟨oc3, od3, .func (PySem.W.fnOf "is_row" "is_row" (defArgs s_is_row) (defBody s_is_row) (defScope s_is_row) .none kV3 dc3 pm3 an3 cd3 ct3), sl3⟩) (c3 : PySem.W.codeIn K cd3 "is_row" = true) (k3 : PySem.W.keepIn K (.ref f3) = true)
    (a4 : PySem.W.nsIn K mainGlobals "need_table" = some (some (.ref f4))) (l4 : K.lookup f4 = some ⟨oc4, od4, .func (PySem.W.fnOf "need_table" "need_table" (defArgs s_need_table) (defBody s_need_table) (defScope s_need_table) .none kV4 dc4 pm4 an4 cd4 ct4), sl4⟩) (c4 : PySem.W.codeIn K cd4 "need_table" = true) (k4 : PySem.W.keepIn K (.ref f4) = true)
    (a5 : PySem.W.nsIn K mainGlobals "word_of" = some (some (.ref f5))) (l5 : K.lookup f5 = some ⟨oc5, od5, .func (PySem.W.fnOf "word_of" "word_of" (defArgs s_word_of) (defBody s_word_of) (defScope s_word_of) .none kV5 dc5 pm5 an5 cd5 ct5), sl5⟩) (c5 : PySem.W.codeIn K cd5 "word_of" = true) (k5 : PySem.W.keepIn K (.ref f5) = true)
    (a6 : PySem.W.nsIn K mainGlobals "choices" = some (some (.ref f6))) (l6 : K.lookup f6 = some ⟨oc6, od6, .func (PySem.W.fnOf "choices" "choices" (defArgs s_choices) (defBody s_choices) (defScope s_choices) .none kV6 dc6 pm6 an6 cd6 ct6), sl6⟩) (c6 : PySem.W.codeIn K cd6 "choices" = true) (k6 : PySem.W.keepIn K (.ref f6) = true)
    (a7 : PySem.W.nsIn K mainGlobals "one_more" = some (some (.ref f7))) (l7 : K.lookup f7 = some ⟨oc7, od7, .func (PySem.W.fnOf "one_more" "one_more" (defArgs s_one_more) (defBody s_one_more) (defScope s_one_more) .none kV7 dc7 pm7 an7 cd7 ct7), sl7⟩) (c7 : PySem.W.codeIn K cd7 "one_more" = true) (k7 : PySem.W.keepIn K (.ref f7) = true)
    (a8 : PySem.W.nsIn K mainGlobals "endings_at" = some (some (.ref f8))) (l8 : K.lookup f8 = some ⟨oc8, od8, .func (PySem.W.fnOf "endings_at" "endings_at" (defArgs s_endings_at) (defBody s_endings_at) (defScope s_endings_at) .none kV8 dc8 pm8 an8 cd8 ct8), sl8⟩) (c8 : PySem.W.codeIn K cd8 "endings_at" = true) (k8 : PySem.W.keepIn K (.ref f8) = true)
    (a9 : PySem.W.nsIn K mainGlobals "_law_cell" = some (some (.ref f9))) (l9 : K.lookup f9 = some ⟨oc9, od9, .func (PySem.W.fnOf "_law_cell" "_law_cell" (defArgs s_L_cell) (defBody s_L_cell) (defScope s_L_cell) .none kV9 dc9 pm9 an9 cd9 ct9), sl9⟩) (c9 : PySem.W.codeIn K cd9 "_law_cell" = true) (k9 : PySem.W.keepIn K (.ref f9) = true)
    (a10 : PySem.W.nsIn K mainGlobals "_law_mixed" = some (some (.ref f10))) (l10 : K.lookup f10 = some ⟨oc10, od10, .func (PySem.W.fnOf "_law_mixed" "_law_mixed" (defArgs s_L_mixed) (defBody s_L_mixed) (defScope s_L_mixed) .none kV10 dc10 pm10 an10 cd10 ct10), sl10⟩) (c10 : PySem.W.codeIn K cd10 "_law_mixed" = true) (k10 : PySem.W.keepIn K (.ref f10) = true)
    (a11 : PySem.W.nsIn K mainGlobals "_law_rows" = some (some (.ref f11))) (l11 : K.lookup f11 = some ⟨oc11, od11, .func (PySem.W.fnOf "_law_rows" "_law_rows" (defArgs s_L_rows) (defBody s_L_rows) (defScope s_L_rows) .none kV11 dc11 pm11 an11 cd11 ct11), sl11⟩) (c11 : PySem.W.codeIn K cd11 "_law_rows" = true) (k11 : PySem.W.keepIn K (.ref f11) = true)
    (a12 : PySem.W.nsIn K mainGlobals "_law_word" = some (some (.ref f12))) (l12 : K.lookup f12 = some ⟨oc12, od12, .func (PySem.W.fnOf "_law_word" "_law_word" (defArgs s_L_word) (defBody s_L_word) (defScope s_L_word) .none kV12 dc12 pm12 an12 cd12 ct12), sl12⟩) (c12 : PySem.W.codeIn K cd12 "_law_word" = true) (k12 : PySem.W.keepIn K (.ref f12) = true)
    (a13 : PySem.W.nsIn K mainGlobals "_law_lowest" = some (some (.ref f13))) (l13 : K.lookup f13 = some ⟨oc13, od13, .func (PySem.W.fnOf "_law_lowest" "_law_lowest" (defArgs s_L_lowest) (defBody s_L_lowest) (defScope s_L_lowest) .none kV13 dc13 pm13 an13 cd13 ct13), sl13⟩) (c13 : PySem.W.codeIn K cd13 "_law_lowest" = true) (k13 : PySem.W.keepIn K (.ref f13) = true)
    (a14 : PySem.W.nsIn K mainGlobals "_law_sets" = some (some (.ref f14))) (l14 : K.lookup f14 = some ⟨oc14, od14, .func (PySem.W.fnOf "_law_sets" "_law_sets" (defArgs s_L_sets) (defBody s_L_sets) (defScope s_L_sets) .none kV14 dc14 pm14 an14 cd14 ct14), sl14⟩) (c14 : PySem.W.codeIn K cd14 "_law_sets" = true) (k14 : PySem.W.keepIn K (.ref f14) = true)
    (a15 : PySem.W.nsIn K mainGlobals "_law_back" = some (some (.ref f15))) (l15 : K.lookup f15 = some ⟨oc15, od15, .func (PySem.W.fnOf "_law_back" "_law_back" (defArgs s_L_back) (defBody s_L_back) (defScope s_L_back) .none kV15 dc15 pm15 an15 cd15 ct15), sl15⟩) (c15 : PySem.W.codeIn K cd15 "_law_back" = true) (k15 : PySem.W.keepIn K (.ref f15) = true)
    (a16 : PySem.W.nsIn K mainGlobals "_law_endings_right" = some (some (.ref f16))) (l16 : K.lookup f16 = some ⟨oc16, od16, .func (PySem.W.fnOf "_law_endings_right" "_law_endings_right" (defArgs s_L_endings_right) (defBody s_L_endings_right) (defScope s_L_endings_right) .none kV16 dc16 pm16 an16 cd16 ct16), sl16⟩) (c16 : PySem.W.codeIn K cd16 "_law_endings_right" = true) (k16 : PySem.W.keepIn K (.ref f16) = true)
    (a17 : PySem.W.nsIn K mainGlobals "law" = some (some (.ref f17))) (l17 : K.lookup f17 = some ⟨oc17, od17, .func (PySem.W.fnOf "law" "law" (defArgs s_law) (defBody s_law) (defScope s_law) .none kV17 dc17 pm17 an17 cd17 ct17), sl17⟩) (c17 : PySem.W.codeIn K cd17 "law" = true) (k17 : PySem.W.keepIn K (.ref f17) = true)
    (b0 : PySem.W.nsIn K mainGlobals "MOST_ROWS" = some (some u0))
    (b1 : PySem.W.nsIn K mainGlobals "MOST_WARES" = some (some u1))
    (b2 : PySem.W.nsIn K mainGlobals "MOST_LET" = some (some u2))
    (b3 : PySem.W.nsIn K mainGlobals "MOST_TURN" = some (some u3))
    (ca_SpeakError : PySem.W.nsIn K mainGlobals "SpeakError" = some (some (.ref c_SpeakError))) (cb_SpeakError : PySem.W.keepIn K (.ref c_SpeakError) = true) (cc_SpeakError : xcIn K c_SpeakError = true)
    (cx_SpeakError : xIn K c_SpeakError none = true)
    (ca_NoTable : PySem.W.nsIn K mainGlobals "NoTable" = some (some (.ref c_NoTable))) (cb_NoTable : PySem.W.keepIn K (.ref c_NoTable) = true) (cc_NoTable : xcIn K c_NoTable = true)
    (cf_NoTable : PySem.W.findIn K (.ref c_NoTable) "__init__" = some (some (.ref i_NoTable))) (cx_NoTable : xIn K c_NoTable (some (.ref i_NoTable)) = true) (cg_NoTable : PySem.W.isFn K (.ref i_NoTable) = true)
    (cl_NoTable : K.lookup i_NoTable = some ⟨oc_NoTable, od_NoTable, .func (PySem.W.fnOf "__init__" "NoTable.__init__" (defArgs s_NoTable___init__) (defBody s_NoTable___init__) (defScope s_NoTable___init__) .none kV_NoTable dc_NoTable pm_NoTable an_NoTable cd_NoTable ct_NoTable), sl_NoTable⟩) (co_NoTable : PySem.W.codeIn K cd_NoTable "NoTable.__init__" = true) (ck_NoTable : PySem.W.keepIn K (.ref i_NoTable) = true)
    (cs_NoTable_row : xsIn K c_NoTable "row" = true)
    (ca_NoLot : PySem.W.nsIn K mainGlobals "NoLot" = some (some (.ref c_NoLot))) (cb_NoLot : PySem.W.keepIn K (.ref c_NoLot) = true) (cc_NoLot : xcIn K c_NoLot = true)
    (cx_NoLot : xIn K c_NoLot none = true)
    (ca_Looks : PySem.W.nsIn K mainGlobals "Looks" = some (some (.ref c_Looks))) (pa_Looks : PySem.W.plainGet K c_Looks Str.empty = true) (pb_Looks : PySem.W.hasDictIn K c_Looks = true) (pc_Looks : PySem.W.plainOver K c_Looks = true)
    (pd_Looks : PySem.W.findIn K (.ref c_Looks) "__setattr__" = some (some (.builtin "object.__setattr__"))) (pe_Looks : PySem.W.findIn K (.ref c_Looks) "__class__" = some (some (.builtin "object.__class__"))) (pf_Looks : PySem.W.specialIn K (.builtin "object.__class__") "__get__" = some (some (.builtin "getset_descriptor.__get__"))) (pg_Looks : PySem.W.takesIn K (.builtin "object.__class__") = some true) (ph_Looks : PySem.W.mroIn K c_Looks (.type "object") = some true)
    (qa_Looks : PySem.W.makesIn K c_Looks = true) (qb_Looks : PySem.W.findIn K (.ref c_Looks) "__init__" = some (some (.ref i_Looks))) (qc_Looks : PySem.W.isFn K (.ref i_Looks) = true) (qd_Looks : PySem.W.keepIn K (.ref c_Looks) = true)
    (qn_Looks_rows : PySem.W.findIn K (.ref c_Looks) "rows" = some none)
    (cl_Looks : K.lookup i_Looks = some ⟨oc_Looks, od_Looks, .func (PySem.W.fnOf "__init__" "Looks.__init__" (defArgs s_Looks___init__) (defBody s_Looks___init__) (defScope s_Looks___init__) .none kV_Looks dc_Looks pm_Looks an_Looks cd_Looks ct_Looks), sl_Looks⟩) (co_Looks : PySem.W.codeIn K cd_Looks "Looks.__init__" = true) (ck_Looks : PySem.W.keepIn K (.ref i_Looks) = true)
    (mf_Looks_endings : PySem.W.findIn K (.ref c_Looks) "endings" = some (some (.ref x_Looks_endings)))
    (ml_Looks_endings : K.lookup x_Looks_endings = some ⟨oc_Looks_endings, od_Looks_endings, .func (PySem.W.fnOf "endings" "Looks.endings" (defArgs s_Looks_endings) (defBody s_Looks_endings) (defScope s_Looks_endings) .none kV_Looks_endings dc_Looks_endings pm_Looks_endings an_Looks_endings cd_Looks_endings ct_Looks_endings), sl_Looks_endings⟩) (mo_Looks_endings : PySem.W.codeIn K cd_Looks_endings "Looks.endings" = true) (mk_Looks_endings : PySem.W.keepIn K (.ref x_Looks_endings) = true) (mi_Looks_endings : PySem.W.isFn K (.ref x_Looks_endings) = true)
    (mf_Looks_let_by : PySem.W.findIn K (.ref c_Looks) "let_by" = some (some (.ref x_Looks_let_by)))
    (ml_Looks_let_by : K.lookup x_Looks_let_by = some ⟨oc_Looks_let_by, od_Looks_let_by, .func (PySem.W.fnOf "let_by" "Looks.let_by" (defArgs s_Looks_let_by) (defBody s_Looks_let_by) (defScope s_Looks_let_by) .none kV_Looks_let_by dc_Looks_let_by pm_Looks_let_by an_Looks_let_by cd_Looks_let_by ct_Looks_let_by), sl_Looks_let_by⟩) (mo_Looks_let_by : PySem.W.codeIn K cd_Looks_let_by "Looks.let_by" = true) (mk_Looks_let_by : PySem.W.keepIn K (.ref x_Looks_let_by) = true) (mi_Looks_let_by : PySem.W.isFn K (.ref x_Looks_let_by) = true)
    (mf_Looks_looked_at : PySem.W.findIn K (.ref c_Looks) "looked_at" = some (some (.ref x_Looks_looked_at)))
    (ml_Looks_looked_at : K.lookup x_Looks_looked_at = some ⟨oc_Looks_looked_at, od_Looks_looked_at, .func (PySem.W.fnOf "looked_at" "Looks.looked_at" (defArgs s_Looks_looked_at) (defBody s_Looks_looked_at) (defScope s_Looks_looked_at) .none kV_Looks_looked_at dc_Looks_looked_at pm_Looks_looked_at an_Looks_looked_at cd_Looks_looked_at ct_Looks_looked_at), sl_Looks_looked_at⟩) (mo_Looks_looked_at : PySem.W.codeIn K cd_Looks_looked_at "Looks.looked_at" = true) (mk_Looks_looked_at : PySem.W.keepIn K (.ref x_Looks_looked_at) = true) (mi_Looks_looked_at : PySem.W.isFn K (.ref x_Looks_looked_at) = true)
    (z0 : PySem.W.nsIn K mainGlobals "abs" = some none)
    (z1 : PySem.W.nsIn K mainGlobals "bool" = some none)
    (z2 : PySem.W.nsIn K mainGlobals "enumerate" = some none)
    (z3 : PySem.W.nsIn K mainGlobals "int" = some none)
    (z4 : PySem.W.nsIn K mainGlobals "isinstance" = some none)
    (z5 : PySem.W.nsIn K mainGlobals "len" = some none)
    (z6 : PySem.W.nsIn K mainGlobals "list" = some none)
    (z7 : PySem.W.nsIn K mainGlobals "max" = some none)
    (z8 : PySem.W.nsIn K mainGlobals "min" = some none)
    (z9 : PySem.W.nsIn K mainGlobals "range" = some none)
    (z10 : PySem.W.nsIn K mainGlobals "sum" = some none)
    (z11 : PySem.W.nsIn K mainGlobals "tuple" = some none)
    (z12 : PySem.W.nsIn K mainGlobals "zip" = some none) (r0 : RelV (.int 24) u0) (r1 : RelV (.int 24) u1) (r2 : RelV (.int 24) u2) (r3 : RelV (.int 25) u3) : ∃ a : Ad, Txt K mg a := by
  refine ⟨{ f_greatest_divisor := f0, d_greatest_divisor := PySem.W.fnOf "greatest_divisor" "greatest_divisor" (defArgs s_greatest_divisor) (defBody s_greatest_divisor) (defScope s_greatest_divisor) .none kV0 dc0 pm0 an0 cd0 ct0, f_share := f1, d_share := PySem.W.fnOf "share" "share" (defArgs s_share) (defBody s_share) (defScope s_share) .none kV1 dc1 pm1 an1 cd1 ct1, f_is_whole := f2, d_is_whole := PySem.W.fnOf "is_whole" "is_whole" (defArgs s_is_whole) (defBody s_is_whole) (defScope s_is_whole) .none kV2 dc2 pm2 an2 cd2 ct2, f_is_row := f3, d_is_row := PySem.W.fnOf "is_row" "is_row" (defArgs s_is_row) (defBody s_is_row) (defScope s_is_row) .none kV3 dc3 pm3 an3 cd3 ct3, f_need_table := f4, d_need_table := PySem.W.fnOf "need_table" "need_table" (defArgs s_need_table) (defBody s_need_table) (defScope s_need_table) .none kV4 dc4 pm4 an4 cd4 ct4, f_word_of := f5, d_word_of := PySem.W.fnOf "word_of" "word_of" (defArgs s_word_of) (defBody s_word_of) (defScope s_word_of) .none kV5 dc5 pm5 an5 cd5 ct5, f_choices := f6, d_choices := PySem.W.fnOf "choices" "choices" (defArgs s_choices) (defBody s_choices) (defScope s_choices) .none kV6 dc6 pm6 an6 cd6 ct6, f_one_more := f7, d_one_more := PySem.W.fnOf "one_more" "one_more" (defArgs s_one_more) (defBody s_one_more) (defScope s_one_more) .none kV7 dc7 pm7 an7 cd7 ct7, f_endings_at := f8, d_endings_at := PySem.W.fnOf "endings_at" "endings_at" (defArgs s_endings_at) (defBody s_endings_at) (defScope s_endings_at) .none kV8 dc8 pm8 an8 cd8 ct8, f_L_cell := f9, d_L_cell := PySem.W.fnOf "_law_cell" "_law_cell" (defArgs s_L_cell) (defBody s_L_cell) (defScope s_L_cell) .none kV9 dc9 pm9 an9 cd9 ct9, f_L_mixed := f10, d_L_mixed := PySem.W.fnOf "_law_mixed" "_law_mixed" (defArgs s_L_mixed) (defBody s_L_mixed) (defScope s_L_mixed) .none kV10 dc10 pm10 an10 cd10 ct10, f_L_rows := f11, d_L_rows := PySem.W.fnOf "_law_rows" "_law_rows" (defArgs s_L_rows) (defBody s_L_rows) (defScope s_L_rows) .none kV11 dc11 pm11 an11 cd11 ct11, f_L_word := f12, d_L_word := PySem.W.fnOf "_law_word" "_law_word" (defArgs s_L_word) (defBody s_L_word) (defScope s_L_word) .none kV12 dc12 pm12 an12 cd12 ct12, f_L_lowest := f13, d_L_lowest := PySem.W.fnOf "_law_lowest" "_law_lowest" (defArgs s_L_lowest) (defBody s_L_lowest) (defScope s_L_lowest) .none kV13 dc13 pm13 an13 cd13 ct13, f_L_sets := f14, d_L_sets := PySem.W.fnOf "_law_sets" "_law_sets" (defArgs s_L_sets) (defBody s_L_sets) (defScope s_L_sets) .none kV14 dc14 pm14 an14 cd14 ct14, f_L_back := f15, d_L_back := PySem.W.fnOf "_law_back" "_law_back" (defArgs s_L_back) (defBody s_L_back) (defScope s_L_back) .none kV15 dc15 pm15 an15 cd15 ct15, f_L_endings_right := f16, d_L_endings_right := PySem.W.fnOf "_law_endings_right" "_law_endings_right" (defArgs s_L_endings_right) (defBody s_L_endings_right) (defScope s_L_endings_right) .none kV16 dc16 pm16 an16 cd16 ct16, f_law := f17, d_law := PySem.W.fnOf "law" "law" (defArgs s_law) (defBody s_law) (defScope s_law) .none kV17 dc17 pm17 an17 cd17 ct17, c_SpeakError := c_SpeakError, c_NoTable := c_NoTable, i_NoTable := i_NoTable, e_NoTable := PySem.W.fnOf "__init__" "NoTable.__init__" (defArgs s_NoTable___init__) (defBody s_NoTable___init__) (defScope s_NoTable___init__) .none kV_NoTable dc_NoTable pm_NoTable an_NoTable cd_NoTable ct_NoTable, c_NoLot := c_NoLot, c_Looks := c_Looks, i_Looks := i_Looks, e_Looks := PySem.W.fnOf "__init__" "Looks.__init__" (defArgs s_Looks___init__) (defBody s_Looks___init__) (defScope s_Looks___init__) .none kV_Looks dc_Looks pm_Looks an_Looks cd_Looks ct_Looks, x_Looks_endings := x_Looks_endings, y_Looks_endings := PySem.W.fnOf "endings" "Looks.endings" (defArgs s_Looks_endings) (defBody s_Looks_endings) (defScope s_Looks_endings) .none kV_Looks_endings dc_Looks_endings pm_Looks_endings an_Looks_endings cd_Looks_endings ct_Looks_endings, x_Looks_let_by := x_Looks_let_by, y_Looks_let_by := PySem.W.fnOf "let_by" "Looks.let_by" (defArgs s_Looks_let_by) (defBody s_Looks_let_by) (defScope s_Looks_let_by) .none kV_Looks_let_by dc_Looks_let_by pm_Looks_let_by an_Looks_let_by cd_Looks_let_by ct_Looks_let_by, x_Looks_looked_at := x_Looks_looked_at, y_Looks_looked_at := PySem.W.fnOf "looked_at" "Looks.looked_at" (defArgs s_Looks_looked_at) (defBody s_Looks_looked_at) (defScope s_Looks_looked_at) .none kV_Looks_looked_at dc_Looks_looked_at pm_Looks_looked_at an_Looks_looked_at cd_Looks_looked_at ct_Looks_looked_at }, ?_⟩
  exact {
    F_greatest_divisor := fun_mk (st := s_greatest_divisor) l0 c0 k0
    B_greatest_divisor := (fun_mk (st := s_greatest_divisor) l0 c0 k0).binds (ps := ["one", "other"]) fun _ _ _ _ _ _ us hl => match us, hl with | [_, _], _ => rfl
    m_greatest_divisor := PySem.W.mg_of X G a0
    F_share := fun_mk (st := s_share) l1 c1 k1
    B_share := (fun_mk (st := s_share) l1 c1 k1).binds (ps := ["top", "bottom"]) fun _ _ _ _ _ _ us hl => match us, hl with | [_, _], _ => rfl
    m_share := PySem.W.mg_of X G a1
    F_is_whole := fun_mk (st := s_is_whole) l2 c2 k2
    B_is_whole := (fun_mk (st := s_is_whole) l2 c2 k2).binds (ps := ["thing", "low", "high"]) fun _ _ _ _ _ _ us hl => match us, hl with | [_, _, _], _ => rfl
    m_is_whole := PySem.W.mg_of X G a2
    F_is_row := fun_mk (st := s_is_row) l3 c3 k3
    B_is_row := (fun_mk (st := s_is_row) l3 c3 k3).binds (ps := ["thing"]) fun _ _ _ _ _ _ us hl => match us, hl with | [_], _ => rfl
    m_is_row := PySem.W.mg_of X G a3
    F_need_table := fun_mk (st := s_need_table) l4 c4 k4
    B_need_table := (fun_mk (st := s_need_table) l4 c4 k4).binds (ps := ["rows"]) fun _ _ _ _ _ _ us hl => match us, hl with | [_], _ => rfl
    m_need_table := PySem.W.mg_of X G a4
    F_word_of := fun_mk (st := s_word_of) l5 c5 k5
    B_word_of := (fun_mk (st := s_word_of) l5 c5 k5).binds (ps := ["row", "found"]) fun _ _ _ _ _ _ us hl => match us, hl with | [_, _], _ => rfl
    m_word_of := PySem.W.mg_of X G a5
    F_choices := fun_mk (st := s_choices) l6 c6 k6
    B_choices := (fun_mk (st := s_choices) l6 c6 k6).binds (ps := ["many", "some"]) fun _ _ _ _ _ _ us hl => match us, hl with | [_, _], _ => rfl
    m_choices := PySem.W.mg_of X G a6
    F_one_more := fun_mk (st := s_one_more) l7 c7 k7
    B_one_more := (fun_mk (st := s_one_more) l7 c7 k7).binds (ps := ["ways"]) fun _ _ _ _ _ _ us hl => match us, hl with | [_], _ => rfl
    m_one_more := PySem.W.mg_of X G a7
    F_endings_at := fun_mk (st := s_endings_at) l8 c8 k8
    B_endings_at := (fun_mk (st := s_endings_at) l8 c8 k8).binds (ps := ["row", "ways", "left", "bad", "looked"]) fun _ _ _ _ _ _ us hl => match us, hl with | [_, _, _, _, _], _ => rfl
    m_endings_at := PySem.W.mg_of X G a8
    F_L_cell := fun_mk (st := s_L_cell) l9 c9 k9
    B_L_cell := (fun_mk (st := s_L_cell) l9 c9 k9).binds (ps := ["_law_script", "_law_k"]) fun _ _ _ _ _ _ us hl => match us, hl with | [_, _], _ => rfl
    m_L_cell := PySem.W.mg_of X G a9
    F_L_mixed := fun_mk (st := s_L_mixed) l10 c10 k10
    B_L_mixed := (fun_mk (st := s_L_mixed) l10 c10 k10).binds (ps := ["_law_cell_here", "_law_k"]) fun _ _ _ _ _ _ us hl => match us, hl with | [_, _], _ => rfl
    m_L_mixed := PySem.W.mg_of X G a10
    F_L_rows := fun_mk (st := s_L_rows) l11 c11 k11
    B_L_rows := (fun_mk (st := s_L_rows) l11 c11 k11).binds (ps := ["_law_cell_here"]) fun _ _ _ _ _ _ us hl => match us, hl with | [_], _ => rfl
    m_L_rows := PySem.W.mg_of X G a11
    F_L_word := fun_mk (st := s_L_word) l12 c12 k12
    B_L_word := (fun_mk (st := s_L_word) l12 c12 k12).binds (ps := ["_law_rows_here", "_law_looked", "_law_found"]) fun _ _ _ _ _ _ us hl => match us, hl with | [_, _, _], _ => rfl
    m_L_word := PySem.W.mg_of X G a12
    F_L_lowest := fun_mk (st := s_L_lowest) l13 c13 k13
    B_L_lowest := (fun_mk (st := s_L_lowest) l13 c13 k13).binds (ps := ["_law_top", "_law_bottom"]) fun _ _ _ _ _ _ us hl => match us, hl with | [_, _], _ => rfl
    m_L_lowest := PySem.W.mg_of X G a13
    F_L_sets := fun_mk (st := s_L_sets) l14 c14 k14
    B_L_sets := (fun_mk (st := s_L_sets) l14 c14 k14).binds (ps := []) fun _ _ _ _ _ _ us hl => match us, hl with | [], _ => rfl
    m_L_sets := PySem.W.mg_of X G a14
    F_L_back := fun_mk (st := s_L_back) l15 c15 k15
    B_L_back := (fun_mk (st := s_L_back) l15 c15 k15).binds (ps := ["_law_rows_here", "_law_sets_here", "_law_lot", "_law_bad"]) fun _ _ _ _ _ _ us hl => match us, hl with | [_, _, _, _], _ => rfl
    m_L_back := PySem.W.mg_of X G a15
    F_L_endings_right := fun_mk (st := s_L_endings_right) l16 c16 k16
    B_L_endings_right := (fun_mk (st := s_L_endings_right) l16 c16 k16).binds (ps := ["_law_told", "_law_rows_here", "_law_sets_here", "_law_lot", "_law_bad"]) fun _ _ _ _ _ _ us hl => match us, hl with | [_, _, _, _, _], _ => rfl
    m_L_endings_right := PySem.W.mg_of X G a16
    F_law := fun_mk (st := s_law) l17 c17 k17
    B_law := (fun_mk (st := s_law) l17 c17 k17).binds (ps := ["_law_script"]) fun _ _ _ _ _ _ us hl => match us, hl with | [_], _ => rfl
    m_law := PySem.W.mg_of X G a17
    F_Looks_endings := fun_mk (st := s_Looks_endings) ml_Looks_endings mo_Looks_endings mk_Looks_endings
    B_Looks_endings := (fun_mk (st := s_Looks_endings) ml_Looks_endings mo_Looks_endings mk_Looks_endings).binds (ps := ["self", "lot", "bad"]) fun _ _ _ _ _ _ us hl => match us, hl with | [_, _, _], _ => rfl
    F_Looks_let_by := fun_mk (st := s_Looks_let_by) ml_Looks_let_by mo_Looks_let_by mk_Looks_let_by
    B_Looks_let_by := (fun_mk (st := s_Looks_let_by) ml_Looks_let_by mo_Looks_let_by mk_Looks_let_by).binds (ps := ["self", "lot", "bad"]) fun _ _ _ _ _ _ us hl => match us, hl with | [_, _, _], _ => rfl
    F_Looks_looked_at := fun_mk (st := s_Looks_looked_at) ml_Looks_looked_at mo_Looks_looked_at mk_Looks_looked_at
    B_Looks_looked_at := (fun_mk (st := s_Looks_looked_at) ml_Looks_looked_at mo_Looks_looked_at mk_Looks_looked_at).binds (ps := ["self", "lot", "bad"]) fun _ _ _ _ _ _ us hl => match us, hl with | [_, _, _], _ => rfl
    mt_Looks_endings := ⟨mf_Looks_endings, mi_Looks_endings, mk_Looks_endings⟩
    mt_Looks_let_by := ⟨mf_Looks_let_by, mi_Looks_let_by, mk_Looks_let_by⟩
    mt_Looks_looked_at := ⟨mf_Looks_looked_at, mi_Looks_looked_at, mk_Looks_looked_at⟩
    mc_Looks := PySem.W.mg_of X G ca_Looks
    g_Looks := ⟨_, PySem.W.mg_of X G ca_Looks, rfl⟩
    cl_Looks := ⟨pa_Looks, pb_Looks, pc_Looks, pd_Looks⟩
    ty_Looks := fun H x dx fs e => .ins e ⟨pa_Looks, pb_Looks, pc_Looks, pd_Looks⟩ pe_Looks pf_Looks pg_Looks ph_Looks
    mk_Looks := ⟨qa_Looks, qb_Looks, qc_Looks, qd_Looks⟩
    na_Looks_rows := qn_Looks_rows
    Fi_Looks := fun_mk (st := s_Looks___init__) cl_Looks co_Looks ck_Looks
    Bi_Looks := (fun_mk (st := s_Looks___init__) cl_Looks co_Looks ck_Looks).binds (ps := ["self", "rows"]) fun _ _ _ _ _ _ us hl => match us, hl with | [_, _], _ => rfl
    g_MOST_ROWS := ⟨u0, PySem.W.mg_of X G b0, r0⟩
    g_MOST_WARES := ⟨u1, PySem.W.mg_of X G b1, r1⟩
    g_MOST_LET := ⟨u2, PySem.W.mg_of X G b2, r2⟩
    g_MOST_TURN := ⟨u3, PySem.W.mg_of X G b3, r3⟩
    mc_SpeakError := PySem.W.mg_of X G ca_SpeakError
    g_SpeakError := ⟨_, PySem.W.mg_of X G ca_SpeakError, rfl⟩
    kc_SpeakError := cb_SpeakError
    xc_SpeakError := xc_of cc_SpeakError
    xh_SpeakError := xh_of cc_SpeakError
    xi_SpeakError := cx_SpeakError
    mc_NoTable := PySem.W.mg_of X G ca_NoTable
    g_NoTable := ⟨_, PySem.W.mg_of X G ca_NoTable, rfl⟩
    kc_NoTable := cb_NoTable
    xc_NoTable := xc_of cc_NoTable
    xh_NoTable := xh_of cc_NoTable
    xi_NoTable := cx_NoTable
    fn_NoTable := cg_NoTable
    Fi_NoTable := fun_mk (st := s_NoTable___init__) cl_NoTable co_NoTable ck_NoTable
    Bi_NoTable := (fun_mk (st := s_NoTable___init__) cl_NoTable co_NoTable ck_NoTable).binds (ps := ["self", "row"]) fun _ _ _ _ _ _ us hl => match us, hl with | [_, _], _ => rfl
    sx_NoTable_row := xs_of cs_NoTable_row
    mc_NoLot := PySem.W.mg_of X G ca_NoLot
    g_NoLot := ⟨_, PySem.W.mg_of X G ca_NoLot, rfl⟩
    kc_NoLot := cb_NoLot
    xc_NoLot := xc_of cc_NoLot
    xh_NoLot := xh_of cc_NoLot
    xi_NoLot := cx_NoLot
    z_abs := PySem.W.mg_none_of X G z0
    z_bool := PySem.W.mg_none_of X G z1
    z_enumerate := PySem.W.mg_none_of X G z2
    z_int := PySem.W.mg_none_of X G z3
    z_isinstance := PySem.W.mg_none_of X G z4
    z_len := PySem.W.mg_none_of X G z5
    z_list := PySem.W.mg_none_of X G z6
    z_max := PySem.W.mg_none_of X G z7
    z_min := PySem.W.mg_none_of X G z8
    z_range := PySem.W.mg_none_of X G z9
    z_sum := PySem.W.mg_none_of X G z10
    z_tuple := PySem.W.mg_none_of X G z11
    z_zip := PySem.W.mg_none_of X G z12
    bl := fun s u => .of_eq rfl }
end My
open PySem PySem.W PyProof.Rows
set_option maxRecDepth 100000 in
set_option maxHeartbeats 0 in
theorem PySem.Challenge.cw_fewspeak_k84_whole_more_bad_seldom_by_holds : PySem.Challenge.rw_fewspeak_k84_whole_more_bad_seldom_by.Holds := by
  w_on; o_law; k_head; (case hw => w_witness2)
  k_fill
  refine L2.walk_ofK (l := PySem.Challenge.rw_fewspeak_k84_whole_more_bad_seldom_by) (n := 63) (k := My.lawK) (x := "_law_script") (CX := L2.CX0) (sp := My.spLaw) rfl (by decide) rfl ⟨rfl, by decide, by decide⟩ (fun w h Y => PySem.W.kIn_of Y) ?F ?S ?C
  case F =>
    intro w mg fa h KX G hmg
    have T : ∃ a, My.Txt (L2.KOf KX) mg a := by
      dsimp only [L2.KOf]
      refine' My.txt_mk KX G ?a0 ?l0 ?c0 ?k0 ?a1 ?l1 ?c1 ?k1 ?a2 ?l2 ?c2 ?k2 ?a3 ?l3 ?c3 ?k3 ?a4 ?l4 ?c4 ?k4 ?a5 ?l5 ?c5 ?k5 ?a6 ?l6 ?c6 ?k6 ?a7 ?l7 ?c7 ?k7 ?a8 ?l8 ?c8 ?k8 ?a9 ?l9 ?c9 ?k9 ?a10 ?l10 ?c10 ?k10 ?a11 ?l11 ?c11 ?k11 ?a12 ?l12 ?c12 ?k12 ?a13 ?l13 ?c13 ?k13 ?a14 ?l14 ?c14 ?k14 ?a15 ?l15 ?c15 ?k15 ?a16 ?l16 ?c16 ?k16 ?a17 ?l17 ?c17 ?k17 ?b0 ?b1 ?b2 ?b3 ?ca_SpeakError ?cb_SpeakError ?cc_SpeakError ?cx_SpeakError ?ca_NoTable ?cb_NoTable ?cc_NoTable ?cf_NoTable ?cx_NoTable ?cg_NoTable ?cl_NoTable ?co_NoTable ?ck_NoTable ?cs_NoTable_row ?ca_NoLot ?cb_NoLot ?cc_NoLot ?cx_NoLot ?ca_Looks ?pa_Looks ?pb_Looks ?pc_Looks ?pd_Looks ?pe_Looks ?pf_Looks ?pg_Looks ?ph_Looks ?qa_Looks ?qb_Looks ?qc_Looks ?qd_Looks ?qn_Looks_rows ?cl_Looks ?co_Looks ?ck_Looks ?mf_Looks_endings ?ml_Looks_endings ?mo_Looks_endings ?mk_Looks_endings ?mi_Looks_endings ?mf_Looks_let_by ?ml_Looks_let_by ?mo_Looks_let_by ?mk_Looks_let_by ?mi_Looks_let_by ?mf_Looks_looked_at ?ml_Looks_looked_at ?mo_Looks_looked_at ?mk_Looks_looked_at ?mi_Looks_looked_at ?z0 ?z1 ?z2 ?z3 ?z4 ?z5 ?z6 ?z7 ?z8 ?z9 ?z10 ?z11 ?z12 ?r0 ?r1 ?r2 ?r3
      (case a0 => k_is)
      (case l0 => k_is)
      (case c0 => k_is)
      (case k0 => k_is)
      (case a1 => k_is)
      (case l1 => k_is)
      (case c1 => k_is)
      (case k1 => k_is)
      (case a2 => k_is)
      (case l2 => k_is)
      (case c2 => k_is)
      (case k2 => k_is)
      (case a3 => k_is)
      (case l3 => k_is)
      (case c3 => k_is)
      (case k3 => k_is)
      (case a4 => k_is)
      (case l4 => k_is)
      (case c4 => k_is)
      (case k4 => k_is)
      (case a5 => k_is)
      (case l5 => k_is)
      (case c5 => k_is)
      (case k5 => k_is)
      (case a6 => k_is)
      (case l6 => k_is)
      (case c6 => k_is)
      (case k6 => k_is)
      (case a7 => k_is)
      (case l7 => k_is)
      (case c7 => k_is)
      (case k7 => k_is)
      (case a8 => k_is)
      (case l8 => k_is)
      (case c8 => k_is)
      (case k8 => k_is)
      (case a9 => k_is)
      (case l9 => k_is)
      (case c9 => k_is)
      (case k9 => k_is)
      (case a10 => k_is)
      (case l10 => k_is)
      (case c10 => k_is)
      (case k10 => k_is)
      (case a11 => k_is)
      (case l11 => k_is)
      (case c11 => k_is)
      (case k11 => k_is)
      (case a12 => k_is)
      (case l12 => k_is)
      (case c12 => k_is)
      (case k12 => k_is)
      (case a13 => k_is)
      (case l13 => k_is)
      (case c13 => k_is)
      (case k13 => k_is)
      (case a14 => k_is)
      (case l14 => k_is)
      (case c14 => k_is)
      (case k14 => k_is)
      (case a15 => k_is)
      (case l15 => k_is)
      (case c15 => k_is)
      (case k15 => k_is)
      (case a16 => k_is)
      (case l16 => k_is)
      (case c16 => k_is)
      (case k16 => k_is)
      (case a17 => k_is)
      (case l17 => k_is)
      (case c17 => k_is)
      (case k17 => k_is)
      (case b0 => k_is)
      (case b1 => k_is)
      (case b2 => k_is)
      (case b3 => k_is)
      (case ca_SpeakError => k_is)
      (case cb_SpeakError => k_is)
      (case cc_SpeakError => kernel_rfl)
      (case cx_SpeakError => kernel_rfl)
      (case ca_NoTable => k_is)
      (case cb_NoTable => k_is)
      (case cc_NoTable => kernel_rfl)
      (case cf_NoTable => k_is)
      (case cx_NoTable => kernel_rfl)
      (case cg_NoTable => k_is)
      (case cl_NoTable => k_is)
      (case co_NoTable => k_is)
      (case ck_NoTable => k_is)
      (case cs_NoTable_row => kernel_rfl)
      (case ca_NoLot => k_is)
      (case cb_NoLot => k_is)
      (case cc_NoLot => kernel_rfl)
      (case cx_NoLot => kernel_rfl)
      (case ca_Looks => k_is)
      (case pa_Looks => (first | k_is | kernel_rfl))
      (case pb_Looks => (first | k_is | kernel_rfl))
      (case pc_Looks => (first | k_is | kernel_rfl))
      (case pd_Looks => (first | k_is | kernel_rfl))
      (case pe_Looks => (first | k_is | kernel_rfl))
      (case pf_Looks => (first | k_is | kernel_rfl))
      (case pg_Looks => (first | k_is | kernel_rfl))
      (case ph_Looks => (first | k_is | kernel_rfl))
      (case qa_Looks => (first | k_is | kernel_rfl))
      (case qb_Looks => (first | k_is | kernel_rfl))
      (case qc_Looks => (first | k_is | kernel_rfl))
      (case qd_Looks => (first | k_is | kernel_rfl))
      (case qn_Looks_rows => (first | k_is | kernel_rfl))
      (case cl_Looks => k_is)
      (case co_Looks => k_is)
      (case ck_Looks => k_is)
      (case mf_Looks_endings => (first | k_is | kernel_rfl))
      (case ml_Looks_endings => k_is)
      (case mo_Looks_endings => k_is)
      (case mk_Looks_endings => k_is)
      (case mi_Looks_endings => (first | k_is | kernel_rfl))
      (case mf_Looks_let_by => (first | k_is | kernel_rfl))
      (case ml_Looks_let_by => k_is)
      (case mo_Looks_let_by => k_is)
      (case mk_Looks_let_by => k_is)
      (case mi_Looks_let_by => (first | k_is | kernel_rfl))
      (case mf_Looks_looked_at => (first | k_is | kernel_rfl))
      (case ml_Looks_looked_at => k_is)
      (case mo_Looks_looked_at => k_is)
      (case mk_Looks_looked_at => k_is)
      (case mi_Looks_looked_at => (first | k_is | kernel_rfl))
      (case z0 => k_is)
      (case z1 => k_is)
      (case z2 => k_is)
      (case z3 => k_is)
      (case z4 => k_is)
      (case z5 => k_is)
      (case z6 => k_is)
      (case z7 => k_is)
      (case z8 => k_is)
      (case z9 => k_is)
      (case z10 => k_is)
      (case z11 => k_is)
      (case z12 => k_is)
      (case r0 => first | exact rfl | exact ⟨_, rfl⟩)
      (case r1 => first | exact rfl | exact ⟨_, rfl⟩)
      (case r2 => first | exact rfl | exact ⟨_, rfl⟩)
      (case r3 => first | exact rfl | exact ⟨_, rfl⟩)
    obtain ⟨a, T⟩ := T
    have e0 := hmg.symm.trans T.m_law
    cases e0
    refine' ⟨a.d_law, ?b, fun base kb nb => My.ok_law T⟩
    exact T.bl
  case S => exact fun K H a ns hl hO hS => My.law_start hl hO hS
  case C => exact fun H s e s' z => z

