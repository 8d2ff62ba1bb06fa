import PyProof.Rows.All
import Wide.All
import OpenK.AllK
import Wide.FinOn
import Lean
import PyProof.EqAt
import PyProof.EqKinds
import PyProof.TupleCall
import PySem.Challenge.RW_fewspeak_k04_lines_refused
set_option Elab.async false
set_option linter.all false
set_option maxRecDepth 100000
/-! THE HAND LAYER, for ints, bools, texts, own classes, LISTS and tuples (index, slices, in, append, pop ..), calls, loops. Paste it whole ahead of your own text; what your proof does not reach may be deleted. -/
namespace L2
open PySem PySem.Spec PyProof.Rows

/-- a key: an int or a str -/
abbrev Key := Sum Int Str
def keyIs : Key → Value → Bool
  | .inl k, v => Value.isInt k v
  | .inr x, v => Value.isStrOf x v
def keyH (w : World) : Key → Int
  | .inl k => hashInt k
  | .inr x => hashStr w x
theorem keyIs_shape : ∀ {k : Key} {v : Value}, keyIs k v = true → (∃ i t, k = Sum.inl i ∧ v = Value.int i t) ∨ (∃ x t, k = Sum.inr x ∧ v = Value.str x t)
  | .inl i, v, h => by
    obtain ⟨t, e⟩ := Value.isInt_shape (k := i) (v := v) h
    exact .inl ⟨i, t, rfl, e⟩
  | .inr x, v, h => by
    obtain ⟨t, e⟩ := Value.isStrOf_shape (x := x) (v := v) h
    exact .inr ⟨x, t, rfl, e⟩
theorem key_ll (a b : Int) : decide ((Sum.inl a : Key) = Sum.inl b) = (a == b) := by
  by_cases e : a = b
  · subst e; simp
  · have h : ¬ (Sum.inl a : Key) = Sum.inl b := fun q => e (Sum.inl.inj q)
    rw [decide_eq_false h]
    exact (beq_eq_false_iff_ne.mpr e).symm
theorem key_rr (a b : Str) : decide ((Sum.inr a : Key) = Sum.inr b) = decide (a = b) := by
  by_cases e : a = b
  · subst e; simp
  · have h : ¬ (Sum.inr a : Key) = Sum.inr b := fun q => e (Sum.inr.inj q)
    rw [decide_eq_false h, decide_eq_false e]
theorem key_lr (a : Int) (b : Str) : decide ((Sum.inl a : Key) = Sum.inr b) = false := decide_eq_false (fun q => nomatch q)
theorem key_rl (a : Str) (b : Int) : decide ((Sum.inr a : Key) = Sum.inl b) = false := decide_eq_false (fun q => nomatch q)

def mixKind (prog : Program) (w : World) : PySem.KeyKind prog w Key where
  is := keyIs
  hash := keyH w
  inj := fun v a b ha hb => by
    rcases keyIs_shape ha with ⟨i, t, rfl, rfl⟩ | ⟨x, t, rfl, rfl⟩
    · rcases keyIs_shape hb with ⟨j, u, rfl, e⟩ | ⟨y, u, rfl, e⟩
      · injection e with e1 _; rw [e1]
      · exact nomatch e
    · rcases keyIs_shape hb with ⟨j, u, rfl, e⟩ | ⟨y, u, rfl, e⟩
      · exact nomatch e
      · injection e with e1 _; rw [e1]
  byValue := fun k v h => by
    rcases keyIs_shape h with ⟨i, t, rfl, rfl⟩ | ⟨x, t, rfl, rfl⟩ <;> rfl
  pyHash := fun hv h => by
    rcases keyIs_shape hv with ⟨i, t, rfl, rfl⟩ | ⟨x, t, rfl, rfl⟩
    · exact wpAny_pyHash_int h
    · exact wpAny_pyHash_str h
  eqBool := fun hu hv h => by
    rcases keyIs_shape hu with ⟨i, t, rfl, rfl⟩ | ⟨x, t, rfl, rfl⟩
    · rcases keyIs_shape hv with ⟨j, u, rfl, rfl⟩ | ⟨y, u, rfl, rfl⟩
      · rw [key_ll] at h; exact wpAny_eqBool_int h
      · rw [key_lr] at h; exact SeqAt.EqAt.int_str i t y u _ _ _ _ h
    · rcases keyIs_shape hv with ⟨j, u, rfl, rfl⟩ | ⟨y, u, rfl, rfl⟩
      · rw [key_rl] at h; exact SeqAt.EqAt.str_int x t j u _ _ _ _ h
      · rw [key_rr] at h; exact wpAny_eqBool_str h
  «strs» := fun k x t v h => by
    rcases keyIs_shape h with ⟨i, u, rfl, e⟩ | ⟨y, u, rfl, e⟩
    · exact nomatch e
    · injection e with e1 _
      subst e1
      cases v <;> rfl

end L2

namespace L2
open PySem PySem.Spec PyProof.Rows

/-- a value, without the heap -/
inductive V where
  | non | bl (b : Bool) | int (i : Int) | str (x : Str) | byt (b : Array UInt8) | flt (b : UInt64) | ref (a : Addr) | ty (n : String)
  deriving DecidableEq

def RelV : V → Value → Prop
  | .non, u => u = Value.none
  | .bl b, u => u = Value.bool b
  | .int i, u => ∃ t, u = Value.int i t
  | .str x, u => ∃ t, u = Value.str x t
  | .byt b, u => ∃ t, u = Value.bytes b t
  | .flt b, u => ∃ t, u = Value.float b t
  | .ref a, u => u = Value.ref a
  | .ty n, u => u = Value.type n

abbrev Vals : List V → List Value → Prop := Paired RelV
theorem Vals.length {xs : List V} {us : List Value} (r : Vals xs us) : xs.length = us.length := Paired.length r
theorem Vals.get : ∀ {xs : List V} {us : List Value} {i : Nat} {x : V}, Vals xs us → xs[i]? = some x → ∃ u, us[i]? = some u ∧ RelV x u
  | _, _, _, _, .nil, e => by simp at e
  | _, _, 0, _, .cons r _, e => by simp at e; subst e; exact ⟨_, rfl, r⟩
  | _, _, i + 1, x, .cons _ t, e => by
    obtain ⟨u, h1, h2⟩ := Vals.get (i := i) (x := x) t (by simpa using e)
    exact ⟨u, by simpa using h1, h2⟩
theorem Vals.set {x : V} {u : Value} (r : RelV x u) : ∀ {xs : List V} {us : List Value} (i : Nat), Vals xs us → Vals (xs.set i x) (us.set i u)
  | _, _, _, .nil => .nil
  | _, _, 0, .cons _ t => .cons r t
  | _, _, i + 1, .cons q t => .cons q (Vals.set r i t)
theorem Vals.append : ∀ {xs ys : List V} {us ws : List Value}, Vals xs us → Vals ys ws → Vals (xs ++ ys) (us ++ ws)
  | _, _, _, _, .nil, s => s
  | _, _, _, _, .cons r t, s => .cons r (Vals.append t s)
theorem Vals.take : ∀ {xs : List V} {us : List Value} (n : Nat), Vals xs us → Vals (xs.take n) (us.take n)
  | _, _, 0, _ => .nil
  | _, _, _ + 1, .nil => .nil
  | _, _, n + 1, .cons r t => .cons r (Vals.take n t)
theorem Vals.drop : ∀ {xs : List V} {us : List Value} (n : Nat), Vals xs us → Vals (xs.drop n) (us.drop n)
  | _, _, 0, r => r
  | _, _, _ + 1, .nil => .nil
  | _, _, n + 1, .cons _ t => Vals.drop n t
theorem Vals.none_of : ∀ {xs : List V} {us : List Value} {i : Nat}, Vals xs us → xs[i]? = none → us[i]? = none := fun {xs us i} r e => by
  have h1 := r.length
  have h2 : xs.length ≤ i := List.getElem?_eq_none_iff.mp e
  exact List.getElem?_eq_none_iff.mpr (by omega)

def RelO : Option V → Option Value → Prop
  | some v, some u => RelV v u
  | none, none => True
  | _, _ => False
def KV {κ : Type} : List (κ × V) → List (κ × Value) → Prop := Paired fun (p : κ × V) (q : κ × Value) => p.1 = q.1 ∧ RelV p.2 q.2

/-- a key of a dict (00_mix): an int or a text -/
def kV : Key → V
  | .inl i => .int i
  | .inr x => .str x

/-- what stands at a tracked address -/
inductive HO where
  /-- a list -/
  | lst (xs : List V)
  /-- a tuple (never changes) -/
  | tup (xs : List V)
  /-- a dict whose keys are ints and texts; one whose keys are tuples of ints and texts (the empty one is both) -/
  | dK (kvs : List (Key × V)) | dT (kvs : List (List Key × V))
  /-- a set of ints: its members, its size -/
  | set (S : Int → Bool) (n : Nat)
  /-- an instance of the class at C, its dict at dx, its attributes -/
  | ins (C dx : Addr) (fs : List (Str × V))
  /-- the dict of the instance at x -/
  | own (x : Addr)
  /-- the dict of an exception -/
  | xd (fs : List (Str × V))
  /-- a bound method, f of x -/
  | met (f x : Addr)
  /-- a range object lo, lo + 1, .. below hi -/
  | rng (lo hi : Int)
  /-- a thing that is known to the object (the script; a dict while a loop walks it): read, never written while it is so -/
  | frz (o : Obj) (u : HO)
  /-- a code object's table -/
  | tbl (ps : Array Value)
  /-- any other thing, by what is true of its one object (a def of one's own: SetO a S n := HO.ext fun h => ..) -/
  | ext (φ : Heap → Prop)

abbrev Hp := Addr → Option HO
def upd (H : Hp) (a : Addr) (o : HO) : Hp := fun b => if b = a then some o else H b
theorem upd_same {H : Hp} {a : Addr} {o : HO} : upd H a o a = some o := by unfold upd; rw [if_pos rfl]
theorem upd_ne {H : Hp} {a b : Addr} {o : HO} (h : b ≠ a) : upd H a o b = H b := by unfold upd; rw [if_neg h]
theorem upd_upd {H : Hp} {a : Addr} {o u : HO} : upd (upd H a o) a u = upd H a u := by
  funext b; unfold upd; split <;> rfl
/-- two objects of different content stand apart -/
theorem ne_of {H : Hp} {a b : Addr} {o u : HO} (h : H a = some o) (h' : H b = some u) (d : o ≠ u) : a ≠ b := by
  intro e; subst e; rw [h] at h'; exact d (Option.some.inj h')
theorem ne_of_none {H : Hp} {a b : Addr} {o : HO} (h : H a = some o) (h' : H b = none) : a ≠ b := by
  intro e; subst e; rw [h] at h'; cases h'

section
variable (P : Program) (w : World)
def ObjOk (H : Hp) (h : Heap) (a : Addr) : HO → Prop
  | .lst xs => xs.length ≤ sizeLine ∧ ∃ (its : List Value) (n : Nat), Vals xs its ∧ h.get? a = some { cls := .type "list", data := .seq its.toArray n }
  | .tup xs => xs.length ≤ sizeLine ∧ ∃ its : List Value, Vals xs its ∧ IsTup h a its.toArray
  | .dK kvs => kvs.length ≤ sizeLine ∧ (a == sysModules) = false ∧ ∃ vs, KV kvs vs ∧ h.DictOf (mixKind P w) a vs
  | .dT kvs => kvs.length ≤ sizeLine ∧ (a == sysModules) = false ∧ ∃ xs : List (List Key × Addr × Value),
      Paired (fun (p : List Key × V) (q : List Key × Addr × Value) => p.1 = q.1 ∧ H q.2.1 = some (.tup (p.1.map kV)) ∧ RelV p.2 q.2.2) kvs xs ∧
      ∃ o es ep, h.get? a = some o ∧ o.ExactDict ∧ o.data = .dict es ep ∧ es.toList = xs.map (entryOfKey (tupleKind (mixKind P w))) ∧ (xs.map (·.1)).Nodup
  | .set S n => h.SetOf (intKind P w) a S n
  | .ins C dx fs => H dx = some (.own a) ∧ fs.length ≤ 1000 ∧ dx ≠ a ∧ h.get? a = some (PySem.W.instObj C dx) ∧
      ∃ mA, h.Ns1 dx mA ∧ (∀ f, RelO (fs.lookup f) (mA f)) ∧ PySem.Within mA (fs.map (·.1))
  | .own _ => ∃ o, h.get? a = some o
  | .xd fs => ∃ mA, h.Ns1 a mA ∧ ∀ f, RelO (fs.lookup f) (mA f)
  | .rng lo hi => ∃ t u v, h.get? a = some { cls := .type "range", data := .fields #[.int lo t, .int hi u, .int 1 v] }
  | .frz o u => h.get? a = some o ∧ ObjOk H h a u
  | .tbl ps => h.get? a = some { cls := .none, data := .fields ps }
  | .met f x => h.get? a = some (PySem.W.methodObj (.ref f) (.ref x))
  | .ext φ => φ h ∧ (∃ o, h.get? a = some o) ∧ ∀ h1 h2 : Heap, φ h1 → (∀ o, h1.get? a = some o → h2.get? a = some o) → φ h2
/-- the abstract heap is held -/
def HOk (H : Hp) (h : Heap) : Prop := ∀ a o, H a = some o → ObjOk P w H h a o
end

section
variable {P : Program} {w : World} {H H' : Hp} {h h' : Heap} {a : Addr} {o : HO}
theorem ObjOk.lt (x : ObjOk P w H h a o) : a < h.objs.size := by
  cases o with
  | lst xs => obtain ⟨_, _, _, _, e⟩ := x; exact Heap.lt_size e
  | tup xs => obtain ⟨_, _, _, p⟩ := x; exact p.lt
  | dK kvs => obtain ⟨_, _, _, _, o, _, _, e, _⟩ := x; exact Heap.lt_size e
  | dT kvs => obtain ⟨_, _, _, _, o, _, _, e, _⟩ := x; exact Heap.lt_size e
  | set S n => obtain ⟨o, _, _, _, e, _⟩ := x; exact Heap.lt_size e
  | ins C dx fs => obtain ⟨_, _, _, e, _⟩ := x; exact Heap.lt_size e
  | own y => obtain ⟨_, e⟩ := x; exact Heap.lt_size e
  | xd fs => obtain ⟨_, ⟨_, _, _, e, _⟩, _⟩ := x; exact Heap.lt_size e
  | rng lo hi => obtain ⟨_, _, _, e⟩ := x; exact Heap.lt_size e
  | frz ob u => obtain ⟨e, _⟩ := x; exact Heap.lt_size e
  | tbl ps => exact Heap.lt_size (show h.get? a = some _ from x)
  | met f y => exact Heap.lt_size (show h.get? a = some _ from x)
  | ext φ => obtain ⟨_, ⟨_, e⟩, _⟩ := x; exact Heap.lt_size e
theorem Paired.mapP {α β : Type} {F G : α → β → Prop} : ∀ {l₁ : List α} {l₂ : List β}, Paired F l₁ l₂ → (∀ a b, F a b → G a b) → Paired G l₁ l₂
  | _, _, .nil, _ => .nil
  | _, _, .cons r t, f => .cons (f _ _ r) (Paired.mapP t f)
/-- what an object's description leans on: its own object, its own dict, the tuples -/
theorem ObjOk.stay (x : ObjOk P w H h a o) (k : ∀ b u, (b = a ∨ H b = some (.own a)) → h.get? b = some u → h'.get? b = some u)
    (ho : ∀ b, H b = some (.own a) → H' b = some (.own a)) (ht : ∀ b xs, H b = some (.tup xs) → H' b = some (.tup xs)) : ObjOk P w H' h' a o := by
  induction o with
  | lst xs => obtain ⟨z, its, n, r, e⟩ := x; exact ⟨z, its, n, r, k _ _ (.inl rfl) e⟩
  | tup xs => obtain ⟨z, its, r, ob, e, c⟩ := x; exact ⟨z, its, r, ob, k _ _ (.inl rfl) e, c⟩
  | dK kvs => obtain ⟨z, y, vs, r, ob, es, ep, e, c⟩ := x; exact ⟨z, y, vs, r, ob, es, ep, k _ _ (.inl rfl) e, c⟩
  | dT kvs =>
    obtain ⟨z, y, xs, r, ob, es, ep, e, c⟩ := x
    exact ⟨z, y, xs, Paired.mapP r fun p q z => ⟨z.1, ht _ _ z.2.1, z.2.2⟩, ob, es, ep, k _ _ (.inl rfl) e, c⟩
  | set S n => obtain ⟨ob, es, ep, t, e, c⟩ := x; exact ⟨ob, es, ep, t, k _ _ (.inl rfl) e, c⟩
  | ins C dx fs =>
    obtain ⟨d, z, ne, e, mA, ⟨od, es, ep, e2, c⟩, r⟩ := x
    exact ⟨ho _ d, z, ne, k _ _ (.inl rfl) e, mA, ⟨od, es, ep, k _ _ (.inr d) e2, c⟩, r⟩
  | own y => obtain ⟨ob, e⟩ := x; exact ⟨ob, k _ _ (.inl rfl) e⟩
  | xd fs => obtain ⟨mA, ⟨od, es, ep, e, c⟩, r⟩ := x; exact ⟨mA, ⟨od, es, ep, k _ _ (.inl rfl) e, c⟩, r⟩
  | rng lo hi => obtain ⟨t, u, v, e⟩ := x; exact ⟨t, u, v, k _ _ (.inl rfl) e⟩
  | frz ob u ih => obtain ⟨e, q⟩ := x; exact ⟨k _ _ (.inl rfl) e, ih q⟩
  | tbl ps =>
    have e : h.get? a = some { cls := .none, data := .fields ps } := x
    show h'.get? a = some { cls := .none, data := .fields ps }
    exact k a _ (.inl rfl) e
  | met f y =>
    have e : h.get? a = some (PySem.W.methodObj (.ref f) (.ref y)) := x
    show h'.get? a = some (PySem.W.methodObj (.ref f) (.ref y))
    exact k a _ (.inl rfl) e
  | ext φ => obtain ⟨p, ⟨o, e⟩, st⟩ := x; exact ⟨st _ _ p fun o q => k _ _ (.inl rfl) q, ⟨o, k _ _ (.inl rfl) e⟩, st⟩
theorem HOk.lt (x : HOk P w H h) (e : H a = some o) : a < h.objs.size := (x a o e).lt
theorem HOk.fresh (x : HOk P w H h) (e : h.objs.size ≤ a) : H a = none := by
  cases q : H a with
  | none => rfl
  | some u => exact absurd (Nat.lt_of_lt_of_le (x.lt q) e) (Nat.lt_irrefl _)
/-- every object of the heap is kept -/
theorem HOk.kept (x : HOk P w H h) (k : ∀ b u, h.get? b = some u → h'.get? b = some u) : HOk P w H h' := fun a o e =>
  (x a o e).stay (fun b u _ q => k b u q) (fun _ q => q) fun _ _ q => q
/-- a new object is laid and tracked -/
theorem HOk.laid (x : HOk P w H h) (k : ∀ b u, h.get? b = some u → h'.get? b = some u) (hp : h.objs.size ≤ a) (new : ObjOk P w (upd H a o) h' a o) : HOk P w (upd H a o) h' := fun b u e => by
  have hn := x.fresh hp
  by_cases hb : b = a
  · subst hb; rw [upd_same] at e; cases e; exact new
  · rw [upd_ne hb] at e
    exact (x b u e).stay (fun c v _ q => k c v q) (fun c q => by rw [upd_ne (ne_of_none q hn)]; exact q) fun c xs q => by rw [upd_ne (ne_of_none q hn)]; exact q
end

/-- what may be read as u: it is u, or a known u -/
def Rd (H : Hp) (a : Addr) (u : HO) : Prop := H a = some u ∨ ∃ o, H a = some (.frz o u)
theorem Rd.of {H : Hp} {a : Addr} {u : HO} (h : H a = some u) : Rd H a u := .inl h
theorem Rd.ok {P : Program} {w : World} {H : Hp} {h : Heap} {a : Addr} {u : HO} (r : Rd H a u) (x : HOk P w H h) : ObjOk P w H h a u := by
  rcases r with r | ⟨o, r⟩
  · exact x a u r
  · obtain ⟨_, q⟩ := x a _ r
    exact q
/-- what may be written -/
def Mut : Option HO → Prop
  | some (.lst _) => True
  | some (.dK _) => True
  | some (.dT _) => True
  | some (.set _ _) => True
  | some (.ins _ _ _) => True
  | some (.ext _) => True
  | _ => False
section
variable {P : Program} {w : World} {H : Hp} {h h' : Heap} {x e : Addr} {o' : HO}
/-- the object at e is changed: x itself, or the dict of the instance x -/
theorem HOk.write (ok : HOk P w H h) (mu : Mut (H x)) (he : e = x ∨ H e = some (.own x)) (k : ∀ b u, b ≠ e → h.get? b = some u → h'.get? b = some u) (heo : ∃ u, h'.get? e = some u)
    (new : ObjOk P w (upd H x o') h' x o') : HOk P w (upd H x o') h' := fun b u q => by
  have nown : ∀ c y, H c = some (.own y) → c ≠ x := fun c y r z => by subst z; rw [r] at mu; exact mu
  have ntup : ∀ c xs, H c = some (.tup xs) → c ≠ x := fun c xs r z => by subst z; rw [r] at mu; exact mu
  by_cases hb : b = x
  · subst hb; rw [upd_same] at q; cases q; exact new
  · rw [upd_ne hb] at q
    by_cases hbe : b = e
    · have q' : H b = some (.own x) := by
        rcases he with z | z
        · exact absurd (hbe.trans z) hb
        · rw [hbe]; exact z
      rw [q] at q'; cases q'
      obtain ⟨v, hv⟩ := heo
      exact ⟨v, by rw [hbe]; exact hv⟩
    · refine (ok b u q).stay (fun c v hc r => k c v ?_ r) (fun c r => by rw [upd_ne (nown c b r)]; exact r) fun c xs r => by rw [upd_ne (ntup c xs r)]; exact r
      rcases hc with rfl | hc
      · exact hbe
      · rintro rfl
        rcases he with z | z
        · exact nown c b hc z
        · rw [hc] at z; cases z; exact hb rfl
end

/-! ### kept unless tracked; of the frames at fs (the callers') the slots may change (an exception that passes writes there); of the records at ex (iterators) nothing is said -/
structure Un (fs ex : List Addr) (H H' : Hp) (h h' : Heap) : Prop where
  keep : ∀ b o, h.get? b = some o → H b = none → b ∉ fs → b ∉ ex → h'.get? b = some o
  slot : ∀ b o, h.get? b = some o → H b = none → b ∈ fs → b ∉ ex → ∃ sl, h'.get? b = some { o with slots := sl }
  free : ∀ b o, h.get? b = some o → H b = none → b ∉ ex → H' b = none
  there : ∀ b o, h.get? b = some o → b ∉ ex → ∃ o', h'.get? b = some o'
  tups : ∀ b xs, H b = some (.tup xs) → H' b = some (.tup xs)
  frzs : ∀ b o u, H b = some (.frz o u) → H' b = some (.frz o u)
  tbls : ∀ b ps, H b = some (.tbl ps) → ∃ more, H' b = some (.tbl (ps ++ more))
section
variable {fs fs' ex ex' : List Addr} {H H1 H2 : Hp} {h h1 h2 h' : Heap} {a x e : Addr} {o : HO}
theorem Un.any (u : Un fs ex H H1 h h1) {b : Addr} {ob : Obj} (q : h.get? b = some ob) (n : H b = none) (hx : b ∉ ex) : ∃ sl, h1.get? b = some { ob with slots := sl } := by
  by_cases hb : b ∈ fs
  · exact u.slot b ob q n hb hx
  · exact ⟨ob.slots, u.keep b ob q n hb hx⟩
theorem Un.trans (a : Un fs ex H H1 h h1) (b : Un fs ex H1 H2 h1 h2) : Un fs ex H H2 h h2 where
  keep := fun c ob q n hc hx => b.keep c ob (a.keep c ob q n hc hx) (a.free c ob q n hx) hc hx
  slot := fun c ob q n hc hx => by
    obtain ⟨sl, e1⟩ := a.slot c ob q n hc hx
    obtain ⟨sl', e2⟩ := b.slot c _ e1 (a.free c ob q n hx) hc hx
    exact ⟨sl', e2⟩
  free := fun c ob q n hx => by
    obtain ⟨o', e1⟩ := a.there c ob q hx
    exact b.free c o' e1 (a.free c ob q n hx) hx
  there := fun c ob q hx => by
    obtain ⟨o', e1⟩ := a.there c ob q hx
    exact b.there c o' e1 hx
  tups := fun c xs q => b.tups c xs (a.tups c xs q)
  frzs := fun c ob xs q => b.frzs c ob xs (a.frzs c ob xs q)
  tbls := fun c ps q => by
    obtain ⟨m1, e1⟩ := a.tbls c ps q
    obtain ⟨m2, e2⟩ := b.tbls c _ e1
    exact ⟨m1 ++ m2, by rw [e2, Array.append_assoc]⟩
theorem Un.kept (k : ∀ b u, h.get? b = some u → h'.get? b = some u) : Un fs ex H H h h' :=
  ⟨fun b ob q _ _ _ => k b ob q, fun b ob q _ _ _ => ⟨ob.slots, k b ob q⟩, fun _ _ _ n _ => n, fun b ob q _ => ⟨ob, k b ob q⟩, fun _ _ q => q, fun _ _ _ q => q, fun _ ps q => ⟨#[], by rw [q]; simp⟩⟩
theorem Un.refl : Un fs ex H H h h := Un.kept fun _ _ q => q
theorem Un.laid (k : ∀ b u, h.get? b = some u → h'.get? b = some u) (hp : h.objs.size ≤ a) (hn : H a = none) : Un fs ex H (upd H a o) h h' where
  keep := fun b u q _ _ _ => k b u q
  slot := fun b u q _ _ _ => ⟨u.slots, k b u q⟩
  free := fun b u q n _ => by rw [upd_ne (Nat.ne_of_lt (Nat.lt_of_lt_of_le (Heap.lt_size q) hp))]; exact n
  there := fun b u q _ => ⟨u, k b u q⟩
  tups := fun b xs q => by rw [upd_ne (ne_of_none q hn)]; exact q
  frzs := fun b u xs q => by rw [upd_ne (ne_of_none q hn)]; exact q
  tbls := fun b ps q => ⟨#[], by rw [upd_ne (ne_of_none q hn), q]; simp⟩
theorem Un.write (mu : Mut (H x)) (he : e = x ∨ H e = some (.own x)) (k : ∀ b u, b ≠ e → h.get? b = some u → h'.get? b = some u) (heo : ∃ u, h'.get? e = some u) : Un fs ex H (upd H x o) h h' := by
  have hx : ∀ b, H b = none → b ≠ x := fun b n z => by subst z; rw [n] at mu; exact mu
  have hb : ∀ b, H b = none → b ≠ e := fun b n z => by
    subst z
    rcases he with r | r
    · exact hx b n r
    · rw [n] at r; cases r
  have hm : ∀ b u, H b = some u → ¬ Mut (some u) → b ≠ x := fun b u q nm z => by subst z; rw [q] at mu; exact nm mu
  refine ⟨fun b u q n _ _ => k b u (hb b n) q, fun b u q n _ _ => ⟨u.slots, k b u (hb b n) q⟩, fun b u q n _ => by rw [upd_ne (hx b n)]; exact n, fun b u q _ => ?_,
    fun b xs q => by rw [upd_ne (hm b _ q fun z => z)]; exact q, fun b u xs q => by rw [upd_ne (hm b _ q fun z => z)]; exact q, fun b ps q => ⟨#[], by rw [upd_ne (hm b _ q fun z => z), q]; simp⟩⟩
  by_cases hbe : b = e
  · subst hbe; exact heo
  · exact ⟨u, k b u hbe q⟩
theorem Un.mono (u : Un fs ex H H1 h h1) (hs : ∀ b ∈ fs, b ∈ fs') (hx : ∀ b ∈ ex, b ∈ ex') : Un fs' ex' H H1 h h1 :=
  ⟨fun b ob q n hb he => u.keep b ob q n (fun z => hb (hs b z)) fun z => he (hx b z), fun _ _ q n _ he => u.any q n fun z => he (hx _ z), fun b ob q n he => u.free b ob q n fun z => he (hx b z), fun b ob q he => u.there b ob q fun z => he (hx b z), u.tups, u.frzs, u.tbls⟩
end

/-! ### the heap without what is tracked -/
def trk (h : Heap) (H : Hp) : List Addr := (List.range h.objs.size).filter fun a => (H a).isSome
def hidT (h : Heap) (H : Hp) : Heap := PySem.W.hideAll h (trk h H)
theorem hidT_size (h : Heap) (H : Hp) : (hidT h H).objs.size = h.objs.size := PySem.W.hideAll_size _ _
theorem hidT_get {h : Heap} {H : Hp} {b : Addr} {o : Obj} (e : h.get? b = some o) (n : H b = none) : (hidT h H).get? b = some o :=
  PySem.W.hideAll_get _ e fun hm => by
    have q : (H b).isSome = true := (List.mem_filter.mp hm).2
    rw [n] at q; simp at q
theorem of_hidT {h : Heap} {H : Hp} {b : Addr} {o : Obj} (e : (hidT h H).get? b = some o) : h.get? b = some o ∧ H b = none := by
  have e' : h.get? b = some o := PySem.W.of_hideAll (trk h H) e
  refine ⟨e', ?_⟩
  cases q : H b with
  | none => rfl
  | some x =>
    have hm : b ∈ trk h H := List.mem_filter.mpr ⟨List.mem_range.mpr (Heap.lt_size e'), by simp [q]⟩
    have z : (hidT h H).get? b = none := PySem.W.hideAll_none (trk h H) hm
    rw [z] at e; cases e

/-! ### OpenK's ledger, filled with every new object but one -/
def allNews (g h : Heap) (L : Addr) : List (Addr × Obj) := (List.range h.objs.size).filterMap fun a => if a = L ∨ (g.get? a).isSome = true then none else (h.get? a).map fun o => (a, o)
def rest (g h : Heap) (L d : Addr) : List (Addr × Obj) := (allNews g h L).filter fun p => decide (p.1 ≠ d)
end L2

namespace L2
open PySem PySem.Spec PyProof.Rows

/-- the module's facts, over the base: the heap at the law's entry without what is tracked there -/
structure Mod (K : PySem.W.Frag) (mg : Str → Option Value) (base : Heap) : Prop where
  kin : K.In base
  glob : base.Ns mainGlobals mg
  blt : ∃ mb, base.Ns builtinsNs mb ∧ ∀ x : Str, x ≠ "__name__" → mb x = bootBuiltins x
  nolimit : base.NoLimit

/-- the context: a def's body (or a comprehension's block) running. base: fixed through the whole law; s₀, H₀: the entry; outer: the frames whose slots others may change (a def's callers); stack: all frames that run;
   ex: iterators that were made ahead of the entry and are walked here (a comprehension's); fn: the names whose cells were made at the entry (a def: all; a comprehension's block: its own); calm: not within an except suite; pn: pins that every state bears; xe: what is wanted of an exception that leaves the code -/
structure Cx where
  prog : Program
  w : World
  K : PySem.W.Frag
  mg : Str → Option Value
  base : Heap
  A : Around
  N : List Str
  s₀ : Shared
  H₀ : Hp
  env : Env
  outer : List Env
  stack : List Env
  ex : List Addr
  fn : Str → Bool
  calm : Bool
  pn : List (Addr × Obj)
  xe : Value → Shared → Prop
/-- the callers' frames -/
def frs (l : List Env) : List Addr := l.filterMap (·.frame)
abbrev Cx.fs (X : Cx) : List Addr := frs X.outer

def Vis (sc : Scope) (x : Str) : Prop := sc.names.lookup x = some .local ∨ sc.names.lookup x = some .cell ∨ sc.names.lookup x = some .free
def Loc (sc : Scope) (x : Str) : Prop := sc.names.lookup x = some .local ∨ sc.names.lookup x = some .cell
def Look (env : Env) (h : Heap) (m : Str → Option Value) (x : Str) (u : Value) : Prop :=
  (env.kindOf x = some .local ∧ m x = some u) ∨ ((env.kindOf x = some .cell ∨ env.kindOf x = some .free) ∧ ∃ c, env.cells.lookup x = some c ∧ h.IsCell c (some u))

structure Cx.Ok (X : Cx) : Prop where
  mod : Mod X.K X.mg X.base
  kind : X.env.scope.kind = .function
  glob : X.env.globals = mainGlobals
  blt : X.env.builtins = builtinsNs
  above : X.s₀.heap.objs.size ≤ X.env.locals
  inj : ∀ x y c, X.env.cells.lookup x = some c → X.env.cells.lookup y = some c → x = y
  has : ∀ x, (X.env.kindOf x = some .cell ∨ X.env.kindOf x = some .free) → ∃ c, X.env.cells.lookup x = some c
  cab : ∀ x c, X.fn x = true → X.env.cells.lookup x = some c → X.s₀.heap.objs.size ≤ c
  hd : X.calm = true → X.A.handled = none
  frames : X.A.frames = some X.stack
  stk : X.stack = X.outer ∨ (X.stack = X.env :: X.outer ∧ X.env.frame = some X.env.locals)
  exf : ∀ b ∈ X.ex, b ≠ X.env.locals ∧ ∀ x c, X.env.cells.lookup x = some c → c ≠ b
  bs : ∀ b o, X.base.get? b = some o → X.s₀.heap.get? b = some o ∧ X.H₀ b = none
  bsz : X.base.objs.size ≤ X.s₀.heap.objs.size
  noex : ∀ b o, X.base.get? b = some o → b ∉ X.ex
  exfs : ∀ b ∈ X.ex, b ∉ X.fs
  funs : X.s₀.heap.FunFrames X.base X.outer
  frf : ∀ b ∈ X.fs, X.H₀ b = none

structure Inv (X : Cx) (pins : List (Addr × Obj)) (σ : List (Option V)) (H : Hp) (s : Shared) : Prop where
  ok : X.Ok
  os : s.os = X.s₀.os
  bare : AllBare s.gens
  base : Un X.fs X.ex X.H₀ H X.s₀.heap s.heap
  loc : ∃ m, s.heap.Ns X.env.locals m ∧ ∀ (i : Nat) (x : Str) (v : V), X.N[i]? = some x → σ[i]? = some (some v) → Vis X.env.scope x → ∃ u, RelV v u ∧ Look X.env s.heap m x u
  cell : ∀ x c, X.env.cells.lookup x = some c → ∃ v, s.heap.IsCell c v
  free : H X.env.locals = none
  freeC : ∀ x c, X.env.cells.lookup x = some c → H c = none
  pin : ∀ p ∈ X.pn ++ pins, s.heap.get? p.1 = some p.2 ∧ H p.1 = none ∧ p.1 ≠ X.env.locals ∧ p.1 ∉ X.fs ∧ ∀ v, p.2.data ≠ .cell v
  hok : HOk X.prog X.w H s.heap
  len : σ.length = X.N.length

section
variable {X : Cx} {pins : List (Addr × Obj)} {σ : List (Option V)} {H H' : Hp} {s : Shared} {h' : Heap}

theorem Cx.Ok.nofr (ok : X.Ok) {b : Addr} {o : Obj} (e : X.base.get? b = some o) : b ∉ X.fs := fun hb => by
  have := (ok.funs.mem hb).1
  rw [e] at this; cases this
theorem Inv.bs (I : Inv X pins σ H s) : ∀ b o, X.base.get? b = some o → s.heap.get? b = some o ∧ H b = none := fun b o e =>
  ⟨I.base.keep b o (I.ok.bs b o e).1 (I.ok.bs b o e).2 (I.ok.nofr e) (I.ok.noex b o e), I.base.free b o (I.ok.bs b o e).1 (I.ok.bs b o e).2 (I.ok.noex b o e)⟩
theorem Inv.bk (I : Inv X pins σ H s) : ∀ b o, X.base.get? b = some o → s.heap.get? b = some o := fun b o e => (I.bs b o e).1
theorem Inv.mod (I : Inv X pins σ H s) : Mod X.K X.mg X.base := I.ok.mod
theorem Inv.kIn (I : Inv X pins σ H s) : X.K.In s.heap := I.ok.mod.kin.keeps I.bk
theorem Inv.nolimit (I : Inv X pins σ H s) : s.heap.NoLimit := I.ok.mod.nolimit.keeps I.bk
/-- the frame over the base: for OpenK's rules (K.In X.base is I.mod.kin) -/
theorem Inv.fr (I : Inv X pins σ H s) : ∃ m, Fr X.base X.env.locals s.heap m :=
  let ⟨m, hn, _⟩ := I.loc
  ⟨m, hn, I.bk, Nat.le_trans I.ok.bsz I.ok.above⟩
theorem Inv.lt (I : Inv X pins σ H s) : X.env.locals < s.heap.objs.size := let ⟨_, hn, _⟩ := I.loc; hn.lt
theorem Inv.sz (I : Inv X pins σ H s) : X.s₀.heap.objs.size ≤ s.heap.objs.size := Nat.le_trans I.ok.above (Nat.le_of_lt I.lt)
theorem Inv.nofs (I : Inv X pins σ H s) {a : Addr} (h : s.heap.objs.size ≤ a) : a ∉ X.fs := fun hb => by
  obtain ⟨_, o, ho, _⟩ := I.ok.funs.mem hb
  exact absurd (Nat.lt_of_lt_of_le (Heap.lt_size ho) (Nat.le_trans I.sz h)) (Nat.lt_irrefl _)
theorem Inv.cne (I : Inv X pins σ H s) : ∀ x c, X.env.cells.lookup x = some c → c ≠ X.env.locals := fun x c e z => by
  obtain ⟨v, o, ho, hd⟩ := I.cell x c e
  obtain ⟨m, ⟨o', es, ep, ho', hd', _⟩, _⟩ := I.loc
  rw [z, ho'] at ho; cases ho; rw [hd'] at hd; cases hd
theorem Inv.funs (I : Inv X pins σ H s) : s.heap.FunFrames X.base X.outer := by
  have all : ∀ (l : List Env), (∀ b ∈ frs l, b ∈ X.fs) → X.s₀.heap.FunFrames X.base l → s.heap.FunFrames X.base l := by
    intro l
    induction l with
    | nil => intro _ _; trivial
    | cons env r ih =>
      intro hs hl
      obtain ⟨hk, ⟨L, o, hf, hn, ho, hd⟩, hr⟩ := hl
      have hL : L ∈ X.fs := hs L (by unfold frs; rw [List.filterMap_cons, hf]; exact List.mem_cons_self)
      obtain ⟨sl, e⟩ := I.base.slot L o ho (I.ok.frf L hL) hL fun z => I.ok.exfs L z hL
      exact ⟨hk, ⟨L, _, hf, hn, e, hd⟩, ih (fun b hb => hs b (by unfold frs; rw [List.filterMap_cons, hf]; exact List.mem_cons_of_mem _ hb)) hr⟩
  exact all X.outer (fun _ hb => hb) I.ok.funs

/-- the frames that run, for a call -/
theorem Inv.stack (I : Inv X pins σ H s) : s.heap.FunFrames X.base X.stack := by
  rcases I.ok.stk with e | ⟨e, hf⟩
  · rw [e]; exact I.funs
  · rw [e]
    obtain ⟨m, hn, _⟩ := I.loc
    refine .cons (by rw [I.ok.kind]; decide) hf hn ?_ I.funs
    exact Heap.get?_none_of_le (Nat.le_trans I.ok.bsz I.ok.above)
theorem Inv.stkSub (I : Inv X pins σ H s) : ∀ b ∈ frs X.stack, b ∈ X.env.locals :: X.fs := fun b hb => by
  rcases I.ok.stk with e | ⟨e, hf⟩
  · rw [e] at hb; exact List.mem_cons_of_mem _ hb
  · rw [e] at hb
    unfold frs at hb
    rw [List.filterMap_cons, hf] at hb
    exact hb
theorem Inv.stkFree (I : Inv X pins σ H s) : ∀ b ∈ frs X.stack, H b = none := fun b hb => by
  rcases List.mem_cons.mp (I.stkSub b hb) with e | hb
  · rw [e]; exact I.free
  · obtain ⟨_, o, ho, _⟩ := I.ok.funs.mem hb
    exact I.base.free b o ho (I.ok.frf b hb) fun z => I.ok.exfs b z hb

/-- THE STEP: the untracked objects but the frame and the records at ch are kept (the callers' frames up to slots), the frame's map is kept, the new abstract heap is held -/
theorem Inv.step {g' : Array GenState} {t' : Nat} {d' : Drawn} {ch : List Addr} (I : Inv X pins σ H s)
    (hch : ∀ b ∈ ch, (b ∈ X.ex ∨ X.s₀.heap.objs.size ≤ b) ∧ b ≠ X.env.locals ∧ (∀ x c, X.env.cells.lookup x = some c → c ≠ b) ∧ ∀ p ∈ X.pn ++ pins, p.1 ≠ b)
    (keep : ∀ b o, b ≠ X.env.locals → b ∉ X.fs → b ∉ ch → s.heap.get? b = some o → H b = none → h'.get? b = some o)
    (slot : ∀ b o, b ≠ X.env.locals → b ∈ X.fs → b ∉ ch → s.heap.get? b = some o → H b = none → ∃ sl, h'.get? b = some { o with slots := sl }) (free : ∀ b o, b ∉ ch → s.heap.get? b = some o → H b = none → H' b = none)
    (there : ∀ b o, b ∉ ch → s.heap.get? b = some o → ∃ o', h'.get? b = some o')
    (tups : ∀ b xs, H b = some (.tup xs) → H' b = some (.tup xs)) (frzs : ∀ b o u, H b = some (.frz o u) → H' b = some (.frz o u)) (tbls : ∀ b ps, H b = some (.tbl ps) → ∃ more, H' b = some (.tbl (ps ++ more)))
    (ns : ∀ m, s.heap.Ns X.env.locals m → h'.Ns X.env.locals m) (hok : HOk X.prog X.w H' h') (hg : AllBare g') :
    Inv X pins σ H' { s with heap := h', gens := g', drawn := d', toks := t' } := by
  have neL : ∀ b o, X.s₀.heap.get? b = some o → b ≠ X.env.locals := fun b o e => Nat.ne_of_lt (Nat.lt_of_lt_of_le (Heap.lt_size e) I.ok.above)
  have neC : ∀ b o, X.s₀.heap.get? b = some o → b ∉ X.ex → b ∉ ch := fun b o e hx hb => by
    rcases (hch b hb).1 with z | z
    · exact hx z
    · exact absurd (Nat.lt_of_lt_of_le (Heap.lt_size e) z) (Nat.lt_irrefl _)
  have cellK : ∀ x c, X.env.cells.lookup x = some c → ∀ v, s.heap.IsCell c v → h'.IsCell c v := fun x c e v ⟨o, ho, hd⟩ => by
    have nch : c ∉ ch := fun z => (hch c z).2.2.1 x c e rfl
    by_cases hc : c ∈ X.fs
    · obtain ⟨sl, q⟩ := slot c o (I.cne x c e) hc nch ho (I.freeC x c e)
      exact ⟨_, q, hd⟩
    · exact ⟨o, keep c o (I.cne x c e) hc nch ho (I.freeC x c e), hd⟩
  refine ⟨I.ok, I.os, hg, ⟨fun b o e n hb hx => ?_, fun b o e n hb hx => ?_, fun b o e n hx => ?_, fun b o e hx => ?_, fun b xs e => tups b xs (I.base.tups b xs e), fun b o xs e => frzs b o xs (I.base.frzs b o xs e), fun b ps e => ?_⟩, ?_, fun x c e => ?_, ?_, fun x c e => ?_, fun p hp => ?_, hok, I.len⟩
  · exact keep b o (neL b o e) hb (neC b o e hx) (I.base.keep b o e n hb hx) (I.base.free b o e n hx)
  · obtain ⟨sl, e1⟩ := I.base.slot b o e n hb hx
    obtain ⟨sl', e2⟩ := slot b _ (neL b o e) hb (neC b o e hx) e1 (I.base.free b o e n hx)
    exact ⟨sl', e2⟩
  · obtain ⟨o', e1⟩ := I.base.there b o e hx
    exact free b o' (neC b o e hx) e1 (I.base.free b o e n hx)
  · obtain ⟨o', e1⟩ := I.base.there b o e hx
    exact there b o' (neC b o e hx) e1
  · obtain ⟨m1, e1⟩ := I.base.tbls b ps e
    obtain ⟨m2, e2⟩ := tbls b _ e1
    exact ⟨m1 ++ m2, by rw [e2, Array.append_assoc]⟩
  · obtain ⟨m, hn, hl⟩ := I.loc
    refine ⟨m, ns m hn, fun i x v e1 e2 e3 => ?_⟩
    obtain ⟨u, r, l⟩ := hl i x v e1 e2 e3
    refine ⟨u, r, ?_⟩
    rcases l with l | ⟨k, c, e, z⟩
    · exact .inl l
    · exact .inr ⟨k, c, e, cellK x c e _ z⟩
  · obtain ⟨v, z⟩ := I.cell x c e
    exact ⟨v, cellK x c e v z⟩
  · obtain ⟨m, ⟨o, _, _, ho, _⟩, _⟩ := I.loc
    exact free _ o (fun z => (hch _ z).2.1 rfl) ho I.free
  · obtain ⟨v, o, ho, hd⟩ := I.cell x c e
    exact free c o (fun z => (hch c z).2.2.1 x c e rfl) ho (I.freeC x c e)
  · obtain ⟨e, n, ne, nf, d⟩ := I.pin p hp
    have nch : p.1 ∉ ch := fun z => (hch p.1 z).2.2.2 p hp rfl
    exact ⟨keep p.1 p.2 ne nf nch e n, free p.1 p.2 nch e n, ne, nf, d⟩
/-- .. where the frame's own object is kept too -/
theorem Inv.un {t' : Nat} (I : Inv X pins σ H s) (u : Un X.fs [] H H' s.heap h') (hok : HOk X.prog X.w H' h') : Inv X pins σ H' { s with heap := h', toks := t' } := by
  obtain ⟨m, ⟨o, es, ep, ho, r⟩, _⟩ := id I.loc
  obtain ⟨sl, hL⟩ := u.any ho I.free (by simp)
  exact I.step (g' := s.gens) (d' := s.drawn) (ch := []) (fun _ z => nomatch z) (fun b o _ hb _ e n => u.keep b o e n hb (by simp)) (fun b o _ hb _ e n => u.slot b o e n hb (by simp)) (fun b o _ e n => u.free b o e n (by simp)) (fun b o _ e => u.there b o e (by simp)) u.tups u.frzs u.tbls (fun m' hm => by
    obtain ⟨o', es', ep', ho', r'⟩ := hm
    rw [ho] at ho'; cases ho'
    exact ⟨_, es', ep', hL, r'⟩) hok I.bare
/-- behind a call (or a comprehension's block): the slots of this frame may have changed too, the records at ch may have turned -/
theorem Inv.call {g' : Array GenState} {t' : Nat} {d' : Drawn} {ch : List Addr} (I : Inv X pins σ H s) (u : Un (frs X.stack) ch H H' s.heap h') (hok : HOk X.prog X.w H' h') (hg : AllBare g')
    (hch : ∀ b ∈ ch, (b ∈ X.ex ∨ X.s₀.heap.objs.size ≤ b) ∧ b ≠ X.env.locals ∧ (∀ x c, X.env.cells.lookup x = some c → c ≠ b) ∧ ∀ p ∈ X.pn ++ pins, p.1 ≠ b) :
    Inv X pins σ H' { s with heap := h', gens := g', drawn := d', toks := t' } := by
  obtain ⟨m, ⟨o, es, ep, ho, r⟩, _⟩ := id I.loc
  obtain ⟨sl, hL⟩ := u.any ho I.free fun z => (hch _ z).2.1 rfl
  exact I.step (ch := ch) hch (fun b o hL hb hc e n => u.keep b o e n (fun z => (List.mem_cons.mp (I.stkSub b z)).elim hL hb) hc) (fun b o _ _ hc e n => u.any e n hc) (fun b o hc e n => u.free b o e n hc) (fun b o hc e => u.there b o e hc) u.tups u.frzs u.tbls (fun m' hm => by
    obtain ⟨o', es', ep', ho', r'⟩ := hm
    rw [ho] at ho'; cases ho'
    exact ⟨_, es', ep', hL, r'⟩) hok hg
/-- an untracked record of ours (an iterator) has turned -/
theorem Inv.turned {t' : Nat} {it : Addr} (I : Inv X pins σ H s) (k : ∀ b o, b ≠ it → s.heap.get? b = some o → h'.get? b = some o) (hn : H it = none) (hL : it ≠ X.env.locals)
    (h1 : it ∈ X.ex ∨ X.s₀.heap.objs.size ≤ it) (h2 : ∀ x c, X.env.cells.lookup x = some c → c ≠ it) (h3 : ∀ p ∈ X.pn ++ pins, p.1 ≠ it) : Inv X pins σ H { s with heap := h', toks := t' } := by
  have nit : ∀ b u, H b = some u → b ≠ it := fun b u e z => by rw [z, hn] at e; cases e
  refine I.step (g' := s.gens) (d' := s.drawn) (ch := [it]) (fun b hb => ?_) (fun b o _ _ hc e _ => k b o (fun z => hc (by simp [z])) e) (fun b o _ _ hc e _ => ⟨o.slots, k b o (fun z => hc (by simp [z])) e⟩) (fun _ _ _ _ n => n)
    (fun b o hc e => ⟨o, k b o (fun z => hc (by simp [z])) e⟩) (fun _ _ e => e) (fun _ _ _ e => e) (fun b ps e => ⟨#[], by rw [e]; simp⟩) (fun m hm => ?_) (fun b u e => ?_) I.bare
  · have e : b = it := by simpa using hb
    subst e
    exact ⟨h1, hL, h2, h3⟩
  · obtain ⟨o, es, ep, ho, r⟩ := hm
    exact ⟨o, es, ep, k _ o (Ne.symm hL) ho, r⟩
  · refine (I.hok b u e).stay (fun c v hc q => k c v ?_ q) (fun _ q => q) fun _ _ q => q
    rcases hc with z | z
    · rw [z]; exact nit b u e
    · exact nit c _ z
theorem Inv.tok (I : Inv X pins σ H s) (t : Nat) : Inv X pins σ H { s with toks := t } := I.un (h' := s.heap) (t' := t) Un.refl I.hok
/-- all objects kept -/
theorem Inv.kept {t' : Nat} (I : Inv X pins σ H s) (k : ∀ b u, s.heap.get? b = some u → h'.get? b = some u) : Inv X pins σ H { s with heap := h', toks := t' } := I.un (Un.kept k) (I.hok.kept k)
/-- a new object laid and tracked -/
theorem Inv.laid {a : Addr} {o : HO} {t' : Nat} (I : Inv X pins σ H s) (k : ∀ b u, s.heap.get? b = some u → h'.get? b = some u) (hp : s.heap.objs.size ≤ a) (new : ObjOk X.prog X.w (upd H a o) h' a o) :
    Inv X pins σ (upd H a o) { s with heap := h', toks := t' } := I.un (Un.laid k hp (I.hok.fresh hp)) (I.hok.laid k hp new)
/-- an object written -/
theorem Inv.write {x e : Addr} {o : HO} {t' : Nat} (I : Inv X pins σ H s) (mu : Mut (H x)) (he : e = x ∨ H e = some (.own x)) (k : ∀ b u, b ≠ e → s.heap.get? b = some u → h'.get? b = some u) (heo : ∃ u, h'.get? e = some u)
    (new : ObjOk X.prog X.w (upd H x o) h' x o) : Inv X pins σ (upd H x o) { s with heap := h', toks := t' } := I.un (Un.write mu he k heo) (I.hok.write mu he k heo new)
/-- forgetting slots, pins -/
theorem Inv.weak {σ' : List (Option V)} (I : Inv X pins σ H s) (hl : σ'.length = σ.length) (w : ∀ (i : Nat) v, σ'[i]? = some (some v) → σ[i]? = some (some v)) : Inv X pins σ' H s :=
  ⟨I.ok, I.os, I.bare, I.base, let ⟨m, hn, hl'⟩ := I.loc; ⟨m, hn, fun i x v e1 e2 e3 => hl' i x v e1 (w i v e2) e3⟩, I.cell, I.free, I.freeC, I.pin, I.hok, hl.trans I.len⟩
theorem Inv.pins_of {pins' : List (Addr × Obj)} (I : Inv X pins σ H s) (h : ∀ p ∈ pins', s.heap.get? p.1 = some p.2 ∧ H p.1 = none ∧ p.1 ≠ X.env.locals ∧ p.1 ∉ X.fs ∧ ∀ v, p.2.data ≠ .cell v) : Inv X pins' σ H s :=
  ⟨I.ok, I.os, I.bare, I.base, I.loc, I.cell, I.free, I.freeC, fun p hp => (List.mem_append.mp hp).elim (fun z => I.pin p (List.mem_append_left _ z)) (h p), I.hok, I.len⟩

theorem nodup_ix {N : List Str} (hN : N.Nodup) {i j : Nat} {x : Str} (a : N[i]? = some x) (b : N[j]? = some x) : i = j := by
  obtain ⟨h1, e1⟩ := List.getElem?_eq_some_iff.mp a
  obtain ⟨h2, e2⟩ := List.getElem?_eq_some_iff.mp b
  exact (List.getElem_inj hN).mp (e1.trans e2.symm)

/-- a name is stored; what changed -/
theorem store_ok2 {M : Model} {A : Around} {E : Value → Shared → Prop} {i : Nat} {x : Str} {v : V} {u : Value} {Q : Unit → Shared → Prop} (I : Inv X pins σ H s) (hN : X.N.Nodup) (hi : X.N[i]? = some x) (hx : Loc X.env.scope x) (r : RelV v u)
    (h : ∀ s', Inv X pins (σ.set i (some v)) H s' → (∃ a, Heap.SameBut a s.heap s'.heap ∧ (a = X.env.locals ∨ X.env.cells.lookup x = some a)) → Q () s') (hf : X.fn x = true ∨ X.env.scope.names.lookup x = some .local := by first | exact .inl rfl | exact .inr rfl | assumption) : wpAny M A (storeName X.env x u) Q E s := by
  obtain ⟨m, hn, hl⟩ := id I.loc
  have hcls : (X.env.scope.kind == .class || (X.env.scope.kind == .module && X.env.locals != X.env.globals)) = false := by rw [I.ok.kind]; rfl
  have hiσ : i < σ.length := by rw [I.len]; exact (List.getElem?_eq_some_iff.mp hi).1
  have cne := I.cne
  have tracked : ∀ {a : Addr} {h' : Heap}, (∃ o, s.heap.get? a = some o ∧ H a = none) → Heap.SameBut a s.heap h' → HOk X.prog X.w H h' := fun {a h'} ha hs b ob e => by
    obtain ⟨_, _, hfree⟩ := ha
    refine (I.hok b ob e).stay (fun c w' hc q => (hs.2 c ?_).trans q) (fun _ q => q) fun _ _ q => q
    rintro rfl
    rcases hc with rfl | hc
    · rw [hfree] at e; cases e
    · rw [hfree] at hc; cases hc
  rcases hx with hk | hk
  · refine wpAny_storeName_local hk hn (fun h' hn' hs => ?_) hcls
    obtain ⟨oL, _, _, hoL, _⟩ := id hn
    refine h _ ⟨I.ok, I.os, I.bare, ⟨fun b o e n hb hx => ?_, fun b o e n hb hx => ?_, I.base.free, fun b o e hx => ?_, I.base.tups, I.base.frzs, I.base.tbls⟩, ⟨_, hn', fun j y v' e1 e2 e3 => ?_⟩, fun y c e => ?_, I.free, I.freeC, fun p hp => ?_, tracked ⟨oL, hoL, I.free⟩ hs, by simpa using I.len⟩ ⟨_, hs, .inl rfl⟩
    · exact (hs.2 b (Nat.ne_of_lt (Nat.lt_of_lt_of_le (Heap.lt_size e) I.ok.above))).trans (I.base.keep b o e n hb hx)
    · obtain ⟨sl, e1⟩ := I.base.slot b o e n hb hx
      exact ⟨sl, (hs.2 b (Nat.ne_of_lt (Nat.lt_of_lt_of_le (Heap.lt_size e) I.ok.above))).trans e1⟩
    · obtain ⟨o', e1⟩ := I.base.there b o e hx
      exact ⟨o', (hs.2 b (Nat.ne_of_lt (Nat.lt_of_lt_of_le (Heap.lt_size e) I.ok.above))).trans e1⟩
    · by_cases hj : j = i
      · subst hj
        rw [hi] at e1; cases e1
        rw [List.getElem?_set_self hiσ] at e2
        cases e2
        exact ⟨u, r, .inl ⟨hk, by simp⟩⟩
      · rw [List.getElem?_set_ne (Ne.symm hj)] at e2
        obtain ⟨u', r', q⟩ := hl j y v' e1 e2 e3
        refine ⟨u', r', ?_⟩
        rcases q with ⟨k, e⟩ | ⟨k, c, e, z⟩
        · refine .inl ⟨k, ?_⟩
          have : y ≠ x := fun e => hj (nodup_ix hN e1 (e ▸ hi))
          simp [this, e]
        · exact .inr ⟨k, c, e, z.sameBut hs (cne y c e)⟩
    · obtain ⟨w', z⟩ := I.cell y c e
      exact ⟨w', z.sameBut hs (cne y c e)⟩
    · obtain ⟨e, n, ne, nf, d⟩ := I.pin p hp
      exact ⟨(hs.2 p.1 ne).trans e, n, ne, nf, d⟩
  · have hfn : X.fn x = true := by
      rcases hf with z | z
      · exact z
      · rw [z] at hk; cases hk
    obtain ⟨c, hc⟩ := I.ok.has x (.inl hk)
    obtain ⟨w', z⟩ := I.cell x c hc
    refine wpAny_storeName_cell I.ok.kind hk hc z (fun h' hc' hs => ?_)
    obtain ⟨oc, hoc, hocd⟩ := id z
    refine h { s with heap := h' } ⟨I.ok, I.os, I.bare, ⟨fun b o e n hb hx => ?_, fun b o e n hb hx => ?_, I.base.free, fun b o e hx => ?_, I.base.tups, I.base.frzs, I.base.tbls⟩, ⟨m, hn.sameBut hs (Ne.symm (cne x c hc)), fun j y v' e1 e2 e3 => ?_⟩, fun y c' e => ?_, I.free, I.freeC, fun p hp => ?_, tracked ⟨oc, hoc, I.freeC x c hc⟩ hs, by simpa using I.len⟩ ⟨c, hs, .inr hc⟩
    · exact (hs.2 b (Nat.ne_of_lt (Nat.lt_of_lt_of_le (Heap.lt_size e) (I.ok.cab x c hfn hc)))).trans (I.base.keep b o e n hb hx)
    · obtain ⟨sl, e1⟩ := I.base.slot b o e n hb hx
      exact ⟨sl, (hs.2 b (Nat.ne_of_lt (Nat.lt_of_lt_of_le (Heap.lt_size e) (I.ok.cab x c hfn hc)))).trans e1⟩
    · obtain ⟨o', e1⟩ := I.base.there b o e hx
      exact ⟨o', (hs.2 b (Nat.ne_of_lt (Nat.lt_of_lt_of_le (Heap.lt_size e) (I.ok.cab x c hfn hc)))).trans e1⟩
    · by_cases hj : j = i
      · subst hj
        rw [hi] at e1; cases e1
        rw [List.getElem?_set_self hiσ] at e2
        cases e2
        exact ⟨u, r, .inr ⟨.inl hk, c, hc, hc'⟩⟩
      · rw [List.getElem?_set_ne (Ne.symm hj)] at e2
        obtain ⟨u', r', q⟩ := hl j y v' e1 e2 e3
        refine ⟨u', r', ?_⟩
        rcases q with q | ⟨k, c', e, z'⟩
        · exact .inl q
        · refine .inr ⟨k, c', e, z'.sameBut hs ?_⟩
          rintro rfl
          exact hj (nodup_ix hN e1 (I.ok.inj _ _ _ e hc ▸ hi))
    · by_cases hcc : c' = c
      · subst hcc; exact ⟨_, hc'⟩
      · obtain ⟨w2, z2⟩ := I.cell y c' e
        exact ⟨w2, z2.sameBut hs hcc⟩
    · obtain ⟨e, n, ne, nf, d⟩ := I.pin p hp
      refine ⟨(hs.2 p.1 ?_).trans e, n, ne, nf, d⟩
      intro q
      rw [q, hoc] at e
      have q' : oc = p.2 := Option.some.inj e
      exact d w' (by rw [← q']; exact hocd)
theorem store_ok {M : Model} {A : Around} {E : Value → Shared → Prop} {i : Nat} {x : Str} {v : V} {u : Value} {Q : Unit → Shared → Prop} (I : Inv X pins σ H s) (hN : X.N.Nodup) (hi : X.N[i]? = some x) (hx : Loc X.env.scope x) (r : RelV v u)
    (h : ∀ s', Inv X pins (σ.set i (some v)) H s' → Q () s') (hf : X.fn x = true ∨ X.env.scope.names.lookup x = some .local := by first | exact .inl rfl | exact .inr rfl | assumption) : wpAny M A (storeName X.env x u) Q E s :=
  store_ok2 I hN hi hx r (fun s' I' _ => h s' I') hf
/-- behind a call or a block, the state as it is -/
theorem Inv.call' {s' : Shared} {ch : List Addr} (I : Inv X pins σ H s) (ho : s'.os = s.os) (u : Un (frs X.stack) ch H H' s.heap s'.heap) (hok : HOk X.prog X.w H' s'.heap) (hg : AllBare s'.gens)
    (hch : ∀ b ∈ ch, (b ∈ X.ex ∨ X.s₀.heap.objs.size ≤ b) ∧ b ≠ X.env.locals ∧ (∀ x c, X.env.cells.lookup x = some c → c ≠ b) ∧ ∀ p ∈ X.pn ++ pins, p.1 ≠ b) : Inv X pins σ H' s' := by
  obtain ⟨h', g', d', t', o'⟩ := s'
  have e : o' = s.os := ho
  subst e
  exact I.call (g' := g') (t' := t') (d' := d') u hok hg hch
end

/-! ### the judgements -/
/-- an exception: its class, its own dict's address (where it has one), the abstract heap behind it -/
abbrev XK := Value → Option Addr → Hp → Prop
abbrev St := List (Option V)
abbrev VK := V → Hp → Prop
/-- an expression's reading; a test's; an argument list's -/
abbrev TE := St → Hp → VK → Prop
abbrev TT := St → Hp → (Bool → Hp → Prop) → Prop
abbrev TA := St → Hp → (List V → Hp → Prop) → Prop
/-- what is wanted behind a statement -/
structure Ends where
  nx : St → Hp → Prop
  rt : VK
  bk : St → Hp → Prop := fun _ _ => False
  ct : St → Hp → Prop := fun _ _ => False
abbrev TS := Ends → St → Hp → Prop

def EP (X : Cx) (pins : List (Addr × Obj)) (σ : St) (Q : VK) (u : Value) (s' : Shared) : Prop := ∃ v H', Inv X pins σ H' s' ∧ RelV v u ∧ Q v H'
def TP (X : Cx) (pins : List (Addr × Obj)) (σ : St) (Q : Bool → Hp → Prop) (b : Bool) (s' : Shared) : Prop := ∃ H', Inv X pins σ H' s' ∧ Q b H'
def AP (X : Cx) (pins : List (Addr × Obj)) (σ : St) (Q : List V → Hp → Prop) (us : List Value) (s' : Shared) : Prop := ∃ vs H', Inv X pins σ H' s' ∧ Vals vs us ∧ Q vs H'
def SP (X : Cx) (pins : List (Addr × Obj)) (D : Ends) (f : Flow) (s' : Shared) : Prop :=
  match f with
  | .next => ∃ σ' H', Inv X pins σ' H' s' ∧ D.nx σ' H'
  | .brk => ∃ σ' H', Inv X pins σ' H' s' ∧ D.bk σ' H'
  | .cont => ∃ σ' H', Inv X pins σ' H' s' ∧ D.ct σ' H'
  | .ret u => ∃ v σ' H', Inv X pins σ' H' s' ∧ RelV v u ∧ D.rt v H'

def PE (X : Cx) (e : Expr) (t : TE) : Prop :=
  ∀ (pins : List (Addr × Obj)) (s : Shared) (σ : St) (H : Hp) (Q : VK), Inv X pins σ H s → t σ H Q → wpAny (model X.prog X.w) X.A (eval e X.env) (EP X pins σ Q) X.xe s
def PT (X : Cx) (e : Expr) (t : TT) : Prop :=
  ∀ (pins : List (Addr × Obj)) (s : Shared) (σ : St) (H : Hp) (Q : Bool → Hp → Prop), Inv X pins σ H s → t σ H Q → wpAny (model X.prog X.w) X.A (isTrue e X.env (eval e X.env)) (TP X pins σ Q) X.xe s
/-- a test whatever its 'whole' is (and, or) -/
def PW (X : Cx) (e : Expr) (t : TT) : Prop :=
  ∀ (whole : Sem Value) (pins : List (Addr × Obj)) (s : Shared) (σ : St) (H : Hp) (Q : Bool → Hp → Prop), Inv X pins σ H s → t σ H Q → wpAny (model X.prog X.w) X.A (isTrue e X.env whole) (TP X pins σ Q) X.xe s
theorem PW.pt {X : Cx} {e : Expr} {t : TT} (h : PW X e t) : PT X e t := h _
/-- an argument list (no star), from the left -/
def PA (X : Cx) (es : List Expr) (t : TA) : Prop :=
  ∀ (pos : Pos) (pins : List (Addr × Obj)) (s : Shared) (σ : St) (H : Hp) (Q : List V → Hp → Prop), Inv X pins σ H s → t σ H Q → wpAny (model X.prog X.w) X.A (spliced (backTo pos (starEach es X.env))) (AP X pins σ Q) X.xe s
def PS (X : Cx) (st : Stmt) (t : TS) : Prop :=
  ∀ (pins : List (Addr × Obj)) (s : Shared) (σ : St) (H : Hp) (D : Ends), Inv X pins σ H s → t D σ H → wpAny (model X.prog X.w) X.A (exec st X.env) (SP X pins D) X.xe s
def PSs (X : Cx) (st : List Stmt) (t : TS) : Prop :=
  ∀ (pins : List (Addr × Obj)) (s : Shared) (σ : St) (H : Hp) (D : Ends), Inv X pins σ H s → t D σ H → wpAny (model X.prog X.w) X.A (execs st X.env) (SP X pins D) X.xe s
/-- weaken the end -/
theorem thn {α : Type} {t : Sem α} {Q Q' : α → Shared → Prop} {M : Model} {A : Around} {E : Value → Shared → Prop} {s : Shared} (h : wpAny M A t Q E s) (hQ : ∀ a s, Q a s → Q' a s) : wpAny M A t Q' E s := wpAny_mono h hQ fun _ _ x => x
end L2

namespace L2
open PySem PySem.Spec PyProof.Rows
section
variable {X : Cx}

/-! ### names and constants -/
def tVar (i : Nat) : TE := fun σ H Q => ∃ v, σ[i]? = some (some v) ∧ Q v H
def tC (v : V) : TE := fun _ H Q => Q v H
theorem pe_var {i : Nat} {x : Str} {pos : Pos} (hN : X.N[i]? = some x) (hv : Vis X.env.scope x) (hd : (x == ("__debug__" : Str)) = false := by decide) (hcd : (x == ("__classdict__" : Str)) = false := by decide) : PE X (.Name x pos) (tVar i) := by
  intro pins s σ H Q I h
  obtain ⟨v, e, h⟩ := h
  obtain ⟨m, hn, hl⟩ := I.loc
  obtain ⟨u, r, l⟩ := hl i x v hN e hv
  have fin : EP X pins σ Q u s := ⟨v, H, I, r, h⟩
  rcases l with ⟨hk, hm⟩ | ⟨hk, c, hc, hcell⟩
  · exact wpAny_Name (wpAny_loadName_local I.ok.kind hk hn hm fin) hd
  · rcases hk with hk | hk
    · exact wpAny_Name (wpAny_loadName_cell I.ok.kind hk hc hcell fin) hd
    · exact wpAny_Name (wpAny_loadName_free I.ok.kind hk hc hcell fin hcd) hd
theorem pe_int {i j pos} : PE X (.Constant (.int i) j pos) (tC (.int i)) := fun _ _ _ H _ I h => wpAny_Constant_int ⟨.int i, H, I.tok _, ⟨_, rfl⟩, h⟩
theorem pe_bl {b j pos} : PE X (.Constant (.bool b) j pos) (tC (.bl b)) := fun _ _ _ H _ I h => Constant_bool ⟨.bl b, H, I, rfl, h⟩
theorem pe_non {j pos} : PE X (.Constant .none j pos) (tC .non) := fun _ _ _ H _ I h => Constant_none ⟨.non, H, I, rfl, h⟩
theorem pe_str {x j pos} : PE X (.Constant (.str x) j pos) (tC (.str x)) := fun _ _ _ H _ I h => Calls.Constant_str ⟨.str x, H, I.tok _, ⟨_, rfl⟩, h⟩

/-- a global name of the def -/
def Gl (X : Cx) (x : Str) : Prop := X.env.kindOf x = some .globalImplicit
theorem ld_glob {E : Value → Shared → Prop} {pins : List (Addr × Obj)} {s : Shared} {σ : St} {H : Hp} {x : Str} {u : Value} {pos : Pos} {Q : Value → Shared → Prop} (I : Inv X pins σ H s) (hg : Gl X x) (hm : X.mg x = some u) (h : Q u s)
    (hd : (x == ("__debug__" : Str)) = false := by decide) : wpAny (model X.prog X.w) X.A (eval (.Name x pos) X.env) Q E s :=
  Calls.Name_function_global I.ok.kind hg (Calls.loadGlobal_global (by rw [I.ok.glob]; exact I.mod.glob.keeps I.bk) hm h) hd
theorem ld_blt {E : Value → Shared → Prop} {pins : List (Addr × Obj)} {s : Shared} {σ : St} {H : Hp} {x : Str} {u : Value} {pos : Pos} {Q : Value → Shared → Prop} (I : Inv X pins σ H s) (hg : Gl X x) (hm : X.mg x = none) (hv : bootBuiltins x = some u) (h : Q u s)
    (hn : x ≠ "__name__" := by decide) (hd : (x == ("__debug__" : Str)) = false := by decide) : wpAny (model X.prog X.w) X.A (eval (.Name x pos) X.env) Q E s := by
  obtain ⟨mb, h1, h2⟩ := I.mod.blt
  exact Calls.Name_function_global I.ok.kind hg (Calls.loadGlobal_builtin (by rw [I.ok.glob]; exact I.mod.glob.keeps I.bk) hm (by rw [I.ok.blt]; exact h1.keeps I.bk) ((h2 x hn).trans hv) h) hd
/-- a module's constant, a class, a function, as a value -/
theorem pe_glob {x : Str} {v : V} {u : Value} {pos : Pos} (hg : Gl X x) (hm : X.mg x = some u) (r : RelV v u) (hd : (x == ("__debug__" : Str)) = false := by decide) : PE X (.Name x pos) (tC v) :=
  fun _ _ _ H _ I h => ld_glob I hg hm ⟨v, H, I, r, h⟩ hd
theorem pe_bltn {x : Str} {v : V} {u : Value} {pos : Pos} (hg : Gl X x) (hm : X.mg x = none) (hv : bootBuiltins x = some u) (r : RelV v u) (hn : x ≠ "__name__" := by decide) (hd : (x == ("__debug__" : Str)) = false := by decide) : PE X (.Name x pos) (tC v) :=
  fun _ _ _ H _ I h => ld_blt I hg hm hv ⟨v, H, I, r, h⟩ hn hd

/-! ### arithmetic -/
variable {a b : Expr} {ta tb : TE} {pos : Pos}
/-! ### comparisons -/
/-! ### and, or, not -/
variable {tA tB' : TT} {rest : List Expr}
def tAnd (t u : TT) : TT := fun σ H Q => t σ H fun c H1 => if c = true then u σ H1 Q else Q false H1
def tOr (t u : TT) : TT := fun σ H Q => t σ H fun c H1 => if c = true then Q true H1 else u σ H1 Q
def tNot (t : TT) : TT := fun σ H Q => t σ H fun c H1 => Q (!c) H1
theorem pw_and1 (ha : PT X a tA) : PW X (.BoolOp .And [a] pos) tA := by
  intro wh pins s σ H Q I h
  refine isTrue_and (thn (ha pins s σ H Q I h) fun c s1 e => ?_)
  cases c with
  | true => exact isTrue_and_nil e
  | false => exact e
theorem pw_or1 (ha : PT X a tA) : PW X (.BoolOp .Or [a] pos) tA := by
  intro wh pins s σ H Q I h
  refine isTrue_or (thn (ha pins s σ H Q I h) fun c s1 e => ?_)
  cases c with
  | false => exact isTrue_or_nil e
  | true => exact e
theorem pw_and (ha : PT X a tA) (hb : PW X (.BoolOp .And (b :: rest) pos) tB') : PW X (.BoolOp .And (a :: b :: rest) pos) (tAnd tA tB') := by
  intro wh pins s σ H Q I h
  refine isTrue_and (thn (ha pins s σ H _ I h) fun c s1 ⟨H1, I1, q1⟩ => ?_)
  cases c with
  | true => exact hb wh pins s1 σ H1 Q I1 q1
  | false => exact ⟨H1, I1, q1⟩
theorem pw_or (ha : PT X a tA) (hb : PW X (.BoolOp .Or (b :: rest) pos) tB') : PW X (.BoolOp .Or (a :: b :: rest) pos) (tOr tA tB') := by
  intro wh pins s σ H Q I h
  refine isTrue_or (thn (ha pins s σ H _ I h) fun c s1 ⟨H1, I1, q1⟩ => ?_)
  cases c with
  | true => exact ⟨H1, I1, q1⟩
  | false => exact hb wh pins s1 σ H1 Q I1 q1
theorem pt_not (ha : PT X a tA) : PT X (.UnaryOp .Not a pos) (tNot tA) := by
  intro pins s σ H Q I h
  exact isTrue_not (ha pins s σ H (fun c H1 => Q (!c) H1) I h)
theorem pe_one {op} {t : TE} (h : PE X a t) : PE X (.BoolOp op [a] pos) t := fun pins s σ H Q I hw => BoolOp_one (h pins s σ H Q I hw)
/-- a if t else b -/
def tIf (t : TT) (ta tb : TE) : TE := fun σ H Q => t σ H fun c H1 => if c = true then ta σ H1 Q else tb σ H1 Q
theorem pe_ifExp {c : Expr} (hc : PT X c tA) (ha : PE X a ta) (hb : PE X b tb) : PE X (.IfExp c a b pos) (tIf tA ta tb) := by
  intro pins s σ H Q I h
  refine wpAny_IfExp (thn (hc pins s σ H _ I h) fun d s1 ⟨H1, I1, q1⟩ => ?_)
  cases d with
  | true => exact ha pins s1 σ H1 Q I1 q1
  | false => exact hb pins s1 σ H1 Q I1 q1
end
end L2

namespace L2
open PySem PySem.Spec PyProof.Rows

/-! ### a list, a tuple that is read: tracked, frozen, or an object of the module -/
def SqL (K : PySem.W.Frag) (H : Hp) (a : Addr) (xs : List V) : Prop :=
  Rd H a (.lst xs) ∨
    ∃ (o : Obj) (its : Array Value) (n : Nat), K.lookup a = some o ∧ o.cls = .type "list" ∧ o.dict = none ∧ o.data = .seq its n ∧ its.size ≤ sizeLine ∧ Vals xs its.toList
def SqT (K : PySem.W.Frag) (H : Hp) (a : Addr) (xs : List V) : Prop :=
  Rd H a (.tup xs) ∨
    ∃ (o : Obj) (its : Array Value) (n : Nat), K.lookup a = some o ∧ o.cls = .type "tuple" ∧ o.data = .seq its n ∧ its.size ≤ sizeLine ∧ Vals xs its.toList
def absV : Value → Option V
  | .none => some .non
  | .bool b => some (.bl b)
  | .int i _ => some (.int i)
  | .str x _ => some (.str x)
  | .bytes b _ => some (.byt b)
  | .float b _ => some (.flt b)
  | .ref a => some (.ref a)
  | .type n => some (.ty n)
  | _ => none
theorem RelV.abs {x : V} {u : Value} (r : RelV x u) : absV u = some x := by
  cases x with
  | non => cases r; rfl
  | bl _ => cases r; rfl
  | int _ => obtain ⟨t, rfl⟩ := r; rfl
  | str _ => obtain ⟨t, rfl⟩ := r; rfl
  | byt _ => obtain ⟨t, rfl⟩ := r; rfl
  | flt _ => obtain ⟨t, rfl⟩ := r; rfl
  | ref _ => cases r; rfl
  | ty _ => cases r; rfl
theorem RelV.inj {x y : V} {u : Value} (r : RelV x u) (q : RelV y u) : x = y := Option.some.inj (r.abs.symm.trans q.abs)
theorem Vals.inj : ∀ {xs ys : List V} {us : List Value}, Vals xs us → Vals ys us → xs = ys
  | _, _, _, .nil, .nil => rfl
  | _, _, _, .cons r t, .cons r' t' => by rw [r.inj r', Vals.inj t t']
section
variable {X : Cx} {pins : List (Addr × Obj)} {σ : St} {H : Hp} {s : Shared} {a : Addr} {xs ys : List V}
theorem SqL.of {K : PySem.W.Frag} (h : H a = some (.lst xs)) : SqL K H a xs := .inl (.inl h)
theorem SqT.of {K : PySem.W.Frag} (h : H a = some (.tup xs)) : SqT K H a xs := .inl (.inl h)
theorem Inv.list (I : Inv X pins σ H s) (h : SqL X.K H a xs) : ∃ its : List Value, Vals xs its ∧ PlainL s.heap a its.toArray ∧ xs.length ≤ sizeLine := by
  rcases h with h | ⟨o, its, n, hk, hc, hd, hs, hz, r⟩
  · obtain ⟨z, its, n, r, e⟩ := h.ok I.hok
    exact ⟨its, r, ⟨_, n, e, rfl, rfl, rfl⟩, z⟩
  · refine ⟨its.toList, r, ⟨o, n, I.kIn a o hk, hc, hd, by simpa using hs⟩, ?_⟩
    have e := r.length
    simp only [Array.length_toList] at e
    omega
theorem Inv.tuple (I : Inv X pins σ H s) (h : SqT X.K H a xs) : ∃ its : List Value, Vals xs its ∧ IsTup s.heap a its.toArray ∧ xs.length ≤ sizeLine := by
  rcases h with h | ⟨o, its, n, hk, hc, hs, hz, r⟩
  · obtain ⟨z, its, r, p⟩ := h.ok I.hok
    exact ⟨its, r, p, z⟩
  · refine ⟨its.toList, r, ⟨o, I.kIn a o hk, hc, n, by simpa using hs⟩, ?_⟩
    have e := r.length
    simp only [Array.length_toList] at e
    omega
theorem Inv.list_inj (I : Inv X pins σ H s) (h : SqL X.K H a xs) (h' : SqL X.K H a ys) : xs = ys := by
  obtain ⟨its, r, ⟨o, n, e, _, _, d⟩, _⟩ := I.list h
  obtain ⟨its', r', ⟨o', n', e', _, _, d'⟩, _⟩ := I.list h'
  rw [e] at e'; cases e'
  rw [d] at d'
  injection d' with d1 _
  have : its = its' := by simpa using congrArg Array.toList d1
  subst this
  exact r.inj r'
theorem Inv.tuple_inj (I : Inv X pins σ H s) (h : SqT X.K H a xs) (h' : SqT X.K H a ys) : xs = ys := by
  obtain ⟨its, r, ⟨o, e, _, n, d⟩, _⟩ := I.tuple h
  obtain ⟨its', r', ⟨o', e', _, n', d'⟩, _⟩ := I.tuple h'
  rw [e] at e'; cases e'
  rw [d] at d'
  injection d' with d1 _
  have : its = its' := by simpa using congrArg Array.toList d1
  subst this
  exact r.inj r'
end

/-! ### another wish about exceptions -/
abbrev Cx.wish (X : Cx) (E : Value → Shared → Prop) : Cx := { X with xe := E }
/-- no exception leaves -/
abbrev Cx.nox (X : Cx) : Cx := X.wish fun _ _ => False
theorem Cx.Ok.wish {X : Cx} (ok : X.Ok) (E : Value → Shared → Prop) : (X.wish E).Ok :=
  ⟨ok.mod, ok.kind, ok.glob, ok.blt, ok.above, ok.inj, ok.has, ok.cab, ok.hd, ok.frames, ok.stk, ok.exf, ok.bs, ok.bsz, ok.noex, ok.exfs, ok.funs, ok.frf⟩
theorem Cx.Ok.unwish {X : Cx} {E : Value → Shared → Prop} (ok : (X.wish E).Ok) : X.Ok :=
  ⟨ok.mod, ok.kind, ok.glob, ok.blt, ok.above, ok.inj, ok.has, ok.cab, ok.hd, ok.frames, ok.stk, ok.exf, ok.bs, ok.bsz, ok.noex, ok.exfs, ok.funs, ok.frf⟩
section
variable {X : Cx} {pins : List (Addr × Obj)} {σ : St} {H : Hp} {s : Shared} {E : Value → Shared → Prop}
theorem Inv.wish (I : Inv X pins σ H s) (E : Value → Shared → Prop) : Inv (X.wish E) pins σ H s := ⟨I.ok.wish E, I.os, I.bare, I.base, I.loc, I.cell, I.free, I.freeC, I.pin, I.hok, I.len⟩
theorem Inv.unwish (I : Inv (X.wish E) pins σ H s) : Inv X pins σ H s := ⟨I.ok.unwish, I.os, I.bare, I.base, I.loc, I.cell, I.free, I.freeC, I.pin, I.hok, I.len⟩
theorem SP.unwish {D : Ends} {f : Flow} {s' : Shared} (h : SP (X.wish E) pins D f s') : SP X pins D f s' := by
  cases f with
  | next => obtain ⟨σ', H', I, q⟩ := h; exact ⟨σ', H', I.unwish, q⟩
  | brk => obtain ⟨σ', H', I, q⟩ := h; exact ⟨σ', H', I.unwish, q⟩
  | cont => obtain ⟨σ', H', I, q⟩ := h; exact ⟨σ', H', I.unwish, q⟩
  | ret u => obtain ⟨v, σ', H', I, r, q⟩ := h; exact ⟨v, σ', H', I.unwish, r, q⟩
theorem PE.nox {e : Expr} {t : TE} (h : PE X.nox e t) : PE X e t := fun pins s σ H Q I hw =>
  wpAny_mono (h pins s σ H Q (I.wish _) hw) (fun _ _ ⟨v, H', I', r, q⟩ => ⟨v, H', I'.unwish, r, q⟩) fun _ _ z => False.elim z
theorem PT.nox {e : Expr} {t : TT} (h : PT X.nox e t) : PT X e t := fun pins s σ H Q I hw =>
  wpAny_mono (h pins s σ H Q (I.wish _) hw) (fun _ _ ⟨H', I', q⟩ => ⟨H', I'.unwish, q⟩) fun _ _ z => False.elim z
theorem PSs.nox {st : List Stmt} {t : TS} (h : PSs X.nox st t) : PSs X st t := fun pins s σ H D I hw =>
  wpAny_mono (h pins s σ H D (I.wish _) hw) (fun _ _ q => q.unwish) fun _ _ z => False.elim z
end

/-! ### blocks and small statements -/
section
variable {X : Cx} {st : Stmt} {rest : List Stmt} {t u : TS} {e : Expr} {te : TE} {pos : Pos}
def tNext : TS := fun D σ H => D.nx σ H
def tSeq (t u : TS) : TS := fun D σ H => t { D with nx := u D } σ H
theorem pss_nil : PSs X [] tNext := fun _ _ σ H _ I h => wpAny_execs_nil ⟨σ, H, I, h⟩
theorem pss_cons (h1 : PS X st t) (h2 : PSs X rest u) : PSs X (st :: rest) (tSeq t u) := by
  intro pins s σ H D I h
  refine wpAny_execs_cons (thn (h1 pins s σ H { D with nx := u D } I h) fun f s1 q => ?_)
  cases f with
  | next =>
    obtain ⟨σ', H', I', q⟩ := q
    exact h2 pins s1 σ' H' D I' q
  | ret v => exact q
  | brk => exact q
  | cont => exact q
theorem pss_one (h1 : PS X st t) : PSs X [st] t := by
  intro pins s σ H D I h
  refine wpAny_execs_cons (thn (h1 pins s σ H D I h) fun f s1 q => ?_)
  cases f with
  | next => exact wpAny_execs_nil q
  | ret v => exact q
  | brk => exact q
  | cont => exact q
/-- in a def's body nothing is shown -/
theorem Inv.quiet {pins : List (Addr × Obj)} {σ : St} {H : Hp} {s : Shared} (I : Inv X pins σ H s) : interactive X.env = false := by simp [interactive, I.ok.kind]
/-- an expression whose value is dropped -/
def tDrop (te : TE) : TS := fun D σ H => te σ H fun _ H1 => D.nx σ H1
theorem ps_expr (he : PE X e te) (hs : swapsWith e none pos.line X.env = pure false := by rfl) : PS X (.Expr e pos) (tDrop te) := by
  intro pins s σ H D I h
  exact wpAny_Expr_any (thn (he pins s σ H _ I h) fun v s1 ⟨x, H1, I1, r1, q1⟩ => ⟨σ, H1, I1, q1⟩) I.quiet hs
def tRet (te : TE) : TS := fun D σ H => te σ H D.rt
theorem ps_ret (he : PE X e te) : PS X (.Return (some e) pos) (tRet te) := by
  intro pins s σ H D I h
  exact wpAny_Return_some (thn (he pins s σ H _ I h) fun v s1 ⟨x, H1, I1, r1, q1⟩ => ⟨x, σ, H1, I1, r1, q1⟩)
def tIfS (c : TT) (t u : TS) : TS := fun D σ H => c σ H fun b H1 => if b = true then t D σ H1 else u D σ H1
theorem ps_if {c : Expr} {a b : List Stmt} {tc : TT} (hc : PT X c tc) (ha : PSs X a t) (hb : PSs X b u) : PS X (.If c a b pos) (tIfS tc t u) := by
  intro pins s σ H D I h
  refine wpAny_If (thn (hc pins s σ H _ I h) fun d s1 ⟨H1, I1, q1⟩ => ?_)
  cases d with
  | true => exact ha pins s1 σ H1 D I1 q1
  | false => exact hb pins s1 σ H1 D I1 q1
end

/-! ### targets -/
abbrev TG := V → St → Hp → (St → Hp → Prop) → Prop
abbrev TGs := List V → St → Hp → (St → Hp → Prop) → Prop
def PG (X : Cx) (target : Expr) (t : TG) : Prop :=
  ∀ (pins : List (Addr × Obj)) (s : Shared) (σ : St) (H : Hp) (v : V) (u : Value) (Q : St → Hp → Prop), Inv X pins σ H s → RelV v u → t v σ H Q →
    wpAny (model X.prog X.w) X.A (assign target X.env u) (fun _ s' => ∃ σ' H', Inv X pins σ' H' s' ∧ Q σ' H') X.xe s
/-- several targets, one after another -/
def PGs (X : Cx) (ts : List Expr) (t : TGs) : Prop :=
  ∀ (pins : List (Addr × Obj)) (s : Shared) (σ : St) (H : Hp) (vs : List V) (us : List Value) (Q : St → Hp → Prop), Inv X pins σ H s → Vals vs us → t vs σ H Q →
    wpAny (model X.prog X.w) X.A (assignInOrder ((assignEach ts X.env).map (·.2)) us) (fun _ s' => ∃ σ' H', Inv X pins σ' H' s' ∧ Q σ' H') X.xe s
/-- o[i] = v, by values -/
abbrev TSet := V → V → V → Hp → (Hp → Prop) → Prop
def PSet (X : Cx) (t : TSet) : Prop :=
  ∀ (pins : List (Addr × Obj)) (s : Shared) (σ : St) (H : Hp) (o i v : V) (ov iv u : Value) (Q : Hp → Prop), Inv X pins σ H s → RelV o ov → RelV i iv → RelV v u → t o i v H Q →
    wpAny (model X.prog X.w) X.A (setItem ov iv u) (fun _ s' => ∃ H', Inv X pins σ H' s' ∧ Q H') X.xe s
section
variable {X : Cx} {pos : Pos}
def gName (i : Nat) : TG := fun v σ H Q => Q (σ.set i (some v)) H
theorem pg_name {i : Nat} {x : Str} (hN : X.N.Nodup) (hi : X.N[i]? = some x) (hx : Loc X.env.scope x) (hf : X.fn x = true ∨ X.env.scope.names.lookup x = some .local := by first | exact .inl rfl | exact .inr rfl | assumption) : PG X (.Name x pos) (gName i) := by
  intro pins s σ H v u Q I r h
  exact wpAny_assign_Name (store_ok I hN hi hx r (fun s' I' => ⟨_, H, I', h⟩) hf)
def gNil : TGs := fun vs σ H Q => vs = [] ∧ Q σ H
def gCons (t : TG) (u : TGs) : TGs := fun vs σ H Q => ∃ v r, vs = v :: r ∧ t v σ H fun σ' H' => u r σ' H' Q
theorem pgs_nil : PGs X [] gNil := by
  intro pins s σ H vs us Q I r h
  obtain ⟨e, h⟩ := h
  subst e
  cases r
  exact assignInOrder_nil ⟨σ, H, I, h⟩
theorem pgs_cons {e : Expr} {es : List Expr} {t : TG} {u : TGs} (h1 : PG X e t) (h2 : PGs X es u)
    (hs : (assignEach (e :: es) X.env).map (·.2) = assign e X.env :: (assignEach es X.env).map (·.2) := by rfl) : PGs X (e :: es) (gCons t u) := by
  intro pins s σ H vs us Q I r h
  obtain ⟨v, vr, e1, h⟩ := h
  subst e1
  cases r with
  | cons r rr =>
    rw [hs]
    refine assignInOrder_cons (thn (h1 pins s σ H _ _ _ I r h) fun _ s1 ⟨σ1, H1, I1, q1⟩ => ?_)
    exact h2 pins s1 σ1 H1 _ _ Q I1 rr q1
/-- (a, b, ..) = a tuple of that length -/
def gTup (K : PySem.W.Frag) (n : Nat) (t : TGs) : TG := fun v σ H Q => ∃ a xs, v = .ref a ∧ SqT K H a xs ∧ xs.length = n ∧ t xs σ H Q
theorem pg_tup {es : List Expr} {k : Nat} {t : TGs} {n : Nat} (hc : X.calm = true) (h : PGs X es t)
    (hn : (assignEach es X.env).length = n := by rfl) (hst : (assignEach es X.env).findIdx? (·.1) = none := by rfl) : PG X (.Tuple es k pos) (gTup X.K n t) := by
  intro pins s σ H v u Q I r hw
  obtain ⟨a, xs, e1, hq, hl, hw⟩ := hw
  subst e1
  cases r
  obtain ⟨its, rv, ht, hz⟩ := I.tuple hq
  refine assign_Tuple_tuple (I.ok.hd hc) ht (by simp [hn, ← hl, rv.length]) hst fun h' hx => ?_
  have I1 : Inv X pins σ H { s with heap := h' } := I.kept (t' := s.toks) fun b o e => hx b o (Nat.ne_of_lt (Heap.lt_size e)) e
  exact h pins _ σ H xs _ Q I1 (by simpa using rv) hw
/-- o[i] = .. -/
def gSub (to ti : TE) (t : TSet) : TG := fun v σ H Q => to σ H fun o H1 => ti σ H1 fun i H2 => t o i v H2 fun H3 => Q σ H3
theorem pg_sub {o i : Expr} {to ti : TE} {t : TSet} (ho : PE X o to) (hi : PE X i ti) (hs : PSet X t)
    (ha : ∀ v, assign (.Subscript o i pos) X.env v = (do
      let ov ← holding [v] (eval o X.env)
      let iv ← holding [v, ov] (eval i X.env)
      standAt pos
      holding [v, ov, iv] (setItem ov iv v)
      release [v, ov, iv] []) := by intro _; rfl) : PG X (.Subscript o i pos) (gSub to ti t) := by
  intro pins s σ H v u Q I r h
  rw [ha]
  refine wpAny_bind (wpAny_holding (thn (ho pins s σ H _ I h) fun ov s1 ⟨x, H1, I1, r1, q1⟩ => ?_))
  refine wpAny_bind (wpAny_holding (thn (hi pins s1 σ H1 _ I1 q1) fun iv s2 ⟨y, H2, I2, r2, q2⟩ => ?_))
  refine wpAny_bind (wpAny_standAt (wpAny_bind (wpAny_holding (thn (hs pins s2 σ H2 x y v ov iv u _ I2 r1 r2 r q2) fun _ s3 ⟨H3, I3, q3⟩ => ?_))))
  exact wpAny_release ⟨σ, H3, I3, q3⟩
/-- target = value -/
def tAsg (te : TE) (g : TG) : TS := fun D σ H => te σ H fun x H1 => g x σ H1 D.nx
theorem ps_asg {tg e : Expr} {te : TE} {g : TG} (he : PE X e te) (hg : PG X tg g) (hs : swapsWithSole [tg] e pos.line X.env = pure false := by rfl) (hw : swappedStores [tg] e X.env = pure none := by rfl)
    (h1 : (assignEach [tg] X.env).map (·.2) = [assign tg X.env] := by rfl) : PS X (.Assign [tg] e pos) (tAsg te g) := by
  intro pins s σ H D I h
  refine wpAny_Assign_stores (thn (he pins s σ H _ I h) fun v s1 ⟨x, H1, I1, r1, q1⟩ => ?_) hs hw
  rw [h1]
  exact thn (hg pins s1 σ H1 x v _ I1 r1 q1) fun _ s2 q => q
/-- name = value -/
theorem ps_set {i : Nat} {x : Str} {e : Expr} {te : TE} {pos' : Pos} (hN : X.N.Nodup) (hi : X.N[i]? = some x) (hx : Loc X.env.scope x) (he : PE X e te) (hs : swapsWith e (some (.Name x pos')) pos.line X.env = pure false := by rfl) (hf : X.fn x = true ∨ X.env.scope.names.lookup x = some .local := by first | exact .inl rfl | exact .inr rfl | assumption) :
    PS X (.Assign [.Name x pos'] e pos) (tAsg te (gName i)) := by
  intro pins s σ H D I h
  refine wpAny_Assign_Name (thn (he pins s σ H _ I h) fun v s1 ⟨y, H1, I1, r1, q1⟩ => ?_) hs
  exact store_ok I1 hN hi hx r1 (fun s2 I2 => ⟨_, H1, I2, q1⟩) hf
end

/-! ### while -/
section
variable {X : Cx} {pos : Pos}
end

/-! ### what a loop or a comprehension walks -/
/-- at turn i: it yields x (the heap may grow), or it stops -/
structure It where
  go : Nat → Hp → Prop
  yld : Nat → Hp → V → Hp → Prop
  stop : Nat → Hp → Prop
/-- the iterator's own objects may turn: they are not the frame's, not pinned, younger than the entry (or a comprehension's own) -/
def FpOk (X : Cx) (pins : List (Addr × Obj)) (H : Hp) (b : Addr) : Prop :=
  H b = none ∧ b ≠ X.env.locals ∧ b ∉ X.fs ∧ (b ∈ X.ex ∨ X.s₀.heap.objs.size ≤ b) ∧ (∀ x c, X.env.cells.lookup x = some c → c ≠ b) ∧ ∀ p ∈ X.pn ++ pins, p.1 ≠ b
theorem Inv.fpOk {X : Cx} {pins : List (Addr × Obj)} {σ : St} {H H' : Hp} {s : Shared} {b : Addr} (I : Inv X pins σ H s) (hb : s.heap.objs.size ≤ b) (hn : H' b = none) : FpOk X pins H' b := by
  refine ⟨hn, Nat.ne_of_gt (Nat.lt_of_lt_of_le I.lt hb), I.nofs hb, .inr (Nat.le_trans I.sz hb), fun x c e z => ?_, fun p hp z => ?_⟩
  · obtain ⟨v, q⟩ := I.cell x c e
    exact absurd (Nat.lt_of_lt_of_le q.lt (by rw [z]; exact hb)) (Nat.lt_irrefl _)
  · exact absurd (Nat.lt_of_lt_of_le (Heap.lt_size (I.pin p hp).1) (by rw [z]; exact hb)) (Nat.lt_irrefl _)
structure Turn (P : Program) (w : World) (K : PySem.W.Frag) (tg : Expr) (J : It) (fp : List Addr) (it : Addr) (tn : Nat → Heap → Prop) : Prop where
  mem : it ∈ fp
  obj : ∀ i h, tn i h → ∀ b ∈ fp, ∃ o, h.get? b = some o ∧ ∀ v, o.data ≠ .cell v
  keep : ∀ i h h', tn i h → (∀ b ∈ fp, ∀ o, h.get? b = some o → h'.get? b = some o) → tn i h'
  item : ∀ (X : Cx), X.prog = P → X.w = w → X.K = K → X.calm = true → ∀ (i : Nat) (pins : List (Addr × Obj)) (s : Shared) (σ : St) (H : Hp) (E : Value → Shared → Prop), Inv X pins σ H s → (∀ b ∈ fp, FpOk X pins H b) → tn i s.heap → J.go i H →
    wpAny (model P w) X.A (pyNext (.ref it)) (fun r s1 => ∃ u, r = some u ∧
      wpAny (model P w) X.A (letOwnedTupleGo tg (.ref it) u) (fun _ s2 => ∃ x H', Inv X pins σ H' s2 ∧ RelV x u ∧ J.yld i H x H' ∧ tn (i + 1) s2.heap ∧ ∀ b ∈ fp, H' b = none) E s1) E s
  done : ∀ (X : Cx), X.prog = P → X.w = w → X.K = K → X.calm = true → ∀ (i : Nat) (pins : List (Addr × Obj)) (s : Shared) (σ : St) (H : Hp) (E : Value → Shared → Prop), Inv X pins σ H s → (∀ b ∈ fp, FpOk X pins H b) → tn i s.heap → J.stop i H →
    wpAny (model P w) X.A (pyNext (.ref it)) (fun r s1 => r = none ∧ Inv X pins σ H s1) E s
  self : ∀ (A : Around) (i : Nat) (s : Shared) (Q : Value → Shared → Prop) (E : Value → Shared → Prop), tn i s.heap → Q (.ref it) s → wpAny (model P w) A (pyIter (.ref it)) Q E s
abbrev TI := St → Hp → (It → Hp → Prop) → Prop
/-- an iterator has come -/
def PIE (X : Cx) (pins : List (Addr × Obj)) (σ : St) (tg : Expr) (R : It → Hp → Prop) (itv : Value) (s2 : Shared) : Prop :=
  ∃ (it : Addr) (fp : List Addr) (tn : Nat → Heap → Prop) (J : It) (H' : Hp), itv = .ref it ∧ Inv X pins σ H' s2 ∧ Turn X.prog X.w X.K tg J fp it tn ∧ tn 0 s2.heap ∧ (∀ b ∈ fp, FpOk X pins H' b) ∧ R J H'
def PI (X : Cx) (tg iter : Expr) (wi : TI) : Prop :=
  ∀ (pins : List (Addr × Obj)) (s : Shared) (σ : St) (H : Hp) (R : It → Hp → Prop), Inv X pins σ H s → wi σ H R →
    wpAny (model X.prog X.w) X.A (eval iter X.env) (fun v s1 => wpAny (model X.prog X.w) X.A (pyIter v) (PIE X pins σ tg R) X.xe s1) X.xe s

/-- the step ahead of the store is nothing for an iterator that keeps no tuple -/
theorem go_of {M : Model} {A : Around} {E : Value → Shared → Prop} {s : Shared} {tg : Expr} {it : Addr} {u : Value} {o : Obj} {n : String} {vs : Array Value} {Q : Unit → Shared → Prop} (ho : s.heap.get? it = some o) (hc : o.cls = .type n) (hd : o.data = .fields vs)
    (hn : ["enumerate", "zip", "dict_itemiterator", "dict_reverseitemiterator", "odict_iterator", "itertools.zip_longest", "itertools.pairwise"].contains n = false) (hQ : Q () s) : wpAny M A (letOwnedTupleGo tg (.ref it) u) Q E s := by
  unfold letOwnedTupleGo
  cases tg <;> first
    | exact wpAny_pure hQ
    | (cases u <;> first
        | exact wpAny_pure hQ
        | (refine wpAny_bind (wpAny_load ho ?_)
           rw [hc, hd]
           show wpAny M A (if (["enumerate", "zip", "dict_itemiterator", "dict_reverseitemiterator", "odict_iterator", "itertools.zip_longest", "itertools.pairwise"].contains n && vs[0]? == some (rawInt _)) = true then _ else _) Q E s
           rw [if_neg (by intro h; rw [hn, Bool.false_and] at h; cases h)]
           exact wpAny_pure hQ))

/-- the list at a, as it stands at each turn (a loop may append to it) -/
def Itl (K : PySem.W.Frag) (a : Addr) : It :=
  ⟨fun i H => ∃ xs x, SqL K H a xs ∧ xs[i]? = some x, fun i H x H' => H' = H ∧ ∀ xs, SqL K H a xs → xs[i]? = some x, fun i H => ∃ xs, SqL K H a xs ∧ xs.length ≤ i⟩
def Itt (K : PySem.W.Frag) (a : Addr) : It :=
  ⟨fun i H => ∃ xs x, SqT K H a xs ∧ xs[i]? = some x, fun i H x H' => H' = H ∧ ∀ xs, SqT K H a xs → xs[i]? = some x, fun i H => ∃ xs, SqT K H a xs ∧ xs.length ≤ i⟩
/-- lo, lo + 1, .. (n of them) -/
def Itr (lo : Int) (n : Nat) : It := ⟨fun i _ => i < n, fun i H x H' => H' = H ∧ x = .int (lo + i), fun i _ => n ≤ i⟩
theorem turn_list {P : Program} {w : World} {K : PySem.W.Frag} {tg : Expr} (a it : Addr) : Turn P w K tg (Itl K a) [it] it (fun i h => h.IsListIter it a i) where
  mem := by simp
  obj := fun i h st b hb => by
    have e : b = it := by simpa using hb
    subst e
    obtain ⟨o, e, c, d⟩ := st
    exact ⟨o, e, fun v z => by rw [d] at z; cases z⟩
  keep := fun i h h' st k => st.at fun o e => k it (by simp) o e
  item := by
    intro X hP hw hK hc i pins s σ H E I hf st hg
    subst hP hw hK
    obtain ⟨xs, x, hq, hx⟩ := hg
    obtain ⟨its, rv, p, hz⟩ := I.list hq
    obtain ⟨u, hu, ru⟩ := rv.get hx
    obtain ⟨f0, f1, f2, f3, f4, f5⟩ := hf it (by simp)
    refine wpAny_pyNext_list_item st p.isList (x := u) (by simpa using hu) fun h' st' sb => ?_
    have I1 : Inv X pins σ H { s with heap := h' } := I.turned (t' := s.toks) (fun b o hb e => (sb.2 b hb).trans e) f0 f1 f3 f4 f5
    obtain ⟨o, e, c, d⟩ := id st'
    exact ⟨u, rfl, go_of (s := { s with heap := h' }) e c d (by decide) ⟨x, H, I1, ru, ⟨rfl, fun ys hy => by rw [I.list_inj hy hq]; exact hx⟩, st', fun b hb => (hf b hb).1⟩⟩
  done := by
    intro X hP hw hK hc i pins s σ H E I hf st hg
    subst hP hw hK
    obtain ⟨xs, hq, hx⟩ := hg
    obtain ⟨its, rv, p, hz⟩ := I.list hq
    obtain ⟨f0, f1, f2, f3, f4, f5⟩ := hf it (by simp)
    have hl := rv.length
    exact wpAny_pyNext_list_end (I.ok.hd hc) st p.isList (by simp; omega) fun h' eb => ⟨rfl, I.turned (t' := s.toks) (fun b o hb e => eb b o hb e) f0 f1 f3 f4 f5⟩
  self := fun _ _ _ _ _ st h => wpAny_pyIter_listiter st h
theorem turn_tuple {P : Program} {w : World} {K : PySem.W.Frag} {tg : Expr} (a it : Addr) : Turn P w K tg (Itt K a) [it] it (fun i h => h.IsTupleIter it a i) where
  mem := by simp
  obj := fun i h st b hb => by
    have e : b = it := by simpa using hb
    subst e
    obtain ⟨o, e, c, d⟩ := st
    exact ⟨o, e, fun v z => by rw [d] at z; cases z⟩
  keep := fun i h h' st k => st.at fun o e => k it (by simp) o e
  item := by
    intro X hP hw hK hc i pins s σ H E I hf st hg
    subst hP hw hK
    obtain ⟨xs, x, hq, hx⟩ := hg
    obtain ⟨its, rv, p, hz⟩ := I.tuple hq
    obtain ⟨u, hu, ru⟩ := rv.get hx
    obtain ⟨f0, f1, f2, f3, f4, f5⟩ := hf it (by simp)
    refine wpAny_pyNext_tuple_item st (show s.heap.IsTuple a its.toArray from p) (x := u) (by simpa using hu) fun h' st' sb => ?_
    have I1 : Inv X pins σ H { s with heap := h' } := I.turned (t' := s.toks) (fun b o hb e => (sb.2 b hb).trans e) f0 f1 f3 f4 f5
    obtain ⟨o, e, c, d⟩ := id st'
    exact ⟨u, rfl, go_of (s := { s with heap := h' }) e c d (by decide) ⟨x, H, I1, ru, ⟨rfl, fun ys hy => by rw [I.tuple_inj hy hq]; exact hx⟩, st', fun b hb => (hf b hb).1⟩⟩
  done := by
    intro X hP hw hK hc i pins s σ H E I hf st hg
    subst hP hw hK
    obtain ⟨xs, hq, hx⟩ := hg
    obtain ⟨its, rv, p, hz⟩ := I.tuple hq
    obtain ⟨f0, f1, f2, f3, f4, f5⟩ := hf it (by simp)
    have hl := rv.length
    exact wpAny_pyNext_tuple_end (I.ok.hd hc) st (show s.heap.IsTuple a its.toArray from p) (by simp; omega) fun h' eb => ⟨rfl, I.turned (t' := s.toks) (fun b o hb e => eb b o hb e) f0 f1 f3 f4 f5⟩
  self := fun _ _ _ _ _ st h => wpAny_pyIter_tupleiter st h
theorem turn_range {P : Program} {w : World} {K : PySem.W.Frag} {tg : Expr} (it : Addr) (lo : Int) (n : Nat) : Turn P w K tg (Itr lo n) [it] it (fun i h => IsRangeIter h it (lo + (i : Nat) * 1) ((n : Int) - (i : Nat)) 1) where
  mem := by simp
  obj := fun i h st b hb => by
    have e : b = it := by simpa using hb
    subst e
    exact ⟨_, st, fun v z => by
      have z' : Data.fields _ = Data.cell v := z
      cases z'⟩
  keep := fun i h h' st k => k it (by simp) _ st
  item := by
    intro X hP hw hK hc i pins s σ H E I hf st hg
    subst hP hw hK
    obtain ⟨f0, f1, f2, f3, f4, f5⟩ := hf it (by simp)
    have W := Walks.range (prog := X.prog) (w := X.w) (I.ok.hd hc) it lo 1 n
    refine W.item i s _ _ hg st fun v h' tk hv st' kk => ?_
    obtain ⟨t, rfl⟩ := hv
    have I1 : Inv X pins σ H { s with heap := h', toks := tk } := I.turned (fun b o hb e => kk b o (by simpa using hb) e) f0 f1 f3 f4 f5
    refine ⟨_, rfl, go_of (s := { s with heap := h', toks := tk }) (n := "range_iterator") st' rfl rfl (by decide) ⟨.int (lo + i), H, I1, ⟨t, ?_⟩, ⟨rfl, rfl⟩, st', fun b hb => (hf b hb).1⟩⟩
    rw [Int.mul_one]
  done := by
    intro X hP hw hK hc i pins s σ H E I hf st hg
    subst hP hw hK
    obtain ⟨f0, f1, f2, f3, f4, f5⟩ := hf it (by simp)
    exact wpAny_pyNext_range_end (I.ok.hd hc) st (by have : n ≤ i := hg; omega) fun h' eb => ⟨rfl, I.turned (t' := s.toks) (fun b o hb e => eb b o hb e) f0 f1 f3 f4 f5⟩
  self := fun _ _ _ _ _ st h => wpAny_pyIter_rangeiter st h
end L2

namespace L2
open PySem PySem.Spec PyProof.Rows
section
variable {X : Cx} {tg : Expr}
/-- a range object just made, walked -/
theorem range_it {pins : List (Addr × Obj)} {σ : St} {H : Hp} {s : Shared} {R : It → Hp → Prop} {E : Value → Shared → Prop} {lo hi : Int} {t u v : Tok} {tk : Nat} (I : Inv X pins σ H s) (h1 : -(2 ^ 62) ≤ lo) (h2 : lo < 2 ^ 62) (h3 : -(2 ^ 62) ≤ hi) (h4 : hi < 2 ^ 62)
    (q : R (Itr lo (hi - lo).toNat) H) : wpAny (model X.prog X.w) X.A (pyIter (.ref s.heap.objs.size)) (PIE X pins σ tg R) E { s with heap := s.heap.push { cls := .type "range", data := .fields #[.int lo t, .int hi u, .int 1 v] }, toks := tk } := by
  refine wpAny_pyIter_range (IsRange.new ..) (small_one h1 h2 h3 h4) ?_
  have I1 : Inv X pins σ H { s with heap := s.heap.push { cls := .type "range", data := .fields #[.int lo t, .int hi u, .int 1 v] }, toks := tk } := I.kept fun b o e => Heap.get?_push_of_some _ e
  refine ⟨(s.heap.push { cls := .type "range", data := .fields #[.int lo t, .int hi u, .int 1 v] }).objs.size, [(s.heap.push { cls := .type "range", data := .fields #[.int lo t, .int hi u, .int 1 v] }).objs.size], _, _, H, rfl,
    I1.kept (t' := tk) fun b o e => Heap.get?_push_of_some _ e, turn_range _ lo (hi - lo).toNat, ?_, fun b hb => ?_, q⟩
  · have e1 : lo + ((0 : Nat) : Int) * 1 = lo := by simp
    have e2 : (((hi - lo).toNat : Nat) : Int) - ((0 : Nat) : Int) = Builtin.Range.rangeSize lo hi 1 := by rw [rangeSize_one]; split <;> omega
    show IsRangeIter _ _ (lo + ((0 : Nat) : Int) * 1) ((((hi - lo).toNat : Nat) : Int) - ((0 : Nat) : Int)) 1
    rw [e1, e2]
    exact Heap.get?_push_size _ rfl
  · have e : b = (s.heap.push { cls := .type "range", data := .fields #[.int lo t, .int hi u, .int 1 v] }).objs.size := by simpa using hb
    subst e
    exact I1.fpOk (Nat.le_refl _) (I1.hok.fresh (Nat.le_refl _))
def iRng1 (ta : TA) : TI := fun σ H R => ta σ H fun vs H1 => ∃ j : Int, vs = [.int j] ∧ -(2 ^ 62) ≤ j ∧ j < 2 ^ 62 ∧ R (Itr 0 j.toNat) H1
def iRng2 (ta : TA) : TI := fun σ H R => ta σ H fun vs H1 => ∃ i j : Int, vs = [.int i, .int j] ∧ (-(2 ^ 62) ≤ i ∧ i < 2 ^ 62 ∧ -(2 ^ 62) ≤ j ∧ j < 2 ^ 62) ∧ R (Itr i (j - i).toNat) H1
theorem pi_range1 {a : Expr} {ta : TA} {p pos : Pos} (hg : Gl X "range") (hm : X.mg "range" = none) (ha : PA X [a] ta) (hs : starEach [a] X.env = [(false, eval a X.env)] := by rfl) : PI X tg (.Call (.Name "range" p) [a] [] pos) (iRng1 ta) := by
  intro pins s σ H R I h
  refine Call_ (ld_blt I hg hm boot_range (PyProof.Rows.callWith_type1 (thn (ha pos pins s σ H _ I h) fun us s1 ⟨vs, H1, I1, r1, q1⟩ => ?_) hs rfl))
  obtain ⟨j, e, q1, q2, q⟩ := q1
  subst e
  cases r1 with
  | cons r rr =>
    cases rr
    obtain ⟨t, rfl⟩ := r
    exact call_range_1 (range_it I1 (by omega) (by omega) q1 q2 (by simpa using q))
theorem pi_range2 {a b : Expr} {ta : TA} {p pos : Pos} (hg : Gl X "range") (hm : X.mg "range" = none) (ha : PA X [a, b] ta) (hs : starEach [a, b] X.env = [(false, eval a X.env), (false, eval b X.env)] := by rfl) (hs2 : starEach [b] X.env = [(false, eval b X.env)] := by rfl) :
    PI X tg (.Call (.Name "range" p) [a, b] [] pos) (iRng2 ta) := by
  intro pins s σ H R I h
  refine Call_ (ld_blt I hg hm boot_range (PyProof.Rows.callWith_type1 (thn (ha pos pins s σ H _ I h) fun us s1 ⟨vs, H1, I1, r1, q1⟩ => ?_) (by rw [hs, hs2]) (by rw [hs2]; rfl)))
  obtain ⟨i, j, e, ⟨q1, q2, q3, q4⟩, q⟩ := q1
  subst e
  cases r1 with
  | cons r rr =>
    cases rr with
    | cons r' rr =>
      cases rr
      obtain ⟨t, rfl⟩ := r
      obtain ⟨t', rfl⟩ := r'
      exact call_range_2 (range_it I1 q1 q2 q3 q4 q)

/-! ### for -/
/-- W: the invariant by the turn and a measure; N: what the body is to reach -/
def tFor (wi : TI) (g : TG) (tb : TS) : TS := fun D σ H => wi σ H fun J H1 => ∃ W : Nat → Nat → St → Hp → Prop, (∃ m, W 0 m σ H1) ∧ ∀ i m σ H, W i m σ H →
  (J.stop i H ∧ D.nx σ H) ∨ (J.go i H ∧ ∃ N : St → Hp → Prop, (∀ σ' H', N σ' H' → ∃ m', m' < m ∧ W (i + 1) m' σ' H') ∧ ∀ x H', J.yld i H x H' → g x σ H' fun σ2 H2 => tb { D with nx := N, ct := N, bk := D.nx } σ2 H2)
/-- the records at fp as they stand -/
def pinsAt (fp : List Addr) (h : Heap) : List (Addr × Obj) := fp.filterMap fun b => (h.get? b).map fun o => (b, o)
theorem mem_pinsAt {fp : List Addr} {h : Heap} {b : Addr} {o : Obj} (hb : b ∈ fp) (e : h.get? b = some o) : (b, o) ∈ pinsAt fp h := List.mem_filterMap.mpr ⟨b, hb, by rw [e]; rfl⟩
theorem of_pinsAt {fp : List Addr} {h : Heap} {p : Addr × Obj} (hp : p ∈ pinsAt fp h) : p.1 ∈ fp ∧ h.get? p.1 = some p.2 := by
  obtain ⟨b, hb, e⟩ := List.mem_filterMap.mp hp
  cases q : h.get? b with
  | none => rw [q] at e; cases e
  | some o =>
    rw [q] at e
    have e' : (b, o) = p := Option.some.inj e
    subst e'
    exact ⟨hb, q⟩
theorem Inv.pinned {pins : List (Addr × Obj)} {σ : St} {H : Hp} {s : Shared} {fp : List Addr} (I : Inv X pins σ H s) (hf : ∀ b ∈ fp, FpOk X pins H b) (ho : ∀ b ∈ fp, ∃ o, s.heap.get? b = some o ∧ ∀ v, o.data ≠ .cell v) : Inv X (pins ++ pinsAt fp s.heap) σ H s :=
  I.pins_of fun p hp => (List.mem_append.mp hp).elim (fun z => I.pin p (List.mem_append_right _ z)) fun z => by
    obtain ⟨hb, e⟩ := of_pinsAt z
    obtain ⟨f0, f1, f2, _⟩ := hf p.1 hb
    obtain ⟨o, e', d⟩ := ho p.1 hb
    rw [e] at e'; cases e'
    exact ⟨e, f0, f1, f2, d⟩
theorem Inv.unpinned {pins pl : List (Addr × Obj)} {σ : St} {H : Hp} {s : Shared} (I : Inv X (pins ++ pl) σ H s) : Inv X pins σ H s := I.pins_of fun p hp => I.pin p (List.mem_append_right _ (List.mem_append_left _ hp))
theorem ps_for {iter : Expr} {body : List Stmt} {wi : TI} {g : TG} {tb : TS} {pos : Pos} (hp : PassesOwn (model X.prog X.w) X.A X.env X.xe) (hc : X.calm = true) (hi : PI X tg iter wi) (hg : PG X tg g) (hb : PSs X body tb)
    (hs : ∀ x, foldedSetIterable iter X.env x = pure x := by intro _; rfl) : PS X (.For tg iter body [] pos) (tFor wi g tb) := by
  intro pins s σ H D I h
  refine wpAny_For (thn (hi pins s σ H _ I h) fun v s1 h1 => thn h1 fun itv s2 h2 => ?_) hs
  obtain ⟨it, fp, tn, J, H2, e, I2, T, st2, f2, W, ⟨m0, w0⟩, turn⟩ := h2
  subst e
  -- what stays true of the iterator's objects through the loop
  have stat : ∀ {H' : Hp}, (∀ b ∈ fp, H' b = none) → ∀ b ∈ fp, FpOk X pins H' b := fun hn b hb => ⟨hn b hb, (f2 b hb).2⟩
  refine codeAny_forLoop_any (fun n s' => ∃ i σ' H', Inv X pins σ' H' s' ∧ tn i s'.heap ∧ (∀ b ∈ fp, H' b = none) ∧ W i n σ' H') ?_ m0 ⟨0, σ, H2, I2, st2, fun b hb => (f2 b hb).1, w0⟩
  rintro n s3 ⟨i, σ3, H3, I3, st3, fr3, w3⟩
  rcases turn i n σ3 H3 w3 with ⟨stop, qn⟩ | ⟨go, N, hN, step⟩
  · refine wpAny_passesOwn hp (thn (T.done X rfl rfl rfl hc i pins s3 σ3 H3 X.xe I3 (stat fr3) st3 stop) fun r s4 ⟨hr, I4⟩ => ?_)
    subst hr
    exact wpAny_execs_nil ⟨σ3, H3, I4, qn⟩
  · refine wpAny_passesOwn hp (thn (T.item X rfl rfl rfl hc i pins s3 σ3 H3 X.xe I3 (stat fr3) st3 go) fun r s4 ⟨u, hr, h4⟩ => ?_)
    subst hr
    refine wpAny_passesOwn hp (thn h4 fun _ s5 ⟨x, H5, I5, r5, y5, st5, fr5⟩ => ?_)
    have I5' := I5.pinned (stat fr5) (T.obj _ _ st5)
    refine wpAny_passesOwn hp (thn (hg _ s5 σ3 H5 x u _ I5' r5 (step x H5 y5)) fun _ s6 ⟨σ6, H6, I6, q6⟩ => ?_)
    refine wpAny_passesOwn hp (thn (hb _ s6 σ6 H6 _ I6 q6) fun f s7 q7 => ?_)
    have again : ∀ {σ7 : St} {H7 : Hp}, Inv X (pins ++ pinsAt fp s5.heap) σ7 H7 s7 → N σ7 H7 → ∃ m, m < n ∧ ∃ i σ' H', Inv X pins σ' H' s7 ∧ tn i s7.heap ∧ (∀ b ∈ fp, H' b = none) ∧ W i m σ' H' := fun {σ7 H7} I7 n7 => by
      obtain ⟨m', hm, w7⟩ := hN σ7 H7 n7
      refine ⟨m', hm, i + 1, σ7, H7, I7.unpinned, T.keep _ _ _ st5 fun b hb o e => (I7.pin (b, o) (List.mem_append_right _ (List.mem_append_right _ (mem_pinsAt hb e)))).1, fun b hb => ?_, w7⟩
      obtain ⟨o, e, d⟩ := T.obj _ _ st5 b hb
      exact (I7.pin (b, o) (List.mem_append_right _ (List.mem_append_right _ (mem_pinsAt hb e)))).2.1
    cases f with
    | next => obtain ⟨σ7, H7, I7, n7⟩ := q7; exact again I7 n7
    | cont => obtain ⟨σ7, H7, I7, n7⟩ := q7; exact again I7 n7
    | brk => obtain ⟨σ7, H7, I7, q7⟩ := q7; exact ⟨σ7, H7, I7.unpinned, q7⟩
    | ret v => obtain ⟨x7, σ7, H7, I7, r7, q7⟩ := q7; exact ⟨x7, σ7, H7, I7.unpinned, r7, q7⟩
end

/-! ### the forms one uses -/
/-- over a list that the body leaves as it is -/
theorem for_list {K : PySem.W.Frag} {a : Addr} {xs : List V} {g : TG} {tb : TS} {D : Ends} {σ : St} {H : Hp} (Pv : Nat → St → Hp → Prop) (h0 : Pv 0 σ H) (hl : ∀ i σ H, i ≤ xs.length → Pv i σ H → SqL K H a xs)
    (hs : ∀ i x σ H, xs[i]? = some x → Pv i σ H → g x σ H fun σ2 H2 => tb { D with nx := Pv (i + 1), ct := Pv (i + 1), bk := D.nx } σ2 H2) (hd : ∀ σ H, Pv xs.length σ H → D.nx σ H) :
    ∃ W : Nat → Nat → St → Hp → Prop, (∃ m, W 0 m σ H) ∧ ∀ i m σ H, W i m σ H →
      ((Itl K a).stop i H ∧ D.nx σ H) ∨ ((Itl K a).go i H ∧ ∃ N : St → Hp → Prop, (∀ σ' H', N σ' H' → ∃ m', m' < m ∧ W (i + 1) m' σ' H') ∧ ∀ x H', (Itl K a).yld i H x H' → g x σ H' fun σ2 H2 => tb { D with nx := N, ct := N, bk := D.nx } σ2 H2) := by
  refine ⟨fun i m σ H => m = xs.length - i ∧ i ≤ xs.length ∧ Pv i σ H, ⟨xs.length, by simp, Nat.zero_le _, h0⟩, ?_⟩
  rintro i m σ H ⟨rfl, hi, p⟩
  have q := hl i σ H hi p
  by_cases hlt : i < xs.length
  · refine .inr ⟨⟨xs, xs[i], q, by simp [hlt]⟩, Pv (i + 1), fun σ' H' p' => ⟨xs.length - (i + 1), by omega, rfl, hlt, p'⟩, fun x H' y => ?_⟩
    obtain ⟨e, y⟩ := y
    subst e
    exact hs i x σ _ (y xs q) p
  · have e : i = xs.length := by omega
    subst e
    exact .inl ⟨⟨xs, q, Nat.le_refl _⟩, hd σ H p⟩
theorem for_range {lo : Int} {n : Nat} {g : TG} {tb : TS} {D : Ends} {σ : St} {H : Hp} (Pv : Nat → St → Hp → Prop) (h0 : Pv 0 σ H)
    (hs : ∀ i σ H, i < n → Pv i σ H → g (.int (lo + i)) σ H fun σ2 H2 => tb { D with nx := Pv (i + 1), ct := Pv (i + 1), bk := D.nx } σ2 H2) (hd : ∀ σ H, Pv n σ H → D.nx σ H) :
    ∃ W : Nat → Nat → St → Hp → Prop, (∃ m, W 0 m σ H) ∧ ∀ i m σ H, W i m σ H →
      ((Itr lo n).stop i H ∧ D.nx σ H) ∨ ((Itr lo n).go i H ∧ ∃ N : St → Hp → Prop, (∀ σ' H', N σ' H' → ∃ m', m' < m ∧ W (i + 1) m' σ' H') ∧ ∀ x H', (Itr lo n).yld i H x H' → g x σ H' fun σ2 H2 => tb { D with nx := N, ct := N, bk := D.nx } σ2 H2) := by
  refine ⟨fun i m σ H => m = n - i ∧ i ≤ n ∧ Pv i σ H, ⟨n, by simp, Nat.zero_le _, h0⟩, ?_⟩
  rintro i m σ H ⟨rfl, hi, p⟩
  by_cases hlt : i < n
  · refine .inr ⟨hlt, Pv (i + 1), fun σ' H' p' => ⟨n - (i + 1), by omega, rfl, hlt, p'⟩, fun x H' y => ?_⟩
    obtain ⟨e, y⟩ := y
    subst e y
    exact hs i σ _ hlt p
  · have e : i = n := by omega
    subst e
    exact .inl ⟨Nat.le_refl _, hd σ H p⟩
end L2

namespace L2
open PySem PySem.Spec PyProof.Rows

abbrev R2 := V → V → Hp → VK → Prop
/-- a two-place operation on values: f is binaryOp op, inplaceOp op or compareOp op -/
def OpR (X : Cx) (f : Value → Value → Sem Value) (r : R2) : Prop :=
  ∀ (pins : List (Addr × Obj)) (s : Shared) (σ : St) (H : Hp) (x y : V) (v u : Value) (Q : VK), Inv X pins σ H s → RelV x v → RelV y u → r x y H Q →
    wpAny (model X.prog X.w) X.A (f v u) (EP X pins σ Q) X.xe s
/-- a one-place operation -/
def UnR (X : Cx) (f : Value → Sem Value) (r : V → Hp → VK → Prop) : Prop :=
  ∀ (pins : List (Addr × Obj)) (s : Shared) (σ : St) (H : Hp) (x : V) (v : Value) (Q : VK), Inv X pins σ H s → RelV x v → r x H Q →
    wpAny (model X.prog X.w) X.A (f v) (EP X pins σ Q) X.xe s
/-- a call of a value that is known (a builtin, a type) with values -/
def CallR (X : Cx) (f : Value) (r : List V → Hp → VK → Prop) : Prop :=
  ∀ (pins : List (Addr × Obj)) (s : Shared) (σ : St) (H : Hp) (xs : List V) (us : List Value) (Q : VK), Inv X pins σ H s → Vals xs us → r xs H Q →
    wpAny (model X.prog X.w) X.A (call f us) (EP X pins σ Q) X.xe s
/-- a value's truth -/
def TruR (X : Cx) (r : V → Hp → (Bool → Hp → Prop) → Prop) : Prop :=
  ∀ (pins : List (Addr × Obj)) (s : Shared) (σ : St) (H : Hp) (x : V) (v : Value) (Q : Bool → Hp → Prop), Inv X pins σ H s → RelV x v → r x H Q →
    wpAny (model X.prog X.w) X.A (truthy v) (TP X pins σ Q) X.xe s

def tOp (r : R2) (ta tb : TE) : TE := fun σ H Q => ta σ H fun x H1 => tb σ H1 fun y H2 => r x y H2 Q
def tUn (r : V → Hp → VK → Prop) (ta : TE) : TE := fun σ H Q => ta σ H fun x H1 => r x H1 Q
/-- ints in, under C, and a value out -/
def rI (C : Int → Int → Prop) (g : Int → Int → V) : R2 := fun x y H Q => ∃ i j, x = .int i ∧ y = .int j ∧ C i j ∧ Q (g i j) H
def rI0 (g : Int → Int → V) : R2 := fun x y H Q => ∃ i j, x = .int i ∧ y = .int j ∧ Q (g i j) H
def rU (g : Int → V) : V → Hp → VK → Prop := fun x H Q => ∃ i, x = .int i ∧ Q (g i) H

section
variable {X : Cx} {a b c : Expr} {ta tb tc : TE} {pos : Pos}

theorem binT (ha : PE X a ta) (hb : PE X b tb) {pins : List (Addr × Obj)} {s : Shared} {σ : St} {H : Hp} {R : V → V → Hp → Prop} (I : Inv X pins σ H s)
    (h : ta σ H fun x H1 => tb σ H1 fun y H2 => R x y H2) {Q : Value → Shared → Prop} {f : Value → Value → Sem Value}
    (hf : ∀ v u s2 x y H2, Inv X pins σ H2 s2 → RelV x v → RelV y u → R x y H2 → wpAny (model X.prog X.w) X.A (f v u) Q X.xe s2) :
    wpAny (model X.prog X.w) X.A (eval a X.env) (fun v s₁ => wpAny (model X.prog X.w) X.A (eval b X.env) (fun u s₂ => wpAny (model X.prog X.w) X.A (f v u) Q X.xe s₂) X.xe s₁) X.xe s := by
  refine thn (ha pins s σ H _ I h) fun v s1 ⟨x, H1, I1, r1, q1⟩ => ?_
  refine thn (hb pins s1 σ H1 _ I1 q1) fun u s2 ⟨y, H2, I2, r2, q2⟩ => ?_
  exact hf v u s2 x y H2 I2 r1 r2 q2

theorem pe_op {op : Operator} {r : R2} (ho : OpR X (binaryOp op) r) (ha : PE X a ta) (hb : PE X b tb) : PE X (.BinOp a op b pos) (tOp r ta tb) := by
  intro pins s σ H Q I h
  exact wpAny_BinOp (binT ha hb I h fun v u s2 x y H2 I2 rx ry q => ho pins s2 σ H2 x y v u Q I2 rx ry q)
theorem pe_un {op : UnaryOp} {r : V → Hp → VK → Prop} (ho : UnR X (unaryOp op) r) (ha : PE X a ta) : PE X (.UnaryOp op a pos) (tUn r ta) := by
  intro pins s σ H Q I h
  exact UnaryOp_ (thn (ha pins s σ H _ I h) fun v s1 ⟨x, H1, I1, r1, q1⟩ => ho pins s1 σ H1 x v Q I1 r1 q1)
/-! ### ints -/
theorem opI {f : Value → Value → Sem Value} {C : Int → Int → Prop} {g : Int → Int → Int}
    (rule : ∀ (i j : Int) (t u : Tok) (s : Shared) (Q : Value → Shared → Prop) (E : Value → Shared → Prop), C i j → Q (.int (g i j) s.toks) { s with toks := s.toks + 1 } → wpAny (model X.prog X.w) X.A (f (.int i t) (.int j u)) Q E s) :
    OpR X f (rI C fun i j => .int (g i j)) := by
  intro pins s σ H x y v u Q I rx ry h
  obtain ⟨i, j, rfl, rfl, hc, q⟩ := h
  obtain ⟨t, rfl⟩ := rx
  obtain ⟨t', rfl⟩ := ry
  exact rule i j t t' s _ _ hc ⟨.int (g i j), H, I.tok _, ⟨_, rfl⟩, q⟩
theorem opI0 {f : Value → Value → Sem Value} {g : Int → Int → Int}
    (rule : ∀ (i j : Int) (t u : Tok) (s : Shared) (Q : Value → Shared → Prop) (E : Value → Shared → Prop), Q (.int (g i j) s.toks) { s with toks := s.toks + 1 } → wpAny (model X.prog X.w) X.A (f (.int i t) (.int j u)) Q E s) :
    OpR X f (rI0 fun i j => .int (g i j)) := by
  intro pins s σ H x y v u Q I rx ry h
  obtain ⟨i, j, rfl, rfl, q⟩ := h
  obtain ⟨t, rfl⟩ := rx
  obtain ⟨t', rfl⟩ := ry
  exact rule i j t t' s _ _ ⟨.int (g i j), H, I.tok _, ⟨_, rfl⟩, q⟩
theorem opB0 {f : Value → Value → Sem Value} {g : Int → Int → Bool}
    (rule : ∀ (i j : Int) (t u : Tok) (s : Shared) (Q : Value → Shared → Prop) (E : Value → Shared → Prop), Q (.bool (g i j)) s → wpAny (model X.prog X.w) X.A (f (.int i t) (.int j u)) Q E s) :
    OpR X f (rI0 fun i j => .bl (g i j)) := by
  intro pins s σ H x y v u Q I rx ry h
  obtain ⟨i, j, rfl, rfl, q⟩ := h
  obtain ⟨t, rfl⟩ := rx
  obtain ⟨t', rfl⟩ := ry
  exact rule i j t t' s _ _ ⟨.bl (g i j), H, I, rfl, q⟩

def CDiv (i j : Int) : Prop := 0 < j ∧ j < 1073741824
def CPow (i j : Int) : Prop := 0 ≤ j ∧ j ≤ 1000000 ∧ i.natAbs < 2 ^ 64
def CMul (i j : Int) : Prop := (-(2 ^ 64) < i ∧ i < 2 ^ 64) ∨ (-(2 ^ 64) < j ∧ j < 2 ^ 64)
theorem CMul.ok {i j : Int} (h : CMul i j) : IntMulOk i j := by
  rcases h with ⟨h1, h2⟩ | ⟨h1, h2⟩
  · exact .of_left (intBits_le_64 h1 h2)
  · exact .of_right (intBits_le_64 h1 h2)
theorem two_pow_nn (k : Nat) : (0 : Int) ≤ 2 ^ k := by
  rw [two_pow_cast]
  exact Int.natCast_nonneg _

theorem op_add : OpR X (binaryOp .Add) (rI0 fun i j => .int (i + j)) := opI0 fun _ _ _ _ _ _ _ q => add_int q
theorem op_sub : OpR X (binaryOp .Sub) (rI0 fun i j => .int (i - j)) := opI0 fun _ _ _ _ _ _ _ q => sub_int q
theorem op_mul : OpR X (binaryOp .Mult) (rI CMul fun i j => .int (i * j)) := opI fun _ _ _ _ _ _ _ hc q => mul_int q hc.ok
/-- // by a positive divisor -/
theorem op_fdiv : OpR X (binaryOp .FloorDiv) (rI CDiv fun i j => .int (i / j)) := opI fun i j _ _ _ _ _ hc q => by
  have h1 : (0 : Int) < j := hc.1
  have h2 : j < 1073741824 := hc.2
  exact floordiv_int (by omega) (by rw [Int.fdiv_eq_ediv_of_nonneg i (by omega)]; exact q) (.inl (PyProof.noPylong_small (by omega)))
/-- % by a positive divisor of any size -/
theorem op_mod : OpR X (binaryOp .Mod) (rI (fun _ j => 0 < j) fun i j => .int (i % j)) := opI fun i j _ _ _ _ _ hc q => by
  have h1 : (0 : Int) < j := hc
  exact mod_int' (by omega) (by rw [Int.fmod_eq_emod_of_nonneg i (by omega)]; exact q)
theorem op_pow : OpR X (binaryOp .Pow) (rI CPow fun i j => .int (i ^ j.toNat)) := opI fun _ _ _ _ _ _ _ hc q => pow_int_small hc.1 hc.2.1 hc.2.2 q
theorem op_shr : OpR X (binaryOp .RShift) (rI (fun _ j => 0 ≤ j) fun i j => .int (i / 2 ^ j.toNat)) := opI fun i j _ _ _ _ _ hc q =>
  rshift_int hc (by rw [Int.fdiv_eq_ediv_of_nonneg i (two_pow_nn _)]; exact q)
theorem unI {f : Value → Sem Value} {g : Int → Int}
    (rule : ∀ (i : Int) (t : Tok) (s : Shared) (Q : Value → Shared → Prop) (E : Value → Shared → Prop), Q (.int (g i) s.toks) { s with toks := s.toks + 1 } → wpAny (model X.prog X.w) X.A (f (.int i t)) Q E s) :
    UnR X f (rU fun i => .int (g i)) := by
  intro pins s σ H x v Q I rx h
  obtain ⟨i, rfl, q⟩ := h
  obtain ⟨t, rfl⟩ := rx
  exact rule i t s _ _ ⟨.int (g i), H, I.tok _, ⟨_, rfl⟩, q⟩
theorem un_neg : UnR X (unaryOp .USub) (rU fun i => .int (-i)) := unI fun _ _ _ _ _ q => neg_int q
/-! ### bools among ints: n += (a < b) -/
end

/-! ### comparisons -/
/-- the scalars that == tells apart as data does -/
def scal : V → V → Bool
  | .non, .non => true | .non, .int _ => true | .int _, .non => true | .non, .bl _ => true | .bl _, .non => true | .non, .str _ => true | .str _, .non => true
  | .int _, .int _ => true | .bl _, .bl _ => true | .str _, .str _ => true | .byt _, .byt _ => true
  | .int _, .str _ => true | .str _, .int _ => true | .bl _, .str _ => true | .str _, .bl _ => true
  | _, _ => false
def rEq : R2 := fun x y H Q => scal x y = true ∧ Q (.bl (decide (x = y))) H
def rNe : R2 := fun x y H Q => scal x y = true ∧ Q (.bl (!decide (x = y))) H

theorem dec_int {i j : Int} : decide (V.int i = V.int j) = (i == j) := by
  rw [Bool.eq_iff_iff]
  simp
theorem dec_bl {i j : Bool} : decide (V.bl i = V.bl j) = (i == j) := by
  rw [Bool.eq_iff_iff]
  simp
theorem dec_str {i j : Str} : decide (V.str i = V.str j) = (i == j) := by
  rw [Bool.eq_iff_iff]
  simp
theorem dec_byt {i j : Array UInt8} : decide (V.byt i = V.byt j) = (i.toList == j.toList) := by
  rw [Bool.eq_iff_iff]
  cases i
  cases j
  simp

section
variable {X : Cx} {a b c : Expr} {ta tb tc : TE} {pos : Pos}
theorem fin_bl {pins : List (Addr × Obj)} {σ : St} {H : Hp} {s : Shared} {Q : VK} {k k' : Bool} (I : Inv X pins σ H s) (q : Q (.bl k) H) (e : k = k') : EP X pins σ Q (.bool k') s := by
  subst e
  exact ⟨.bl k, H, I, rfl, q⟩
theorem op_eq : OpR X (compareOp .Eq) rEq := by
  intro pins s σ H x y v u Q I rx ry h
  obtain ⟨hs, q⟩ := h
  cases x with
  | non =>
    cases rx
    cases y with
    | non => cases ry; exact PySem.EqNone.eq_none_none (fin_bl I q (by simp))
    | bl j => cases ry; exact PySem.EqNone.eq_none_bool (fin_bl I q (by simp))
    | int j => obtain ⟨t', rfl⟩ := ry; exact PySem.EqNone.eq_none_int (fin_bl I q (by simp))
    | str j => obtain ⟨t', rfl⟩ := ry; exact PySem.EqNone.eq_none_str (fin_bl I q (by simp))
    | _ => exact absurd (show false = true from hs) Bool.false_ne_true
  | bl i =>
    cases rx
    cases y with
    | non => cases ry; exact PySem.EqNone.eq_bool_none (fin_bl I q (by simp))
    | bl j => cases ry; exact eq_bool (fin_bl I q dec_bl)
    | str j => obtain ⟨t', rfl⟩ := ry; exact PySem.EqMixed.eq_bool_str (fin_bl I q (by simp))
    | _ => exact absurd (show false = true from hs) Bool.false_ne_true
  | int i =>
    obtain ⟨t, rfl⟩ := rx
    cases y with
    | non => cases ry; exact PySem.EqNone.eq_int_none (fin_bl I q (by simp))
    | int j => obtain ⟨t', rfl⟩ := ry; exact eq_int (fin_bl I q dec_int)
    | str j => obtain ⟨t', rfl⟩ := ry; exact PySem.EqMixed.eq_int_str (fin_bl I q (by simp))
    | _ => exact absurd (show false = true from hs) Bool.false_ne_true
  | str i =>
    obtain ⟨t, rfl⟩ := rx
    cases y with
    | non => cases ry; exact PySem.EqNone.eq_str_none (fin_bl I q (by simp))
    | bl j => cases ry; exact PySem.EqMixed.eq_str_bool (fin_bl I q (by simp))
    | int j => obtain ⟨t', rfl⟩ := ry; exact PySem.EqMixed.eq_str_int (fin_bl I q (by simp))
    | str j => obtain ⟨t', rfl⟩ := ry; exact eq_str (fin_bl I q dec_str)
    | _ => exact absurd (show false = true from hs) Bool.false_ne_true
  | byt i =>
    obtain ⟨t, rfl⟩ := rx
    cases y with
    | byt j => obtain ⟨t', rfl⟩ := ry; exact PySem.W.eq_bytes (fin_bl I q dec_byt)
    | _ => exact absurd (show false = true from hs) Bool.false_ne_true
  | _ => cases y <;> exact absurd (show false = true from hs) Bool.false_ne_true
theorem op_ne : OpR X (compareOp .NotEq) rNe := by
  intro pins s σ H x y v u Q I rx ry h
  obtain ⟨hs, q⟩ := h
  cases x with
  | non =>
    cases rx
    cases y with
    | non => cases ry; exact PySem.EqNone.ne_none_none (fin_bl I q (by simp))
    | bl j => cases ry; exact PySem.EqNone.ne_none_bool (fin_bl I q (by simp))
    | int j => obtain ⟨t', rfl⟩ := ry; exact PySem.EqNone.ne_none_int (fin_bl I q (by simp))
    | str j => obtain ⟨t', rfl⟩ := ry; exact PySem.EqNone.ne_none_str (fin_bl I q (by simp))
    | _ => exact absurd (show false = true from hs) Bool.false_ne_true
  | bl i =>
    cases rx
    cases y with
    | non => cases ry; exact PySem.EqNone.ne_bool_none (fin_bl I q (by simp))
    | bl j => cases ry; exact ne_bool (fin_bl I q (congrArg not dec_bl))
    | str j => obtain ⟨t', rfl⟩ := ry; exact PySem.EqMixed.ne_bool_str (fin_bl I q (by simp))
    | _ => exact absurd (show false = true from hs) Bool.false_ne_true
  | int i =>
    obtain ⟨t, rfl⟩ := rx
    cases y with
    | non => cases ry; exact PySem.EqNone.ne_int_none (fin_bl I q (by simp))
    | int j => obtain ⟨t', rfl⟩ := ry; exact ne_int (fin_bl I q (congrArg not dec_int))
    | str j => obtain ⟨t', rfl⟩ := ry; exact PySem.EqMixed.ne_int_str (fin_bl I q (by simp))
    | _ => exact absurd (show false = true from hs) Bool.false_ne_true
  | str i =>
    obtain ⟨t, rfl⟩ := rx
    cases y with
    | non => cases ry; exact PySem.EqNone.ne_str_none (fin_bl I q (by simp))
    | bl j => cases ry; exact PySem.EqMixed.ne_str_bool (fin_bl I q (by simp))
    | int j => obtain ⟨t', rfl⟩ := ry; exact PySem.EqMixed.ne_str_int (fin_bl I q (by simp))
    | str j => obtain ⟨t', rfl⟩ := ry; exact ne_str (fin_bl I q (congrArg not dec_str))
    | _ => exact absurd (show false = true from hs) Bool.false_ne_true
  | byt i =>
    obtain ⟨t, rfl⟩ := rx
    cases y with
    | byt j => obtain ⟨t', rfl⟩ := ry; exact PySem.W.ne_bytes (fin_bl I q (congrArg not dec_byt))
    | _ => exact absurd (show false = true from hs) Bool.false_ne_true
  | _ => cases y <;> exact absurd (show false = true from hs) Bool.false_ne_true

theorem op_lt : OpR X (compareOp .Lt) (rI0 fun i j => .bl (decide (i < j))) := opB0 fun _ _ _ _ _ _ _ q => lt_int q
theorem op_le : OpR X (compareOp .LtE) (rI0 fun i j => .bl (decide (i ≤ j))) := opB0 fun _ _ _ _ _ _ _ q => le_int q
theorem op_gt : OpR X (compareOp .Gt) (rI0 fun i j => .bl (decide (j < i))) := opB0 fun _ _ _ _ _ _ _ q => gt_int q
theorem op_lt_str : OpR X (compareOp .Lt) (fun x y H Q => ∃ i j, x = .str i ∧ y = .str j ∧ Q (.bl (decide (i.cps.toList < j.cps.toList))) H) := by
  intro pins s σ H x y v u Q I rx ry h
  obtain ⟨i, j, rfl, rfl, q⟩ := h
  obtain ⟨t, rfl⟩ := rx
  obtain ⟨t', rfl⟩ := ry
  exact lt_str (fin_bl I q rfl)
/-- the one string within the other -/
theorem op_in_str : OpR X (compareOp .In) (fun x y H Q => ∃ i j, x = .str i ∧ y = .str j ∧ Q (.bl (!(Builtin.Str.occurrences j i 0 j.length 1).isEmpty)) H) := by
  intro pins s σ H x y v u Q I rx ry h
  obtain ⟨i, j, rfl, rfl, q⟩ := h
  obtain ⟨t, rfl⟩ := rx
  obtain ⟨t', rfl⟩ := ry
  exact in_str (fin_bl I q rfl)

/-- is None, is not None: the right side a value none -/
theorem op_isN : OpR X (compareOp .Is) (fun x y H Q => y = .non ∧ Q (.bl (decide (x = .non))) H) := by
  intro pins s σ H x y v u Q I rx ry h
  obtain ⟨rfl, q⟩ := h
  cases ry
  refine is_none_gen (fin_bl I q ?_)
  cases x <;> first
    | (cases rx; rfl)
    | (obtain ⟨t, rfl⟩ := rx; rfl)
theorem op_notN : OpR X (compareOp .IsNot) (fun x y H Q => y = .non ∧ Q (.bl (!decide (x = .non))) H) := by
  intro pins s σ H x y v u Q I rx ry h
  obtain ⟨rfl, q⟩ := h
  cases ry
  refine isnot_none_gen (fin_bl I q ?_)
  cases x <;> first
    | (cases rx; rfl)
    | (obtain ⟨t, rfl⟩ := rx; rfl)

/-- is, is not of two objects that are tracked lists or instances -/
def isObj : HO → Bool
  | .lst _ => true
  | .ins _ _ _ => true
  | _ => false
/-- two rules for one operation: by cases -/
theorem OpR.or {f : Value → Value → Sem Value} {r r' : R2} (h : OpR X f r) (h' : OpR X f r') : OpR X f (fun x y H Q => r x y H Q ∨ r' x y H Q) := by
  intro pins s σ H x y v u Q I rx ry q
  rcases q with q | q
  · exact h pins s σ H x y v u Q I rx ry q
  · exact h' pins s σ H x y v u Q I rx ry q

theorem nomark (b : Expr) {op : CmpOp} (h : op ≠ .In := by decide) (h2 : op ≠ .NotIn := by decide) : behindInMarks op b = false := by
  have e1 : (op == CmpOp.In) = false := by cases op <;> first | rfl | exact absurd rfl h
  have e2 : (op == CmpOp.NotIn) = false := by cases op <;> first | rfl | exact absurd rfl h2
  cases b <;> simp [behindInMarks, e1, e2]
/-- a comparison as a value; hm: nomark b, or (for in, not in) by with_unfolding_all rfl -/
theorem pe_cmpR {op : CmpOp} {r : R2} (ho : OpR X (compareOp op) r) (ha : PE X a ta) (hb : PE X b tb) (hm : behindInMarks op b = false) : PE X (.Compare a [op] [b] pos) (tOp r ta tb) := by
  intro pins s σ H Q I h
  exact wpAny_Compare1 (binT ha hb I h fun v u s2 x y H2 I2 rx ry q => ho pins s2 σ H2 x y v u Q I2 rx ry q) hm
/-! ### truth -/
/-- a value's truth by the abstract heap -/
def TruV (K : PySem.W.Frag) (x : V) (H : Hp) (k : Bool) : Prop :=
  match x with
  | .non => k = false
  | .bl b => k = b
  | .int i => k = (i != 0)
  | .str y => y.length ≤ sizeLine ∧ k = ((y.length : Int) != 0)
  | .byt y => y.size ≤ sizeLine ∧ k = ((y.size : Int) != 0)
  | .ref p => (∃ xs, SqL K H p xs ∧ k = !xs.isEmpty) ∨ (∃ xs, SqT K H p xs ∧ k = !xs.isEmpty) ∨ ∃ kvs, H p = some (.dK kvs) ∧ k = !kvs.isEmpty
  | _ => False
theorem isEmpty_kv {κ : Type} {kvs : List (κ × V)} {vs : List (κ × Value)} (r : KV kvs vs) : (!vs.isEmpty) = !kvs.isEmpty := by
  cases r <;> rfl
theorem isEmpty_of {xs : List V} {its : List Value} (r : Vals xs its) : (!its.toArray.isEmpty) = !xs.isEmpty := by
  cases r <;> simp
theorem line63 : (sizeLine : Nat) < 2 ^ 63 := by rw [sizeLine_eq]; decide
theorem tru_ok : TruR X (fun x H Q => ∃ k, TruV X.K x H k ∧ Q k H) := by
  intro pins s σ H x v Q I rx h
  obtain ⟨k, e, q⟩ := h
  have hl := line63
  have hs : sizeLine = 16777216 := sizeLine_eq
  cases x with
  | non =>
    cases rx
    have e' : k = false := e
    subst e'
    exact truthy_none ⟨H, I, q⟩
  | bl b =>
    cases rx
    have e' : k = b := e
    subst e'
    exact wpAny_truthy_bool ⟨H, I, q⟩
  | int i =>
    obtain ⟨t, rfl⟩ := rx
    have e' : k = (i != 0) := e
    subst e'
    exact PySem.P.truthy_int ⟨H, I, q⟩
  | str y =>
    obtain ⟨t, rfl⟩ := rx
    obtain ⟨hy, e'⟩ : y.length ≤ sizeLine ∧ k = ((y.length : Int) != 0) := e
    subst e'
    exact PySem.P.truthy_str (by omega) ⟨H, I.tok _, q⟩
  | byt y =>
    obtain ⟨t, rfl⟩ := rx
    obtain ⟨hy, e'⟩ : y.size ≤ sizeLine ∧ k = ((y.size : Int) != 0) := e
    subst e'
    exact PySem.W.truthy_bytes (by omega) ⟨H, I.tok _, q⟩
  | ref p =>
    cases rx
    have e' : (∃ xs, SqL X.K H p xs ∧ k = !xs.isEmpty) ∨ (∃ xs, SqT X.K H p xs ∧ k = !xs.isEmpty) ∨ ∃ kvs, H p = some (.dK kvs) ∧ k = !kvs.isEmpty := e
    rcases e' with ⟨xs, hx, e'⟩ | ⟨xs, hx, e'⟩ | ⟨kvs, hx, e'⟩
    · subst e'
      obtain ⟨its, r, pl, hz⟩ := I.list hx
      have hlen := r.length
      exact wpAny_truthy_list pl.isList (by simp only [List.size_toArray]; omega) ⟨H, I.tok _, by rw [isEmpty_of r]; exact q⟩
    · subst e'
      obtain ⟨its, r, pl, hz⟩ := I.tuple hx
      have hlen := r.length
      exact truthy_tuple pl (by simp only [List.size_toArray]; omega) ⟨H, I.tok _, by rw [isEmpty_of r]; exact q⟩
    · subst e'
      obtain ⟨hz, hS, vs, r, m⟩ : kvs.length ≤ sizeLine ∧ (p == sysModules) = false ∧ ∃ vs, KV kvs vs ∧ s.heap.DictOf (mixKind X.prog X.w) p vs := I.hok p _ hx
      have hlen : kvs.length = vs.length := Paired.length r
      exact wpAny_truthy_dict hS m (by omega) ⟨H, I.tok _, by rw [isEmpty_kv r]; exact q⟩
  | _ => exact (show False from e).elim
/-! ### strs and bytes -/
theorem op_add_str : OpR X (binaryOp .Add) (fun x y H Q => ∃ i j, x = .str i ∧ y = .str j ∧ i.length + j.length ≤ sizeLine ∧ Q (.str (i ++ j)) H) := by
  intro pins s σ H x y v u Q I rx ry h
  obtain ⟨i, j, rfl, rfl, hz, q⟩ := h
  obtain ⟨t, rfl⟩ := rx
  obtain ⟨t', rfl⟩ := ry
  exact add_str (fun t' tk => ⟨.str (i ++ j), H, I.tok _, ⟨_, rfl⟩, q⟩) hz
/-! ### scalar builtins, by CallR -/
theorem vals1 {x : V} {us : List Value} (r : Vals [x] us) : ∃ u, us = [u] ∧ RelV x u := by
  cases r with
  | cons r1 r2 => cases r2; exact ⟨_, rfl, r1⟩
theorem vals2 {x y : V} {us : List Value} (r : Vals [x, y] us) : ∃ u w', us = [u, w'] ∧ RelV x u ∧ RelV y w' := by
  cases r with
  | cons r1 r2 =>
    cases r2 with
    | cons r3 r4 => cases r4; exact ⟨_, _, rfl, r1, r3⟩
theorem call_max2 (hc : X.calm = true) : CallR X (.builtin "max") (fun xs H Q => ∃ i j, xs = [.int i, .int j] ∧ Q (.int (if j > i then j else i)) H) := by
  intro pins s σ H xs us Q I r h
  obtain ⟨i, j, rfl, q⟩ := h
  obtain ⟨u, w', rfl, ⟨t, rfl⟩, ⟨t', rfl⟩⟩ := vals2 r
  refine max_two_ints (I.ok.hd hc) fun h' tk k => ⟨_, H, I.kept k, ?_, q⟩
  by_cases hj : j > i
  · rw [if_pos hj, if_pos hj]; exact ⟨_, rfl⟩
  · rw [if_neg hj, if_neg hj]; exact ⟨_, rfl⟩
theorem call_min2 (hc : X.calm = true) : CallR X (.builtin "min") (fun xs H Q => ∃ i j, xs = [.int i, .int j] ∧ Q (.int (if j < i then j else i)) H) := by
  intro pins s σ H xs us Q I r h
  obtain ⟨i, j, rfl, q⟩ := h
  obtain ⟨u, w', rfl, ⟨t, rfl⟩, ⟨t', rfl⟩⟩ := vals2 r
  refine min_two_ints (I.ok.hd hc) fun h' tk k => ⟨_, H, I.kept k, ?_, q⟩
  by_cases hj : j < i
  · rw [if_pos hj, if_pos hj]; exact ⟨_, rfl⟩
  · rw [if_neg hj, if_neg hj]; exact ⟨_, rfl⟩
theorem call_str_int : CallR X (.type "str") (fun xs H Q => ∃ i, xs = [.int i] ∧ i.natAbs.log2 < 1920 ∧ Q (.str (toString i)) H) := by
  intro pins s σ H xs us Q I r h
  obtain ⟨i, rfl, hz, q⟩ := h
  obtain ⟨u, rfl, t, rfl⟩ := vals1 r
  exact PySem.P.str_of_int hz ⟨.str _, H, I.tok _, ⟨_, rfl⟩, q⟩
end
end L2

namespace L2
open PySem PySem.Spec PyProof.Rows

/-! ### an instance, its attributes a map -/
structure ObjM (h : Heap) (x dx C : Addr) (mA : Str → Option Value) : Prop where
  obj : h.get? x = some (PySem.W.instObj C dx)
  ns : h.Ns1 dx mA
  ne : dx ≠ x

theorem lookIn_ns {h : Heap} {dx : Addr} {mA : Str → Option Value} (n : h.Ns1 dx mA) : ∃ od, h.get? dx = some od ∧ ∀ name, PySem.W.lookIn name od = some (mA name) := by
  obtain ⟨o, es, ep, ho, hd, hk, _, hm⟩ := n
  refine ⟨o, ho, fun name => ?_⟩
  have e := hm name
  unfold nsFind findBy at e
  rw [← Array.find?_toList] at e
  unfold PySem.W.lookIn
  rw [hd]
  dsimp only
  split
  · rename_i y q
    rw [q] at e
    exact congrArg some e
  · rename_i q
    rw [q] at e
    have a : es.toList.any (·.refKey) = false := by
      rw [List.any_eq_false]
      intro y hy
      obtain ⟨z, t, hkey⟩ := hk y (Array.mem_toList_iff.mp hy)
      simp [DictEntry.refKey, hkey]
    have a' : ¬ es.toList.any (·.refKey) = true := by rw [a]; exact Bool.false_ne_true
    rw [if_neg a']
    exact congrArg some e

theorem ObjM.look {h : Heap} {x dx C : Addr} {mA : Str → Option Value} (I : ObjM h x dx C mA) : ∃ od, PySem.W.InstAt h x (PySem.W.instObj C dx) C (some od) ∧ ∀ name, PySem.W.lookIn name od = some (mA name) :=
  let ⟨od, ho, hl⟩ := lookIn_ns I.ns
  ⟨od, ⟨I.obj, rfl, rfl, ho⟩, hl⟩

section
variable {prog : Program} {w : World} {A : Around} {E : Value → Shared → Prop} {s : Shared} {K : PySem.W.Frag} {x dx C f : Addr} {mA : Str → Option Value} {name : Str} {v : Value}

end

/-! ### the attributes as a list of pairs -/
theorem RelO.some_of {v : V} {o : Option Value} (r : RelO (some v) o) : ∃ u, o = some u ∧ RelV v u := by
  cases o with
  | none => exact (show False from r).elim
  | some u => exact ⟨u, rfl, r⟩
theorem RelO.none_of {o : Option Value} (r : RelO none o) : o = none := by
  cases o with
  | none => rfl
  | some u => exact (show False from r).elim
section
variable {P : Program} {w : World} {H H' : Hp} {h h' : Heap} {a C dx : Addr} {fs fs' : List (Str × V)}
theorem ins_get (hok : HOk P w H h) (e : H a = some (.ins C dx fs)) : ∃ mA, ObjM h a dx C mA ∧ (∀ f, RelO (fs.lookup f) (mA f)) ∧ PySem.Within mA (fs.map (·.1)) ∧ fs.length ≤ 1000 ∧ H dx = some (.own a) := by
  obtain ⟨d, z, ne, ob, mA, n, r, q⟩ := (show ObjOk P w H h a (.ins C dx fs) from hok a _ e)
  exact ⟨mA, ⟨ob, n, ne⟩, r, q, z, d⟩
end

/-! ### what of the text a class must have -/
structure Cls (K : PySem.W.Frag) (C : Addr) : Prop where
  pg : PySem.W.plainGet K C Str.empty = true
  hd : PySem.W.hasDictIn K C = true
  po : PySem.W.plainOver K C = true
  sa : PySem.W.findIn K (.ref C) "__setattr__" = some (some (.builtin "object.__setattr__"))
theorem Cls.get {K : PySem.W.Frag} {C : Addr} (c : Cls K C) (f : Str) : PySem.W.plainGet K C f = true := c.pg
/-- a constant of the class -/
structure Con (K : PySem.W.Frag) (C : Addr) (f : Str) (v : V) (u : Value) : Prop where
  at_ : PySem.W.findIn K (.ref C) f = some (some u)
  rel : RelV v u
  get : PySem.W.specialIn K u "__get__" = some none
  cp : PySem.W.copiedNames.contains f = false
/-- a method: a plain def of the class or of one above it -/
structure Meth (K : PySem.W.Frag) (C : Addr) (m : Str) (f : Addr) : Prop where
  at_ : PySem.W.findIn K (.ref C) m = some (some (.ref f))
  fn : PySem.W.isFn K (.ref f) = true
  kp : PySem.W.keepIn K (.ref f) = true

section
variable {X : Cx} {pins : List (Addr × Obj)} {σ : St} {H : Hp} {s : Shared} {a C dx : Addr} {fs : List (Str × V)} {f : Str} {v : V} {A : Around} {E : Value → Shared → Prop}

/-- a new instance, tracked, without attributes -/
theorem Inv.made (I : Inv X pins σ H s) : Inv X pins σ (upd (upd H s.heap.objs.size (.own (s.heap.objs.size + 1))) (s.heap.objs.size + 1) (.ins C s.heap.objs.size []))
    { s with heap := (s.heap.push PySem.W.emptyDict).push (PySem.W.instObj C s.heap.objs.size) } := by
  have e1 : (s.heap.push PySem.W.emptyDict).get? s.heap.objs.size = some PySem.W.emptyDict := Heap.get?_push_size s.heap rfl
  have e2 : ((s.heap.push PySem.W.emptyDict).push (PySem.W.instObj C s.heap.objs.size)).get? (s.heap.objs.size + 1) = some (PySem.W.instObj C s.heap.objs.size) := by
    have := Heap.get?_push_size (s.heap.push PySem.W.emptyDict) (o := PySem.W.instObj C s.heap.objs.size) rfl
    rwa [Heap.size_push] at this
  have e3 : (s.heap.push PySem.W.emptyDict).Ns s.heap.objs.size (fun _ => none) := ⟨PySem.W.emptyDict, #[], _, e1, rfl, (fun e he => absurd he (by simp)), fun _ => rfl⟩
  have I1 := I.laid (a := s.heap.objs.size) (o := .own (s.heap.objs.size + 1)) (h' := s.heap.push PySem.W.emptyDict) (t' := s.toks) (fun b u q => Heap.get?_push_of_some _ q) (Nat.le_refl _) ⟨_, e1⟩
  refine I1.laid (a := s.heap.objs.size + 1) (o := .ins C s.heap.objs.size []) (t' := s.toks) (fun b u q => Heap.get?_push_of_some _ q) (Nat.le_of_eq (Heap.size_push _ _)) ?_
  have ne : s.heap.objs.size ≠ s.heap.objs.size + 1 := Nat.ne_of_lt (Nat.lt_succ_self _)
  refine ⟨by rw [upd_ne ne, upd_same], Nat.zero_le _, ne, e2, fun _ => none, (Heap.Ns1.of_empty e3).at fun o q => Heap.get?_push_of_some _ q, fun _ => True.intro, fun y hy => absurd rfl hy⟩

/-- e.f where nothing but the object is asked: through attributeBase (super) and the last hold -/
theorem attr_of {prog : Program} {w : World} {env : Env} {e : Expr} {f : Str} {pos : Pos} {s : Shared} {Q : Value → Shared → Prop} (hb : attributeBase e f env (eval e env) = eval e env)
    (h : wpAny (model prog w) A (eval e env) (fun o s₁ => wpAny (model prog w) A (getAttr o f true) Q E s₁) E s) : wpAny (model prog w) A (eval (.Attribute e f pos) env) Q E s :=
  Attribute_any_ h (by rw [arm_eval_Attribute, hb])
end

/-! ### readings and rules -/
section
variable {X : Cx} {o e value : Expr} {f : Str} {pos pos' tpos : Pos} {ta tv : TE}
end

/-! ### isinstance -/
section
variable {X : Cx} {pins : List (Addr × Obj)} {σ : St} {H : Hp} {s : Shared} {A : Around} {E : Value → Shared → Prop} {Q : Value → Shared → Prop} {c : Value} {b : Bool}
/-- the type of a value, as the fragment's deciders take it; for an instance its class -/
inductive TyOf (K : PySem.W.Frag) (H : Hp) : V → Value → Prop where
  | non : TyOf K H .non (.type "NoneType")
  | bl (x : Bool) : TyOf K H (.bl x) (.type "bool")
  | int (i : Int) : TyOf K H (.int i) (.type "int")
  | str (x : Str) : TyOf K H (.str x) (.type "str")
  | flt (x : UInt64) : TyOf K H (.flt x) (.type "float")
  | lst {a : Addr} {xs : List V} (e : H a = some (.lst xs)) : TyOf K H (.ref a) (.type "list")
  | frz {a : Addr} {o : Obj} {xs : List V} (e : H a = some (.frz o (.lst xs))) : TyOf K H (.ref a) (.type "list")
  | tup {a : Addr} {xs : List V} (e : H a = some (.tup xs)) : TyOf K H (.ref a) (.type "tuple")
  | dK {a : Addr} {kvs : List (Key × V)} (e : H a = some (.dK kvs)) : TyOf K H (.ref a) (.type "dict")
  | dT {a : Addr} {kvs : List (List Key × V)} (e : H a = some (.dT kvs)) : TyOf K H (.ref a) (.type "dict")
  | ins {a C dx : Addr} {fs : List (Str × V)} (e : H a = some (.ins C dx fs)) (cl : Cls K C) (ha : PySem.W.findIn K (.ref C) "__class__" = some (some (.builtin "object.__class__")))
      (hn : PySem.W.specialIn K (.builtin "object.__class__") "__get__" = some (some (.builtin "getset_descriptor.__get__"))) (htk : PySem.W.takesIn K (.builtin "object.__class__") = some true)
      (hm : PySem.W.mroIn K C (.type "object") = some true) : TyOf K H (.ref a) (.ref C)
end
end L2

namespace L2
open PySem PySem.Spec PyProof.Rows

/-! ### room -/
structure Room (k : Nat) (A : Around) : Prop where
  hd : A.handled = none
  dp : A.depth + 3 * k + 5 < recursionLimit
  un : A.units + 16 * k + 200 < cLine
theorem Room.mono {j k : Nat} {A : Around} (r : Room k A) (h : j ≤ k) : Room j A := ⟨r.hd, by have := r.dp; omega, by have := r.un; omega⟩
theorem Room.deeper {k : Nat} {A : Around} (r : Room (k + 1) A) (env : Env) : Room k (A.deeper env) :=
  ⟨r.hd, by have := r.dp; show A.depth + 1 + 3 * k + 5 < _; omega, by have := r.un; show A.units + 3 + 16 * k + 200 < _; omega⟩
theorem Room.in1 {k : Nat} {A : Around} (r : Room (k + 1) A) : Room k A.in1 :=
  ⟨r.hd, by have := r.dp; show A.depth + 3 * k + 5 < _; omega, by have := r.un; show A.units + 1 + 16 * k + 200 < _; omega⟩
theorem make_depth {A : Around} {C : Addr} {us : List Value} {kw : List (Str × Value)} : (A.under (.builtin "type.__call__" ⟨.ref C :: us, kw⟩)).depth = A.depth + 1 := by
  first | rfl | simp [Around.under, Code.weight, Code.isCreation, Code.isGuard, Code.isCaller, Code.frames, Code.isFrame, guardIds]
theorem make_units {A : Around} {C : Addr} {us : List Value} {kw : List (Str × Value)} : (A.under (.builtin "type.__call__" ⟨.ref C :: us, kw⟩)).units = A.units + 1 := by
  first | rfl | simp [Around.under, Code.cUnits, Code.frames, Code.isFrame]
theorem Room.make {k : Nat} {A : Around} (r : Room (k + 1) A) (C : Addr) (us : List Value) (kw : List (Str × Value)) : Room k (A.under (.builtin "type.__call__" ⟨.ref C :: us, kw⟩)) :=
  ⟨r.hd, by have := r.dp; rw [make_depth]; omega, by have := r.un; rw [make_units]; omega⟩
theorem Room.depth {k : Nat} {A : Around} (r : Room k A) : A.depth < recursionLimit := by have := r.dp; omega
theorem Room.units {k : Nat} {A : Around} (r : Room k A) : A.units + 64 < cLine := by have := r.un; omega
/-! ### argument lists and displays -/
def tNil : TA := fun _ H Q => Q [] H
def tCons (ta : TE) (tr : TA) : TA := fun σ H Q => ta σ H fun x H1 => tr σ H1 fun xs H2 => Q (x :: xs) H2
section
variable {X : Cx} {e : Expr} {es : List Expr} {te : TE} {t : TA} {pos : Pos}
theorem pa_nil : PA X [] tNil := fun _ _ _ _ H Q I h => Calls.spliced_nil ⟨[], H, I, .nil, h⟩
theorem pa_cons (ha : PE X e te) (hr : PA X es t) (hs : starEach (e :: es) X.env = (false, eval e X.env) :: starEach es X.env := by rfl) : PA X (e :: es) (tCons te t) := by
  intro pos pins s σ H Q I h
  rw [hs]
  show wpAny _ _ (spliced ((false, eval e X.env) :: backTo pos (starEach es X.env))) _ _ s
  refine Calls.spliced_cons (thn (ha pins s σ H _ I h) fun u s1 ⟨x, H1, I1, r1, q1⟩ => ?_)
  exact thn (hr pos pins s1 σ H1 _ I1 q1) fun us s2 ⟨xs, H2, I2, r2, q2⟩ => ⟨x :: xs, H2, I2, .cons r1 r2, q2⟩

/-- a tuple, a list of written items -/
def tTup (t : TA) : TE := fun σ H Q => t σ H fun xs H1 => xs.length ≤ sizeLine ∧ ∀ p, H1 p = none → Q (.ref p) (upd H1 p (.tup xs))
def tLst (t : TA) : TE := fun σ H Q => t σ H fun xs H1 => xs.length ≤ sizeLine ∧ ∀ p, H1 p = none → Q (.ref p) (upd H1 p (.lst xs))
theorem pe_tup {x1} (h : PA X es t) : PE X (.Tuple es x1 pos) (tTup t) := by
  intro pins s σ H Q I hq
  refine wpAny_Tuple_spliced (thn (h pos pins s σ H _ I hq) fun us s1 ⟨xs, H1, I1, r, z, q⟩ => ⟨by rw [← r.length]; exact z, ?_⟩)
  have hf : H1 s1.heap.objs.size = none := I1.hok.fresh (Nat.le_refl _)
  refine ⟨.ref s1.heap.objs.size, upd H1 s1.heap.objs.size (.tup xs), I1.laid (t' := s1.toks) (fun b u e => Heap.get?_push_of_some _ e) (Nat.le_refl _) ?_, rfl, q _ hf⟩
  exact ⟨z, us, r, ⟨_, Heap.get?_push_size _ rfl, rfl, _, rfl⟩⟩
theorem pe_lst (h : PA X es t) : PE X (.List es pos) (tLst t) := by
  intro pins s σ H Q I hq
  refine wpAny_List_spliced (thn (h pos pins s σ H _ I hq) fun us s1 ⟨xs, H1, I1, r, z, q⟩ => ⟨by rw [← r.length]; exact z, ?_⟩)
  have hf : H1 s1.heap.objs.size = none := I1.hok.fresh (Nat.le_refl _)
  refine ⟨.ref s1.heap.objs.size, upd H1 s1.heap.objs.size (.lst xs), I1.laid (t' := s1.toks) (fun b u e => Heap.get?_push_of_some _ e) (Nat.le_refl _) ?_, rfl, q _ hf⟩
  exact ⟨z, us, 0, r, Heap.get?_push_size _ rfl⟩
end

/-! ### what a def promises -/
/-- a def's promise: the bound arguments in the parameters' order, the heap, the wanted end, the wanted exception -/
abbrev Sp := List V → Hp → VK → XK → Prop
/-- how an exception lies behind a call (file 08 gives it): the callers' frames, abstract heap and state ahead of the call, the wish, the exception, the state -/
abbrev CXT := List Env → Hp → Shared → XK → Value → Shared → Prop

/-- the state at a call -/
structure Env0 (P : Program) (w : World) (K : PySem.W.Frag) (mg : Str → Option Value) (base : Heap) (A : Around) (outer : List Env) (s : Shared) (H : Hp) : Prop where
  frames : A.frames = some outer
  mod : Mod K mg base
  bs : ∀ b o, base.get? b = some o → s.heap.get? b = some o ∧ H b = none
  bsz : base.objs.size ≤ s.heap.objs.size
  funs : s.heap.FunFrames base outer
  frf : ∀ b ∈ frs outer, H b = none
  hok : HOk P w H s.heap
  bare : AllBare s.gens
/-- a call's end -/
def CE (outer : List Env) (P : Program) (w : World) (H : Hp) (s : Shared) (Q : VK) (u : Value) (s' : Shared) : Prop :=
  ∃ v H', s'.os = s.os ∧ AllBare s'.gens ∧ Un (frs outer) [] H H' s.heap s'.heap ∧ HOk P w H' s'.heap ∧ RelV v u ∧ Q v H'
def CR (CX : CXT) (outer : List Env) (P : Program) (w : World) (H : Hp) (s : Shared) (Q : VK) (E : XK) (r : Result) (s' : Shared) : Prop :=
  match r with
  | .ok (.ret u) => CE outer P w H s Q u s'
  | .ok _ => False
  | .error e => CX outer H s E e s'
structure FnOk (P : Program) (w : World) (K : PySem.W.Frag) (mg : Str → Option Value) (base : Heap) (CX : CXT) (k : Nat) (f : Addr) (fd : FuncData) (ps : List Str) (sp : Sp) : Prop where
  len : ∀ vs H Q E, sp vs H Q E → vs.length = ps.length
  run : ∀ (A : Around) (outer : List Env) (s : Shared) (H : Hp) (args : Args) (us : List Value) (vs : List V) (Q : VK) (E : XK), Room k A → Env0 P w K mg base A outer s H → BindsTo s fd args (ps.zip us) → Vals vs us → sp vs H Q E →
    codeAny (model P w) A (.call (.ref f) args) (CR CX outer P w H s Q E) s
theorem FnOk.mono {P : Program} {w : World} {K : PySem.W.Frag} {mg : Str → Option Value} {base : Heap} {CX : CXT} {j k : Nat} {f : Addr} {fd : FuncData} {ps : List Str} {sp : Sp} (F : FnOk P w K mg base CX j f fd ps sp) (h : j ≤ k) :
    FnOk P w K mg base CX k f fd ps sp := ⟨F.len, fun A outer s H args us vs Q E hr => F.run A outer s H args us vs Q E (hr.mono h)⟩
/-- a weaker promise -/
theorem FnOk.imp {P : Program} {w : World} {K : PySem.W.Frag} {mg : Str → Option Value} {base : Heap} {CX : CXT} {k : Nat} {f : Addr} {fd : FuncData} {ps : List Str} {sp sp' : Sp} (F : FnOk P w K mg base CX k f fd ps sp)
    (h : ∀ vs H Q E, sp' vs H Q E → sp vs H Q E) : FnOk P w K mg base CX k f fd ps sp' :=
  ⟨fun vs H Q E q => F.len vs H Q E (h _ _ _ _ q), fun A outer s H args us vs Q E hr he hb hv hs => F.run A outer s H args us vs Q E hr he hb hv (h _ _ _ _ hs)⟩

theorem Env0.make {P : Program} {w : World} {K : PySem.W.Frag} {mg : Str → Option Value} {base : Heap} {A : Around} {outer : List Env} {s : Shared} {H : Hp} (e : Env0 P w K mg base A outer s H) (C : Addr) (us : List Value) (kw : List (Str × Value)) :
    Env0 P w K mg base (A.under (.builtin "type.__call__" ⟨.ref C :: us, kw⟩)) outer s H := ⟨by first | exact e.frames | (simpa [Around.under, Code.envs, Code.isFrame, pushEnvs] using e.frames), e.mod, e.bs, e.bsz, e.funs, e.frf, e.hok, e.bare⟩
theorem Env0.in1 {P : Program} {w : World} {K : PySem.W.Frag} {mg : Str → Option Value} {base : Heap} {A : Around} {outer : List Env} {s : Shared} {H : Hp} (e : Env0 P w K mg base A outer s H) :
    Env0 P w K mg base A.in1 outer s H := ⟨e.frames, e.mod, e.bs, e.bsz, e.funs, e.frf, e.hok, e.bare⟩

section
variable {X : Cx} {pins : List (Addr × Obj)} {σ : St} {H : Hp} {s s' : Shared}
/-- from a body: what a callee wants -/
theorem Inv.env0 (I : Inv X pins σ H s) : Env0 X.prog X.w X.K X.mg X.base X.A X.stack s H :=
  ⟨I.ok.frames, I.ok.mod, I.bs, Nat.le_trans I.ok.bsz I.sz, I.stack, I.stkFree, I.hok, I.bare⟩
/-- behind a call -/
theorem Inv.after {Q : VK} {u : Value} (I : Inv X pins σ H s) (h : CE X.stack X.prog X.w H s Q u s') : EP X pins σ Q u s' := by
  obtain ⟨v, H', os, bare, un, hok, r, q⟩ := h
  obtain ⟨hh, g, d, t, os'⟩ := s'
  obtain rfl : os' = s.os := os
  exact ⟨v, H', I.call (h' := hh) (g' := g) (d' := d) (t' := t) (ch := []) un hok bare (fun b z => absurd z (by simp)), r, q⟩
end

/-! ### calls -/
/-- f(..): the written arguments, then the defaults dvs; E: what is wanted of an exception -/
def tCall (sp : Sp) (dvs : List V) (E : XK) (t : TA) : TE := fun σ H Q => t σ H fun vs H1 => sp (vs ++ dvs) H1 Q E
/-- how the parameters are bound: us the positional arguments, kw the keywords' values by name, ds the defaults that fill up -/
def Binds (K : PySem.W.Frag) (fd : FuncData) (ps : List Str) (ds : List Value) : Prop :=
  ∀ (s : Shared) (us : List Value), K.In s.heap → (us ++ ds).length = ps.length → BindsTo s fd ⟨us, []⟩ (ps.zip (us ++ ds))
/-- every parameter is given -/
theorem Binds.all {K : PySem.W.Frag} {fd : FuncData} {ps : List Str} (h : ∀ us : List Value, us.length = ps.length → bindArgs fd ⟨us, []⟩ = pure (ps.zip us)) : Binds K fd ps [] := fun s us _ hl => by
  rw [List.append_nil] at hl ⊢
  exact .of_eq (h us hl)

/-- an exception of a callee reaches what this body wants of exceptions -/
def Passes (CX : CXT) (X : Cx) (E : XK) : Prop := ∀ (pins : List (Addr × Obj)) (σ : St) (H : Hp) (s : Shared) (e : Value) (s' : Shared), Inv X pins σ H s → CX X.stack H s E e s' → X.xe e s'

section
variable {X : Cx} {CX : CXT} {k : Nat} {f C : Addr} {fd : FuncData} {ps : List Str} {sp : Sp} {dvs : List V} {ds : List Value} {E : XK} {x m : Str} {p pos apos : Pos} {e o : Expr} {es : List Expr} {ta : TE} {t : TA}

/-- the callee runs -/
theorem run_fn {pins : List (Addr × Obj)} {σ : St} {H : Hp} {s : Shared} {Q : VK} {us : List Value} {vs : List V} (F : FnOk X.prog X.w X.K X.mg X.base CX k f fd ps sp) (hr : Room k X.A) (hb : Binds X.K fd ps ds) (hd : Vals dvs ds) (hx : Passes CX X E)
    (I : Inv X pins σ H s) (r : Vals vs us) (h : sp (vs ++ dvs) H Q E) : wpAny (model X.prog X.w) X.A (call (.ref f) us) (EP X pins σ Q) X.xe s := by
  have r2 : Vals (vs ++ dvs) (us ++ ds) := r.append hd
  have hl : (us ++ ds).length = ps.length := by rw [← r2.length]; exact F.len _ _ _ _ h
  refine wpAny_call (codeAny_mono (F.run X.A X.stack s H ⟨us, []⟩ (us ++ ds) (vs ++ dvs) Q E hr I.env0 (hb s us I.kIn hl) r2 h) fun r s' hq => ?_)
  cases r with
  | error e => exact hx pins σ H s e s' I hq
  | ok fl =>
    cases fl with
    | ret u => exact I.after hq
    | next => exact False.elim hq
    | brk => exact False.elim hq
    | cont => exact False.elim hq

theorem pe_call (F : FnOk X.prog X.w X.K X.mg X.base CX k f fd ps sp) (hr : Room k X.A) (hg : Gl X x) (hm : X.mg x = some (.ref f)) (hk : PySem.W.keepIn X.K (.ref f) = true) (hb : Binds X.K fd ps ds) (hd : Vals dvs ds) (hx : Passes CX X E)
    (ha : PA X (e :: es) t) (hdb : (x == ("__debug__" : Str)) = false := by decide) (he : starEach (e :: es) X.env = (false, eval e X.env) :: starEach es X.env := by rfl) (hpl : (backTo pos (starEach es X.env)).any (·.1) = false := by rfl) :
    PE X (.Call (.Name x p) (e :: es) [] pos) (tCall sp dvs E t) := by
  intro pins s σ H Q I h
  refine wpAny_Call_Name_kw (ld_glob I hg hm ?_ hdb)
  refine PySem.W.callWith_K (h₀ := X.base) I.ok.mod.kin hk (thn (ha pos pins s σ H _ I h) fun us s1 ⟨vs, H1, I1, r, q⟩ => ⟨I1.kIn, ?_⟩) he hpl
  exact run_fn F hr hb hd hx I1 r q
/-- what a class must have to be made -/
structure Mk (K : PySem.W.Frag) (C f : Addr) : Prop where
  makes : PySem.W.makesIn K C = true
  init : PySem.W.findIn K (.ref C) "__init__" = some (some (.ref f))
  fn : PySem.W.isFn K (.ref f) = true
  kp : PySem.W.keepIn K (.ref C) = true

end

/-! ### keywords -/
section
variable {X : Cx} {CX : CXT} {k : Nat} {f C : Addr} {fd : FuncData} {ps ks : List Str} {sp : Sp} {E : XK} {x m : Str} {p pos apos kpos : Pos} {e o : Expr} {es : List Expr} {kws : List Keyword} {te ta : TE} {t tk : TA} {nm : Option Str}
/-- how a call with keywords binds: g puts the positional values us and the keywords' values ws (names ks) in the parameters' order, defaults among them -/
structure KBinds (K : PySem.W.Frag) (fd : FuncData) (ps ks : List Str) (g : List Value → List Value → List Value) (gV : List V → List V → List V) : Prop where
  to : ∀ (s : Shared) (us ws : List Value), K.In s.heap → (g us ws).length = ps.length → BindsTo s fd ⟨us, ks.zip ws⟩ (ps.zip (g us ws))
  rel : ∀ {vs : List V} {us : List Value} {zs : List V} {ws : List Value}, Vals vs us → Vals zs ws → Vals (gV vs zs) (g us ws)
variable {g : List Value → List Value → List Value} {gV : List V → List V → List V}
end

/-! ### a def's body keeps its promise -/
/-- names: the parameters first -/
structure FnScope (N P : List Str) (sc : Scope) : Prop where
  kind : sc.kind = .function
  co : sc.isCoroutine = false
  gen : sc.isGenerator = false
  nd : N.Nodup
  pre : N.take P.length = P
  par : ∀ x ∈ P, sc.names.lookup x = some .local ∨ sc.names.lookup x = some .cell
  nofree : ∀ y ∈ sc.names, y.2 ≠ .free

theorem bindL_out {kindOf : Str → Option NameKind} {x : Str} : ∀ {binds : List (Str × Value)} {m : Str → Option Value}, (∀ v, (x, v) ∉ binds) → bindL kindOf binds m x = m x
  | [], _, _ => rfl
  | (n, v) :: r, m, h => by
    unfold bindL
    rw [bindL_out fun w hw => h w (List.mem_cons_of_mem _ hw)]
    split
    · have : x ≠ n := by rintro rfl; exact h v List.mem_cons_self
      simp [this]
    · rfl
theorem bindC_out {kindOf : Str → Option NameKind} {x : Str} : ∀ {binds : List (Str × Value)} {m : Str → Option Value}, (∀ v, (x, v) ∉ binds) → bindC kindOf binds m x = m x
  | [], _, _ => rfl
  | (n, v) :: r, m, h => by
    unfold bindC
    rw [bindC_out fun w hw => h w (List.mem_cons_of_mem _ hw)]
    split
    · rfl
    · have : x ≠ n := by rintro rfl; exact h v List.mem_cons_self
      simp [this]
theorem bindL_get {kindOf : Str → Option NameKind} {x : Str} {v : Value} : ∀ {P : List Str} {vs : List Value} {i : Nat} {m : Str → Option Value}, P.Nodup → P[i]? = some x → vs[i]? = some v → kindOf x = some .local →
    bindL kindOf (P.zip vs) m x = some v
  | [], _, _, _, _, h, _, _ => by simp at h
  | _ :: _, [], _, _, _, _, h, _ => by simp at h
  | p :: P, w :: vs, 0, m, nd, h1, h2, hk => by
    simp at h1 h2; subst h1; subst h2
    show bindL kindOf ((p, w) :: P.zip vs) m p = _
    unfold bindL
    rw [bindL_out fun v hv => (List.nodup_cons.mp nd).1 (List.of_mem_zip hv).1, if_pos hk]
    simp
  | p :: P, w :: vs, i + 1, m, nd, h1, h2, hk => by
    show bindL kindOf ((p, w) :: P.zip vs) m x = _
    unfold bindL
    exact bindL_get (i := i) (List.nodup_cons.mp nd).2 (by simpa using h1) (by simpa using h2) hk
theorem bindC_get {kindOf : Str → Option NameKind} {x : Str} {v : Value} : ∀ {P : List Str} {vs : List Value} {i : Nat} {m : Str → Option Value}, P.Nodup → P[i]? = some x → vs[i]? = some v → kindOf x ≠ some .local →
    bindC kindOf (P.zip vs) m x = some v
  | [], _, _, _, _, h, _, _ => by simp at h
  | _ :: _, [], _, _, _, _, h, _ => by simp at h
  | p :: P, w :: vs, 0, m, nd, h1, h2, hk => by
    simp at h1 h2; subst h1; subst h2
    show bindC kindOf ((p, w) :: P.zip vs) m p = _
    unfold bindC
    rw [bindC_out fun v hv => (List.nodup_cons.mp nd).1 (List.of_mem_zip hv).1, if_neg hk]
    simp
  | p :: P, w :: vs, i + 1, m, nd, h1, h2, hk => by
    show bindC kindOf ((p, w) :: P.zip vs) m x = _
    unfold bindC
    exact bindC_get (i := i) (List.nodup_cons.mp nd).2 (by simpa using h1) (by simpa using h2) hk

/-- the names' values at the entry -/
def start (N : List Str) (vs : List V) : St := vs.map some ++ List.replicate (N.length - vs.length) none

/-- the context of a def's body, at its entry; an exception leaves the frame, then lies as CX says -/
def cxOf (CX : CXT) (P : Program) (w : World) (K : PySem.W.Frag) (mg : Str → Option Value) (base : Heap) (N : List Str) (qual : Str) (scope : Scope) (f : Addr) (cd : Value) (A : Around) (outer : List Env) (s : Shared) (H : Hp) (E : XK) : Cx where
  prog := P
  w := w
  K := K
  mg := mg
  base := base
  A := A.deeper (envOfC qual scope s.heap.objs.size f cd)
  N := N
  s₀ := s
  H₀ := H
  env := envOfC qual scope s.heap.objs.size f cd
  outer := outer
  stack := envOfC qual scope s.heap.objs.size f cd :: outer
  ex := []
  calm := true
  fn := fun _ => true
  pn := []
  xe := fun e s' => wpAny (model P w) (A.deeper (envOfC qual scope s.heap.objs.size f cd)) (leaving (envOfC qual scope s.heap.objs.size f cd) e) (fun _ s'' => CX outer H s E e s'') (fun e' s'' => CX outer H s E e' s'') s'

theorem cell_has {sc : Scope} {n : Nat} {x : Str} (h : sc.names.lookup x = some .cell) : ∃ c, (cellsFrom n sc.names []).lookup x = some c := by
  have q := PySem.W.cellsFrom_some sc.names n [] (.inl h)
  exact Option.isSome_iff_exists.mp q

theorem inv_start {CX : CXT} {P : Program} {w : World} {K : PySem.W.Frag} {mg : Str → Option Value} {base : Heap} {N ps : List Str} {qual : Str} {scope : Scope} {f : Addr} {cd : Value} {A : Around} {outer : List Env} {s s1 : Shared} {H : Hp} {E : XK} {us : List Value} {vs : List V}
    (S : FnScope N ps scope) (hd : A.handled = none) (e0 : Env0 P w K mg base A outer s H) (hl : vs.length = ps.length) (r : Vals vs us)
    (x : InCallC s s.heap.objs.size (bindL (envOfC qual scope s.heap.objs.size f cd).kindOf (ps.zip us) fun _ => none) (cellsFrom (s.heap.objs.size + 1) scope.names []) (bindC (envOfC qual scope s.heap.objs.size f cd).kindOf (ps.zip us) fun _ => none) s1) :
    Inv (cxOf CX P w K mg base N qual scope f cd A outer s H E) [] (start N vs) H s1 := by
  have hpl : ps.length ≤ N.length := by have := congrArg List.length S.pre; rw [List.length_take] at this; omega
  obtain ⟨h1, tk, rfl, hk⟩ := x.done
  have noA : ∀ b : Addr, b ∉ (cxOf CX P w K mg base N qual scope f cd A outer s H E).ex := fun b z => absurd (show b ∈ ([] : List Addr) from z) (by simp)
  refine ⟨⟨e0.mod, S.kind, rfl, rfl, Nat.le_refl _, fun y z c h1 h2 => ?_, fun y hy => ?_, fun y c _ h => ?_, fun _ => hd, Around.frames_deeper e0.frames, .inr ⟨rfl, rfl⟩, fun b z => absurd z (noA b), e0.bs, e0.bsz, fun b _ _ => noA b, fun b z => absurd z (noA b), e0.funs, e0.frf⟩,
    rfl, e0.bare, Un.kept hk, ⟨_, x.toInCall.ns, fun i y v h1 h2 h3 => ?_⟩, fun y c h => ⟨_, x.cell y c h⟩, e0.hok.fresh (Nat.le_refl _), fun y c h => ?_, fun p hp => absurd (show p ∈ ([] : List (Addr × Obj)) from hp) (by simp), e0.hok.kept hk, ?_⟩
  · exact name_of_addr x.apart (PySem.mem_of_lookup h1) (PySem.mem_of_lookup h2)
  · have hy : scope.names.lookup y = some .cell ∨ scope.names.lookup y = some .free := hy
    rcases hy with hy | hy
    · exact cell_has hy
    · exact absurd rfl (S.nofree _ (PySem.mem_of_lookup hy))
  · exact Nat.le_of_lt (x.above y c (PySem.mem_of_lookup h))
  · have hi : i < vs.length := by
      unfold start at h2
      by_cases hi : i < vs.length
      · exact hi
      · rw [List.getElem?_append_right (by simpa using hi)] at h2
        rw [List.getElem?_replicate] at h2
        split at h2 <;> cases h2
    have ha : vs[i]? = some v := by
      unfold start at h2
      rw [List.getElem?_append_left (by simpa using hi), List.getElem?_map] at h2
      cases e : vs[i]? with
      | none => rw [e] at h2; cases h2
      | some a => rw [e] at h2; cases h2; rfl
    obtain ⟨u, hu, rv⟩ := r.get ha
    have hp : ps[i]? = some y := by
      rw [← S.pre, List.getElem?_take_of_lt (by omega)]; exact h1
    have ndP : ps.Nodup := by rw [← S.pre]; exact S.nd.sublist (List.take_sublist _ _)
    refine ⟨u, rv, ?_⟩
    rcases S.par y (List.mem_of_getElem? hp) with k | k
    · exact .inl ⟨k, bindL_get ndP hp hu k⟩
    · obtain ⟨c, e⟩ := cell_has (n := s.heap.objs.size + 1) k
      refine .inr ⟨.inl k, c, e, ?_⟩
      have q := x.cell y c e
      rw [bindC_get ndP hp hu (by show scope.names.lookup y ≠ _; rw [k]; decide)] at q
      exact q
  · exact e0.hok.fresh (Nat.le_of_lt (x.above y c (PySem.mem_of_lookup h)))
  · unfold start
    show _ = N.length
    rw [List.length_append, List.length_map, List.length_replicate]
    omega

/-- THE RULE: a def (or a method) of the text, by its body. The body's reading t is chosen for each entry; it is run at the parameters' values -/
theorem fn_of {CX : CXT} {P : Program} {w : World} {K : PySem.W.Frag} {mg : Str → Option Value} {base : Heap} {k : Nat} {f : Addr} {name qual : Str} {params : Arguments} {body : List Stmt} {scope : Scope} {dV kV doc pm cdv ct oc : Value} {an od : Option Addr}
    {osl : Array (Option Value)} {N ps : List Str} {sp : Sp} (lk : K.lookup f = some ⟨oc, od, .func (PySem.W.fnOf name qual params body scope dV kV doc pm an cdv ct), osl⟩) (hcd : PySem.W.codeIn K cdv qual = true) (S : FnScope N ps scope)
    (len : ∀ vs H Q E, sp vs H Q E → vs.length = ps.length)
    (hbody : ∀ (A : Around) (outer : List Env) (s : Shared) (H : Hp) (vs : List V) (Q : VK) (E : XK), Room k (A.deeper (envOfC qual scope s.heap.objs.size f cdv)) → sp vs H Q E →
      ∃ t, PSs (cxOf CX P w K mg base N qual scope f cdv A outer s H E) body t ∧ t { nx := fun _ H' => Q .non H', rt := Q } (start N vs) H) :
    FnOk P w K mg base CX (k + 1) f (PySem.W.fnOf name qual params body scope dV kV doc pm an cdv ct) ps sp := by
  refine ⟨len, fun A outer s H args us vs Q E hr e0 hb r hsp => ?_⟩
  have hl := len _ _ _ _ hsp
  have KX : K.In s.heap := e0.mod.kin.keeps fun b o e => (e0.bs b o e).1
  have lim : s.heap.NoLimit := e0.mod.nolimit.keeps fun b o e => (e0.bs b o e).1
  have hkind : ∀ y ∈ ps.zip us, scope.names.lookup y.1 = some .local ∨ (scope.names.lookup y.1 = some .cell ∧ ((cellsFrom (s.heap.objs.size + 1) scope.names []).lookup y.1).isSome = true) := fun ⟨n, v⟩ hy => by
    rcases S.par n (List.of_mem_zip hy).1 with q | q
    · exact .inl q
    · exact .inr ⟨q, PySem.W.cellsFrom_some _ _ _ (.inl q)⟩
  refine codeAny_call_function hr.depth (KX _ _ lk) rfl S.co S.gen rfl (PySem.W.codeRec_of KX hcd) (hb _ _ _ _ ?_)
  refine wpAny_newFunctionEnv_cells S.kind hkind fun env he s1 x => ?_
  subst he
  refine ⟨lim.keeps x.toInCall.keep, codeAny_func ?_⟩
  obtain ⟨t, ht, hq⟩ := hbody A outer s H vs Q E (hr.deeper _) hsp
  have I : Inv (cxOf CX P w K mg base N qual scope f cdv A outer s H E) [] (start N vs) H s1 := inv_start S hr.hd e0 hl r x
  refine wpAny_mono (ht [] s1 (start N vs) H _ I hq) (fun fl s' hs => ?_) fun e s' hs => hs
  have fin : ∀ {σ' : St} {H' : Hp} {v : V} {u : Value}, Inv (cxOf CX P w K mg base N qual scope f cdv A outer s H E) [] σ' H' s' → RelV v u → Q v H' → CE outer P w H s Q u s' :=
    fun {σ' H' v u} J rv q => ⟨v, H', J.os, J.bare, J.base, J.hok, rv, q⟩
  cases fl with
  | ret u =>
    obtain ⟨v, σ', H', J, rv, q⟩ := hs
    exact fin J rv q
  | next =>
    obtain ⟨σ', H', J, q⟩ := hs
    exact fin (v := V.non) (u := Value.none) J rfl q
  | brk =>
    obtain ⟨_, _, _, q⟩ := hs
    exact False.elim q
  | cont =>
    obtain ⟨_, _, _, q⟩ := hs
    exact False.elim q
end L2

namespace L2
open PySem PySem.Spec PyProof.Rows
section
variable {X : Cx} {x : Str} {p pos : Pos} {e : Expr} {es : List Expr} {t : TA} {id T : String} {r : List V → Hp → VK → Prop}

def tCB (r : List V → Hp → VK → Prop) (t : TA) : TE := fun σ H Q => t σ H fun vs H1 => r vs H1 Q
/-- f(e, ..), f a built-in function -/
theorem pe_callB (hc : CallR X (.builtin id) r) (hg : Gl X x) (hm : X.mg x = none) (hv : bootBuiltins x = some (.builtin id)) (ha : PA X (e :: es) t) (hn : x ≠ "__name__" := by decide) (hdb : (x == ("__debug__" : Str)) = false := by decide)
    (he : starEach (e :: es) X.env = (false, eval e X.env) :: starEach es X.env := by rfl) (hpl : (backTo pos (starEach es X.env)).any (·.1) = false := by rfl) : PE X (.Call (.Name x p) (e :: es) [] pos) (tCB r t) := by
  intro pins s σ H Q I h
  refine wpAny_Call_Name_kw (ld_blt I hg hm hv ?_ hn hdb)
  exact PyProof.Rows.callWith_builtin1 (thn (ha pos pins s σ H _ I h) fun us s1 ⟨vs, H1, I1, r1, q1⟩ => hc pins s1 σ H1 vs us Q I1 r1 q1) he hpl
/-- T(e, ..), T a built-in type -/
theorem pe_callTy (hc : CallR X (.type T) r) (hg : Gl X x) (hm : X.mg x = none) (hv : bootBuiltins x = some (.type T)) (ha : PA X (e :: es) t) (hn : x ≠ "__name__" := by decide) (hdb : (x == ("__debug__" : Str)) = false := by decide)
    (he : starEach (e :: es) X.env = (false, eval e X.env) :: starEach es X.env := by rfl) (hpl : (backTo pos (starEach es X.env)).any (·.1) = false := by rfl) : PE X (.Call (.Name x p) (e :: es) [] pos) (tCB r t) := by
  intro pins s σ H Q I h
  refine wpAny_Call_Name_kw (ld_blt I hg hm hv ?_ hn hdb)
  exact PyProof.Rows.callWith_type1 (thn (ha pos pins s σ H _ I h) fun us s1 ⟨vs, H1, I1, r1, q1⟩ => hc pins s1 σ H1 vs us Q I1 r1 q1) he hpl
end
end L2

namespace HT
open PySem PyProof.Rows

section
open PySem.SeqAt
open PySem.AutoSeq1 (wpAny_loadPart')
open PySem.MeetsSeq PySem.MeetsSeq2 PySem.MeetsSeq3

end

section
variable {prog : Program} {w : World} {A : Around} {E : Value → Shared → Prop} {s : Shared}

/-! ### t[a:b], not the whole -/
/-- a slice's bound as a place among n (d where it is left out) -/
def sIx (n d : Nat) : Option Int → Nat
  | none => d
  | some v => if v < 0 then (v + (n : Int)).toNat else min v.toNat n
theorem sIx_none (n d : Nat) : sIx n d none = d := rfl
theorem sIx_nat (n d k : Nat) : sIx n d (some (k : Int)) = min k n := by
  show (if (k : Int) < 0 then ((k : Int) + (n : Int)).toNat else min (k : Int).toNat n) = min k n
  rw [if_neg (by omega), Int.toNat_natCast]
theorem sIx_le (n d : Nat) (hd : d ≤ n) (o : Option Int) : sIx n d o ≤ n := by
  cases o with
  | none => exact hd
  | some v =>
    show (if v < 0 then (v + (n : Int)).toNat else min v.toNat n) ≤ n
    by_cases hv : v < 0
    · rw [if_pos hv]; omega
    · rw [if_neg hv]; exact Nat.min_le_right _ _
theorem clip_eq (v : Int) (n d : Nat) : (if v < 0 then max (v + (n : Int)) 0 else min v (n : Int)) = ((sIx n d (some v) : Nat) : Int) := by
  show (if v < 0 then max (v + (n : Int)) 0 else min v (n : Int)) = (((if v < 0 then (v + (n : Int)).toNat else min v.toNat n) : Nat) : Int)
  by_cases hv : v < 0
  · simp only [if_pos hv]; omega
  · simp only [if_neg hv]; omega
theorem adjust_gen (lo hi : Option Int) (n : Nat) : Builtin.Slice.sliceAdjust lo hi 1 (n : Int) = (((sIx n 0 lo : Nat) : Int), ((sIx n n hi : Nat) : Int)) := by
  have h1 : ¬ ((1 : Int) < 0) := by omega
  unfold Builtin.Slice.sliceAdjust
  simp only [h1, if_false]
  refine Prod.ext ?_ ?_
  · cases lo with
    | none => rfl
    | some v => exact clip_eq v n 0
  · cases hi with
    | none => rfl
    | some v => exact clip_eq v n n
theorem places_gen (i j : Nat) : Builtin.Slice.slicePlaces (i : Int) (j : Int) 1 = j - i := by
  unfold Builtin.Slice.slicePlaces
  have h1 : (1 : Int) > 0 := by omega
  simp only [h1, if_true, Int.ediv_one]
  split <;> omega
theorem slicePart_ {v : Value} {o : Option Int} {Q : Option Int → Shared → Prop} (p : IsPart v o) (h : Q o s) : wpAny (model prog w) A (Builtin.Slice.slicePartIndex v) Q E s := by
  cases p with
  | none => exact slicePart_none h
  | int i t => exact slicePart_int h
theorem sliceApplied_gen {sl : Addr} {vl vu : Value} {lo hi : Option Int} {n : Nat} {Q : Int × Int × Nat → Shared → Prop} (hs : s.heap.IsSliceOf sl vl vu .none) (pl : IsPart vl lo) (pu : IsPart vu hi)
    (h : Q (((sIx n 0 lo : Nat) : Int), 1, sIx n n hi - sIx n 0 lo) s) : wpAny (model prog w) A (Builtin.Slice.sliceApplied (.ref sl) (pure (n : Int))) Q E s := by
  obtain ⟨os, hos, hcs, hds⟩ := id hs
  unfold Builtin.Slice.sliceApplied Builtin.Slice.sliceFields
  refine wpAny_bind (wpAny_bind (wpAny_field hos hds (x := vl) rfl (wpAny_bind (wpAny_field hos hds (x := vu) rfl (wpAny_bind (wpAny_field hos hds (x := .none) rfl (wpAny_pure ?_)))))))
  refine wpAny_bind (slicePart_none ?_)
  show wpAny _ _ (if ((1 : Int) == 0) = true then _ else _) _ _ s
  rw [if_neg (by decide)]
  refine wpAny_bind (slicePart_ pl (wpAny_bind (slicePart_ pu (wpAny_bind (wpAny_pure ?_)))))
  show wpAny _ _ (match Builtin.Slice.sliceAdjust lo hi 1 (n : Int) with | (lo, hi) => pure (lo, (1 : Int), Builtin.Slice.slicePlaces lo hi 1)) _ _ s
  rw [adjust_gen lo hi n]
  show wpAny _ _ (pure (((sIx n 0 lo : Nat) : Int), (1 : Int), Builtin.Slice.slicePlaces ((sIx n 0 lo : Nat) : Int) ((sIx n n hi : Nat) : Int) 1)) _ _ s
  rw [places_gen]
  exact wpAny_pure h
theorem pick_gen (xs : Array Value) (i k : Nat) : ((List.range k).filterMap fun (m : Nat) => xs[((i : Int) + (m : Int) * 1).toNat]?).toArray = ((xs.toList.drop i).take k).toArray := by
  have e : (fun (m : Nat) => xs[((i : Int) + (m : Int) * 1).toNat]?) = fun m => xs[i + m]? := by
    funext m
    have : ((i : Int) + (m : Int) * 1).toNat = i + m := by omega
    rw [this]
  rw [e]
  have := pick_run xs i k
  rw [List.filterMap_map] at this
  have e2 : ((fun x => xs[x]?) ∘ fun x => i + x) = fun m => xs[i + m]? := rfl
  rw [e2] at this
  rw [this]

theorem getItem_tuple_cut {t sl : Addr} {items : Array Value} {vl vu : Value} {lo hi : Option Int} {Q : Value → Shared → Prop} (ht : IsTup s.heap t items) (hs : s.heap.IsSliceOf sl vl vu .none) (pl : IsPart vl lo) (pu : IsPart vu hi)
    (hw : ¬ (sIx items.size 0 lo = 0 ∧ sIx items.size items.size hi = items.size))
    (h : Q (.ref s.heap.objs.size) { s with heap := s.heap.push { cls := .type "tuple", data := .seq ((items.toList.drop (sIx items.size 0 lo)).take (sIx items.size items.size hi - sIx items.size 0 lo)).toArray } })
    (hsz : items.size ≤ sizeLine) : wpAny (model prog w) A (getItem (.ref t) (.ref sl)) Q E s := by
  have htake : sizeOk (.seq ((items.toList.drop (sIx items.size 0 lo)).take (sIx items.size items.size hi - sIx items.size 0 lo)).toArray) := by
    show ((items.toList.drop (sIx items.size 0 lo)).take (sIx items.size items.size hi - sIx items.size 0 lo)).toArray.size ≤ sizeLine
    rw [List.size_toArray, List.length_take, List.length_drop, Array.length_toList]
    omega
  have hj : sIx items.size items.size hi ≤ items.size := sIx_le _ _ (Nat.le_refl _) hi
  obtain ⟨os, hos, hcs, hds⟩ := id hs
  have hTs : s.TypeIs (.ref sl) "slice" := ⟨os, hos, hcs⟩
  unfold getItem
  try with_reducible refine wpAny_holding ?_
  first | refine wpAny_bind (wpAny_pure ?_) | skip
  refine wpAny_bind (wpAny_sequenceKey ht.typeIs (by decide) ?_)
  refine wpAny_bind (wpAny_callSpecial?_slot (name := Str.ofString "__getitem__") ht.typeIs PyProof.Rows.slot_tuple_getitem
    (wpAny_call_entry PyProof.Rows.slot_tuple_getitem ht.typeIs entry_tuple_getitem ?_ (args_tuple_getitem _ _)))
  show wpAny _ _ (Builtin.Tuple.tupleItemsOf (.ref t) >>= _) _ _ s
  refine wpAny_bind (tupleItemsOf_ ht ?_)
  refine wpAny_bind (wpAny_typeOf hTs ?_)
  rw [if_pos (by decide)]
  refine wpAny_bind (sliceApplied_gen hs pl pu ?_)
  have hno : ¬ ((((sIx items.size 0 lo : Nat) : Int) == 0 && (1 : Int) == 1 && (sIx items.size items.size hi - sIx items.size 0 lo) == items.size) = true) := by
    intro q
    rw [Bool.and_eq_true, Bool.and_eq_true] at q
    have q1 : ((sIx items.size 0 lo : Nat) : Int) = 0 := eq_of_beq q.1.1
    have q2 : sIx items.size items.size hi - sIx items.size 0 lo = items.size := eq_of_beq q.2
    exact hw ⟨by omega, by omega⟩
  show wpAny _ _ (if (((sIx items.size 0 lo : Nat) : Int) == 0 && (1 : Int) == 1 && (sIx items.size items.size hi - sIx items.size 0 lo) == items.size) = true then _ else _) _ _ s
  rw [if_neg hno, pick_gen]
  first
    | exact wpAny_bind (m := Builtin.Tuple.tupleExact _) (wpAny_newObj_type (wpAny_pure ⟨_, rfl, wpAny_pure h⟩) htake)
    | exact wpAny_bind (m := Builtin.Tuple.tupleExact _) (wpAny_newObj_type (wpAny_bind (wpAny_pure (wpAny_pure ⟨_, rfl, wpAny_pure h⟩))) htake)
    | exact wpAny_bind (wpAny_bind (m := Builtin.Tuple.tupleExact _) (wpAny_newObj_type (wpAny_pure (wpAny_pure ⟨_, rfl, wpAny_pure h⟩)) htake))
    | exact wpAny_bind (wpAny_bind (m := Builtin.Tuple.tupleExact _) (wpAny_newObj_type (wpAny_pure ⟨_, rfl, wpAny_pure h⟩) htake))
end
end HT

namespace L2
open PySem PySem.Spec PyProof.Rows

/-! ### the parts of a slice -/
abbrev TO := St → Hp → (Option Int → Hp → Prop) → Prop
/-- a slice's part (left out, or an int) -/
def PO (X : Cx) (e : Option Expr) (t : TO) : Prop :=
  ∀ (pins : List (Addr × Obj)) (s : Shared) (σ : St) (H : Hp) (Q : Option Int → Hp → Prop), Inv X pins σ H s → t σ H Q →
    wpAny (model X.prog X.w) X.A (evalPart e X.env) (fun u s' => ∃ o H', Inv X pins σ H' s' ∧ IsPart u o ∧ Q o H') X.xe s
def tNoPart : TO := fun _ H Q => Q none H
def tPart (t : TE) : TO := fun σ H Q => t σ H fun x H1 => ∃ i, x = .int i ∧ Q (some i) H1

section
variable {X : Cx} {e : Expr} {te : TE} {lo hi : Option Expr} {tl th : TO} {pos p2 : Pos}

theorem po_none : PO X none tNoPart := by
  intro pins s σ H Q I h
  rw [evalPart_none]
  exact wpAny_pure ⟨none, H, I, .none, h⟩
theorem po_some (h : PE X e te) : PO X (some e) (tPart te) := by
  intro pins s σ H Q I hw
  rw [evalPart_some]
  refine thn (h pins s σ H _ I hw) fun u s1 ⟨x, H1, I1, r1, q1⟩ => ?_
  obtain ⟨i, rfl, q⟩ := q1
  obtain ⟨t, rfl⟩ := r1
  exact ⟨some i, H1, I1, .int i t, q⟩

/-- what a slice of a value is, by values: the slice object stands at sl -/
def SlR (X : Cx) (r : V → Option Int → Option Int → Hp → VK → Prop) : Prop :=
  ∀ (pins : List (Addr × Obj)) (s : Shared) (σ : St) (H : Hp) (x : V) (v vl vu : Value) (lo hi : Option Int) (sl : Addr) (Q : VK), Inv X pins σ H s → RelV x v → s.heap.IsSliceOf sl vl vu .none → IsPart vl lo → IsPart vu hi → r x lo hi H Q →
    ∃ T id, typeLookup (.type T) "__getitem__" = pure (some (.builtin id)) ∧ s.TypeIs v T ∧ wpAny (model X.prog X.w) X.A (getItem v (.ref sl)) (EP X pins σ Q) X.xe s
theorem SlR.or {r r' : V → Option Int → Option Int → Hp → VK → Prop} (h : SlR X r) (h' : SlR X r') : SlR X (fun x lo hi H Q => r x lo hi H Q ∨ r' x lo hi H Q) := by
  intro pins s σ H x v vl vu lo hi sl Q I rx hs pl pu q
  rcases q with q | q
  · exact h pins s σ H x v vl vu lo hi sl Q I rx hs pl pu q
  · exact h' pins s σ H x v vl vu lo hi sl Q I rx hs pl pu q
def tSl (r : V → Option Int → Option Int → Hp → VK → Prop) (te : TE) (tl th : TO) : TE := fun σ H Q => te σ H fun x H1 => tl σ H1 fun l H2 => th σ H2 fun u H3 => r x l u H3 Q
/-- a[lo:hi], any a -/
theorem pe_slice {r : V → Option Int → Option Int → Hp → VK → Prop} (hr : SlR X r) (he : PE X e te) (hl : PO X lo tl) (hu : PO X hi th) : PE X (.Subscript e (.Slice lo hi none p2) pos) (tSl r te tl th) := by
  intro pins s σ H Q I h
  refine Subscript_ (thn (he pins s σ H _ I h) fun v s1 ⟨x, H1, I1, r1, q1⟩ => ?_)
  refine wpAny_Slice (thn (hl pins s1 σ H1 _ I1 q1) fun vl s2 ⟨l, H2, I2, pl, q2⟩ => thn (hu pins s2 σ H2 _ I2 q2) fun vu s3 ⟨u, H3, I3, pu, q3⟩ => ?_)
  rw [evalPart_none]
  refine wpAny_pure ?_
  have I4 : Inv X pins σ H3 { s3 with heap := s3.heap.push { cls := .type "slice", data := .fields #[vl, vu, .none] } } := I3.kept (t' := s3.toks) fun b ob q => Heap.get?_push_of_some _ q
  obtain ⟨T, id, hT, ht, hg⟩ := hr pins { s3 with heap := s3.heap.push { cls := .type "slice", data := .fields #[vl, vu, .none] } } σ H3 x v vl vu l u s3.heap.objs.size Q I4 r1 (Heap.IsSliceOf.new ..) pl pu q3
  show wpAny (model X.prog X.w) X.A (subscriptTail e (.Slice lo hi none p2) v (.ref s3.heap.objs.size)) (EP X pins σ Q) X.xe { s3 with heap := s3.heap.push { cls := .type "slice", data := .fields #[vl, vu, .none] } }
  exact tail_any (ops := [.ref s3.heap.objs.size, v]) ht hT hg (by with_unfolding_all rfl)

/-- the items of xs[lo:hi] -/
def cutV (xs : List V) (lo hi : Option Int) : List V := (xs.drop (HT.sIx xs.length 0 lo)).take (HT.sIx xs.length xs.length hi - HT.sIx xs.length 0 lo)
theorem cutV_length (xs : List V) (lo hi : Option Int) : (cutV xs lo hi).length ≤ xs.length := by
  unfold cutV
  rw [List.length_take, List.length_drop]
  omega
/-- t[lo:hi], not the whole of it (the whole would be t itself) -/
def rSlT (K : PySem.W.Frag) : V → Option Int → Option Int → Hp → VK → Prop := fun x lo hi H Q => ∃ a xs, x = .ref a ∧ SqT K H a xs ∧
  ¬ (HT.sIx xs.length 0 lo = 0 ∧ HT.sIx xs.length xs.length hi = xs.length) ∧ ∀ p, H p = none → Q (.ref p) (upd H p (.tup (cutV xs lo hi)))
theorem sl_tup : SlR X (rSlT X.K) := by
  intro pins s σ H x v vl vu lo hi sl Q I rx hs pl pu h
  obtain ⟨a, xs, rfl, hx, hw, q⟩ := h
  cases rx
  obtain ⟨its, r, ht, hz⟩ := I.tuple hx
  have hlen : its.toArray.size = xs.length := by rw [List.size_toArray]; exact r.length.symm
  refine ⟨"tuple", _, PyProof.Rows.slot_tuple_getitem.lookup, ht.typeIs, ?_⟩
  refine HT.getItem_tuple_cut ht hs pl pu (by rw [hlen]; exact hw) ?_ (by rw [hlen]; exact hz)
  rw [hlen]
  refine ⟨.ref s.heap.objs.size, _, I.laid (t' := s.toks) (o := .tup (cutV xs lo hi)) (fun b ob q => Heap.get?_push_of_some _ q) (Nat.le_refl _) ?_, rfl, q _ (I.hok.fresh (Nat.le_refl _))⟩
  exact ⟨Nat.le_trans (cutV_length xs lo hi) hz, _, (r.drop (HT.sIx xs.length 0 lo)).take (HT.sIx xs.length xs.length hi - HT.sIx xs.length 0 lo), IsTup.new _ _⟩

/-! ### t < u, t + u -/
end
end L2

namespace L2
open PySem PySem.Spec PyProof.Rows

/-! ### places -/
/-- the place that an index of any sign means -/
def ixN (n : Nat) (i : Int) : Option Nat := if 0 ≤ i then (if i < n then some i.toNat else none) else if -(n : Int) ≤ i then some (i + n).toNat else none
def atI {α : Type} (xs : List α) (i : Int) : Option α := (ixN xs.length i).bind fun j => xs[j]?
theorem ixN_seq {n : Nat} {i : Int} {j : Nat} (h : ixN n i = some j) : seqIndex? i n = some j ∧ j < n ∧ -(n : Int) ≤ i ∧ i < n := by
  unfold ixN at h
  by_cases h0 : 0 ≤ i
  · rw [if_pos h0] at h
    by_cases h1 : i < n
    · rw [if_pos h1] at h
      have e : i.toNat = j := Option.some.inj h
      exact ⟨by rw [seqIndex_of h0 h1, e], by omega, by omega, h1⟩
    · rw [if_neg h1] at h; cases h
  · rw [if_neg h0] at h
    by_cases h1 : -(n : Int) ≤ i
    · rw [if_pos h1] at h
      have e : (i + n).toNat = j := Option.some.inj h
      exact ⟨by rw [seqIndex_neg (by omega) h1, e], by omega, h1, by omega⟩
    · rw [if_neg h1] at h; cases h
theorem atI_get {α : Type} {xs : List α} {i : Int} {v : α} (h : atI xs i = some v) : ∃ j, seqIndex? i xs.length = some j ∧ xs[j]? = some v ∧ j < xs.length ∧ -(xs.length : Int) ≤ i ∧ i < xs.length := by
  unfold atI at h
  cases e : ixN xs.length i with
  | none => rw [e] at h; cases h
  | some j =>
    rw [e] at h
    obtain ⟨h1, h2, h3, h4⟩ := ixN_seq e
    exact ⟨j, h1, h, h2, h3, h4⟩
theorem atI_nat {α : Type} {xs : List α} {j : Nat} {v : α} (h : xs[j]? = some v) : atI xs (j : Int) = some v := by
  have hj : j < xs.length := (List.getElem?_eq_some_iff.mp h).1
  have e : ixN xs.length (j : Int) = some j := by
    unfold ixN
    rw [if_pos (by omega), if_pos (by omega)]; simp
  unfold atI; rw [e]; exact h
/-! ### what may be subscripted -/
/-- what stands as an index of a plain subscript -/
def PlainIx (b : Expr) : Prop := ∀ o i, subscripted b false o i = operate [o, i] (getItem o i)
/-- a subscript by values -/
def IxR (X : Cx) (r : R2) : Prop :=
  ∀ (value slice : Expr) (pins : List (Addr × Obj)) (s : Shared) (σ : St) (H : Hp) (x y : V) (v u : Value) (Q : VK), Inv X pins σ H s → RelV x v → RelV y u → r x y H Q →
    subscripted slice false v u = operate [v, u] (getItem v u) → wpAny (model X.prog X.w) X.A (subscriptTail value slice v u) (EP X pins σ Q) X.xe s
/-- a call of a builtin's method by values: the receiver, the arguments -/
def MtR (X : Cx) (id : String) (r : V → List V → Hp → VK → Prop) : Prop :=
  ∀ (pins : List (Addr × Obj)) (s : Shared) (σ : St) (H : Hp) (x : V) (xs : List V) (v : Value) (us : List Value) (Q : VK), Inv X pins σ H s → RelV x v → Vals xs us → r x xs H Q →
    wpAny (model X.prog X.w) X.A (call (.builtin id) (v :: us)) (EP X pins σ Q) X.xe s
section
variable {X : Cx} {a b : Expr} {ta tb : TE} {pos : Pos}
theorem IxR.or {r r' : R2} (h : IxR X r) (h' : IxR X r') : IxR X (fun x y H Q => r x y H Q ∨ r' x y H Q) := by
  intro value slice pins s σ H x y v u Q I rx ry q hs
  rcases q with q | q
  · exact h value slice pins s σ H x y v u Q I rx ry q hs
  · exact h' value slice pins s σ H x y v u Q I rx ry q hs
theorem MtR.or {id : String} {r r' : V → List V → Hp → VK → Prop} (h : MtR X id r) (h' : MtR X id r') : MtR X id (fun x xs H Q => r x xs H Q ∨ r' x xs H Q) := by
  intro pins s σ H x xs v us Q I rx rs q
  rcases q with q | q
  · exact h pins s σ H x xs v us Q I rx rs q
  · exact h' pins s σ H x xs v us Q I rx rs q
/-- a[b] -/
theorem pe_ix {r : R2} (hr : IxR X r) (ha : PE X a ta) (hb : PE X b tb) (hs : PlainIx b) : PE X (.Subscript a b pos) (tOp r ta tb) := by
  intro pins s σ H Q I h
  exact Subscript_ (binT ha hb I h fun v u s2 x y H2 I2 rx ry q => hr a b pins s2 σ H2 x y v u Q I2 rx ry q (hs _ _))

def rIxL (K : PySem.W.Frag) : R2 := fun x y H Q => ∃ p xs i v, x = .ref p ∧ y = .int i ∧ SqL K H p xs ∧ atI xs i = some v ∧ Q v H
def rIxT (K : PySem.W.Frag) : R2 := fun x y H Q => ∃ p xs i v, x = .ref p ∧ y = .int i ∧ SqT K H p xs ∧ atI xs i = some v ∧ Q v H
def rIxS : R2 := fun x y H Q => ∃ z i c, x = .str z ∧ y = .int i ∧ z.length ≤ sizeLine ∧ atI z.cps.toList i = some c ∧ Q (.str ⟨#[c]⟩) H
theorem ix_list : IxR X (rIxL X.K) := by
  intro value slice pins s σ H x y v u Q I rx ry h hs
  obtain ⟨p, xs, i, z, rfl, rfl, hq, he, q⟩ := h
  cases rx
  obtain ⟨t, rfl⟩ := ry
  obtain ⟨its, r, pl, hz⟩ := I.list hq
  obtain ⟨j, h1, h2, h3, h4, h5⟩ := atI_get he
  obtain ⟨w, ew, rw'⟩ := r.get h2
  have hl := r.length
  have hn := line63
  have fin : EP X pins σ Q w s := ⟨z, H, I, rw', q⟩
  by_cases h0 : 0 ≤ i
  · have hj : i.toNat = j := by
      rw [seqIndex_of h0 h5] at h1
      exact Option.some.inj h1
    exact item_listR pl.isList h0 (by omega) (by rw [hj]; simpa using ew) fin hs
  · have hj : (i + (its.toArray.size : Int)).toNat = j := by
      rw [seqIndex_neg (by omega) h4] at h1
      rw [List.size_toArray, ← hl]
      exact Option.some.inj h1
    exact subscriptTail_builtinR (x := w) pl.isList.typeIs slot_list_getitem.lookup
      (wpAny_getItem_list_neg (Q := fun r s' => r = w ∧ EP X pins σ Q r s') pl.isList (by omega) (by rw [List.size_toArray] <;> omega) (by omega) (by rw [hj]; simpa using ew) ⟨rfl, fin⟩) hs
theorem ix_tup : IxR X (rIxT X.K) := by
  intro value slice pins s σ H x y v u Q I rx ry h hs
  obtain ⟨p, xs, i, z, rfl, rfl, hq, he, q⟩ := h
  cases rx
  obtain ⟨t, rfl⟩ := ry
  obtain ⟨its, r, pl, hz⟩ := I.tuple hq
  obtain ⟨j, h1, h2, h3, h4, h5⟩ := atI_get he
  obtain ⟨w, ew, rw'⟩ := r.get h2
  have hl := r.length
  have hn := line63
  have fin : EP X pins σ Q w s := ⟨z, H, I, rw', q⟩
  exact subscriptTail_builtinR (x := w) pl.typeIs slot_tuple_getitem.lookup
    (getItem_tuple (j := j) (Q := fun r s' => r = w ∧ EP X pins σ Q r s') pl (by omega) (by omega) (by rw [List.size_toArray, ← hl]; exact h1) (by simpa using ew) ⟨rfl, fin⟩) hs
theorem ix_str : IxR X rIxS := by
  intro value slice pins s σ H x y v u Q I rx ry h hs
  obtain ⟨z, i, c, rfl, rfl, hz, he, q⟩ := h
  obtain ⟨t, rfl⟩ := rx
  obtain ⟨t', rfl⟩ := ry
  obtain ⟨j, h1, h2, h3, h4, h5⟩ := atI_get he
  have hl : z.cps.toList.length = z.length := by simp [Str.length]
  rw [hl] at h1 h4 h5
  have hn := line63
  exact tail_any (typeIs_str s z t) slot_str_getitem.lookup (getItem_str (c := c) (by
    have e1 : decide (i < -(2 ^ 63 : Int)) = false := decide_eq_false (by omega)
    have e2 : decide (i ≥ 2 ^ 63) = false := decide_eq_false (by omega)
    rw [e1, e2, Bool.or_false]) (by rw [h1]; simpa using h2) ⟨.str ⟨#[c]⟩, H, I.tok _, ⟨_, rfl⟩, q⟩) hs
/-- list, tuple or str -/
def rIx (K : PySem.W.Frag) : R2 := fun x y H Q => rIxL K x y H Q ∨ rIxT K x y H Q ∨ rIxS x y H Q
theorem ix_seq : IxR X (rIx X.K) := ix_list.or (ix_tup.or ix_str)

/-! ### xs[i] = v, any sign -/
/-- the list's object behind a store -/
theorem mapSeq_set (its : List Value) (n j : Nat) (u : Value) : Obj.mapSeq (·.setIfInBounds j u) { cls := .type "list", data := .seq its.toArray n } = { cls := .type "list", data := .seq (its.set j u).toArray n } := by
  simp [Obj.mapSeq]
theorem Inv.lst {pins : List (Addr × Obj)} {σ : St} {H : Hp} {s : Shared} {p : Addr} {xs : List V} (I : Inv X pins σ H s) (h : H p = some (.lst xs)) :
    ∃ (its : List Value) (n : Nat), Vals xs its ∧ s.heap.get? p = some { cls := .type "list", data := .seq its.toArray n } ∧ xs.length ≤ sizeLine := by
  obtain ⟨z, its, n, r, e⟩ := I.hok p _ h
  exact ⟨its, n, r, e, z⟩
/-- the list at p is written by an update of its object -/
theorem Inv.lstUpd {pins : List (Addr × Obj)} {σ : St} {H : Hp} {s : Shared} {p : Addr} {xs ys : List V} {its its' : List Value} {n n' : Nat} {f : Obj → Obj} (I : Inv X pins σ H s) (h : H p = some (.lst xs))
    (ho : s.heap.get? p = some { cls := .type "list", data := .seq its.toArray n }) (hf : f { cls := .type "list", data := .seq its.toArray n } = { cls := .type "list", data := .seq its'.toArray n' }) (r : Vals ys its') (hz : ys.length ≤ sizeLine) (t : Nat) :
    Inv X pins σ (upd H p (.lst ys)) { s with heap := s.heap.update p f, toks := t } := by
  have e : (s.heap.update p f).get? p = some { cls := .type "list", data := .seq its'.toArray n' } := by
    rw [Heap.get?_update_self f ho (by rw [hf] <;> rfl), hf]
  refine I.write (x := p) (e := p) (by rw [h]; trivial) (.inl rfl) (fun b u hb q => (Heap.get?_update_other _ _ (Ne.symm hb)).trans q) ⟨_, e⟩ ?_
  exact ⟨hz, its', n', r, e⟩
def rSetL : V → V → V → Hp → (Hp → Prop) → Prop := fun o i v H Q => ∃ p xs k j, o = .ref p ∧ i = .int k ∧ H p = some (.lst xs) ∧ ixN xs.length k = some j ∧ Q (upd H p (.lst (xs.set j v)))
theorem set_list : PSet X rSetL := by
  intro pins s σ H o i v ov iv u Q I ro ri rv h
  obtain ⟨p, xs, k, j, rfl, rfl, hp, hj, q⟩ := h
  cases ro
  obtain ⟨t, rfl⟩ := ri
  obtain ⟨its, n, r, ho, hz⟩ := I.lst hp
  obtain ⟨h1, h2, h3, h4⟩ := ixN_seq hj
  have hl := r.length
  have hn := line63
  have I' : Inv X pins σ (upd H p (.lst (xs.set j v))) { s with heap := s.heap.update p (Obj.mapSeq (·.setIfInBounds j u)) } :=
    I.lstUpd hp ho (mapSeq_set its n j u) (r.set rv j) (by rw [List.length_set]; exact hz) s.toks
  by_cases h0 : 0 ≤ k
  · have hk : k.toNat = j := by
      rw [seqIndex_of h0 h4] at h1
      exact Option.some.inj h1
    exact PySem.W.ki_setAt ho h0 (by omega) (by rw [List.size_toArray, ← hl]; exact h4) (by rw [hk]; exact ⟨_, I', q⟩)
  · have hk : (k + (its.toArray.size : Int)).toNat = j := by
      rw [seqIndex_neg (by omega) h3] at h1
      rw [List.size_toArray, ← hl]
      exact Option.some.inj h1
    exact PySem.W.ki_setBack ho (by omega) (by rw [List.size_toArray, ← hl]; exact h3) (by omega) (by rw [hk]; exact ⟨_, I', q⟩)

/-! ### slices -/
theorem slice_bounds (lo hi : Option Int) (n : Nat) : (sliceBounds lo hi none n).1 = ((HT.sIx n 0 lo : Nat) : Int) ∧ (sliceBounds lo hi none n).2.1 = ((HT.sIx n n hi : Nat) : Int) ∧ (sliceBounds lo hi none n).2.2 = 1 := by
  refine ⟨?_, ?_, rfl⟩
  · cases lo with
    | none => simp [sliceBounds, HT.sIx]
    | some i =>
      simp only [sliceBounds, HT.sIx, Option.getD_none, show (1 : Int) > 0 by decide, if_true]
      by_cases h : i < 0
      · simp only [h, if_true] <;> omega
      · simp only [h, if_false] <;> omega
  · cases hi with
    | none => simp [sliceBounds, HT.sIx]
    | some i =>
      simp only [sliceBounds, HT.sIx, Option.getD_none, show (1 : Int) > 0 by decide, if_true]
      by_cases h : i < 0
      · simp only [h, if_true] <;> omega
      · simp only [h, if_false] <;> omega
theorem slicePick_cut (its : List Value) (lo hi : Option Int) : slicePick its.toArray lo hi none = ((its.drop (HT.sIx its.length 0 lo)).take (HT.sIx its.length its.length hi - HT.sIx its.length 0 lo)).toArray := by
  obtain ⟨h1, h2, h3⟩ := slice_bounds lo hi its.toArray.size
  unfold slicePick
  rw [h1, h2, h3]
  simp only [sliceRange_one, pick_run, List.size_toArray] <;> rfl
/-- xs[lo:hi] of a list: a new list -/
def rSlL (K : PySem.W.Frag) : V → Option Int → Option Int → Hp → VK → Prop := fun x lo hi H Q => ∃ a xs, x = .ref a ∧ SqL K H a xs ∧ ∀ p, H p = none → Q (.ref p) (upd H p (.lst (cutV xs lo hi)))
theorem sl_list : SlR X (rSlL X.K) := by
  intro pins s σ H x v vl vu lo hi sl Q I rx hs pl pu h
  obtain ⟨a, xs, rfl, hx, q⟩ := h
  cases rx
  obtain ⟨its, r, ht, hz⟩ := I.list hx
  have hlen := r.length
  refine ⟨"list", _, slot_list_getitem.lookup, ht.isList.typeIs, ?_⟩
  refine wpAny_getItem_list_slice ht.isList hs pl pu .none (by simp) ?_ (by rw [List.size_toArray] <;> omega)
  rw [slicePick_cut, ← hlen]
  refine ⟨.ref s.heap.objs.size, _, I.laid (t' := s.toks) (o := .lst (cutV xs lo hi)) (fun b ob q => Heap.get?_push_of_some _ q) (Nat.le_refl _) ?_, rfl, q _ (I.hok.fresh (Nat.le_refl _))⟩
  exact ⟨Nat.le_trans (cutV_length xs lo hi) hz, _, 0, (r.drop (HT.sIx xs.length 0 lo)).take (HT.sIx xs.length xs.length hi - HT.sIx xs.length 0 lo), Heap.get?_push_size _ rfl⟩

/-! ### in, not in: flat items -/
def flatV : V → Bool
  | .non => true
  | .bl _ => true
  | .int _ => true
  | .str _ => true
  | _ => false
/-- == of flat values -/
def eqV : V → V → Bool
  | .non, .non => true
  | .bl a, .bl b => a == b
  | .bl a, .int b => (if a then 1 else 0) == b
  | .int a, .bl b => a == (if b then 1 else 0)
  | .int a, .int b => a == b
  | .str a, .str b => a == b
  | _, _ => false
theorem eqAt_V {A : Around} {s : Shared} {y x : V} {u v : Value} (ry : RelV y u) (rx : RelV x v) (fy : flatV y = true) (fx : flatV x = true) : SeqAt.EqAt A s u v (eqV y x) := by
  cases y with
  | non =>
    cases ry
    cases x with
    | non => cases rx; exact SeqAt.EqAt.same _
    | bl b => cases rx; exact SeqAt.EqAt.none_bool b
    | int b => obtain ⟨t, rfl⟩ := rx; exact SeqAt.EqAt.none_int b t
    | str b => obtain ⟨t, rfl⟩ := rx; exact SeqAt.EqAt.none_str b t
    | _ => exact absurd (show false = true from fx) Bool.false_ne_true
  | bl a =>
    cases ry
    cases x with
    | non => cases rx; exact SeqAt.EqAt.bool_none a
    | bl b => cases rx; exact SeqAt.EqAt.bool_bool a b
    | int b => obtain ⟨t, rfl⟩ := rx; exact SeqAt.EqAt.bool_int a b t
    | str b => obtain ⟨t, rfl⟩ := rx; exact SeqAt.EqAt.bool_str a b t
    | _ => exact absurd (show false = true from fx) Bool.false_ne_true
  | int a =>
    obtain ⟨t', rfl⟩ := ry
    cases x with
    | non => cases rx; exact SeqAt.EqAt.int_none a t'
    | bl b => cases rx; exact SeqAt.EqAt.int_bool a t' b
    | int b => obtain ⟨t, rfl⟩ := rx; exact SeqAt.EqAt.int_int a t' b t
    | str b => obtain ⟨t, rfl⟩ := rx; exact SeqAt.EqAt.int_str a t' b t
    | _ => exact absurd (show false = true from fx) Bool.false_ne_true
  | str a =>
    obtain ⟨t', rfl⟩ := ry
    cases x with
    | non => cases rx; exact SeqAt.EqAt.str_none a t'
    | bl b => cases rx; exact SeqAt.EqAt.str_bool a t' b
    | int b => obtain ⟨t, rfl⟩ := rx; exact SeqAt.EqAt.str_int a t' b t
    | str b => obtain ⟨t, rfl⟩ := rx; exact SeqAt.EqAt.str_str a t' b t
    | _ => exact absurd (show false = true from fx) Bool.false_ne_true
  | _ => exact absurd (show false = true from fy) Bool.false_ne_true
/-- the items' answers, read off the values (a value's own answer does not lean on its token) -/
def eqU (x : V) (u : Value) : Bool := match u with
  | .none => eqV .non x
  | .bool b => eqV (.bl b) x
  | .int i _ => eqV (.int i) x
  | .str z _ => eqV (.str z) x
  | _ => false
theorem eqU_of {x y : V} {u : Value} (r : RelV y u) (f : flatV y = true) : eqU x u = eqV y x := by
  cases y with
  | non => cases r; rfl
  | bl b => cases r; rfl
  | int i => obtain ⟨t, rfl⟩ := r; rfl
  | str z => obtain ⟨t, rfl⟩ := r; rfl
  | _ => exact absurd (show false = true from f) Bool.false_ne_true
theorem any_eqU {x : V} : ∀ {xs : List V} {us : List Value}, Vals xs us → xs.all flatV = true → us.any (eqU x) = xs.any fun y => eqV y x
  | _, _, .nil, _ => rfl
  | y :: xs, u :: us, .cons r t, f => by
    rw [List.all_cons, Bool.and_eq_true] at f
    rw [List.any_cons, List.any_cons, eqU_of r f.1, any_eqU t f.2]
theorem mem_eqAt {A : Around} {s : Shared} {x : V} {v : Value} (rx : RelV x v) (fx : flatV x = true) : ∀ {xs : List V} {us : List Value}, Vals xs us → xs.all flatV = true → ∀ u ∈ us, SeqAt.EqAt A s u v (eqU x u)
  | _, _, .nil, _ => fun u hu => by cases hu
  | y :: xs, u :: us, .cons r t, f => fun u' hu => by
    rw [List.all_cons, Bool.and_eq_true] at f
    rcases List.mem_cons.mp hu with rfl | hu
    · rw [eqU_of r f.1]; exact eqAt_V r rx f.1 fx
    · exact mem_eqAt rx fx t f.2 u' hu
def inV (x : V) (xs : List V) : Bool := xs.any fun y => eqV y x
/-- x in a list or tuple of flat items -/
def rIn (K : PySem.W.Frag) (neg : Bool) : R2 := fun x y H Q => ∃ p xs, y = .ref p ∧ (SqL K H p xs ∨ SqT K H p xs) ∧ flatV x = true ∧ xs.all flatV = true ∧ Q (.bl (if neg then !inV x xs else inV x xs)) H
theorem op_in_seq : OpR X (compareOp .In) (rIn X.K false) := by
  intro pins s σ H x y v u Q I rx ry h
  obtain ⟨p, xs, rfl, hq, fx, fs, q⟩ := h
  cases ry
  rcases hq with hq | hq
  · obtain ⟨its, r, pl, hz⟩ := I.list hq
    refine SeqAt.in_listAt (eqU x) pl.isList (fun w hw => mem_eqAt rx fx r fs w (by simpa using hw)) ⟨.bl _, H, I, rfl, ?_⟩
    rw [show its.toArray.any (eqU x) = its.any (eqU x) by simp, any_eqU r fs]
    exact q
  · obtain ⟨its, r, pl, hz⟩ := I.tuple hq
    refine SeqAt.in_tupleAt (eqU x) pl (fun w hw => mem_eqAt rx fx r fs w (by simpa using hw)) ⟨.bl _, H, I, rfl, ?_⟩
    rw [show its.toArray.any (eqU x) = its.any (eqU x) by simp, any_eqU r fs]
    exact q
theorem op_notIn_seq : OpR X (compareOp .NotIn) (rIn X.K true) := by
  intro pins s σ H x y v u Q I rx ry h
  obtain ⟨p, xs, rfl, hq, fx, fs, q⟩ := h
  cases ry
  rcases hq with hq | hq
  · obtain ⟨its, r, pl, hz⟩ := I.list hq
    refine SeqAt.notIn_listAt (eqU x) pl.isList (fun w hw => mem_eqAt rx fx r fs w (by simpa using hw)) ⟨.bl _, H, I, rfl, ?_⟩
    rw [show its.toArray.any (eqU x) = its.any (eqU x) by simp, any_eqU r fs]
    exact q
  · obtain ⟨its, r, pl, hz⟩ := I.tuple hq
    refine SeqAt.notIn_tupleAt (eqU x) pl (fun w hw => mem_eqAt rx fx r fs w (by simpa using hw)) ⟨.bl _, H, I, rfl, ?_⟩
    rw [show its.toArray.any (eqU x) = its.any (eqU x) by simp, any_eqU r fs]
    exact q
/-! ### len, list(x), tuple(x) of any list or tuple that is read -/
theorem call_len_seq : CallR X (.builtin "len") (fun xs H Q => ∃ p ys, xs = [.ref p] ∧ (SqL X.K H p ys ∨ SqT X.K H p ys) ∧ Q (.int ys.length) H) := by
  intro pins s σ H xs us Q I r h
  obtain ⟨p, ys, rfl, hq, q⟩ := h
  obtain ⟨u, rfl, rx⟩ := vals1 r
  cases rx
  have hn := line63
  rcases hq with hq | hq
  · obtain ⟨its, r', pl, hz⟩ := I.list hq
    have hlen := r'.length
    exact Calls.call_len_list pl.isList (by simp only [List.size_toArray] <;> omega) ⟨.int ys.length, H, I.tok _, ⟨s.toks + 1, by rw [List.size_toArray, hlen]⟩, q⟩
  · obtain ⟨its, r', pl, hz⟩ := I.tuple hq
    have hlen := r'.length
    exact len_tuple pl (by simp only [List.size_toArray] <;> omega) ⟨.int ys.length, H, I.tok _, ⟨s.toks + 1, by rw [List.size_toArray, hlen]⟩, q⟩
theorem call_len_str : CallR X (.builtin "len") (fun xs H Q => ∃ z, xs = [.str z] ∧ z.length ≤ sizeLine ∧ Q (.int z.length) H) := by
  intro pins s σ H xs us Q I r h
  obtain ⟨z, rfl, hz, q⟩ := h
  obtain ⟨u, rfl, t, rfl⟩ := vals1 r
  have hn := line63
  exact len_str (by omega) ⟨.int z.length, H, I.tok _, ⟨_, rfl⟩, q⟩
theorem CallR.or {f : Value} {r r' : List V → Hp → VK → Prop} (h : CallR X f r) (h' : CallR X f r') : CallR X f (fun xs H Q => r xs H Q ∨ r' xs H Q) := by
  intro pins s σ H xs us Q I rs q
  rcases q with q | q
  · exact h pins s σ H xs us Q I rs q
  · exact h' pins s σ H xs us Q I rs q
theorem call_list_of : CallR X (.type "list") (fun xs H Q => ∃ p ys, xs = [.ref p] ∧ (SqL X.K H p ys ∨ SqT X.K H p ys) ∧ ∀ l, H l = none → Q (.ref l) (upd H l (.lst ys))) := by
  intro pins s σ H xs us Q I r h
  obtain ⟨p, ys, rfl, hq, q⟩ := h
  obtain ⟨u, rfl, rx⟩ := vals1 r
  cases rx
  have fin : ∀ (its : List Value), Vals ys its → ys.length ≤ sizeLine → ∀ (h' : Heap) (c' : Nat), (∀ b o', s.heap.get? b = some o' → h'.get? b = some o') →
      h'.get? s.heap.objs.size = some { cls := .type "list", dict := none, data := .seq its.toArray c', slots := #[] } → EP X pins σ Q (.ref s.heap.objs.size) { s with heap := h' } := fun its r' hz h' c' kp e =>
    ⟨.ref s.heap.objs.size, _, I.laid (t' := s.toks) kp (Nat.le_refl _) (show ObjOk X.prog X.w _ h' _ (.lst ys) from ⟨hz, its, c', r', e⟩), rfl, q _ (I.hok.fresh (Nat.le_refl _))⟩
  rcases hq with hq | hq
  · obtain ⟨its, r', pl, hz⟩ := I.list hq
    have hlen := r'.length
    obtain ⟨o, ho, hc, n, hd⟩ := pl.isList
    exact call_list_seq p (.inl rfl) ho hc hd (fun h' c' kp e => fin its r' hz h' c' kp e) (by simp only [List.size_toArray] <;> omega)
  · obtain ⟨its, r', pl, hz⟩ := I.tuple hq
    have hlen := r'.length
    obtain ⟨o, ho, hc, n, hd⟩ := pl
    exact call_list_seq p (.inr rfl) ho hc hd (fun h' c' kp e => fin its r' hz h' c' kp e) (by simp only [List.size_toArray] <;> omega)
theorem call_tuple_of : CallR X (.type "tuple") (fun xs H Q => ∃ p ys, xs = [.ref p] ∧ ((SqL X.K H p ys ∧ ∀ l, H l = none → Q (.ref l) (upd H l (.tup ys))) ∨ (SqT X.K H p ys ∧ Q (.ref p) H))) := by
  intro pins s σ H xs us Q I r h
  obtain ⟨p, ys, rfl, h⟩ := h
  obtain ⟨u, rfl, rx⟩ := vals1 r
  cases rx
  rcases h with ⟨hq, q⟩ | ⟨hq, q⟩
  · obtain ⟨its, r', pl, hz⟩ := I.list hq
    have hlen := r'.length
    refine call_tuple_list pl.isList (fun h' kp => ?_) (by simp only [List.size_toArray] <;> omega)
    have I1 : Inv X pins σ H { s with heap := h' } := I.kept (t' := s.toks) kp
    have I2 : Inv X pins σ (upd H h'.objs.size (.tup ys)) { s with heap := h'.push { cls := .type "tuple", data := .seq its.toArray } } :=
      I1.laid (t' := s.toks) (fun b o e => Heap.get?_push_of_some _ e) (Nat.le_refl _) (show ObjOk X.prog X.w _ _ _ (.tup ys) from ⟨hz, its, r', IsTup.new _ _⟩)
    exact ⟨.ref h'.objs.size, _, I2, rfl, q _ (I1.hok.fresh (Nat.le_refl _))⟩
  · obtain ⟨its, r', pl, hz⟩ := I.tuple hq
    exact call_tuple_same pl ⟨.ref p, H, I, rfl, q⟩

/-! ### the call of a builtin's method: o.m(..) -/
/-- the value is of that builtin type -/
def tyV (K : PySem.W.Frag) (T : String) (x : V) (H : Hp) : Prop := match x with
  | .str _ => T = "str"
  | .int _ => T = "int"
  | .ref p => (T = "list" ∧ ∃ xs, SqL K H p xs) ∨ (T = "tuple" ∧ ∃ o, K.lookup p = some o ∧ o.cls = .type "tuple" ∧ o.dict = none) ∨
      (T = "dict" ∧ ((∃ kvs, H p = some (.dK kvs)) ∨ ∃ kvs, H p = some (.dT kvs))) ∨ (T = "set" ∧ ∃ S n, H p = some (.set S n))
  | _ => False
theorem tyV_is {pins : List (Addr × Obj)} {σ : St} {H : Hp} {s : Shared} {T : String} {x : V} {v : Value} (I : Inv X pins σ H s) (r : RelV x v) (ty : tyV X.K T x H) :
    s.TypeIs v T ∧ ∀ a, v = .ref a → ∃ ob, s.heap.get? a = some ob ∧ ob.dict = none := by
  cases x with
  | str z =>
    obtain ⟨t, rfl⟩ := r
    cases (show T = "str" from ty)
    exact ⟨typeIs_str s z t, fun _ e => nomatch e⟩
  | int i =>
    obtain ⟨t, rfl⟩ := r
    cases (show T = "int" from ty)
    exact ⟨typeIs_int s i t, fun _ e => nomatch e⟩
  | ref p =>
    cases r
    rcases ty with ⟨rfl, xs, hq⟩ | ⟨rfl, o, hk, hc, hd⟩ | ⟨rfl, hk⟩ | ⟨rfl, S, n, hk⟩
    · obtain ⟨its, _, pl, _⟩ := I.list hq
      refine ⟨pl.isList.typeIs, fun a e => ?_⟩
      cases e
      obtain ⟨o, n, e, c, hd, _⟩ := pl
      exact ⟨o, e, hd⟩
    · refine ⟨⟨o, I.kIn p o hk, hc⟩, fun a e => ?_⟩
      cases e
      exact ⟨o, I.kIn _ o hk, hd⟩
    · have z : ∃ o, s.heap.get? p = some o ∧ o.ExactDict := by
        rcases hk with ⟨kvs, hk⟩ | ⟨kvs, hk⟩
        · obtain ⟨_, _, _, _, o, _, _, e, ex, _⟩ := I.hok p _ hk
          exact ⟨o, e, ex⟩
        · obtain ⟨_, _, _, _, o, _, _, e, ex, _⟩ := I.hok p _ hk
          exact ⟨o, e, ex⟩
      obtain ⟨o, e, ex⟩ := z
      refine ⟨⟨o, e, ex.1⟩, fun a e2 => ?_⟩
      cases e2
      exact ⟨o, e, ex.2.1⟩
    · obtain ⟨o, _, _, _, e, ex, _⟩ := I.hok p _ hk
      refine ⟨⟨o, e, ex.1⟩, fun a e2 => ?_⟩
      cases e2
      exact ⟨o, e, ex.2.1⟩
  | _ => exact False.elim ty
def tBM0 (K : PySem.W.Frag) (T : String) (r : V → List V → Hp → VK → Prop) (to : TE) : TE := fun σ H Q => to σ H fun x H1 => tyV K T x H1 ∧ r x [] H1 Q
def tBM (K : PySem.W.Frag) (T : String) (r : V → List V → Hp → VK → Prop) (to : TE) (t : TA) : TE := fun σ H Q => to σ H fun x H1 => tyV K T x H1 ∧ t σ H1 fun xs H2 => r x xs H2 Q
variable {o e : Expr} {es : List Expr} {to : TE} {t : TA} {name : Str} {apos cpos : Pos} {T id : String} {r : V → List V → Hp → VK → Prop}
theorem pe_bm0 (pa : PlainAttrs T) (slot : Slot T name id) (hty : typeOf (.builtin id) = pure (.type "method_descriptor")) (hm : MtR X id r) (ho : PE X o to)
    (hbase : attributeBase o name X.env (eval o X.env) = eval o X.env := by rfl) (hline : (apos.endLine == cpos.line) = true := by rfl) : PE X (.Call (.Attribute o name apos) [] [] cpos) (tBM0 X.K T r to) := by
  intro pins s σ H Q I h
  refine wpAny_Call_method0_late hbase hline (thn (ho pins s σ H _ I h) fun v s1 ⟨x, H1, I1, r1, ty, q1⟩ => ?_)
  obtain ⟨h1, h2⟩ := tyV_is I1 r1 ty
  exact ⟨T, id, pa, slot, hty, h1, h2, Calls.callWith_builtin rfl (PySem.evalArgs_none (hm pins s1 σ H1 x [] v [] Q I1 r1 .nil q1))⟩
theorem pe_bm (pa : PlainAttrs T) (slot : Slot T name id) (hty : typeOf (.builtin id) = pure (.type "method_descriptor")) (hm : MtR X id r) (ho : PE X o to) (ha : PA X (e :: es) t)
    (hbase : attributeBase o name X.env (eval o X.env) = eval o X.env := by rfl)
    (hfew : ((backTo cpos (starEach (e :: es) X.env)).all (fun x => !x.1) && (backToKw cpos (keywordEach [] X.env)).all (fun x => x.1.isSome)
      && decide ((e :: es).length + ([] : List Keyword).length + (if ([] : List Keyword).isEmpty then 0 else 1) < 30)) = true := by rfl)
    (hline : (apos.endLine == cpos.line) = true := by rfl) (hs : starEach (e :: es) X.env = (false, eval e X.env) :: starEach es X.env := by rfl) (hplain : (backTo cpos (starEach es X.env)).any (·.1) = false := by rfl) :
    PE X (.Call (.Attribute o name apos) (e :: es) [] cpos) (tBM X.K T r to t) := by
  intro pins s σ H Q I h
  refine wpAny_Call_method_late hbase hfew hline rfl (thn (ho pins s σ H _ I h) fun v s1 ⟨x, H1, I1, r1, ty, q1⟩ => ?_)
  obtain ⟨h1, h2⟩ := tyV_is I1 r1 ty
  refine ⟨T, id, pa, slot, hty, h1, h2, ?_⟩
  have hA := ha cpos pins s1 σ H1 _ I1 q1
  rw [hs] at hA ⊢
  refine Calls.callWith_builtin (by show (false || (backTo cpos (starEach es X.env)).any (·.1)) = false; rw [hplain] <;> rfl) (Calls.evalArgs_plain ?_)
  exact thn hA fun us s2 ⟨vs, H2, I2, r2, q2⟩ => hm pins s2 σ H2 x vs v us Q I2 r1 r2 q2
/- xs.append(e), list.index on a module's tuple .. are MtR facts of 06m -/
end
end L2

namespace L2
open PySem PySem.Spec PyProof.Rows

def MtM (X : Cx) (id : String) (r : V → List V → Hp → VK → Prop) : Prop :=
  ∀ (pins : List (Addr × Obj)) (s : Shared) (σ : St) (H : Hp) (x : V) (xs : List V) (v : Value) (us : List Value) (Q : VK), Inv X pins σ H s → RelV x v → Vals xs us → r x xs H Q →
    wpAny (model X.prog X.w) X.A (call (.builtin id) (v :: us)) (EP X pins σ Q) X.xe s

/-! ### lists of values -/
theorem Vals.one : ∀ {x : V} {us : List Value}, Vals [x] us → ∃ u, us = [u] ∧ RelV x u
  | _, _, .cons r .nil => ⟨_, rfl, r⟩
theorem Vals.two : ∀ {x y : V} {us : List Value}, Vals [x, y] us → ∃ u v, us = [u, v] ∧ RelV x u ∧ RelV y v
  | _, _, _, .cons r (.cons q .nil) => ⟨_, _, rfl, r, q⟩
theorem Vals.zero : ∀ {us : List Value}, Vals [] us → us = []
  | _, .nil => rfl
theorem Vals.dropLast {xs : List V} {us : List Value} (h : Vals xs us) : Vals xs.dropLast us.dropLast := by
  induction h with
  | nil => exact .nil
  | cons r t ih =>
    cases t with
    | nil => exact .nil
    | cons q t' => exact .cons r ih
theorem Vals.eraseIdx : ∀ {xs : List V} {us : List Value} (i : Nat), Vals xs us → Vals (xs.eraseIdx i) (us.eraseIdx i)
  | _, _, _, .nil => .nil
  | _, _, 0, .cons _ t => t
  | _, _, i + 1, .cons r t => .cons r (Vals.eraseIdx i t)
theorem Vals.rep {xs : List V} {us : List Value} (h : Vals xs us) : ∀ k : Nat, Vals (List.replicate k xs).flatten (List.replicate k us).flatten
  | 0 => .nil
  | k + 1 => by
    rw [List.replicate_succ, List.replicate_succ, List.flatten_cons, List.flatten_cons]
    exact Vals.append h (Vals.rep h k)
theorem erase_last {α : Type} (l : List α) : l.eraseIdx (l.length - 1) = l.dropLast := by
  induction l with
  | nil => rfl
  | cons a r ih =>
    cases r with
    | nil => rfl
    | cons b r =>
      have e : (a :: b :: r).length - 1 = ((b :: r).length - 1) + 1 := by
        have h1 : (a :: b :: r).length = r.length + 2 := rfl
        have h2 : (b :: r).length = r.length + 1 := rfl
        omega
      rw [e, List.eraseIdx_cons_succ, ih]
      all_goals rfl
theorem foldl_rep (its : List Value) : ∀ (k : Nat) (acc : List Value),
    List.foldl (fun x1 x2 => x1 ++ x2) acc.toArray (List.replicate k its.toArray) = (acc ++ (List.replicate k its).flatten).toArray
  | 0, acc => by simp
  | k + 1, acc => by
    have e : acc.toArray ++ its.toArray = (acc ++ its).toArray := by simp
    have e2 : (acc ++ its) ++ (List.replicate k its).flatten = acc ++ (List.replicate (k + 1) its).flatten := by
      rw [List.replicate_succ, List.flatten_cons, List.append_assoc]
    rw [← e2, ← foldl_rep its k (acc ++ its), ← e, List.replicate_succ, List.foldl_cons]

section
variable {X : Cx} {pins : List (Addr × Obj)} {σ : St} {H : Hp} {s : Shared} {l b : Addr} {xs ys zs : List V}

/-! ### the two steps: a tracked list is rewritten, a new list is laid -/
theorem Inv.lset {its its' : List Value} {n : Nat} {f : Array Value → Array Value} {t' : Nat} (I : Inv X pins σ H s) (hH : H l = some (.lst xs))
    (e : s.heap.get? l = some { cls := .type "list", data := .seq its.toArray n }) (hf : f its.toArray = its'.toArray) (hv : Vals ys its') (hz : ys.length ≤ sizeLine) :
    Inv X pins σ (upd H l (.lst ys)) { s with heap := s.heap.update l (Obj.mapSeq f), toks := t' } := by
  have q := PySem.IsL.update e f
  rw [hf] at q
  refine I.write (x := l) (e := l) (by rw [hH]; exact trivial) (.inl rfl) (fun b' u hb hu => (Heap.get?_update_other s.heap (Obj.mapSeq f) (Ne.symm hb)).trans hu) ⟨_, q⟩ ?_
  exact ⟨hz, its', _, hv, q⟩
theorem Inv.lnew {its : List Value} {t' : Nat} (I : Inv X pins σ H s) (hv : Vals ys its) (hz : ys.length ≤ sizeLine) :
    Inv X pins σ (upd H s.heap.objs.size (.lst ys)) { s with heap := s.heap.push { cls := .type "list", data := .seq its.toArray }, toks := t' } :=
  I.laid (fun _ _ q => Heap.get?_push_of_some _ q) (Nat.le_refl _) ⟨hz, its, 0, hv, Heap.get?_push_size _ rfl⟩
theorem Inv.fresh (I : Inv X pins σ H s) : H s.heap.objs.size = none := I.hok.fresh (Nat.le_refl _)
theorem Inv.lstM (I : Inv X pins σ H s) (hH : H l = some (.lst xs)) : xs.length ≤ sizeLine ∧ ∃ (its : List Value) (n : Nat), Vals xs its ∧ xs.length = its.length ∧ s.heap.get? l = some { cls := .type "list", data := .seq its.toArray n } := by
  obtain ⟨z, its, n, r, e⟩ := I.hok l _ hH
  exact ⟨z, its, n, r, r.length, e⟩

theorem notLongL {n : Nat} (h : n ≤ sizeLine) : Builtin.List.listTooLong n = false := by
  unfold Builtin.List.listTooLong
  exact decide_eq_false (by omega)
end

section
variable {X : Cx}

/-! ### methods -/
def rAppend : V → List V → Hp → VK → Prop := fun x vs H Q => ∃ l xs y, x = .ref l ∧ vs = [y] ∧ H l = some (.lst xs) ∧ xs.length < sizeLine ∧ Q .non (upd H l (.lst (xs ++ [y])))
theorem mt_append : MtM X "list.append" rAppend := by
  intro pins s σ H x vs v us Q I rx rv h
  obtain ⟨l, xs, y, rfl, rfl, hH, hz, q⟩ := h
  cases rx
  obtain ⟨u, rfl, ru⟩ := rv.one
  obtain ⟨z, its, n, r, hl, e⟩ := I.lstM hH
  refine call_meets F.slot_list_append ⟨_, e, rfl⟩ F.entry_list_append (F.args_list_append_2 _ _) (PySem.list_append l its.toArray n u (by rw [List.size_toArray]; omega)) ⟨e, ?_⟩
  refine ⟨.non, _, I.lset (its' := its ++ [u]) hH e (by simp) (r.append (.cons ru .nil)) ?_, rfl, q⟩
  rw [List.length_append, List.length_singleton]
  omega

def rPop : V → List V → Hp → VK → Prop := fun x vs H Q => ∃ l xs y, x = .ref l ∧ vs = [] ∧ H l = some (.lst xs) ∧ xs[xs.length - 1]? = some y ∧ Q y (upd H l (.lst xs.dropLast))
theorem mt_pop : MtM X "list.pop" rPop := by
  intro pins s σ H x vs v us Q I rx rv h
  obtain ⟨l, xs, y, rfl, rfl, hH, hy, q⟩ := h
  cases rx
  have hus := rv.zero
  subst hus
  obtain ⟨z, its, n, r, hl, e⟩ := I.lstM hH
  obtain ⟨u, hu, ru⟩ := r.get hy
  have hy' : its.toArray[its.toArray.size - 1]? = some u := by
    show its.toArray[its.length - 1]? = some u
    rw [← Array.getElem?_toList, ← hl]
    exact hu
  refine call_meets F.slot_list_pop ⟨_, e, rfl⟩ F.entry_list_pop (F.args_list_pop_1 _) (MeetsSeq.list_pop_last l its.toArray n u hy' (by rw [List.size_toArray]; omega)) ⟨e, ?_⟩
  refine ⟨y, _, I.lset (its' := its.dropLast) hH e ?_ r.dropLast ?_, ru, q⟩
  · show its.toArray.eraseIdxIfInBounds (its.toArray.size - 1) = its.dropLast.toArray
    rw [List.size_toArray, List.eraseIdxIfInBounds_toArray, erase_last]
  · rw [List.length_dropLast]
    omega

def rClear : V → List V → Hp → VK → Prop := fun x vs H Q => ∃ l xs, x = .ref l ∧ vs = [] ∧ H l = some (.lst xs) ∧ Q .non (upd H l (.lst []))
theorem mt_clear : MtM X "list.clear" rClear := by
  intro pins s σ H x vs v us Q I rx rv h
  obtain ⟨l, xs, rfl, rfl, hH, q⟩ := h
  cases rx
  have hus := rv.zero
  subst hus
  obtain ⟨z, its, n, r, hl, e⟩ := I.lstM hH
  refine call_meets F.slot_list_clear ⟨_, e, rfl⟩ F.entry_list_clear (F.args_list_clear_1 _) (AutoSeq1.list_clear_list_0 l its.toArray n (by rw [List.size_toArray]; omega)) ⟨e, ?_⟩
  exact ⟨.non, _, I.lset (its' := []) (ys := []) hH e rfl .nil (Nat.zero_le _), rfl, q⟩

/-! ### list + list, list += list, list * int -/
def rCat : R2 := fun x y H Q => ∃ l b xs zs, x = .ref l ∧ y = .ref b ∧ H l = some (.lst xs) ∧ H b = some (.lst zs) ∧ xs.length + zs.length ≤ sizeLine ∧ ∀ p, H p = none → Q (.ref p) (upd H p (.lst (xs ++ zs)))
theorem op_cat : OpR X (binaryOp .Add) rCat := by
  intro pins s σ H x y v u Q I rx ry h
  obtain ⟨l, b, xs, zs, rfl, rfl, hH, hB, hz, q⟩ := h
  cases rx
  cases ry
  obtain ⟨z, its, n, r, hl, e⟩ := I.lstM hH
  obtain ⟨z2, its2, n2, r2, hl2, e2⟩ := I.lstM hB
  refine PySem.P.add_list e e2 ?_ (by rw [List.size_toArray, List.size_toArray]; omega)
  have ea : its.toArray ++ its2.toArray = (its ++ its2).toArray := by simp
  rw [ea]
  exact ⟨.ref _, _, I.lnew (t' := s.toks) (r.append r2) (by rw [List.length_append]; omega), rfl, q _ I.fresh⟩
/-- a list times an int (a negative one is nothing) -/
def rRep : R2 := fun x y H Q => ∃ l k xs, x = .ref l ∧ y = .int k ∧ H l = some (.lst xs) ∧ -(2 ^ 63) ≤ k ∧ k < 2 ^ 63 ∧ xs.length * k.toNat ≤ sizeLine ∧
  ∀ p, H p = none → Q (.ref p) (upd H p (.lst (List.replicate k.toNat xs).flatten))
theorem len_rep {α : Type} (xs : List α) (k : Nat) : (List.replicate k xs).flatten.length = k * xs.length := by
  induction k with
  | zero => simp
  | succ k ih => rw [List.replicate_succ, List.flatten_cons, List.length_append, ih, Nat.succ_mul, Nat.add_comm]
theorem op_rep : OpR X (binaryOp .Mult) rRep := by
  intro pins s σ H x y v u Q I rx ry h
  obtain ⟨l, k, xs, rfl, rfl, hH, h1, h2, hz, q⟩ := h
  cases rx
  obtain ⟨t, rfl⟩ := ry
  obtain ⟨z, its, n, r, hl, e⟩ := I.lstM hH
  have hlen : its.toArray.size * k.toNat ≤ sizeLine := by rw [List.size_toArray, ← hl]; exact hz
  have hcap : ¬ its.toArray.size * k.toNat > (2 ^ 63 - 1) / 8 := by
    have : (sizeLine : Nat) ≤ (2 ^ 63 - 1) / 8 := by decide
    omega
  have hfit : ¬ (!Builtin.List.listFitsIndex k) = true := by
    rw [fitsIndex_both h1 h2]
    exact Bool.false_ne_true
  have hlong : ¬ Builtin.List.listTooLong (its.toArray.size * k.toNat) = true := by
    rw [notLongL hlen]
    exact Bool.false_ne_true
  have hnew : List.foldl (fun x1 x2 => x1 ++ x2) #[] (List.replicate (if its.toArray.isEmpty = true then 0 else k.toNat) its.toArray) = (List.replicate k.toNat its).flatten.toArray := by
    have f0 : ∀ m : Nat, List.foldl (fun x1 x2 => x1 ++ x2) #[] (List.replicate m its.toArray) = (List.replicate m its).flatten.toArray := fun m => by
      have := foldl_rep its m []
      rw [List.nil_append] at this
      exact this
    rw [f0]
    cases its with
    | nil => simp
    | cons a r' => rw [if_neg (by simp)]
  refine wpAny_binaryOp_repeat_ref (T := "list") (U := "int") (by decide) ⟨_, e, rfl⟩ (fun s' => typeIs_int s' k t) noFill_list_mul F.fills_int_mul F.slot_int_rmul repeat_list F.slot_int_index.lookup
    (call_meets F.slot_int_rmul (typeIs_int s k t) F.entry_int_rmul (F.args_int_rmul_2 _ _) (int___rmul___int_list k t l its.toArray n)
      ⟨e, rfl, ⟨_, e, rfl⟩, call_meets F.slot_list_mul ⟨_, e, rfl⟩ F.entry_list_mul (F.args_list_mul_2 _ _) (AutoListH.list___mul___list_int_3 l its.toArray n k t hfit hcap hlong) ⟨e, ?_⟩⟩)
  rw [hnew]
  exact ⟨.ref _, _, I.lnew (t' := s.toks) (r.rep k.toNat) (by rw [len_rep, Nat.mul_comm]; exact hz), rfl, q _ I.fresh⟩

/-! ### del xs[i] -/
end

/-! ### xs[a:b] = ys -/
section
variable {prog : Program} {w : World} {A : Around} {E : Value → Shared → Prop} {s : Shared}
set_option maxRecDepth 100000 in
end

section
variable {X : Cx}
end
end L2

namespace Att
open PySem PySem.W PySem.Calls PyProof.Rows

/-! ### the script -/
theorem ints_of_wellAll {P : Params} {h : Heap} : ∀ (ns : List Int) (vs : List Value), WellAll P h vs (ns.map WData.int) → IntsAre vs ns := by
  intro ns
  induction ns with
  | nil =>
    intro vs w
    rw [List.map_nil] at w
    cases w
    exact .nil
  | cons n ns ih =>
    intro vs w
    rw [List.map_cons] at w
    cases w with
    | cons a b =>
      cases a
      exact .cons _ _ (ih _ b)

theorem script_of {l : OpenLaw} {n : Nat} (hn : l.most = some n) {P : Params} {h : Heap} {args : List WData} {vals : List Value}
    (hpre : l.row.toRowW.claim.pre args = true) (hwl : WellAll P h vals args) :
    ∃ a vs ns, vals = [Value.ref a] ∧ args = [WData.list (ns.map WData.int)] ∧ h.get? a = some { cls := .type "list", data := .seq vs.toArray } ∧ IntsAre vs ns ∧ ns.length ≤ n := by
  have hsh : WShape.hasAll [] args [.list .int] = true := (pre_splitW hpre).1
  have hc : l.pre.holds [] { args := args } = true := (pre_splitW hpre).2
  obtain ⟨d, r, rfl, h1, h2⟩ := hasAllW_cons hsh
  obtain rfl := hasAllW_nil h2
  obtain ⟨xs, rfl, h3⟩ := hasW_list h1
  obtain ⟨ns, rfl⟩ := items_int h3
  have hlen : ns.length ≤ n := by
    unfold OpenLaw.pre at hc
    have h4 : (WTm.not (.lt (.lit (.int (n : Int))) (.len (.arg 0)))).holds [] { args := [.list (ns.map .int)] } = true := by
      have h4 := (holds_andW hc).1
      rw [hn] at h4
      exact h4
    have h5 := condW_of h4 (w_not (w_lt w_lit (w_len_list (w_arg rfl))))
    rw [List.length_map] at h5
    refine Nat.le_of_not_lt fun q => ?_
    have q' : (n : Int) < ((ns.length : Nat) : Int) := by omega
    first
      | (rw [decide_eq_true q'] at h5; exact absurd h5 (by decide))
      | (simp at h5; omega)
  cases hwl with
  | cons w1 w2 =>
    cases w2
    cases w1 with
    | list ho hall => exact ⟨_, _, ns, rfl, rfl, ho, ints_of_wellAll ns _ hall, hlen⟩

theorem post_true (l : OpenLaw) (args : List WData) : l.row.toRowW.claim.post args (.bool true) args = true :=
  postW_of (r := l.row.toRowW) (X := (true == true))
    (show WShape.has [] (.bool true) .bool = true by first | rfl | decide | simp [WShape.has, WShape.arms, WShape.armsAll])
    (show (WTm.eq .res (.lit (.bool true))).value [] { args := args, res := some (.bool true), after := args } = some (.bool (true == true)) from w_eq_bool (w_res rfl) w_lit) rfl

/-! ### the attachment: holds_open's last premise (the goal 'hc' behind k_head) from a wpAny of the law's body -/
/-- the same from a codeAny of the CALL (for a layer whose function contracts speak of calls) -/
theorem attach_call {l : OpenLaw} {n : Nat} {q : Program} {loose : List Str} {XP : (Str → Option Value) → Heap → Prop} {YP : World → Heap → Prop} {d : DefRec}
    (hn : l.most = some n) (hdf : d.params.defaults = [])
    (call : ∀ (w : World) (s₀ s₁ : Shared) (mg mb : Str → Option Value) (fa : Addr) (o : Obj) (pm cd doc : Value) (a : Addr) (vs : List Value) (ns : List Int),
      Ground q loose [] XP w s₀ mg mb s₁.heap → YP w s₁.heap →
      s₁.heap.get? fa = some o → o.data = .func (docDef d.name d.params d.body d.scope pm cd doc) → s₁.heap.CodeRec cd d.name → mg d.name = some (.ref fa) →
      s₁.heap.get? a = some { cls := .type "list", data := .seq vs.toArray } → IntsAre vs ns → ns.length ≤ n → s₁.gens = #[] →
      codeAny (model l.prog w) callerA (.call (.ref fa) ⟨[.ref a], []⟩) (fun r s' => r = .ok (.ret (.bool true)) ∧ OldK s₁.heap s'.heap ∧ s'.os = s₁.os ∧ AllBare s'.gens) s₁) :
    WalkO q loose XP YP l.row.toRowW d [] (fun f vs => PySem.call f vs) := by
  intro w s₀ s₁ mg mb G Y fa o pm cd doc dV kV ho hd hcd hD hmg hg args vals as hpre hlay hrd hwl hlo
  obtain rfl : dV = .none := Dflts.none hD hdf
  obtain rfl : kV = .none := Dflts.noKw hD
  obtain ⟨a, vs, ns, rfl, rfl, hobj, hints, hlen⟩ := script_of hn hpre hwl
  refine enter_call (codeAny_mono (call w s₀ s₁ mg mb fa o pm cd doc a vs ns G Y ho (fd_plain hd) hcd hmg hobj hints hlen hg) fun r s' hq => ?_)
  obtain ⟨rfl, h2, h3, h4⟩ := hq
  exact ⟨.inl ⟨.bool true, .bool true, [], rfl, fun _ => rfl, .bool true, post_true l _, fun _ => ⟨List.Pairwise.nil, fun _ hm => (nomatch hm)⟩⟩, h2, h3, h4⟩

/-! ### rules over ANY heap (no ledger) from facts about the written part K: the library's own take a ledger (News) for what they write -/
section
variable {prog : Program} {w : World} {A : Around} {E : Value → Shared → Prop} {s : Shared} {K : Frag}

/-! the whole heap as the ledger: makes every rule that writes through a ledger a rule over any heap -/
def ledger (h : Heap) (L d : Addr) : List (Addr × Obj) := (List.range h.objs.size).filterMap fun a => if a = L ∨ a = d then none else (h.get? a).map fun o => (a, o)
end
end Att

namespace L2
open PySem PySem.Spec PyProof.Rows

theorem vals_ints : ∀ {vs : List Value} {ns : List Int}, IntsAre vs ns → Vals (ns.map V.int) vs
  | _, _, .nil => .nil
  | _, _, .cons n t h => .cons ⟨t, rfl⟩ (vals_ints h)

/-- nothing is tracked but the script, known to the object (or it is an object of the module) -/
def Only (H : Hp) : Prop := ∀ b, H b = none ∨ ∃ o xs, H b = some (.frz o (.lst xs))

/-- THE HEAD: the law's promise, at the heap behind the top. F, the promise of the law's def, may use that base is part of the heap (so K.In base, base.Ns mainGlobals mg stand in Mod) -/
theorem law_call {P : Program} {w : World} {K : PySem.W.Frag} {mg mb : Str → Option Value} {CX : CXT} {k : Nat} {fa a : Addr} {fd : FuncData} {x : Str} {sp : Sp} {s₁ : Shared} {vs : List Value} {ns : List Int}
    (KX : K.In s₁.heap) (hns : s₁.heap.Ns mainGlobals mg) (hb : s₁.heap.Ns builtinsNs mb) (hbb : ∀ x : Str, x ≠ "__name__" → mb x = bootBuiltins x) (hlim : s₁.heap.NoLimit) (hg : s₁.gens = #[])
    (ha : s₁.heap.get? a = some { cls := .type "list", data := .seq vs.toArray }) (hi : IntsAre vs ns) (hl : ns.length ≤ sizeLine) (hr : Room k callerA)
    (F : ∀ base : Heap, K.In base → base.Ns mainGlobals mg → FnOk P w K mg base CX k fa fd [x] sp) (hbind : ∀ (s : Shared) (u : Value), BindsTo s fd ⟨[u], []⟩ [(x, u)])
    (hsp : ∀ H : Hp, Only H → SqL K H a (ns.map V.int) → sp [.ref a] H (fun v _ => v = .bl true) fun _ _ _ => False)
    (hCX : ∀ H e s', CX [] H s₁ (fun _ _ _ => False) e s' → False) :
    codeAny (model P w) callerA (.call (.ref fa) ⟨[.ref a], []⟩) (fun r s' => r = .ok (.ret (.bool true)) ∧ OldK s₁.heap s'.heap ∧ s'.os = s₁.os ∧ AllBare s'.gens) s₁ := by
  have rv := vals_ints hi
  have lenV := hi.length
  -- from an abstract heap in which nothing but the script may be tracked
  have core : ∀ H : Hp, Only H → SqL K H a (ns.map V.int) → HOk P w H s₁.heap → (∀ b, H b ≠ none → b = a) → (H a ≠ none → K.lookup a = none) →
      codeAny (model P w) callerA (.call (.ref fa) ⟨[.ref a], []⟩) (fun r s' => r = .ok (.ret (.bool true)) ∧ OldK s₁.heap s'.heap ∧ s'.os = s₁.os ∧ AllBare s'.gens) s₁ := by
    intro H hO hS hok hA hK
    have base_of : ∀ {b : Addr} {o : Obj}, s₁.heap.get? b = some o → H b = none → (hidT s₁.heap H).get? b = some o := fun e n => hidT_get e n
    have noA : ∀ {b : Addr} {o : Obj} {es : Array DictEntry} {ep : Nat}, s₁.heap.get? b = some o → o.data = .dict es ep → H b = none := fun {b o es ep} e d => by
      cases q : H b with
      | none => rfl
      | some u =>
        have e' : b = a := hA b (by rw [q]; simp)
        subst e'
        rw [ha] at e; cases e
        have d' : Data.seq vs.toArray _ = Data.dict es ep := d
        cases d'
    have nsK : ∀ {b : Addr} {m : Str → Option Value}, s₁.heap.Ns b m → (hidT s₁.heap H).Ns b m := fun {b m} ⟨o, es, ep, e, d, r⟩ => ⟨o, es, ep, base_of e (noA e d), d, r⟩
    have hKb : K.In (hidT s₁.heap H) := fun b o e => base_of (KX b o e) (by
      cases q : H b with
      | none => rfl
      | some u =>
        have e' : b = a := hA b (by rw [q]; simp)
        subst e'
        rw [hK (by rw [q]; simp)] at e; cases e)
    have hM : Mod K mg (hidT s₁.heap H) := ⟨hKb, nsK hns, ⟨mb, nsK hb, hbb⟩, let ⟨mc, h1, h2⟩ := hlim; ⟨mc, nsK h1, h2⟩⟩
    have e0 : Env0 P w K mg (hidT s₁.heap H) callerA [] s₁ H := ⟨rfl, hM, fun b o e => of_hidT e, Nat.le_of_eq (hidT_size _ _), trivial, fun b hb => absurd (show b ∈ ([] : List Addr) from hb) (by simp), hok, .of_eq hg⟩
    refine codeAny_mono ((F _ hKb (nsK hns)).run callerA [] s₁ H ⟨[.ref a], []⟩ [.ref a] [.ref a] _ _ hr e0 (hbind s₁ (.ref a)) (.cons rfl .nil) (hsp H hO hS)) fun r s' h => ?_
    cases r with
    | error e => exact (hCX H e s' h).elim
    | ok fl =>
      cases fl with
      | next => exact False.elim h
      | brk => exact False.elim h
      | cont => exact False.elim h
      | ret u =>
        obtain ⟨v, H', os, bare, un, hok', r', q⟩ := h
        have q' : v = .bl true := q
        subst q'
        obtain rfl : u = Value.bool true := r'
        refine ⟨rfl, OldK.of_keep fun b o e => ?_, os, bare⟩
        cases q : H b with
        | none => exact un.keep b o e q (by intro z; exact absurd (show b ∈ ([] : List Addr) from z) (by simp)) (by simp)
        | some u =>
          rcases hO b with z | ⟨ob, xs, z⟩
          · rw [q] at z; cases z
          · have z2 := un.frzs b ob _ z
            obtain ⟨e1, _⟩ := hok b _ z
            obtain ⟨e2, _⟩ := hok' b _ z2
            rw [e] at e1; cases e1
            exact e2
  cases hk : K.lookup a with
  | some o =>
    -- the script is one of the module's own objects
    have e := KX a o hk
    rw [ha] at e
    cases e
    refine core (fun _ => none) (fun _ => .inl rfl) (.inr ⟨_, vs.toArray, _, hk, rfl, rfl, rfl, by rw [List.size_toArray, lenV]; exact hl, by simpa using rv⟩) (fun b u z => by have z' : (none : Option HO) = some u := z; cases z') (fun b z => absurd rfl z) fun z => absurd rfl z
  | none =>
    refine core (fun b => if b = a then some (.frz { cls := .type "list", data := .seq vs.toArray } (.lst (ns.map V.int))) else none) (fun b => ?_) (.inl (.inr ⟨{ cls := .type "list", data := .seq vs.toArray }, if_pos rfl⟩)) (fun b u z => ?_) (fun b z => ?_) fun _ => hk
    · by_cases hb : b = a
      · exact .inr ⟨_, _, if_pos hb⟩
      · exact .inl (if_neg hb)
    · by_cases hb : b = a
      · have z' := (if_pos hb).symm.trans z
        cases z'
        subst hb
        exact ⟨ha, by rw [List.length_map]; exact hl, vs, _, rv, ha⟩
      · have z' := (if_neg hb).symm.trans z
        cases z'
    · by_cases hb : b = a
      · exact hb
      · exact absurd (if_neg hb) z
end L2

namespace L2
open PySem PySem.Spec PyProof.Rows

abbrev KOf {K : PySem.W.Frag} {h : Heap} (_ : K.In h) : PySem.W.Frag := K

/-- the goal that k_head leaves (case hc), from the law's promise. F gives the function object fd (K's own) once, then the promise over every base -/
theorem walk_of {l : PySem.W.OpenLaw} {n k : Nat} {q : Program} {loose : List Str} {XP : (Str → Option Value) → Heap → Prop} {YP : World → Heap → Prop} {d : DefRec} {K : Params → PySem.W.Frag} {CX : World → CXT} {sp : World → Sp} {x : Str}
    (hn : l.most = some n) (hn2 : n ≤ sizeLine) (hdf : d.params.defaults = []) (hr : Room k callerA)
    (hY : ∀ (w : World) (h : Heap), YP w h → (K w.params).In h)
    (F : ∀ (w : World) (mg : Str → Option Value) (fa : Addr) (h : Heap), (K w.params).In h → h.Ns mainGlobals mg → mg d.name = some (.ref fa) →
      ∃ fd : FuncData, (∀ (s : Shared) (u : Value), BindsTo s fd ⟨[u], []⟩ [(x, u)]) ∧
        ∀ base : Heap, (K w.params).In base → base.Ns mainGlobals mg → FnOk l.prog w (K w.params) mg base (CX w) k fa fd [x] (sp w))
    (hsp : ∀ (w : World) (H : Hp) (a : Addr) (ns : List Int), ns.length ≤ n → Only H → SqL (K w.params) H a (ns.map V.int) → sp w [.ref a] H (fun v _ => v = .bl true) fun _ _ _ => False)
    (hCX : ∀ (w : World) (H : Hp) (s : Shared) (e : Value) (s' : Shared), CX w [] H s (fun _ _ _ => False) e s' → False) :
    PySem.W.WalkO q loose XP YP l.row.toRowW d [] (fun f vs => PySem.call f vs) := by
  refine Att.attach_call hn hdf fun w s₀ s₁ mg mb fa o pm cd doc a vs ns G Y ho hd hcd hmg hobj hints hlen hg => ?_
  have KX := hY w _ Y
  obtain ⟨fd, hb, hF⟩ := F w mg fa _ KX G.T.g hmg
  exact law_call KX G.T.g G.T.b G.T.builtins G.T.nolimit hg hobj hints (Nat.le_trans hlen hn2) hr hF hb (fun H hO hS => hsp w H a ns hlen hO hS) fun H e s' => hCX w H s₁ e s'
/-- the same where the promise hangs on the written part alone: (sp := My.sp_law), no hole under a binder -/
theorem walk_ofK {l : PySem.W.OpenLaw} {n k : Nat} {q : Program} {loose : List Str} {XP : (Str → Option Value) → Heap → Prop} {YP : World → Heap → Prop} {d : DefRec} {K : Params → PySem.W.Frag} {CX : CXT} {sp : PySem.W.Frag → Sp} {x : Str}
    (hn : l.most = some n) (hn2 : n ≤ sizeLine) (hdf : d.params.defaults = []) (hr : Room k callerA)
    (hY : ∀ (w : World) (h : Heap), YP w h → (K w.params).In h)
    (F : ∀ (w : World) (mg : Str → Option Value) (fa : Addr) (h : Heap), (K w.params).In h → h.Ns mainGlobals mg → mg d.name = some (.ref fa) →
      ∃ fd : FuncData, (∀ (s : Shared) (u : Value), BindsTo s fd ⟨[u], []⟩ [(x, u)]) ∧
        ∀ base : Heap, (K w.params).In base → base.Ns mainGlobals mg → FnOk l.prog w (K w.params) mg base CX k fa fd [x] (sp (K w.params)))
    (hsp : ∀ (K : PySem.W.Frag) (H : Hp) (a : Addr) (ns : List Int), ns.length ≤ n → Only H → SqL K H a (ns.map V.int) → sp K [.ref a] H (fun v _ => v = .bl true) fun _ _ _ => False)
    (hCX : ∀ (H : Hp) (s : Shared) (e : Value) (s' : Shared), CX [] H s (fun _ _ _ => False) e s' → False) :
    PySem.W.WalkO q loose XP YP l.row.toRowW d [] (fun f vs => PySem.call f vs) :=
  walk_of (K := K) (CX := fun _ => CX) (sp := fun w => sp (K w.params)) hn hn2 hdf hr hY F (fun w H a ns h1 h2 h3 => hsp (K w.params) H a ns h1 h2 h3) fun _ H s e s' => hCX H s e s'
end L2



/-! SHORT WORDS over the layer: a def of the text, its body, what a loop and a test want. -/
namespace L2
open PySem PySem.Spec PyProof.Rows

/-! ### the text by places -/
/-- the j-th statement of a class's body -/
def inClass (s : Stmt) (j : Nat) : Stmt := match s with
  | .ClassDef _ _ _ body _ _ _ _ _ _ _ => body.getD j (.Pass ⟨0, 0, 0, 0⟩)
  | _ => .Pass ⟨0, 0, 0, 0⟩
def defArgs (s : Stmt) : Arguments := match s with
  | .FunctionDef _ a _ _ _ _ _ _ _ _ => a
  | _ => { posonlyargs := [], args := [], vararg := none, kwonlyargs := [], kw_defaults := [], kwarg := none, defaults := [] }
def defBody (s : Stmt) : List Stmt := match s with
  | .FunctionDef _ _ b _ _ _ _ _ _ _ => b
  | _ => []
def defScope (s : Stmt) : Scope := match s with
  | .FunctionDef _ _ _ _ _ _ sc _ _ _ => sc
  | _ => { kind := .function, names := [], isGenerator := false, isCoroutine := false }

/-! ### no exception leaves a def -/
abbrev CX0 : CXT := fun _ _ _ _ _ _ => False
abbrev E0 : XK := fun _ _ _ => False
theorem pass0 {X : Cx} : Passes CX0 X E0 := fun _ _ _ _ _ _ _ h => h.elim

/-! ### a def (or method) of the text as it stands behind the top -/
structure Fun (K : PySem.W.Frag) (x qual : Str) (st : Stmt) (f : Addr) (fd : FuncData) : Prop where
  ex : ∃ (oc : Value) (od : Option Addr) (kV doc pm : Value) (an : Option Addr) (cdv ct : Value) (osl : Array (Option Value)),
    fd = PySem.W.fnOf x qual (defArgs st) (defBody st) (defScope st) .none kV doc pm an cdv ct ∧ K.lookup f = some ⟨oc, od, .func fd, osl⟩ ∧ PySem.W.codeIn K cdv qual = true
  kp : PySem.W.keepIn K (.ref f) = true
section
variable {P : Program} {w : World} {K : PySem.W.Frag} {mg : Str → Option Value} {base : Heap}
/-- THE RULE for a def: its body as a term of rules, and the reading of that term -/
theorem Fun.ok {x qual : Str} {st : Stmt} {f : Addr} {fd : FuncData} {N ps : List Str} {k : Nat} {sp : Sp} (F : Fun K x qual st f fd) (S : FnScope N ps (defScope st)) (len : ∀ vs H Q E, sp vs H Q E → vs.length = ps.length)
    (hbody : ∀ (cdv : Value) (A : Around) (outer : List Env) (s : Shared) (H : Hp) (vs : List V) (Q : VK) (E : XK), Room k (A.deeper (envOfC qual (defScope st) s.heap.objs.size f cdv)) → sp vs H Q E →
      ∃ t, PSs (cxOf CX0 P w K mg base N qual (defScope st) f cdv A outer s H E).nox (defBody st) t ∧ t { nx := fun _ H' => Q .non H', rt := Q } (start N vs) H) : FnOk P w K mg base CX0 (k + 1) f fd ps sp := by
  obtain ⟨oc, od, kV, doc, pm, an, cdv, ct, osl, rfl, lk, hcd⟩ := F.ex
  refine fn_of lk hcd S len fun A outer s H vs Q E hr hsp => ?_
  obtain ⟨t, h, q⟩ := hbody cdv A outer s H vs Q E hr hsp
  exact ⟨t, h.nox, q⟩
/-- how its arguments bind (no defaults): h is «fun _ _ _ _ _ _ us hl => (by obtain ⟨_, _, rfl⟩ := us2 hl; rfl)», one _ a parameter -/
theorem Fun.binds {x qual : Str} {st : Stmt} {f : Addr} {fd : FuncData} {ps : List Str} (F : Fun K x qual st f fd)
    (h : ∀ (kV doc pm : Value) (an : Option Addr) (cdv ct : Value) (us : List Value), us.length = ps.length → bindArgs (PySem.W.fnOf x qual (defArgs st) (defBody st) (defScope st) .none kV doc pm an cdv ct) ⟨us, []⟩ = pure (ps.zip us)) : Binds K fd ps [] := by
  obtain ⟨oc, od, kV, doc, pm, an, cdv, ct, osl, rfl, lk, hcd⟩ := F.ex
  exact .all (h kV doc pm an cdv ct)
theorem fun_mk {x qual : Str} {st : Stmt} {f : Addr} {oc : Value} {od an : Option Addr} {osl : Array (Option Value)} {kV doc pm cdv ct : Value} (l : K.lookup f = some ⟨oc, od, .func (PySem.W.fnOf x qual (defArgs st) (defBody st) (defScope st) .none kV doc pm an cdv ct), osl⟩)
    (c : PySem.W.codeIn K cdv qual = true) (k : PySem.W.keepIn K (.ref f) = true) : Fun K x qual st f (PySem.W.fnOf x qual (defArgs st) (defBody st) (defScope st) .none kV doc pm an cdv ct) := ⟨⟨oc, od, kV, doc, pm, an, cdv, ct, osl, rfl, l, c⟩, k⟩
end
/-! ### expressions in short: the name that stands in the i-th slot -/
section
variable {X : Cx}
end

/-! ### tests -/
theorem iteF {A B : Prop} (h : B) : if false = true then A else B := by
  rw [if_neg Bool.false_ne_true]
  exact h
theorem iteT {A B : Prop} (h : A) : if true = true then A else B := by
  rw [if_pos rfl]
  exact h
theorem ite2 {c A B : Prop} [Decidable c] (h1 : c → A) (h2 : ¬ c → B) : if c then A else B := by
  by_cases h : c
  · rw [if_pos h]
    exact h1 h
  · rw [if_neg h]
    exact h2 h
/-! ### heaps -/
/-- all that was tracked is as it was -/
def Same (H H' : Hp) : Prop := ∀ b o, H b = some o → H' b = some o
theorem Same.refl (H : Hp) : Same H H := fun _ _ h => h
theorem Same.trans {H H1 H2 : Hp} (a : Same H H1) (b : Same H1 H2) : Same H H2 := fun c o h => b c o (a c o h)
theorem Same.free {H H' : Hp} (e : Same H H') {l : Addr} (h : H' l = Option.none) : H l = Option.none := by
  cases q : H l with
  | none => rfl
  | some o =>
    rw [e l o q] at h
    cases h
theorem Same.seq {K : PySem.W.Frag} {H H' : Hp} {a : Addr} {xs : List V} (e : Same H H') (h : SqL K H a xs) : SqL K H' a xs := by
  rcases h with (h | ⟨o, h⟩) | h
  · exact .inl (.inl (e _ _ h))
  · exact .inl (.inr ⟨o, e _ _ h⟩)
  · exact .inr h

end L2

set_option Elab.async false
set_option linter.all false
set_option maxRecDepth 100000
set_option maxHeartbeats 4000000
namespace L2
open PySem PySem.Spec PyProof.Rows

/-! ### the signs of a text, walked -/
def Its (x : Str) : It := ⟨fun i _ => i < x.cps.size, fun i H y H' => H' = H ∧ ∃ c, x.cps[i]? = some c ∧ y = .str ⟨#[c]⟩, fun i _ => x.cps.size ≤ i⟩
theorem turn_str {P : Program} {w : World} {K : PySem.W.Frag} {tg : Expr} (x : Str) (it : Addr) {ty : String} {t : Tok} (hty : ty = "str_ascii_iterator" ∨ ty = "str_iterator") :
    Turn P w K tg (Its x) [it] it (fun i h => h.IsStrIter it ty x t i) where
  mem := by simp
  obj := fun i h st b hb => by
    have e : b = it := by simpa using hb
    subst e
    obtain ⟨o, e, c, d⟩ := st
    exact ⟨o, e, fun v z => by rw [d] at z; cases z⟩
  keep := fun i h h' st k => by
    obtain ⟨o, e, r⟩ := st
    exact ⟨o, k it (by simp) o e, r⟩
  item := by
    intro X hP hw hK hc i pins s σ H E I hf st hg
    subst hP hw hK
    have hi : i < x.cps.size := hg
    obtain ⟨f0, f1, f2, f3, f4, f5⟩ := hf it (by simp)
    rcases hty with rfl | rfl
    · refine wpAny_pyNext_ascii_item st (c := x.cps[i]) (by simp [hi]) fun h' st' sb => ?_
      have I1 : Inv X pins σ H { s with heap := h', toks := s.toks + 1 } := I.turned (fun b o hb e => (sb.2 b hb).trans e) f0 f1 f3 f4 f5
      obtain ⟨o, e, c, d⟩ := id st'
      exact ⟨_, rfl, go_of (s := { s with heap := h', toks := s.toks + 1 }) e c d (by decide) ⟨.str ⟨#[x.cps[i]]⟩, H, I1, ⟨_, rfl⟩, ⟨rfl, x.cps[i], by simp [hi], rfl⟩, st', fun b hb => (hf b hb).1⟩⟩
    · refine wpAny_pyNext_wide_item st (c := x.cps[i]) (by simp [hi]) fun h' st' sb => ?_
      have I1 : Inv X pins σ H { s with heap := h', toks := s.toks + 1 } := I.turned (fun b o hb e => (sb.2 b hb).trans e) f0 f1 f3 f4 f5
      obtain ⟨o, e, c, d⟩ := id st'
      exact ⟨_, rfl, go_of (s := { s with heap := h', toks := s.toks + 1 }) e c d (by decide) ⟨.str ⟨#[x.cps[i]]⟩, H, I1, ⟨_, rfl⟩, ⟨rfl, x.cps[i], by simp [hi], rfl⟩, st', fun b hb => (hf b hb).1⟩⟩
  done := by
    intro X hP hw hK hc i pins s σ H E I hf st hg
    subst hP hw hK
    have hi : x.cps.size ≤ i := hg
    obtain ⟨f0, f1, f2, f3, f4, f5⟩ := hf it (by simp)
    rcases hty with rfl | rfl
    · exact wpAny_pyNext_ascii_end (I.ok.hd hc) st (by simp [hi]) fun h' eb => ⟨rfl, I.turned (t' := s.toks) (fun b o hb e => eb b o hb e) f0 f1 f3 f4 f5⟩
    · exact wpAny_pyNext_wide_end (I.ok.hd hc) st (by simp [hi]) fun h' eb => ⟨rfl, I.turned (t' := s.toks) (fun b o hb e => eb b o hb e) f0 f1 f3 f4 f5⟩
  self := fun _ _ _ _ _ st h => by
    rcases hty with rfl | rfl
    · exact wpAny_pyIter_striter_ascii st h
    · exact wpAny_pyIter_striter_wide st h
def iStr (tl : TE) : TI := fun σ H R => tl σ H fun x H1 => ∃ z, x = .str z ∧ R (Its z) H1
theorem pi_str {X : Cx} {tg l : Expr} {tl : TE} (hl : PE X l tl) : PI X tg l (iStr tl) := by
  intro pins s σ H R I h
  refine thn (hl pins s σ H _ I h) fun v s1 ⟨x, H1, I1, r1, q1⟩ => ?_
  obtain ⟨z, e, q⟩ := q1
  subst e
  obtain ⟨t, rfl⟩ := r1
  refine wpAny_pyIter_strU ?_
  refine ⟨s1.heap.objs.size, [s1.heap.objs.size], _, _, H1, rfl, I1.kept (t' := s1.toks) fun b o e => Heap.get?_push_of_some _ e, turn_str (ty := strIterType z) (t := t) z _ ?_, ⟨_, Heap.get?_push_size _ rfl, rfl, rfl⟩, fun b hb => ?_, q⟩
  · unfold strIterType
    split
    · exact .inl rfl
    · exact .inr rfl
  · have e : b = s1.heap.objs.size := by simpa using hb
    subst e
    exact I1.fpOk (Nat.le_refl _) (I1.hok.fresh (Nat.le_refl _))
end L2

set_option Elab.async false
set_option linter.all false
set_option maxRecDepth 100000
set_option maxHeartbeats 4000000
namespace L2
open PySem PySem.Spec PyProof.Rows

/-! ### a comprehension -/
def Wk : St → St → Prop
  | [], [] => True
  | Option.none :: r, _ :: q => Wk r q
  | some a :: r, b :: q => b = some a ∧ Wk r q
  | _, _ => False
theorem Wk.len : ∀ {a b : St}, Wk a b → a.length = b.length
  | [], [], _ => rfl
  | Option.none :: r, _ :: q, h => congrArg (· + 1) (Wk.len (a := r) (b := q) h)
  | some _ :: r, _ :: q, h => congrArg (· + 1) (Wk.len (a := r) (b := q) h.2)
  | [], _ :: _, h => h.elim
  | Option.none :: _, [], h => h.elim
  | some _ :: _, [], h => h.elim
theorem Wk.get : ∀ {a b : St}, Wk a b → ∀ (i : Nat) v, a[i]? = some (some v) → b[i]? = some (some v)
  | [], [], _, i, v, e => by simp at e
  | Option.none :: r, y :: q, h, 0, v, e => by simp at e
  | Option.none :: r, y :: q, h, i + 1, v, e => by simpa using Wk.get (a := r) (b := q) h i v (by simpa using e)
  | some x :: r, y :: q, h, 0, v, e => by
    have e' : x = v := by simpa using e
    rw [h.1, e'] <;> simp
  | some x :: r, y :: q, h, i + 1, v, e => by simpa using Wk.get (a := r) (b := q) h.2 i v (by simpa using e)
  | [], _ :: _, h, _, _, _ => h.elim
  | Option.none :: _, [], h, _, _, _ => h.elim
  | some _ :: _, [], h, _, _, _ => h.elim
def clOf (cells : List (Str × Addr)) : List (Str × NameKind) → List (Str × Addr) → List (Str × Addr)
  | [], acc => acc
  | (n, k) :: r, acc => if k == .free then clOf cells r ((n, (cells.lookup n).getD 0) :: acc) else clOf cells r acc
theorem closureFor_clOf {sc : Scope} {env : Env} (h : ∀ y ∈ sc.names, y.2 = .free → ∃ c, env.cells.lookup y.1 = some c) : closureFor sc env = pure (clOf env.cells sc.names []) := by
  unfold closureFor
  have key : ∀ (l : List (Str × NameKind)) (acc : List (Str × Addr)), (∀ y ∈ l, y.2 = .free → ∃ c, env.cells.lookup y.1 = some c) →
      (forIn l acc fun x r => match x with | (name, kind) => if (kind == .free) = true then do let a ← cellOf env name; pure (ForInStep.yield ((name, a) :: r)) else pure (ForInStep.yield r) : Sem (List (Str × Addr))) = pure (clOf env.cells l acc) := by
    intro l
    induction l with
    | nil => intro acc _; rfl
    | cons y r ih =>
      intro acc hy
      obtain ⟨n, k⟩ := y
      have hr : ∀ y ∈ r, y.2 = .free → ∃ c, env.cells.lookup y.1 = some c := fun y hm => hy y (List.mem_cons_of_mem _ hm)
      rw [List.forIn_cons]
      by_cases hk : k = .free
      · subst hk
        obtain ⟨c, hc⟩ := hy (n, .free) List.mem_cons_self rfl
        have e1 : cellOf env n = pure c := by unfold cellOf; rw [hc]
        have e2 : clOf env.cells ((n, .free) :: r) acc = clOf env.cells r ((n, c) :: acc) := by
          show (if (NameKind.free == NameKind.free) = true then clOf env.cells r ((n, (env.cells.lookup n).getD 0) :: acc) else clOf env.cells r acc) = _
          rw [if_pos (by decide), hc]; rfl
        rw [e2, ← ih ((n, c) :: acc) hr]
        show (do let x ← (if (NameKind.free == NameKind.free) = true then do let a ← cellOf env n; pure (ForInStep.yield ((n, a) :: acc)) else pure (ForInStep.yield acc) : Sem _); _) = _
        rw [if_pos (by decide), e1]
        rfl
      · have hb : (k == NameKind.free) = false := by simpa using hk
        have e2 : clOf env.cells ((n, k) :: r) acc = clOf env.cells r acc := by
          show (if (k == NameKind.free) = true then clOf env.cells r ((n, (env.cells.lookup n).getD 0) :: acc) else clOf env.cells r acc) = _
          rw [hb]; rfl
        rw [e2, ← ih acc hr]
        show (do let x ← (if (k == NameKind.free) = true then do let a ← cellOf env n; pure (ForInStep.yield ((n, a) :: acc)) else pure (ForInStep.yield acc) : Sem _); _) = _
        rw [hb]
        rfl
  have := key sc.names [] h
  first | exact this | (rw [this]; rfl) | simpa using this
theorem clOf_lookup {cells : List (Str × Addr)} : ∀ {l : List (Str × NameKind)} {acc : List (Str × Addr)} {n : Str} {c : Addr}, (∀ y ∈ l, y.2 = .free → ∃ c, cells.lookup y.1 = some c) → (∀ n c, acc.lookup n = some c → cells.lookup n = some c) →
    (clOf cells l acc).lookup n = some c → cells.lookup n = some c
  | [], acc, n, c, _, ha, e => ha n c e
  | (m, k) :: r, acc, n, c, hl, ha, e => by
    have hr : ∀ y ∈ r, y.2 = .free → ∃ c, cells.lookup y.1 = some c := fun y hm => hl y (List.mem_cons_of_mem _ hm)
    have e' : (if (k == NameKind.free) = true then clOf cells r ((m, (cells.lookup m).getD 0) :: acc) else clOf cells r acc).lookup n = some c := e
    by_cases hk : (k == NameKind.free) = true
    · rw [if_pos hk] at e'
      refine clOf_lookup hr (fun n c z => ?_) e'
      obtain ⟨d, hd⟩ := hl (m, k) List.mem_cons_self (by simpa using hk)
      rw [List.lookup_cons] at z
      by_cases hn : (n == m) = true
      · rw [hn] at z
        have : n = m := by simpa using hn
        subst this
        have hd' : cells.lookup n = some d := hd
        rw [hd'] at z ⊢
        simpa using z
      · have hn' : (n == m) = false := by simpa using hn
        rw [hn'] at z
        exact ha n c z
    · rw [if_neg hk] at e'
      exact clOf_lookup hr ha e'
theorem clOf_some {cells : List (Str × Addr)} : ∀ {l : List (Str × NameKind)} {acc : List (Str × Addr)} {n : Str}, ((n, NameKind.free) ∈ l ∨ ∃ c, acc.lookup n = some c) → ∃ c, (clOf cells l acc).lookup n = some c
  | [], acc, n, h => by
    rcases h with h | h
    · cases h
    · exact h
  | (m, k) :: r, acc, n, h => by
    show ∃ c, (if (k == NameKind.free) = true then clOf cells r ((m, (cells.lookup m).getD 0) :: acc) else clOf cells r acc).lookup n = some c
    have hcons : ∀ a, n = m ∨ (∃ c, acc.lookup n = some c) → ∃ c, ((m, a) :: acc).lookup n = some c := fun a z => by
      rw [List.lookup_cons]
      by_cases hn : (n == m) = true
      · rw [hn]; exact ⟨_, rfl⟩
      · have hn' : (n == m) = false := by simpa using hn
        rw [hn']
        rcases z with z | z
        · exact absurd (by simpa using z) hn
        · exact z
    by_cases hk : (k == NameKind.free) = true
    · rw [if_pos hk]
      refine clOf_some ?_
      rcases h with h | h
      · rcases List.mem_cons.mp h with e | h
        · exact .inr (hcons _ (.inl (congrArg Prod.fst e)))
        · exact .inl h
      · exact .inr (hcons _ (.inr h))
    · rw [if_neg hk]
      refine clOf_some ?_
      rcases h with h | h
      · rcases List.mem_cons.mp h with e | h
        · have : k = .free := (congrArg Prod.snd e).symm
          rw [this] at hk
          exact absurd (by decide) hk
        · exact .inl h
      · exact .inr h
def rlb (env : Env) (p : Str × NameKind) : Str × NameKind := if (p.2 == NameKind.free && env.scope.kind == ScopeKind.function && env.kindOf p.1 == some NameKind.cell) = true then (p.1, NameKind.cell) else p
theorem relabel_names (sc : Scope) (env : Env) : (relabel sc env).names = sc.names.map (rlb env) := rfl
theorem rlb_fst (env : Env) (p : Str × NameKind) : (rlb env p).1 = p.1 := by
  unfold rlb
  split <;> rfl
theorem rlb_free {env : Env} {p : Str × NameKind} (h : p.2 ≠ .cell) (h2 : (rlb env p).2 = .cell ∨ (rlb env p).2 = .free) : p.2 = .free := by
  unfold rlb at h2
  split at h2
  · rename_i q
    rw [Bool.and_eq_true, Bool.and_eq_true] at q
    simpa using q.1.1
  · rcases h2 with h2 | h2
    · exact absurd h2 h
    · exact h2
theorem relabel_free' {env : Env} : ∀ {names : List (Str × NameKind)} {x : Str} {k : NameKind}, (∀ y ∈ names, y.2 ≠ .cell) → (k = .cell ∨ k = .free) → (names.map (rlb env)).lookup x = some k → (x, NameKind.free) ∈ names
  | [], x, k, _, _, e => by simp at e
  | p :: r, x, k, hc, hk, e => by
    have hr : ∀ y ∈ r, y.2 ≠ .cell := fun y hm => hc y (List.mem_cons_of_mem _ hm)
    have e0 : rlb env p = (p.1, (rlb env p).2) := by rw [← rlb_fst env p]
    rw [List.map_cons, e0, List.lookup_cons] at e
    by_cases hx : x = p.1
    · have hb : (x == p.1) = true := by simpa using hx
      rw [hb] at e
      have e2 : (rlb env p).2 = k := Option.some.inj e
      have hj := rlb_free (env := env) (hc p List.mem_cons_self) (by rw [e2]; exact hk)
      have : (x, NameKind.free) = p := by rw [hx, ← hj]
      rw [this]
      exact List.mem_cons_self
    · have hb : (x == p.1) = false := by simpa using hx
      rw [hb] at e
      exact List.mem_cons_of_mem _ (relabel_free' hr hk e)
theorem relabel_free {env : Env} {sc : Scope} {x : Str} {k : NameKind} (hc : ∀ y ∈ sc.names, y.2 ≠ .cell) (hk : k = .cell ∨ k = .free) (e : (relabel sc env).names.lookup x = some k) : (x, NameKind.free) ∈ sc.names :=
  relabel_free' (env := env) hc hk (by rw [← relabel_names]; exact e)

/-- the values that a block sees at its start: of the names it takes from around it -/
def blkS (ix : List (Option Nat)) (σ : St) : St := ix.map fun o => o.bind fun i => (σ[i]?).join
def FreeOk (XN : List Str) (env : Env) (sc : Scope) : List Str → List (Option Nat) → Prop
  | [], [] => True
  | _ :: N, Option.none :: ix => FreeOk XN env sc N ix
  | y :: N, some i :: ix => XN[i]? = some y ∧ env.kindOf y = some .cell ∧ (relabel sc env).names.lookup y = some .cell ∧ FreeOk XN env sc N ix
  | _, _ => False
theorem FreeOk.len {XN : List Str} {env : Env} {sc : Scope} : ∀ {N : List Str} {ix : List (Option Nat)}, FreeOk XN env sc N ix → ix.length = N.length
  | [], [], _ => rfl
  | _ :: N, Option.none :: ix, h => congrArg (· + 1) (FreeOk.len (N := N) (ix := ix) h)
  | _ :: N, some _ :: ix, h => congrArg (· + 1) (FreeOk.len (N := N) (ix := ix) h.2.2.2)
  | [], _ :: _, h => h.elim
  | _ :: _, [], h => h.elim
theorem FreeOk.get {XN : List Str} {env : Env} {sc : Scope} : ∀ {N : List Str} {ix : List (Option Nat)}, FreeOk XN env sc N ix → ∀ (j : Nat) (y : Str) (i : Nat), N[j]? = some y → ix[j]? = some (some i) →
    XN[i]? = some y ∧ env.kindOf y = some .cell ∧ (relabel sc env).names.lookup y = some .cell
  | [], [], _, j, y, i, e, _ => by simp at e
  | _ :: N, Option.none :: ix, h, 0, y, i, e, e2 => by simp at e2
  | _ :: N, Option.none :: ix, h, j + 1, y, i, e, e2 => FreeOk.get (N := N) (ix := ix) h j y i (by simpa using e) (by simpa using e2)
  | z :: N, some k :: ix, h, 0, y, i, e, e2 => by
    have e' : z = y := by simpa using e
    have e2' : k = i := by simpa using e2
    subst e'; subst e2'
    exact ⟨h.1, h.2.1, h.2.2.1⟩
  | _ :: N, some _ :: ix, h, j + 1, y, i, e, e2 => FreeOk.get (N := N) (ix := ix) h.2.2.2 j y i (by simpa using e) (by simpa using e2)
  | [], _ :: _, h, _, _, _, _, _ => h.elim
  | _ :: _, [], h, _, _, _, _, _ => h.elim

/-- the context of a comprehension's block -/
def cxB (X : Cx) (sc : Scope) (C : Addr) (N : List Str) (s₀ : Shared) (H₀ : Hp) (fp : List Addr) : Cx :=
  { X with N := N, s₀ := s₀, H₀ := H₀, env := compEnvC sc (clOf X.env.cells sc.names []) C X.env, outer := X.stack, ex := fp, fn := fun _ => false, pn := [], xe := fun _ _ => False }
structure CompOk (X : Cx) (sc : Scope) (N : List Str) (ix : List (Option Nat)) : Prop where
  kind : sc.kind = .function
  nocell : (sc.names.all fun y => y.2 != .cell) = true
  names : (sc.names.all fun y => y.2 != .local || sc.names.lookup y.1 == some .local) = true
  free : (sc.names.all fun y => y.2 != .free || X.env.scope.names.lookup y.1 == some .cell) = true
  fr : FreeOk X.N X.env sc N ix
section
variable {X : Cx} {sc : Scope} {N : List Str} {ix : List (Option Nat)} {pins : List (Addr × Obj)} {σ : St} {H : Hp} {s : Shared}
theorem CompOk.cells (c : CompOk X sc N ix) (ok : X.Ok) : ∀ y ∈ sc.names, y.2 = .free → ∃ c, X.env.cells.lookup y.1 = some c := fun y hy e => by
  have h := List.all_eq_true.mp c.free y hy
  rw [e] at h
  have h' : X.env.scope.names.lookup y.1 = some .cell := by simpa using h
  exact ok.has y.1 (.inl h')
theorem CompOk.nc (c : CompOk X sc N ix) : ∀ y ∈ sc.names, y.2 ≠ .cell := fun y hy => by simpa using List.all_eq_true.mp c.nocell y hy
theorem CompOk.nm (c : CompOk X sc N ix) : ∀ y ∈ sc.names, y.2 = .local → sc.names.lookup y.1 = some .local := fun y hy e => by
  have h := List.all_eq_true.mp c.names y hy
  rw [e] at h
  simpa using h
/-- the block begins: s₂ the state at its entry (the iterator is made), s₄ behind the frame's making -/
theorem inv_block {C : Addr} {fp : List Addr} {h₁ : Heap} {t' : Nat} (c : CompOk X sc N ix) (I : Inv X pins σ H s) (hf : ∀ b ∈ fp, FpOk X pins H b) (hfp : ∀ b ∈ fp, b < s.heap.objs.size) (hC : s.heap.objs.size ≤ C)
    (hn : h₁.Ns C (fun _ => none)) (old : ∀ b o, s.heap.get? b = some o → h₁.get? b = some o) : Inv (cxB X sc C N s H fp) [] (blkS ix σ) H { s with heap := h₁, toks := t' } := by
  have hcells := c.cells I.ok
  have sub : ∀ n c, (clOf X.env.cells sc.names []).lookup n = some c → X.env.cells.lookup n = some c := fun n c e => clOf_lookup hcells (fun n c z => by simp at z) e
  refine ⟨⟨I.ok.mod, c.kind, I.ok.glob, I.ok.blt, hC, fun x y d h1 h2 => I.ok.inj x y d (sub x d h1) (sub y d h2), fun x hx => ?_, fun x d z => absurd z (by simp [cxB]), I.ok.hd, I.ok.frames, .inl rfl, fun b hb => ⟨?_, fun x d e => ?_⟩, I.bs, Nat.le_trans I.ok.bsz I.sz, fun b o e hb => ?_, fun b hb hs => ?_, I.stack, I.stkFree⟩,
    rfl, I.bare, Un.kept old, ⟨_, hn, fun j y v e1 e2 e3 => ?_⟩, fun x d e => ?_, I.hok.fresh hC, fun x d e => I.freeC x d (sub x d e), fun p hp => absurd (show p ∈ ([] : List (Addr × Obj)) from hp) (by simp), I.hok.kept old, ?_⟩
  · refine clOf_some (.inl ?_)
    rcases hx with hx | hx
    · exact relabel_free c.nc (.inl rfl) (show (relabel sc X.env).names.lookup x = some .cell from hx)
    · exact relabel_free c.nc (.inr rfl) (show (relabel sc X.env).names.lookup x = some .free from hx)
  · exact Nat.ne_of_lt (Nat.lt_of_lt_of_le (hfp b hb) hC)
  · exact (hf b hb).2.2.2.2.1 x d (sub x d e)
  · rcases (hf b hb).2.2.2.1 with z | z
    · exact I.ok.noex b o e z
    · exact absurd (Nat.lt_of_lt_of_le (Heap.lt_size e) (Nat.le_trans I.ok.bsz z)) (Nat.lt_irrefl _)
  · rcases List.mem_cons.mp (I.stkSub b hs) with z | z
    · exact (hf b hb).2.1 z
    · exact (hf b hb).2.2.1 z
  · have hj : ∃ i, ix[j]? = some (some i) ∧ σ[i]? = some (some v) := by
      unfold blkS at e2
      rw [List.getElem?_map] at e2
      cases q : ix[j]? with
      | none => rw [q] at e2; cases e2
      | some o =>
        rw [q] at e2
        cases o with
        | none => cases e2
        | some i =>
          refine ⟨i, rfl, ?_⟩
          have e2' : (σ[i]?).join = some v := Option.some.inj e2
          cases q2 : σ[i]? with
          | none => rw [q2] at e2'; cases e2'
          | some w => rw [q2] at e2'; exact congrArg some e2'
    obtain ⟨i, hi, hv⟩ := hj
    obtain ⟨k1, k2, k3⟩ := c.fr.get j y i e1 hi
    obtain ⟨m, hm, hl⟩ := I.loc
    obtain ⟨u, r, l⟩ := hl i y v k1 hv (.inr (.inl k2))
    refine ⟨u, r, ?_⟩
    rcases l with ⟨z, _⟩ | ⟨_, d, hd, hcell⟩
    · rw [k2] at z; cases z
    · obtain ⟨d', hd'⟩ : ∃ d', (clOf X.env.cells sc.names []).lookup y = some d' := clOf_some (.inl (relabel_free c.nc (.inl rfl) k3))
      have := sub y d' hd'
      rw [hd] at this
      cases this
      exact .inr ⟨.inl k3, d, hd', hcell.keeps old⟩
  · obtain ⟨v, z⟩ := I.cell x d (sub x d e)
    exact ⟨v, z.keeps old⟩
  · show (blkS ix σ).length = N.length
    unfold blkS
    rw [List.length_map, c.fr.len]
/-- the block ends -/
theorem inv_unblock {C : Addr} {fp : List Addr} {pins' : List (Addr × Obj)} {σ' : St} {H' : Hp} {s' : Shared} (I : Inv X pins σ H s) (hf : ∀ b ∈ fp, FpOk X pins H b) (J : Inv (cxB X sc C N s H fp) pins' σ' H' s') : Inv X pins σ H' s' := by
  refine I.call' (ch := fp) J.os J.base J.hok J.bare fun b hb => ?_
  obtain ⟨f0, f1, f2, f3, f4, f5⟩ := hf b hb
  exact ⟨f3, f1, f4, f5⟩
end
def PTs (X : Cx) (ifs : List Expr) (t : TT) : Prop :=
  ∀ (pins : List (Addr × Obj)) (s : Shared) (σ : St) (H : Hp) (Q : Bool → Hp → Prop), Inv X pins σ H s → t σ H Q →
    wpAny (model X.prog X.w) X.A (forIn ifs true fun c r => if r = true then do let ok ← isTrue c X.env (eval c X.env); pure (ForInStep.yield ok) else pure (ForInStep.yield r)) (TP X pins σ Q) X.xe s
def tAll : TT := fun _ H Q => Q true H
theorem pts_nil {X : Cx} : PTs X [] tAll := fun _ _ _ H _ I h => wpAny_tests_nil ⟨H, I, h⟩
theorem pts_one {X : Cx} {c : Expr} {t : TT} (h : PT X c t) : PTs X [c] t := fun pins s σ H Q I hw => wpAny_tests_one (h pins s σ H Q I hw)

/-- what a comprehension asks: W by the turn, a measure, the items so far -/
def CompW (J : It) (D : Addr) (σb : St) (g : TG) (tt : TT) (te : TE) (Q : Hp → List V → Prop) (W : Nat → Nat → List V → Hp → Prop) : Prop :=
  ∀ i m ys H, W i m ys H → H D = some (.lst ys) ∧ ((J.stop i H ∧ Q H ys) ∨ (J.go i H ∧ ∀ x H3, J.yld i H x H3 → g x σb H3 fun σ4 H4 => Wk σb σ4 ∧ tt σ4 H4 fun b H5 =>
    if b = true then te σ4 H5 fun y H6 => H6 D = some (.lst ys) ∧ ys.length < sizeLine ∧ ∃ m', m' < m ∧ W (i + 1) m' (ys ++ [y]) (upd H6 D (.lst (ys ++ [y]))) else ∃ m', m' < m ∧ W (i + 1) m' ys H5))
def tComp (ix : List (Option Nat)) (wi : TI) (g : TG) (tt : TT) (te : TE) : TE := fun σ H Q => wi σ H fun J H1 => ∀ D, H1 D = none → ∃ W, (∃ m, W 0 m [] (upd H1 D (.lst []))) ∧ CompW J D (blkS ix σ) g tt te (fun H _ => Q (.ref D) H) W

section
variable {X : Cx} {sc : Scope} {N : List Str} {ix : List (Option Nat)} {elt tg iter : Expr} {ifs : List Expr} {pos : Pos} {wi : TI} {g : TG} {tt : TT} {te : TE}
/-- the block's rules, in every context that it may run in -/
structure Blk (X : Cx) (sc : Scope) (N : List Str) (tg elt : Expr) (ifs : List Expr) (g : TG) (tt : TT) (te : TE) : Prop where
  tg : ∀ C s H fp, PG (cxB X sc C N s H fp) tg g
  tests : ∀ C s H fp, PTs (cxB X sc C N s H fp) ifs tt
  elt : ∀ C s H fp, PE (cxB X sc C N s H fp) elt te
theorem comp_loop {J : It} {fp : List Addr} {it D : Addr} {tn : Nat → Heap → Prop} {σb : St} {Q : Hp → List V → Prop} {R : Result → Shared → Prop} {W : Nat → Nat → List V → Hp → Prop}
    (hc : X.calm = true) (hxe : X.xe = fun _ _ => False) (T : Turn X.prog X.w X.K tg J fp it tn) (hg : PG X tg g) (ht : PTs X ifs tt) (he : PE X elt te) (turn : CompW J D σb g tt te Q W)
    (stat : ∀ {H' : Hp}, (∀ b ∈ fp, H' b = none) → ∀ b ∈ fp, FpOk X [] H' b)
    (fin : ∀ {σ' : St} {H' : Hp} {s' : Shared} {ys : List V}, Inv X [] σ' H' s' → Q H' ys → R (.ok .next) s')
    {m0 i0 : Nat} {ys0 : List V} {H0 : Hp} {s0 : Shared} (I0 : Inv X [] σb H0 s0) (st0 : tn i0 s0.heap) (fr0 : ∀ b ∈ fp, H0 b = none) (w0 : W i0 m0 ys0 H0) :
    codeAny (model X.prog X.w) X.A (.compLoop (.ListComp elt [⟨tg, iter, ifs, 0⟩] sc pos) 0 (.ref it) (.ref D) X.env) R s0 := by
  have noE : ∀ {E' : Value → Shared → Prop} (e : Value) (s' : Shared), X.xe e s' → E' e s' := fun {E'} e s' z => by rw [hxe] at z; exact z.elim
  refine codeAny_loop rfl (fun n s' => ∃ i ys H', Inv X [] σb H' s' ∧ tn i s'.heap ∧ (∀ b ∈ fp, H' b = none) ∧ W i n ys H') ?_ m0 ⟨i0, ys0, H0, I0, st0, fr0, w0⟩
  rintro n s3 ⟨i, ys, H3, I3, st3, fr3, w3⟩
  show wpAny _ X.A ((compTurn (.ListComp elt [⟨tg, iter, ifs, 0⟩] sc pos) 0 (.ref it) (.ref D) X.env).onRaise (fun x => do noteFrame x X.env; theTreesLotGoes x)) _ _ s3
  refine wpAny_noted ?_
  rw [compTurn_list]
  refine wpAny_bind (wpAny_standAt (wpAny_bind ?_))
  obtain ⟨hDl, next⟩ := turn i n ys H3 w3
  rcases next with ⟨stop, q⟩ | ⟨go, step⟩
  · refine thn (T.done X rfl rfl rfl hc i [] s3 σb H3 _ I3 (stat fr3) st3 stop) fun r s4 ⟨hr, I4⟩ => ?_
    subst hr
    exact wpAny_pure (fin I4 q)
  · refine thn (T.item X rfl rfl rfl hc i [] s3 σb H3 _ I3 (stat fr3) st3 go) fun r s4 ⟨u, hr, h4⟩ => ?_
    subst hr
    refine wpAny_bind (thn h4 fun _ s5 ⟨x, H5, I5, r5, y5, st5, fr5⟩ => ?_)
    have I5' := I5.pinned (stat fr5) (T.obj _ _ st5)
    have back : ∀ {σ' : St} {H' : Hp} {s' : Shared}, Inv X ([] ++ pinsAt fp s5.heap) σ' H' s' → Wk σb σ' → Inv X [] σb H' s' ∧ tn (i + 1) s'.heap ∧ ∀ b ∈ fp, H' b = none := fun {σ' H' s'} I7 wk => by
      refine ⟨(I7.unpinned).weak wk.len wk.get, T.keep _ _ _ st5 fun b hb o e => (I7.pin (b, o) (List.mem_append_right _ (List.mem_append_right _ (mem_pinsAt hb e)))).1, fun b hb => ?_⟩
      obtain ⟨o, e, d⟩ := T.obj _ _ st5 b hb
      exact (I7.pin (b, o) (List.mem_append_right _ (List.mem_append_right _ (mem_pinsAt hb e)))).2.1
    refine wpAny_bind (wpAny_mono (hg _ s5 σb H5 x u _ I5' r5 (step x H5 y5)) (fun _ s6 ⟨σ6, H6, I6, wk, q6⟩ => ?_) noE)
    refine wpAny_bind (wpAny_mono (ht _ s6 σ6 H6 _ I6 q6) (fun ok s7 ⟨H7, I7, q7⟩ => ?_) noE)
    cases ok with
    | false =>
      obtain ⟨m', hm, w7⟩ := q7
      obtain ⟨b1, b2, b3⟩ := back I7 wk
      exact wpAny_pure ⟨rfl, m', hm, i + 1, ys, H7, b1, b2, b3, w7⟩
    | true =>
      refine wpAny_bind (wpAny_bind (wpAny_mono (he _ s7 σ6 H7 _ I7 q7) (fun v s8 ⟨y, H8, I8, r8, hD8, hl8, m', hm, w8⟩ => ?_) noE))
      refine wpAny_bind (wpAny_mono (mt_append _ s8 σ6 H8 (.ref D) [y] (.ref D) [v] (fun _ H9 => H9 = upd H8 D (.lst (ys ++ [y]))) I8 rfl (.cons r8 .nil) ⟨D, ys, y, rfl, rfl, hD8, hl8, rfl⟩) (fun _ s9 ⟨z, H9, I9, _, e9⟩ => ?_) noE)
      subst e9
      obtain ⟨b1, b2, b3⟩ := back I9 wk
      exact wpAny_pure (wpAny_pure ⟨rfl, m', hm, i + 1, ys ++ [y], _, b1, b2, b3, w8⟩)
theorem comp_core {pins : List (Addr × Obj)} {σ : St} {H : Hp} {s : Shared} {E : Value → Shared → Prop} {RR : Value → Addr → Result → Shared → Prop} {it : Addr} {fp : List Addr} {tn : Nat → Heap → Prop} {J : It} {Q : Addr → Hp → List V → Prop}
    (hc : X.calm = true) (c : CompOk X sc N ix) (B : Blk X sc N tg elt ifs g tt te) (I : Inv X pins σ H s) (T : Turn X.prog X.w X.K tg J fp it tn) (st : tn 0 s.heap) (hf : ∀ b ∈ fp, FpOk X pins H b)
    (h : ∀ D, H D = none → ∃ W, (∃ m, W 0 m [] (upd H D (.lst []))) ∧ CompW J D (blkS ix σ) g tt te (Q D) W)
    (hR : ∀ D C H' s' ys, Inv X pins σ H' s' → FpOk X pins H' C → (∃ m, s'.heap.Ns C m) → Q D H' ys → RR (.ref D) C (.ok .next) s') :
    wpAny (model X.prog X.w) X.A (newList []) (fun acc s₃ => wpAny (model X.prog X.w) X.A (newFunctionEnv sc X.env.globals (clOf X.env.cells sc.names []) [] X.env.qual none .none (some X.env)) (fun cenv s₄ =>
      codeAny (model X.prog X.w) X.A (.compStart (.ListComp elt [⟨tg, iter, ifs, 0⟩] sc pos) 0 (.ref it) acc { cenv with scope := relabel sc X.env }) (RR acc cenv.locals) s₄) E s₃) E s := by
  have hlt : ∀ b ∈ fp, b < s.heap.objs.size := fun b hb => let ⟨o, e, _⟩ := T.obj _ _ st b hb; Heap.lt_size e
  refine wpAny_newObj_type ?_ (by show 0 ≤ sizeLine; exact Nat.zero_le _)
  have hD : H s.heap.objs.size = none := I.hok.fresh (Nat.le_refl _)
  obtain ⟨W, ⟨m0, w0⟩, turn⟩ := h s.heap.objs.size hD
  have I1 : Inv X pins σ (upd H s.heap.objs.size (.lst [])) { s with heap := s.heap.push { cls := .type "list", data := .seq ([] : List Value).toArray } } := I.lnew (t' := s.toks) (its := []) .nil (Nat.zero_le _)
  have k1 : ∀ b o, s.heap.get? b = some o → (s.heap.push { cls := .type "list", data := .seq ([] : List Value).toArray }).get? b = some o := fun b o e => Heap.get?_push_of_some _ e
  have hne : ∀ b ∈ fp, b ≠ s.heap.objs.size := fun b hb => Nat.ne_of_lt (hlt b hb)
  have hf1 : ∀ b ∈ fp, FpOk X pins (upd H s.heap.objs.size (.lst [])) b := fun b hb => ⟨by rw [upd_ne (hne b hb)]; exact (hf b hb).1, (hf b hb).2⟩
  have st1 : tn 0 (s.heap.push { cls := .type "list", data := .seq ([] : List Value).toArray }) := T.keep _ _ _ st fun b _ o e => k1 b o e
  generalize hs1 : ({ s with heap := s.heap.push { cls := .type "list", data := .seq ([] : List Value).toArray } } : Shared) = s1 at I1
  have hs1h : s1.heap = s.heap.push { cls := .type "list", data := .seq ([] : List Value).toArray } := by rw [← hs1]
  generalize hDe : s.heap.objs.size = D at *
  show wpAny _ _ _ _ _ s1
  refine wpAny_newFunctionEnv c.nc (by intro y hy; simp at hy) (fun h₁ hns₁ hsb₁ => ?_) c.kind
  have old : ∀ b o, s1.heap.get? b = some o → h₁.get? b = some o := fun b o e => (hsb₁.2 b (Nat.ne_of_lt (Heap.lt_size e))).trans (Heap.get?_push_of_some _ e)
  have hlt1 : ∀ b ∈ fp, b < s1.heap.objs.size := fun b hb => by
    obtain ⟨o, e, _⟩ := T.obj _ _ st1 b hb
    rw [hs1h]
    exact Heap.lt_size e
  have J0 := inv_block (h₁ := h₁) (t' := s1.toks + ([] : List (Str × Value)).length) c I1 hf1 hlt1 (Nat.le_refl _) (by simpa using hns₁) old
  have stB : tn 0 h₁ := T.keep _ _ _ (by rw [hs1h]; exact st1 : tn 0 s1.heap) fun b _ o e => old b o e
  have fpB : ∀ {H' : Hp}, (∀ b ∈ fp, H' b = none) → ∀ b ∈ fp, FpOk (cxB X sc s1.heap.objs.size N s1 (upd H D (.lst [])) fp) [] H' b := fun {H'} hn b hb => by
    obtain ⟨f0, f1, f2, f3, f4, f5⟩ := hf1 b hb
    refine ⟨hn b hb, Nat.ne_of_lt (hlt1 b hb), ?_, .inl hb, fun x d e => f4 x d (clOf_lookup (c.cells I.ok) (fun n c z => by simp at z) e), fun p hp => absurd (show p ∈ ([] : List (Addr × Obj)) from hp) (by simp)⟩
    intro z
    rcases List.mem_cons.mp (I1.stkSub b z) with q | q
    · exact f1 q
    · exact f2 q
  have fin : ∀ {σ' : St} {H' : Hp} {s' : Shared} {ys : List V}, Inv (cxB X sc s1.heap.objs.size N s1 (upd H D (.lst [])) fp) [] σ' H' s' → Q D H' ys → RR (.ref D) s1.heap.objs.size (.ok .next) s' := fun {σ' H' s' ys} J q =>
    hR D _ H' s' ys (inv_unblock I1 hf1 J) (I1.fpOk (Nat.le_refl _) J.free) (let ⟨m, hn, _⟩ := J.loc; ⟨m, hn⟩) q
  have loop : codeAny (model X.prog X.w) X.A (.compLoop (.ListComp elt [⟨tg, iter, ifs, 0⟩] sc pos) 0 (.ref it) (.ref D) (cxB X sc s1.heap.objs.size N s1 (upd H D (.lst [])) fp).env) (RR (.ref D) s1.heap.objs.size) { s1 with heap := h₁, toks := s1.toks + ([] : List (Str × Value)).length } :=
    comp_loop (X := cxB X sc s1.heap.objs.size N s1 (upd H D (.lst [])) fp) hc rfl T (B.tg _ _ _ _) (B.tests _ _ _ _) (B.elt _ _ _ _) turn fpB fin J0 stB (fun b hb => (hf1 b hb).1) w0
  exact codeAny_compStart_list loop (T.self _ 0 _ _ _ stB loop)
theorem pe_comp (hc : X.calm = true) (c : CompOk X sc N ix) (hi : PI X tg iter wi) (B : Blk X sc N tg elt ifs g tt te) (hs : ∀ x, foldedSetIterable iter X.env x = pure x := by intro _; rfl) : PE X (.ListComp elt [⟨tg, iter, ifs, 0⟩] sc pos) (tComp ix wi g tt te) := by
  intro pins s σ H Q I h
  rw [eval_ListComp]
  refine wpAny_comprehension_free (use := none) rfl hs (closureFor_clOf (c.cells I.ok)) c.kind c.nm (thn (hi pins s σ H _ I h) fun xv s₁ h₁ => thn h₁ fun itv s₂ h₂ => ?_)
  obtain ⟨it, fp, tn, J, H2, e, I2, T, st2, f2, q2⟩ := h₂
  subst e
  refine comp_core (RR := fun acc C => compPost (model X.prog X.w) X.A X.xe none (EP X pins σ Q) acc C) (Q := fun D H _ => Q (.ref D) H) hc c B I2 T st2 f2 q2 ?_
  intro D C H' s' ys I' fC ns q
  refine ⟨_, ns.choose_spec, fun h' sb => ⟨.ref D, H', ?_, rfl, q⟩⟩
  obtain ⟨f0, f1, f2, f3, f4, f5⟩ := fC
  exact I'.turned (t' := s'.toks) (fun b o hb e => (sb.2 b hb).trans e) f0 f1 f3 f4 f5
/-- name = [..]: the store comes ahead of the block's end -/
theorem ps_setC {i : Nat} {y : Str} {py spos : Pos} (hc : X.calm = true) (hN : X.N.Nodup) (hy : X.N[i]? = some y) (hl : X.env.scope.names.lookup y = some .local)
    (hsw : swapsWith (.ListComp elt [⟨tg, iter, ifs, 0⟩] sc pos) (some (.Name y py)) spos.line X.env = pure true)
    (c : CompOk X sc N ix) (hi : PI X tg iter wi) (B : Blk X sc N tg elt ifs g tt te) (hs : ∀ x, foldedSetIterable iter X.env x = pure x := by intro _; rfl) :
    PS X (.Assign [.Name y py] (.ListComp elt [⟨tg, iter, ifs, 0⟩] sc pos) spos) (tAsg (tComp ix wi g tt te) (gName i)) := by
  intro pins s σ H D0 I h
  rw [exec_Assign_Name_used _ _ _ _ hsw]
  refine wpAny_bind (wpAny_standAt (wpAny_bind ?_))
  show wpAny _ X.A (do let _ ← comprehension (.ListComp elt [⟨tg, iter, ifs, 0⟩] sc pos) sc X.env _ (newList []) false (eval iter X.env) (some (assign (.Name y py) X.env))) _ _ s
  refine wpAny_bind (wpAny_mono (wpAny_comprehension_free (use := some (assign (.Name y py) X.env)) (Q := fun _ s' => SP X pins D0 .next s') rfl hs (closureFor_clOf (c.cells I.ok)) c.kind c.nm
    (thn (hi pins s σ H _ I h) fun xv s₁ h₁ => thn h₁ fun itv s₂ h₂ => ?_)) (fun _ s' hq => wpAny_pure (wpAny_pure hq)) fun _ _ e => e)
  obtain ⟨it, fp, tn, J, H2, e, I2, T, st2, f2, q2⟩ := h₂
  subst e
  refine comp_core (RR := fun acc C => compPost (model X.prog X.w) X.A X.xe (some (assign (.Name y py) X.env)) (fun _ s' => SP X pins D0 .next s') acc C) (Q := fun D H _ => D0.nx (σ.set i (some (.ref D))) H) hc c B I2 T st2 f2 q2 ?_
  intro D C H' s' ys I' fC ns q
  show wpAny _ X.A (assign (.Name y py) X.env (.ref D)) _ _ _
  obtain ⟨f0, f1, f2, f3, f4, f5⟩ := fC
  refine wpAny_assign_Name (store_ok2 I' hN hy (.inl hl) (v := .ref D) rfl (fun s2 J2 ⟨a, sb, ha⟩ => ?_) (.inr hl))
  obtain ⟨m, hn⟩ := ns
  have neC : C ≠ a := by
    rcases ha with z | z
    · rw [z]; exact f1
    · exact fun e => f4 y a z e.symm
  refine ⟨m, hn.sameBut sb neC, fun h3 sb3 => ⟨_, H', ?_, q⟩⟩
  exact J2.turned (t' := s2.toks) (fun b o hb e => (sb3.2 b hb).trans e) f0 f1 f3 f4 f5
end
end L2


set_option Elab.async false
set_option linter.all false
set_option maxRecDepth 100000
namespace L2
open PySem PySem.Spec PyProof.Rows

/-! ### lists of pairs as tables -/
section
variable {κ : Type} [DecidableEq κ]
def valV (kvs : List (κ × V)) (k : κ) : Option V := (kvs.find? fun kv => decide (kv.1 = k)).map (·.2)
/-- in its place, or at the end -/
def putK (kvs : List (κ × V)) (k : κ) (v : V) : List (κ × V) :=
  if (kvs.any fun kv => decide (kv.1 = k)) = true then kvs.map (fun kv => if kv.1 = k then (kv.1, v) else kv) else kvs ++ [(k, v)]
def dropK (kvs : List (κ × V)) (k : κ) : List (κ × V) := kvs.filter fun kv => decide (kv.1 ≠ k)

theorem valV_pos {p : κ × V} {r : List (κ × V)} {k : κ} (e : p.1 = k) : valV (p :: r) k = some p.2 := by simp [valV, List.find?_cons, e]
theorem valV_neg {p : κ × V} {r : List (κ × V)} {k : κ} (e : ¬ p.1 = k) : valV (p :: r) k = valV r k := by simp [valV, List.find?_cons, e]
theorem valV_any (k : κ) : ∀ kvs : List (κ × V), (kvs.any fun kv => decide (kv.1 = k)) = (valV kvs k).isSome
  | [] => rfl
  | p :: r => by
    rw [List.any_cons]
    by_cases e : p.1 = k
    · simp only [valV_pos e, decide_eq_true e, Bool.true_or, Option.isSome_some]
    · rw [valV_neg e, decide_eq_false e, Bool.false_or]; exact valV_any k r
theorem RelO.isSome_eq {o : Option V} {u : Option Value} (r : RelO o u) : o.isSome = u.isSome := by
  cases o with
  | none => cases u with
    | none => rfl
    | some _ => exact (show False from r).elim
  | some _ => cases u with
    | none => exact (show False from r).elim
    | some _ => rfl
theorem RelO.getD {o : Option V} {u : Option Value} {d : V} {d' : Value} (r : RelO o u) (rd : RelV d d') : RelV (o.getD d) (u.getD d') := by
  cases o with
  | none => cases u with
    | none => exact rd
    | some _ => exact (show False from r).elim
  | some _ => cases u with
    | none => exact (show False from r).elim
    | some _ => exact r

/-- raw tables of the same keys -/
theorem KV.val {kvs : List (κ × V)} {vs : List (κ × Value)} (r : KV kvs vs) (k : κ) : RelO (valV kvs k) (valueAt vs k) := by
  unfold KV at r
  induction r with
  | nil => exact True.intro
  | @cons p q ps qs h t ih =>
    obtain ⟨h1, h2⟩ := h
    by_cases e : p.1 = k
    · have e' : q.1 = k := h1.symm.trans e
      have b : valueAt (q :: qs) k = some q.2 := by simp [valueAt, List.find?_cons, e']
      rw [valV_pos e, b]; exact h2
    · have e' : ¬ q.1 = k := fun z => e (h1.trans z)
      have b : valueAt (q :: qs) k = valueAt qs k := by simp [valueAt, List.find?_cons, e']
      rw [valV_neg e, b]; exact ih
theorem KV.any {kvs : List (κ × V)} {vs : List (κ × Value)} (r : KV kvs vs) (k : κ) : (kvs.any fun kv => decide (kv.1 = k)) = vs.any fun kv => decide (kv.1 = k) := by
  unfold KV at r
  induction r with
  | nil => rfl
  | cons h t ih => rw [List.any_cons, List.any_cons, ih, h.1]
theorem KV.repl {kvs : List (κ × V)} {vs : List (κ × Value)} (r : KV kvs vs) (k : κ) {y : V} {u : Value} (ry : RelV y u) :
    KV (kvs.map fun kv => if kv.1 = k then (kv.1, y) else kv) (vs.map fun kv => if kv.1 = k then (kv.1, u) else kv) := by
  unfold KV at r ⊢
  induction r with
  | nil => exact .nil
  | @cons p q ps qs h t ih =>
    rw [List.map_cons, List.map_cons]
    refine .cons ?_ ih
    obtain ⟨h1, h2⟩ := h
    by_cases e : p.1 = k
    · rw [if_pos e, if_pos (h1.symm.trans e)]; exact ⟨h1, ry⟩
    · rw [if_neg e, if_neg (fun z => e (h1.trans z))]; exact ⟨h1, h2⟩
theorem KV.put {kvs : List (κ × V)} {vs : List (κ × Value)} (r : KV kvs vs) (k : κ) {y : V} {u : Value} (ry : RelV y u) : KV (putK kvs k y) (stored vs k u) := by
  unfold putK stored
  rw [r.any k]
  by_cases e : (vs.any fun kv => decide (kv.1 = k)) = true
  · rw [if_pos e, if_pos e]; exact r.repl k ry
  · rw [if_neg e, if_neg e]; exact Paired.snoc r ⟨rfl, ry⟩
theorem KV.drop {kvs : List (κ × V)} {vs : List (κ × Value)} (r : KV kvs vs) (k : κ) : KV (dropK kvs k) (without vs k) := by
  unfold KV at r ⊢
  unfold dropK without
  induction r with
  | nil => exact .nil
  | @cons p q ps qs h t ih =>
    obtain ⟨h1, h2⟩ := h
    rw [List.filter_cons, List.filter_cons]
    by_cases e : p.1 = k
    · have a : ¬ decide (p.1 ≠ k) = true := by simp [e]
      have b : ¬ decide (q.1 ≠ k) = true := by simp [h1.symm.trans e]
      rw [if_neg a, if_neg b]; exact ih
    · have e' : ¬ q.1 = k := fun z => e (h1.trans z)
      have a : decide (p.1 ≠ k) = true := by simp [e]
      have b : decide (q.1 ≠ k) = true := by simp [e']
      rw [if_pos a, if_pos b]; exact .cons ⟨h1, h2⟩ ih
theorem KV.keys {kvs : List (κ × V)} {vs : List (κ × Value)} (r : KV kvs vs) : kvs.map (·.1) = vs.map (·.1) := by
  unfold KV at r
  induction r with
  | nil => rfl
  | cons h t ih => rw [List.map_cons, List.map_cons, ih, h.1]
theorem KV.length {kvs : List (κ × V)} {vs : List (κ × Value)} (r : KV kvs vs) : kvs.length = vs.length := Paired.length r
end


/-! ### a tracked dict, its keys ints and texts or tuples of these -/
/-- raw entries of a dict with tuple keys -/
abbrev KT (H : Hp) : List (List Key × V) → List (List Key × Addr × Value) → Prop := Paired fun p q => p.1 = q.1 ∧ H q.2.1 = some (.tup (p.1.map kV)) ∧ RelV p.2 q.2.2
theorem KT.val {H : Hp} {kvs : List (List Key × V)} {xs : List (List Key × Addr × Value)} (r : KT H kvs xs) (k : List Key) : RelO (valV kvs k) ((atKey xs k).map (·.2)) := by
  induction r with
  | nil => exact True.intro
  | @cons p q ps qs h t ih =>
    obtain ⟨h1, _, h2⟩ := h
    by_cases e : p.1 = k
    · have e' : q.1 = k := h1.symm.trans e
      have b : atKey (q :: qs) k = some q.2 := by simp [atKey, List.find?_cons, e']
      rw [valV_pos e, b]; exact h2
    · have e' : ¬ q.1 = k := fun z => e (h1.trans z)
      have b : atKey (q :: qs) k = atKey qs k := by simp [atKey, List.find?_cons, e']
      rw [valV_neg e, b]; exact ih
theorem KT.repl {H : Hp} {kvs : List (List Key × V)} {xs : List (List Key × Addr × Value)} (r : KT H kvs xs) (k : List Key) {y : V} {u : Value} (ry : RelV y u) :
    KT H (kvs.map fun kv => if kv.1 = k then (kv.1, y) else kv) (xs.map (putAt k u)) := by
  induction r with
  | nil => exact .nil
  | @cons p q ps qs h t ih =>
    rw [List.map_cons, List.map_cons]
    refine .cons ?_ ih
    obtain ⟨h1, h2, h3⟩ := h
    unfold putAt
    by_cases e : p.1 = k
    · rw [if_pos e, if_pos (h1.symm.trans e)]; exact ⟨h1, h2, ry⟩
    · rw [if_neg e, if_neg (fun z => e (h1.trans z))]; exact ⟨h1, h2, h3⟩
theorem KT.put {H : Hp} {kvs : List (List Key × V)} {xs : List (List Key × Addr × Value)} (r : KT H kvs xs) (k : List Key) {b : Addr} {y : V} {u : Value} (hb : H b = some (.tup (k.map kV))) (ry : RelV y u) :
    KT H (putK kvs k y) (storedH xs k b u) := by
  have e : (kvs.any fun kv => decide (kv.1 = k)) = (atKey xs k).isSome := by
    rw [valV_any, (r.val k).isSome_eq, Option.isSome_map]
  unfold putK storedH
  rw [e]
  by_cases q : (atKey xs k).isSome = true
  · rw [if_pos q, if_pos q]; exact r.repl k ry
  · rw [if_neg q, if_neg q]; exact Paired.snoc r ⟨rfl, hb, ry⟩
theorem KT.keeps {H H' : Hp} {kvs : List (List Key × V)} {xs : List (List Key × Addr × Value)} (r : KT H kvs xs) (ht : ∀ b ys, H b = some (.tup ys) → H' b = some (.tup ys)) : KT H' kvs xs :=
  Paired.mapP r fun _ _ z => ⟨z.1, ht _ _ z.2.1, z.2.2⟩

section
variable {P : Program} {w : World} {H : Hp} {h : Heap} {a : Addr}
end

/-- what the dict at a holds at the key y -/
def DGet (H : Hp) (a : Addr) (y : V) (r : Option V) : Prop :=
  (∃ kvs k, Rd H a (.dK kvs) ∧ y = kV k ∧ r = valV kvs k) ∨ ∃ kvs k b, Rd H a (.dT kvs) ∧ y = .ref b ∧ H b = some (.tup (k.map kV)) ∧ r = valV kvs k
/-- the heap behind a[y] = v -/
def DPut (H : Hp) (a : Addr) (y v : V) (H' : Hp) : Prop :=
  (∃ kvs k, H a = some (.dK kvs) ∧ y = kV k ∧ kvs.length < sizeLine ∧ H' = upd H a (.dK (putK kvs k v))) ∨
  ∃ kvs k b, H a = some (.dT kvs) ∧ y = .ref b ∧ H b = some (.tup (k.map kV)) ∧ kvs.length < sizeLine ∧ H' = upd H a (.dT (putK kvs k v))
theorem DGet.k {H : Hp} {a : Addr} {kvs : List (Key × V)} {k : Key} (e : H a = some (.dK kvs)) : DGet H a (kV k) (valV kvs k) := .inl ⟨kvs, k, .inl e, rfl, rfl⟩
theorem DGet.t {H : Hp} {a b : Addr} {kvs : List (List Key × V)} {k : List Key} (e : H a = some (.dT kvs)) (eb : H b = some (.tup (k.map kV))) : DGet H a (.ref b) (valV kvs k) := .inr ⟨kvs, k, b, .inl e, rfl, eb, rfl⟩
theorem DPut.k {H : Hp} {a : Addr} {kvs : List (Key × V)} {k : Key} {v : V} (e : H a = some (.dK kvs)) (hl : kvs.length < sizeLine) : DPut H a (kV k) v (upd H a (.dK (putK kvs k v))) := .inl ⟨kvs, k, e, rfl, hl, rfl⟩
theorem DPut.t {H : Hp} {a b : Addr} {kvs : List (List Key × V)} {k : List Key} {v : V} (e : H a = some (.dT kvs)) (eb : H b = some (.tup (k.map kV))) (hl : kvs.length < sizeLine) :
    DPut H a (.ref b) v (upd H a (.dT (putK kvs k v))) := .inr ⟨kvs, k, b, e, rfl, eb, hl, rfl⟩


section
variable {X : Cx} {pins : List (Addr × Obj)} {σ : St} {H : Hp} {s : Shared} {a : Addr} {y v : V} {u r : Value} {o : Option V} {A : Around} {E : Value → Shared → Prop}

theorem Inv.big (I : Inv X pins σ H s) : sysModules < s.heap.objs.size := by
  have h : mainGlobals < s.heap.objs.size := (I.mod.glob.keeps I.bk).lt
  exact Nat.lt_trans (by decide) h

end

section
variable {X : Cx} {pins : List (Addr × Obj)} {σ : St} {H : Hp} {s : Shared} {a : Addr} {kvs : List (Key × V)} {k : Key} {u : Value} {A : Around} {E : Value → Shared → Prop}
end


/-! ### readings and rules -/
section
variable {X : Cx} {o i e value : Expr} {pos pos' tpos : Pos} {td ty tv : TE}
end


/-! ### displays -/
theorem dk_empty {P : Program} {w : World} {H : Hp} (h : Heap) (hb : sysModules < h.objs.size) : ObjOk P w H (h.push { cls := .type "dict", data := .dict #[] }) h.objs.size (.dK []) :=
  ⟨Nat.zero_le _, beq_eq_false_iff_ne.mpr (Ne.symm (Nat.ne_of_lt hb)), [], .nil, Heap.DictOf.new h⟩
/-- {}, to be a dict of the kind that is wanted -/
def tDNewK : TE := fun _ H Q => ∀ p, H p = none → Q (.ref p) (upd H p (.dK []))
section
variable {X : Cx} {pos : Pos}
theorem pe_dnewK : PE X (.Dict [] [] pos) tDNewK := fun pins s σ H Q I h =>
  wpAny_Dict_empty ⟨.ref s.heap.objs.size, _, I.laid (a := s.heap.objs.size) (o := .dK []) (t' := s.toks) (fun _ _ q => Heap.get?_push_of_some _ q) (Nat.le_refl _) (dk_empty s.heap I.big), rfl, h _ (I.hok.fresh (Nat.le_refl _))⟩
end

/-! ### methods -/
/-- a method call o.m(e) of a built-in, with one argument: what must be seen of the text -/
structure M1 (X : Cx) (o : Expr) (m : Str) (apos : Pos) (e : Expr) (cpos : Pos) : Prop where
  base : attributeBase o m X.env (eval o X.env) = eval o X.env
  few : ((backTo cpos (starEach [e] X.env)).all (fun x => !x.1) && (backToKw cpos (keywordEach [] X.env)).all (fun x => x.1.isSome)
    && decide (([e] : List Expr).length + ([] : List Keyword).length + (if ([] : List Keyword).isEmpty then 0 else 1) < 30)) = true
  line : (apos.endLine == cpos.line) = true
  trees : backTo cpos (starEach [e] X.env) = [(false, eval e X.env)]
structure M2 (X : Cx) (o : Expr) (m : Str) (apos : Pos) (e f : Expr) (cpos : Pos) : Prop where
  base : attributeBase o m X.env (eval o X.env) = eval o X.env
  few : ((backTo cpos (starEach [e, f] X.env)).all (fun x => !x.1) && (backToKw cpos (keywordEach [] X.env)).all (fun x => x.1.isSome)
    && decide (([e, f] : List Expr).length + ([] : List Keyword).length + (if ([] : List Keyword).isEmpty then 0 else 1) < 30)) = true
  line : (apos.endLine == cpos.line) = true
  trees : backTo cpos (starEach [e, f] X.env) = [(false, eval e X.env), (false, eval f X.env)]

section
variable {X : Cx} {pins : List (Addr × Obj)} {σ : St} {H : Hp} {s : Shared} {a : Addr} {y d : V} {u r : Value} {o : Option V} {A : Around} {E : Value → Shared → Prop}
end

section
variable {X : Cx} {o e f : Expr} {apos cpos : Pos} {td ty tx : TE}
end

/-! ### dict(d): a copy -/
section
variable {X : Cx} {pins : List (Addr × Obj)} {σ : St} {H : Hp} {s : Shared} {a : Addr} {kvs : List (Key × V)} {A : Around} {E : Value → Shared → Prop}
end


section
variable {X : Cx} {pins : List (Addr × Obj)} {σ : St} {H : Hp} {s : Shared} {a : Addr} {y : V} {u : Value} {A : Around} {E : Value → Shared → Prop}
end
end L2

set_option Elab.async false
set_option linter.all false
set_option maxRecDepth 100000
set_option maxHeartbeats 4000000
namespace L2
open PySem PySem.Spec PyProof.Rows

theorem OpR.imp {X : Cx} {f : Value → Value → Sem Value} {r r' : R2} (h : OpR X f r) (i : ∀ x y H Q, r' x y H Q → r x y H Q) : OpR X f r' :=
  fun pins s σ H x y v u Q I rx ry q => h pins s σ H x y v u Q I rx ry (i x y H Q q)
theorem CallR.imp {X : Cx} {f : Value} {r r' : List V → Hp → VK → Prop} (h : CallR X f r) (i : ∀ xs H Q, r' xs H Q → r xs H Q) : CallR X f r' :=
  fun pins s σ H xs us Q I rs q => h pins s σ H xs us Q I rs (i xs H Q q)
/-- by what stands in the slot -/
def tV (i : Nat) : TE := fun σ H Q => match σ[i]? with
  | some (some v) => Q v H
  | _ => False
theorem vr {X : Cx} (i : Nat) {x : Str} {pos : Pos} (hN : X.N[i]? = some x := by rfl) (hv : Vis X.env.scope x := by first | exact Or.inl rfl | exact Or.inr (Or.inl rfl) | exact Or.inr (Or.inr rfl)) (hd : (x == ("__debug__" : Str)) = false := by decide)
    (hcd : (x == ("__classdict__" : Str)) = false := by decide) : PE X (.Name x pos) (tV i) := fun pins s σ H Q I h => by
  refine pe_var hN hv hd hcd pins s σ H Q I ?_
  unfold tV at h
  split at h
  · rename_i v e
    exact ⟨v, e, h⟩
  · exact h.elim

/-! ### operations, read by the values' shapes -/
def rI2 (g : Int → Int → V) : R2 := fun x y H Q => match x, y with
  | .int i, .int j => Q (g i j) H
  | _, _ => False
def rIC (C : Int → Int → Prop) (g : Int → Int → V) : R2 := fun x y H Q => match x, y with
  | .int i, .int j => C i j ∧ Q (g i j) H
  | _, _ => False
theorem OpR.i2 {X : Cx} {f : Value → Value → Sem Value} {g : Int → Int → V} (h : OpR X f (rI0 g)) : OpR X f (rI2 g) := h.imp fun x y H Q q => by
  cases x <;> cases y <;> first | exact ⟨_, _, rfl, rfl, q⟩ | exact (show False from q).elim
theorem OpR.ic {X : Cx} {f : Value → Value → Sem Value} {C : Int → Int → Prop} {g : Int → Int → V} (h : OpR X f (rI C g)) : OpR X f (rIC C g) := h.imp fun x y H Q q => by
  cases x <;> cases y <;> first | exact ⟨_, _, rfl, rfl, q.1, q.2⟩ | exact (show False from q).elim
section
variable {X : Cx}
def rAddM : R2 := fun x y H Q => match x, y with
  | .int i, .int j => Q (.int (i + j)) H
  | .str i, .str j => i.length + j.length ≤ sizeLine ∧ Q (.str (i ++ j)) H
  | _, _ => False
theorem o_add : OpR X (binaryOp .Add) rAddM := (op_add.or op_add_str).imp fun x y H Q q => by
  cases x <;> cases y <;> first | exact .inl ⟨_, _, rfl, rfl, q⟩ | exact .inr ⟨_, _, rfl, rfl, q.1, q.2⟩ | exact (show False from q).elim
theorem o_sub : OpR X (binaryOp .Sub) (rI2 fun i j => .int (i - j)) := op_sub.i2
theorem o_mul : OpR X (binaryOp .Mult) (rIC CMul fun i j => .int (i * j)) := op_mul.ic
theorem o_fdiv : OpR X (binaryOp .FloorDiv) (rIC CDiv fun i j => .int (i / j)) := op_fdiv.ic
def CPos (i j : Int) : Prop := 0 < j
def CNn (i j : Int) : Prop := 0 ≤ j
theorem cp {i j : Int} (h : 0 < j := by decide) : CPos i j := h
theorem cn {i j : Int} (h : 0 ≤ j := by decide) : CNn i j := h
theorem cd {i j : Int} (h : 0 < j := by decide) (h2 : j < 1073741824 := by decide) : CDiv i j := ⟨h, h2⟩
theorem cw {i j : Int} (h : 0 ≤ j := by decide) (h2 : j ≤ 1000000 := by decide) (h3 : i.natAbs < 2 ^ 64 := by decide) : CPow i j := ⟨h, h2, h3⟩
theorem cl {i j : Int} (h : -(2 ^ 64) < i := by decide) (h2 : i < 2 ^ 64 := by decide) : CMul i j := .inl ⟨h, h2⟩
theorem cr {i j : Int} (h : -(2 ^ 64) < j := by decide) (h2 : j < 2 ^ 64 := by decide) : CMul i j := .inr ⟨h, h2⟩
theorem o_mod : OpR X (binaryOp .Mod) (rIC CPos fun i j => .int (i % j)) := op_mod.ic
theorem o_pow : OpR X (binaryOp .Pow) (rIC CPow fun i j => .int (i ^ j.toNat)) := op_pow.ic
theorem o_shr : OpR X (binaryOp .RShift) (rIC CNn fun i j => .int (i / 2 ^ j.toNat)) := op_shr.ic
theorem op_le_str : OpR X (compareOp .LtE) (fun x y H Q => ∃ i j, x = .str i ∧ y = .str j ∧ Q (.bl (!decide (j.cps.toList < i.cps.toList))) H) := by
  intro pins s σ H x y v u Q I rx ry h
  obtain ⟨i, j, rfl, rfl, q⟩ := h
  obtain ⟨t, rfl⟩ := rx
  obtain ⟨t', rfl⟩ := ry
  exact PySem.P.le_str (fin_bl I q rfl)
def rCmpM (f : Int → Int → Bool) (g : Str → Str → Bool) : R2 := fun x y H Q => match x, y with
  | .int i, .int j => Q (.bl (f i j)) H
  | .str i, .str j => Q (.bl (g i j)) H
  | _, _ => False
theorem o_lt : OpR X (compareOp .Lt) (rCmpM (fun i j => decide (i < j)) fun i j => decide (i.cps.toList < j.cps.toList)) := (op_lt.or op_lt_str).imp fun x y H Q q => by
  cases x <;> cases y <;> first | exact .inl ⟨_, _, rfl, rfl, q⟩ | exact .inr ⟨_, _, rfl, rfl, q⟩ | exact (show False from q).elim
theorem o_le : OpR X (compareOp .LtE) (rCmpM (fun i j => decide (i ≤ j)) fun i j => !decide (j.cps.toList < i.cps.toList)) := (op_le.or op_le_str).imp fun x y H Q q => by
  cases x <;> cases y <;> first | exact .inl ⟨_, _, rfl, rfl, q⟩ | exact .inr ⟨_, _, rfl, rfl, q⟩ | exact (show False from q).elim
theorem o_gt : OpR X (compareOp .Gt) (rI2 fun i j => .bl (decide (j < i))) := op_gt.i2
/-- == of two values without objects; the deep one is o_eqD -/
def rEqM (neg : Bool) : R2 := fun x y H Q => match x, y with
  | .int i, .int j => Q (.bl (if neg then !decide (i = j) else decide (i = j))) H
  | .str i, .str j => Q (.bl (if neg then !decide (i = j) else decide (i = j))) H
  | .bl i, .bl j => Q (.bl (if neg then !decide (i = j) else decide (i = j))) H
  | .non, .non => Q (.bl (!neg)) H
  | .non, .int _ => Q (.bl neg) H
  | .non, .str _ => Q (.bl neg) H
  | .non, .bl _ => Q (.bl neg) H
  | .int _, .non => Q (.bl neg) H
  | .str _, .non => Q (.bl neg) H
  | .bl _, .non => Q (.bl neg) H
  | .int _, .str _ => Q (.bl neg) H
  | .str _, .int _ => Q (.bl neg) H
  | _, _ => False
theorem o_eq : OpR X (compareOp .Eq) (rEqM false) := op_eq.imp fun x y H Q q => by
  cases x <;> cases y <;> first | exact (show False from q).elim | (refine ⟨rfl, ?_⟩; revert q; simp [rEqM])
theorem o_ne : OpR X (compareOp .NotEq) (rEqM true) := op_ne.imp fun x y H Q q => by
  cases x <;> cases y <;> first | exact (show False from q).elim | (refine ⟨rfl, ?_⟩; revert q; simp [rEqM])
def rU1 (g : Int → V) : V → Hp → VK → Prop := fun x H Q => match x with
  | .int i => Q (g i) H
  | _ => False
theorem u_neg : UnR X (unaryOp .USub) (rU1 fun i => .int (-i)) := fun pins s σ H x v Q I r q => un_neg pins s σ H x v Q I r (by
  cases x <;> first | exact ⟨_, rfl, q⟩ | exact (show False from q).elim)
/-- is None -/
theorem o_is : OpR X (compareOp .Is) (fun x y H Q => match y with | .non => Q (.bl (decide (x = .non))) H | _ => False) := op_isN.imp fun x y H Q q => by
  cases y <;> first | exact ⟨rfl, q⟩ | exact (show False from q).elim
theorem o_isnot : OpR X (compareOp .IsNot) (fun x y H Q => match y with | .non => Q (.bl (!decide (x = .non))) H | _ => False) := op_notN.imp fun x y H Q q => by
  cases y <;> first | exact ⟨rfl, q⟩ | exact (show False from q).elim
/-- a text in a text -/
def rInS (neg : Bool) : R2 := fun x y H Q => match x, y with
  | .str i, .str j => Q (.bl (if neg then (Builtin.Str.occurrences j i 0 j.length 1).isEmpty else !(Builtin.Str.occurrences j i 0 j.length 1).isEmpty)) H
  | _, _ => False
theorem o_inS : OpR X (compareOp .In) (rInS false) := op_in_str.imp fun x y H Q q => by
  cases x <;> cases y <;> first | exact ⟨_, _, rfl, rfl, q⟩ | exact (show False from q).elim
/-! ### truths -/
def mB (Q : Bool → Hp → Prop) : VK := fun x H => match x with
  | .bl c => Q c H
  | _ => False
variable {a b c : Expr} {ta tb tc : TE} {pos : Pos} {rest : List Expr}
def mAnd (ta tb : TE) : TE := fun σ H Q => ta σ H (mB fun c H1 => if c = true then tb σ H1 Q else Q (.bl false) H1)
def mOr (ta tb : TE) : TE := fun σ H Q => ta σ H (mB fun c H1 => if c = true then Q (.bl true) H1 else tb σ H1 Q)
def mNot (ta : TE) : TE := fun σ H Q => ta σ H (mB fun c H1 => Q (.bl (!c)) H1)
theorem mB_iff {Q : Bool → Hp → Prop} {x : V} {H : Hp} (h : mB Q x H) : ∃ c, x = .bl c ∧ Q c H := by
  cases x <;> first | exact ⟨_, rfl, h⟩ | exact (show False from h).elim
theorem m_and (ha : PE X a ta) (hb : PE X (.BoolOp .And (b :: rest) pos) tb) : PE X (.BoolOp .And (a :: b :: rest) pos) (mAnd ta tb) := by
  intro pins s σ H Q I h
  refine BoolOp_and (thn (ha pins s σ H _ I h) fun v s1 ⟨x, H1, I1, r1, q1⟩ => ?_)
  obtain ⟨c, rfl, q1⟩ := mB_iff q1
  cases r1
  refine wpAny_truthy_bool ?_
  cases c with
  | true => exact hb pins s1 σ H1 Q I1 q1
  | false => exact ⟨.bl false, H1, I1, rfl, q1⟩
theorem m_or (ha : PE X a ta) (hb : PE X (.BoolOp .Or (b :: rest) pos) tb) : PE X (.BoolOp .Or (a :: b :: rest) pos) (mOr ta tb) := by
  intro pins s σ H Q I h
  refine BoolOp_or (thn (ha pins s σ H _ I h) fun v s1 ⟨x, H1, I1, r1, q1⟩ => ?_)
  obtain ⟨c, rfl, q1⟩ := mB_iff q1
  cases r1
  refine wpAny_truthy_bool ?_
  cases c with
  | false => exact hb pins s1 σ H1 Q I1 q1
  | true => exact ⟨.bl true, H1, I1, rfl, q1⟩
theorem m_not (ha : PE X a ta) : PE X (.UnaryOp .Not a pos) (mNot ta) := by
  intro pins s σ H Q I h
  refine UnaryOp_ (thn (ha pins s σ H _ I h) fun v s1 ⟨x, H1, I1, r1, q1⟩ => ?_)
  obtain ⟨c, rfl, q1⟩ := mB_iff q1
  cases r1
  exact not_of (wpAny_truthy_bool ⟨.bl (!c), H1, I1, rfl, q1⟩)
/-- a test that is a bool's expression -/
def mT (t : TE) : TT := fun σ H Q => t σ H (mB Q)
theorem t_val (h : PE X a ta) (he : ∀ whole, isTrue a X.env whole = (do let v ← whole; standAt a.pos; holding [v] (truthy v)) := by intro _; rfl) : PT X a (mT ta) := by
  intro pins s σ H Q I hw
  refine isTrue_plain (thn (h pins s σ H _ I hw) fun v s1 ⟨x, H1, I1, r1, q1⟩ => ?_) (he _)
  obtain ⟨d, rfl, q⟩ := mB_iff q1
  cases r1
  exact wpAny_truthy_bool ⟨H1, I1, q⟩
theorem t_cmp {op : CmpOp} {r : R2} (ho : OpR X (compareOp op) r) (ha : PE X a ta) (hb : PE X b tb) (hm : behindInMarks op b = false) : PT X (.Compare a [op] [b] pos) (mT (tOp r ta tb)) := by
  intro pins s σ H Q I h
  refine wpAny_isTrue_Compare1 (thn (ha pins s σ H _ I h) fun v s1 ⟨x, H1, I1, r1, q1⟩ => thn (hb pins s1 σ H1 _ I1 q1) fun u s2 ⟨y, H2, I2, r2, q2⟩ =>
    thn (ho pins s2 σ H2 x y v u _ I2 r1 r2 q2) fun c s3 ⟨z, H3, I3, r3, q3⟩ => ?_) hm
  obtain ⟨k, rfl, q3⟩ := mB_iff q3
  cases r3
  exact wpAny_truthy_bool ⟨H3, I3, q3⟩
def mChain (r r' : R2) (ta tb tc : TE) : TE := fun σ H Q => ta σ H fun x H1 => tb σ H1 fun y H2 => r x y H2 (mB fun k H3 => if k = true then tc σ H3 fun w' H4 => r' y w' H4 Q else Q (.bl false) H3)
theorem m_chain {op op' : CmpOp} {r r' : R2} (ho : OpR X (compareOp op) r) (ho' : OpR X (compareOp op') r') (ha : PE X a ta) (hb : PE X b tb) (hc : PE X c tc)
    (hm : lastMarks [op, op'] [b, c] = false := by with_unfolding_all rfl) : PE X (.Compare a [op, op'] [b, c] pos) (mChain r r' ta tb tc) := by
  intro pins s σ H Q I h
  refine Compare_chain (thn (ha pins s σ H _ I h) fun v s1 ⟨x, H1, I1, r1, q1⟩ => chain_link (thn (hb pins s1 σ H1 _ I1 q1) fun u s2 ⟨y, H2, I2, r2, q2⟩ =>
    thn (ho pins s2 σ H2 x y v u _ I2 r1 r2 q2) fun d s3 ⟨z, H3, I3, r3, q3⟩ => ?_)) hm
  obtain ⟨k, rfl, q3⟩ := mB_iff q3
  cases r3
  refine wpAny_truthy_bool ?_
  cases k with
  | false => exact ite_ff ⟨.bl false, H3, I3, rfl, q3⟩
  | true => exact ite_tt (chain_last (thn (hc pins s3 σ H3 _ I3 q3) fun w' s4 ⟨z', H4, I4, r4, q4⟩ => ho' pins s4 σ H4 y z' u w' Q I4 r2 r4 q4))
theorem t_chain {op op' : CmpOp} {r r' : R2} (ho : OpR X (compareOp op) r) (ho' : OpR X (compareOp op') r') (ha : PE X a ta) (hb : PE X b tb) (hc : PE X c tc)
    (hm : lastMarks [op, op'] [b, c] = false := by with_unfolding_all rfl) : PT X (.Compare a [op, op'] [b, c] pos) (mT (mChain r r' ta tb tc)) := by
  intro pins s σ H Q I h
  refine isTrue_chain (thn (ha pins s σ H _ I h) fun v s1 ⟨x, H1, I1, r1, q1⟩ => test_link (thn (hb pins s1 σ H1 _ I1 q1) fun u s2 ⟨y, H2, I2, r2, q2⟩ =>
    thn (ho pins s2 σ H2 x y v u _ I2 r1 r2 q2) fun d s3 ⟨z, H3, I3, r3, q3⟩ => ?_)) hm
  obtain ⟨k, rfl, q3⟩ := mB_iff q3
  cases r3
  refine wpAny_truthy_bool ?_
  cases k with
  | false => exact ite_ff ⟨H3, I3, q3⟩
  | true =>
    refine ite_tt (test_last (thn (hc pins s3 σ H3 _ I3 q3) fun w' s4 ⟨z', H4, I4, r4, q4⟩ => thn (ho' pins s4 σ H4 y z' u w' _ I4 r2 r4 q4) fun d' s5 ⟨z2, H5, I5, r5, q5⟩ => ?_))
    obtain ⟨k2, rfl, q5⟩ := mB_iff q5
    cases r5
    exact wpAny_truthy_bool ⟨H5, I5, q5⟩

/-! ### isinstance -/
open PySem.W in
theorem kit_of {pins : List (Addr × Obj)} {σ : St} {H : Hp} {s : Shared} {x : V} {u t : Value} (I : Inv X pins σ H s) (rx : RelV x u) (ty : TyOf X.K H x t) :
    ∃ Hh : Heap → Prop, KitX X.K u t Hh ∧ Hh s.heap ∧ u ≠ .builtin "__main__.__loader__#opaque" := by
  cases ty with
  | non => cases (show u = Value.none from rx); exact ⟨_, PySem.W.kitx_none, True.intro, fun z => nomatch z⟩
  | bl y => cases (show u = Value.bool y from rx); exact ⟨_, PySem.W.kitx_bool, True.intro, fun z => nomatch z⟩
  | int i => obtain ⟨t, q⟩ := (show ∃ t, u = Value.int i t from rx); cases q; exact ⟨_, PySem.W.kitx_int, True.intro, fun z => nomatch z⟩
  | str y => obtain ⟨t, q⟩ := (show ∃ t, u = Value.str y t from rx); cases q; exact ⟨_, PySem.W.kitx_str, True.intro, fun z => nomatch z⟩
  | flt y => obtain ⟨t, q⟩ := (show ∃ t, u = Value.float y t from rx); cases q; exact ⟨_, PySem.W.kitx_float, True.intro, fun z => nomatch z⟩
  | @lst a xs ea =>
    cases (show u = Value.ref a from rx)
    obtain ⟨_, _, n, _, h1⟩ := (show ObjOk X.prog X.w H s.heap a (.lst xs) from I.hok a _ ea)
    exact ⟨_, PySem.W.kitx_list, ⟨_, h1, rfl⟩, fun z => nomatch z⟩
  | @frz a ob xs ea =>
    cases (show u = Value.ref a from rx)
    obtain ⟨_, _, _, n, _, h1⟩ := (show ObjOk X.prog X.w H s.heap a (.frz ob (.lst xs)) from I.hok a _ ea)
    exact ⟨_, PySem.W.kitx_list, ⟨_, h1, rfl⟩, fun z => nomatch z⟩
  | @tup a xs ea =>
    cases (show u = Value.ref a from rx)
    obtain ⟨_, _, _, p⟩ := (show ObjOk X.prog X.w H s.heap a (.tup xs) from I.hok a _ ea)
    obtain ⟨o, h1, h2, _⟩ := p
    exact ⟨_, PySem.W.kitx_tuple, ⟨o, h1, h2⟩, fun z => nomatch z⟩
  | @dK a kvs ea =>
    cases (show u = Value.ref a from rx)
    obtain ⟨_, _, vs, _, p⟩ := (show ObjOk X.prog X.w H s.heap a (.dK kvs) from I.hok a _ ea)
    obtain ⟨o, es, ep, h1, h2, _⟩ := p
    exact ⟨_, PySem.W.kitx_dict, ⟨o, h1, h2.1⟩, fun z => nomatch z⟩
  | @dT a kvs ea =>
    cases (show u = Value.ref a from rx)
    obtain ⟨_, _, xs, _, o, es, ep, h1, h2, _⟩ := (show ObjOk X.prog X.w H s.heap a (.dT kvs) from I.hok a _ ea)
    exact ⟨_, PySem.W.kitx_dict, ⟨o, h1, h2.1⟩, fun z => nomatch z⟩
  | @ins a C dx fs ea cl ha hn htk hm =>
    cases (show u = Value.ref a from rx)
    obtain ⟨mA, O, _⟩ := ins_get I.hok ea
    obtain ⟨od, J, _⟩ := O.look
    exact ⟨_, PySem.W.kitx_own (cl.get _) cl.hd ha hn htk hm, J, fun z => nomatch z⟩
def cVal : V → Value
  | .ty n => .type n
  | .ref a => .ref a
  | _ => .none
def isCls : V → Bool
  | .ty _ => true
  | .ref _ => true
  | _ => false
theorem cVal_of {c : V} {u : Value} (h : isCls c = true) (r : RelV c u) : u = cVal c := by
  cases c <;> first | exact r | exact absurd (show false = true from h) Bool.false_ne_true
/-- isinstance(x, C): the type of x, then kitOne's answer -/
def rIsi (K : PySem.W.Frag) : List V → Hp → VK → Prop := fun xs H Q => ∃ x c t b, xs = [x, c] ∧ isCls c = true ∧ TyOf K H x t ∧ PySem.W.kitOne K t (cVal c) = some b ∧ Q (.bl b) H
theorem call_isi : CallR X (.builtin "isinstance") (rIsi X.K) := by
  intro pins s σ H xs us Q I r h
  obtain ⟨x, c, t, b, rfl, hc, ty, e, q⟩ := h
  obtain ⟨u, w', rfl, rx, rc⟩ := vals2 r
  cases cVal_of hc rc
  obtain ⟨Hh, Z, p, hx⟩ := kit_of I rx ty
  exact PySem.W.kia_one Z I.kIn p e hx fun tk => ⟨.bl b, H, I.tok tk, rfl, q⟩

/-! ### all -/
theorem call_allB (hc : X.calm = true) : CallR X (.builtin "all") (fun xs H Q => ∃ (p : Addr) (ys : List V) (bs : List Bool), xs = [.ref p] ∧ SqL X.K H p ys ∧ ys = bs.map V.bl ∧ Q (.bl (bs.all id)) H) := by
  intro pins s σ H xs us Q I r h
  obtain ⟨p, ys, bs, rfl, hq, rfl, q⟩ := h
  obtain ⟨u, rfl, rx⟩ := vals1 r
  cases rx
  obtain ⟨its, rv, pl, hz⟩ := I.list hq
  have hlt : p < s.heap.objs.size := by obtain ⟨_, _, e, _⟩ := pl; exact Heap.lt_size e
  refine call_all_walk (wpAny_pyIter_list pl.isList ?_)
  refine ⟨s.heap.objs.size, [s.heap.objs.size, p], [s.heap.objs.size], its.toArray.size, _, _, fun i => (bs[i]?).getD true, rfl, Walks.list (A := X.A.in1) (I.ok.hd hc) _ p (Nat.ne_of_lt hlt) its.toArray,
    ⟨⟨_, Heap.get?_push_size _ rfl, rfl, rfl⟩, pl.isList.push _⟩, fun i v s' Q' E' hP hQ => ?_, fun h' tk hk => ?_⟩
  · have hv : its[i]? = some v := by simpa using hP
    have hi : i < (bs.map V.bl).length := by rw [rv.length]; exact (List.getElem?_eq_some_iff.mp hv).1
    obtain ⟨b, hb⟩ : ∃ b, bs[i]? = some b := ⟨bs[i]'(by simpa using hi), by simp at hi; simp [hi]⟩
    obtain ⟨u, hu, ru⟩ := rv.get (i := i) (x := V.bl b) (by rw [List.getElem?_map, hb]; rfl)
    rw [hv] at hu
    cases hu
    cases ru
    simp only [hb, Option.getD_some] at hQ
    exact wpAny_truthy_bool hQ
  · have e : ((List.range its.toArray.size).all fun i => (bs[i]?).getD true) = bs.all id := by
      rw [List.size_toArray, ← rv.length, List.length_map]; exact LSm.range_all bs
    rw [e]
    exact ⟨.bl _, H, I.kept (LSm.kept_iter hk), rfl, q⟩

/-! ### x in range(a, b) -/
end
end L2

set_option Elab.async false
set_option linter.all false
set_option maxRecDepth 100000
set_option maxHeartbeats 4000000
namespace L2
open PySem PySem.Spec PyProof.Rows

theorem and_if {Q : V → Prop} {p r : Prop} [Decidable p] [Decidable r] (q : Q (.bl (decide (p ∧ r)))) : if decide p = true then Q (.bl (decide r)) else Q (.bl false) := by
  by_cases h : p
  · rw [if_pos (decide_eq_true h)]
    have e : decide (p ∧ r) = decide r := by by_cases z : r <;> simp [h, z]
    rw [← e]; exact q
  · rw [if_neg (fun z => h (of_decide_eq_true z))]
    have e : decide (p ∧ r) = false := decide_eq_false fun z => h z.1
    rw [← e]; exact q
theorem ifP {c : Prop} [Decidable c] {A B : Prop} (hc : c) (h : A) : if decide c = true then A else B := by rw [if_pos (decide_eq_true hc)]; exact h
theorem ifN {c : Prop} [Decidable c] {A B : Prop} (hc : ¬ c) (h : B) : if decide c = true then A else B := by rw [if_neg (fun z => hc (of_decide_eq_true z))]; exact h
theorem ifC {c : Prop} [Decidable c] {A B : Prop} (h1 : c → A) (h2 : ¬ c → B) : if decide c = true then A else B := by
  by_cases h : c
  · exact ifP h (h1 h)
  · exact ifN h (h2 h)
theorem ifB {b : Bool} {A B : Prop} (h1 : b = true → A) (h2 : b = false → B) : if b = true then A else B := by
  cases b with
  | true => rw [if_pos rfl]; exact h1 rfl
  | false => rw [if_neg Bool.false_ne_true]; exact h2 rfl
theorem atI_ex {α : Type} {xs : List α} {i : Int} (h0 : 0 ≤ i) (h1 : i < xs.length) : ∃ c, c ∈ xs ∧ atI xs i = some c := by
  have hk : i.toNat < xs.length := by omega
  refine ⟨xs[i.toNat], List.getElem_mem hk, ?_⟩
  have e : ((i.toNat : Nat) : Int) = i := by omega
  have := atI_nat (xs := xs) (j := i.toNat) (v := xs[i.toNat]) (by simp [hk])
  rwa [e] at this
theorem bt_len : bootBuiltins "len" = some (.builtin "len") := by decide +kernel
theorem bt_isinstance : bootBuiltins "isinstance" = some (.builtin "isinstance") := by decide +kernel
theorem bt_all : bootBuiltins "all" = some (.builtin "all") := by decide +kernel
theorem bt_min : bootBuiltins "min" = some (.builtin "min") := by decide +kernel
theorem bt_max : bootBuiltins "max" = some (.builtin "max") := by decide +kernel
theorem bt_enumerate : bootBuiltins "enumerate" = some (.type "enumerate") := by decide +kernel
theorem bt_str : bootBuiltins "str" = some (.type "str") := by decide +kernel
theorem bt_int : bootBuiltins "int" = some (.type "int") := by decide +kernel
theorem bt_list : bootBuiltins "list" = some (.type "list") := by decide +kernel
theorem bt_tuple : bootBuiltins "tuple" = some (.type "tuple") := by decide +kernel
theorem bt_ValueError : bootBuiltins "ValueError" = some (.type "ValueError") := by decide +kernel

theorem pe_gl {X : Cx} {x : Str} {v : V} {pos : Pos} (hg : Gl X x) (h : ∃ u, X.mg x = some u ∧ RelV v u) (hd : (x == ("__debug__" : Str)) = false := by decide) : PE X (.Name x pos) (tC v) :=
  let ⟨_, e, r⟩ := h
  pe_glob hg e r hd

/-- what a loop walks, by the value -/
def iAny (K : PySem.W.Frag) (tl : TE) : TI := fun σ H R => tl σ H fun x H1 => match x with
  | .str z => R (Its z) H1
  | .ref a => ((∃ xs, SqL K H1 a xs) ∧ R (Itl K a) H1) ∨ ((∃ xs, SqT K H1 a xs) ∧ R (Itt K a) H1)
  | _ => False
theorem pi_any {X : Cx} {tg l : Expr} {tl : TE} (hl : PE X l tl) : PI X tg l (iAny X.K tl) := by
  intro pins s σ H R I h
  have hl1 : PE X l tl := hl
  refine thn (hl pins s σ H _ I h) fun v s1 ⟨x, H1, I1, r1, q1⟩ => ?_
  cases x with
  | str z =>
    have := pi_str (X := X) (tg := tg) (l := l) (tl := tC (.str z)) 
    obtain ⟨t, rfl⟩ := r1
    refine wpAny_pyIter_strU ?_
    refine ⟨s1.heap.objs.size, [s1.heap.objs.size], _, _, H1, rfl, I1.kept (t' := s1.toks) fun b o e => Heap.get?_push_of_some _ e, turn_str (ty := strIterType z) (t := t) z _ ?_, ⟨_, Heap.get?_push_size _ rfl, rfl, rfl⟩, fun b hb => ?_, q1⟩
    · unfold strIterType
      split
      · exact .inl rfl
      · exact .inr rfl
    · have e : b = s1.heap.objs.size := by simpa using hb
      subst e
      exact I1.fpOk (Nat.le_refl _) (I1.hok.fresh (Nat.le_refl _))
  | ref a =>
    cases r1
    rcases q1 with ⟨⟨xs, hq⟩, q⟩ | ⟨⟨xs, hq⟩, q⟩
    · obtain ⟨its, rv, p, hz⟩ := I1.list hq
      refine wpAny_pyIter_list p.isList ?_
      refine ⟨s1.heap.objs.size, [s1.heap.objs.size], _, _, H1, rfl, I1.kept (t' := s1.toks) fun b o e => Heap.get?_push_of_some _ e, turn_list a _, ⟨_, Heap.get?_push_size _ rfl, rfl, rfl⟩, fun b hb => ?_, q⟩
      have e : b = s1.heap.objs.size := by simpa using hb
      subst e
      exact I1.fpOk (Nat.le_refl _) (I1.hok.fresh (Nat.le_refl _))
    · obtain ⟨its, rv, p, hz⟩ := I1.tuple hq
      refine wpAny_pyIter_tuple (show s1.heap.IsTuple a its.toArray from p) ?_
      refine ⟨s1.heap.objs.size, [s1.heap.objs.size], _, _, H1, rfl, I1.kept (t' := s1.toks) fun b o e => Heap.get?_push_of_some _ e, turn_tuple a _, ⟨_, Heap.get?_push_size _ rfl, rfl, rfl⟩, fun b hb => ?_, q⟩
      have e : b = s1.heap.objs.size := by simpa using hb
      subst e
      exact I1.fpOk (Nat.le_refl _) (I1.hok.fresh (Nat.le_refl _))
  | _ => exact (show False from q1).elim

theorem call_lenM {X : Cx} : CallR X (.builtin "len") (fun xs H Q => match xs with
    | [.str z] => z.length ≤ sizeLine ∧ Q (.int z.length) H
    | [.ref p] => ∃ ys, (SqL X.K H p ys ∨ SqT X.K H p ys) ∧ Q (.int ys.length) H
    | _ => False) := (call_len_str.or call_len_seq).imp fun xs H Q q => by
  match xs, q with
  | [.str z], q => exact .inl ⟨z, rfl, q.1, q.2⟩
  | [.ref p], q => obtain ⟨ys, h, q⟩ := q; exact .inr ⟨p, ys, rfl, h, q⟩

/-! ### a comprehension, by what it walks -/
section
variable {D : Addr} {σb : St} {g : TG} {tt : TT} {te : TE} {Q : Hp → List V → Prop} {H : Hp} {K : PySem.W.Frag}
/-- what one turn asks -/
def CompT (D : Addr) (σb : St) (g : TG) (tt : TT) (te : TE) (x : V) (ys : List V) (H : Hp) (P : List V → Hp → Prop) : Prop :=
  g x σb H fun σ4 H4 => Wk σb σ4 ∧ tt σ4 H4 fun b H5 => if b = true then te σ4 H5 fun y H6 => H6 D = some (.lst ys) ∧ ys.length < sizeLine ∧ P (ys ++ [y]) (upd H6 D (.lst (ys ++ [y]))) else P ys H5
theorem comp_str {z : Str} (Pv : Nat → List V → Hp → Prop) (h0 : Pv 0 [] H) (hl : ∀ i ys H, Pv i ys H → H D = some (.lst ys))
    (hs : ∀ (i c : Nat) ys H P, z.cps[i]? = some c → Pv i ys H → (∀ a b, Pv (i + 1) a b → P a b) → CompT D σb g tt te (.str ⟨#[c]⟩) ys H P) (hd : ∀ ys H, Pv z.cps.size ys H → Q H ys) : ∃ W, (∃ m, W 0 m [] H) ∧ CompW (Its z) D σb g tt te Q W := by
  refine ⟨fun i m ys H => m = z.cps.size - i ∧ i ≤ z.cps.size ∧ Pv i ys H, ⟨_, rfl, Nat.zero_le _, h0⟩, ?_⟩
  rintro i m ys H ⟨rfl, hi, p⟩
  refine ⟨hl i ys H p, ?_⟩
  by_cases hlt : i < z.cps.size
  · refine .inr ⟨hlt, fun x H3 y => ?_⟩
    obtain ⟨rfl, c, hc, rfl⟩ := y
    exact hs i c ys _ (fun a b => ∃ m', m' < z.cps.size - i ∧ m' = z.cps.size - (i + 1) ∧ i + 1 ≤ z.cps.size ∧ Pv (i + 1) a b) hc p (fun a b q => ⟨z.cps.size - (i + 1), by omega, rfl, hlt, q⟩)
  · have e : i = z.cps.size := by omega
    subst e
    exact .inl ⟨Nat.le_refl _, hd ys H p⟩
theorem comp_list {a : Addr} {xs : List V} (Pv : Nat → List V → Hp → Prop) (h0 : Pv 0 [] H) (hq : ∀ i ys H, Pv i ys H → SqL K H a xs) (hl : ∀ i ys H, Pv i ys H → H D = some (.lst ys))
    (hs : ∀ (i : Nat) x ys H P, xs[i]? = some x → Pv i ys H → (∀ a b, Pv (i + 1) a b → P a b) → CompT D σb g tt te x ys H P) (hd : ∀ ys H, Pv xs.length ys H → Q H ys) : ∃ W, (∃ m, W 0 m [] H) ∧ CompW (Itl K a) D σb g tt te Q W := by
  refine ⟨fun i m ys H => m = xs.length - i ∧ i ≤ xs.length ∧ Pv i ys H, ⟨_, rfl, Nat.zero_le _, h0⟩, ?_⟩
  rintro i m ys H ⟨rfl, hi, p⟩
  refine ⟨hl i ys H p, ?_⟩
  have q := hq i ys H p
  by_cases hlt : i < xs.length
  · refine .inr ⟨⟨xs, xs[i], q, by simp [hlt]⟩, fun x H3 y => ?_⟩
    obtain ⟨rfl, y⟩ := y
    exact hs i x ys _ (fun a b => ∃ m', m' < xs.length - i ∧ m' = xs.length - (i + 1) ∧ i + 1 ≤ xs.length ∧ Pv (i + 1) a b) (y xs q) p (fun a b q => ⟨xs.length - (i + 1), by omega, rfl, hlt, q⟩)
  · have e : i = xs.length := by omega
    subst e
    exact .inl ⟨⟨xs, q, Nat.le_refl _⟩, hd ys H p⟩
theorem comp_tup {a : Addr} {xs : List V} (Pv : Nat → List V → Hp → Prop) (h0 : Pv 0 [] H) (hq : ∀ i ys H, Pv i ys H → SqT K H a xs) (hl : ∀ i ys H, Pv i ys H → H D = some (.lst ys))
    (hs : ∀ (i : Nat) x ys H P, xs[i]? = some x → Pv i ys H → (∀ a b, Pv (i + 1) a b → P a b) → CompT D σb g tt te x ys H P) (hd : ∀ ys H, Pv xs.length ys H → Q H ys) : ∃ W, (∃ m, W 0 m [] H) ∧ CompW (Itt K a) D σb g tt te Q W := by
  refine ⟨fun i m ys H => m = xs.length - i ∧ i ≤ xs.length ∧ Pv i ys H, ⟨_, rfl, Nat.zero_le _, h0⟩, ?_⟩
  rintro i m ys H ⟨rfl, hi, p⟩
  refine ⟨hl i ys H p, ?_⟩
  have q := hq i ys H p
  by_cases hlt : i < xs.length
  · refine .inr ⟨⟨xs, xs[i], q, by simp [hlt]⟩, fun x H3 y => ?_⟩
    obtain ⟨rfl, y⟩ := y
    exact hs i x ys _ (fun a b => ∃ m', m' < xs.length - i ∧ m' = xs.length - (i + 1) ∧ i + 1 ≤ xs.length ∧ Pv (i + 1) a b) (y xs q) p (fun a b q => ⟨xs.length - (i + 1), by omega, rfl, hlt, q⟩)
  · have e : i = xs.length := by omega
    subst e
    exact .inl ⟨⟨xs, q, Nat.le_refl _⟩, hd ys H p⟩
end

/-! ### heaps that have grown -/
theorem Same.new {H : Hp} {p : Addr} {o : HO} (h : H p = none) : Same H (upd H p o) := fun b u e => by rw [upd_ne (ne_of_none e h)]; exact e
theorem Same.sqT {K : PySem.W.Frag} {H H' : Hp} {a : Addr} {xs : List V} (e : Same H H') (h : SqT K H a xs) : SqT K H' a xs := by
  rcases h with (h | ⟨o, h⟩) | h
  · exact .inl (.inl (e _ _ h))
  · exact .inl (.inr ⟨o, e _ _ h⟩)
  · exact .inr h
/-! ### deep data -/
mutual
def DV (K : PySem.W.Frag) (H : Hp) : PyData → V → Prop
  | .none, x => x = .non
  | .bool b, x => x = .bl b
  | .int i, x => x = .int i
  | .str z, x => x = .str z
  | .list ds, x => ∃ a xs, x = .ref a ∧ SqL K H a xs ∧ DVs K H ds xs
  | .tuple ds, x => ∃ a xs, x = .ref a ∧ SqT K H a xs ∧ DVs K H ds xs
  | .dict _, _ => False
def DVs (K : PySem.W.Frag) (H : Hp) : List PyData → List V → Prop
  | [], xs => xs = []
  | d :: ds, xs => ∃ y ys, xs = y :: ys ∧ DV K H d y ∧ DVs K H ds ys
end
mutual
theorem DV.same {K : PySem.W.Frag} {H H' : Hp} (e : Same H H') : ∀ {d : PyData} {x : V}, DV K H d x → DV K H' d x
  | .none, x, h => by simpa [DV] using h
  | .bool b, x, h => by simpa [DV] using h
  | .int i, x, h => by simpa [DV] using h
  | .str z, x, h => by simpa [DV] using h
  | .list ds, x, h => by
    rw [DV] at h ⊢
    obtain ⟨a, xs, h1, h2, h3⟩ := h
    exact ⟨a, xs, h1, e.seq h2, DVs.same e h3⟩
  | .tuple ds, x, h => by
    rw [DV] at h ⊢
    obtain ⟨a, xs, h1, h2, h3⟩ := h
    exact ⟨a, xs, h1, e.sqT h2, DVs.same e h3⟩
  | .dict _, x, h => by rw [DV] at h; exact h.elim
theorem DVs.same {K : PySem.W.Frag} {H H' : Hp} (e : Same H H') : ∀ {ds : List PyData} {xs : List V}, DVs K H ds xs → DVs K H' ds xs
  | [], xs, h => by simpa [DVs] using h
  | d :: ds, xs, h => by
    rw [DVs] at h ⊢
    obtain ⟨y, ys, h1, h2, h3⟩ := h
    exact ⟨y, ys, h1, DV.same e h2, DVs.same e h3⟩
end
section
variable {X : Cx} {pins : List (Addr × Obj)} {σ : St} {H : Hp} {s : Shared}
mutual
theorem DV.reads (I : Inv X pins σ H s) : ∀ {d : PyData} {x : V} {u : Value}, DV X.K H d x → RelV x u → ∃ as, Reads s.heap u d as
  | .none, x, u, h, r => by
    rw [DV] at h; subst h; cases r; exact ⟨_, .none⟩
  | .bool b, x, u, h, r => by
    rw [DV] at h; subst h; cases r; exact ⟨_, .bool b⟩
  | .int i, x, u, h, r => by
    rw [DV] at h; subst h; obtain ⟨t, rfl⟩ := r; exact ⟨_, .int i t⟩
  | .str z, x, u, h, r => by
    rw [DV] at h; subst h; obtain ⟨t, rfl⟩ := r; exact ⟨_, .str z t⟩
  | .list ds, x, u, h, r => by
    rw [DV] at h
    obtain ⟨a, xs, rfl, h2, h3⟩ := h
    cases r
    obtain ⟨its, rv, ⟨o, n, e, c, _, d⟩, _⟩ := I.list h2
    obtain ⟨as, q⟩ := DVs.reads I h3 rv
    exact ⟨_, .list e c d (by simpa using q)⟩
  | .tuple ds, x, u, h, r => by
    rw [DV] at h
    obtain ⟨a, xs, rfl, h2, h3⟩ := h
    cases r
    obtain ⟨its, rv, ⟨o, e, c, n, d⟩, _⟩ := I.tuple h2
    obtain ⟨as, q⟩ := DVs.reads I h3 rv
    exact ⟨_, .tuple e c d (by simpa using q)⟩
  | .dict _, x, u, h, r => by rw [DV] at h; exact h.elim
theorem DVs.reads (I : Inv X pins σ H s) : ∀ {ds : List PyData} {xs : List V} {us : List Value}, DVs X.K H ds xs → Vals xs us → ∃ as, ReadsAll s.heap us ds as
  | [], xs, us, h, r => by
    rw [DVs] at h; subst h; cases r; exact ⟨_, .nil⟩
  | d :: ds, xs, us, h, r => by
    rw [DVs] at h
    obtain ⟨y, ys, rfl, h2, h3⟩ := h
    cases r with
    | cons r rs =>
      obtain ⟨as, q⟩ := DV.reads I h2 r
      obtain ⟨bs, p⟩ := DVs.reads I h3 rs
      exact ⟨_, .cons q p⟩
end
end
/-- == of data, whatever its depth -/
def rEqD (K : PySem.W.Frag) (neg : Bool) : R2 := fun x y H Q => ∃ d e, DV K H d x ∧ DV K H e y ∧ SeqAt.shaped d = true ∧ SeqAt.shaped e = true ∧ Q (.bl (if neg then !PyData.eqv d e else PyData.eqv d e)) H
theorem o_eqD {X : Cx} (hu : X.A.units + 64 < cLine) : OpR X (compareOp .Eq) (rEqD X.K false) := by
  intro pins s σ H x y v u Q I rx ry h
  obtain ⟨d, e, h1, h2, s1, s2, q⟩ := h
  obtain ⟨as, ra⟩ := h1.reads I rx
  obtain ⟨bs, rb⟩ := h2.reads I ry
  exact eq_dataH ra rb s1 s2 hu ⟨.bl _, H, I, rfl, q⟩
theorem o_neD {X : Cx} (hu : X.A.units + 64 < cLine) : OpR X (compareOp .NotEq) (rEqD X.K true) := by
  intro pins s σ H x y v u Q I rx ry h
  obtain ⟨d, e, h1, h2, s1, s2, q⟩ := h
  obtain ⟨as, ra⟩ := h1.reads I rx
  obtain ⟨bs, rb⟩ := h2.reads I ry
  exact ne_dataH ra rb s1 s2 hu ⟨.bl _, H, I, rfl, q⟩
end L2

set_option Elab.async false
set_option linter.all false
set_option maxRecDepth 100000
set_option maxHeartbeats 4000000
namespace L2
open PySem PySem.Spec PyProof.Rows

/-! ### texts: slices, methods, numbers -/
def cutS (z : Str) (lo hi : Option Int) : Str := ⟨((z.cps.toList.drop (HT.sIx z.cps.size 0 lo)).take (HT.sIx z.cps.size z.cps.size hi - HT.sIx z.cps.size 0 lo)).toArray⟩
theorem clipS (n d : Nat) (v : Option Int) : (match v with | none => (d : Int) | some i => max 0 (min (if i < 0 then i + (n : Int) else i) (n : Int))) = ((HT.sIx n d v : Nat) : Int) := by
  cases v with
  | none => rfl
  | some i =>
    show max 0 (min (if i < 0 then i + (n : Int) else i) (n : Int)) = (((if i < 0 then (i + (n : Int)).toNat else min i.toNat n) : Nat) : Int)
    split <;> omega
theorem strIdx (lo hi : Option Int) (n : Nat) : Builtin.Str.strSliceIndices lo hi 1 n = (List.range (HT.sIx n n hi - HT.sIx n 0 lo)).map (HT.sIx n 0 lo + ·) := by
  have e : Builtin.Str.strSliceIndices lo hi 1 n = sliceRange ((HT.sIx n 0 lo : Nat) : Int) ((HT.sIx n n hi : Nat) : Int) 1 := by
    rw [← clipS n 0 lo, ← clipS n n hi]
    unfold Builtin.Str.strSliceIndices
    simp only [show (1 : Int) > 0 by decide, if_true]
    cases lo <;> cases hi <;> rfl
  rw [e, sliceRange_one]
theorem slice_cut (z : Str) (lo hi : Option Int) : Txt.slice z lo hi = cutS z lo hi := by
  have e : ((Builtin.Str.strSliceIndices lo hi 1 z.length).filterMap (z.cps[·]?)) = (z.cps.toList.drop (HT.sIx z.cps.size 0 lo)).take (HT.sIx z.cps.size z.cps.size hi - HT.sIx z.cps.size 0 lo) := by
    rw [strIdx]
    exact pick_run z.cps _ _
  unfold Txt.slice
  split
  · rename_i h
    have hl : (Builtin.Str.strSliceIndices lo hi 1 z.length).length = z.cps.size := by
      rw [Bool.and_eq_true] at h
      exact eq_of_beq h.2
    rw [strIdx, List.length_map, List.length_range] at hl
    have h1 := HT.sIx_le z.cps.size z.cps.size (Nat.le_refl _) hi
    have hl' : HT.sIx z.cps.size z.cps.size hi - HT.sIx z.cps.size 0 lo = z.cps.size := hl
    unfold cutS
    by_cases h0 : z.cps.size = 0
    · refine ext_toList ?_
      have hz : z.cps.toList = [] := List.length_eq_zero_iff.mp (by simpa using h0)
      show z.cps.toList = _
      rw [hz]
      simp
    · have h2 : HT.sIx z.cps.size 0 lo = 0 := by omega
      rw [hl', h2, List.drop_zero, List.take_of_length_le (by simp)]
  · rw [e]
    rfl
theorem cutS_le (z : Str) (lo hi : Option Int) : (cutS z lo hi).cps.size ≤ z.cps.size := by
  show ((z.cps.toList.drop _).take _).toArray.size ≤ _
  rw [List.size_toArray, List.length_take, List.length_drop]
  simp only [Array.length_toList]
  omega
theorem cutS_mem {z : Str} {lo hi : Option Int} {c : Nat} (h : c ∈ (cutS z lo hi).cps.toList) : c ∈ z.cps.toList := by
  have h' : c ∈ (z.cps.toList.drop (HT.sIx z.cps.size 0 lo)).take (HT.sIx z.cps.size z.cps.size hi - HT.sIx z.cps.size 0 lo) := by simpa [cutS] using h
  exact List.mem_of_mem_drop (List.mem_of_mem_take h')
section
variable {X : Cx}
def rSlS : V → Option Int → Option Int → Hp → VK → Prop := fun x lo hi H Q => ∃ z, x = .str z ∧ z.length ≤ sizeLine ∧ Q (.str (cutS z lo hi)) H
theorem sl_str : SlR X rSlS := by
  intro pins s σ H x v vl vu lo hi sl Q I rx hs pl pu h
  obtain ⟨z, rfl, hz, q⟩ := h
  obtain ⟨t, rfl⟩ := rx
  refine ⟨"str", _, F.slot_str_getitem.lookup, typeIs_str _ _ _, ?_⟩
  rw [← slice_cut] at q
  have fin : ∀ t' k, EP X pins σ Q (.str (Txt.slice z lo hi) t') { s with toks := k } := fun t' k => ⟨.str _, H, I.tok _, ⟨_, rfl⟩, q⟩
  cases pl with
  | none =>
    cases pu with
    | none => exact wpAny_getItem_str_slice (l := none) (u := none) (st := none) hs rfl (post_val_or_str ⟨Nat.le_trans (Txt.slice_le z _ _) hz, fin⟩)
    | int j uj => exact wpAny_getItem_str_slice (l := none) (u := some (j, uj)) (st := none) hs rfl (post_val_or_str ⟨Nat.le_trans (Txt.slice_le z _ _) hz, fin⟩)
  | int i ui =>
    cases pu with
    | none => exact wpAny_getItem_str_slice (l := some (i, ui)) (u := none) (st := none) hs rfl (post_val_or_str ⟨Nat.le_trans (Txt.slice_le z _ _) hz, fin⟩)
    | int j uj => exact wpAny_getItem_str_slice (l := some (i, ui)) (u := some (j, uj)) (st := none) hs rfl (post_val_or_str ⟨Nat.le_trans (Txt.slice_le z _ _) hz, fin⟩)
theorem SlR.imp {r r' : V → Option Int → Option Int → Hp → VK → Prop} (h : SlR X r) (i : ∀ x lo hi H Q, r' x lo hi H Q → r x lo hi H Q) : SlR X r' :=
  fun pins s σ H x v vl vu lo hi sl Q I rx hs pl pu q => h pins s σ H x v vl vu lo hi sl Q I rx hs pl pu (i x lo hi H Q q)
/-- any slice, by the value -/
theorem sl_any : SlR X (fun x lo hi H Q => match x with
    | .str z => z.length ≤ sizeLine ∧ Q (.str (cutS z lo hi)) H
    | .ref a => (∃ xs, SqL X.K H a xs ∧ ∀ p, H p = none → Q (.ref p) (upd H p (.lst (cutV xs lo hi)))) ∨
        ∃ xs, SqT X.K H a xs ∧ ¬ (HT.sIx xs.length 0 lo = 0 ∧ HT.sIx xs.length xs.length hi = xs.length) ∧ ∀ p, H p = none → Q (.ref p) (upd H p (.tup (cutV xs lo hi)))
    | _ => False) := (sl_list.or (sl_tup.or sl_str)).imp fun x lo hi H Q q => by
  cases x with
  | str z => exact .inr (.inr ⟨z, rfl, q.1, q.2⟩)
  | ref a =>
    rcases q with ⟨xs, h1, h2⟩ | ⟨xs, h1, h2, h3⟩
    · exact .inl ⟨a, xs, rfl, h1, h2⟩
    · exact .inr (.inl ⟨a, xs, rfl, h1, h2, h3⟩)
  | _ => exact (show False from q).elim

theorem MtR.imp {id : String} {r r' : V → List V → Hp → VK → Prop} (h : MtR X id r) (i : ∀ x xs H Q, r' x xs H Q → r x xs H Q) : MtR X id r' :=
  fun pins s σ H x xs v us Q I rx rs q => h pins s σ H x xs v us Q I rx rs (i x xs H Q q)
/-- t.startswith(u) -/
def rStarts : V → List V → Hp → VK → Prop := fun x xs H Q => match x, xs with
  | .str z, [.str y] => Q (.bl (Txt.startswith z y)) H
  | _, _ => False
theorem mt_starts : MtR X "str.startswith" rStarts := by
  intro pins s σ H x xs v us Q I rx rs q
  match x, xs, q with
  | .str z, [.str y], q =>
    obtain ⟨t, rfl⟩ := rx
    obtain ⟨u, rfl, t', rfl⟩ := vals1 rs
    exact SC.startswith ⟨.bl _, H, I, rfl, q⟩
/-- str(i) -/
theorem call_strI : CallR X (.type "str") (fun xs H Q => match xs with
    | [.int i] => i.natAbs.log2 < 1920 ∧ Q (.str (toString i)) H
    | _ => False) := call_str_int.imp fun xs H Q q => by
  match xs, q with
  | [.int i], q => exact ⟨i, rfl, q.1, q.2⟩
/-- int(t) of a text that is a number -/
theorem call_intS : CallR X (.type "int") (fun xs H Q => match xs with
    | [.str z] => ∃ n, PySem.intText? z = some n ∧ z.length ≤ 640 ∧ Q (.int n) H
    | _ => False) := by
  intro pins s σ H xs us Q I r h
  match xs, h with
  | [.str z], h =>
    obtain ⟨n, e, hl, q⟩ := h
    obtain ⟨u, rfl, t, rfl⟩ := vals1 r
    exact PySem.W.KIN.call_text e hl ⟨.int n, H, I.tok _, ⟨_, rfl⟩, q⟩
variable {o e : Expr} {es : List Expr} {to : TE} {t : TA} {apos cpos : Pos}
theorem pe_m.startswith (ho : PE X o to) (ha : PA X (e :: es) t)
    (hbase : attributeBase o "startswith" X.env (eval o X.env) = eval o X.env := by rfl)
    (hfew : ((backTo cpos (starEach (e :: es) X.env)).all (fun x => !x.1) && (backToKw cpos (keywordEach [] X.env)).all (fun x => x.1.isSome)
      && decide ((e :: es).length + ([] : List Keyword).length + (if ([] : List Keyword).isEmpty then 0 else 1) < 30)) = true := by rfl)
    (hline : (apos.endLine == cpos.line) = true := by rfl) (hs : starEach (e :: es) X.env = (false, eval e X.env) :: starEach es X.env := by rfl) (hplain : (backTo cpos (starEach es X.env)).any (·.1) = false := by rfl) :
    PE X (.Call (.Attribute o "startswith" apos) (e :: es) [] cpos) (tBM X.K "str" rStarts to t) := pe_bm F.plainAttrs_str F.slot_str_startswith F.type_str_startswith mt_starts ho ha hbase hfew hline hs hplain
end
/-- a text that begins with one sign -/
theorem starts_one (z : Str) (c : Nat) : Txt.startswith z ⟨#[c]⟩ = decide (z.cps.toList.head? = some c) := by
  obtain ⟨⟨l⟩⟩ := z
  cases l with
  | nil => rfl
  | cons a l =>
    rw [Bool.eq_iff_iff, decide_eq_true_eq]
    simp [Txt.startswith, Builtin.Str.subAt, Str.length]
end L2

set_option Elab.async false
set_option linter.all false
set_option maxRecDepth 100000
set_option maxHeartbeats 4000000
namespace L2
open PySem PySem.Spec PyProof.Rows
/-! ### joins: what holds behind a part, said once -/
section
variable {X : Cx} {st : Stmt} {rest : List Stmt} {t u : TS} {e : Expr} {te : TE} {tt : TT}
def tSeqM (t u : TS) : TS := fun D σ H => ∃ M : St → Hp → Prop, t { D with nx := M } σ H ∧ ∀ σ' H', M σ' H' → u D σ' H'
theorem pss_consM (h1 : PS X st t) (h2 : PSs X rest u) : PSs X (st :: rest) (tSeqM t u) := by
  intro pins s σ H D I h
  obtain ⟨M, h, hm⟩ := h
  refine wpAny_execs_cons (thn (h1 pins s σ H { D with nx := M } I h) fun f s1 q => ?_)
  cases f with
  | next =>
    obtain ⟨σ', H', I', q⟩ := q
    exact h2 pins s1 σ' H' D I' (hm _ _ q)
  | ret v => exact q
  | brk => exact q
  | cont => exact q
def tCutE (t : TE) : TE := fun σ H Q => ∃ M : VK, t σ H M ∧ ∀ v H', M v H' → Q v H'
theorem pe_cut (h : PE X e te) : PE X e (tCutE te) := by
  intro pins s σ H Q I hq
  obtain ⟨M, hq, hm⟩ := hq
  exact thn (h pins s σ H M I hq) fun v s1 ⟨x, H1, I1, r1, q1⟩ => ⟨x, H1, I1, r1, hm _ _ q1⟩
end
end L2

set_option Elab.async false
set_option linter.all false
set_option maxRecDepth 100000
set_option maxHeartbeats 4000000
namespace L2
open PySem PySem.Spec PyProof.Rows
/-! ### iterators of several records; enumerate, zip -/
section
variable {X : Cx} {pins : List (Addr × Obj)} {σ : St} {H : Hp} {s : Shared} {h' : Heap}
/-- records of ours have turned, a thing may have been laid -/
theorem Inv.turnedNew {t' : Nat} {ch : List Addr} {a : Addr} {o : HO} (I : Inv X pins σ H s) (k : ∀ b u, b ∉ ch → s.heap.get? b = some u → h'.get? b = some u) (hf : ∀ b ∈ ch, FpOk X pins H b)
    (ha : s.heap.objs.size ≤ a) (new : ObjOk X.prog X.w (upd H a o) h' a o) : Inv X pins σ (upd H a o) { s with heap := h', toks := t' } := by
  have hna : H a = none := I.hok.fresh ha
  have nch : ∀ b u, H b = some u → b ∉ ch := fun b u e z => by
    rw [(hf b z).1] at e
    cases e
  have nea : ∀ b u, H b = some u → b ≠ a := fun b u e z => by
    rw [z, hna] at e
    cases e
  have old : ∀ b u, s.heap.get? b = some u → b ≠ a := fun b u e => Nat.ne_of_lt (Nat.lt_of_lt_of_le (Heap.lt_size e) ha)
  refine I.step (g' := s.gens) (d' := s.drawn) (ch := ch) (fun b hb => ?_) (fun b u _ _ hc e _ => k b u hc e) (fun b u _ _ hc e _ => ⟨u.slots, k b u hc e⟩) (fun b u _ e n => ?_) (fun b u hc e => ⟨u, k b u hc e⟩)
    (fun b xs e => ?_) (fun b u v e => ?_) (fun b ps e => ⟨#[], ?_⟩) (fun m hm => ?_) (fun b u e => ?_) I.bare
  · obtain ⟨_, f1, _, f3, f4, f5⟩ := hf b hb
    exact ⟨f3, f1, f4, f5⟩
  · rw [upd_ne (old b u e)]; exact n
  · rw [upd_ne (nea b _ e)]; exact e
  · rw [upd_ne (nea b _ e)]; exact e
  · rw [upd_ne (nea b _ e), e]; simp
  · obtain ⟨ob, es, ep, ho, r⟩ := hm
    exact ⟨ob, es, ep, k _ ob (fun z => (hf _ z).2.1 rfl) ho, r⟩
  · by_cases hb : b = a
    · subst hb
      rw [upd_same] at e
      cases e
      exact new
    · rw [upd_ne hb] at e
      refine (I.hok b u e).stay (fun c v hc q => k c v ?_ q) (fun c q => ?_) fun c xs q => ?_
      · rcases hc with z | z
        · rw [z]; exact nch b u e
        · exact nch c _ z
      · rw [upd_ne (nea c _ q)]; exact q
      · rw [upd_ne (nea c _ q)]; exact q
theorem Inv.turnedN {t' : Nat} {ch : List Addr} (I : Inv X pins σ H s) (k : ∀ b u, b ∉ ch → s.heap.get? b = some u → h'.get? b = some u) (hf : ∀ b ∈ ch, FpOk X pins H b) : Inv X pins σ H { s with heap := h', toks := t' } := by
  have nch : ∀ b u, H b = some u → b ∉ ch := fun b u e z => by
    rw [(hf b z).1] at e
    cases e
  refine I.step (g' := s.gens) (d' := s.drawn) (ch := ch) (fun b hb => ?_) (fun b u _ _ hc e _ => k b u hc e) (fun b u _ _ hc e _ => ⟨u.slots, k b u hc e⟩) (fun b u _ e n => n) (fun b u hc e => ⟨u, k b u hc e⟩)
    (fun b xs e => e) (fun b u v e => e) (fun b ps e => ⟨#[], by rw [e]; simp⟩) (fun m hm => ?_) (fun b u e => ?_) I.bare
  · obtain ⟨_, f1, _, f3, f4, f5⟩ := hf b hb
    exact ⟨f3, f1, f4, f5⟩
  · obtain ⟨ob, es, ep, ho, r⟩ := hm
    exact ⟨ob, es, ep, k _ ob (fun z => (hf _ z).2.1 rfl) ho, r⟩
  · refine (I.hok b u e).stay (fun c v hc q => k c v ?_ q) (fun c q => q) fun c xs q => q
    rcases hc with z | z
    · rw [z]; exact nch b u e
    · exact nch c _ z
end
/-- (i, the item) of the tracked list at a -/
def Ite (a : Addr) : It := ⟨fun i H => ∃ xs x, H a = some (.lst xs) ∧ xs[i]? = some x,
  fun i H x H' => ∃ p y, H p = none ∧ x = .ref p ∧ (∀ xs, H a = some (.lst xs) → xs[i]? = some y) ∧ H' = upd H p (.tup [.int (i : Nat), y]), fun i H => ∃ xs, H a = some (.lst xs) ∧ xs.length ≤ i⟩
theorem turn_enum {P : Program} {w : World} {K : PySem.W.Frag} {es : List Expr} {k : Nat} {pos : Pos} (a e it : Addr) (hne : e ≠ it) :
    Turn P w K (.Tuple es k pos) (Ite a) [e, it] e (fun i h => (∃ old, IsEnum h e it i old) ∧ h.IsListIter it a i) where
  mem := by simp
  obj := fun i h st b hb => by
    obtain ⟨⟨old, he⟩, o, h1, h2, h3⟩ := st
    rcases List.mem_cons.mp hb with rfl | hb
    · exact ⟨_, he, fun v z => by cases z⟩
    · rw [List.mem_singleton.mp hb]
      exact ⟨o, h1, fun v z => by rw [h3] at z; cases z⟩
  keep := fun i h h' st kp => by
    obtain ⟨⟨old, he⟩, o, h1, r⟩ := st
    exact ⟨⟨old, kp e (by simp) _ he⟩, o, kp it (by simp) o h1, r⟩
  item := by
    intro X hP hw hK hc i pins s σ H E I hf st hg
    subst hP hw hK
    obtain ⟨⟨old, he⟩, hit⟩ := st
    obtain ⟨xs, x, hl, hx⟩ := hg
    obtain ⟨z, its, n, r, hlen, eo⟩ := I.lstM hl
    obtain ⟨u, hu, ru⟩ := Vals.get r hx
    have hil : s.heap.IsList a its.toArray := ⟨_, eo, rfl, _, rfl⟩
    refine wpAny_pyNext_enum_item he hit hil (x := u) (by simpa using hu) hne fun h1 e1 e2 e3 e4 e5 => ?_
    refine ⟨_, rfl, wpAny_letOwnedTupleGo_enum e1 fun h2 e6 sb => ?_⟩
    have hps : s.heap.objs.size ≠ e := fun q => absurd (Heap.lt_size he) (by rw [← q]; exact Nat.lt_irrefl _)
    have hpi : s.heap.objs.size ≠ it := fun q => by
      obtain ⟨o, ho, _⟩ := hit
      exact absurd (Heap.lt_size ho) (by rw [← q]; exact Nat.lt_irrefl _)
    have hn : H s.heap.objs.size = none := I.hok.fresh (Nat.le_refl _)
    have e3' : h2.get? s.heap.objs.size = some { cls := .type "tuple", data := .seq #[.int i s.toks, u] } := (sb.2 _ hps).trans e3
    have J : Inv X pins σ (upd H s.heap.objs.size (.tup [.int (i : Nat), x])) { s with heap := h2, toks := s.toks + 1 } := by
      refine I.turnedNew (ch := [e, it]) (fun b o hb q => ?_) hf (Nat.le_refl _) ⟨by rw [sizeLine_eq]; show 2 ≤ 16777216; decide, [.int i s.toks, u], .cons ⟨_, rfl⟩ (.cons ru .nil), _, e3', rfl, 0, rfl⟩
      have b1 : b ≠ e := fun z => hb (by simp [z])
      have b2 : b ≠ it := fun z => hb (by simp [z])
      exact (sb.2 b b1).trans (e5 b o b1 b2 q)
    refine ⟨.ref s.heap.objs.size, _, J, rfl, ⟨s.heap.objs.size, x, hn, rfl, fun ys hy => ?_, rfl⟩, ⟨⟨u, ?_⟩, ?_⟩, fun b hb => ?_⟩
    · rw [hl] at hy
      cases hy
      exact hx
    · have e6' : IsEnum h2 e it ((i : Int) + 1) u := e6
      have e7 : ((i + 1 : Nat) : Int) = (i : Int) + 1 := by omega
      rw [e7]
      exact e6'
    · obtain ⟨o, ho, r⟩ := e2
      exact ⟨o, (sb.2 it (Ne.symm hne)).trans ho, r⟩
    · have hb' : b ≠ s.heap.objs.size := by
        rcases List.mem_cons.mp hb with rfl | hb
        · exact hps.symm
        · rw [List.mem_singleton.mp hb]; exact hpi.symm
      rw [upd_ne hb']
      exact (hf b hb).1
  done := by
    intro X hP hw hK hc i pins s σ H E I hf st hg
    subst hP hw hK
    obtain ⟨⟨old, he⟩, hit⟩ := st
    obtain ⟨xs, hl, hx⟩ := hg
    obtain ⟨z, its, n, r, hlen, eo⟩ := I.lstM hl
    have hil : s.heap.IsList a its.toArray := ⟨_, eo, rfl, _, rfl⟩
    refine wpAny_pyNext_enum_end (I.ok.hd hc) he hit hil (by simp; omega) fun h1 eb => ⟨rfl, I.turnedN (ch := [e, it]) (t' := s.toks) (fun b o hb q => eb b o (fun z => hb (by simp [z])) q) hf⟩
  self := fun _ _ _ _ _ st h => by
    obtain ⟨⟨old, he⟩, _⟩ := st
    exact wpAny_pyIter_enum he h
def iEnum (ta : TA) : TI := fun σ H R => ta σ H fun vs H1 => ∃ a xs, vs = [.ref a] ∧ H1 a = some (.lst xs) ∧ R (Ite a) H1
theorem pi_enum {X : Cx} {es : List Expr} {k : Nat} {tpos : Pos} {e : Expr} {ta : TA} {p pos : Pos} (hg : Gl X "enumerate") (hm : X.mg "enumerate" = none) (ha : PA X [e] ta) (hs : starEach [e] X.env = [(false, eval e X.env)] := by rfl) :
    PI X (.Tuple es k tpos) (.Call (.Name "enumerate" p) [e] [] pos) (iEnum ta) := by
  intro pins s σ H R I h
  refine wpAny_Call_Name_kw (ld_blt I hg hm bt_enumerate ?_ (by decide) (by decide))
  refine PyProof.Rows.callWith_type1 (thn (ha pos pins s σ H _ I h) fun us s1 ⟨vs, H1, I1, r1, a, xs, e1, hl, q⟩ => ?_) hs rfl
  subst e1
  obtain ⟨u, rfl, ru⟩ := vals1 r1
  cases ru
  obtain ⟨z, its, n, r, hlen, eo⟩ := I1.lstM hl
  refine call_enumerate_1 (n := n) eo fun h2 e1 e2 e3 e4 => ?_
  have I2 : Inv X pins σ H1 { s1 with heap := h2 } := I1.kept (t' := s1.toks) e4
  have hne : s1.heap.objs.size + 1 ≠ s1.heap.objs.size := Nat.succ_ne_self _
  refine wpAny_pyIter_enum e1 ?_
  refine ⟨s1.heap.objs.size + 1, [s1.heap.objs.size + 1, s1.heap.objs.size], _, _, H1, rfl, I2, turn_enum a _ _ hne, ⟨⟨_, e1⟩, e2⟩, fun b hb => ?_, q⟩
  have hb' : s1.heap.objs.size ≤ b := by
    rcases List.mem_cons.mp hb with rfl | hb
    · omega
    · rw [List.mem_singleton.mp hb]
      exact Nat.le_refl _
  exact I1.fpOk hb' (I1.hok.fresh hb')
/-- over enumerate(xs), the list stays -/
theorem for_enum {a : Addr} {xs : List V} {g : TG} {tb : TS} {D : Ends} {σ : St} {H : Hp} (Pv : Nat → St → Hp → Prop) (h0 : Pv 0 σ H) (hl : ∀ i σ H, Pv i σ H → H a = some (.lst xs))
    (hs : ∀ (i : Nat) x σ H p, xs[i]? = some x → Pv i σ H → H p = none → g (.ref p) σ (upd H p (.tup [.int (i : Nat), x])) fun σ2 H2 => tb { D with nx := Pv (i + 1), ct := Pv (i + 1), bk := D.nx } σ2 H2) (hd : ∀ σ H, Pv xs.length σ H → D.nx σ H) :
    ∃ W : Nat → Nat → St → Hp → Prop, (∃ m, W 0 m σ H) ∧ ∀ i m σ H, W i m σ H →
      ((Ite a).stop i H ∧ D.nx σ H) ∨ ((Ite a).go i H ∧ ∃ N : St → Hp → Prop, (∀ σ' H', N σ' H' → ∃ m', m' < m ∧ W (i + 1) m' σ' H') ∧ ∀ x H', (Ite a).yld i H x H' → g x σ H' fun σ2 H2 => tb { D with nx := N, ct := N, bk := D.nx } σ2 H2) := by
  refine ⟨fun i m σ H => m = xs.length - i ∧ i ≤ xs.length ∧ Pv i σ H, ⟨_, rfl, Nat.zero_le _, h0⟩, ?_⟩
  rintro i m σ H ⟨rfl, hi, p⟩
  have q := hl i σ H p
  by_cases hlt : i < xs.length
  · refine .inr ⟨⟨xs, xs[i], q, by simp [hlt]⟩, Pv (i + 1), fun σ' H' p' => ⟨_, by omega, rfl, hlt, p'⟩, fun x H' y => ?_⟩
    obtain ⟨b, v, hb, rfl, hv, rfl⟩ := y
    exact hs i v σ H b (hv xs q) p hb
  · have e : i = xs.length := by omega
    subst e
    exact .inl ⟨⟨xs, q, Nat.le_refl _⟩, hd σ H p⟩
end L2

set_option Elab.async false
set_option linter.all false
set_option maxRecDepth 100000
set_option maxHeartbeats 4000000
namespace NumM
open PySem PySem.NumText

def digB (l : List Nat) : Bool := decide (1 ≤ l.length ∧ l.length ≤ 12) && l.all fun c => decide (48 ≤ c ∧ c ≤ 57)
def bareL (l : List Nat) : List Nat := if l.head? = some 45 then l.tail else l
def valS (l : List Nat) : Int := if l.head? = some 45 then -((digitsVal (bareL l) : Nat) : Int) else ((digitsVal (bareL l) : Nat) : Int)
def badZ (l : List Nat) : Bool := decide ((bareL l).head? = some 48) && decide (l ≠ [48])
def numO (l : List Nat) : Option Int := if (digB (bareL l) && !badZ l) = true then some (valS l) else none
def codesI (n : Int) : List Nat := (toString n : String).toList.map Char.toNat

theorem digB_all {l : List Nat} (h : digB l = true) : AllDigits l ∧ 1 ≤ l.length ∧ l.length ≤ 12 := by
  unfold digB at h
  rw [Bool.and_eq_true, decide_eq_true_eq, List.all_eq_true] at h
  exact ⟨fun c hc => by have := h.2 c hc; simpa using this, h.1⟩
theorem codes_nat (m : Nat) : codesI (m : Int) = (Nat.toDigits 10 m).map Char.toNat := by
  unfold codesI
  show (Nat.repr m).toList.map Char.toNat = _
  rw [Nat.toList_repr]
theorem codes_neg (m : Nat) (h : 0 < m) : codesI (-(m : Int)) = 45 :: (Nat.toDigits 10 m).map Char.toNat := by
  obtain ⟨k, rfl⟩ : ∃ k, m = k + 1 := ⟨m - 1, by omega⟩
  have e : -((k + 1 : Nat) : Int) = Int.negSucc k := rfl
  rw [e]
  unfold codesI
  have e2 : (toString (Int.negSucc k) : String) = "-" ++ Nat.repr (k + 1) := rfl
  rw [e2, String.toList_append, Nat.toList_repr]
  rfl
theorem toNat_ofNat {c : Nat} (h : c < 128) : (Char.ofNat c).toNat = c := by
  have : c.isValidChar := Or.inl (by omega)
  simp [Char.ofNat, this, Char.toNat, Char.ofNatAux]
theorem back {cs : List Nat} (h : AllDigits cs) : (cs.map Char.ofNat).map Char.toNat = cs := by
  rw [List.map_map]
  induction cs with
  | nil => rfl
  | cons c cs ih =>
    rw [List.map_cons, ih h.tail]
    have := h.head
    show (Char.ofNat c).toNat :: cs = _
    rw [toNat_ofNat (by omega)]
theorem drop_all {cs : List Nat} (h : AllDigits cs) : AllDigits (cs.dropWhile (· == 48)) := by
  induction cs with
  | nil => exact h
  | cons c cs ih =>
    rw [List.dropWhile_cons]
    split
    · exact ih h.tail
    · exact h
theorem codes_val {cs : List Nat} (h : AllDigits cs) : (Nat.toDigits 10 (digitsVal cs)).map Char.toNat = if cs.dropWhile (· == 48) = [] then [48] else cs.dropWhile (· == 48) := by
  rw [toDigits_all cs h]
  have hd := drop_all h
  split
  · rename_i e
    rw [if_pos e]; rfl
  · rename_i c r e
    rw [if_neg (by rw [e]; exact List.cons_ne_nil _ _), e]
    rw [e] at hd
    exact back hd
theorem drop_len (cs : List Nat) : (cs.dropWhile (· == 48)).length ≤ cs.length := by
  induction cs with
  | nil => exact Nat.le_refl _
  | cons c cs ih =>
    rw [List.dropWhile_cons]
    split
    · rw [List.length_cons]; omega
    · exact Nat.le_refl _
theorem val_eq {cs : List Nat} (h : AllDigits cs) (h1 : 1 ≤ cs.length) : (Nat.toDigits 10 (digitsVal cs)).map Char.toNat = cs ↔ ¬ (cs.head? = some 48 ∧ cs ≠ [48]) := by
  rw [codes_val h]
  match cs, h1 with
  | c :: r, _ =>
    by_cases hc : c = 48
    · subst hc
      have e : (48 :: r).dropWhile (· == 48) = r.dropWhile (· == 48) := by rw [List.dropWhile_cons]; rfl
      rw [e]
      have hl := drop_len r
      constructor
      · intro q z
        by_cases hn : r.dropWhile (· == 48) = []
        · rw [if_pos hn] at q; exact z.2 q.symm
        · rw [if_neg hn] at q
          have := congrArg List.length q
          rw [List.length_cons] at this
          omega
      · intro z
        have hr : r = [] := by
          by_cases hr : r = []
          · exact hr
          · exact absurd ⟨rfl, by simpa using hr⟩ z
        subst hr
        rfl
    · have e : (c :: r).dropWhile (· == 48) = c :: r := by
        rw [List.dropWhile_cons, if_neg (by simpa using hc)]
      rw [e, if_neg (List.cons_ne_nil _ _)]
      constructor
      · intro _ z
        exact hc (by simpa using z.1)
      · intro _; rfl
theorem val_zero {cs : List Nat} (h : AllDigits cs) (h1 : 1 ≤ cs.length) (hz : digitsVal cs = 0) : cs.head? = some 48 := by
  match cs, h1 with
  | c :: r, _ =>
    have hc := h.head
    by_cases e : c = 48
    · rw [e]; rfl
    · have := digitsVal_pos (c := c) (cs := r) (by omega)
      omega
theorem str_back {l : List Nat} (h : digB (bareL l) = true) : codesI (valS l) = l ↔ badZ l = false := by
  obtain ⟨ha, h1, h2⟩ := digB_all h
  have hb : badZ l = false ↔ ¬ ((bareL l).head? = some 48 ∧ l ≠ [48]) := by
    unfold badZ
    rw [← Bool.not_eq_true, Bool.and_eq_true, decide_eq_true_eq, decide_eq_true_eq]
  rw [hb]
  by_cases hn : l.head? = some 45
  · obtain ⟨r, rfl⟩ : ∃ r, l = 45 :: r := by
      cases l with
      | nil => cases hn
      | cons c r => exact ⟨r, by rw [show c = 45 by simpa using hn]⟩
    have eb : bareL (45 :: r) = r := rfl
    have ev : valS (45 :: r) = -((digitsVal r : Nat) : Int) := rfl
    rw [eb] at ha h1 ⊢
    rw [ev]
    by_cases hz : digitsVal r = 0
    · rw [hz]
      have e0 : codesI (-((0 : Nat) : Int)) = [48] := by decide
      rw [e0]
      constructor
      · intro z; cases z
      · intro z; exact absurd ⟨val_zero ha h1 hz, by intro q; cases q⟩ z
    · rw [codes_neg _ (by omega)]
      have := val_eq ha h1
      constructor
      · intro q z
        injection q with _ q
        have q' := this.mp q
        refine q' ⟨z.1, ?_⟩
        intro e
        rw [e] at hz
        exact hz (by decide)
      · intro z
        rw [this.mpr fun q => z ⟨q.1, by intro e; cases e⟩]
  · have eb : bareL l = l := by unfold bareL; rw [if_neg hn]
    have ev : valS l = ((digitsVal l : Nat) : Int) := by unfold valS; rw [if_neg hn, eb]
    rw [eb] at ha h1 ⊢
    rw [ev, codes_nat]
    exact val_eq ha h1
end NumM
namespace L2
open PySem PySem.Spec PyProof.Rows
def mixed (c k : Int) : Int := if c % 4 = 1 then c / 2 ^ (2 + 40 * k).toNat % 2 ^ (40 : Int).toNat else
  ((((c + 7919 * k) % 2147483647 * 48271 + k) % 2147483647) * ((((c + 7919 * k) % 2147483647 * 48271 + k) % 2147483647) + 7) % 2147483629) * (((((c + 7919 * k) % 2147483647 * 48271 + k) % 2147483647) * ((((c + 7919 * k) % 2147483647 * 48271 + k) % 2147483647) + 7) % 2147483629) + 3) % 2147483587
def cellAt (ns : List Int) (k : Int) : Int := if k < ns.length then ns.getD k.toNat 0 else 7919 * k + 14
theorem le_codes (x y : Nat) : decide ((⟨#[y]⟩ : Str).cps.toList < (⟨#[x]⟩ : Str).cps.toList) = decide (y < x) := by
  rw [Bool.eq_iff_iff, decide_eq_true_eq, decide_eq_true_eq]
  show [y] < [x] ↔ y < x
  constructor
  · intro h
    cases h with
    | rel h => exact h
    | cons h => cases h
  · intro h
    exact .rel h
theorem dvs_strs {K : PySem.W.Frag} {H : Hp} : ∀ (l : List Nat), DVs K H (l.map fun c => PyData.str ⟨#[c]⟩) (l.map fun c => V.str ⟨#[c]⟩)
  | [] => by simp [DVs]
  | c :: l => by
    rw [List.map_cons, List.map_cons, DVs]
    exact ⟨_, _, rfl, by simp [DV], dvs_strs l⟩
theorem shaped_strs : ∀ (l : List Nat), (∀ n ∈ l, n < 128) → PyData.canLayAll0 (l.map fun c => PyData.str ⟨#[c]⟩) = true ∧ PyData.depthAll (l.map fun c => PyData.str ⟨#[c]⟩) ≤ 1
  | [], _ => by simp [PyData.canLayAll0, PyData.depthAll]
  | c :: l, h => by
    obtain ⟨h1, h2⟩ := shaped_strs l fun n hn => h n (List.mem_cons_of_mem _ hn)
    have hc := h c List.mem_cons_self
    rw [List.map_cons, PyData.canLayAll0, PyData.depthAll]
    refine ⟨?_, ?_⟩
    · rw [h1, Bool.and_true, PyData.canLay0, PyData.strOk]
      simp
      omega
    · simp only [PyData.depth]
      omega
theorem take_succ_filter {p : Nat → Bool} (l : List Nat) (i n : Nat) (h : l[i]? = some n) : (l.take (i + 1)).filter p = (l.take i).filter p ++ if p n = true then [n] else [] := by
  rw [List.take_add_one, h, List.filter_append]
  congr 1
  cases hp : p n <;> simp [List.filter, hp]
/-- [c for c in text if ..] -/
theorem comp_filt {z : Str} {D : Addr} {H : Hp} {tt : TT} {Q : Hp → List V → Prop} (p : Nat → Bool) (hz : z.cps.size < sizeLine) (ht : ∀ (c : Nat) (H' : Hp) (R : Bool → Hp → Prop), c ∈ z.cps.toList → R (p c) H' → tt [some (.str ⟨#[c]⟩)] H' R)
    (hd : Q (upd H D (.lst ((z.cps.toList.filter p).map fun c => V.str ⟨#[c]⟩))) ((z.cps.toList.filter p).map fun c => V.str ⟨#[c]⟩)) :
    ∃ W, (∃ m, W 0 m [] (upd H D (.lst []))) ∧ CompW (Its z) D [none] (gName 0) tt (tV 0) Q W := by
  refine comp_str (fun i ys H' => H' = upd H D (.lst ys) ∧ ys = ((z.cps.toList.take i).filter p).map fun c => V.str ⟨#[c]⟩) ⟨rfl, rfl⟩ (fun i ys H' ⟨e, _⟩ => by rw [e]; exact upd_same) ?_ ?_
  · rintro i n ys H' P' hn ⟨rfl, rfl⟩ hP
    refine ⟨trivial, ?_⟩
    have hl : z.cps.toList[i]? = some n := by simpa using hn
    refine ht n _ _ (List.mem_of_getElem? hl) ?_
    have hlen : (((z.cps.toList.take i).filter p).map fun c => V.str ⟨#[c]⟩).length < sizeLine := by
      rw [List.length_map]
      have h1 := List.length_filter_le p (z.cps.toList.take i)
      rw [List.length_take] at h1
      have h3 : z.cps.toList.length = z.cps.size := by simp
      omega
    refine ifB (fun h => ?_) (fun h => ?_)
    · refine ⟨upd_same, hlen, hP _ _ ⟨upd_upd, ?_⟩⟩
      rw [take_succ_filter _ i n hl, if_pos h, List.map_append]
      rfl
    · refine hP _ _ ⟨rfl, ?_⟩
      rw [take_succ_filter _ i n hl, if_neg (by rw [h]; exact Bool.false_ne_true), List.append_nil]
  · rintro ys H' ⟨rfl, rfl⟩
    rw [List.take_of_length_le (by simp)]
    exact hd
theorem eqv_strs_nil (l : List Nat) : PyData.eqv (.list (l.map fun c => PyData.str ⟨#[c]⟩)) (.list []) = l.isEmpty := by
  rw [PyData.eqv]
  cases l with
  | nil => simp [PyData.eqvAll]
  | cons x l => simp [PyData.eqvAll]
theorem shaped_list (l : List Nat) (h : ∀ n ∈ l, n < 128) : SeqAt.shaped (.list (l.map fun c => PyData.str ⟨#[c]⟩)) = true := by
  obtain ⟨k1, k2⟩ := shaped_strs l h
  unfold SeqAt.shaped
  rw [PyData.canLay0, k1, Bool.true_and]
  refine decide_eq_true ?_
  simp only [PyData.depth]
  omega
theorem small_log {i : Int} (h : i.natAbs < 2 ^ 64) : i.natAbs.log2 < 1920 := by
  by_cases h0 : i.natAbs = 0
  · rw [h0]; decide
  · have := (Nat.log2_lt h0).mpr h
    omega
theorem toStr_codes (n : Int) : ((toString n : String) : Str).cps.toList = NumM.codesI n := signs_ofString _
theorem str_eq_iff {a b : Str} : a = b ↔ a.cps.toList = b.cps.toList := ⟨fun h => by rw [h], fun h => ext_toList h⟩
theorem dig_len : ∀ (k m : Nat), m < 10 ^ (k + 1) → (Nat.toDigits 10 m).length ≤ k + 1
  | 0, m, h => by
    rw [Nat.toDigits_of_lt_base (by simpa using h)]
    exact Nat.le_refl _
  | k + 1, m, h => by
    by_cases hm : m < 10
    · rw [Nat.toDigits_of_lt_base hm]
      simp
    · have hr : m % 10 < 10 := Nat.mod_lt m (by decide)
      have t : Nat.toDigits 10 (m / 10) ++ Nat.toDigits 10 (m % 10) = Nat.toDigits 10 (10 * (m / 10) + m % 10) := Nat.toDigits_append_toDigits (by decide) (by omega) hr
      rw [Nat.div_add_mod] at t
      rw [← t, List.length_append, Nat.toDigits_of_lt_base hr]
      have := dig_len k (m / 10) (by rw [Nat.pow_succ] at h; omega)
      simp only [List.length_cons, List.length_nil]
      omega
theorem codes_len {k : Nat} {n : Int} (h : n.natAbs < 10 ^ (k + 1)) : (NumM.codesI n).length ≤ k + 2 := by
  by_cases h0 : 0 ≤ n
  · obtain ⟨m, rfl⟩ := Int.eq_ofNat_of_zero_le h0
    rw [NumM.codes_nat, List.length_map]
    have := dig_len k m (by simpa using h)
    omega
  · obtain ⟨m, rfl⟩ : ∃ m : Nat, n = -(m : Int) := ⟨n.natAbs, by omega⟩
    rw [NumM.codes_neg m (by omega), List.length_cons, List.length_map]
    have := dig_len k m (by simpa using h)
    omega
theorem codes_ascii {n : Int} {c : Nat} (h : c ∈ NumM.codesI n) : c = 45 ∨ (48 ≤ c ∧ c ≤ 57) := by
  by_cases hc : c = 45 ∨ (48 ≤ c ∧ c ≤ 57)
  · exact hc
  · exact absurd (by rw [← toStr_codes] at h; exact h) (int_text_free' c ⟨by omega, by omega⟩ n)
def oV : Option Int → V
  | none => .non
  | some n => .int n
def within (lo hi : Int) : Option Int → Option Int
  | some n => if lo ≤ n ∧ n ≤ hi then some n else none
  | none => none
theorem digits_lt : ∀ (k : Nat) (cs : List Nat), cs.length ≤ k → PySem.NumText.AllDigits cs → PySem.NumText.digitsVal cs < 10 ^ k
  | 0, [], _, _ => by decide
  | k + 1, cs, hl, h => by
    by_cases hne : cs = []
    · subst hne
      exact Nat.pos_of_ne_zero (by simp)
    · have e := List.dropLast_concat_getLast hne
      generalize cs.dropLast = ini at e
      generalize cs.getLast hne = c at e
      subst e
      have hi : PySem.NumText.AllDigits ini := fun d hd => h d (List.mem_append_left _ hd)
      have hc : 48 ≤ c ∧ c ≤ 57 := h c (List.mem_append_right _ (List.mem_singleton.mpr rfl))
      rw [List.length_append, List.length_singleton] at hl
      have := digits_lt k ini (by omega) hi
      rw [PySem.NumText.digitsVal_snoc, Nat.pow_succ]
      omega
theorem cut1_codes (t : Str) : (cutS t (some 1) none).cps.toList = t.cps.toList.tail := by
  unfold cutS
  rw [List.toList_toArray]
  have e : HT.sIx t.cps.size 0 (some 1) = min 1 t.cps.size := HT.sIx_nat _ _ 1
  have e2 : HT.sIx t.cps.size t.cps.size none = t.cps.size := rfl
  rw [e, e2]
  obtain ⟨⟨l⟩⟩ := t
  cases l with
  | nil => rfl
  | cons a l => simp
theorem cut_first (t : Str) (c : Nat) : cutS t none (some 1) = ⟨#[c]⟩ ↔ t.cps.toList.head? = some c := by
  rw [str_eq_iff]
  unfold cutS
  rw [List.toList_toArray]
  have e : HT.sIx t.cps.size t.cps.size (some 1) = min 1 t.cps.size := HT.sIx_nat _ _ 1
  have e2 : HT.sIx t.cps.size 0 none = 0 := rfl
  rw [e, e2]
  obtain ⟨⟨l⟩⟩ := t
  cases l with
  | nil => simp
  | cons a l => simp
def madeB (t S : Str) (m : Int) : Bool := decide (1 ≤ (t.cps.size : Int) ∧ (t.cps.size : Int) ≤ m) && t.cps.toList.all fun c => decide (c ∈ S.cps.toList)
theorem figures_codes (c : Nat) : c ∈ ("0123456789" : Str).cps.toList ↔ 48 ≤ c ∧ c ≤ 57 := by
  have e : ("0123456789" : Str).cps.toList = List.range' 48 10 := by decide +kernel
  rw [e, List.mem_range'_1]
  omega
theorem letters_codes (c : Nat) : c ∈ ("abcdefghijklmnopqrstuvwxyz" : Str).cps.toList ↔ 97 ≤ c ∧ c ≤ 122 := by
  have e : ("abcdefghijklmnopqrstuvwxyz" : Str).cps.toList = List.range' 97 26 := by decide +kernel
  rw [e, List.mem_range'_1]
  omega
theorem made_fig (t : Str) : madeB t "0123456789" 12 = NumM.digB t.cps.toList := by
  unfold madeB NumM.digB
  have e : (fun c => decide (c ∈ ("0123456789" : Str).cps.toList)) = fun c => decide (48 ≤ c ∧ c ≤ 57) := by
    funext c
    rw [Bool.eq_iff_iff, decide_eq_true_eq, decide_eq_true_eq]
    exact figures_codes c
  rw [e]
  congr 1
  rw [Bool.eq_iff_iff, decide_eq_true_eq, decide_eq_true_eq]
  simp only [Array.length_toList]
  omega
end L2

set_option Elab.async false
set_option linter.all false
set_option maxRecDepth 100000
set_option maxHeartbeats 4000000
namespace SplM
open PySem
/-- the parts between the signs c -/
def splitC (c : Nat) : List Nat → List (List Nat)
  | [] => [[]]
  | a :: l => if a = c then [] :: splitC c l else match splitC c l with
    | [] => [[a]]
    | p :: r => (a :: p) :: r
/-- the parts with c between -/
def joinC (c : Nat) : List (List Nat) → List Nat
  | [] => []
  | [p] => p
  | p :: q :: r => p ++ c :: joinC c (q :: r)
theorem splitC_ne (c : Nat) : ∀ l, splitC c l ≠ []
  | [] => by simp [splitC]
  | a :: l => by
    unfold splitC
    split
    · exact List.cons_ne_nil _ _
    · split <;> exact List.cons_ne_nil _ _
theorem joinC_cons (c : Nat) (p : List Nat) {r : List (List Nat)} (h : r ≠ []) : joinC c (p :: r) = p ++ c :: joinC c r := by
  cases r with
  | nil => exact absurd rfl h
  | cons q r => rfl
theorem split_app (c : Nat) : ∀ (p l : List Nat), c ∉ p → splitC c (p ++ c :: l) = p :: splitC c l
  | [], l, _ => by simp [splitC]
  | a :: p, l, h => by
    have ha : a ≠ c := fun e => h (by rw [e]; exact List.mem_cons_self)
    have ih := split_app c p l fun z => h (List.mem_cons_of_mem _ z)
    rw [List.cons_append, splitC, if_neg ha, ih]
theorem split_free (c : Nat) : ∀ (p : List Nat), c ∉ p → splitC c p = [p]
  | [], _ => rfl
  | a :: p, h => by
    have ha : a ≠ c := fun e => h (by rw [e]; exact List.mem_cons_self)
    unfold splitC
    rw [if_neg ha, split_free c p fun z => h (List.mem_cons_of_mem _ z)]
theorem split_join (c : Nat) : ∀ (ps : List (List Nat)), ps ≠ [] → (∀ p ∈ ps, c ∉ p) → splitC c (joinC c ps) = ps
  | [], h, _ => absurd rfl h
  | [p], _, h => split_free c p (h p List.mem_cons_self)
  | p :: q :: r, _, h => by
    rw [joinC, split_app c p _ (h p List.mem_cons_self), split_join c (q :: r) (List.cons_ne_nil _ _) fun x hx => h x (List.mem_cons_of_mem _ hx)]
theorem join_split (c : Nat) : ∀ l, joinC c (splitC c l) = l
  | [] => rfl
  | a :: l => by
    have ih := join_split c l
    unfold splitC
    split
    · rename_i e
      rw [joinC_cons c [] (splitC_ne c l), ih, e]; rfl
    · cases hs : splitC c l with
      | nil => exact absurd hs (splitC_ne c l)
      | cons p r =>
        rw [hs] at ih
        show joinC c ((a :: p) :: r) = a :: l
        cases r with
        | nil => rw [← ih]; rfl
        | cons q r => rw [← ih]; rfl
theorem split_len (c : Nat) : ∀ l, (splitC c l).length ≤ l.length + 1
  | [] => Nat.le_refl _
  | a :: l => by
    have ih := split_len c l
    unfold splitC
    split
    · simp only [List.length_cons]; omega
    · cases hs : splitC c l with
      | nil => simp
      | cons q r => rw [hs] at ih; simp only [List.length_cons] at ih ⊢; omega
theorem codes_join (c : Nat) : ∀ ts : List Str, (Str.join ⟨#[c]⟩ ts).cps.toList = joinC c (ts.map fun t => t.cps.toList)
  | [] => rfl
  | [t] => rfl
  | t :: u :: r => by
    have ih := codes_join c (u :: r)
    show (t ++ (⟨#[c]⟩ : Str) ++ Str.join ⟨#[c]⟩ (u :: r)).cps.toList = _
    rw [Str.cps_append, Str.cps_append, Array.toList_append, Array.toList_append, ih]
    show t.cps.toList ++ [c] ++ _ = t.cps.toList ++ c :: _
    rw [List.append_assoc]; rfl
/-- t.split(c), by the codes -/
theorem codes_split (x : Str) (c : Nat) : (Txt.split x ⟨#[c]⟩).map (fun t => t.cps.toList) = splitC c x.cps.toList := by
  have h1 := StrLaws.join_split x ⟨#[c]⟩
  have h2 := StrLaws.split_free x c
  have hne : Txt.split x ⟨#[c]⟩ ≠ [] := by
    unfold Txt.split
    split
    · exact List.cons_ne_nil _ _
    · split
      · exact List.cons_ne_nil _ _
      · rw [StrLaws.partsBetween_eq]
        obtain ⟨p, r, e⟩ := StrLaws.partsFrom_ne x (⟨#[c]⟩ : Str).length 0 (Builtin.Str.occurrences x ⟨#[c]⟩ 0 x.length (x.length + 1))
        rw [e]; exact List.cons_ne_nil _ _
  have h3 := codes_join c (Txt.split x ⟨#[c]⟩)
  rw [h1] at h3
  rw [h3, split_join c _ (by simpa using hne) ?_]
  intro p hp
  obtain ⟨t, ht, rfl⟩ := List.mem_map.mp hp
  exact h2 t ht
end SplM
namespace L2
open PySem PySem.Spec PyProof.Rows
/-! ### join, split, fields of texts, truth, list methods -/
section
variable {X : Cx}
theorem vals_strs : ∀ {ts : List Str} {us : List Value}, Vals (ts.map V.str) us → StrsAre us ts
  | [], us, r => by
    rw [List.map_nil] at r
    cases r
    exact .nil
  | t :: ts, us, r => by
    rw [List.map_cons] at r
    cases r with
    | cons r1 r2 =>
      obtain ⟨k, rfl⟩ := r1
      exact .cons t k (vals_strs r2)
/-- sep.join(texts), of a list or a tuple -/
def rJoin (K : PySem.W.Frag) : V → List V → Hp → VK → Prop := fun x xs H Q => ∃ (z : Str) (p : Addr) (ts : List Str), x = .str z ∧ xs = [.ref p] ∧ (SqL K H p (ts.map V.str) ∨ SqT K H p (ts.map V.str)) ∧
  (ts.map (·.length)).sum + ts.length * z.length ≤ 16777216 ∧ Q (.str (Txt.join z ts)) H
theorem mt_join : MtR X "str.join" (rJoin X.K) := by
  intro pins s σ H x xs v us Q I rx rs h
  obtain ⟨z, p, ts, rfl, rfl, hp, hz, q⟩ := h
  obtain ⟨t, rfl⟩ := rx
  obtain ⟨u, rfl, ru⟩ := vals1 rs
  cases ru
  rcases hp with hp | hp
  · obtain ⟨its, r, pl, _⟩ := I.list hp
    exact join_list pl.isList (by simpa using vals_strs r) hz fun t' k => ⟨.str _, H, I.tok _, ⟨_, rfl⟩, q⟩
  · obtain ⟨its, r, pl, _⟩ := I.tuple hp
    exact join_tuple pl (by simpa using vals_strs r) hz fun t' k => ⟨.str _, H, I.tok _, ⟨_, rfl⟩, q⟩
theorem vals_of_strs : ∀ (l : List (Str × Tok)), Vals ((l.map (·.1)).map V.str) (strValues l)
  | [] => .nil
  | p :: l => .cons ⟨p.2, rfl⟩ (vals_of_strs l)
open Builtin.Str in
theorem split_new {P : Program} {w : World} {A : Around} {E : Value → Shared → Prop} {s : Shared} {x y : Str} {t u : Tok} {Q : Value → Shared → Prop} (hy : (y.length == 0) = false) (hx : x.length ≤ sizeLine)
    (hp : (partsBetween x (occurrences x y 0 x.length (x.length + 1)) y.length).length ≤ sizeLine)
    (h : ∀ (l : List (Str × Tok)) (k : Nat), l.map (·.1) = Txt.split x y → Q (.ref s.heap.objs.size) { s with heap := s.heap.push { cls := .type "list", data := .seq (strValues l).toArray }, toks := k }) :
    wpAny (model P w) A (call (.builtin "str.split") [.str x t, .str y u]) Q E s := by
  by_cases h1 : (decide (x.length < y.length) || decide (strKind x < strKind y)) = true
  · refine call_meets F.slot_str_split (typeIs_str s x t) F.entry_str_split (F.args_str_split_2 _ _) (meets_str_split_cannot_occur x y t u h1) ?_
    exact h [(x, t)] s.toks (by unfold Txt.split; rw [if_pos h1]; rfl)
  · have h1' := eq_false_of_ne_true h1
    by_cases h2 : (occurrences x y 0 x.length (x.length + 1)).isEmpty = true
    · refine call_meets F.slot_str_split (typeIs_str s x t) F.entry_str_split (F.args_str_split_2 _ _) (meets_str_split_not_found x y t u h1' hy h2) ?_
      exact h [(x, t)] s.toks (by unfold Txt.split; rw [if_neg h1, if_pos h2]; rfl)
    · have h2' := eq_false_of_ne_true h2
      refine call_meets F.slot_str_split (typeIs_str s x t) F.entry_str_split (F.args_str_split_2 _ _) (meets_str_split_sep x y t u h1' hy h2' hx hp) ?_
      have := h (numbered s.toks (partsBetween x (occurrences x y 0 x.length (x.length + 1)) y.length)) (s.toks + (partsBetween x (occurrences x y 0 x.length (x.length + 1)) y.length).length)
        ((numbered_texts _ _).trans (by unfold Txt.split; rw [if_neg h1, if_neg h2]))
      rw [← strsFrom_eq] at this
      exact this
/-- text.split(sign): a new list -/
def rSplit : V → List V → Hp → VK → Prop := fun x xs H Q => ∃ (z : Str) (c : Nat), x = .str z ∧ xs = [.str ⟨#[c]⟩] ∧ z.cps.size + 2 ≤ sizeLine ∧
  ∀ (l : Addr) (ts : List Str), H l = none → ts.map (fun t => t.cps.toList) = SplM.splitC c z.cps.toList → Q (.ref l) (upd H l (.lst (ts.map V.str)))
theorem mt_split : MtR X "str.split" rSplit := by
  intro pins s σ H x xs v us Q I rx rs h
  obtain ⟨z, c, rfl, rfl, hz, q⟩ := h
  obtain ⟨t, rfl⟩ := rx
  obtain ⟨u, rfl, t', rfl⟩ := vals1 rs
  have hs : (Txt.split z ⟨#[c]⟩).length ≤ sizeLine := by
    have h1 := congrArg List.length (SplM.codes_split z c)
    have h2 := SplM.split_len c z.cps.toList
    rw [List.length_map] at h1
    simp only [Array.length_toList] at h2
    omega
  have hpl : (Builtin.Str.partsBetween z (Builtin.Str.occurrences z ⟨#[c]⟩ 0 z.length (z.length + 1)) (⟨#[c]⟩ : Str).length).length ≤ sizeLine := by
    have h1 := PySem.StrLaws.occ_length_le z ⟨#[c]⟩ 0 z.length (z.length + 1)
    rw [PySem.StrLaws.partsBetween_eq]
    have h3 : ∀ (cuts : List Nat) (a : Nat), (PySem.StrLaws.partsFrom z (⟨#[c]⟩ : Str).length a cuts).length = cuts.length + 1 := by
      intro cuts
      induction cuts with
      | nil => intro a; rfl
      | cons d cuts ih => intro a; show (_ :: _).length = _; rw [List.length_cons, ih]; rfl
    rw [h3]
    have h4 := PySem.StrLaws.occ_length_le_len z ⟨#[c]⟩ 0 z.length (z.length + 1)
    have e : z.length = z.cps.size := rfl
    omega
  refine split_new rfl (show z.cps.size ≤ sizeLine by omega) hpl fun l k e => ?_
  refine ⟨.ref s.heap.objs.size, _, I.lnew (t' := k) (ys := (l.map (·.1)).map V.str) (vals_of_strs l) (by rw [List.length_map, e]; exact hs), rfl, q _ _ (I.hok.fresh (Nat.le_refl _)) ?_⟩
  rw [e]
  exact SplM.codes_split z c

theorem pe_notT {a : Expr} {ta : TE} {pos : Pos} (ha : PE X a ta) : PE X (.UnaryOp .Not a pos) (fun σ H Q => ta σ H fun x H1 => ∃ k, TruV X.K x H1 k ∧ Q (.bl (!k)) H1) := by
  intro pins s σ H Q I h
  refine UnaryOp_ (thn (ha pins s σ H _ I h) fun v s1 ⟨x, H1, I1, r1, k, tk, q⟩ => ?_)
  exact not_of (thn (tru_ok pins s1 σ H1 x v (fun b H2 => Q (.bl (!b)) H2) I1 r1 ⟨k, tk, q⟩) fun b s2 ⟨H2, I2, q2⟩ => ⟨.bl (!b), H2, I2, rfl, q2⟩)
/-! fields of an f-string -/
variable {o e : Expr} {es : List Expr} {to : TE} {t : TA} {apos cpos : Pos}
theorem pe_m.join (ho : PE X o to) (ha : PA X (e :: es) t) (hbase : attributeBase o "join" X.env (eval o X.env) = eval o X.env := by rfl)
    (hfew : ((backTo cpos (starEach (e :: es) X.env)).all (fun x => !x.1) && (backToKw cpos (keywordEach [] X.env)).all (fun x => x.1.isSome) && decide ((e :: es).length + ([] : List Keyword).length + (if ([] : List Keyword).isEmpty then 0 else 1) < 30)) = true := by rfl)
    (hline : (apos.endLine == cpos.line) = true := by rfl) (hs : starEach (e :: es) X.env = (false, eval e X.env) :: starEach es X.env := by rfl) (hplain : (backTo cpos (starEach es X.env)).any (·.1) = false := by rfl) :
    PE X (.Call (.Attribute o "join" apos) (e :: es) [] cpos) (tBM X.K "str" (rJoin X.K) to t) := pe_bm F.plainAttrs_str F.slot_str_join F.type_str_join mt_join ho ha hbase hfew hline hs hplain
theorem pe_m.split (ho : PE X o to) (ha : PA X (e :: es) t) (hbase : attributeBase o "split" X.env (eval o X.env) = eval o X.env := by rfl)
    (hfew : ((backTo cpos (starEach (e :: es) X.env)).all (fun x => !x.1) && (backToKw cpos (keywordEach [] X.env)).all (fun x => x.1.isSome) && decide ((e :: es).length + ([] : List Keyword).length + (if ([] : List Keyword).isEmpty then 0 else 1) < 30)) = true := by rfl)
    (hline : (apos.endLine == cpos.line) = true := by rfl) (hs : starEach (e :: es) X.env = (false, eval e X.env) :: starEach es X.env := by rfl) (hplain : (backTo cpos (starEach es X.env)).any (·.1) = false := by rfl) :
    PE X (.Call (.Attribute o "split" apos) (e :: es) [] cpos) (tBM X.K "str" rSplit to t) := pe_bm F.plainAttrs_str F.slot_str_split F.type_str_split mt_split ho ha hbase hfew hline hs hplain
theorem pe_m.append (ho : PE X o to) (ha : PA X (e :: es) t) (hbase : attributeBase o "append" X.env (eval o X.env) = eval o X.env := by rfl)
    (hfew : ((backTo cpos (starEach (e :: es) X.env)).all (fun x => !x.1) && (backToKw cpos (keywordEach [] X.env)).all (fun x => x.1.isSome) && decide ((e :: es).length + ([] : List Keyword).length + (if ([] : List Keyword).isEmpty then 0 else 1) < 30)) = true := by rfl)
    (hline : (apos.endLine == cpos.line) = true := by rfl) (hs : starEach (e :: es) X.env = (false, eval e X.env) :: starEach es X.env := by rfl) (hplain : (backTo cpos (starEach es X.env)).any (·.1) = false := by rfl) :
    PE X (.Call (.Attribute o "append" apos) (e :: es) [] cpos) (tBM X.K "list" rAppend to t) := pe_bm F.plainAttrs_list F.slot_list_append F.type_list_append mt_append ho ha hbase hfew hline hs hplain
theorem pe_m.clear (ho : PE X o to) (hbase : attributeBase o "clear" X.env (eval o X.env) = eval o X.env := by rfl) (hline : (apos.endLine == cpos.line) = true := by rfl) :
    PE X (.Call (.Attribute o "clear" apos) [] [] cpos) (tBM0 X.K "list" rClear to) := pe_bm0 F.plainAttrs_list F.slot_list_clear F.type_list_clear mt_clear ho hbase hline
theorem pe_m.pop (ho : PE X o to) (hbase : attributeBase o "pop" X.env (eval o X.env) = eval o X.env := by rfl) (hline : (apos.endLine == cpos.line) = true := by rfl) :
    PE X (.Call (.Attribute o "pop" apos) [] [] cpos) (tBM0 X.K "list" rPop to) := pe_bm0 F.plainAttrs_list F.slot_list_pop F.type_list_pop mt_pop ho hbase hline
end
/-! ### tuples stay -/
def TK (H H' : Hp) : Prop := ∀ b xs, H b = some (.tup xs) → H' b = some (.tup xs)
theorem TK.refl (H : Hp) : TK H H := fun _ _ h => h
theorem TK.trans {H H1 H2 : Hp} (a : TK H H1) (b : TK H1 H2) : TK H H2 := fun c o h => b c o (a c o h)
theorem Same.tk {H H' : Hp} (e : Same H H') : TK H H' := fun b xs h => e b _ h
theorem TK.lst {H : Hp} {l : Addr} {xs ys : List V} (h : H l = some (.lst xs)) : TK H (upd H l (.lst ys)) := fun b zs e => by
  rw [upd_ne (ne_of e h (by intro z; cases z))]; exact e
theorem Same.put {H H' : Hp} {D : Addr} {o : HO} (e : Same H H') (h : H D = none) : Same H (upd H' D o) := fun b u q => by
  rw [upd_ne (ne_of_none q h)]; exact e b u q
theorem atI_cons {α : Type} {xs : List α} {i : Int} {v : α} (k : Nat) (hk : (k : Int) = i) (h : xs[k]? = some v) : atI xs i = some v := by rw [← hk]; exact atI_nat h
theorem cutV_take (xs : List V) (k : Nat) (h : k ≤ xs.length) : cutV xs none (some (k : Int)) = xs.take k := by
  unfold cutV
  rw [HT.sIx_nat, HT.sIx_none, List.drop_zero, Nat.sub_zero, Nat.min_eq_left h]
theorem cutV_drop (xs : List V) (k : Nat) : cutV xs (some (k : Int)) none = xs.drop k := by
  unfold cutV
  rw [HT.sIx_nat, HT.sIx_none]
  by_cases h : k ≤ xs.length
  · rw [Nat.min_eq_left h, List.take_of_length_le (by simp)]
  · rw [Nat.min_eq_right (by omega), Nat.sub_self, List.take_zero, List.drop_of_length_le (by omega)]
theorem inV_strs (n : Str) : ∀ ts : List Str, inV (.str n) (ts.map V.str) = decide (n ∈ ts)
  | [] => rfl
  | t :: ts => by
    have ih := inV_strs n ts
    unfold inV at ih ⊢
    rw [List.map_cons, List.any_cons, ih]
    by_cases h : t = n
    · have e : eqV (V.str t) (V.str n) = true := by rw [h]; simp only [eqV, beq_self_eq_true]
      rw [e, Bool.true_or, decide_eq_true (by rw [h]; exact List.mem_cons_self)]
    · have e : eqV (V.str t) (V.str n) = false := by simp only [eqV]; exact beq_false_of_ne h
      rw [e, Bool.false_or, Bool.eq_iff_iff, decide_eq_true_eq, decide_eq_true_eq, List.mem_cons]
      exact ⟨.inr, fun z => z.elim (fun q => absurd q.symm h) id⟩
theorem flat_strs : ∀ ts : List Str, (ts.map V.str).all flatV = true
  | [] => rfl
  | t :: ts => by rw [List.map_cons, List.all_cons, flat_strs ts]; rfl
def nameB (t : Str) : Bool := madeB t "abcdefghijklmnopqrstuvwxyz" 8
end L2

set_option Elab.async false
set_option linter.all false
set_option maxRecDepth 100000
set_option maxHeartbeats 4000000
namespace L2
open PySem PySem.Spec PyProof.Rows
/-! ### units -/
structure U where
  name : Str
  value : Int
  size : Int
  path : List Str
def uV (p : Addr) (u : U) : List V := [.str u.name, .int u.value, .int u.size, .ref p]
def IsU (H : Hp) (u : U) (x : V) : Prop := ∃ a p, x = .ref a ∧ H a = some (.tup (uV p u)) ∧ H p = some (.tup (u.path.map V.str))
theorem IsU.tk {H H' : Hp} {u : U} {x : V} (k : TK H H') (h : IsU H u x) : IsU H' u x := let ⟨a, p, h1, h2, h3⟩ := h; ⟨a, p, h1, k a _ h2, k p _ h3⟩
abbrev AllU (H : Hp) : List U → List V → Prop := Paired (IsU H)
theorem AllU.tk {H H' : Hp} (k : TK H H') : ∀ {us : List U} {xs : List V}, AllU H us xs → AllU H' us xs
  | _, _, .nil => .nil
  | _, _, .cons r t => .cons (r.tk k) (AllU.tk k t)
theorem AllU.len {H : Hp} {us : List U} {xs : List V} (h : AllU H us xs) : us.length = xs.length := Paired.length h
theorem AllU.get {H : Hp} : ∀ {us : List U} {xs : List V} {i : Nat} {x : V}, AllU H us xs → xs[i]? = some x → ∃ u, us[i]? = some u ∧ IsU H u x
  | _, _, _, _, .nil, h => by cases h
  | _, _, 0, _, .cons r _, h => ⟨_, rfl, by cases h; exact r⟩
  | _, _, i + 1, _, .cons _ t, h => AllU.get (i := i) t h
theorem AllU.take {H : Hp} : ∀ {us : List U} {xs : List V} (k : Nat), AllU H us xs → AllU H (us.take k) (xs.take k)
  | _, _, 0, _ => by rw [List.take_zero, List.take_zero]; exact .nil
  | _, _, _ + 1, .nil => .nil
  | _, _, k + 1, .cons r t => .cons r (AllU.take k t)
theorem AllU.snoc {H : Hp} {u : U} {x : V} (r : IsU H u x) : ∀ {us : List U} {xs : List V}, AllU H us xs → AllU H (us ++ [u]) (xs ++ [x])
  | _, _, .nil => .cons r .nil
  | _, _, .cons q t => .cons q (AllU.snoc r t)
structure GoodU (u : U) : Prop where
  nm : nameB u.name = true
  v0 : -1000000000 ≤ u.value
  v1 : u.value ≤ 1000000000
  s0 : 1 ≤ u.size
  s1 : u.size ≤ 1000000
  pl : u.path.length ≤ 3
  pn : ∀ n ∈ u.path, nameB n = true
structure GoodL (us : List U) : Prop where
  l1 : 1 ≤ us.length
  l2 : us.length ≤ 24
  each : ∀ u ∈ us, GoodU u
  nd : (us.map U.name).Nodup
  pth : ∀ u ∈ us, ∀ v ∈ us, u.path.length = v.path.length
theorem nameB_codes {t : Str} (h : nameB t = true) : 1 ≤ t.cps.size ∧ t.cps.size ≤ 8 ∧ ∀ c ∈ t.cps.toList, 97 ≤ c ∧ c ≤ 122 := by
  unfold nameB madeB at h
  rw [Bool.and_eq_true, decide_eq_true_eq, List.all_eq_true] at h
  refine ⟨by omega, by omega, fun c hc => ?_⟩
  exact (letters_codes c).mp (of_decide_eq_true (h.2 c hc))
theorem nameB_of {t : Str} (h1 : 1 ≤ t.cps.size) (h2 : t.cps.size ≤ 8) (h3 : ∀ c ∈ t.cps.toList, 97 ≤ c ∧ c ≤ 122) : nameB t = true := by
  unfold nameB madeB
  rw [Bool.and_eq_true, decide_eq_true_eq, List.all_eq_true]
  exact ⟨by omega, fun c hc => decide_eq_true ((letters_codes c).mpr (h3 c hc))⟩
def pathS : List Str → Str
  | [] => "-"
  | p :: r => Txt.join "." (p :: r)
def lineW (u : U) : List Str := [u.name, toString u.value, toString u.size, pathS u.path]
def lineS (u : U) : Str := Txt.join " " (lineW u)
theorem dot_code : ("." : Str) = ⟨#[46]⟩ := by decide +kernel
theorem blank_code : (" " : Str) = ⟨#[32]⟩ := by decide +kernel
theorem dash_code : ("-" : Str) = ⟨#[45]⟩ := by decide +kernel
theorem join_codes (c : Nat) (ts : List Str) : (Txt.join ⟨#[c]⟩ ts).cps.toList = SplM.joinC c (ts.map fun t => t.cps.toList) := by
  show (Builtin.Str.glued ⟨#[c]⟩ ts).cps.toList = _
  rw [PySem.StrLaws.glued_eq_join]
  exact SplM.codes_join c ts
theorem mem_joinC (c x : Nat) : ∀ ps : List (List Nat), x ∈ SplM.joinC c ps → x = c ∨ ∃ p ∈ ps, x ∈ p
  | [], h => by cases h
  | [p], h => .inr ⟨p, List.mem_cons_self, h⟩
  | p :: q :: r, h => by
    rw [SplM.joinC] at h
    rcases List.mem_append.mp h with h | h
    · exact .inr ⟨p, List.mem_cons_self, h⟩
    · rcases List.mem_cons.mp h with h | h
      · exact .inl h
      · rcases mem_joinC c x (q :: r) h with h | ⟨s, hs, h⟩
        · exact .inl h
        · exact .inr ⟨s, List.mem_cons_of_mem _ hs, h⟩
theorem len_joinC (c n : Nat) : ∀ ps : List (List Nat), (∀ p ∈ ps, p.length ≤ n) → (SplM.joinC c ps).length ≤ ps.length * (n + 1)
  | [], _ => Nat.zero_le _
  | [p], h => by
    show p.length ≤ 1 * (n + 1)
    have := h p List.mem_cons_self
    omega
  | p :: q :: r, h => by
    rw [SplM.joinC, List.length_append, List.length_cons]
    have h1 := len_joinC c n (q :: r) fun x hx => h x (List.mem_cons_of_mem _ hx)
    have h2 := h p List.mem_cons_self
    rw [List.length_cons] at h1
    rw [List.length_cons, List.length_cons, Nat.add_mul]
    omega
theorem path_codes {ps : List Str} (h : ∀ n ∈ ps, nameB n = true) (hl : ps.length ≤ 3) : (pathS ps).cps.size ≤ 27 ∧ ∀ c ∈ (pathS ps).cps.toList, c = 45 ∨ c = 46 ∨ (97 ≤ c ∧ c ≤ 122) := by
  cases ps with
  | nil =>
    refine ⟨by decide +kernel, fun c hc => ?_⟩
    have e : (pathS []).cps.toList = [45] := by decide +kernel
    rw [e] at hc
    exact .inl (List.mem_singleton.mp hc)
  | cons p r =>
    have e : (pathS (p :: r)).cps.toList = SplM.joinC 46 ((p :: r).map fun t => t.cps.toList) := by
      show (Txt.join "." (p :: r)).cps.toList = _
      rw [dot_code, join_codes]
    constructor
    · have h1 := len_joinC 46 8 ((p :: r).map fun t => t.cps.toList) (fun q hq => by
        obtain ⟨t, ht, rfl⟩ := List.mem_map.mp hq
        have := (nameB_codes (h t ht)).2.1
        simpa using this)
      rw [← e, List.length_map] at h1
      simp only [Array.length_toList] at h1
      omega
    · intro c hc
      rw [e] at hc
      rcases mem_joinC 46 c _ hc with z | ⟨q, hq, z⟩
      · exact .inr (.inl z)
      · obtain ⟨t, ht, rfl⟩ := List.mem_map.mp hq
        exact .inr (.inr ((nameB_codes (h t ht)).2.2 c z))
theorem path_dash {ps : List Str} (h : ∀ n ∈ ps, nameB n = true) : pathS ps = "-" ↔ ps = [] := by
  constructor
  · intro e
    cases ps with
    | nil => rfl
    | cons p r =>
      exfalso
      have e1 : (pathS (p :: r)).cps.toList = SplM.joinC 46 ((p :: r).map fun t => t.cps.toList) := by
        show (Txt.join "." (p :: r)).cps.toList = _
        rw [dot_code, join_codes]
      rw [e, dash_code] at e1
      have hp := nameB_codes (h p List.mem_cons_self)
      cases hl : p.cps.toList with
      | nil =>
        have : p.cps.size = 0 := by rw [← Array.length_toList, hl]; rfl
        omega
      | cons c l =>
        have hc := hp.2.2 c (by rw [hl]; exact List.mem_cons_self)
        have e2 : ∃ m, SplM.joinC 46 ((p :: r).map fun t => t.cps.toList) = c :: m := by
          rw [List.map_cons, hl]
          cases r with
          | nil => exact ⟨_, rfl⟩
          | cons q r => exact ⟨_, rfl⟩
        obtain ⟨m, e2⟩ := e2
        rw [e2] at e1
        injection e1 with e3 _
        omega
  · intro e
    rw [e]; rfl
theorem path_split {p : Str} {r : List Str} (h : ∀ n ∈ p :: r, nameB n = true) : SplM.splitC 46 (pathS (p :: r)).cps.toList = (p :: r).map fun t => t.cps.toList := by
  have e1 : (pathS (p :: r)).cps.toList = SplM.joinC 46 ((p :: r).map fun t => t.cps.toList) := by
    show (Txt.join "." (p :: r)).cps.toList = _
    rw [dot_code, join_codes]
  rw [e1, SplM.split_join 46 _ (by simp)]
  intro q hq z
  obtain ⟨t, ht, rfl⟩ := List.mem_map.mp hq
  have := (nameB_codes (h t ht)).2.2 46 z
  omega
theorem strs_inj : ∀ {ts us : List Str}, ts.map (fun t => t.cps.toList) = us.map (fun t => t.cps.toList) → ts = us
  | [], [], _ => rfl
  | [], _ :: _, h => by cases h
  | _ :: _, [], h => by cases h
  | t :: ts, u :: us, h => by
    rw [List.map_cons, List.map_cons] at h
    injection h with h1 h2
    rw [ext_toList h1, strs_inj h2]
theorem lineW_codes {u : U} (g : GoodU u) : ∀ t ∈ lineW u, t.cps.size ≤ 27 ∧ ∀ c ∈ t.cps.toList, c = 45 ∨ c = 46 ∨ (48 ≤ c ∧ c ≤ 57) ∨ (97 ≤ c ∧ c ≤ 122) := by
  intro t ht
  have num : ∀ n : Int, n.natAbs < 10 ^ 13 → ((toString n : String) : Str).cps.size ≤ 27 ∧ ∀ c ∈ ((toString n : String) : Str).cps.toList, c = 45 ∨ c = 46 ∨ (48 ≤ c ∧ c ≤ 57) ∨ (97 ≤ c ∧ c ≤ 122) := fun n hn => by
    constructor
    · have h := codes_len (k := 12) (n := n) hn
      rw [← toStr_codes] at h
      simp only [Array.length_toList] at h
      omega
    · intro c hc
      rw [toStr_codes] at hc
      have := codes_ascii hc
      omega
  have h1 := g.v0
  have h2 := g.v1
  have h3 := g.s0
  have h4 := g.s1
  simp only [lineW, List.mem_cons, List.not_mem_nil, or_false] at ht
  rcases ht with rfl | rfl | rfl | rfl
  · have := nameB_codes g.nm
    exact ⟨by omega, fun c hc => .inr (.inr (.inr (this.2.2 c hc)))⟩
  · exact num _ (by omega)
  · exact num _ (by omega)
  · have := path_codes g.pn g.pl
    exact ⟨this.1, fun c hc => by have := this.2 c hc; omega⟩
theorem lineS_codes (u : U) : (lineS u).cps.toList = SplM.joinC 32 ((lineW u).map fun t => t.cps.toList) := by
  show (Txt.join " " (lineW u)).cps.toList = _
  rw [blank_code, join_codes]
theorem lineS_size {u : U} (g : GoodU u) : (lineS u).cps.size ≤ 112 ∧ ∀ c ∈ (lineS u).cps.toList, c < 128 := by
  constructor
  · have h1 := len_joinC 32 27 ((lineW u).map fun t => t.cps.toList) (fun q hq => by
      obtain ⟨t, ht, rfl⟩ := List.mem_map.mp hq
      have := (lineW_codes g t ht).1
      simpa using this)
    rw [← lineS_codes, List.length_map] at h1
    simp only [Array.length_toList] at h1
    have e : (lineW u).length = 4 := rfl
    rw [e] at h1
    omega
  · intro c hc
    rw [lineS_codes] at hc
    rcases mem_joinC 32 c _ hc with z | ⟨q, hq, z⟩
    · omega
    · obtain ⟨t, ht, rfl⟩ := List.mem_map.mp hq
      have := (lineW_codes g t ht).2 c z
      omega
theorem line_split {u : U} (g : GoodU u) {ws : List Str} (h : ws.map (fun t => t.cps.toList) = SplM.splitC 32 (lineS u).cps.toList) : ws = lineW u := by
  apply strs_inj
  rw [h, lineS_codes, SplM.split_join 32 _ (by simp [lineW])]
  intro q hq z
  obtain ⟨t, ht, rfl⟩ := List.mem_map.mp hq
  have := (lineW_codes g t ht).2 32 z
  omega
theorem num_codes {n : Int} (h : n.natAbs < 10 ^ 12) : NumM.numO (NumM.codesI n) = some n := by
  have hv : NumM.valS (NumM.codesI n) = n ∧ NumM.digB (NumM.bareL (NumM.codesI n)) = true := by
    have dig : ∀ m : Nat, m < 10 ^ 12 → NumM.digB ((Nat.toDigits 10 m).map Char.toNat) = true := fun m hm => by
      have h1 := dig_len 11 m hm
      have h2 := toDigits_len_ge 10 m
      unfold NumM.digB
      rw [decide_eq_true (by rw [List.length_map]; omega), Bool.true_and, List.all_eq_true]
      intro c hc
      have : c ∈ NumM.codesI (m : Int) := by rw [NumM.codes_nat]; exact hc
      have h3 := codes_ascii this
      obtain ⟨ch, hch, e⟩ := List.mem_map.mp hc
      have r := digit_range (Nat.isDigit_of_mem_toDigits (by decide) (by decide) hch)
      rw [← e]
      exact decide_eq_true r
    have head : ∀ m : Nat, ((Nat.toDigits 10 m).map Char.toNat).head? ≠ some 45 := fun m z => by
      have hm : 45 ∈ (Nat.toDigits 10 m).map Char.toNat := List.mem_of_mem_head? z
      obtain ⟨ch, hch, e⟩ := List.mem_map.mp hm
      have r := digit_range (Nat.isDigit_of_mem_toDigits (by decide) (by decide) hch)
      omega
    by_cases h0 : 0 ≤ n
    · obtain ⟨m, rfl⟩ := Int.eq_ofNat_of_zero_le h0
      rw [NumM.codes_nat]
      have eb : NumM.bareL ((Nat.toDigits 10 m).map Char.toNat) = (Nat.toDigits 10 m).map Char.toNat := by unfold NumM.bareL; rw [if_neg (head m)]
      refine ⟨?_, by rw [eb]; exact dig m (by simpa using h)⟩
      unfold NumM.valS
      rw [if_neg (head m), eb, PySem.W.KIN.val_back]
    · obtain ⟨m, rfl⟩ : ∃ m : Nat, n = -(m : Int) := ⟨n.natAbs, by omega⟩
      rw [NumM.codes_neg m (by omega)]
      have eb : NumM.bareL (45 :: (Nat.toDigits 10 m).map Char.toNat) = (Nat.toDigits 10 m).map Char.toNat := rfl
      refine ⟨?_, by rw [eb]; exact dig m (by simpa using h)⟩
      unfold NumM.valS
      rw [if_pos (show (45 :: (Nat.toDigits 10 m).map Char.toNat).head? = some 45 from rfl), eb, PySem.W.KIN.val_back]
  unfold NumM.numO
  rw [hv.2, (NumM.str_back hv.2).mp (by rw [hv.1]), hv.1]
  rfl
/-! deep data of units -/
def uD (u : U) : PyData := .tuple [.str u.name, .int u.value, .int u.size, .tuple (u.path.map PyData.str)]
theorem dvs_str {K : PySem.W.Frag} {H : Hp} : ∀ (l : List Str), DVs K H (l.map PyData.str) (l.map V.str)
  | [] => by simp [DVs]
  | c :: l => by
    rw [List.map_cons, List.map_cons, DVs]
    exact ⟨_, _, rfl, by simp [DV], dvs_str l⟩
theorem IsU.dv {K : PySem.W.Frag} {H : Hp} {u : U} {x : V} (h : IsU H u x) : DV K H (uD u) x := by
  obtain ⟨a, p, rfl, h2, h3⟩ := h
  rw [uD, DV]
  refine ⟨a, _, rfl, SqT.of h2, ?_⟩
  rw [uV, DVs]
  refine ⟨_, _, rfl, by simp [DV], ?_⟩
  rw [DVs]
  refine ⟨_, _, rfl, by simp [DV], ?_⟩
  rw [DVs]
  refine ⟨_, _, rfl, by simp [DV], ?_⟩
  rw [DVs]
  refine ⟨_, _, rfl, ?_, by simp [DVs]⟩
  rw [DV]
  exact ⟨p, _, rfl, SqT.of h3, dvs_str _⟩
theorem AllU.dvs {K : PySem.W.Frag} {H : Hp} : ∀ {us : List U} {xs : List V}, AllU H us xs → DVs K H (us.map uD) xs
  | _, _, .nil => by simp [DVs]
  | _, _, .cons r t => by
    rw [List.map_cons, DVs]
    exact ⟨_, _, rfl, r.dv, AllU.dvs t⟩
theorem lay_strs : ∀ (l : List Str), (∀ t ∈ l, ∀ c ∈ t.cps.toList, c < 128) → PyData.canLayAll0 (l.map PyData.str) = true ∧ PyData.depthAll (l.map PyData.str) ≤ 1
  | [], _ => by simp [PyData.canLayAll0, PyData.depthAll]
  | t :: l, h => by
    obtain ⟨h1, h2⟩ := lay_strs l fun n hn => h n (List.mem_cons_of_mem _ hn)
    have hc := h t List.mem_cons_self
    rw [List.map_cons, PyData.canLayAll0, PyData.depthAll]
    refine ⟨?_, ?_⟩
    · rw [h1, Bool.and_true, PyData.canLay0, PyData.strOk, ← Array.all_toList, List.all_eq_true]
      intro c hm
      have := hc c hm
      exact decide_eq_true (by omega)
    · simp only [PyData.depth]
      omega
theorem name_ascii {t : Str} (h : nameB t = true) : ∀ c ∈ t.cps.toList, c < 128 := fun c hc => by
  have := (nameB_codes h).2.2 c hc
  omega
/-! the rules with the written part told apart (within a comprehension) -/
section
variable {X : Cx} {K : PySem.W.Frag}
theorem ix_seqK (h : X.K = K) : IxR X (rIx K) := h ▸ ix_seq
end
end L2

set_option Elab.async false
set_option linter.all false
set_option maxRecDepth 100000
set_option maxHeartbeats 4000000
namespace L2
open PySem PySem.Spec PyProof.Rows

/-! ### an own exception's class, asked of an instance -/
structure XCls (K : PySem.W.Frag) (D : Addr) : Prop where
  ga : PySem.W.findIn K (.ref D) "__getattribute__" = some (some (.builtin "BaseException.__getattribute__"))
  gn : PySem.W.findIn K (.ref D) "__getattr__" = some none
  cl : PySem.W.findIn K (.ref D) "__class__" = some (some (.builtin "object.__class__"))
  mb : PySem.W.mroIn K D (.type "BaseException") = some true
  mo : PySem.W.mroIn K D (.type "object") = some true
  isc : (PySem.W.clsIn K D).isSome = true

section
variable {prog : Program} {w : World} {A : Around} {E : Value → Shared → Prop} {h : Heap} {g : Array GenState} {d : Drawn} {t : Nat} {os : OsState} {a D : Addr} {o : Obj} {K : PySem.W.Frag}
theorem xc_check {M : Model} {nameV : Value} {Q : Unit → Shared → Prop} (c : XCls K D) (X : K.In h) (hx : h.get? a = some o) (hc : o.cls = .ref D) (hq : Q () ⟨h, g, d, t, os⟩) :
    wpAny M A (checkBuiltinCall "BaseException.__getattribute__" ⟨[.ref a, nameV], []⟩) Q E ⟨h, g, d, t, os⟩ := by
  have hk : builtinKind "BaseException.__getattribute__" = some .slot := by decide +kernel
  have hsplit : splitId "BaseException.__getattribute__" = some ("BaseException", "__getattribute__") := by decide +kernel
  have ha := F.args_bexc_ga (.ref a) nameV
  simp only [checkBuiltinCall, hk, hsplit]
  refine wpAny_bind ?_
  unfold isInstance
  repeat (first | (with_reducible refine wpAny_loadPart_at hx ?_; rw [hc]) | with_reducible refine (PySem.W.looks_mroIn X c.mb).at ?_ | wp_step)
  exact hq
theorem xc_get {R : Result → Shared → Prop} (c : XCls K D) (X : K.In h) (hx : h.get? a = some o) (hc : o.cls = .ref D) (hq : R (.ok (.ret (.ref D))) ⟨h, g, d, t, os⟩) :
    codeAny (model prog w) A (.call (.builtin "getset_descriptor.__get__") ⟨[.builtin "object.__class__", .ref a, .ref D], []⟩) R ⟨h, g, d, t, os⟩ := by
  have hT5 : (⟨h, g, d, t, os⟩ : Shared).TypeIs (.builtin "object.__class__") "getset_descriptor" := F.typeOf_object_class
  have hO : PySem.W.Looks (model prog w) h (isSubtype (.ref D) (.type (".".intercalate ("object.__class__".cutAt '.').dropLast))) true := by
    rw [F.owner_object_class]; exact PySem.W.looks_mroIn X c.mo
  refine codeAny_call_builtin F.slot_gs_get.plain F.entry_gs_get (F.slot_gs_get.check _ _ _ _ _ _ _ _ hT5 (F.args_gs_get _ _ _) ?_)
  repeat (any_goals (first | assumption | (with_reducible refine wpAny_loadPart_at hx ?_; rw [hc]) | with_reducible refine hO.at ?_ | wp_step))
  refine ⟨Code.quiet_builtin _ (by decide +kernel), codeAny_builtin F.entry_object_class ?_⟩
  repeat (any_goals (first | assumption | (with_reducible refine wpAny_loadPart_at hx ?_; rw [hc]) | wp_step))
theorem xc_entry {tk : Tok} {Q : Fin → Shared → Prop} (c : XCls K D) (X : K.In h) (hx : h.get? a = some o) (hc : o.cls = .ref D) (hq : Q (.done (.ret (.ref D))) ⟨h, g, d, t, os⟩) :
    wpAny (model prog w) A (Builtin.«object.__getattribute__» ⟨[.ref a, .str "__class__" tk], []⟩) Q E ⟨h, g, d, t, os⟩ := by
  have hT5 : (⟨h, g, d, t, os⟩ : Shared).TypeIs (.builtin "object.__class__") "getset_descriptor" := F.typeOf_object_class
  have f5 := F.typeOf_object_class
  have f6 := F.slot_gs_get.lookup
  have f7 := F.slot_gs_set.lookup
  repeat (any_goals (first | assumption | (with_reducible refine wpAny_loadPart_at hx ?_; rw [hc]) | with_reducible refine (PySem.W.looks_findIn X c.cl).at ?_ | wp_step))
  refine xc_get c X hx hc ?_
  repeat (any_goals (first | assumption | wp_step))
theorem xc_by {tk : Tok} {fill expr : Bool} {Q : Value → Shared → Prop} (c : XCls K D) (X : K.In h) (hx : h.get? a = some o) (hc : o.cls = .ref D) (hq : Q (.ref D) ⟨h, g, d, t, os⟩) :
    wpAny (model prog w) A (getAttrBy (.ref a) (.str "__class__" tk) fill expr) Q E ⟨h, g, d, t, os⟩ := by
  have f3 := PySem.F.attrBase_ValueError.ga.bind (.ref a)
  have hx0 : (expr && onTheHeap (Value.builtin "BaseException.__getattribute__")) = false := by cases expr <;> rfl
  have hx2 : (Value.builtin "BaseException.__getattribute__" == Value.builtin "object.__getattribute__") = false := by decide +kernel
  have hx1 : (onTheHeap (Value.ref D) && Value.builtin "BaseException.__getattribute__" == Value.builtin "object.__getattribute__") = false := by rw [hx2]; rfl
  repeat (any_goals (first | assumption | (with_reducible refine wpAny_loadPart_at hx ?_; rw [hc]) | with_reducible refine (PySem.W.looks_findIn X c.ga).at ?_ | with_reducible refine (PySem.W.looks_findIn X c.gn).at ?_ | wp_step))
  refine codeAny_call_builtin PySem.F.attrBase_ValueError.ga.plain F.entry_bexc_ga (xc_check c X hx hc (xc_entry c X hx hc ?_))
  repeat (any_goals (first | assumption | wp_step))
theorem xc_attr {Q : Option Value → Shared → Prop} (c : XCls K D) (X : K.In h) (hx : h.get? a = some o) (hc : o.cls = .ref D) (hq : Q (some (.ref D)) ⟨h, g, d, t + 1, os⟩) :
    wpAny (model prog w) A (getAttr? (.ref a) "__class__") Q E ⟨h, g, d, t, os⟩ := by
  unfold getAttr? getAttrBy?
  repeat (any_goals (first | assumption | with_reducible apply xc_by c X hx hc | wp_step))
end
def XAt (a D : Addr) (h : Heap) : Prop := ∃ o, h.get? a = some o ∧ o.cls = .ref D
theorem kitx_exc {K : PySem.W.Frag} {a D : Addr} (c : XCls K D) : PySem.W.KitX K (.ref a) (.ref D) (XAt a D) where
  ty := fun M h _ p => by
    obtain ⟨o, h1, h2⟩ := p
    exact h2 ▸ (PySem.W.Looks.ld h1).andThen .now
  it := fun _ _ X _ => by
    obtain ⟨cdD, hcD⟩ := Option.isSome_iff_exists.mp c.isc
    unfold PySem.W.clsIn at hcD
    split at hcD
    · rename_i c' d' cd' sl' ho
      intro A' Q' E' s' k q
      unfold isType loadHead
      exact wpAny_bind (wpAny_loadPart (k _ _ (X _ _ ho)) (wpAny_pure q))
    · cases hcD
  ne := fun h tp dd its n sl X htp => by
    obtain ⟨cdD, hcD⟩ := Option.isSome_iff_exists.mp c.isc
    refine Bool.eq_false_iff.mpr fun q => ?_
    have e : D = tp := Value.ref.inj (beq_iff_eq.mp q)
    subst e
    unfold PySem.W.clsIn at hcD
    split at hcD
    · rename_i c' d' cd' sl' ho
      have z := (X _ _ ho).symm.trans htp
      cases z
    · cases hcD
  ca := fun {_ _ _ _ _ s} X p k => by
    obtain ⟨h, g, d, t, os⟩ := s
    obtain ⟨o, h1, h2⟩ := p
    exact xc_attr c X h1 h2 k
end L2

set_option Elab.async false
set_option linter.all false
set_option maxRecDepth 100000
set_option maxHeartbeats 4000000
namespace L2
open PySem PySem.Spec PyProof.Rows

/-! ### an own exception leaves -/
theorem un_more {fs : List Addr} {H0 H : Hp} {h0 h h2 : Heap} (u : Un fs [] H0 H h0 h) (k : ∀ b o, (∃ o', h0.get? b = some o') → b ∉ fs → h.get? b = some o → h2.get? b = some o)
    (sl : ∀ b o, b ∈ fs → h.get? b = some o → ∃ l, h2.get? b = some { o with slots := l }) : Un fs [] H0 H h0 h2 where
  keep := fun b o q n hf hx => k b o ⟨o, q⟩ hf (u.keep b o q n hf hx)
  slot := fun b o q n hf hx => by
    obtain ⟨l, e⟩ := u.slot b o q n hf hx
    obtain ⟨l', e'⟩ := sl b _ hf e
    exact ⟨l', e'⟩
  free := u.free
  there := fun b o q hx => by
    obtain ⟨o', e⟩ := u.there b o q hx
    by_cases hf : b ∈ fs
    · obtain ⟨l, e'⟩ := sl b o' hf e
      exact ⟨_, e'⟩
    · exact ⟨o', k b o' ⟨o, q⟩ hf e⟩
  tups := u.tups
  frzs := u.frzs
  tbls := u.tbls
theorem hok_more {P : Program} {w : World} {H : Hp} {h h2 : Heap} (x : HOk P w H h) (k : ∀ b o u, H b = some u → h.get? b = some o → h2.get? b = some o) : HOk P w H h2 := fun a o e =>
  (x a o e).stay (fun b u hb q => by
    rcases hb with z | z
    · rw [z] at q ⊢
      exact k a u o e q
    · exact k b u _ z q) (fun _ q => q) fun _ _ q => q
theorem ObjOk.isObj {P : Program} {w : World} {H : Hp} {h : Heap} {a : Addr} {o : HO} (x : ObjOk P w H h a o) : ∃ u, h.get? a = some u := by
  cases o with
  | lst xs => obtain ⟨_, _, _, _, e⟩ := x; exact ⟨_, e⟩
  | tup xs => obtain ⟨_, _, _, _, e, _⟩ := x; exact ⟨_, e⟩
  | dK kvs => obtain ⟨_, _, _, _, o, _, _, e, _⟩ := x; exact ⟨_, e⟩
  | dT kvs => obtain ⟨_, _, _, _, o, _, _, e, _⟩ := x; exact ⟨_, e⟩
  | set S n => obtain ⟨o, _, _, _, e, _⟩ := x; exact ⟨_, e⟩
  | ins C dx fs => obtain ⟨_, _, _, e, _⟩ := x; exact ⟨_, e⟩
  | own y => exact x
  | xd fs => obtain ⟨_, ⟨_, _, _, e, _⟩, _⟩ := x; exact ⟨_, e⟩
  | rng lo hi => obtain ⟨_, _, _, e⟩ := x; exact ⟨_, e⟩
  | frz ob u => exact ⟨_, x.1⟩
  | tbl ps => exact ⟨_, x⟩
  | met f y => exact ⟨_, x⟩
  | ext φ => exact x.2.1

/-- the exception at x, of the class at D, flies: B holds all of before (but the callers' frames) and all that is tracked -/
structure XF (P : Program) (w : World) (outer : List Env) (H : Hp) (s : Shared) (x D : Addr) (a0 : Value) (B : Heap) (H' : Hp) (s' : Shared) : Prop where
  os : s'.os = s.os
  bare : AllBare s'.gens
  un : Un (frs outer) [] H H' s.heap s'.heap
  hok : HOk P w H' s'.heap
  fly : Heap.FlyingW B outer x (.ref D) a0 s'.heap
  cov : ∀ b o, s'.heap.get? b = some o → ((∃ o', s.heap.get? b = some o') ∨ (∃ u, H' b = some u)) → b ∉ frs outer → B.get? b = some o
section
variable {P : Program} {w : World} {outer : List Env} {H H' : Hp} {s s' : Shared} {x D : Addr} {a0 : Value} {B : Heap}
theorem fly_out {h : Heap} (f : Heap.FlyingW B outer x (.ref D) a0 h) : x ∉ frs outer := fun hm => by
  obtain ⟨_, _, f3, oe, vs, T, oT, ts, he, _, hd, _⟩ := f
  obtain ⟨_, o, ho, hn⟩ := f3.mem hm
  rw [he] at ho
  cases ho
  exact hn vs hd
theorem XF.new (F : XF P w outer H s x D a0 B H' s') : ∀ o, s.heap.get? x ≠ some o := fun o e => by
  obtain ⟨o', e'⟩ := F.un.there x o e (by simp)
  have := F.cov x o' e' (.inl ⟨o, e⟩) (fly_out F.fly)
  rw [F.fly.2.1] at this
  cases this
theorem XF.free (F : XF P w outer H s x D a0 B H' s') : H' x = none := by
  cases q : H' x with
  | none => rfl
  | some u =>
    obtain ⟨o, e⟩ := (F.hok x u q).isObj
    have := F.cov x o e (.inr ⟨u, q⟩) (fly_out F.fly)
    rw [F.fly.2.1] at this
    cases this
end
section
variable {X : Cx} {pins : List (Addr × Obj)} {σ : St} {H H' : Hp} {s s' : Shared} {x D : Addr} {a0 : Value} {B h2 : Heap}
theorem old_out (J : Inv X pins σ H' s') {b : Addr} (h : ∃ o', X.s₀.heap.get? b = some o') (hn : b ∉ frs X.outer) : b ∉ frs X.stack := fun hb => by
  obtain ⟨o', e⟩ := h
  rcases List.mem_cons.mp (J.stkSub b hb) with z | z
  · have h1 := Heap.lt_size e
    have h2 := J.ok.above
    rw [z] at h1
    exact absurd (Nat.lt_of_lt_of_le h1 h2) (Nat.lt_irrefl _)
  · exact hn z
theorem trk_out (J : Inv X pins σ H' s') {b : Addr} {u : HO} (e : H' b = some u) : b ∉ frs X.stack := fun hb => by
  rw [J.stkFree b hb] at e
  cases e
end
section
variable {P : Program} {w : World} {K : PySem.W.Frag} {mg : Str → Option Value} {base : Heap} {N : List Str} {qual : Str} {scope : Scope} {f : Addr} {cdv : Value} {A : Around} {outer : List Env} {s0 : Shared} {H0 : Hp} {E : XK}
end
section
variable {P : Program} {w : World} {K : PySem.W.Frag} {mg : Str → Option Value} {base : Heap}
end
end L2

set_option Elab.async false
set_option linter.all false
set_option maxRecDepth 100000
set_option maxHeartbeats 4000000
namespace L2
open PySem PySem.Spec PyProof.Rows

/-! ### an own exception is caught -/
/-- what a class must have to be named behind except -/
structure XHd (K : PySem.W.Frag) (C : Addr) : Prop where
  isc : (PySem.W.clsIn K C).isSome = true
  ty : PySem.W.typeIn K (.ref C) = some (.type "type")
  mb : PySem.W.mroIn K C (.type "BaseException") = some true
theorem x_isType {K : PySem.W.Frag} {M : Model} {h : Heap} {C : Addr} (X : K.In h) (e : (PySem.W.clsIn K C).isSome = true) : PySem.W.Looks M h (isType (.ref C)) true := by
  obtain ⟨cdD, hcD⟩ := Option.isSome_iff_exists.mp e
  unfold PySem.W.clsIn at hcD
  split at hcD
  · rename_i c' d' cd' sl' ho
    intro A' Q' E' s' k q
    unfold isType loadHead
    exact wpAny_bind (wpAny_loadPart (k _ _ (X _ _ ho)) (wpAny_pure q))
  · cases hcD
theorem x_matches {K : PySem.W.Frag} {M : Model} {h : Heap} {C D x : Addr} {ob : Obj} (X : K.In h) (c : XHd K C) (hx : h.get? x = some ob) (hc : ob.cls = .ref D) (hm : PySem.W.mroIn K D (.ref C) = some true) :
    PySem.W.Looks M h (excMatches (.ref x) (.ref C)) true := by
  have L1 : PySem.W.Looks M h (typeOf (.ref C)) (.type "type") := PySem.W.looks_typeIn X c.ty
  have L2' : PySem.W.Looks M h (isSubtype (.type "type") (.type "tuple")) false := PySem.W.Looks.of_pure tc_notTuple
  have L3 : PySem.W.Looks M h (isInstance (.ref C) (.type "tuple")) false := L1.andThen L2'
  have L4 : PySem.W.Looks M h (isExcClass (.ref C)) true := by
    unfold isExcClass
    exact (x_isType X c.isc).andThen (PySem.W.looks_mroIn X c.mb)
  have L5 : PySem.W.Looks M h (typeOf (.ref x)) (.ref D) := hc ▸ (PySem.W.Looks.ld hx).andThen .now
  have L6 : PySem.W.Looks M h (isSubtype (.ref D) (.ref C)) true := PySem.W.looks_mroIn X hm
  intro A Q E s k q
  unfold excMatches
  refine wpAny_bind (L3 A _ E s k ?_)
  rw [if_neg Bool.false_ne_true]
  refine wpAny_bind (wpAny_pure ?_)
  simp only [List.forIn_cons, List.forIn_nil, bind_assoc, pure_bind]
  refine wpAny_bind (L4 A _ E s k ?_)
  simp only [Bool.not_true, Bool.false_eq_true, if_false, pure_bind]
  refine wpAny_bind (L5 A _ E s k ?_)
  refine wpAny_bind (L6 A _ E s k ?_)
  simp only [if_true, pure_bind]
  exact wpAny_pure q

/-- within the except suite that holds the exception at x -/
def Cx.inX (X : Cx) (x : Addr) : Cx := { X with A := X.A.mark (some (.ref x)), calm := false, xe := fun _ _ => False }
section
variable {X : Cx} {pins : List (Addr × Obj)} {σ : St} {H H' H1 : Hp} {s s' s1 : Shared} {x D C : Addr} {a0 : Value} {B h2 : Heap}
theorem Inv.inX (I : Inv X pins σ H s) (x : Addr) : Inv (X.inX x) pins σ H s :=
  ⟨⟨I.ok.mod, I.ok.kind, I.ok.glob, I.ok.blt, I.ok.above, I.ok.inj, I.ok.has, I.ok.cab, fun z => absurd (show false = true from z) Bool.false_ne_true, I.ok.frames, I.ok.stk, I.ok.exf, I.ok.bs, I.ok.bsz, I.ok.noex, I.ok.exfs, I.ok.funs, I.ok.frf⟩,
    I.os, I.bare, I.base, I.loc, I.cell, I.free, I.freeC, I.pin, I.hok, I.len⟩
theorem Inv.outX (hk : X.calm = true → X.A.handled = none) (I : Inv (X.inX x) pins σ H s) : Inv X pins σ H s :=
  ⟨⟨I.ok.mod, I.ok.kind, I.ok.glob, I.ok.blt, I.ok.above, I.ok.inj, I.ok.has, I.ok.cab, hk, I.ok.frames, I.ok.stk, I.ok.exf, I.ok.bs, I.ok.bsz, I.ok.noex, I.ok.exfs, I.ok.funs, I.ok.frf⟩,
    I.os, I.bare, I.base, I.loc, I.cell, I.free, I.freeC, I.pin, I.hok, I.len⟩
/-- a local name is taken away -/
theorem Inv.gone {i : Nat} {n : Str} {m : Str → Option Value} {v : Option Value} {h' : Heap} {t' : Nat} (I : Inv X pins σ H s) (hN : X.N.Nodup) (hi : X.N[i]? = some n) (hl : X.env.kindOf n = some .local)
    (hm : ∀ (j : Nat) (y : Str) (w : V), X.N[j]? = some y → σ[j]? = some (some w) → Vis X.env.scope y → ∃ u, RelV w u ∧ Look X.env s.heap m y u)
    (hn : h'.Ns X.env.locals (fun y => if y = n then v else m y)) (sb : Heap.SameBut X.env.locals s.heap h') : Inv X pins (σ.set i none) H { s with heap := h', toks := t' } := by
  have lt : i < σ.length := by rw [I.len]; exact (List.getElem?_eq_some_iff.mp hi).1
  have ne0 : ∀ b o, X.s₀.heap.get? b = some o → b ≠ X.env.locals := fun b o e => Nat.ne_of_lt (Nat.lt_of_lt_of_le (Heap.lt_size e) I.ok.above)
  have u := I.base
  refine ⟨I.ok, I.os, I.bare, ⟨fun b o e n hf hx => (sb.2 b (ne0 b o e)).trans (u.keep b o e n hf hx), fun b o e n hf hx => ?_, u.free, fun b o e hx => ?_, u.tups, u.frzs, u.tbls⟩, ⟨_, hn, fun j y w e1 e2 e3 => ?_⟩, fun x c e => ?_, I.free, I.freeC, fun p hp => ?_, ?_, by rw [List.length_set]; exact I.len⟩
  · obtain ⟨sl, e'⟩ := u.slot b o e n hf hx
    exact ⟨sl, (sb.2 b (ne0 b o e)).trans e'⟩
  · obtain ⟨o', e'⟩ := u.there b o e hx
    exact ⟨o', (sb.2 b (ne0 b o e)).trans e'⟩
  · have hij : i ≠ j := fun z => by
      subst z
      rw [List.getElem?_set_self lt] at e2
      cases e2
    rw [List.getElem?_set_ne hij] at e2
    have hy : y ≠ n := fun z => by
      subst z
      exact hij ((List.getElem?_inj (List.getElem?_eq_some_iff.mp hi).1 hN).mp (hi.trans e1.symm))
    obtain ⟨u', r, l⟩ := hm j y w e1 e2 e3
    refine ⟨u', r, ?_⟩
    rcases l with ⟨z1, z2⟩ | ⟨z1, c, z2, z3⟩
    · exact .inl ⟨z1, by simp only [if_neg hy]; exact z2⟩
    · exact .inr ⟨z1, c, z2, z3.sameBut sb (I.cne y c z2)⟩
  · obtain ⟨v', z⟩ := I.cell x c e
    exact ⟨v', z.sameBut sb (I.cne x c e)⟩
  · obtain ⟨p1, p2, p3, p4, p5⟩ := I.pin p hp
    exact ⟨(sb.2 _ p3).trans p1, p2, p3, p4, p5⟩
  · exact hok_more I.hok fun b o u' e q => (sb.2 b fun z => by rw [z, I.free] at e; cases e).trans q
end
end L2

set_option Elab.async false
set_option linter.all false
set_option maxRecDepth 100000
set_option maxHeartbeats 4000000
namespace L2
open PySem PySem.Spec PyProof.Rows

section
variable {X : Cx} {pins : List (Addr × Obj)} {σ : St} {H H' H1 : Hp} {s s' s1 : Shared} {x D C : Addr} {a0 : Value} {B h2 : Heap} {cn en : Str} {ie : Nat} {b₀ : Stmt} {suite : List Stmt} {cp hp : Pos} {ts : TS} {DE : Ends}
/-- what is wanted behind the suite: the name of the exception is gone -/
def Ends.asG (DE : Ends) (ie : Nat) : Ends := { nx := fun σ' H' => DE.nx (σ'.set ie none) H', rt := fun _ _ => False }
end
section
variable {X : Cx} {k ie : Nat} {f C : Addr} {fd : FuncData} {ps : List Str} {sp : Sp} {dvs : List V} {ds : List Value} {fx cn en : Str} {p pos p2 cp hp tp : Pos} {e : Expr} {es : List Expr} {t : TA} {b₀ : Stmt} {suite : List Stmt} {ts : TS}
end

/-! ### isinstance of such a one -/
def TyX (K : PySem.W.Frag) (H : Hp) (x : V) (t : Value) : Prop := TyOf K H x t ∨ ∃ a D φ, x = .ref a ∧ t = .ref D ∧ XCls K D ∧ H a = some (.ext φ) ∧ ∀ h, φ h → XAt a D h
section
variable {X : Cx}
open PySem.W in
theorem kit_ofX {pins : List (Addr × Obj)} {σ : St} {H : Hp} {s : Shared} {x : V} {u t : Value} (I : Inv X pins σ H s) (rx : RelV x u) (ty : TyX X.K H x t) :
    ∃ Hh : Heap → Prop, KitX X.K u t Hh ∧ Hh s.heap ∧ u ≠ .builtin "__main__.__loader__#opaque" := by
  rcases ty with ty | ⟨a, D, φ, rfl, rfl, c, e, hφ⟩
  · exact kit_of I rx ty
  · cases (show u = Value.ref a from rx)
    exact ⟨_, kitx_exc c, hφ _ (I.hok a _ e).1, fun z => nomatch z⟩
def rIsX (K : PySem.W.Frag) : List V → Hp → VK → Prop := fun xs H Q => ∃ x c t b, xs = [x, c] ∧ isCls c = true ∧ TyX K H x t ∧ PySem.W.kitOne K t (cVal c) = some b ∧ Q (.bl b) H
theorem call_isx : CallR X (.builtin "isinstance") (rIsX X.K) := by
  intro pins s σ H xs us Q I r h
  obtain ⟨x, c, t, b, rfl, hc, ty, e, q⟩ := h
  obtain ⟨u, w', rfl, rx, rc⟩ := vals2 r
  cases cVal_of hc rc
  obtain ⟨Hh, Z, p, hx⟩ := kit_ofX I rx ty
  exact PySem.W.kia_one Z I.kIn p e hx fun tk => ⟨.bl b, H, I.tok tk, rfl, q⟩
/-- isinstance(x, (C, ..)) -/
def rIsXT (K : PySem.W.Frag) : List V → Hp → VK → Prop := fun xs H Q => ∃ x p cs t b, xs = [x, .ref p] ∧ H p = some (.tup cs) ∧ (cs.all isCls) = true ∧ TyX K H x t ∧ PySem.W.kitAny K t (cs.map cVal) = some b ∧ Q (.bl b) H
theorem cVals_of : ∀ {cs : List V} {us : List Value}, (cs.all isCls) = true → Vals cs us → us = cs.map cVal
  | [], _, _, .nil => rfl
  | c :: cs, _, h, .cons r t => by
    rw [List.all_cons, Bool.and_eq_true] at h
    rw [List.map_cons, cVal_of h.1 r, cVals_of h.2 t]
theorem call_isxT : CallR X (.builtin "isinstance") (rIsXT X.K) := by
  intro pins s σ H xs us Q I r h
  obtain ⟨x, p, cs, t, b, rfl, hp, hc, ty, e, q⟩ := h
  obtain ⟨u, w', rfl, rx, rc⟩ := vals2 r
  cases (show w' = Value.ref p from rc)
  obtain ⟨_, its, rv, o, ho, hoc, n, hod⟩ := (show ObjOk X.prog X.w H s.heap p (.tup cs) from I.hok p _ hp)
  obtain ⟨oc, dd, dt, sl⟩ := o
  obtain rfl : oc = .type "tuple" := hoc
  obtain rfl : dt = _ := hod
  rw [cVals_of hc rv] at ho
  obtain ⟨Hh, Z, z, hx⟩ := kit_ofX I rx ty
  exact PySem.W.kia_tup Z I.kIn z ho e hx fun tk => ⟨.bl b, H, I.tok tk, rfl, q⟩
end
end L2

set_option Elab.async false
set_option linter.all false
set_option maxRecDepth 100000
set_option maxHeartbeats 4000000
namespace L2
open PySem PySem.Spec PyProof.Rows
section
variable {prog : Program} {w : World} {A : Around} {E : Value → Shared → Prop} {h : Heap} {g : Array GenState} {d : Drawn} {t : Nat} {os : OsState} {a D dx : Addr} {o : Obj} {vs : Array Value} {cd : ClassData} {K : PySem.W.Frag} {name : Str} {mA : Str → Option Value} {v : Value}
theorem xa_entry {tk : Tok} {Q : Fin → Shared → Prop} (X : K.In h) (na : PySem.W.findIn K (.ref D) name = some none) (hk : PySem.W.clsIn K D = some cd) (hkd : cd.hasDict = true) (hx : h.get? a = some o) (hc : o.cls = .ref D) (hdt : o.data = .fields vs) (hd : o.dict = some dx)
    (hn : h.Ns dx mA) (hv : mA name = some v) (hq : Q (.done (.ret v)) ⟨h, g, d, t, os⟩) : wpAny (model prog w) A (Builtin.«object.__getattribute__» ⟨[.ref a, .str name tk], []⟩) Q E ⟨h, g, d, t, os⟩ := by
  unfold Builtin.«object.__getattribute__»
  repeat (any_goals (first | assumption | (with_reducible refine wpAny_loadPart_at hx ?_; rw [hc]) | with_reducible refine (PySem.W.looks_findIn X na).at ?_ | wp_step))
  rw [hdt]
  show wpAny _ _ (instanceDict a false) _ _ _
  unfold instanceDict
  refine wpAny_bind (wpAny_loadPart_at hx ?_)
  rw [hc]
  refine wpAny_bind ((PySem.W.looks_clsIn X hk).at ?_)
  rw [hkd, hd]
  simp only [Bool.not_true, Bool.false_eq_true, if_false]
  refine wpAny_pure ?_
  unfold Builtin.ObjectAttr.inDict
  refine wpAny_nsGet hn ?_
  rw [hv]
  refine wpAny_bind (wpAny_rule (wpAny_pure ?_))
  exact wpAny_pure hq
theorem xa_by {tk : Tok} {fill expr : Bool} {Q : Value → Shared → Prop} (c : XCls K D) (X : K.In h) (na : PySem.W.findIn K (.ref D) name = some none) (hk : PySem.W.clsIn K D = some cd) (hkd : cd.hasDict = true) (hx : h.get? a = some o) (hc : o.cls = .ref D)
    (hdt : o.data = .fields vs) (hd : o.dict = some dx) (hn : h.Ns dx mA) (hv : mA name = some v) (hb : ∀ id, v ≠ .builtin id) (hq : Q v ⟨h, g, d, t, os⟩) :
    wpAny (model prog w) A (getAttrBy (.ref a) (.str name tk) fill expr) Q E ⟨h, g, d, t, os⟩ := by
  have f3 := PySem.F.attrBase_ValueError.ga.bind (.ref a)
  have hx0 : (expr && onTheHeap (Value.builtin "BaseException.__getattribute__")) = false := by cases expr <;> rfl
  have hx2 : (Value.builtin "BaseException.__getattribute__" == Value.builtin "object.__getattribute__") = false := by decide +kernel
  have hx1 : (onTheHeap (Value.ref D) && Value.builtin "BaseException.__getattribute__" == Value.builtin "object.__getattribute__") = false := by rw [hx2]; rfl
  repeat (any_goals (first | assumption | (with_reducible refine wpAny_loadPart_at hx ?_; rw [hc]) | with_reducible refine (PySem.W.looks_findIn X c.ga).at ?_ | with_reducible refine (PySem.W.looks_findIn X c.gn).at ?_ | wp_step))
  refine codeAny_call_builtin PySem.F.attrBase_ValueError.ga.plain F.entry_bexc_ga (xc_check c X hx hc (xa_entry X na hk hkd hx hc hdt hd hn hv ?_))
  repeat (any_goals (first | assumption | wp_step))
  cases v with
  | builtin id => exact absurd rfl (hb id)
  | _ => exact wpAny_pure hq
theorem xa_attr {expr : Bool} {Q : Value → Shared → Prop} (c : XCls K D) (X : K.In h) (na : PySem.W.findIn K (.ref D) name = some none) (hk : PySem.W.clsIn K D = some cd) (hkd : cd.hasDict = true) (hx : h.get? a = some o) (hc : o.cls = .ref D)
    (hdt : o.data = .fields vs) (hd : o.dict = some dx) (hn : h.Ns dx mA) (hv : mA name = some v) (hb : ∀ id, v ≠ .builtin id) (hq : Q v ⟨h, g, d, t + 1, os⟩) :
    wpAny (model prog w) A (getAttr (.ref a) name expr) Q E ⟨h, g, d, t, os⟩ := by
  unfold getAttr
  repeat (any_goals (first | assumption | with_reducible apply xa_by c X na hk hkd hx hc hdt hd hn hv hb | wp_step))

/-! setting -/
abbrev bmV : List Value := [.type "ValueError", .type "Exception", .type "BaseException", .type "object"]
def isRf : Value → Bool
  | .ref _ => true
  | _ => false
def vTail (l : List Value) : Bool := l.dropWhile isRf == bmV
theorem refuse_v (self : Value) : ∀ {l : List Value}, vTail l = true → refuseLoop self "__setattr__" l = pure ()
  | [], e => by cases e
  | x :: r, e => by
    by_cases hx : isRf x = true
    · have e' : vTail r = true := by
        unfold vTail at e ⊢
        rw [List.dropWhile_cons_of_pos hx] at e
        exact e
      cases x <;> first | exact absurd hx Bool.false_ne_true | (rw [refuseLoop_ref]; exact refuse_v self e')
    · unfold vTail at e
      rw [List.dropWhile_cons_of_neg hx] at e
      rw [beq_iff_eq.mp e]
      exact PySem.F.store_ValueError.passes self
/-- what a class must have that its instances take the attribute name -/
structure XSet (K : PySem.W.Frag) (D : Addr) (name : Str) (cd : ClassData) : Prop where
  k : PySem.W.clsIn K D = some cd
  dct : cd.hasDict = true
  mro : vTail cd.mro = true
  mo : PySem.W.mroIn K D (.type "object") = some true
  sa : PySem.W.findIn K (.ref D) "__setattr__" = some (some (.builtin "object.__setattr__"))
  na : PySem.W.findIn K (.ref D) name = some none
theorem xs_open {tk : Tok} {Q : Fin → Shared → Prop} (c : XSet K D name cd) (X : K.In h) (hx : h.get? a = some o) (hc : o.cls = .ref D)
    (hq : wpAny (model prog w) A (instanceDict a true) (fun r s' => wpAny (model prog w) A (match r with | some d' => Builtin.ObjectAttr.storeInDict d' (.str name tk) name v | none => Builtin.ObjectAttr.noDictFor (.ref a) (.ref D) name false) Q E s') E ⟨h, g, d, t, os⟩) :
    wpAny (model prog w) A (Builtin.«object.__setattr__» ⟨[.ref a, .str name tk, v], []⟩) Q E ⟨h, g, d, t, os⟩ := by
  have LT : PySem.W.Looks (model prog w) h (typeOf (.ref a)) (.ref D) := hc ▸ (PySem.W.Looks.ld hx).andThen .now
  have LM : PySem.W.Looks (model prog w) h (mroOf (.ref D)) cd.mro := (PySem.W.looks_clsIn X c.k).andThen .now
  rw [PySem.W.osa_eq, refuse_eq]
  refine wpAny_bind (wpAny_bind (LT.at (wpAny_bind (LM.at ?_))))
  rw [refuse_v _ c.mro]
  refine wpAny_pure (wpAny_bind (LT.at (wpAny_bind ((PySem.W.looks_findIn X c.na).at ?_))))
  refine wpAny_bind (wpAny_pure ?_)
  show wpAny _ _ (Builtin.ObjectAttr.storeInOwnDict (.ref a) (.ref D) (.str name tk) name v false) _ _ _
  unfold Builtin.ObjectAttr.storeInOwnDict
  refine wpAny_bind (wpAny_pure ?_)
  rw [if_neg (show ¬ ((Value.ref D == Value.type "module") = true) from fun z => by cases eq_of_beq z)]
  exact wpAny_bind hq
theorem xs_store {tk : Tok} {Q : Fin → Shared → Prop} {dd : Addr} {ns : List Str} (hn : h.Ns1 dd mA) (hw : PySem.Within mA ns) (hz : ns.length ≤ 1000)
    (hq : ∀ h', h'.Ns1 dd (fun y => if y = name then some v else mA y) → Heap.SameBut dd h h' → Q (.done (.ret .none)) ⟨h', g, d, t + 1, os⟩) :
    wpAny (model prog w) A (Builtin.ObjectAttr.storeInDict dd (.str name tk) name v) Q E ⟨h, g, d, t, os⟩ := by
  unfold Builtin.ObjectAttr.storeInDict Builtin.ObjectAttr.newKeyGuard
  refine wpAny_bind (wpAny_pure (wpAny_bind (wpAny_nsSet1 hn fun h1 n1 s1 => ?_)))
  obtain ⟨o1, es1, ep1, g1, d1, c1⟩ := n1.count (PySem.Within.cons name v hw)
  have z1 : es1.size ≤ sizeLine := Nat.le_trans c1 (by rw [List.length_cons, sizeLine_eq]; omega)
  refine wpAny_bind (wpAny_lookBehind g1 (by rw [d1]; exact pastItsLine_dict (Nat.le_succ_of_le z1)) ?_)
  exact wpAny_pure (hq h1 n1 s1)
/-- the first attribute: the dict is made -/
theorem xs_first {tk : Tok} {Q : Fin → Shared → Prop} (c : XSet K D name cd) (X : K.In h) (hx : h.get? a = some o) (hc : o.cls = .ref D) (hdt : o.data = .fields vs) (hd : o.dict = none)
    (hq : ∀ h', h'.Ns1 h.objs.size (fun y => if y = name then some v else none) → h'.get? a = some { o with dict := some h.objs.size } → (∀ b u, b ≠ a → h.get? b = some u → h'.get? b = some u) → Q (.done (.ret .none)) ⟨h', g, d, t + 1, os⟩) :
    wpAny (model prog w) A (Builtin.«object.__setattr__» ⟨[.ref a, .str name tk, v], []⟩) Q E ⟨h, g, d, t, os⟩ := by
  refine xs_open c X hx hc ?_
  have hx1 : (h.push { cls := .type "dict", data := .dict #[] }).get? a = some o := Heap.get?_push_of_some _ hx
  have hne : a ≠ h.objs.size := Nat.ne_of_lt (Heap.lt_size hx)
  unfold instanceDict
  refine wpAny_bind (wpAny_loadPart_at hx ?_)
  rw [hc]
  refine wpAny_bind ((PySem.W.looks_clsIn X c.k).at ?_)
  rw [c.dct, hd, hdt]
  simp only [Bool.not_true, Bool.false_eq_true, if_false]
  rw [if_neg (by simp [typeHasDict])]
  refine wpAny_bind (wpAny_alloc' (wpAny_bind (wpAny_update' hx1 (wpAny_pure ?_))))
  have e1 : ((h.push { cls := .type "dict", data := .dict #[] }).update a fun u => { u with dict := some h.objs.size }).get? h.objs.size = some { cls := .type "dict", data := .dict #[] } :=
    (Heap.get?_update_ne _ _ _ _ hne.symm).trans (Heap.get?_push_at rfl rfl)
  refine xs_store (Heap.Ns1.of_empty ⟨_, #[], _, e1, rfl, fun u hu => absurd hu (by simp), fun _ => rfl⟩) PySem.Within.nil (by simp) fun h2 n2 s2 => hq h2 n2 ?_ fun b u hb e => ?_
  · refine (s2.2 a hne).trans (Heap.get?_update_self _ hx1 ?_)
    rw [Obj.isFreed_of_fields (vs := vs)]
    exact hdt
  · exact (s2.2 b (Nat.ne_of_lt (Heap.lt_size e))).trans ((Heap.get?_update_ne _ _ _ _ hb).trans (Heap.get?_push_of_some _ e))
/-- a further one -/
theorem xs_next {tk : Tok} {Q : Fin → Shared → Prop} {ns : List Str} (c : XSet K D name cd) (X : K.In h) (hx : h.get? a = some o) (hc : o.cls = .ref D) (hd : o.dict = some dx) (hn : h.Ns1 dx mA) (hw : PySem.Within mA ns) (hz : ns.length ≤ 1000)
    (hq : ∀ h', h'.Ns1 dx (fun y => if y = name then some v else mA y) → Heap.SameBut dx h h' → Q (.done (.ret .none)) ⟨h', g, d, t + 1, os⟩) :
    wpAny (model prog w) A (Builtin.«object.__setattr__» ⟨[.ref a, .str name tk, v], []⟩) Q E ⟨h, g, d, t, os⟩ := by
  refine xs_open c X hx hc ?_
  unfold instanceDict
  refine wpAny_bind (wpAny_loadPart_at hx ?_)
  rw [hc]
  refine wpAny_bind ((PySem.W.looks_clsIn X c.k).at ?_)
  rw [c.dct, hd]
  simp only [Bool.not_true, Bool.false_eq_true, if_false]
  exact wpAny_pure (xs_store hn hw hz hq)
theorem xs_attr {Q : Unit → Shared → Prop} (c : XSet K D name cd) (X : K.In h) (hx : h.get? a = some o) (hc : o.cls = .ref D)
    (hq : ∀ (B : Around) (tk : Tok) (Q' : Fin → Shared → Prop) (E' : Value → Shared → Prop), (∀ s', Q () s' → Q' (.done (.ret .none)) s') → wpAny (model prog w) B (Builtin.«object.__setattr__» ⟨[.ref a, .str name tk, v], []⟩) Q' E' ⟨h, g, d, t + 1, os⟩) :
    wpAny (model prog w) A (setAttr (.ref a) name v) Q E ⟨h, g, d, t, os⟩ := by
  have f3 := PySem.F.store_ValueError.slot.bind (.ref a)
  have SF := PySem.F.store_ValueError
  have LT : PySem.W.Looks (model prog w) h (typeOf (.ref a)) (.ref D) := hc ▸ (PySem.W.Looks.ld hx).andThen .now
  have LO : PySem.W.Looks (model prog w) h (isInstance (.ref a) (.type "object")) true := LT.andThen (PySem.W.looks_mroIn X c.mo)
  unfold setAttr callSpecial? specialOf
  repeat (any_goals (first | assumption | (with_reducible refine wpAny_loadPart_at hx ?_; rw [hc]) | with_reducible refine (PySem.W.looks_findIn X c.sa).at ?_ | wp_step))
  refine codeAny_call_builtin SF.slot.plain SF.entry (@PySem.W.check_slot (model prog w) _ _ ⟨h, g, d, t + 1, os⟩ "object.__setattr__" "object" "__setattr__" (.ref a) [.str name t, v] [] _ SF.kind SF.split LO (SF.args (.ref a) (.str name t) v) ?_)
  exact hq _ t _ _ fun s' q => wpAny_pure (wpAny_pure q)
end

/-! making one whose class has its own __init__ -/
section
variable {prog : Program} {w : World} {A : Around} {E : Value → Shared → Prop} {h : Heap} {g : Array GenState} {d : Drawn} {t : Nat} {os : OsState}
variable {nm q : Str} {C N fI : Addr} {bs bm bmB : List Value} {hdct : Bool} {sn : List Str} {sub : List Value} {ab : Bool} {col : Option Bool} {dd : Option Addr} {k0 k1 k2 k3 k5 : Option Value} {B newId initId : String} {mN : Str → Option Value} {rest : List Value} {oI : Obj}
abbrev bareX (h : Heap) (C : Addr) (rest : List Value) : Heap := (h.push { cls := .type "tuple", data := .seq rest.toArray }).push { cls := .ref C, data := .fields #[.ref h.objs.size, .none, .none, .none, .bool false, .none] }
theorem xm_type {Q : Fin → Shared → Prop} (F : ExcBaseFacts B newId initId bmB) (T : OwnTail h bmB bm) (hC : h.get? C = some (excClassObj nm q C N bs bm hdct sn sub ab col dd k0 k1 k2 k3 k5 newId)) (hn : h.Ns N mN) (hi : mN "__init__" = some (.ref fI))
    (hf : h.get? fI = some oI) (hfc : oI.cls = .type "function") (hz : rest.length ≤ sizeLine)
    (hq : wpAny (model prog w) A (call (.ref fI) (.ref (h.objs.size + 1) :: rest)) (fun r s' => r = .none ∧ Q (.done (.ret (.ref (h.objs.size + 1)))) s') E ⟨bareX h C rest, g, d, t, os⟩) :
    wpAny (model prog w) A (Builtin.«type.__call__» ⟨.ref C :: rest, []⟩) Q E ⟨h, g, d, t, os⟩ := by
  have up : ∀ b o, h.get? b = some o → (bareX h C rest).get? b = some o := fun b o e => Heap.get?_push_of_some _ (Heap.get?_push_of_some _ e)
  have C1 := up C _ hC
  have N1 : (bareX h C rest).Ns N mN := hn.keeps up
  have T1 : OwnTail (bareX h C rest) bmB bm := T.keeps up
  have X1 : (bareX h C rest).get? (h.objs.size + 1) = some { cls := .ref C, data := .fields #[.ref h.objs.size, .none, .none, .none, .bool false, .none] } := by heap_get
  have self : (Value.ref C :: bm).contains (.ref C) = true := by simp
  repeat (first | with_reducible refine wpAny_loadPart_at hC ?_ | with_reducible refine wpAny_madeBy_exc hC ?_ | wp_step)
  refine codeAny_call_builtin_code (Code.quiet_builtin _ F.quiet) (wpAny_check_new_subT F T hC (codeAny_exc_new_subT F T hC ?_ hz))
  show wpAny _ _ _ _ _ ⟨bareX h C rest, g, d, t, os⟩
  unfold isInstance
  repeat (first | with_reducible refine wpAny_loadPart_at X1 ?_ | (with_reducible refine wpAny_isSubtype_exc C1 ?_; rw [self]) | wp_step)
  show wpAny _ _ (typeLookup (.ref C) _) _ _ _
  refine wpAny_typeLookup_tail C1 N1 T1 F.mroIs F.init.lookup ?_
  rw [hi]
  refine wpAny_holding (wpAny_bind ?_)
  unfold bindSpecial
  refine wpAny_bind (wpAny_typeOf (T := "function") ⟨oI, up fI _ hf, hfc⟩ ?_)
  rw [if_pos (by decide)]
  refine wpAny_pure (wpAny_bind (wpAny_mono hq (fun r s' hr => ?_) fun _ _ z => z))
  obtain ⟨rfl, hQ⟩ := hr
  wp_walk
  exact hQ
theorem xm_call {Q : Value → Shared → Prop} (F : ExcBaseFacts B newId initId bmB) (T : OwnTail h bmB bm) (hC : h.get? C = some (excClassObj nm q C N bs bm hdct sn sub ab col dd k0 k1 k2 k3 k5 newId)) (hn : h.Ns N mN) (hi : mN "__init__" = some (.ref fI))
    (hf : h.get? fI = some oI) (hfc : oI.cls = .type "function") (hz : rest.length ≤ sizeLine)
    (hq : wpAny (model prog w) (A.under (.builtin "type.__call__" ⟨.ref C :: rest, []⟩)) (call (.ref fI) (.ref (h.objs.size + 1) :: rest)) (fun r s' => r = .none ∧ Q (.ref (h.objs.size + 1)) s') E ⟨bareX h C rest, g, d, t, os⟩) :
    wpAny (model prog w) A (call (.ref C) rest) Q E ⟨h, g, d, t, os⟩ := by
  have l1 := tc_lookup
  have l2 := tc_bind (.ref C)
  have tyC : (⟨h, g, d, t, os⟩ : Shared).TypeIs (.ref C) "type" := ⟨_, hC, rfl⟩
  refine wpAny_call (codeAny_of_tree ?_)
  show wpAny _ _ (callAny (.ref C) _) _ _ _
  repeat (any_goals (first | assumption | with_reducible refine wpAny_loadPart_at hC ?_ | wp_step))
  exact ⟨rfl, codeAny_call_builtin_at (Code.quiet_builtin _ (by decide +kernel)) entry_typeCall (wpAny_check_type_call_sub hC (xm_type F T hC hn hi hf hfc hz hq))⟩
end
end L2

set_option Elab.async false
set_option linter.all false
set_option maxRecDepth 100000
set_option maxHeartbeats 4000000
namespace L2
open PySem PySem.Spec PyProof.Rows

/-! ### exceptions as values: made, their attributes -/
def XD0 (a D : Addr) : Heap → Prop := fun h => ∃ o vs, h.get? a = some o ∧ o.cls = .ref D ∧ o.data = .fields vs ∧ o.dict = none ∧ vs[1]? = some .none
def XD1 (a D dx : Addr) : Heap → Prop := fun h => ∃ o vs, h.get? a = some o ∧ o.cls = .ref D ∧ o.data = .fields vs ∧ o.dict = some dx ∧ vs[1]? = some .none
def XDct (dx : Addr) (fs : List (Str × V)) : Heap → Prop := fun h => ∃ mA, h.Ns1 dx mA ∧ ∀ f, RelO (fs.lookup f) (mA f)
theorem XD0.at {a D : Addr} {h : Heap} (x : XD0 a D h) : XAt a D h := let ⟨o, _, e, c, _⟩ := x; ⟨o, e, c⟩
theorem XD1.at {a D dx : Addr} {h : Heap} (x : XD1 a D dx h) : XAt a D h := let ⟨o, _, e, c, _⟩ := x; ⟨o, e, c⟩
section
variable {P : Program} {w : World} {H : Hp} {h : Heap} {a D dx : Addr} {fs : List (Str × V)}
theorem XD0.ok (x : XD0 a D h) : ObjOk P w H h a (.ext (XD0 a D)) := ⟨x, let ⟨o, _, e, _⟩ := x; ⟨o, e⟩, fun _ _ ⟨o, vs, e, r⟩ k => ⟨o, vs, k o e, r⟩⟩
theorem XD1.ok (x : XD1 a D dx h) : ObjOk P w H h a (.ext (XD1 a D dx)) := ⟨x, let ⟨o, _, e, _⟩ := x; ⟨o, e⟩, fun _ _ ⟨o, vs, e, r⟩ k => ⟨o, vs, k o e, r⟩⟩
theorem XDct.ok (x : XDct dx fs h) : ObjOk P w H h dx (.ext (XDct dx fs)) := ⟨x, let ⟨_, ⟨o, _, _, e, _⟩, _⟩ := x; ⟨o, e⟩, fun _ _ ⟨mA, n, r⟩ k => ⟨mA, n.at k, r⟩⟩
end
section
variable {X : Cx} {pins : List (Addr × Obj)} {σ : St} {H : Hp} {s : Shared} {h' : Heap} {x dx D : Addr} {φ : Heap → Prop} {ox od : HO}
/-- a new object, tracked -/
theorem Inv.tracked {t' : Nat} (I : Inv X pins σ H s) (k : ∀ b u, s.heap.get? b = some u → h'.get? b = some u) (hn : s.heap.get? x = none) (new : ObjOk X.prog X.w (upd H x ox) h' x ox) : Inv X pins σ (upd H x ox) { s with heap := h', toks := t' } := by
  have hx : H x = none := by
    cases q : H x with
    | none => rfl
    | some u =>
      obtain ⟨o, e⟩ := (I.hok x u q).isObj
      rw [hn] at e
      cases e
  have ne : ∀ b o, s.heap.get? b = some o → b ≠ x := fun b o e z => by rw [z, hn] at e; cases e
  have nh : ∀ b u, H b = some u → b ≠ x := fun b u e z => by rw [z, hx] at e; cases e
  refine I.un ⟨fun b o e _ _ _ => k b o e, fun b o e _ _ _ => ⟨o.slots, k b o e⟩, fun b o e n _ => ?_, fun b o e _ => ⟨o, k b o e⟩, fun b xs e => ?_, fun b o u e => ?_, fun b ps e => ⟨#[], ?_⟩⟩ fun b u e => ?_
  · rw [upd_ne (ne b o e)]; exact n
  · rw [upd_ne (nh b _ e)]; exact e
  · rw [upd_ne (nh b _ e)]; exact e
  · rw [upd_ne (nh b _ e), e]; simp
  · by_cases hb : b = x
    · subst hb
      rw [upd_same] at e
      cases e
      exact new
    · rw [upd_ne hb] at e
      exact (I.hok b u e).stay (fun c v _ q => k c v q) (fun c q => by rw [upd_ne (nh c _ q)]; exact q) fun c xs q => by rw [upd_ne (nh c _ q)]; exact q
/-- a thing of one's own changes, and a new object comes with it -/
theorem Inv.put2 {t' : Nat} (I : Inv X pins σ H s) (hx : H x = some (.ext φ)) (hd : s.heap.objs.size ≤ dx) (k : ∀ b u, b ≠ x → s.heap.get? b = some u → h'.get? b = some u) (n1 : ObjOk X.prog X.w (upd (upd H dx od) x ox) h' x ox)
    (n2 : ObjOk X.prog X.w (upd (upd H dx od) x ox) h' dx od) : Inv X pins σ (upd (upd H dx od) x ox) { s with heap := h', toks := t' } := by
  have hdn : H dx = none := I.hok.fresh hd
  have hxd : x ≠ dx := fun z => by rw [z, hdn] at hx; cases hx
  have ne : ∀ b o, s.heap.get? b = some o → b ≠ dx := fun b o e => Nat.ne_of_lt (Nat.lt_of_lt_of_le (Heap.lt_size e) hd)
  have nh : ∀ b u, H b = some u → b ≠ dx := fun b u e z => by rw [z, hdn] at e; cases e
  have nx : ∀ b, H b = none → b ≠ x := fun b e z => by rw [z, hx] at e; cases e
  have nt : ∀ b u, H b = some u → (∀ ψ, u ≠ .ext ψ) → b ≠ x := fun b u e n z => by
    rw [z, hx] at e
    cases e
    exact n φ rfl
  obtain ⟨ux, hux⟩ := n1.isObj
  refine I.un ⟨fun b o e n _ _ => k b o (nx b n) e, fun b o e n _ _ => ⟨o.slots, k b o (nx b n) e⟩, fun b o e n _ => ?_, fun b o e _ => ?_, fun b xs e => ?_, fun b o u e => ?_, fun b ps e => ⟨#[], ?_⟩⟩ fun b u e => ?_
  · rw [upd_ne (nx b n), upd_ne (ne b o e)]; exact n
  · by_cases hb : b = x
    · subst hb; exact ⟨ux, hux⟩
    · exact ⟨o, k b o hb e⟩
  · rw [upd_ne (nt b _ e fun _ z => nomatch z), upd_ne (nh b _ e)]; exact e
  · rw [upd_ne (nt b _ e fun _ z => nomatch z), upd_ne (nh b _ e)]; exact e
  · rw [upd_ne (nt b _ e fun _ z => nomatch z), upd_ne (nh b _ e), e]; simp
  · by_cases hb : b = x
    · subst hb
      rw [upd_same] at e
      cases e
      exact n1
    · by_cases hb2 : b = dx
      · subst hb2
        rw [upd_ne hb, upd_same] at e
        cases e
        exact n2
      · rw [upd_ne hb, upd_ne hb2] at e
        refine (I.hok b u e).stay (fun c v hc q => k c v ?_ q) (fun c q => ?_) fun c xs q => ?_
        · rintro rfl
          rcases hc with z | z
          · exact hb z.symm
          · rw [hx] at z; cases z
        · rw [upd_ne (nt c _ q fun _ z => nomatch z), upd_ne (nh c _ q)]; exact q
        · rw [upd_ne (nt c _ q fun _ z => nomatch z), upd_ne (nh c _ q)]; exact q
end
/-- self.f = value -/
def sFldX (K : PySem.W.Frag) (ta tv : TE) (f : Str) : TS := fun D σ H => tv σ H fun y H1 => ta σ H1 fun x H2 => ∃ a C cd, x = .ref a ∧ XSet K C f cd ∧
  ((H2 a = some (.ext (XD0 a C)) ∧ ∀ dx, H2 dx = none → dx ≠ a → D.nx σ (upd (upd H2 dx (.ext (XDct dx [(f, y)]))) a (.ext (XD1 a C dx)))) ∨
    ∃ dx fs, H2 a = some (.ext (XD1 a C dx)) ∧ H2 dx = some (.ext (XDct dx fs)) ∧ fs.length ≤ 900 ∧ D.nx σ (upd H2 dx (.ext (XDct dx ((f, y) :: fs)))))
theorem relV_nb {v : V} {u : Value} (r : RelV v u) : ∀ id, u ≠ .builtin id := fun id z => by
  subst z
  cases v with
  | non => cases r
  | bl b => cases r
  | int i => obtain ⟨_, z⟩ := r; cases z
  | str x => obtain ⟨_, z⟩ := r; cases z
  | byt b => obtain ⟨_, z⟩ := r; cases z
  | flt b => obtain ⟨_, z⟩ := r; cases z
  | ref a => cases r
  | ty n => cases r
theorem lookup_cons_if {f g : Str} {y : V} {fs : List (Str × V)} : List.lookup g ((f, y) :: fs) = if g = f then some y else fs.lookup g := by
  rw [List.lookup_cons]
  by_cases z : g = f
  · rw [if_pos z, show (g == f) = true by simpa using z]
  · rw [if_neg z, show (g == f) = false by simpa using z]
section
variable {X : Cx} {o e value : Expr} {f : Str} {pos pos' tpos : Pos} {ta tv : TE}
theorem ps_fldX (ha : PE X o ta) (hv : PE X value tv) (hs : swapsWith value (some (.Attribute o f pos')) pos.line X.env = pure false) : PS X (.Assign [.Attribute o f pos'] value pos) (sFldX X.K ta tv f) := by
  intro pins s σ H D I h
  refine plainObj_wpAny_Assign_Attribute (thn (hv pins s σ H _ I h) fun u s1 ⟨y, H1, I1, ry, q⟩ => thn (ha pins s1 σ H1 _ I1 q) fun ov s2 ⟨x, H2, I2, rx, a, C, cd, ex, c, q2⟩ => ?_) hs
  subst ex
  obtain rfl : ov = Value.ref a := rx
  obtain ⟨h2, g2, d2, t2, os2⟩ := s2
  rcases q2 with ⟨ea, q2⟩ | ⟨dx, fs, ea, ed, hl, q2⟩
  · obtain ⟨⟨ob, vs, e1, e2, e3, e4, e5⟩, _⟩ := I2.hok a _ ea
    refine xs_attr c I2.kIn e1 e2 fun B tk Q' E' hQ => xs_first c I2.kIn e1 e2 e3 e4 fun h' n' o' k' => hQ _ ?_
    have hf : H2 h2.objs.size = none := I2.hok.fresh (Nat.le_refl _)
    have hne : h2.objs.size ≠ a := Nat.ne_of_gt (Heap.lt_size e1)
    refine ⟨σ, _, I2.put2 (t' := t2 + 1 + 1) (h' := h') (x := a) (dx := h2.objs.size) (od := .ext (XDct h2.objs.size [(f, y)])) (ox := .ext (XD1 a C h2.objs.size)) ea (Nat.le_refl _) k' (XD1.ok ⟨_, vs, o', e2, e3, rfl, e5⟩) (XDct.ok ⟨_, n', fun g => ?_⟩), q2 _ hf hne⟩
    rw [lookup_cons_if]
    by_cases z : g = f
    · rw [if_pos z, if_pos z]; exact ry
    · rw [if_neg z, if_neg z]; exact True.intro
  · obtain ⟨⟨ob, vs, e1, e2, e3, e4, e5⟩, _⟩ := I2.hok a _ ea
    obtain ⟨⟨mA, nA, rA⟩, _⟩ := I2.hok dx _ ed
    have wi : PySem.Within mA (fs.map (·.1)) := fun g hg => by
      cases q : fs.lookup g with
      | none =>
        have := rA g
        rw [q] at this
        exact absurd (RelO.none_of this) hg
      | some v => exact List.mem_map.mpr ⟨(g, v), PySem.mem_of_lookup q, rfl⟩
    refine xs_attr c I2.kIn e1 e2 fun B tk Q' E' hQ => xs_next c I2.kIn e1 e2 e4 nA wi (by rw [List.length_map]; omega) fun h' n' sb => hQ _ ?_
    refine ⟨σ, _, I2.write (t' := t2 + 1 + 1) (h' := h') (x := dx) (e := dx) (o := .ext (XDct dx ((f, y) :: fs))) (by rw [ed]; exact True.intro) (.inl rfl) (fun b u hb e => (sb.2 b hb).trans e) (let ⟨o', _, _, e', _⟩ := n'; ⟨o', e'⟩) (XDct.ok ⟨_, n', fun g => ?_⟩), q2⟩
    rw [lookup_cons_if]
    by_cases z : g = f
    · rw [if_pos z, if_pos z]; exact ry
    · rw [if_neg z, if_neg z]; exact rA g
end
end L2

set_option Elab.async false
set_option linter.all false
set_option maxRecDepth 100000
set_option maxHeartbeats 4000000
namespace L2
open PySem PySem.Spec PyProof.Rows

/-! ### own exception classes, read off the text -/
theorem ns_some_of {K : PySem.W.Frag} {h : Heap} {N : Addr} {m : Str → Option Value} {n : Str} {v : Value} (X : K.In h) (G : h.Ns N m) (q : PySem.W.nsIn K N n = some (some v)) : m n = some v := by
  obtain ⟨ob, en, ep, gob, dob, _, fnd⟩ := G
  unfold PySem.W.nsIn at q
  split at q
  · rename_i c0 d0 en0 k0 sl0 lk
    have at0 := X _ _ lk
    rw [gob] at at0
    cases at0
    cases dob
    split at q
    · rename_i entry found
      cases q
      rw [← fnd]
      unfold nsFind findBy
      rw [← Array.find?_toList, found]
      rfl
    · split at q <;> cases q
  · cases q
def xIn (K : PySem.W.Frag) (C : Addr) (fI : Option Value) : Bool := match K.lookup C with
  | some ⟨.type "type", _, .cls cd, sl⟩ => (match cd.mro, sl.toList with
    | .ref C' :: bm, [_, _, _, _, some (.builtin n), _] => C' == C && n == "ValueError.__new__" && !cd.hasDel && PySem.W.tailIn K bmV bm && PySem.W.nsOkIn K cd.ns && PySem.W.nsIn K cd.ns "__init__" == some fI
    | _, _ => false)
  | _ => false
structure XObj (h : Heap) (C : Addr) (fI : Option Value) : Prop where
  obj : ∃ bm N nm q bs hdct sn sub ab col dd k0 k1 k2 k3 k5 mN, h.get? C = some (excClassObj nm q C N bs bm hdct sn sub ab col dd k0 k1 k2 k3 k5 "ValueError.__new__") ∧ h.Ns N mN ∧ mN "__init__" = fI ∧ OwnTail h bmV bm
theorem x_of_in {K : PySem.W.Frag} {h : Heap} {C : Addr} {fI : Option Value} (X : K.In h) (z : xIn K C fI = true) : XObj h C fI := by
  unfold xIn at z
  split at z
  · rename_i dct cld slt lk
    split at z
    · rename_i C' tl a0 a1 a2 a3 nid a5 hmro hsl
      simp only [Bool.and_eq_true, beq_iff_eq, Bool.not_eq_true'] at z
      obtain ⟨⟨⟨⟨⟨rfl, rfl⟩, hdel⟩, ht⟩, hok⟩, hin⟩ := z
      obtain ⟨nm, bs, mro, ns, qn, hd, sn, sub, ab, col, del⟩ := cld
      dsimp only at hmro hdel hok hin
      subst hmro hdel
      have es : slt = #[a0, a1, a2, a3, some (.builtin "ValueError.__new__"), a5] := by
        obtain ⟨l⟩ := slt
        simp only at hsl
        rw [hsl]
      subst es
      have hN : h.Ns ns (h.nsMap ns) := .of_isNs (PySem.W.isNs_of_in X hok)
      refine ⟨tl, ns, nm, qn, bs, hd, sn, sub, ab, col, dct, a0, a1, a2, a3, a5, _, X _ _ lk, hN, ?_, PySem.W.tail_of_in X ht⟩
      cases fI with
      | none => exact PySem.W.ns_none_of X hN hin
      | some v => exact ns_some_of X hN hin
    · cases z
  · cases z

def xcIn (K : PySem.W.Frag) (D : Addr) : Bool := PySem.W.findIn K (.ref D) "__getattribute__" == some (some (.builtin "BaseException.__getattribute__")) && PySem.W.findIn K (.ref D) "__getattr__" == some none &&
  PySem.W.findIn K (.ref D) "__class__" == some (some (.builtin "object.__class__")) && PySem.W.mroIn K D (.type "BaseException") == some true && PySem.W.mroIn K D (.type "object") == some true && (PySem.W.clsIn K D).isSome && PySem.W.typeIn K (.ref D) == some (.type "type")
theorem xc_of {K : PySem.W.Frag} {D : Addr} (h : xcIn K D = true) : XCls K D := by
  unfold xcIn at h
  simp only [Bool.and_eq_true, beq_iff_eq] at h
  obtain ⟨⟨⟨⟨⟨⟨h1, h2⟩, h3⟩, h4⟩, h5⟩, h6⟩, h7⟩ := h
  exact ⟨h1, h2, h3, h4, h5, h6⟩
theorem xh_of {K : PySem.W.Frag} {D : Addr} (h : xcIn K D = true) : XHd K D := by
  unfold xcIn at h
  simp only [Bool.and_eq_true, beq_iff_eq] at h
  obtain ⟨⟨⟨⟨⟨⟨h1, h2⟩, h3⟩, h4⟩, h5⟩, h6⟩, h7⟩ := h
  exact ⟨h6, h7, h4⟩
def xsIn (K : PySem.W.Frag) (D : Addr) (name : Str) : Bool := ((PySem.W.clsIn K D).any fun cd => cd.hasDict && vTail cd.mro) && PySem.W.mroIn K D (.type "object") == some true &&
  PySem.W.findIn K (.ref D) "__setattr__" == some (some (.builtin "object.__setattr__")) && PySem.W.findIn K (.ref D) name == some none
theorem xs_of {K : PySem.W.Frag} {D : Addr} {name : Str} (h : xsIn K D name = true) : ∃ cd, XSet K D name cd := by
  unfold xsIn at h
  simp only [Bool.and_eq_true, beq_iff_eq] at h
  obtain ⟨⟨⟨h1, h2⟩, h3⟩, h4⟩ := h
  obtain ⟨cd, e, e2⟩ := PySem.W.any_some h1
  rw [Bool.and_eq_true] at e2
  exact ⟨cd, e, e2.1, e2.2, h2, h3, h4⟩
section
variable {P : Program} {w : World} {K : PySem.W.Frag} {mg : Str → Option Value} {base : Heap} {N : List Str} {qual : Str} {scope : Scope} {f : Addr} {cdv : Value} {A : Around} {outer : List Env} {s0 : Shared} {H0 : Hp} {E : XK}
end

/-! ### C() and C(e, ..) -/
def tMkX0 (C : Addr) : TE := fun _ H Q => ∀ a, H a = none → Q (.ref a) (upd H a (.ext (XD0 a C)))
def tMkX (C : Addr) (sp : Sp) (t : TA) : TE := fun σ H Q => t σ H fun vs H1 => ∀ a, H1 a = none → sp (.ref a :: vs) (upd H1 a (.ext (XD0 a C))) (fun v H2 => v = .non ∧ Q (.ref a) H2) E0
section
variable {X : Cx} {k : Nat} {f C : Addr} {fd : FuncData} {ps : List Str} {sp : Sp} {x : Str} {p pos : Pos} {e : Expr} {es : List Expr} {t : TA}
theorem pe_mkX0 (z : xIn X.K C none = true) (kp : PySem.W.keepIn X.K (.ref C) = true) (hg : Gl X x) (hm : X.mg x = some (.ref C)) (hdb : (x == ("__debug__" : Str)) = false := by decide) : PE X (.Call (.Name x p) [] [] pos) (tMkX0 C) := by
  intro pins s σ H Q I h
  refine wpAny_Call_Name_kw (ld_glob I hg hm ?_ hdb)
  refine PySem.W.callWith_K0 I.kIn kp ?_
  obtain ⟨bm, N, nm, q, bs, hdct, sn, sub, ab, col, dd, k0, k1, k2, k3, k5, mN, hC, hN, hni, T⟩ := (x_of_in I.kIn z).obj
  obtain ⟨h0, g0, d0, t0, os0⟩ := s
  refine wpAny_call_exc_subT (rest := []) PySem.F.excBase_ValueError T hC hN hni (fun h' a hx => ?_) (Nat.zero_le _)
  obtain ⟨t1, ht, _, _⟩ := hx.there
  have hn : H a = none := by
    cases q : H a with
    | none => rfl
    | some u =>
      obtain ⟨o, e⟩ := (I.hok a u q).isObj
      have := hx.new
      rw [show h0.get? a = some o from e] at this
      cases this
  exact ⟨.ref a, _, I.tracked (t' := t0) hx.keeps hx.new (XD0.ok ⟨_, _, ht, rfl, rfl, rfl, rfl⟩), rfl, h a hn⟩
theorem pe_mkX (z : xIn X.K C (some (.ref f)) = true) (kp : PySem.W.keepIn X.K (.ref C) = true) (fn : PySem.W.isFn X.K (.ref f) = true) (F : FnOk X.prog X.w X.K X.mg X.base CX0 k f fd ps sp) (hr : Room (k + 1) X.A) (hg : Gl X x) (hm : X.mg x = some (.ref C))
    (hb : Binds X.K fd ps []) (ha : PA X (e :: es) t) (hz : ∀ vs H Q E, sp vs H Q E → vs.length ≤ 100) (hdb : (x == ("__debug__" : Str)) = false := by decide) (he : starEach (e :: es) X.env = (false, eval e X.env) :: starEach es X.env := by rfl)
    (hpl : (backTo pos (starEach es X.env)).any (·.1) = false := by rfl) : PE X (.Call (.Name x p) (e :: es) [] pos) (tMkX C sp t) := by
  intro pins s σ H Q I h
  refine wpAny_Call_Name_kw (ld_glob I hg hm ?_ hdb)
  refine PySem.W.callWith_K (h₀ := X.base) I.ok.mod.kin kp (thn (ha pos pins s σ H _ I h) fun us s1 ⟨vs, H1, I1, r, q⟩ => ⟨I1.kIn, ?_⟩) he hpl
  obtain ⟨bm, N, nm, qn, bs, hdct, sn, sub, ab, col, dd, k0, k1, k2, k3, k5, mN, hC, hN, hni, T⟩ := (x_of_in I1.kIn z).obj
  have q1 := q (s1.heap.objs.size + 1) (I1.hok.fresh (Nat.le_succ _))
  have hlen : us.length ≤ sizeLine := by
    have := hz _ _ _ _ q1
    rw [List.length_cons] at this
    rw [← r.length]
    exact Nat.le_trans (Nat.le_of_succ_le this) (by decide)
  have up : ∀ b o, s1.heap.get? b = some o → (bareX s1.heap C us).get? b = some o := fun b o e => Heap.get?_push_of_some _ (Heap.get?_push_of_some _ e)
  have e2 : (bareX s1.heap C us).get? (s1.heap.objs.size + 1) = some { cls := .ref C, data := .fields #[.ref s1.heap.objs.size, .none, .none, .none, .bool false, .none] } := by heap_get
  have I2 := I1.laid (t' := s1.toks) (h' := bareX s1.heap C us) (a := s1.heap.objs.size + 1) (o := .ext (XD0 (s1.heap.objs.size + 1) C)) up (Nat.le_succ _) (XD0.ok ⟨_, _, e2, rfl, rfl, rfl, rfl⟩)
  obtain ⟨oI, hfI, hfc⟩ : ∃ oI, s1.heap.get? f = some oI ∧ oI.cls = .type "function" := by
    have := beq_iff_eq.mp fn
    unfold PySem.W.typeIn at this
    obtain ⟨ob, lk, hcl⟩ := Option.map_eq_some_iff.mp this
    exact ⟨ob, I1.kIn _ _ lk, hcl⟩
  have r2 : Vals (V.ref (s1.heap.objs.size + 1) :: vs) (Value.ref (s1.heap.objs.size + 1) :: us) := .cons rfl r
  have hl2 : (Value.ref (s1.heap.objs.size + 1) :: us).length = ps.length := by rw [← r2.length]; exact F.len _ _ _ _ q1
  have b2 := hb { s1 with heap := bareX s1.heap C us, toks := s1.toks } (Value.ref (s1.heap.objs.size + 1) :: us) I2.kIn (by rw [List.append_nil]; exact hl2)
  rw [List.append_nil] at b2
  have goal : wpAny (model X.prog X.w) X.A (call (.ref C) us) (EP X pins σ Q) X.xe s1 := by
    obtain ⟨h1, g1, d1, t1, os1⟩ := s1
    refine xm_call PySem.F.excBase_ValueError T hC hN hni hfI hfc hlen ?_
    refine wpAny_call (codeAny_mono (F.run _ X.stack _ _ ⟨Value.ref (h1.objs.size + 1) :: us, []⟩ (Value.ref (h1.objs.size + 1) :: us) _ _ E0 (hr.make C us []) (I2.env0.make C us []) b2 r2 q1) fun r s' hq => ?_)
    cases r with
    | error e => exact False.elim hq
    | ok fl =>
      cases fl with
      | ret u =>
        obtain ⟨v, H', I3, rv, ev, q3⟩ := I2.after hq
        subst ev
        exact ⟨rv, ⟨V.ref (h1.objs.size + 1), H', I3, rfl, q3⟩⟩
      | next => exact False.elim hq
      | brk => exact False.elim hq
      | cont => exact False.elim hq
  exact goal
end
end L2

set_option Elab.async false
set_option linter.all false
set_option maxRecDepth 100000
set_option maxHeartbeats 4000000
namespace L2
open PySem PySem.Spec PyProof.Rows
section
variable {M : Model} {A : Around} {E : Value → Shared → Prop} {s : Shared} {env : Env} {K : PySem.W.Frag} {D : Addr}
/-- raise of a thing that is an own exception already: it leaves as it is -/
theorem xr_stmt {x : Sem Value} {Q : Flow → Shared → Prop} (c : XCls K D) (hd : XHd K D) (hh : A.handled = none)
    (h : wpAny M A x (fun v s₁ => ∃ e ob vs, v = .ref e ∧ K.In s₁.heap ∧ s₁.heap.get? e = some ob ∧ ob.cls = .ref D ∧ ob.data = .fields vs ∧ vs[1]? = some .none ∧ E (.ref e) s₁) E s) : wpAny M A (raiseStmt env (some x) none) Q E s := by
  unfold raiseStmt
  refine wpAny_bind (wpAny_mono h (fun v s₁ h₁ => ?_) fun _ _ z => z)
  obtain ⟨e, ob, vs, rfl, X, ge, gc, gd, g1, hE⟩ := h₁
  obtain ⟨hp, g, d, tk, os⟩ := s₁
  repeat (first | with_reducible refine (PySem.W.looks_typeIn X hd.ty).at ?_ | (with_reducible refine wpAny_loadPart_at ge ?_; first | rw [gc] | rw [gd]) | with_reducible refine (PySem.W.looks_mroIn X c.mb).at ?_ | with_reducible refine wpAny_field ge gd g1 ?_ | wp_step)
  exact wpAny_raiseNew_none hh hE
end
end L2

set_option Elab.async false
set_option linter.all false
set_option maxRecDepth 100000
set_option maxHeartbeats 4000000
namespace L2
open PySem PySem.Spec PyProof.Rows

/-! ### an exception in flight, its dict kept in view -/
/-- the exception at e, its class, its dict, its newest trace at T, that trace's mark -/
def Fx (h : Heap) (e : Addr) (cls : Value) (dct : Option Addr) (fl : Value) (T : Addr) : Prop :=
  ∃ ob fs oT ts, h.get? e = some ob ∧ ob.cls = cls ∧ ob.dict = dct ∧ ob.data = .fields fs ∧ fs[1]? = some (.ref T) ∧ T ≠ e ∧ h.get? T = some oT ∧ oT.data = .fields ts ∧ ts[3]? = some fl
theorem dict_mapFields (f : Array Value → Array Value) (o : Obj) : (Obj.mapFields f o).dict = o.dict := by
  obtain ⟨c, d, dt, sl⟩ := o
  cases dt <;> rfl
theorem cls_mapF (f : Array Value → Array Value) (o : Obj) : (Obj.mapFields f o).cls = o.cls := Obj.cls_mapFields _ _
section
variable {M : Model} {A : Around} {E : Value → Shared → Prop} {s : Shared} {base : Heap} {env : Env} {outer : List Env} {L e : Addr} {ob : Obj} {fs : Array Value} {head : Value} {more : Bool}
/-- a new trace is laid before the others -/
theorem fx_entry {Q : Unit → Shared → Prop} (fr : A.frames = some (env :: outer)) (ff : s.heap.FunFrames base (env :: outer)) (fL : env.frame = some L) (ge : s.heap.get? e = some ob) (de : ob.data = .fields fs) (sz : 1 < fs.size)
    (h : ∀ h' T, Fx h' e ob.cls ob.dict (rawInt L) T → s.heap.get? T = none → (∀ b o, b ≠ e → b ∉ frs (env :: outer) → s.heap.get? b = some o → h'.get? b = some o) →
      (∀ b o, b ≠ e → s.heap.get? b = some o → ∃ sl, h'.get? b = some { o with slots := sl }) → Q () { s with heap := h' }) :
    wpAny M A (do let a ← frameOf env; let pl ← entryPlaceOf L more; let b ← EntryCells.newEntry head a .none (rawInt L) .none pl; setField (.ref e) 1 b) Q E s := by
  have out : e ∉ frs (env :: outer) := fun hm => by
    obtain ⟨_, o, go, nf⟩ := ff.mem hm
    rw [ge] at go
    cases go
    exact nf fs de
  refine wpAny_bind (wpAny_frameOf_fun fr ff fL fun h1 so => ?_)
  refine wpAny_bind (wpAny_entryPlaceOf fun pl isP => ?_)
  unfold EntryCells.newEntry newFields
  refine wpAny_bind (wpAny_newObj_type ?_ (isP.sizeOk5 _ _ _ _ _))
  have e1 : h1.get? e = some ob := (so.2.1 e out).trans ge
  have e2 := Heap.get?_push_of_some (h := h1) { cls := .type "traceback", dict := none, data := .fields ([head, .ref L, .none, rawInt L, .none] ++ (if pl.isEmpty then List.replicate 6 Value.none else pl)).toArray } e1
  have nT : h1.objs.size ≠ e := Nat.ne_of_gt (Heap.lt_size e1)
  have dm := Obj.data_mapFields de (·.setIfInBounds 1 (Value.ref h1.objs.size))
  have e3 := Heap.get?_update_self (Obj.mapFields (·.setIfInBounds 1 (Value.ref h1.objs.size))) e2 (Obj.isFreed_of_fields dm)
  have oth : ∀ b o, b ≠ e → h1.get? b = some o → ((h1.push { cls := .type "traceback", dict := none, data := .fields ([head, .ref L, .none, rawInt L, .none] ++ (if pl.isEmpty then List.replicate 6 Value.none else pl)).toArray }).update e (Obj.mapFields (·.setIfInBounds 1 (Value.ref h1.objs.size)))).get? b = some o :=
    fun b o nb gb => (Heap.get?_update_other _ _ (Ne.symm nb)).trans (Heap.get?_push_of_some _ gb)
  refine wpAny_setField e2 de sz (h _ h1.objs.size ⟨_, _, _, _, e3, cls_mapF _ _, dict_mapFields _ _, dm, by simp [sz], nT, (Heap.get?_update_other _ _ (Ne.symm nT)).trans (Heap.get?_push_size _ rfl), rfl, ?_⟩ ?_ (fun b o nb nf gb => oth b o nb ((so.2.1 b nf).trans gb)) fun b o nb gb => ?_)
  · simp
  · have : s.heap.objs.size = h1.objs.size := so.1.symm
    rw [← this]
    exact Heap.get?_none_of_le (Nat.le_refl _)
  · obtain ⟨sl, g1⟩ := so.2.2 b o gb
    exact ⟨sl, oth b _ nb g1⟩
end
end L2

set_option Elab.async false
set_option linter.all false
set_option maxRecDepth 100000
set_option maxHeartbeats 4000000
namespace L2
open PySem PySem.Spec PyProof.Rows
section
variable {M : Model} {A : Around} {E : Value → Shared → Prop} {s : Shared} {base : Heap} {env : Env} {outer : List Env} {L e T : Addr} {ob : Obj} {fs : Array Value} {cls fl : Value} {dct : Option Addr}
/-- what a walk of the traces leaves: of all but the things at xs the objects, of the frames up to slots -/
def KeptBut (xs fr : List Addr) (h h' : Heap) : Prop :=
  (∀ b o, b ∉ xs → b ∉ fr → h.get? b = some o → h'.get? b = some o) ∧ ∀ b o, b ∉ xs → h.get? b = some o → ∃ sl, h'.get? b = some { o with slots := sl }
theorem KeptBut.trans {xs ys fr : List Addr} {h h1 h2 : Heap} (a : KeptBut xs fr h h1) (b : KeptBut ys fr h1 h2) : KeptBut (xs ++ ys) fr h h2 :=
  ⟨fun c o n f g => b.1 c o (fun z => n (List.mem_append_right _ z)) f (a.1 c o (fun z => n (List.mem_append_left _ z)) f g), fun c o n g => by
    obtain ⟨s1, g1⟩ := a.2 c o (fun z => n (List.mem_append_left _ z)) g
    obtain ⟨s2, g2⟩ := b.2 c _ (fun z => n (List.mem_append_right _ z)) g1
    exact ⟨s2, g2⟩⟩
theorem fx_first {Q : Unit → Shared → Prop} (fr : A.frames = some (env :: outer)) (ff : s.heap.FunFrames base (env :: outer)) (fL : env.frame = some L) (ge : s.heap.get? e = some ob) (de : ob.data = .fields fs) (f1 : fs[1]? = some .none)
    (h : ∀ h' T, Fx h' e ob.cls ob.dict (rawInt L) T → s.heap.get? T = none → KeptBut [e] (frs (env :: outer)) s.heap h' → Q () { s with heap := h' }) : wpAny M A (noteFrame (.ref e) env) Q E s := by
  unfold noteFrame
  simp only [fL]
  refine wpAny_bind (wpAny_field ge de f1 ?_)
  rw [if_neg (by decide)]
  exact fx_entry fr ff fL ge de (Array.getElem?_eq_some_iff.mp f1).1 fun h' T x nT k1 k2 => h h' T x nT ⟨fun b o n f g => k1 b o (by simpa using n) f g, fun b o n g => k2 b o (by simpa using n) g⟩
theorem fx_next {Q : Unit → Shared → Prop} (fr : A.frames = some (env :: outer)) (ff : s.heap.FunFrames base (env :: outer)) (fL : env.frame = some L) (x : Fx s.heap e cls dct .none T)
    (h : ∀ h' T', Fx h' e cls dct (rawInt L) T' → s.heap.get? T' = none → KeptBut [T, e] (frs (env :: outer)) s.heap h' → Q () { s with heap := h' }) : wpAny M A (noteFrame (.ref e) env) Q E s := by
  obtain ⟨ob, fs, oT, ts, ge, rfl, rfl, de, f1, nT, gT, dT, t3⟩ := x
  unfold noteFrame
  simp only [fL]
  refine wpAny_bind (wpAny_field ge de f1 ?_)
  rw [if_pos (show (Value.ref T != Value.none) = true from by simp)]
  refine wpAny_bind (wpAny_field gT dT t3 ?_)
  rw [if_neg (show ¬ ((Value.none == rawInt L) = true) from by simp [rawInt])]
  refine wpAny_bind (wpAny_setField gT dT (Array.getElem?_eq_some_iff.mp t3).1 ?_)
  have oth : ∀ b, b ≠ T → (s.heap.update T (Obj.mapFields (·.setIfInBounds 3 Value.none))).get? b = s.heap.get? b := fun b nb => Heap.get?_update_other _ _ (Ne.symm nb)
  have nrec : ∀ b o, s.heap.get? b = some o → (∀ vs, o.data ≠ .fields vs) → b ≠ T := fun b o gb nf z => by
    rw [z, gT] at gb
    cases gb
    exact nf ts dT
  have gT' := Heap.get?_update_self (Obj.mapFields (·.setIfInBounds 3 Value.none)) gT (Obj.isFreed_of_fields (Obj.data_mapFields dT _))
  refine fx_entry fr (ff.of_keeps fun b o gb nf => ⟨o, (oth b (nrec b o gb nf)).trans gb, rfl⟩) fL ((oth e nT.symm).trans ge) de (Array.getElem?_eq_some_iff.mp f1).1 fun h' T' x' nT' k1 k2 => h h' T' x' ?_ ⟨fun b o n f g => ?_, fun b o n g => ?_⟩
  · cases q : s.heap.get? T' with
    | none => rfl
    | some o =>
      by_cases z : T' = T
      · rw [z, gT'] at nT'
        cases nT'
      · have nT'' := nT'
        rw [oth T' z, q] at nT''
        cases nT''
  · have n1 : b ≠ T := fun z => n (by rw [z]; exact List.mem_cons_self)
    have n2 : b ≠ e := fun z => n (by rw [z]; simp)
    exact k1 b o n2 f ((oth b n1).trans g)
  · have n1 : b ≠ T := fun z => n (by rw [z]; exact List.mem_cons_self)
    have n2 : b ≠ e := fun z => n (by rw [z]; simp)
    exact k2 b o n2 ((oth b n1).trans g)
theorem fx_flight {Q : Unit → Shared → Prop} {fr : List Addr} (x : Fx s.heap e cls dct fl T) (h : ∀ h', Fx h' e cls dct .none T → KeptBut [T] fr s.heap h' → Q () { s with heap := h' }) : wpAny M A (setFlight (.ref e) none) Q E s := by
  obtain ⟨ob, fs, oT, ts, ge, rfl, rfl, de, f1, nT, gT, dT, t3⟩ := x
  have z3 : 3 < ts.size := (Array.getElem?_eq_some_iff.mp t3).1
  have oth : ∀ b, b ≠ T → (s.heap.update T (Obj.mapFields (·.setIfInBounds 3 ((none : Option Addr).elim Value.none fun f => rawInt f)))).get? b = s.heap.get? b := fun b nb => Heap.get?_update_other _ _ (Ne.symm nb)
  unfold setFlight
  refine wpAny_bind (wpAny_field ge de f1 ?_)
  rw [if_pos (show (Value.ref T != Value.none) = true from by simp)]
  refine wpAny_setField gT dT z3 (h _ ⟨ob, fs, _, _, (oth e nT.symm).trans ge, rfl, rfl, de, f1, nT, Heap.get?_update_self _ gT (Obj.isFreed_of_fields (Obj.data_mapFields dT _)), Obj.data_mapFields dT _, by simp [z3]⟩ ⟨fun b o n _ g => ?_, fun b o n g => ?_⟩)
  · exact (oth b (by simpa using n)).trans g
  · exact ⟨o.slots, (oth b (by simpa using n)).trans g⟩
/-- it leaves a frame, traced already -/
theorem fx_leave {Q : Unit → Shared → Prop} (fr : A.frames = some (env :: outer)) (ff : s.heap.FunFrames base (env :: outer)) (fL : env.frame = some L) (x : Fx s.heap e cls dct .none T)
    (h : ∀ h' T', Fx h' e cls dct .none T' → s.heap.get? T' = none → KeptBut [T, e, T'] (frs (env :: outer)) s.heap h' → Q () { s with heap := h' }) : wpAny M A (leaving env (.ref e)) Q E s := by
  unfold leaving
  refine wpAny_bind (fx_next fr ff fL x fun h1 T1 x1 n1 k1 => fx_flight (s := { s with heap := h1 }) x1 fun h2 x2 k2 => h h2 T1 x2 n1 (k1.trans k2))
/-- it leaves its first frame -/
theorem fx_leave0 {Q : Unit → Shared → Prop} (fr : A.frames = some (env :: outer)) (ff : s.heap.FunFrames base (env :: outer)) (fL : env.frame = some L) (ge : s.heap.get? e = some ob) (de : ob.data = .fields fs) (f1 : fs[1]? = some .none)
    (h : ∀ h' T', Fx h' e ob.cls ob.dict .none T' → s.heap.get? T' = none → KeptBut [e, T'] (frs (env :: outer)) s.heap h' → Q () { s with heap := h' }) : wpAny M A (leaving env (.ref e)) Q E s := by
  unfold leaving
  refine wpAny_bind (fx_first fr ff fL ge de f1 fun h1 T1 x1 n1 k1 => fx_flight (s := { s with heap := h1 }) x1 fun h2 x2 k2 => h h2 T1 x2 n1 (k1.trans k2))
end
end L2

set_option Elab.async false
set_option linter.all false
set_option maxRecDepth 100000
set_option maxHeartbeats 4000000
namespace L2
open PySem PySem.Spec PyProof.Rows
/-! ### an own exception with attributes leaves -/
/-- the exception at x, of the class at D, with the dict dct, flies; it and its newest trace are new and untracked -/
structure XG (P : Program) (w : World) (outer : List Env) (H : Hp) (s : Shared) (x D : Addr) (dct : Option Addr) (T : Addr) (H' : Hp) (s' : Shared) : Prop where
  os : s'.os = s.os
  bare : AllBare s'.gens
  un : Un (frs outer) [] H H' s.heap s'.heap
  hok : HOk P w H' s'.heap
  fx : Fx s'.heap x (.ref D) dct .none T
  nx : s.heap.get? x = none
  nT : s.heap.get? T = none
  ux : H' x = none
  uT : H' T = none
def CXG (P : Program) (w : World) : CXT := fun outer H s E e s' => ∃ x D dct T H', e = .ref x ∧ XG P w outer H s x D dct T H' s' ∧ E (.ref D) dct H'
theorem gone_of_there {fs : List Addr} {H H' : Hp} {h h' : Heap} {b : Addr} (u : Un fs [] H H' h h') (n : h'.get? b = none) : h.get? b = none := by
  cases q : h.get? b with
  | none => rfl
  | some o =>
    obtain ⟨o', e⟩ := u.there b o q (by simp)
    rw [n] at e
    cases e
section
variable {P : Program} {w : World} {K : PySem.W.Frag} {mg : Str → Option Value} {base : Heap} {N : List Str} {qual : Str} {scope : Scope} {f : Addr} {cdv : Value} {A : Around} {outer : List Env} {s0 : Shared} {H0 : Hp} {E : XK}
abbrev cxG (P : Program) (w : World) (K : PySem.W.Frag) (mg : Str → Option Value) (base : Heap) (N : List Str) (qual : Str) (scope : Scope) (f : Addr) (cdv : Value) (A : Around) (outer : List Env) (s0 : Shared) (H0 : Hp) (E : XK) : Cx :=
  cxOf (CXG P w) P w K mg base N qual scope f cdv A outer s0 H0 E
theorem cxg_out {X : Cx} {pins : List (Addr × Obj)} {σ : St} {H' : Hp} {s' : Shared} {h2 : Heap} {x D T : Addr} {dct : Option Addr} {xs : List Addr} (J : Inv X pins σ H' s') (hex : X.ex = [])
    (k : KeptBut xs (frs X.stack) s'.heap h2) (hxs : ∀ b ∈ xs, X.s₀.heap.get? b = none ∧ H' b = none ∧ b ∉ frs X.outer) (fx : Fx h2 x (.ref D) dct .none T) (mx : x ∈ xs) (mT : T ∈ xs) :
    XG X.prog X.w X.outer X.H₀ X.s₀ x D dct T H' { s' with heap := h2 } := by
  have jb : Un (frs X.outer) [] X.H₀ H' X.s₀.heap s'.heap := by
    have := J.base
    rw [hex] at this
    exact this
  refine ⟨J.os, J.bare, un_more jb (fun b o h0 hf e => k.1 b o (fun z => ?_) (old_out J h0 hf) e) (fun b o hf e => k.2 b o (fun z => (hxs b z).2.2 hf) e), hok_more J.hok (fun b o u hu e => k.1 b o (fun z => ?_) (trk_out J hu) e), fx, (hxs x mx).1, (hxs T mT).1, (hxs x mx).2.1, (hxs T mT).2.1⟩
  · obtain ⟨o0, e0⟩ := h0
    rw [(hxs b z).1] at e0
    cases e0
  · rw [(hxs b z).2.1] at hu
    cases hu
theorem frs_out {X : Cx} {pins : List (Addr × Obj)} {σ : St} {H : Hp} {s : Shared} (I : Inv X pins σ H s) {b : Addr} (h : s.heap.get? b = none) : b ∉ frs X.outer := fun z => by
  obtain ⟨_, o, e, _⟩ := I.funs.mem z
  rw [h] at e
  cases e
theorem passG : Passes (CXG P w) (cxG P w K mg base N qual scope f cdv A outer s0 H0 E) E := by
  intro pins σ H s e s' I hx
  obtain ⟨x, D, dct, T, H', rfl, G, q⟩ := hx
  have J : Inv (cxG P w K mg base N qual scope f cdv A outer s0 H0 E) pins σ H' s' := I.call' (ch := []) G.os G.un G.hok G.bare (by simp)
  have ib : Un (frs outer) [] H0 H s0.heap s.heap := I.base
  have jb : Un (frs outer) [] H0 H' s0.heap s'.heap := J.base
  show wpAny _ _ (leaving _ (.ref x)) _ _ s'
  refine fx_leave I.ok.frames J.stack rfl G.fx fun h2 T2 x2 n2 k => ?_
  refine ⟨x, D, dct, T2, H', rfl, cxg_out J rfl k (fun b hb => ?_) x2 (by simp) (by simp), q⟩
  have hb' : b = T ∨ b = x ∨ b = T2 := by simpa using hb
  rcases hb' with rfl | rfl | rfl
  · exact ⟨gone_of_there ib G.nT, G.uT, frs_out I G.nT⟩
  · exact ⟨gone_of_there ib G.nx, G.ux, frs_out I G.nx⟩
  · refine ⟨gone_of_there jb n2, ?_, frs_out J n2⟩
    cases z : H' b with
    | none => rfl
    | some u =>
      obtain ⟨o, e⟩ := (J.hok b u z).isObj
      rw [n2] at e
      cases e
theorem ownG : PassesOwn (model P w) (cxG P w K mg base N qual scope f cdv A outer s0 H0 E).A (cxG P w K mg base N qual scope f cdv A outer s0 H0 E).env (cxG P w K mg base N qual scope f cdv A outer s0 H0 E).xe := PassesOwn.leaving
end
section
variable {P : Program} {w : World} {K : PySem.W.Frag} {mg : Str → Option Value} {base : Heap}
theorem Fun.okG {x qual : Str} {st : Stmt} {f : Addr} {fd : FuncData} {N ps : List Str} {k : Nat} {sp : Sp} (F : Fun K x qual st f fd) (S : FnScope N ps (defScope st)) (len : ∀ vs H Q E, sp vs H Q E → vs.length = ps.length)
    (hbody : ∀ (cdv : Value) (A : Around) (outer : List Env) (s : Shared) (H : Hp) (vs : List V) (Q : VK) (E : XK), Room k (A.deeper (envOfC qual (defScope st) s.heap.objs.size f cdv)) → sp vs H Q E →
      ∃ t, PSs (cxG P w K mg base N qual (defScope st) f cdv A outer s H E) (defBody st) t ∧ t { nx := fun _ H' => Q .non H', rt := Q } (start N vs) H) : FnOk P w K mg base (CXG P w) (k + 1) f fd ps sp := by
  obtain ⟨oc, od, kV, doc, pm, an, cdv, ct, osl, rfl, lk, hcd⟩ := F.ex
  exact fn_of lk hcd S len fun A outer s H vs Q E hr hsp => hbody cdv A outer s H vs Q E hr hsp
end
end L2

set_option Elab.async false
set_option linter.all false
set_option maxRecDepth 100000
set_option maxHeartbeats 4000000
namespace L2
open PySem PySem.Spec PyProof.Rows
/-! ### an own exception with attributes is raised -/
/-- the abstract heap without what stands at x -/
def untr (H : Hp) (x : Addr) : Hp := fun b => if b = x then none else H b
theorem untr_ne {H : Hp} {x b : Addr} (h : b ≠ x) : untr H x b = H b := by unfold untr; rw [if_neg h]
theorem untr_same {H : Hp} {x : Addr} : untr H x x = none := by unfold untr; rw [if_pos rfl]
/-- an exception that was made and never raised -/
def XU (a D : Addr) (dct : Option Addr) : Heap → Prop := fun h => ∃ o vs, h.get? a = some o ∧ o.cls = .ref D ∧ o.data = .fields vs ∧ o.dict = dct ∧ vs[1]? = some .none
theorem Inv.untr {X : Cx} {pins : List (Addr × Obj)} {σ : St} {H : Hp} {s : Shared} {x : Addr} {φ : Heap → Prop} (I : Inv X pins σ H s) (hx : H x = some (.ext φ)) : Inv X pins σ (untr H x) s := by
  have nt : ∀ b u, H b = some u → (∀ ψ, u ≠ .ext ψ) → b ≠ x := fun b u e n z => by
    rw [z, hx] at e
    cases e
    exact n φ rfl
  have fr : ∀ b, H b = none → L2.untr H x b = none := fun b e => by
    by_cases z : b = x
    · rw [z]; exact untr_same
    · rw [untr_ne z]; exact e
  have hok : HOk X.prog X.w (L2.untr H x) s.heap := fun b u e => by
    by_cases z : b = x
    · rw [z, untr_same] at e
      cases e
    · rw [untr_ne z] at e
      refine (I.hok b u e).stay (fun _ _ _ q => q) (fun c q => ?_) fun c xs q => ?_
      · rw [untr_ne (nt c _ q fun _ z => nomatch z)]; exact q
      · rw [untr_ne (nt c _ q fun _ z => nomatch z)]; exact q
  exact I.un (t' := s.toks) (h' := s.heap) ⟨fun b o e _ _ _ => e, fun b o e _ _ _ => ⟨o.slots, e⟩, fun b o e n _ => fr b n, fun b o e _ => ⟨o, e⟩, fun b xs e => by rw [untr_ne (nt b _ e fun _ z => nomatch z)]; exact e,
    fun b o u e => by rw [untr_ne (nt b _ e fun _ z => nomatch z)]; exact e, fun b ps e => ⟨#[], by rw [untr_ne (nt b _ e fun _ z => nomatch z), e]; simp⟩⟩ hok
section
variable {P : Program} {w : World} {K : PySem.W.Frag} {mg : Str → Option Value} {base : Heap} {N : List Str} {qual : Str} {scope : Scope} {f : Addr} {cdv : Value} {A : Around} {outer : List Env} {s0 : Shared} {H0 : Hp} {E : XK}
/-- raise e, e a new own exception -/
def tRaiseG (K : PySem.W.Frag) (H0 : Hp) (E : XK) (D : Addr) (te : TE) : TS := fun _ σ H => te σ H fun v H1 => ∃ x dct φ, v = .ref x ∧ H1 x = some (.ext φ) ∧ (∀ h, φ h → XU x D dct h) ∧ H0 x = none ∧ E (.ref D) dct (untr H1 x)
theorem ps_raiseG {ex : Expr} {te : TE} {D : Addr} {pos : Pos} (c : XCls K D) (hd : XHd K D) (he : PE (cxG P w K mg base N qual scope f cdv A outer s0 H0 E) ex te) :
    PS (cxG P w K mg base N qual scope f cdv A outer s0 H0 E) (.Raise (some ex) none pos) (tRaiseG K H0 E D te) := by
  intro pins s σ H DE I h
  rw [arm_exec_Raise]
  refine wpAny_bind (wpAny_standAt ?_)
  show wpAny _ _ (raiseStmt _ (some (do let v ← eval ex (cxG P w K mg base N qual scope f cdv A outer s0 H0 E).env; standAt pos; pure v)) none) _ _ s
  refine xr_stmt (K := K) (D := D) c hd (I.ok.hd rfl) (wpAny_bind (thn (he pins s σ H _ I h) fun v s1 ⟨y, H1, I1, ry, x, dct, φ, ey, hx, hφ, h0, q⟩ => wpAny_bind (wpAny_standAt (wpAny_pure ?_))))
  subst ey
  obtain rfl : v = Value.ref x := ry
  obtain ⟨ob, vs, g1, g2, g3, g4, g5⟩ := hφ _ (I1.hok x _ hx).1
  refine ⟨x, ob, vs, rfl, I1.kIn, g1, g2, g3, g5, ?_⟩
  show wpAny _ _ (leaving _ (.ref x)) _ _ s1
  have J := I1.untr hx
  have jb : Un (frs outer) [] H0 (untr H1 x) s0.heap s1.heap := J.base
  have ib : Un (frs outer) [] H0 H1 s0.heap s1.heap := I1.base
  have nx : s0.heap.get? x = none := by
    cases z : s0.heap.get? x with
    | none => rfl
    | some o =>
      have := ib.free x o z h0 (by simp)
      rw [hx] at this
      cases this
  refine fx_leave0 I1.ok.frames J.stack rfl g1 g3 g5 fun h2 T fx nT k => ?_
  rw [g2, g4] at fx
  refine ⟨x, D, dct, T, untr H1 x, rfl, cxg_out J rfl k (fun b hb => ?_) fx (by simp) (by simp), q⟩
  have hb' : b = x ∨ b = T := by simpa using hb
  rcases hb' with rfl | rfl
  · refine ⟨nx, untr_same, fun z => ?_⟩
    obtain ⟨_, o, e, nf⟩ := J.funs.mem z
    rw [g1] at e
    cases e
    exact nf vs g3
  · refine ⟨gone_of_there jb nT, ?_, frs_out J nT⟩
    cases z : untr H1 x b with
    | none => rfl
    | some u =>
      obtain ⟨o, e⟩ := (J.hok b u z).isObj
      rw [nT] at e
      cases e
end
end L2

set_option Elab.async false
set_option linter.all false
set_option maxRecDepth 100000
set_option maxHeartbeats 4000000
namespace L2
open PySem PySem.Spec PyProof.Rows
/-! ### an own exception with attributes is caught -/
def XCt (a D : Addr) (dct : Option Addr) : Heap → Prop := fun h => ∃ o vs, h.get? a = some o ∧ o.cls = .ref D ∧ o.data = .fields vs ∧ o.dict = dct
theorem XCt.at {a D : Addr} {dct : Option Addr} {h : Heap} (x : XCt a D dct h) : XAt a D h := let ⟨o, _, e, c, _⟩ := x; ⟨o, e, c⟩
section
variable {X : Cx} {pins : List (Addr × Obj)} {σ : St} {H H' : Hp} {s s' : Shared} {x D C T T2 : Addr} {dct : Option Addr} {fl : Value} {h2 : Heap} {xs : List Addr}
theorem landG (I : Inv X pins σ H s) (G : XG X.prog X.w X.stack H s x D dct T H' s') (k : KeptBut xs (frs X.stack) s'.heap h2) (hxs : ∀ b ∈ xs, s.heap.get? b = none ∧ H' b = none ∧ b ∉ frs X.stack) (fx : Fx h2 x (.ref D) dct fl T2) :
    Inv X pins σ (upd H' x (.ext (XCt x D dct))) { s' with heap := h2 } := by
  have hnx : ∀ b u, H' b = some u → b ≠ x := fun b u e z => by rw [z, G.ux] at e; cases e
  have trk : ∀ b u, H' b = some u → b ∉ frs X.stack := fun b u e hb => by
    obtain ⟨_, o, ho, _⟩ := I.stack.mem hb
    rw [G.un.free b o ho (I.stkFree b hb) (by simp)] at e
    cases e
  have u2 : Un (frs X.stack) [] H H' s.heap h2 := un_more G.un (fun b o h0 hf e => k.1 b o (fun z => by obtain ⟨o0, e0⟩ := h0; rw [(hxs b z).1] at e0; cases e0) hf e) (fun b o hf e => k.2 b o (fun z => (hxs b z).2.2 hf) e)
  have hk2 : HOk X.prog X.w H' h2 := hok_more G.hok (fun b o u hu e => k.1 b o (fun z => by rw [(hxs b z).2.1] at hu; cases hu) (trk b u hu) e)
  obtain ⟨ob, fs, _, _, gx, gc, gd, gf, _⟩ := fx
  refine I.call' (ch := []) (s' := { s' with heap := h2 }) G.os ⟨u2.keep, u2.slot, fun b o e n hx' => ?_, u2.there, fun b xs e => ?_, fun b o u e => ?_, fun b ps e => ?_⟩ (fun a o e => ?_) G.bare (by simp)
  · have : b ≠ x := fun z => by rw [z, G.nx] at e; cases e
    rw [upd_ne this]
    exact u2.free b o e n hx'
  · have e' := u2.tups b xs e
    rw [upd_ne (hnx b _ e')]
    exact e'
  · have e' := u2.frzs b o u e
    rw [upd_ne (hnx b _ e')]
    exact e'
  · obtain ⟨more, e'⟩ := u2.tbls b ps e
    exact ⟨more, by rw [upd_ne (hnx b _ e')]; exact e'⟩
  · by_cases ha : a = x
    · subst ha
      rw [upd_same] at e
      cases e
      exact ⟨⟨ob, fs, gx, gc, gf, gd⟩, ⟨ob, gx⟩, fun h1 h3 ⟨o, vs, e1, r⟩ kk => ⟨o, vs, kk o e1, r⟩⟩
    · rw [upd_ne ha] at e
      exact (hk2 a o e).stay (fun _ _ _ q => q) (fun b q => by rw [upd_ne (hnx b _ q)]; exact q) fun b xs q => by rw [upd_ne (hnx b _ q)]; exact q
end
section
variable {X : Cx} {pins : List (Addr × Obj)} {σ : St} {H H' : Hp} {s s' : Shared} {x D C T : Addr} {dct : Option Addr} {cn en : Str} {ie : Nat} {b₀ : Stmt} {suite : List Stmt} {cp hp : Pos} {ts : TS} {DE : Ends}
theorem handleG (I : Inv X pins σ H s) (hst : X.stack = X.env :: X.outer ∧ X.env.frame = some X.env.locals) (G : XG X.prog X.w X.stack H s x D dct T H' s')
    (gC : Gl X cn) (mC : X.mg cn = some (.ref C)) (cC : XHd X.K C) (hm : PySem.W.mroIn X.K D (.ref C) = some true) (hN : X.N.Nodup) (hi : X.N[ie]? = some en) (hl : X.env.kindOf en = some .local)
    (hs : ∀ x, PSs (X.inX x) (b₀ :: suite) ts) (q : ts (DE.asG ie) (σ.set ie (some (.ref x))) (upd H' x (.ext (XCt x D dct)))) (hdb : (cn == ("__debug__" : Str)) = false) :
    wpAny (model X.prog X.w) X.A (noteFrame (.ref x) X.env) (fun _ s₂ => wpAny (model X.prog X.w) X.A (setFlight (.ref x) none) (fun _ s₃ =>
      wpAny (model X.prog X.w) X.A (handleBy (.ref x) X.env [.ExceptHandler (some (.Name cn cp)) (some en) (b₀ :: suite) hp]) (SP X pins DE) X.xe s₃) X.xe s₂) X.xe s' := by
  have J : Inv X pins σ H' s' := I.call' (ch := []) G.os G.un G.hok G.bare (by simp)
  have st : s'.heap.FunFrames X.base (X.env :: X.outer) := hst.1 ▸ J.stack
  refine fx_next (by rw [I.ok.frames, hst.1]) st hst.2 G.fx fun h4 T4 x4 n4 k4 => ?_
  refine fx_flight (s := { s' with heap := h4 }) (fr := frs (X.env :: X.outer)) x4 fun h5 x5 k5 => ?_
  have k45 : KeptBut ([T, x] ++ [T4]) (frs X.stack) s'.heap h5 := by rw [hst.1]; exact k4.trans k5
  have so : ∀ b, s.heap.get? b = none → b ∉ frs X.stack := fun b n z => by
    obtain ⟨_, o, e, _⟩ := I.stack.mem z
    rw [n] at e
    cases e
  have h4s : s.heap.get? T4 = none := gone_of_there G.un n4
  have u4 : H' T4 = none := by
    cases z : H' T4 with
    | none => rfl
    | some u =>
      obtain ⟨o, e⟩ := (J.hok T4 u z).isObj
      rw [n4] at e
      cases e
  have hxs : ∀ b, b = T ∨ b = x ∨ b = T4 → s.heap.get? b = none ∧ H' b = none ∧ b ∉ frs X.stack := fun b hb => by
    rcases hb with rfl | rfl | rfl
    · exact ⟨G.nT, G.uT, so _ G.nT⟩
    · exact ⟨G.nx, G.ux, so _ G.nx⟩
    · exact ⟨h4s, u4, so _ h4s⟩
  have J5 := landG (h2 := h5) I G k45 (fun b hb => hxs b (by simpa using hb)) x5
  obtain ⟨o5, ho5, hc5⟩ : ∃ o, h5.get? x = some o ∧ o.cls = .ref D := let ⟨o, _, _, _, e, c, _⟩ := x5; ⟨o, e, c⟩
  refine wpAny_handleBy_cons (codeAny_handlers_test (ld_glob (X := X.inX x) (J5.inX x) gC mC ?_ hdb)) (by intro z; cases z)
  refine (x_matches J5.kIn cC ho5 hc5 hm).at ?_
  refine codeAny_handlers_suite_as ?_
  refine fx_flight (s := { s' with heap := h5 }) (fr := frs (X.env :: X.outer)) x5 fun h6 x6 k6 => ?_
  have k46 : KeptBut ([T, x] ++ [T4] ++ [T4]) (frs X.stack) s'.heap h6 := by rw [hst.1]; exact (k4.trans k5).trans k6
  have J6 := landG (h2 := h6) I G k46 (fun b hb => hxs b (by
    have : b = T ∨ b = x ∨ b = T4 ∨ b = T4 := by simpa using hb
    rcases this with z | z | z | z
    · exact .inl z
    · exact .inr (.inl z)
    · exact .inr (.inr z)
    · exact .inr (.inr z))) x6
  refine store_ok J6 hN hi (.inl hl) (v := .ref x) rfl (fun s7 I7 => ?_) (.inr hl)
  refine wpAny_mono (hs x pins s7 _ _ _ (I7.inX x) q) (fun fl s8 hf => ?_) (fun _ _ z => False.elim z)
  cases fl with
  | next =>
    obtain ⟨σ8, H8, I8, q8⟩ := hf
    have J8 : Inv X pins σ8 H8 s8 := I8.outX I.ok.hd
    obtain ⟨m, hn, hlk⟩ := id J8.loc
    refine wpAny_nameGoes_keeps hl hn (by rw [I.ok.kind]; rfl) fun h9 v hn9 sb => ?_
    exact ⟨_, H8, J8.gone hN hi hl hlk hn9 sb, q8⟩
  | ret u => obtain ⟨_, _, _, _, _, z⟩ := hf; exact False.elim z
  | brk => obtain ⟨_, _, _, z⟩ := hf; exact False.elim z
  | cont => obtain ⟨_, _, _, z⟩ := hf; exact False.elim z
end
end L2

set_option Elab.async false
set_option linter.all false
set_option maxRecDepth 100000
set_option maxHeartbeats 4000000
namespace L2
open PySem PySem.Spec PyProof.Rows
/-- try: f(e, ..) / except C as n: .., attributes kept -/
def tTryG (K : PySem.W.Frag) (C : Addr) (sp : Sp) (dvs : List V) (t : TA) (ie : Nat) (ts : TS) : TS := fun DE σ H => t σ H fun vs H1 => sp (vs ++ dvs) H1 (fun _ H2 => DE.nx σ H2) (fun cls dct H2 => ∃ D, cls = .ref D ∧
  PySem.W.mroIn K D (.ref C) = some true ∧ ∀ x, H2 x = none → ts (DE.asG ie) (σ.set ie (some (.ref x))) (upd H2 x (.ext (XCt x D dct))))
section
variable {X : Cx} {k ie : Nat} {f C : Addr} {fd : FuncData} {ps : List Str} {sp : Sp} {dvs : List V} {ds : List Value} {fx cn en : Str} {p pos p2 cp hp tp : Pos} {e : Expr} {es : List Expr} {t : TA} {b₀ : Stmt} {suite : List Stmt} {ts : TS}
theorem ps_tryG (hst : X.stack = X.env :: X.outer ∧ X.env.frame = some X.env.locals) (F : FnOk X.prog X.w X.K X.mg X.base (CXG X.prog X.w) k f fd ps sp) (hr : Room k X.A) (hg : Gl X fx) (hm : X.mg fx = some (.ref f)) (hk : PySem.W.keepIn X.K (.ref f) = true)
    (hb : Binds X.K fd ps ds) (hd : Vals dvs ds) (ha : PA X.nox (e :: es) t) (gC : Gl X cn) (mC : X.mg cn = some (.ref C)) (cC : XHd X.K C) (hN : X.N.Nodup) (hi : X.N[ie]? = some en) (hl : X.env.kindOf en = some .local)
    (hs : ∀ x, PSs (X.inX x) (b₀ :: suite) ts) (hdb : (fx == ("__debug__" : Str)) = false := by decide) (hdc : (cn == ("__debug__" : Str)) = false := by decide)
    (he : starEach (e :: es) X.env = (false, eval e X.env) :: starEach es X.env := by rfl) (hpl : (backTo pos (starEach es X.env)).any (·.1) = false := by rfl) (hsw : swapsWith (.Call (.Name fx p) (e :: es) [] pos) none p2.line X.env = pure false := by rfl) :
    PS X (.Try [.Expr (.Call (.Name fx p) (e :: es) [] pos) p2] [.ExceptHandler (some (.Name cn cp)) (some en) (b₀ :: suite) hp] [] [] tp) (tTryG X.K C sp dvs t ie ts) := by
  intro pins s σ H DE I h
  refine wpAny_Try_except ?_
  refine wpAny_execs_cons (wpAny_Expr_any ?_ I.quiet hsw)
  refine wpAny_Call_Name_kw (ld_glob I hg hm ?_ hdb)
  refine PySem.W.callWith_K (h₀ := X.base) I.ok.mod.kin hk (wpAny_mono (ha pos pins s σ H _ (I.wish _) h) (fun us s1 ⟨vs, H1, I1, r, q⟩ => ⟨I1.unwish.kIn, ?_⟩) fun _ _ z => False.elim z) he hpl
  have I1 := I1.unwish
  have r2 : Vals (vs ++ dvs) (us ++ ds) := r.append hd
  have hlen : (us ++ ds).length = ps.length := by rw [← r2.length]; exact F.len _ _ _ _ q
  refine wpAny_call (codeAny_mono (F.run X.A X.stack s1 H1 ⟨us, []⟩ (us ++ ds) (vs ++ dvs) _ _ hr I1.env0 (hb s1 us I1.kIn hlen) r2 q) fun r s' hq => ?_)
  cases r with
  | error e =>
    obtain ⟨x, D, dct, T, H', rfl, XGl, D', eD, hmro, q'⟩ := hq
    cases eD
    exact handleG I1 hst XGl gC mC cC hmro hN hi hl hs (q' x XGl.ux) hdc
  | ok fl =>
    cases fl with
    | ret u =>
      obtain ⟨v, H2, I2, rv, q2⟩ := I1.after hq
      exact wpAny_execs_nil (wpAny_execs_nil ⟨σ, H2, I2, q2⟩)
    | next => exact False.elim hq
    | brk => exact False.elim hq
    | cont => exact False.elim hq
end
/-- e.f of one that was caught -/
def tFldC (K : PySem.W.Frag) (ta : TE) (f : Str) : TE := fun σ H Q => ta σ H fun x H1 => ∃ a C cd dx fs v φ, x = .ref a ∧ XSet K C f cd ∧ XCls K C ∧ H1 a = some (.ext φ) ∧ (∀ h, φ h → XCt a C (some dx) h) ∧ H1 dx = some (.ext (XDct dx fs)) ∧ fs.lookup f = some v ∧ Q v H1
theorem pe_fldC {X : Cx} {e : Expr} {f : Str} {pos : Pos} {ta : TE} (he : PE X e ta) (hb : attributeBase e f X.env (eval e X.env) = eval e X.env := by rfl) : PE X (.Attribute e f pos) (tFldC X.K ta f) := by
  intro pins s σ H Q I h
  refine attr_of hb (thn (he pins s σ H _ I h) fun u s1 ⟨x, H1, I1, rx, a, C, cd, dx, fs, v, φ, ex, c, cl, ea, hφ, ed, l, q⟩ => ?_)
  subst ex
  obtain rfl : u = Value.ref a := rx
  obtain ⟨h1, g1, d1, t1, os1⟩ := s1
  obtain ⟨ob, vs, e1, e2, e3, e4⟩ := hφ _ (I1.hok a _ ea).1
  obtain ⟨⟨mA, nA, rA⟩, _⟩ := I1.hok dx _ ed
  have := rA f
  rw [l] at this
  obtain ⟨u', hu, ru⟩ := RelO.some_of this
  exact xa_attr cl I1.kIn c.na c.k c.dct e1 e2 e3 e4 nA.ns hu (relV_nb ru) ⟨v, H1, I1.tok _, ru, q⟩
end L2

set_option Elab.async false
set_option linter.all false
set_option maxRecDepth 100000
set_option maxHeartbeats 4000000
namespace L2
open PySem PySem.Spec PyProof.Rows
/-! ### long rows of arguments (the layer's own rule is slow for them) -/
def isSt : Expr → Bool
  | .Starred .. => true
  | _ => false
theorem star_cons {e : Expr} {es : List Expr} {env : Env} (h : isSt e = false) : starEach (e :: es) env = (false, eval e env) :: starEach es env := by
  cases e <;> first | rfl | cases h
theorem pa_consQ {X : Cx} {e : Expr} {es : List Expr} {te : TE} {t : TA} (ha : PE X e te) (hr : PA X es t) (h : isSt e = false := by rfl) : PA X (e :: es) (tCons te t) := pa_cons ha hr (star_cons h)
/-- a text's last return of one of twelve told things; the judgment is kept whole (unfolding it is slow) -/
@[irreducible] def PSq (X : Cx) (sts : List Stmt) (t : TS) : Prop := PSs X sts t
theorem pss_consI {X : Cx} {st : Stmt} {sts : List Stmt} {t u : TS} (h1 : PS X st t) (h2 : PSq X sts u) : PSs X (st :: sts) (tSeq t u) := by
  unfold PSq at h2
  exact pss_cons h1 h2
/-- two promises of one def -/
theorem FnOk.or {P : Program} {w : World} {K : PySem.W.Frag} {mg : Str → Option Value} {base : Heap} {CX : CXT} {k : Nat} {f : Addr} {fd : FuncData} {ps : List Str} {sp sp' : Sp} (F : FnOk P w K mg base CX k f fd ps sp) (F' : FnOk P w K mg base CX k f fd ps sp') :
    FnOk P w K mg base CX k f fd ps (fun vs H Q E => sp vs H Q E ∨ sp' vs H Q E) :=
  ⟨fun vs H Q E h => h.elim (F.len vs H Q E) (F'.len vs H Q E), fun A outer s H args us vs Q E hr he hb hv hs => hs.elim (F.run A outer s H args us vs Q E hr he hb hv) (F'.run A outer s H args us vs Q E hr he hb hv)⟩
theorem pe_fldCK {X : Cx} {K : PySem.W.Frag} {e : Expr} {f : Str} {pos : Pos} {ta : TE} (h : X.K = K) (he : PE X e ta) (hb : attributeBase e f X.env (eval e X.env) = eval e X.env := by rfl) : PE X (.Attribute e f pos) (tFldC K ta f) := h ▸ pe_fldC he hb
theorem call_isxK {X : Cx} {K : PySem.W.Frag} (h : X.K = K) : CallR X (.builtin "isinstance") (rIsX K) := h ▸ call_isx
section
variable {X : Cx} {k ie ir : Nat} {f C : Addr} {fd : FuncData} {ps : List Str} {sp : Sp} {dvs : List V} {ds : List Value} {fx cn en rn : Str} {p pos p2 p3 cp hp tp : Pos} {e : Expr} {es : List Expr} {t : TA} {b₀ : Stmt} {suite : List Stmt} {ts : TS}
end
end L2

set_option Elab.async false
set_option linter.all false
set_option maxRecDepth 100000
set_option maxHeartbeats 4000000
namespace HT
open PySem PySem.Spec PyProof.Rows
section
variable {prog : Program} {w : World} {A : Around} {E : Value → Shared → Prop} {s : Shared}
end
end HT
namespace L2
open PySem PySem.Spec PyProof.Rows
section
variable {X : Cx}
/-! ### () + t is t itself -/
/-! ### long rows, kept whole (unfolding the judgment is slow) -/
@[irreducible] def PAq (X : Cx) (es : List Expr) (t : TA) : Prop := PA X es t
theorem paq_nil : PAq X [] tNil := by unfold PAq; exact pa_nil
theorem paq_cons {e : Expr} {es : List Expr} {te : TE} {t : TA} (ha : PE X e te) (hr : PAq X es t) (h : isSt e = false := by rfl) : PAq X (e :: es) (tCons te t) := by
  unfold PAq at hr ⊢
  exact pa_consQ ha hr h
theorem pe_lstQ {es : List Expr} {t : TA} {pos : Pos} (h : PAq X es t) : PE X (.List es pos) (tLst t) := by
  unfold PAq at h
  exact pe_lst h
end
end L2

set_option Elab.async false
set_option linter.all false
set_option maxRecDepth 100000
set_option maxHeartbeats 4000000
namespace L2
open PySem PySem.Spec PyProof.Rows
/-! ### judgments kept whole, for rows of rows (unfolding them is slow) -/
section
variable {X : Cx}
@[irreducible] def PEq (X : Cx) (e : Expr) (t : TE) : Prop := PE X e t
@[irreducible] def PSt (X : Cx) (st : Stmt) (t : TS) : Prop := PS X st t
theorem peq_of {e : Expr} {t : TE} (h : PE X e t) : PEq X e t := by unfold PEq; exact h
theorem peq_out {e : Expr} {t : TE} (h : PEq X e t) : PE X e t := by unfold PEq at h; exact h
theorem pst_of {st : Stmt} {t : TS} (h : PS X st t) : PSt X st t := by unfold PSt; exact h
theorem pst_out {st : Stmt} {t : TS} (h : PSt X st t) : PS X st t := by unfold PSt at h; exact h
theorem peq_lst {es : List Expr} {t : TA} {pos : Pos} (h : PAq X es t) : PEq X (.List es pos) (tLst t) := peq_of (pe_lstQ h)
theorem paq_consq {e : Expr} {es : List Expr} {te : TE} {t : TA} (ha : PEq X e te) (hr : PAq X es t) (h : isSt e = false := by rfl) : PAq X (e :: es) (tCons te t) := paq_cons (peq_out ha) hr h
theorem psq_one {st : Stmt} {t : TS} (h : PSt X st t) : PSq X [st] t := by unfold PSq; exact pss_one (pst_out h)
theorem psq_cons {st : Stmt} {sts : List Stmt} {t u : TS} (h : PSt X st t) (h2 : PSq X sts u) : PSq X (st :: sts) (tSeq t u) := by
  unfold PSq at h2 ⊢
  exact pss_cons (pst_out h) h2
theorem psq_out {sts : List Stmt} {t : TS} (h : PSq X sts t) : PSs X sts t := by unfold PSq at h; exact h
theorem pst_set {i : Nat} {x : Str} {e : Expr} {te : TE} {pos pos' : Pos} (hN : X.N.Nodup) (hi : X.N[i]? = some x) (hx : Loc X.env.scope x) (he : PEq X e te) (hs : swapsWith e (some (.Name x pos')) pos.line X.env = pure false := by rfl) (hf : X.fn x = true ∨ X.env.scope.names.lookup x = some .local := by first | exact .inl rfl | exact .inr rfl | assumption) :
    PSt X (.Assign [.Name x pos'] e pos) (tAsg te (gName i)) := pst_of (ps_set hN hi hx (peq_out he) hs hf)
theorem pst_app {o e : Expr} {to te : TE} {apos cpos pos : Pos} (ho : PE X o to) (he : PEq X e te) (h : isSt e = false := by rfl) (hbase : attributeBase o "append" X.env (eval o X.env) = eval o X.env := by rfl)
    (hline : (apos.endLine == cpos.line) = true := by rfl) :
    PSt X (.Expr (.Call (.Attribute o "append" apos) [e] [] cpos) pos) (tDrop (tBM X.K "list" rAppend to (tCons te tNil))) := by
  refine pst_of (ps_expr (pe_m.append ho (pa_consQ (peq_out he) pa_nil h) hbase ?_ hline (star_cons h) rfl) ?_)
  · rw [star_cons h]; rfl
  · rfl
end
end L2

set_option Elab.async false
set_option linter.all false
set_option maxRecDepth 100000
set_option maxHeartbeats 4000000
namespace My
open PySem L2
/-! the text, by places -/
def top (i : Nat) : Stmt := PySem.Challenge.pw_fewspeak_k04_lines_refused.main.body.getD i (.Pass ⟨0, 0, 0, 0⟩)
abbrev s_NoListing___init__ : Stmt := inClass (top 2) 0
abbrev s_NoPlan___init__ : Stmt := inClass (top 4) 0
abbrev s_is_made_of : Stmt := top 11
abbrev s_is_name : Stmt := top 12
abbrev s_number_of : Stmt := top 13
abbrev s_has_listing_length : Stmt := top 20
abbrev s_is_path : Stmt := top 21
abbrev s_is_new_name : Stmt := top 22
abbrev s_has_path_length : Stmt := top 23
abbrev s_name_part : Stmt := top 24
abbrev s_path_part : Stmt := top 25
abbrev s_part_of : Stmt := top 26
abbrev s_unit_of : Stmt := top 27
abbrev s_words_of : Stmt := top 28
abbrev s_listing_of : Stmt := top 29
abbrev s_L_cell : Stmt := top 31
abbrev s_L_mixed : Stmt := top 32
abbrev s_L_names : Stmt := top 33
abbrev s_L_units : Stmt := top 34
abbrev s_L_line : Stmt := top 35
abbrev s_L_odd_word : Stmt := top 36
abbrev s_L_odd_line : Stmt := top 37
abbrev s_L_is_name : Stmt := top 38
abbrev s_L_is_number : Stmt := top 39
abbrev s_L_depth : Stmt := top 40
abbrev s_L_wrong_word : Stmt := top 41
abbrev s_L_due : Stmt := top 42
abbrev s_L_told : Stmt := top 43
abbrev s_L_no_units : Stmt := top 44
abbrev s_law : Stmt := top 45
theorem sc_NoListing___init__ : FnScope ["self", "line", "word"] ["self", "line", "word"] (defScope s_NoListing___init__) := ⟨rfl, rfl, rfl, by decide +kernel, rfl, by decide +kernel, by decide +kernel⟩
theorem sc_is_made_of : FnScope ["text", "signs", "most"] ["text", "signs", "most"] (defScope s_is_made_of) := ⟨rfl, rfl, rfl, by decide +kernel, rfl, by decide +kernel, by decide +kernel⟩
theorem sc_is_name : FnScope ["thing"] ["thing"] (defScope s_is_name) := ⟨rfl, rfl, rfl, by decide +kernel, rfl, by decide +kernel, by decide +kernel⟩
theorem sc_number_of : FnScope ["text", "low", "high", "figures", "number"] ["text", "low", "high"] (defScope s_number_of) := ⟨rfl, rfl, rfl, by decide +kernel, rfl, by decide +kernel, by decide +kernel⟩
theorem sc_has_listing_length : FnScope ["thing"] ["thing"] (defScope s_has_listing_length) := ⟨rfl, rfl, rfl, by decide +kernel, rfl, by decide +kernel, by decide +kernel⟩
theorem sc_is_path : FnScope ["thing"] ["thing"] (defScope s_is_path) := ⟨rfl, rfl, rfl, by decide +kernel, rfl, by decide +kernel, by decide +kernel⟩
theorem sc_is_new_name : FnScope ["name", "ahead"] ["name", "ahead"] (defScope s_is_new_name) := ⟨rfl, rfl, rfl, by decide +kernel, rfl, by decide +kernel, by decide +kernel⟩
theorem sc_has_path_length : FnScope ["path", "ahead"] ["path", "ahead"] (defScope s_has_path_length) := ⟨rfl, rfl, rfl, by decide +kernel, rfl, by decide +kernel, by decide +kernel⟩
theorem sc_name_part : FnScope ["word", "ahead"] ["word", "ahead"] (defScope s_name_part) := ⟨rfl, rfl, rfl, by decide +kernel, rfl, by decide +kernel, by decide +kernel⟩
theorem sc_path_part : FnScope ["word", "ahead", "path"] ["word", "ahead"] (defScope s_path_part) := ⟨rfl, rfl, rfl, by decide +kernel, rfl, by decide +kernel, by decide +kernel⟩
theorem sc_part_of : FnScope ["place", "word", "ahead"] ["place", "word", "ahead"] (defScope s_part_of) := ⟨rfl, rfl, rfl, by decide +kernel, rfl, by decide +kernel, by decide +kernel⟩
theorem sc_unit_of : FnScope ["words", "ahead", "line", "parts", "place", "word", "part"] ["words", "ahead"] (defScope s_unit_of) := ⟨rfl, rfl, rfl, by decide +kernel, rfl, by decide +kernel, by decide +kernel⟩
theorem sc_words_of : FnScope ["line"] ["line"] (defScope s_words_of) := ⟨rfl, rfl, rfl, by decide +kernel, rfl, by decide +kernel, by decide +kernel⟩
theorem sc_listing_of : FnScope ["lines", "units", "line"] ["lines"] (defScope s_listing_of) := ⟨rfl, rfl, rfl, by decide +kernel, rfl, by decide +kernel, by decide +kernel⟩
theorem sc_L_cell : FnScope ["_law_script", "_law_k"] ["_law_script", "_law_k"] (defScope s_L_cell) := ⟨rfl, rfl, rfl, by decide +kernel, rfl, by decide +kernel, by decide +kernel⟩
theorem sc_L_mixed : FnScope ["_law_cell_here", "_law_k", "_law_number"] ["_law_cell_here", "_law_k"] (defScope s_L_mixed) := ⟨rfl, rfl, rfl, by decide +kernel, rfl, by decide +kernel, by decide +kernel⟩
theorem sc_L_names : FnScope ["_law_cell_here", "_law_many", "_law_letters", "_law_place", "_law_first", "_law_stem", "_law_j", "_law_names_here", "_law_k", "_law_size", "_law_sign"] ["_law_cell_here", "_law_many"] (defScope s_L_names) := ⟨rfl, rfl, rfl, by decide +kernel, rfl, by decide +kernel, by decide +kernel⟩
theorem sc_L_units : FnScope ["_law_cell_here", "_law_many", "_law_deep", "_law_names_here", "_law_units_here", "_law_k", "_law_number", "_law_value", "_law_size", "_law_turn", "_law_path", "_law_j"] ["_law_cell_here"] (defScope s_L_units) := ⟨rfl, rfl, rfl, by decide +kernel, rfl, by decide +kernel, by decide +kernel⟩
theorem sc_L_line : FnScope ["_law_unit", "_law_path"] ["_law_unit"] (defScope s_L_line) := ⟨rfl, rfl, rfl, by decide +kernel, rfl, by decide +kernel, by decide +kernel⟩
theorem sc_L_odd_word : FnScope ["_law_words", "_law_at", "_law_number", "_law_odd", "_law_some"] ["_law_words", "_law_at", "_law_number"] (defScope s_L_odd_word) := ⟨rfl, rfl, rfl, by decide +kernel, rfl, by decide +kernel, by decide +kernel⟩
theorem sc_L_odd_line : FnScope ["_law_lines", "_law_at", "_law_cell_here", "_law_number", "_law_way", "_law_odd", "_law_words"] ["_law_lines", "_law_at", "_law_cell_here"] (defScope s_L_odd_line) := ⟨rfl, rfl, rfl, by decide +kernel, rfl, by decide +kernel, by decide +kernel⟩
theorem sc_L_is_name : FnScope ["_law_text"] ["_law_text"] (defScope s_L_is_name) := ⟨rfl, rfl, rfl, by decide +kernel, rfl, by decide +kernel, by decide +kernel⟩
theorem sc_L_is_number : FnScope ["_law_text", "_law_low", "_law_high", "_law_bare"] ["_law_text", "_law_low", "_law_high"] (defScope s_L_is_number) := ⟨rfl, rfl, rfl, by decide +kernel, rfl, by decide +kernel, by decide +kernel⟩
theorem sc_L_depth : FnScope ["_law_word", "_law_names_here"] ["_law_word"] (defScope s_L_depth) := ⟨rfl, rfl, rfl, by decide +kernel, rfl, by decide +kernel, by decide +kernel⟩
theorem sc_L_wrong_word : FnScope ["_law_line_here", "_law_names_here", "_law_deep", "_law_words", "_law_at", "_law_good"] ["_law_line_here", "_law_names_here", "_law_deep"] (defScope s_L_wrong_word) := ⟨rfl, rfl, rfl, by decide +kernel, rfl, by decide +kernel, by decide +kernel⟩
theorem sc_L_due : FnScope ["_law_lines", "_law_names_here", "_law_deep", "_law_number", "_law_line_here", "_law_at", "_law_words"] ["_law_lines"] (defScope s_L_due) := ⟨rfl, rfl, rfl, by decide +kernel, rfl, by decide +kernel, by decide +kernel⟩
theorem sc_L_told : FnScope ["_law_lines", "_law_told_here", "e"] ["_law_lines"] (defScope s_L_told) := ⟨rfl, rfl, rfl, by decide +kernel, rfl, by decide +kernel, by decide +kernel⟩
theorem sc_L_no_units : FnScope ["_law_thing", "_law_error", "e"] ["_law_thing"] (defScope s_L_no_units) := ⟨rfl, rfl, rfl, by decide +kernel, rfl, by decide +kernel, by decide +kernel⟩
theorem sc_law : FnScope ["_law_script", "_law_lines", "_law_k", "_law_cell_here", "_law_spoiled", "_law_j", "_law_at", "_law_handed", "_law_thing"] ["_law_script"] (defScope s_law) := ⟨rfl, rfl, rfl, by decide +kernel, rfl, by decide +kernel, by decide +kernel⟩
theorem bt_ValueError : bootBuiltins "ValueError" = some (.type "ValueError") := by decide +kernel
def mroIn' (K : PySem.W.Frag) (D C : Addr) : Bool := PySem.W.mroIn K D (.ref C) == some true
set_option genInjectivity false in
set_option genSizeOf false in
structure Ad where
  f_is_made_of : Addr
  d_is_made_of : FuncData
  f_is_name : Addr
  d_is_name : FuncData
  f_number_of : Addr
  d_number_of : FuncData
  f_has_listing_length : Addr
  d_has_listing_length : FuncData
  f_is_path : Addr
  d_is_path : FuncData
  f_is_new_name : Addr
  d_is_new_name : FuncData
  f_has_path_length : Addr
  d_has_path_length : FuncData
  f_name_part : Addr
  d_name_part : FuncData
  f_path_part : Addr
  d_path_part : FuncData
  f_part_of : Addr
  d_part_of : FuncData
  f_unit_of : Addr
  d_unit_of : FuncData
  f_words_of : Addr
  d_words_of : FuncData
  f_listing_of : Addr
  d_listing_of : FuncData
  f_L_cell : Addr
  d_L_cell : FuncData
  f_L_mixed : Addr
  d_L_mixed : FuncData
  f_L_names : Addr
  d_L_names : FuncData
  f_L_units : Addr
  d_L_units : FuncData
  f_L_line : Addr
  d_L_line : FuncData
  f_L_odd_word : Addr
  d_L_odd_word : FuncData
  f_L_odd_line : Addr
  d_L_odd_line : FuncData
  f_L_is_name : Addr
  d_L_is_name : FuncData
  f_L_is_number : Addr
  d_L_is_number : FuncData
  f_L_depth : Addr
  d_L_depth : FuncData
  f_L_wrong_word : Addr
  d_L_wrong_word : FuncData
  f_L_due : Addr
  d_L_due : FuncData
  f_L_told : Addr
  d_L_told : FuncData
  f_L_no_units : Addr
  d_L_no_units : FuncData
  f_law : Addr
  d_law : FuncData
  c_SpeakError : Addr
  c_NoListing : Addr
  i_NoListing : Addr
  e_NoListing : FuncData
  c_NoUnits : Addr
  c_NoPlan : Addr
  i_NoPlan : Addr
  e_NoPlan : FuncData
  c_NoLevel : Addr
structure Txt (K : PySem.W.Frag) (mg : Str → Option Value) (a : Ad) : Prop where
  F_is_made_of : Fun K "is_made_of" "is_made_of" s_is_made_of a.f_is_made_of a.d_is_made_of
  B_is_made_of : Binds K a.d_is_made_of ["text", "signs", "most"] []
  m_is_made_of : mg "is_made_of" = some (.ref a.f_is_made_of)
  F_is_name : Fun K "is_name" "is_name" s_is_name a.f_is_name a.d_is_name
  B_is_name : Binds K a.d_is_name ["thing"] []
  m_is_name : mg "is_name" = some (.ref a.f_is_name)
  F_number_of : Fun K "number_of" "number_of" s_number_of a.f_number_of a.d_number_of
  B_number_of : Binds K a.d_number_of ["text", "low", "high"] []
  m_number_of : mg "number_of" = some (.ref a.f_number_of)
  F_has_listing_length : Fun K "has_listing_length" "has_listing_length" s_has_listing_length a.f_has_listing_length a.d_has_listing_length
  B_has_listing_length : Binds K a.d_has_listing_length ["thing"] []
  m_has_listing_length : mg "has_listing_length" = some (.ref a.f_has_listing_length)
  F_is_path : Fun K "is_path" "is_path" s_is_path a.f_is_path a.d_is_path
  B_is_path : Binds K a.d_is_path ["thing"] []
  m_is_path : mg "is_path" = some (.ref a.f_is_path)
  F_is_new_name : Fun K "is_new_name" "is_new_name" s_is_new_name a.f_is_new_name a.d_is_new_name
  B_is_new_name : Binds K a.d_is_new_name ["name", "ahead"] []
  m_is_new_name : mg "is_new_name" = some (.ref a.f_is_new_name)
  F_has_path_length : Fun K "has_path_length" "has_path_length" s_has_path_length a.f_has_path_length a.d_has_path_length
  B_has_path_length : Binds K a.d_has_path_length ["path", "ahead"] []
  m_has_path_length : mg "has_path_length" = some (.ref a.f_has_path_length)
  F_name_part : Fun K "name_part" "name_part" s_name_part a.f_name_part a.d_name_part
  B_name_part : Binds K a.d_name_part ["word", "ahead"] []
  m_name_part : mg "name_part" = some (.ref a.f_name_part)
  F_path_part : Fun K "path_part" "path_part" s_path_part a.f_path_part a.d_path_part
  B_path_part : Binds K a.d_path_part ["word", "ahead"] []
  m_path_part : mg "path_part" = some (.ref a.f_path_part)
  F_part_of : Fun K "part_of" "part_of" s_part_of a.f_part_of a.d_part_of
  B_part_of : Binds K a.d_part_of ["place", "word", "ahead"] []
  m_part_of : mg "part_of" = some (.ref a.f_part_of)
  F_unit_of : Fun K "unit_of" "unit_of" s_unit_of a.f_unit_of a.d_unit_of
  B_unit_of : Binds K a.d_unit_of ["words", "ahead"] []
  m_unit_of : mg "unit_of" = some (.ref a.f_unit_of)
  F_words_of : Fun K "words_of" "words_of" s_words_of a.f_words_of a.d_words_of
  B_words_of : Binds K a.d_words_of ["line"] []
  m_words_of : mg "words_of" = some (.ref a.f_words_of)
  F_listing_of : Fun K "listing_of" "listing_of" s_listing_of a.f_listing_of a.d_listing_of
  B_listing_of : Binds K a.d_listing_of ["lines"] []
  m_listing_of : mg "listing_of" = some (.ref a.f_listing_of)
  F_L_cell : Fun K "_law_cell" "_law_cell" s_L_cell a.f_L_cell a.d_L_cell
  B_L_cell : Binds K a.d_L_cell ["_law_script", "_law_k"] []
  m_L_cell : mg "_law_cell" = some (.ref a.f_L_cell)
  F_L_mixed : Fun K "_law_mixed" "_law_mixed" s_L_mixed a.f_L_mixed a.d_L_mixed
  B_L_mixed : Binds K a.d_L_mixed ["_law_cell_here", "_law_k"] []
  m_L_mixed : mg "_law_mixed" = some (.ref a.f_L_mixed)
  F_L_names : Fun K "_law_names" "_law_names" s_L_names a.f_L_names a.d_L_names
  B_L_names : Binds K a.d_L_names ["_law_cell_here", "_law_many"] []
  m_L_names : mg "_law_names" = some (.ref a.f_L_names)
  F_L_units : Fun K "_law_units" "_law_units" s_L_units a.f_L_units a.d_L_units
  B_L_units : Binds K a.d_L_units ["_law_cell_here"] []
  m_L_units : mg "_law_units" = some (.ref a.f_L_units)
  F_L_line : Fun K "_law_line" "_law_line" s_L_line a.f_L_line a.d_L_line
  B_L_line : Binds K a.d_L_line ["_law_unit"] []
  m_L_line : mg "_law_line" = some (.ref a.f_L_line)
  F_L_odd_word : Fun K "_law_odd_word" "_law_odd_word" s_L_odd_word a.f_L_odd_word a.d_L_odd_word
  B_L_odd_word : Binds K a.d_L_odd_word ["_law_words", "_law_at", "_law_number"] []
  m_L_odd_word : mg "_law_odd_word" = some (.ref a.f_L_odd_word)
  F_L_odd_line : Fun K "_law_odd_line" "_law_odd_line" s_L_odd_line a.f_L_odd_line a.d_L_odd_line
  B_L_odd_line : Binds K a.d_L_odd_line ["_law_lines", "_law_at", "_law_cell_here"] []
  m_L_odd_line : mg "_law_odd_line" = some (.ref a.f_L_odd_line)
  F_L_is_name : Fun K "_law_is_name" "_law_is_name" s_L_is_name a.f_L_is_name a.d_L_is_name
  B_L_is_name : Binds K a.d_L_is_name ["_law_text"] []
  m_L_is_name : mg "_law_is_name" = some (.ref a.f_L_is_name)
  F_L_is_number : Fun K "_law_is_number" "_law_is_number" s_L_is_number a.f_L_is_number a.d_L_is_number
  B_L_is_number : Binds K a.d_L_is_number ["_law_text", "_law_low", "_law_high"] []
  m_L_is_number : mg "_law_is_number" = some (.ref a.f_L_is_number)
  F_L_depth : Fun K "_law_depth" "_law_depth" s_L_depth a.f_L_depth a.d_L_depth
  B_L_depth : Binds K a.d_L_depth ["_law_word"] []
  m_L_depth : mg "_law_depth" = some (.ref a.f_L_depth)
  F_L_wrong_word : Fun K "_law_wrong_word" "_law_wrong_word" s_L_wrong_word a.f_L_wrong_word a.d_L_wrong_word
  B_L_wrong_word : Binds K a.d_L_wrong_word ["_law_line_here", "_law_names_here", "_law_deep"] []
  m_L_wrong_word : mg "_law_wrong_word" = some (.ref a.f_L_wrong_word)
  F_L_due : Fun K "_law_due" "_law_due" s_L_due a.f_L_due a.d_L_due
  B_L_due : Binds K a.d_L_due ["_law_lines"] []
  m_L_due : mg "_law_due" = some (.ref a.f_L_due)
  F_L_told : Fun K "_law_told" "_law_told" s_L_told a.f_L_told a.d_L_told
  B_L_told : Binds K a.d_L_told ["_law_lines"] []
  m_L_told : mg "_law_told" = some (.ref a.f_L_told)
  F_L_no_units : Fun K "_law_no_units" "_law_no_units" s_L_no_units a.f_L_no_units a.d_L_no_units
  B_L_no_units : Binds K a.d_L_no_units ["_law_thing"] []
  m_L_no_units : mg "_law_no_units" = some (.ref a.f_L_no_units)
  F_law : Fun K "law" "law" s_law a.f_law a.d_law
  B_law : Binds K a.d_law ["_law_script"] []
  m_law : mg "law" = some (.ref a.f_law)
  g_LETTERS : ∃ u, mg "LETTERS" = some u ∧ RelV (.str "abcdefghijklmnopqrstuvwxyz") u
  g_FIGURES : ∃ u, mg "FIGURES" = some u ∧ RelV (.str "0123456789") u
  g_MOST_LETTERS : ∃ u, mg "MOST_LETTERS" = some u ∧ RelV (.int 8) u
  g_MOST_FIGURES : ∃ u, mg "MOST_FIGURES" = some u ∧ RelV (.int 12) u
  g_MOST_UNITS : ∃ u, mg "MOST_UNITS" = some u ∧ RelV (.int 24) u
  g_MOST_LEVELS : ∃ u, mg "MOST_LEVELS" = some u ∧ RelV (.int 3) u
  g_VALUE_BOUND : ∃ u, mg "VALUE_BOUND" = some u ∧ RelV (.int 1000000000) u
  g_MOST_SIZE : ∃ u, mg "MOST_SIZE" = some u ∧ RelV (.int 1000000) u
  g_UNIT_PARTS : ∃ u, mg "UNIT_PARTS" = some u ∧ RelV (.int 4) u
  mc_SpeakError : mg "SpeakError" = some (.ref a.c_SpeakError)
  g_SpeakError : ∃ u, mg "SpeakError" = some u ∧ RelV (.ref a.c_SpeakError) u
  kc_SpeakError : PySem.W.keepIn K (.ref a.c_SpeakError) = true
  xc_SpeakError : XCls K a.c_SpeakError
  xh_SpeakError : XHd K a.c_SpeakError
  xi_SpeakError : xIn K a.c_SpeakError none = true
  mc_NoListing : mg "NoListing" = some (.ref a.c_NoListing)
  g_NoListing : ∃ u, mg "NoListing" = some u ∧ RelV (.ref a.c_NoListing) u
  kc_NoListing : PySem.W.keepIn K (.ref a.c_NoListing) = true
  xc_NoListing : XCls K a.c_NoListing
  xh_NoListing : XHd K a.c_NoListing
  xi_NoListing : xIn K a.c_NoListing (some (.ref a.i_NoListing)) = true
  fn_NoListing : PySem.W.isFn K (.ref a.i_NoListing) = true
  Fi_NoListing : Fun K "__init__" "NoListing.__init__" s_NoListing___init__ a.i_NoListing a.e_NoListing
  Bi_NoListing : Binds K a.e_NoListing ["self", "line", "word"] []
  sx_NoListing_line : ∃ cd, XSet K a.c_NoListing "line" cd
  sx_NoListing_word : ∃ cd, XSet K a.c_NoListing "word" cd
  mc_NoUnits : mg "NoUnits" = some (.ref a.c_NoUnits)
  g_NoUnits : ∃ u, mg "NoUnits" = some u ∧ RelV (.ref a.c_NoUnits) u
  kc_NoUnits : PySem.W.keepIn K (.ref a.c_NoUnits) = true
  xc_NoUnits : XCls K a.c_NoUnits
  xh_NoUnits : XHd K a.c_NoUnits
  xi_NoUnits : xIn K a.c_NoUnits none = true
  mc_NoPlan : mg "NoPlan" = some (.ref a.c_NoPlan)
  g_NoPlan : ∃ u, mg "NoPlan" = some u ∧ RelV (.ref a.c_NoPlan) u
  kc_NoPlan : PySem.W.keepIn K (.ref a.c_NoPlan) = true
  xc_NoPlan : XCls K a.c_NoPlan
  xh_NoPlan : XHd K a.c_NoPlan
  xi_NoPlan : xIn K a.c_NoPlan (some (.ref a.i_NoPlan)) = true
  fn_NoPlan : PySem.W.isFn K (.ref a.i_NoPlan) = true
  Fi_NoPlan : Fun K "__init__" "NoPlan.__init__" s_NoPlan___init__ a.i_NoPlan a.e_NoPlan
  Bi_NoPlan : Binds K a.e_NoPlan ["self", "place"] []
  sx_NoPlan_place : ∃ cd, XSet K a.c_NoPlan "place" cd
  mc_NoLevel : mg "NoLevel" = some (.ref a.c_NoLevel)
  g_NoLevel : ∃ u, mg "NoLevel" = some u ∧ RelV (.ref a.c_NoLevel) u
  kc_NoLevel : PySem.W.keepIn K (.ref a.c_NoLevel) = true
  xc_NoLevel : XCls K a.c_NoLevel
  xh_NoLevel : XHd K a.c_NoLevel
  xi_NoLevel : xIn K a.c_NoLevel none = true
  tn : mroIn' K a.c_NoListing a.c_NoListing = true
  tu : mroIn' K a.c_NoUnits a.c_SpeakError = true
  a1 : PySem.W.kitAny K (.ref a.c_NoListing) [.ref a.c_NoUnits, .ref a.c_NoPlan, .ref a.c_NoLevel] = some false
  a2 : PySem.W.kitOne K (.ref a.c_NoListing) (.type "ValueError") = some true
  u1 : PySem.W.kitOne K (.ref a.c_NoUnits) (.ref a.c_NoUnits) = some true
  u2 : PySem.W.kitOne K (.ref a.c_NoUnits) (.ref a.c_NoListing) = some false
  z_ValueError : mg "ValueError" = none
  z_all : mg "all" = none
  z_enumerate : mg "enumerate" = none
  z_int : mg "int" = none
  z_isinstance : mg "isinstance" = none
  z_len : mg "len" = none
  z_list : mg "list" = none
  z_max : mg "max" = none
  z_min : mg "min" = none
  z_range : mg "range" = none
  z_str : mg "str" = none
  z_tuple : mg "tuple" = none
  bl : ∀ (s : Shared) (u : Value), BindsTo s a.d_law ⟨[u], []⟩ [("_law_script", u)]
/-! promises -/
theorem within_some (lo hi n : Int) : within lo hi (some n) = if lo ≤ n ∧ n ≤ hi then some n else none := rfl
def spCell (K : PySem.W.Frag) : Sp := fun vs H Q _ => ∃ (p : Addr) (ns : List Int) (k : Int), vs = [.ref p, .int k] ∧ SqL K H p (ns.map V.int) ∧ ns.length ≤ 63 ∧ 0 ≤ k ∧ k ≤ 1000 ∧ Q (.int (cellAt ns k)) H
def spMixed : Sp := fun vs H Q _ => ∃ (c k : Int), vs = [.int c, .int k] ∧ 0 ≤ k ∧ k ≤ 1000 ∧ Q (.int (mixed c k)) H
def spMade : Sp := fun vs H Q _ => ∃ (t S : Str) (m : Int), vs = [.str t, .str S, .int m] ∧ t.length ≤ sizeLine ∧ ∀ H', Same H H' → Q (.bl (madeB t S m)) H'
def spNumOf : Sp := fun vs H Q _ => ∃ (t : Str) (lo hi : Int), vs = [.str t, .int lo, .int hi] ∧ t.length ≤ 640 ∧ ∀ H', Same H H' → Q (oV (within lo hi (NumM.numO t.cps.toList))) H'
def spNew : Sp := fun vs H Q _ => ∃ (n : Str) (l : Addr) (us : List U) (xs : List V), vs = [.str n, .ref l] ∧ H l = some (.lst xs) ∧ AllU H us xs ∧ xs.length ≤ sizeLine ∧ ∀ H', Same H H' → Q (.bl (!decide (n ∈ us.map U.name))) H'
/-- what a thing is, as the text asks it -/
inductive Cl
  | int (i : Int)
  | str (t : Str)
  | tup (xs : List V)
  | other
inductive IsC (H : Hp) : V → Cl → Prop
  | int (i : Int) : IsC H (.int i) (.int i)
  | str (t : Str) (h : t.length ≤ sizeLine) : IsC H (.str t) (.str t)
  | tup (p : Addr) (xs : List V) (e : H p = some (.tup xs)) : IsC H (.ref p) (.tup xs)
  | bl (b : Bool) : IsC H (.bl b) .other
  | non : IsC H .non .other
  | lst (p : Addr) (xs : List V) (e : H p = some (.lst xs)) : IsC H (.ref p) .other
  | dK (p : Addr) (kvs : List (Key × V)) (e : H p = some (.dK kvs)) : IsC H (.ref p) .other
theorem IsC.same {H H' : Hp} {x : V} {c : Cl} (s : Same H H') (h : IsC H x c) : IsC H' x c := by
  cases h with
  | int i => exact .int i
  | str t h => exact .str t h
  | tup p xs e => exact .tup p xs (s _ _ e)
  | bl b => exact .bl b
  | non => exact .non
  | lst p xs e => exact .lst p xs (s _ _ e)
  | dK p kvs e => exact .dK p kvs (s _ _ e)
abbrev AllC (H : Hp) : List Cl → List V → Prop := PySem.Paired fun c x => IsC H x c
theorem AllC.same {H H' : Hp} (s : Same H H') : ∀ {cs : List Cl} {xs : List V}, AllC H cs xs → AllC H' cs xs
  | _, _, .nil => .nil
  | _, _, .cons r t => .cons (r.same s) (AllC.same s t)
theorem AllC.get {H : Hp} : ∀ {cs : List Cl} {xs : List V} {i : Nat} {x : V}, AllC H cs xs → xs[i]? = some x → ∃ c, cs[i]? = some c ∧ IsC H x c
  | _, _, _, _, .nil, h => by cases h
  | _, _, 0, _, .cons r _, h => ⟨_, rfl, by cases h; exact r⟩
  | _, _, i + 1, _, .cons _ t, h => AllC.get (i := i) t h
def clN : Cl → Bool
  | .str t => nameB t
  | _ => false
inductive PathC (H : Hp) : V → Bool → Prop
  | no (x : V) (c : Cl) (h : IsC H x c) (n : ∀ xs, c ≠ .tup xs) : PathC H x false
  | tup (p : Addr) (xs : List V) (cs : List Cl) (e : H p = some (.tup xs)) (z : xs.length ≤ 1000) (h : AllC H cs xs) : PathC H (.ref p) (decide ((xs.length : Int) ≤ 3) && cs.all clN)
theorem PathC.same {H H' : Hp} {x : V} {b : Bool} (s : Same H H') (h : PathC H x b) : PathC H' x b := by
  cases h with
  | no _ c h n => exact .no _ c (h.same s) n
  | tup p xs cs e z h => exact .tup p xs cs (s _ _ e) z (h.same s)
theorem all_strs {H : Hp} : ∀ {ts : List Str}, (∀ t ∈ ts, t.length ≤ sizeLine) → AllC H (ts.map Cl.str) (ts.map V.str)
  | [], _ => .nil
  | t :: ts, h => .cons (.str t (h t List.mem_cons_self)) (all_strs fun t' ht => h t' (List.mem_cons_of_mem _ ht))
def plenB (ts : List Str) : List U → Bool
  | [] => true
  | u :: _ => decide (ts.length = u.path.length)
def spName : Sp := fun vs H Q _ => ∃ (x : V) (c : Cl), vs = [x] ∧ IsC H x c ∧ ∀ H', Same H H' → Q (.bl (clN c)) H'
def spPath : Sp := fun vs H Q _ => ∃ (x : V) (b : Bool), vs = [x] ∧ PathC H x b ∧ ∀ H', Same H H' → Q (.bl b) H'
def spPlen : Sp := fun vs H Q _ => ∃ (p l : Addr) (ts : List Str) (us : List U) (xs : List V), vs = [.ref p, .ref l] ∧ H p = some (.tup (ts.map V.str)) ∧ H l = some (.lst xs) ∧ AllU H us xs ∧ Q (.bl (plenB ts us)) H
/-- no list of 1 to 24 things -/
inductive NoLen (H : Hp) : V → Prop
  | no (x : V) (c : Cl) (h : IsC H x c) (n : ∀ p xs, x = .ref p → H p ≠ some (.lst xs)) : NoLen H x
  | len (p : Addr) (xs : List V) (e : H p = some (.lst xs)) (n : ¬ (1 ≤ xs.length ∧ xs.length ≤ 24)) : NoLen H (.ref p)
def spHll : Sp := fun vs H Q _ => ∃ (x : V), vs = [x] ∧ ((∃ p xs, x = .ref p ∧ H p = some (.lst xs) ∧ 1 ≤ xs.length ∧ xs.length ≤ 24 ∧ Q (.bl true) H) ∨ (NoLen H x ∧ Q (.bl false) H))
/-! lines -/
def splS (c : Nat) (t : Str) : List Str := (SplM.splitC c t.cps.toList).map fun l => ⟨l.toArray⟩
theorem splS_eq {c : Nat} {t : Str} {ts : List Str} (h : ts.map (fun t => t.cps.toList) = SplM.splitC c t.cps.toList) : ts = splS c t := by
  apply strs_inj
  rw [h]
  unfold splS
  rw [List.map_map]
  conv => lhs; rw [← List.map_id (SplM.splitC c t.cps.toList)]
  refine List.map_congr_left fun l _ => ?_
  show l = (⟨l.toArray⟩ : Str).cps.toList
  simp
theorem split_le (c : Nat) : ∀ (l p : List Nat), p ∈ SplM.splitC c l → p.length ≤ l.length
  | [], p, h => by
    have : p = [] := by simpa [SplM.splitC] using h
    rw [this]; exact Nat.le_refl _
  | b :: l, p, h => by
    unfold SplM.splitC at h
    by_cases e : b = c
    · rw [if_pos e] at h
      rcases List.mem_cons.mp h with h | h
      · rw [h]; exact Nat.zero_le _
      · have := split_le c l p h
        rw [List.length_cons]; omega
    · rw [if_neg e] at h
      cases hs : SplM.splitC c l with
      | nil => exact absurd hs (SplM.splitC_ne c l)
      | cons q r =>
        rw [hs] at h
        rcases List.mem_cons.mp h with h | h
        · rw [h, List.length_cons, List.length_cons]
          have := split_le c l q (by rw [hs]; exact List.mem_cons_self)
          omega
        · have := split_le c l p (by rw [hs]; exact List.mem_cons_of_mem _ h)
          rw [List.length_cons]; omega
theorem splS_len {c : Nat} {t : Str} {w : Str} (h : w ∈ splS c t) : w.cps.size ≤ t.cps.size := by
  unfold splS at h
  obtain ⟨l, hl, rfl⟩ := List.mem_map.mp h
  show l.toArray.size ≤ _
  rw [List.size_toArray, ← Array.length_toList]
  exact split_le c _ l hl
def pathO (w : Str) : Option (List Str) := if w = "-" then some [] else if (splS 46 w).length ≤ 3 ∧ (splS 46 w).all nameB = true then some (splS 46 w) else none
def numW (lo hi : Int) (w : Str) : Option Int := within lo hi (NumM.numO w.cps.toList)
def okW (us : List U) : Nat → Str → Bool
  | 0, w => nameB w && !decide (w ∈ us.map U.name)
  | 1, w => (numW (-1000000000) 1000000000 w).isSome
  | 2, w => (numW 1 1000000 w).isSome
  | _, w => match pathO w with
    | some ps => plenB ps us
    | none => false
def spNamePart : Sp := fun vs H Q _ => ∃ (n : Str) (l : Addr) (us : List U) (xs : List V), vs = [.str n, .ref l] ∧ n.length ≤ sizeLine ∧ H l = some (.lst xs) ∧ AllU H us xs ∧ xs.length ≤ sizeLine ∧ ∀ H', Same H H' → Q (if okW us 0 n then .str n else .non) H'
def spPathPart : Sp := fun vs H Q _ => ∃ (t : Str) (l : Addr) (us : List U) (xs : List V), vs = [.str t, .ref l] ∧ t.length ≤ 640 ∧ H l = some (.lst xs) ∧ AllU H us xs ∧
  (∀ ps H' p, pathO t = some ps → plenB ps us = true → Same H H' → H' p = some (.tup (ps.map V.str)) → Q (.ref p) H') ∧ (okW us 3 t = false → ∀ H', Same H H' → Q .non H')
theorem split_cnt (c : Nat) : ∀ (l : List Nat), (SplM.splitC c l).length ≤ l.length + 1
  | [] => by simp [SplM.splitC]
  | b :: l => by
    have ih := split_cnt c l
    unfold SplM.splitC
    by_cases e : b = c
    · rw [if_pos e, List.length_cons, List.length_cons]; omega
    · rw [if_neg e]
      cases hs : SplM.splitC c l with
      | nil => simp
      | cons q r => rw [hs] at ih; rw [List.length_cons] at ih ⊢; rw [List.length_cons]; omega
theorem splS_cnt (c : Nat) (t : Str) : (splS c t).length ≤ t.cps.size + 1 := by
  unfold splS
  rw [List.length_map, ← Array.length_toList]
  exact split_cnt c _
/-- a part read from a word -/
def PV (k : Nat) (t : Str) (H : Hp) (v : V) : Prop := (k = 0 ∧ v = .str t) ∨ (k = 1 ∧ ∃ n, numW (-1000000000) 1000000000 t = some n ∧ v = .int n) ∨ (k = 2 ∧ ∃ n, numW 1 1000000 t = some n ∧ v = .int n) ∨ (k = 3 ∧ ∃ ps p, pathO t = some ps ∧ v = .ref p ∧ H p = some (.tup (ps.map V.str)))
theorem PV.tk {k : Nat} {t : Str} {H H' : Hp} {v : V} (e : TK H H') (h : PV k t H v) : PV k t H' v := by
  rcases h with h | h | h | ⟨h, ps, p, h1, h2, h3⟩
  · exact .inl h
  · exact .inr (.inl h)
  · exact .inr (.inr (.inl h))
  · exact .inr (.inr (.inr ⟨h, ps, p, h1, h2, e p _ h3⟩))
theorem PV.nn {k : Nat} {t : Str} {H : Hp} {v : V} (h : PV k t H v) : v ≠ .non := fun z => by
  rcases h with h | ⟨_, n, _, h⟩ | ⟨_, n, _, h⟩ | ⟨_, ps, p, _, h, _⟩
  · rw [h.2] at z; cases z
  · rw [h] at z; cases z
  · rw [h] at z; cases z
  · rw [h] at z; cases z
def spPartOf : Sp := fun vs H Q _ => ∃ (k : Nat) (t : Str) (l : Addr) (us : List U) (xs : List V), vs = [.int (k : Nat), .str t, .ref l] ∧ k < 4 ∧ t.length ≤ 640 ∧ H l = some (.lst xs) ∧ AllU H us xs ∧ xs.length ≤ sizeLine ∧
  (okW us k t = true → ∀ H' v, Same H H' → PV k t H' v → Q v H') ∧ (okW us k t = false → ∀ H', Same H H' → Q .non H')
/-- the first of the first four words that is wrong -/
def firstBad (us : List U) : Nat → List Str → Option Nat
  | _, [] => none
  | k, t :: r => if okW us k t = true then firstBad us (k + 1) r else some k
def wrongW (us : List U) (ws : List Str) : Option Nat := match firstBad us 0 (ws.take 4) with
  | some k => some k
  | none => if ws.length = 4 then none else some (min 4 ws.length)
def unitW (ws : List Str) : U := { name := ws.getD 0 Str.empty, value := (numW (-1000000000) 1000000000 (ws.getD 1 Str.empty)).getD 0, size := (numW 1 1000000 (ws.getD 2 Str.empty)).getD 0, path := (pathO (ws.getD 3 Str.empty)).getD [] }
theorem good_all {us : List U} : ∀ (ws : List Str) (k : Nat), firstBad us k ws = none → ∀ i t, ws[i]? = some t → okW us (k + i) t = true
  | [], k, h, i, t, e => by cases e
  | t0 :: r, k, h, i, t, e => by
    unfold firstBad at h
    by_cases c : okW us k t0 = true
    · rw [if_pos c] at h
      cases i with
      | zero => cases e; exact c
      | succ i => have := good_all r (k + 1) h i t e; rw [show k + (i + 1) = k + 1 + i by omega]; exact this
    · rw [if_neg c] at h; cases h
def spI2 (c : Addr) (f1 f2 : Str) : Sp := fun vs H Q _ => ∃ (x : Addr) (m n : Int), vs = [.ref x, .int m, .int n] ∧ H x = some (.ext (XD0 x c)) ∧
  ∀ dx, H dx = none → dx ≠ x → Q .non (upd (upd (upd H dx (.ext (XDct dx [(f1, .int m)]))) x (.ext (XD1 x c dx))) dx (.ext (XDct dx [(f2, .int n), (f1, .int m)])))
theorem len2 {c : Addr} {f1 f2 : Str} : ∀ vs H Q E, spI2 c f1 f2 vs H Q E → vs.length ≤ 100 := by
  rintro _ _ _ _ ⟨_, _, _, rfl, _⟩; exact (by decide : 3 ≤ 100)
/-- refused with the line and the word -/
def RefL (a : Ad) (H : Hp) (E : XK) (i k : Nat) : Prop := ∀ H' dx, Same H H' → H' dx = some (.ext (XDct dx [("word", .int (k : Nat)), ("line", .int (i : Nat))])) → E (.ref a.c_NoListing) (some dx) H'
def spUnitOf (a : Ad) : Sp := fun vs H Q E => ∃ (wl l : Addr) (ws : List Str) (us : List U) (xs : List V), vs = [.ref wl, .ref l] ∧ H wl = some (.lst (ws.map V.str)) ∧ (∀ t ∈ ws, t.length ≤ 640) ∧ ws.length ≤ 1000 ∧ H l = some (.lst xs) ∧ AllU H us xs ∧ xs.length ≤ 24 ∧
  (wrongW us ws = none → ∀ H' r, Same H H' → IsU H' (unitW ws) (.ref r) → Q (.ref r) H') ∧ (∀ k, wrongW us ws = some k → RefL a H E xs.length k)
end My

set_option Elab.async false
set_option linter.all false
set_option maxRecDepth 100000
set_option maxHeartbeats 4000000
namespace My
open PySem L2
section
variable {P : Program} {w : World} {K : PySem.W.Frag} {mg : Str → Option Value} {base : Heap} {a : Ad}
theorem ok_cell (T : Txt K mg a) : FnOk P w K mg base CX0 1 a.f_L_cell a.d_L_cell ["_law_script", "_law_k"] (spCell K) := by
  refine T.F_L_cell.ok sc_L_cell (fun vs H Q E h => ?_) (fun cdv A outer s H vs Q E hr h => ?_)
  · obtain ⟨p, ns, k, rfl, _⟩ := h; rfl
  · obtain ⟨p, ns, k, rfl, hS, hl, h0, h1, q⟩ := h
    refine ⟨_, (pss_cons (ps_if (t_cmp o_lt (vr 1) (pe_callB call_lenM rfl T.z_len bt_len (pa_cons (vr 0) pa_nil)) (nomark _)) (pss_one (ps_ret (pe_ix ix_seq (vr 0) (vr 1) (fun _ _ => rfl)))) pss_nil) (pss_one (ps_ret (pe_op o_add (pe_op o_mul pe_int (vr 1)) pe_int)))), ?_⟩
    refine ⟨ns.map V.int, .inl hS, ?_⟩
    rw [List.length_map]
    unfold cellAt at q
    refine ite2 (fun c => ?_) (fun c => ?_)
    · have c' : k < (ns.length : Int) := of_decide_eq_true c
      rw [if_pos c'] at q
      refine .inl ⟨p, _, k, .int (ns.getD k.toNat 0), rfl, rfl, hS, ?_, q⟩
      have e : ((k.toNat : Nat) : Int) = k := by omega
      rw [← e]
      refine atI_nat ?_
      have hk : k.toNat < ns.length := by omega
      rw [e]
      simp [List.getElem?_map, List.getD, hk]
    · have c' : ¬ k < (ns.length : Int) := fun z => c (decide_eq_true z)
      rw [if_neg c'] at q
      exact ⟨cl, q⟩
theorem ok_mixed (T : Txt K mg a) : FnOk P w K mg base CX0 1 a.f_L_mixed a.d_L_mixed ["_law_cell_here", "_law_k"] spMixed := by
  refine T.F_L_mixed.ok sc_L_mixed (fun vs H Q E h => ?_) (fun cdv A outer s H vs Q E hr h => ?_)
  · obtain ⟨c, k, rfl, _⟩ := h; rfl
  · obtain ⟨c, k, rfl, h0, h1, q⟩ := h
    refine ⟨_, (pss_cons (ps_if (t_cmp o_eq (pe_op o_mod (vr 0) pe_int) pe_int (nomark _)) (pss_one (ps_ret (pe_op o_mod (pe_op o_shr (vr 0) (pe_op o_add pe_int (pe_op o_mul pe_int (vr 1)))) (pe_op o_pow pe_int pe_int)))) pss_nil) (pss_cons (ps_set (i := 2) sc_L_mixed.nd rfl (Or.inl rfl) (pe_op o_mod (pe_op o_add (vr 0) (pe_op o_mul pe_int (vr 1))) pe_int)) (pss_cons (ps_set (i := 2) sc_L_mixed.nd rfl (Or.inl rfl) (pe_op o_mod (pe_op o_add (pe_op o_mul (vr 2) pe_int) (vr 1)) pe_int)) (pss_cons (ps_set (i := 2) sc_L_mixed.nd rfl (Or.inl rfl) (pe_op o_mod (pe_op o_mul (vr 2) (pe_op o_add (vr 2) pe_int)) pe_int)) (pss_one (ps_ret (pe_op o_mod (pe_op o_mul (vr 2) (pe_op o_add (vr 2) pe_int)) pe_int))))))), ?_⟩
    unfold mixed at q
    refine ⟨cp, ?_⟩
    refine ite2 (fun e => ?_) (fun e => ?_)
    · rw [if_pos (of_decide_eq_true e)] at q
      exact ⟨cl, cn (by omega), cw, cp, q⟩
    · rw [if_neg (fun z => e (decide_eq_true z))] at q
      exact ⟨cl, cp, cr, cp, cl (by omega) (by omega), cp, cl (by omega) (by omega), cp, q⟩
theorem ok_made (T : Txt K mg a) : FnOk P w K mg base CX0 1 a.f_is_made_of a.d_is_made_of ["text", "signs", "most"] spMade := by
  refine T.F_is_made_of.ok sc_is_made_of (fun vs H Q E h => ?_) (fun cdv A outer s H vs Q E hr h => ?_)
  · obtain ⟨t, S, m, rfl, _⟩ := h; rfl
  · obtain ⟨t, S, m, rfl, hz, q⟩ := h
    refine ⟨_, (pss_one (ps_ret (m_and (m_chain o_le o_le pe_int (pe_callB call_lenM rfl T.z_len bt_len (pa_cons (vr 0) pa_nil)) (vr 2)) (pe_one (pe_callB (call_allB rfl) rfl T.z_all bt_all (pa_cons (pe_comp rfl (N := ["sign", "signs"]) (ix := [none, some 1]) ⟨rfl, rfl, rfl, rfl, ⟨rfl, rfl, rfl, trivial⟩⟩ (pi_any (vr 0)) ⟨fun C s H fp => pg_name (i := 0) (show List.Nodup (["sign", "signs"] : List Str) by decide +kernel) rfl (Or.inl rfl), fun C s H fp => pts_nil, fun C s H fp => (pe_cmpR o_inS (vr 0) (vr 1) (by with_unfolding_all rfl))⟩) pa_nil)))))), ?_⟩
    have no : ∀ H', Same H H' → ¬ (1 ≤ (t.cps.size : Int) ∧ (t.cps.size : Int) ≤ m) → Q (.bl false) H' := fun H' e c => by
      have := q H' e
      unfold madeB at this
      rw [decide_eq_false c] at this
      exact this
    refine ⟨hz, ?_⟩
    refine ifC (fun c1 => ?_) (fun c1 => (no H (Same.refl H) fun z => c1 z.1))
    refine ifC (fun c2 => ?_) (fun c2 => no H (Same.refl H) fun z => c2 z.2)
    have c : 1 ≤ (t.cps.size : Int) ∧ (t.cps.size : Int) ≤ m := ⟨c1, c2⟩
    intro D hD
    refine comp_str (fun i ys H' => H' = upd H D (.lst ys) ∧ ys = (t.cps.toList.take i).map fun c => V.bl (decide (c ∈ S.cps.toList))) ⟨rfl, rfl⟩ (fun i ys H' ⟨e, _⟩ => by rw [e]; exact upd_same) ?_ ?_
    · rintro i c ys H' P hc ⟨rfl, rfl⟩ hP
      refine ⟨⟨rfl, trivial⟩, ?_⟩
      have hl : t.cps.toList[i]? = some c := by simpa using hc
      refine ⟨upd_same, ?_, hP _ _ ⟨upd_upd, ?_⟩⟩
      · rw [List.length_map, List.length_take]
        have h1 : i < t.cps.toList.length := (List.getElem?_eq_some_iff.mp hl).1
        have : t.cps.toList.length = t.cps.size := by simp
        have h3 : t.cps.size ≤ sizeLine := hz
        omega
      · rw [List.take_add_one, hl, List.map_append]
        show _ = _ ++ [V.bl (decide (c ∈ S.cps.toList))]
        congr 2
        show V.bl (!(Builtin.Str.occurrences _ _ 0 _ 1).isEmpty) = _
        rw [PySem.StrLaws.found_one]
    · rintro ys H' ⟨rfl, rfl⟩
      refine ⟨D, _, t.cps.toList.map fun c => decide (c ∈ S.cps.toList), rfl, SqL.of upd_same, ?_, ?_⟩
      · rw [List.map_map, List.take_of_length_le (by simp)]
        rfl
      · have en : (t.cps.toList.map fun c => decide (c ∈ S.cps.toList)).all id = madeB t S m := by
          unfold madeB
          rw [decide_eq_true c, Bool.true_and, List.all_map]
          rfl
        rw [en]
        exact q _ (Same.new hD)
theorem ok_numof (T : Txt K mg a) : FnOk P w K mg base CX0 2 a.f_number_of a.d_number_of ["text", "low", "high"] spNumOf := by
  have G_is_made_of : FnOk P w K mg base CX0 1 _ _ _ spMade := ok_made T
  refine T.F_number_of.ok sc_number_of (fun vs H Q E h => ?_) (fun cdv A outer s H vs Q E hr h => ?_)
  · obtain ⟨t, lo, hi, rfl, _⟩ := h; rfl
  · obtain ⟨t, lo, hi, rfl, hz, q⟩ := h
    have hz' : t.length ≤ sizeLine := Nat.le_trans hz (by rw [sizeLine_eq]; decide)
    have none_of : NumM.numO t.cps.toList = none → ∀ H', Same H H' → Q .non H' := fun e H' s => by
      have := q H' s
      rw [e] at this
      exact this
    have eminus : ("-" : Str) = ⟨#[45]⟩ := by decide +kernel
    have ezero : ("0" : Str) = ⟨#[48]⟩ := by decide +kernel
    refine ⟨_, (pss_cons (ps_set (i := 3) sc_number_of.nd rfl (Or.inl rfl) (pe_cut (pe_ifExp (t_val (pe_m.startswith (vr 0) (pa_cons pe_str pa_nil))) (pe_slice sl_any (vr 0) (po_some pe_int) po_none) (vr 0)))) (pss_cons (ps_if (pt_not (t_val (pe_call G_is_made_of hr rfl T.m_is_made_of T.F_is_made_of.kp T.B_is_made_of .nil pass0 (pa_cons (vr 3) (pa_cons (pe_gl rfl T.g_FIGURES) (pa_cons (pe_gl rfl T.g_MOST_FIGURES) pa_nil)))))) (pss_one (ps_ret pe_non)) pss_nil) (pss_consM (ps_if (PW.pt (pw_and (t_val (pe_m.startswith (vr 3) (pa_cons pe_str pa_nil))) (pw_and1 (t_cmp o_ne (vr 0) pe_str (nomark _))))) (pss_one (ps_ret pe_non)) pss_nil) (pss_cons (ps_set (i := 4) sc_number_of.nd rfl (Or.inl rfl) (pe_callTy call_intS rfl T.z_int bt_int (pa_cons (vr 0) pa_nil))) (pss_one (ps_ret (pe_ifExp (t_chain o_le o_le (vr 1) (vr 4) (vr 2)) (vr 4) pe_non))))))), ?_⟩
    obtain ⟨F, f1, f2, f3, f4⟩ : ∃ F : Str, F.cps.toList = NumM.bareL t.cps.toList ∧ F.length ≤ sizeLine ∧ (Txt.startswith t "-" = true → cutS t (some 1) none = F) ∧ (Txt.startswith t "-" = false → t = F) := by
      by_cases hn : t.cps.toList.head? = some 45
      · refine ⟨cutS t (some 1) none, ?_, Nat.le_trans (cutS_le _ _ _) hz', fun _ => rfl, fun h => ?_⟩
        · rw [cut1_codes]; unfold NumM.bareL; rw [if_pos hn]
        · rw [eminus, starts_one, decide_eq_true hn] at h; cases h
      · refine ⟨t, ?_, hz', fun h => ?_, fun _ => rfl⟩
        · unfold NumM.bareL; rw [if_neg hn]
        · rw [eminus, starts_one, decide_eq_false hn] at h; cases h
    have key : ∀ H1, Same H H1 → madeB F "0123456789" 12 = true → (Txt.startswith F "0" = true → ¬ t ≠ "0") → PySem.intText? t = some (NumM.valS t.cps.toList) ∧ NumM.numO t.cps.toList = some (NumM.valS t.cps.toList) := by
      intro H1 s1 h1 h2
      rw [made_fig, f1] at h1
      obtain ⟨ha, hl1, hl2⟩ := NumM.digB_all h1
      have hbz : NumM.badZ t.cps.toList = false := by
        unfold NumM.badZ
        rw [← Bool.not_eq_true, Bool.and_eq_true, decide_eq_true_eq, decide_eq_true_eq]
        rintro ⟨z1, z2⟩
        refine h2 (by rw [ezero, starts_one, f1]; exact decide_eq_true z1) fun e => z2 ?_
        rw [e]; decide +kernel
      refine ⟨?_, by unfold NumM.numO; rw [h1, hbz]; rfl⟩
      by_cases hn : t.cps.toList.head? = some 45
      · have e : t.cps.toList = 45 :: NumM.bareL t.cps.toList := by
          unfold NumM.bareL
          rw [if_pos hn]
          cases hl : t.cps.toList with
          | nil => rw [hl] at hn; cases hn
          | cons c r => rw [hl] at hn; have : c = 45 := by simpa using hn
                        rw [this]; rfl
        have := PySem.intText_neg e ha (by intro z; rw [z] at hl1; exact absurd hl1 (by decide)) (Nat.le_trans hz (by decide))
        rw [this]; unfold NumM.valS; rw [if_pos hn]
      · have e : NumM.bareL t.cps.toList = t.cps.toList := by unfold NumM.bareL; rw [if_neg hn]
        rw [e] at ha hl1
        have := PySem.intText_digits ha (by intro z; rw [z] at hl1; exact absurd hl1 (by decide)) (Nat.le_trans hz (by decide))
        rw [this]; unfold NumM.valS; rw [if_neg hn, e]
    have bad : madeB F "0123456789" 12 = false ∨ (Txt.startswith F "0" = true ∧ t ≠ "0") → NumM.numO t.cps.toList = none := by
      intro h
      unfold NumM.numO
      rcases h with h | ⟨h, h'⟩
      · rw [made_fig, f1] at h
        rw [h]; rfl
      · rw [ezero, starts_one, f1] at h
        have : NumM.badZ t.cps.toList = true := by
          unfold NumM.badZ
          rw [h, Bool.true_and]
          refine decide_eq_true fun e => h' ?_
          rw [ezero]
          exact PyProof.Rows.ext_toList e
        rw [this, Bool.not_true, Bool.and_false]; rfl
    refine ⟨fun v H' => v = .str F ∧ H' = H, ⟨rfl, ifB (fun h1 => ⟨1, rfl, hz', by rw [f3 h1], rfl⟩) (fun h1 => ⟨by rw [f4 h1], rfl⟩)⟩, ?_⟩
    rintro v H' ⟨rfl, rfl⟩
    refine ⟨F, "0123456789", 12, rfl, f2, fun H1 s1 => ?_⟩
    refine ifB (fun h2 => none_of (bad (.inl (by simpa using h2))) H1 s1) (fun h2 => ?_)
    have h2' : madeB F "0123456789" 12 = true := by simpa using h2
    refine ⟨fun σ' H' => σ' = [some (.str t), some (.int lo), some (.int hi), some (.str F), none] ∧ H' = H1 ∧ (Txt.startswith F "0" = true → ¬ t ≠ "0"), ⟨rfl, ifB (fun h3 => ifB (fun h4 => none_of (bad (.inr ⟨h3, by simpa using h4⟩)) H1 s1) (fun h4 => ⟨rfl, rfl, fun _ z => by simp [z] at h4⟩)) (fun h3 => iteF ⟨rfl, rfl, fun z => by rw [h3] at z; cases z⟩)⟩, ?_⟩
    rintro σ' H' ⟨rfl, rfl, h5⟩
    obtain ⟨k1, k2⟩ := key H' s1 h2' h5
    have := q H' s1
    rw [k2] at this
    refine ⟨_, k1, hz, ifC (fun c1 => ifC (fun c2 => ?_) (fun c2 => ?_)) (fun c1 => ?_)⟩
    · rw [within_some, if_pos ⟨c1, c2⟩] at this; exact this
    · rw [within_some, if_neg fun z => c2 z.2] at this; exact this
    · rw [within_some, if_neg fun z => c1 z.1] at this; exact this

theorem ok_name (T : Txt K mg a) : FnOk P w K mg base CX0 2 a.f_is_name a.d_is_name ["thing"] spName := by
  have G_is_made_of : FnOk P w K mg base CX0 1 _ _ _ spMade := ok_made T
  refine T.F_is_name.ok sc_is_name (fun vs H Q E h => ?_) (fun cdv A outer s H vs Q E hr h => ?_)
  · obtain ⟨x, c, rfl, _⟩ := h; rfl
  · obtain ⟨x, c, rfl, th, q⟩ := h
    refine ⟨_, (pss_one (ps_ret (m_and (pe_callB call_isi rfl T.z_isinstance bt_isinstance (pa_cons (vr 0) (pa_cons (pe_bltn (v := .ty "str") rfl T.z_str bt_str rfl) pa_nil))) (pe_one (pe_call G_is_made_of hr rfl T.m_is_made_of T.F_is_made_of.kp T.B_is_made_of .nil pass0 (pa_cons (vr 0) (pa_cons (pe_gl rfl T.g_LETTERS) (pa_cons (pe_gl rfl T.g_MOST_LETTERS) pa_nil)))))))), ?_⟩
    cases th with
    | int i => exact ⟨_, _, _, false, rfl, rfl, .int i, rfl, q _ (Same.refl H)⟩
    | bl b => exact ⟨_, _, _, false, rfl, rfl, .bl b, rfl, q _ (Same.refl H)⟩
    | non => exact ⟨_, _, _, false, rfl, rfl, .non, rfl, q _ (Same.refl H)⟩
    | str t h =>
      refine ⟨_, _, _, true, rfl, rfl, .str t, rfl, ?_⟩
      exact ⟨t, _, _, rfl, h, q⟩
    | lst p xs e => exact ⟨_, _, _, false, rfl, rfl, .lst e, rfl, q _ (Same.refl H)⟩
    | tup p xs e => exact ⟨_, _, _, false, rfl, rfl, .tup e, rfl, q _ (Same.refl H)⟩
    | dK p kvs e => exact ⟨_, _, _, false, rfl, rfl, .dK e, rfl, q _ (Same.refl H)⟩
theorem ok_hll (T : Txt K mg a) : FnOk P w K mg base CX0 1 a.f_has_listing_length a.d_has_listing_length ["thing"] spHll := by
  refine T.F_has_listing_length.ok sc_has_listing_length (fun vs H Q E h => ?_) (fun cdv A outer s H vs Q E hr h => ?_)
  · obtain ⟨x, rfl, _⟩ := h; rfl
  · obtain ⟨x, rfl, h⟩ := h
    refine ⟨_, (pss_one (ps_ret (m_and (pe_callB call_isi rfl T.z_isinstance bt_isinstance (pa_cons (vr 0) (pa_cons (pe_bltn (v := .ty "list") rfl T.z_list bt_list rfl) pa_nil))) (pe_one (m_chain o_le o_le pe_int (pe_callB call_lenM rfl T.z_len bt_len (pa_cons (vr 0) pa_nil)) (pe_gl rfl T.g_MOST_UNITS)))))), ?_⟩
    rcases h with ⟨l, xs, rfl, hl, h1, h2, q⟩ | ⟨nl, q⟩
    · refine ⟨_, _, _, true, rfl, rfl, .lst hl, rfl, xs, .inl (SqL.of hl), ?_⟩
      refine and_if (Q := fun v => Q v H) ?_
      rw [decide_eq_true (by omega)]
      exact q
    · cases nl with
      | len p xs e n =>
        refine ⟨_, _, _, true, rfl, rfl, .lst e, rfl, xs, .inl (SqL.of e), ?_⟩
        refine and_if (Q := fun v => Q v H) ?_
        rw [decide_eq_false (by omega)]
        exact q
      | no _ c h n =>
        cases h with
        | int i => exact ⟨_, _, _, false, rfl, rfl, .int i, rfl, q⟩
        | bl b => exact ⟨_, _, _, false, rfl, rfl, .bl b, rfl, q⟩
        | non => exact ⟨_, _, _, false, rfl, rfl, .non, rfl, q⟩
        | str t h => exact ⟨_, _, _, false, rfl, rfl, .str t, rfl, q⟩
        | lst p xs e => exact absurd e (n p xs rfl)
        | tup p xs e => exact ⟨_, _, _, false, rfl, rfl, .tup e, rfl, q⟩
        | dK p kvs e => exact ⟨_, _, _, false, rfl, rfl, .dK e, rfl, q⟩
theorem ok_path (T : Txt K mg a) : FnOk P w K mg base CX0 3 a.f_is_path a.d_is_path ["thing"] spPath := by
  have G_is_name : FnOk P w K mg base CX0 2 _ _ _ spName := ok_name T
  refine T.F_is_path.ok sc_is_path (fun vs H Q E h => ?_) (fun cdv A outer s H vs Q E hr h => ?_)
  · obtain ⟨x, b, rfl, _⟩ := h; rfl
  · obtain ⟨x, b, rfl, pc, q⟩ := h
    refine ⟨_, (pss_one (ps_ret (m_and (pe_callB call_isi rfl T.z_isinstance bt_isinstance (pa_cons (vr 0) (pa_cons (pe_bltn (v := .ty "tuple") rfl T.z_tuple bt_tuple rfl) pa_nil))) (m_and (pe_cmpR o_le (pe_callB call_lenM rfl T.z_len bt_len (pa_cons (vr 0) pa_nil)) (pe_gl rfl T.g_MOST_LEVELS) (nomark _)) (pe_one (pe_callB (call_allB rfl) rfl T.z_all bt_all (pa_cons (pe_comp rfl (N := ["name"]) (ix := [none]) ⟨rfl, rfl, rfl, rfl, trivial⟩ (pi_any (vr 0)) ⟨fun C s H fp => pg_name (i := 0) (show List.Nodup (["name"] : List Str) by decide +kernel) rfl (Or.inl rfl), fun C s H fp => pts_nil, fun C s H fp => (pe_call G_is_name hr rfl T.m_is_name T.F_is_name.kp T.B_is_name .nil pass0 (pa_cons (vr 0) pa_nil))⟩) pa_nil))))))), ?_⟩
    cases pc with
    | no _ c h n =>
      cases h with
      | int i => exact ⟨_, _, _, false, rfl, rfl, .int i, rfl, q _ (Same.refl H)⟩
      | bl b => exact ⟨_, _, _, false, rfl, rfl, .bl b, rfl, q _ (Same.refl H)⟩
      | non => exact ⟨_, _, _, false, rfl, rfl, .non, rfl, q _ (Same.refl H)⟩
      | str t h => exact ⟨_, _, _, false, rfl, rfl, .str t, rfl, q _ (Same.refl H)⟩
      | lst p xs e => exact ⟨_, _, _, false, rfl, rfl, .lst e, rfl, q _ (Same.refl H)⟩
      | tup p xs e => exact absurd rfl (n xs)
      | dK p kvs e => exact ⟨_, _, _, false, rfl, rfl, .dK e, rfl, q _ (Same.refl H)⟩
    | tup p xs cs hp z hc =>
      have small : sizeLine = 16777216 := sizeLine_eq
      have hcl : cs.length = xs.length := Paired.length hc
      refine ⟨_, _, _, true, rfl, rfl, .tup hp, rfl, xs, .inr (SqT.of hp), ?_⟩
      refine ifC (fun c => ?_) (fun c => ?_)
      · refine .inr ⟨⟨_, SqT.of hp⟩, fun D hD => ?_⟩
        refine comp_tup (K := K) (a := p) (xs := xs) (fun i ys H' => Same H H' ∧ H' D = some (.lst ys) ∧ ys = (cs.take i).map fun t => V.bl (clN t)) ⟨(Same.refl H).put hD, upd_same, rfl⟩ (fun i ys H' h => SqT.of (h.1 _ _ hp)) (fun i ys H' h => h.2.1) ?_ ?_
        · rintro i x ys H' P' hx ⟨s1, hD1, rfl⟩ hP
          obtain ⟨c, hc1, hc2⟩ := hc.get hx
          refine ⟨trivial, x, c, rfl, hc2.same s1, fun H2 s2 => ⟨s2 _ _ hD1, ?_, hP _ _ ⟨(s1.trans s2).put hD, upd_same, ?_⟩⟩⟩
          · rw [List.length_map, List.length_take]; omega
          · rw [List.take_add_one, hc1, List.map_append]; rfl
        · rintro ys H' ⟨s1, hD1, rfl⟩
          rw [← hcl, List.take_of_length_le (Nat.le_refl _)] at hD1
          refine ⟨D, _, cs.map clN, rfl, SqL.of hD1, by rw [List.map_map]; rfl, ?_⟩
          have := q _ s1
          rw [decide_eq_true c, Bool.true_and] at this
          rw [List.all_map]
          exact this
      · have := q _ (Same.refl H)
        rw [decide_eq_false c, Bool.false_and] at this
        exact this
theorem ok_new (T : Txt K mg a) : FnOk P w K mg base CX0 1 a.f_is_new_name a.d_is_new_name ["name", "ahead"] spNew := by
  refine T.F_is_new_name.ok sc_is_new_name (fun vs H Q E h => ?_) (fun cdv A outer s H vs Q E hr h => ?_)
  · obtain ⟨n, l, us, xs, rfl, _⟩ := h; rfl
  · obtain ⟨n, l, us, xs, rfl, hl, hu, hlen, q⟩ := h
    refine ⟨_, (pss_one (ps_ret (pe_cmpR op_notIn_seq (vr 0) (pe_comp rfl (N := ["unit"]) (ix := [none]) ⟨rfl, rfl, rfl, rfl, trivial⟩ (pi_any (vr 1)) ⟨fun C s H fp => pg_name (i := 0) (show List.Nodup (["unit"] : List Str) by decide +kernel) rfl (Or.inl rfl), fun C s H fp => pts_nil, fun C s H fp => (pe_ix (ix_seqK (K := K) rfl) (vr 0) pe_int (fun _ _ => rfl))⟩) (by with_unfolding_all rfl)))), ?_⟩
    have small : sizeLine = 16777216 := sizeLine_eq
    refine .inl ⟨⟨_, SqL.of hl⟩, fun D hD => ?_⟩
    refine comp_list (K := K) (a := l) (xs := xs) (fun i ys H' => i ≤ xs.length ∧ H' = upd H D (.lst ys) ∧ ys = (us.take i).map fun u => V.str u.name) ⟨Nat.zero_le _, rfl, rfl⟩ (fun i ys H' h => by rw [h.2.1]; exact SqL.of (by rw [upd_ne (ne_of_none hl hD)]; exact hl)) (fun i ys H' h => by rw [h.2.1]; exact upd_same) ?_ ?_
    · rintro i x ys H' P' hx ⟨hi, rfl, rfl⟩ hP
      obtain ⟨u, hu', ad, p, rfl, ha, hp⟩ := hu.get hx
      have hlt : i < xs.length := (List.getElem?_eq_some_iff.mp hx).1
      have hz : xs.length ≤ sizeLine := hlen
      refine ⟨trivial, .inr (.inl ⟨ad, _, _, _, rfl, rfl, SqT.of (by rw [upd_ne (ne_of_none ha hD)]; exact ha), atI_cons 0 rfl rfl, upd_same, ?_, hP _ _ ⟨hlt, upd_upd, ?_⟩⟩)⟩
      · rw [List.length_map, List.length_take]; omega
      · rw [List.take_add_one, hu', List.map_append]; rfl
    · rintro ys H' ⟨_, rfl, rfl⟩
      rw [← hu.len, List.take_of_length_le (Nat.le_refl _)]
      have e : (us.map fun u => V.str u.name) = (us.map U.name).map V.str := by rw [List.map_map]; rfl
      refine ⟨D, _, rfl, .inl (SqL.of upd_same), rfl, by rw [e]; exact flat_strs _, ?_⟩
      have := q _ ((Same.refl H).put (o := .lst (us.map fun u => V.str u.name)) hD)
      rw [← inV_strs] at this
      rw [e]
      rw [e] at this
      exact this
theorem ok_plen (T : Txt K mg a) : FnOk P w K mg base CX0 1 a.f_has_path_length a.d_has_path_length ["path", "ahead"] spPlen := by
  refine T.F_has_path_length.ok sc_has_path_length (fun vs H Q E h => ?_) (fun cdv A outer s H vs Q E hr h => ?_)
  · obtain ⟨p, l, ts, us, xs, rfl, _⟩ := h; rfl
  · obtain ⟨p, l, ts, us, xs, rfl, hp, hl, hu, q⟩ := h
    refine ⟨_, (pss_one (ps_ret (m_or (pe_notT (vr 1)) (pe_one (pe_cmpR o_eq (pe_callB call_lenM rfl T.z_len bt_len (pa_cons (vr 0) pa_nil)) (pe_callB call_lenM rfl T.z_len bt_len (pa_cons (pe_ix ix_seq (pe_ix ix_seq (vr 1) pe_int (fun _ _ => rfl)) pe_int (fun _ _ => rfl)) pa_nil)) (nomark _)))))), ?_⟩
    refine ⟨!xs.isEmpty, .inl ⟨xs, SqL.of hl, rfl⟩, ?_⟩
    cases hu with
    | nil => exact q
    | @cons u x us xs r t =>
      obtain ⟨ad, pp, rfl, ha, hpp⟩ := r
      refine ⟨_, .inr (SqT.of hp), .inl ⟨l, _, _, _, rfl, rfl, SqL.of hl, atI_cons 0 rfl rfl, .inr (.inl ⟨ad, _, _, _, rfl, rfl, SqT.of ha, atI_cons 3 rfl rfl, _, .inr (SqT.of hpp), ?_⟩)⟩⟩
      have e : decide (((ts.map V.str).length : Int) = ((u.path.map V.str).length : Int)) = plenB ts (u :: us) := by
        show _ = decide (ts.length = u.path.length)
        rw [decide_eq_decide, List.length_map, List.length_map]
        omega
      show Q (.bl (decide (((ts.map V.str).length : Int) = ((u.path.map V.str).length : Int)))) H
      rw [e]
      exact q
theorem ok_namepart (T : Txt K mg a) : FnOk P w K mg base CX0 3 a.f_name_part a.d_name_part ["word", "ahead"] spNamePart := by
  have G_is_name : FnOk P w K mg base CX0 2 _ _ _ spName := ok_name T
  have G_is_new_name : FnOk P w K mg base CX0 2 _ _ _ spNew := (ok_new T).mono (by decide)
  refine T.F_name_part.ok sc_name_part (fun vs H Q E h => ?_) (fun cdv A outer s H vs Q E hr h => ?_)
  · obtain ⟨n, l, us, xs, rfl, _⟩ := h; rfl
  · obtain ⟨n, l, us, xs, rfl, hz', hl, hu, hz, q⟩ := h
    refine ⟨_, (pss_one (ps_ret (pe_ifExp (PW.pt (pw_and (t_val (pe_call G_is_name hr rfl T.m_is_name T.F_is_name.kp T.B_is_name .nil pass0 (pa_cons (vr 0) pa_nil))) (pw_and1 (t_val (pe_call G_is_new_name hr rfl T.m_is_new_name T.F_is_new_name.kp T.B_is_new_name .nil pass0 (pa_cons (vr 0) (pa_cons (vr 1) pa_nil))))))) (vr 0) pe_non))), ?_⟩
    refine ⟨_, _, rfl, .str n hz', fun H1 s1 => ?_⟩
    refine ifB (fun hn => ?_) (fun hn => ?_)
    · refine ⟨n, l, us, xs, rfl, s1 _ _ hl, hu.tk s1.tk, hz, fun H2 s2 => ?_⟩
      refine ifB (fun hw => ?_) (fun hw => ?_)
      · have := q _ (s1.trans s2)
        rw [if_pos (show okW us 0 n = true by show (nameB n && !decide (n ∈ us.map U.name)) = true; rw [show nameB n = true from hn, hw]; rfl)] at this
        exact this
      · have := q _ (s1.trans s2)
        rw [if_neg (show ¬ okW us 0 n = true by show ¬ (nameB n && !decide (n ∈ us.map U.name)) = true; rw [hw, Bool.and_false]; exact Bool.false_ne_true)] at this
        exact this
    · have := q _ s1
      rw [if_neg (show ¬ okW us 0 n = true by show ¬ (nameB n && !decide (n ∈ us.map U.name)) = true; rw [show nameB n = false from hn, Bool.false_and]; exact Bool.false_ne_true)] at this
      exact iteF this
end
end My

set_option Elab.async false
set_option linter.all false
set_option maxRecDepth 100000
set_option maxHeartbeats 4000000
namespace My
open PySem L2
section
variable {P : Program} {w : World} {K : PySem.W.Frag} {mg : Str → Option Value} {base : Heap} {a : Ad}
theorem oi_NoListing (T : Txt K mg a) : FnOk P w K mg base CX0 1 a.i_NoListing a.e_NoListing ["self", "line", "word"] (spI2 a.c_NoListing "line" "word") := by
  refine T.Fi_NoListing.ok sc_NoListing___init__ (fun vs H Q E h => ?_) (fun cdv A outer s H vs Q E hr h => ?_)
  · obtain ⟨x, m, n, rfl, _⟩ := h; rfl
  · obtain ⟨x, m, n, rfl, hx, q⟩ := h
    obtain ⟨cd1, s1⟩ := T.sx_NoListing_line
    obtain ⟨cd2, s2⟩ := T.sx_NoListing_word
    refine ⟨_, (pss_cons (ps_fldX (vr 0) (vr 1) rfl) (pss_one (ps_fldX (vr 0) (vr 2) rfl))), ?_⟩
    refine ⟨x, a.c_NoListing, cd1, rfl, s1, .inl ⟨hx, fun dx hd hne => ?_⟩⟩
    exact ⟨x, a.c_NoListing, cd2, rfl, s2, .inr ⟨dx, _, upd_same, by rw [upd_ne hne]; exact upd_same, by simp, q dx hd hne⟩⟩
theorem ok_pathpart (T : Txt K mg a) : FnOk P w K mg base CX0 4 a.f_path_part a.d_path_part ["word", "ahead"] spPathPart := by
  have G_is_path : FnOk P w K mg base CX0 3 _ _ _ spPath := ok_path T
  have G_has_path_length : FnOk P w K mg base CX0 3 _ _ _ spPlen := (ok_plen T).mono (by decide)
  refine T.F_path_part.ok sc_path_part (fun vs H Q E h => ?_) (fun cdv A outer s H vs Q E hr h => ?_)
  · obtain ⟨t, l, us, xs, rfl, _⟩ := h; rfl
  · obtain ⟨t, l, us, xs, rfl, hz, hl, hu, q1, q2⟩ := h
    have small : sizeLine = 16777216 := sizeLine_eq
    have hz' : t.cps.size ≤ 640 := hz
    refine ⟨_, (pss_cons (ps_set (i := 2) sc_path_part.nd rfl (Or.inl rfl) (pe_cut (pe_ifExp (t_cmp o_eq (vr 0) pe_str (nomark _)) (pe_tup pa_nil) (pe_callTy call_tuple_of rfl T.z_tuple bt_tuple (pa_cons (pe_m.split (vr 0) (pa_cons pe_str pa_nil)) pa_nil))))) (pss_one (ps_ret (pe_ifExp (PW.pt (pw_and (t_val (pe_call G_is_path hr rfl T.m_is_path T.F_is_path.kp T.B_is_path .nil pass0 (pa_cons (vr 2) pa_nil))) (pw_and1 (t_val (pe_call G_has_path_length hr rfl T.m_has_path_length T.F_has_path_length.kp T.B_has_path_length .nil pass0 (pa_cons (vr 2) (pa_cons (vr 1) pa_nil))))))) (vr 2) pe_non)))), ?_⟩
    refine ⟨fun v H' => ∃ p, v = .ref p ∧ Same H H' ∧ H' p = some (.tup ((if t = "-" then [] else splS 46 t).map V.str)), ifB (fun h1 => ⟨Nat.zero_le _, fun p hp => ⟨p, rfl, Same.new hp, ?_⟩⟩) (fun h1 => ⟨rfl, _, 46, rfl, by rw [dot_code], by omega, fun r ts hr e => ?_⟩), ?_⟩
    · rw [if_pos (show t = "-" by simpa using h1)]
      exact upd_same
    · refine ⟨r, _, rfl, .inl ⟨SqL.of upd_same, fun p hp => ⟨p, rfl, (Same.new hr).trans (Same.new hp), ?_⟩⟩⟩
      rw [if_neg (show ¬ t = "-" by simpa using h1), upd_same, splS_eq e]
    · rintro v H1 ⟨p, rfl, s1, hp⟩
      have cnt := splS_cnt 46 t
      have lens : ∀ w ∈ (if t = "-" then [] else splS 46 t), w.length ≤ sizeLine := fun w hw => by
        split at hw
        · cases hw
        · have := splS_len hw
          show w.cps.size ≤ sizeLine
          omega
      have cl : (if t = "-" then [] else splS 46 t).length ≤ 1000 := by split <;> first | (exact Nat.zero_le _) | omega
      have ep : pathO t = if (if t = "-" then [] else splS 46 t).length ≤ 3 ∧ (if t = "-" then [] else splS 46 t).all nameB = true then some (if t = "-" then [] else splS 46 t) else none := by
        unfold pathO
        by_cases e : t = "-"
        · rw [if_pos e, if_pos e, if_pos ⟨by decide, rfl⟩]
        · rw [if_neg e, if_neg e]
      generalize (if t = "-" then [] else splS 46 t) = ps at hp lens cl ep
      have pc := PathC.tup (H := H1) p (ps.map V.str) (ps.map Cl.str) hp (by rw [List.length_map]; exact cl) (all_strs lens)
      have eb : (decide (((ps.map V.str).length : Int) ≤ 3) && (ps.map Cl.str).all clN) = decide (ps.length ≤ 3 ∧ ps.all nameB = true) := by
        rw [Bool.eq_iff_iff, Bool.and_eq_true, decide_eq_true_eq, decide_eq_true_eq, List.length_map, List.all_map]
        constructor
        · rintro ⟨h1, h2⟩; exact ⟨by omega, h2⟩
        · rintro ⟨h1, h2⟩; exact ⟨by omega, h2⟩
      rw [eb] at pc
      refine ⟨_, _, rfl, pc, fun H2 s2 => ?_⟩
      refine ifC (fun c => ?_) (fun c => ?_)
      · rw [if_pos c] at ep
        refine ⟨p, l, ps, us, xs, rfl, s2 _ _ hp, (s1.trans s2) _ _ hl, hu.tk (s1.trans s2).tk, ?_⟩
        refine ifB (fun c2 => q1 ps _ _ ep c2 (s1.trans s2) (s2 _ _ hp)) (fun c2 => q2 ?_ _ (s1.trans s2))
        show (match pathO t with | some ps => plenB ps us | none => false) = false
        rw [ep]
        exact c2
      · rw [if_neg c] at ep
        refine iteF (q2 ?_ _ (s1.trans s2))
        show (match pathO t with | some ps => plenB ps us | none => false) = false
        rw [ep]
theorem ok_partof (T : Txt K mg a) : FnOk P w K mg base CX0 5 a.f_part_of a.d_part_of ["place", "word", "ahead"] spPartOf := by
  have G_name_part : FnOk P w K mg base CX0 4 _ _ _ spNamePart := (ok_namepart T).mono (by decide)
  have G_number_of : FnOk P w K mg base CX0 4 _ _ _ spNumOf := (ok_numof T).mono (by decide)
  have G_path_part : FnOk P w K mg base CX0 4 _ _ _ spPathPart := ok_pathpart T
  refine T.F_part_of.ok sc_part_of (fun vs H Q E h => ?_) (fun cdv A outer s H vs Q E hr h => ?_)
  · obtain ⟨k, t, l, us, xs, rfl, _⟩ := h; rfl
  · obtain ⟨k, t, l, us, xs, rfl, hk, ht, hl, hu, hz, q1, q2⟩ := h
    have small : sizeLine = 16777216 := sizeLine_eq
    refine ⟨_, (pss_cons (ps_if (t_cmp o_eq (vr 0) pe_int (nomark _)) (pss_one (ps_ret (pe_call G_name_part hr rfl T.m_name_part T.F_name_part.kp T.B_name_part .nil pass0 (pa_cons (vr 1) (pa_cons (vr 2) pa_nil))))) pss_nil) (pss_cons (ps_if (t_cmp o_eq (vr 0) pe_int (nomark _)) (pss_one (ps_ret (pe_call G_number_of hr rfl T.m_number_of T.F_number_of.kp T.B_number_of .nil pass0 (pa_cons (vr 1) (pa_cons (pe_un u_neg (pe_gl rfl T.g_VALUE_BOUND)) (pa_cons (pe_gl rfl T.g_VALUE_BOUND) pa_nil)))))) pss_nil) (pss_cons (ps_if (t_cmp o_eq (vr 0) pe_int (nomark _)) (pss_one (ps_ret (pe_call G_number_of hr rfl T.m_number_of T.F_number_of.kp T.B_number_of .nil pass0 (pa_cons (vr 1) (pa_cons pe_int (pa_cons (pe_gl rfl T.g_MOST_SIZE) pa_nil)))))) pss_nil) (pss_one (ps_ret (pe_call G_path_part hr rfl T.m_path_part T.F_path_part.kp T.B_path_part .nil pass0 (pa_cons (vr 1) (pa_cons (vr 2) pa_nil)))))))), ?_⟩
    match k, hk, q1, q2 with
    | 0, _, q1, q2 =>
      refine ⟨t, l, us, xs, rfl, by omega, hl, hu, hz, fun H' s1 => ?_⟩
      by_cases c : okW us 0 t = true
      · rw [if_pos c]; exact q1 c _ _ s1 (.inl ⟨rfl, rfl⟩)
      · rw [if_neg c]; exact q2 (by simpa using c) _ s1
    | 1, _, q1, q2 =>
      refine ⟨_, _, _, rfl, ht, fun H' s1 => ?_⟩
      cases c : numW (-1000000000) 1000000000 t with
      | none =>
        have := q2 (by show (numW (-1000000000) 1000000000 t).isSome = false; rw [c]; rfl) _ s1
        rw [show within (-1000000000) 1000000000 (NumM.numO t.cps.toList) = none from c]
        exact this
      | some n =>
        have := q1 (by show (numW (-1000000000) 1000000000 t).isSome = true; rw [c]; rfl) _ (.int n) s1 (.inr (.inl ⟨rfl, n, c, rfl⟩))
        rw [show within (-1000000000) 1000000000 (NumM.numO t.cps.toList) = some n from c]
        exact this
    | 2, _, q1, q2 =>
      refine ⟨_, _, _, rfl, ht, fun H' s1 => ?_⟩
      cases c : numW 1 1000000 t with
      | none =>
        have := q2 (by show (numW 1 1000000 t).isSome = false; rw [c]; rfl) _ s1
        rw [show within 1 1000000 (NumM.numO t.cps.toList) = none from c]
        exact this
      | some n =>
        have := q1 (by show (numW 1 1000000 t).isSome = true; rw [c]; rfl) _ (.int n) s1 (.inr (.inr (.inl ⟨rfl, n, c, rfl⟩)))
        rw [show within 1 1000000 (NumM.numO t.cps.toList) = some n from c]
        exact this
    | 3, _, q1, q2 =>
      refine ⟨t, l, us, xs, rfl, ht, hl, hu, fun ps H' p e1 e2 s1 hp => ?_, q2⟩
      exact q1 (by show (match pathO t with | some ps => plenB ps us | none => false) = true; rw [e1]; exact e2) _ _ s1 (.inr (.inr (.inr ⟨rfl, ps, p, e1, rfl, hp⟩)))
end
end My

set_option Elab.async false
set_option linter.all false
set_option maxRecDepth 100000
set_option maxHeartbeats 4000000
namespace My
open PySem L2
theorem cut_take (xs : List V) (k : Nat) : cutV xs none (some (k : Int)) = xs.take k := by
  by_cases h : k ≤ xs.length
  · exact cutV_take xs k h
  · unfold cutV
    rw [HT.sIx_nat, HT.sIx_none, List.drop_zero, Nat.sub_zero, Nat.min_eq_right (by omega), List.take_of_length_le (Nat.le_refl _), List.take_of_length_le (by omega)]
theorem first_of {us : List U} : ∀ (ws : List Str) (k i : Nat) (t : Str), ws[i]? = some t → okW us (k + i) t = false → (∀ j t', j < i → ws[j]? = some t' → okW us (k + j) t' = true) → firstBad us k ws = some (k + i)
  | [], k, i, t, h, _, _ => by cases h
  | t0 :: r, k, 0, t, h, hb, _ => by
    cases h
    unfold firstBad
    rw [if_neg (by rw [show okW us k t0 = false from hb]; exact Bool.false_ne_true)]
    rfl
  | t0 :: r, k, i + 1, t, h, hb, ho => by
    unfold firstBad
    rw [if_pos (show okW us k t0 = true from ho 0 t0 (by omega) rfl), first_of r (k + 1) i t h (by rw [show k + 1 + i = k + (i + 1) by omega]; exact hb) fun j t' hj ht => by
      rw [show k + 1 + j = k + (j + 1) by omega]; exact ho (j + 1) t' (by omega) ht]
    congr 1
    omega
theorem none_of_all {us : List U} : ∀ (ws : List Str) (k : Nat), (∀ j t', ws[j]? = some t' → okW us (k + j) t' = true) → firstBad us k ws = none
  | [], k, _ => rfl
  | t0 :: r, k, ho => by
    unfold firstBad
    rw [if_pos (show okW us k t0 = true from ho 0 t0 rfl)]
    exact none_of_all r (k + 1) fun j t' ht => by
      rw [show k + 1 + j = k + (j + 1) by omega]; exact ho (j + 1) t' ht
section
variable {P : Program} {w : World} {K : PySem.W.Frag} {mg : Str → Option Value} {base : Heap} {a : Ad}
theorem raise_nl {H H2 : Hp} {E : XK} {i k : Nat} (s : Same H H2) (q : RefL a H E i k) (x : Addr) (hx : H2 x = none) : spI2 a.c_NoListing "line" "word" [.ref x, .int (i : Nat), .int (k : Nat)] (upd H2 x (.ext (XD0 x a.c_NoListing))) (fun v H3 => v = .non ∧ ∃ x' dct φ, V.ref x = .ref x' ∧ H3 x' = some (.ext φ) ∧ (∀ h, φ h → XU x' a.c_NoListing dct h) ∧ H x' = none ∧ E (.ref a.c_NoListing) dct (untr H3 x')) E0 := by
  refine ⟨x, _, _, rfl, upd_same, fun dx hd hne => ⟨rfl, x, some dx, _, rfl, by rw [upd_ne hne.symm]; exact upd_same, fun h z => z, s.free hx, ?_⟩⟩
  have hd' : H2 dx = none := by rw [upd_ne hne] at hd; exact hd
  refine q _ dx (fun b o e => ?_) (by rw [untr_ne hne]; exact upd_same)
  have e2 := s b o e
  have b1 : b ≠ x := fun z => by rw [z, hx] at e2; cases e2
  have b2 : b ≠ dx := fun z => by rw [z, hd'] at e2; cases e2
  rw [untr_ne b1, upd_ne b2, upd_ne b1, upd_ne b2, upd_ne b1]
  exact e2
theorem ok_unitof (T : Txt K mg a) : FnOk P w K mg base (CXG P w) 6 a.f_unit_of a.d_unit_of ["words", "ahead"] (spUnitOf a) := by
  have G_part_of : FnOk P w K mg base CX0 5 _ _ _ spPartOf := ok_partof T
  have G_NoListing : FnOk P w K mg base CX0 4 _ _ _ (spI2 a.c_NoListing "line" "word") := (oi_NoListing T).mono (by decide)
  refine T.F_unit_of.okG sc_unit_of (fun vs H Q E h => ?_) (fun cdv A outer s H vs Q E hr h => ?_)
  · obtain ⟨wl, l, ws, us, xs, rfl, _⟩ := h; rfl
  · obtain ⟨wl, l, ws, us, xs, rfl, hw, hw6, hwn, hl, hu, hz, q1, q2⟩ := h
    have small : sizeLine = 16777216 := sizeLine_eq
    refine ⟨_, (pss_cons (ps_set (i := 2) sc_unit_of.nd rfl (Or.inl rfl) (pe_callB call_lenM rfl T.z_len bt_len (pa_cons (vr 1) pa_nil))) (pss_cons (ps_set (i := 3) sc_unit_of.nd rfl (Or.inl rfl) (pe_lst pa_nil)) (pss_cons (ps_for ownG rfl (pi_enum rfl T.z_enumerate (pa_cons (pe_slice sl_any (vr 0) po_none (po_some (pe_gl rfl T.g_UNIT_PARTS))) pa_nil)) (pg_tup rfl (pgs_cons (pg_name (i := 4) sc_unit_of.nd rfl (Or.inl rfl)) (pgs_cons (pg_name (i := 5) sc_unit_of.nd rfl (Or.inl rfl)) pgs_nil))) (pss_cons (ps_set (i := 6) sc_unit_of.nd rfl (Or.inl rfl) (pe_call G_part_of hr rfl T.m_part_of T.F_part_of.kp T.B_part_of .nil pass0 (pa_cons (vr 4) (pa_cons (vr 5) (pa_cons (vr 1) pa_nil))))) (pss_cons (ps_if (t_cmp o_is (vr 6) pe_non (nomark _)) (pss_one (ps_raiseG T.xc_NoListing T.xh_NoListing (pe_mkX T.xi_NoListing T.kc_NoListing T.fn_NoListing G_NoListing hr rfl T.mc_NoListing T.Bi_NoListing (pa_cons (vr 2) (pa_cons (vr 4) pa_nil)) len2))) pss_nil) (pss_one (ps_expr (pe_m.append (vr 3) (pa_cons (vr 6) pa_nil))))))) (pss_cons (ps_if (t_cmp o_ne (pe_callB call_lenM rfl T.z_len bt_len (pa_cons (vr 0) pa_nil)) (pe_gl rfl T.g_UNIT_PARTS) (nomark _)) (pss_one (ps_raiseG T.xc_NoListing T.xh_NoListing (pe_mkX T.xi_NoListing T.kc_NoListing T.fn_NoListing G_NoListing hr rfl T.mc_NoListing T.Bi_NoListing (pa_cons (vr 2) (pa_cons (pe_callB call_lenM rfl T.z_len bt_len (pa_cons (vr 3) pa_nil)) pa_nil)) len2))) pss_nil) (pss_one (ps_ret (pe_callTy call_tuple_of rfl T.z_tuple bt_tuple (pa_cons (vr 3) pa_nil)))))))), ?_⟩
    refine ⟨xs, .inl (SqL.of hl), Nat.zero_le _, fun pt hpt => ?_⟩
    have s0 : Same H (upd H pt (.lst [])) := Same.new hpt
    refine ⟨_, rfl, .inl ⟨_, SqL.of (s0 _ _ hw), fun wc hwc => ?_⟩⟩
    have e4 : cutV (ws.map V.str) none (some 4) = (ws.take 4).map V.str := by rw [show (some (4 : Int)) = some ((4 : Nat) : Int) from rfl, cut_take, List.map_take]
    rw [e4] at *
    have s1 : Same (upd H pt (.lst [])) (upd (upd H pt (.lst [])) wc (.lst ((ws.take 4).map V.str))) := Same.new hwc
    have t4 : (ws.take 4).length = min 4 ws.length := List.length_take
    refine ⟨wc, _, rfl, upd_same, for_enum (a := wc) (xs := (ws.take 4).map V.str) (fun i σ H' => i ≤ 4 ∧ Same H H' ∧ H' wc = some (.lst ((ws.take 4).map V.str)) ∧ (∀ j t, j < i → (ws.take 4)[j]? = some t → okW us j t = true) ∧ ∃ (vs : List V) (x4 x5 x6 : Option V), σ = [some (.ref wl), some (.ref l), some (.int xs.length), some (.ref pt), x4, x5, x6] ∧
      H' pt = some (.lst vs) ∧ vs.length = i ∧ ∀ (j : Nat) v t, vs[j]? = some v → ws[j]? = some t → PV j t H' v) ⟨Nat.zero_le _, s0.trans s1, upd_same, (fun j t hj => by omega), [], none, none, none, rfl, s1 _ _ upd_same, rfl, fun j v t hv => by cases hv⟩ (fun i σ H' h => h.2.2.1) ?_ ?_⟩
    · rintro i x σ H' p hx ⟨hi, s2, hws2, hok, vs, x4, x5, x6, rfl, hpt2, hvl, hvs⟩ hp
      rw [List.getElem?_map] at hx
      cases ht : (ws.take 4)[i]? with
      | none => rw [ht] at hx; cases hx
      | some t =>
        rw [ht] at hx
        cases hx
        have hi4 : i < 4 := by have := (List.getElem?_eq_some_iff.mp ht).1; omega
        have htw : ws[i]? = some t := by rw [List.getElem?_take_of_lt hi4] at ht; exact ht
        have s3 : Same H' (upd H' p (.tup [.int (i : Nat), .str t])) := Same.new hp
        refine ⟨p, _, rfl, SqT.of upd_same, rfl, _, _, rfl, _, _, rfl, rfl, ?_⟩
        generalize upd H' p (.tup [.int (i : Nat), .str t]) = H1 at s3
        refine ⟨i, t, l, us, xs, rfl, hi4, hw6 t (List.mem_of_getElem? htw), (s2.trans s3) _ _ hl, hu.tk (s2.trans s3).tk, by omega, fun c H2 v s4 hv => ?_, fun c H2 s4 => ?_⟩
        · have s5 := s3.trans s4
          refine ifB (fun h => absurd (of_decide_eq_true h) hv.nn) (fun _ => ?_)
          have hne : wc ≠ pt := fun z => by rw [z, upd_same] at hwc; cases hwc
          refine ⟨.inl ⟨rfl, _, SqL.of (s5 _ _ hpt2)⟩, pt, vs, v, rfl, rfl, s5 _ _ hpt2, by omega, ?_⟩
          refine ⟨hi4, ((s2.trans s5).put hpt), by rw [upd_ne hne]; exact s5 _ _ hws2, fun j t' hj ht' => ?_, vs ++ [v], _, _, _, rfl, upd_same, by rw [List.length_append, hvl]; rfl, ?_⟩
          · by_cases hji : j < i
            · exact hok j t' hji ht'
            · have : j = i := by omega
              subst this
              rw [ht] at ht'
              cases ht'
              exact c
          intro j y t' hy ht'
          have tk : TK H2 (upd H2 pt (.lst (vs ++ [v]))) := TK.lst (s5 _ _ hpt2)
          by_cases hj : j < vs.length
          · rw [List.getElem?_append_left hj] at hy
            exact ((hvs j y t' hy ht').tk s5.tk).tk tk
          · rw [List.getElem?_append_right (by omega)] at hy
            have hj2 : j = vs.length := by
              have := (List.getElem?_eq_some_iff.mp hy).1
              simp at this
              omega
            rw [hj2, Nat.sub_self] at hy
            cases hy
            rw [hj2, hvl] at ht' ⊢
            rw [htw] at ht'
            cases ht'
            exact hv.tk tk
        · have e := first_of (us := us) (ws.take 4) 0 i t ht (by rw [Nat.zero_add]; exact c) fun j t' hj ht' => by rw [Nat.zero_add]; exact hok j t' hj ht'
          rw [Nat.zero_add] at e
          have ew : wrongW us ws = some i := by unfold wrongW; rw [e]
          intro x hx
          exact raise_nl ((s2.trans s3).trans s4) (q2 i ew) x hx
    · rintro σ H' ⟨_, s2, hws2, hok, vs, x4, x5, x6, rfl, hpt2, hvl, hvs⟩
      rw [List.length_map] at hok hvl
      have en := none_of_all (us := us) (ws.take 4) 0 fun j t' ht' => by rw [Nat.zero_add]; exact hok j t' (List.getElem?_eq_some_iff.mp ht').1 ht'
      refine ⟨_, .inl (SqL.of (s2 _ _ hw)), ?_⟩
      rw [List.length_map]
      refine ifB (fun c => ?_) (fun c => ?_)
      · have c' : ws.length ≠ 4 := fun z => by rw [z] at c; cases c
        refine ⟨_, .inl (SqL.of hpt2), ?_⟩
        have ew : wrongW us ws = some (min 4 ws.length) := by unfold wrongW; rw [en]; simp only [if_neg c']
        intro x hx
        have := raise_nl s2 (q2 _ ew) x hx
        rw [hvl, t4]
        exact this
      · have c' : ws.length = 4 := by
          by_cases z : ws.length = 4
          · exact z
          · exfalso
            have : (!decide ((ws.length : Int) = 4)) = true := by rw [decide_eq_false (by omega)]; rfl
            rw [show (!decide ((ws.length : Int) = 4)) = false from c] at this
            cases this
        have ew : wrongW us ws = none := by unfold wrongW; rw [en]; simp only [if_pos c']
        have hv4 : vs.length = 4 := by omega
        match ws, c', vs, hv4, hvs, hpt2, ew, q1 with
        | [a0, a1, a2, a3], _, [y0, y1, y2, y3], _, hvs, hpt2, ew, q1 =>
          have h0 := hvs 0 y0 a0 rfl rfl
          have h1 := hvs 1 y1 a1 rfl rfl
          have h2 := hvs 2 y2 a2 rfl rfl
          have h3 := hvs 3 y3 a3 rfl rfl
          have e0 : y0 = .str a0 := by
            rcases h0 with h | h | h | h
            · exact h.2
            · exact absurd h.1 (by decide)
            · exact absurd h.1 (by decide)
            · exact absurd h.1 (by decide)
          obtain ⟨n1, c1, e1⟩ : ∃ n, numW (-1000000000) 1000000000 a1 = some n ∧ y1 = .int n := by
            rcases h1 with h | h | h | h
            · exact absurd h.1 (by decide)
            · exact h.2
            · exact absurd h.1 (by decide)
            · exact absurd h.1 (by decide)
          obtain ⟨n2, c2, e2⟩ : ∃ n, numW 1 1000000 a2 = some n ∧ y2 = .int n := by
            rcases h2 with h | h | h | h
            · exact absurd h.1 (by decide)
            · exact absurd h.1 (by decide)
            · exact h.2
            · exact absurd h.1 (by decide)
          obtain ⟨ps, pp, c3, e3, hpp⟩ : ∃ ps p, pathO a3 = some ps ∧ y3 = .ref p ∧ H' p = some (.tup (ps.map V.str)) := by
            rcases h3 with h | h | h | h
            · exact absurd h.1 (by decide)
            · exact absurd h.1 (by decide)
            · exact absurd h.1 (by decide)
            · exact h.2
          subst e0 e1 e2 e3
          have eu : unitW [a0, a1, a2, a3] = { name := a0, value := n1, size := n2, path := ps } := by
            unfold unitW
            show U.mk a0 ((numW (-1000000000) 1000000000 a1).getD 0) ((numW 1 1000000 a2).getD 0) ((pathO a3).getD []) = _
            rw [c1, c2, c3]
            rfl
          refine ⟨pt, _, rfl, .inl ⟨SqL.of hpt2, fun t ht => q1 ew _ _ (s2.trans (Same.new ht)) ?_⟩⟩
          rw [eu]
          exact ⟨t, pp, rfl, upd_same, Same.new ht _ _ hpp⟩
end
end My

set_option Elab.async false
set_option linter.all false
set_option maxRecDepth 100000
set_option maxHeartbeats 4000000
namespace My
open PySem L2
/-- a line: a text, or a thing that is none -/
inductive Ln (H : Hp) : V → Option Str → Prop
  | str (t : Str) (h : t.cps.size ≤ 639) : Ln H (.str t) (some t)
  | other (x : V) (c : Cl) (h : IsC H x c) (n : ∀ t, x ≠ .str t) : Ln H x none
theorem Ln.same {H H' : Hp} {x : V} {o : Option Str} (s : Same H H') (h : Ln H x o) : Ln H' x o := by
  cases h with
  | str t h => exact .str t h
  | other _ c h n => exact .other _ c (h.same s) n
abbrev AllN (H : Hp) : List (Option Str) → List V → Prop := PySem.Paired fun o x => Ln H x o
theorem AllN.get {H : Hp} : ∀ {os : List (Option Str)} {xs : List V} {i : Nat} {x : V}, AllN H os xs → xs[i]? = some x → ∃ o, os[i]? = some o ∧ Ln H x o
  | _, _, _, _, .nil, h => by cases h
  | _, _, 0, _, .cons r _, h => ⟨_, rfl, by cases h; exact r⟩
  | _, _, i + 1, _, .cons _ t, h => AllN.get (i := i) t h
def wordsO : Option Str → List Str
  | some t => splS 32 t
  | none => [""]
/-- the first wrong line and word, behind the units us -/
def wrongL (us : List U) : List (Option Str) → Option (Nat × Nat)
  | [] => none
  | o :: r => match wrongW us (wordsO o) with
    | some k => some (us.length, k)
    | none => wrongL (us ++ [unitW (wordsO o)]) r
def spWords : Sp := fun vs H Q _ => ∃ (x : V) (o : Option Str), vs = [x] ∧ Ln H x o ∧ ∀ H' r, Same H H' → H r = none → H' r = some (.lst ((wordsO o).map V.str)) → Q (.ref r) H'
def spListing (a : Ad) : Sp := fun vs H Q E => ∃ (x : V), vs = [x] ∧ ((NoLen H x ∧ ∀ H', Same H H' → E (.ref a.c_NoUnits) none H') ∨
  ∃ (l : Addr) (xs : List V) (os : List (Option Str)), x = .ref l ∧ H l = some (.lst xs) ∧ 1 ≤ xs.length ∧ xs.length ≤ 24 ∧ AllN H os xs ∧ (wrongL [] os = none → ∀ H' v, Same H H' → Q v H') ∧ ∀ i k, wrongL [] os = some (i, k) → RefL a H E i k)
section
variable {P : Program} {w : World} {K : PySem.W.Frag} {mg : Str → Option Value} {base : Heap} {a : Ad}
theorem ok_words (T : Txt K mg a) : FnOk P w K mg base CX0 1 a.f_words_of a.d_words_of ["line"] spWords := by
  refine T.F_words_of.ok sc_words_of (fun vs H Q E h => ?_) (fun cdv A outer s H vs Q E hr h => ?_)
  · obtain ⟨x, o, rfl, _⟩ := h; rfl
  · obtain ⟨x, o, rfl, ln, q⟩ := h
    have small : sizeLine = 16777216 := sizeLine_eq
    refine ⟨_, (pss_one (ps_ret (pe_ifExp (t_val (pe_callB call_isi rfl T.z_isinstance bt_isinstance (pa_cons (vr 0) (pa_cons (pe_bltn (v := .ty "str") rfl T.z_str bt_str rfl) pa_nil)))) (pe_m.split (vr 0) (pa_cons pe_str pa_nil)) (pe_lst (pa_cons pe_str pa_nil))))), ?_⟩
    have non : ∀ p, H p = none → Q (.ref p) (upd H p (.lst [.str ""])) → Q (.ref p) (upd H p (.lst [.str ""])) := fun _ _ h => h
    cases ln with
    | str t h =>
      refine ⟨_, _, _, true, rfl, rfl, .str t, rfl, rfl, _, 32, rfl, by rw [blank_code], by omega, fun l ts hl e => ?_⟩
      exact q _ l (Same.new hl) hl (by rw [splS_eq e]; exact upd_same)
    | other _ c h n =>
      cases h with
      | int i => exact ⟨_, _, _, false, rfl, rfl, .int i, rfl, (by decide : 1 ≤ sizeLine), fun p hp => q _ p (Same.new hp) hp upd_same⟩
      | bl b => exact ⟨_, _, _, false, rfl, rfl, .bl b, rfl, (by decide : 1 ≤ sizeLine), fun p hp => q _ p (Same.new hp) hp upd_same⟩
      | non => exact ⟨_, _, _, false, rfl, rfl, .non, rfl, (by decide : 1 ≤ sizeLine), fun p hp => q _ p (Same.new hp) hp upd_same⟩
      | str t h => exact absurd rfl (n t)
      | lst p' xs e => exact ⟨_, _, _, false, rfl, rfl, .lst e, rfl, (by decide : 1 ≤ sizeLine), fun p hp => q _ p (Same.new hp) hp upd_same⟩
      | tup p' xs e => exact ⟨_, _, _, false, rfl, rfl, .tup e, rfl, (by decide : 1 ≤ sizeLine), fun p hp => q _ p (Same.new hp) hp upd_same⟩
      | dK p' kvs e => exact ⟨_, _, _, false, rfl, rfl, .dK e, rfl, (by decide : 1 ≤ sizeLine), fun p hp => q _ p (Same.new hp) hp upd_same⟩
theorem words_ok {H : Hp} {x : V} {o : Option Str} (h : Ln H x o) : (∀ t ∈ wordsO o, t.length ≤ 640) ∧ (wordsO o).length ≤ 1000 := by
  cases h with
  | str t h =>
    refine ⟨fun w hw => ?_, ?_⟩
    · have := splS_len hw
      show w.cps.size ≤ 640
      omega
    · have := splS_cnt 32 t
      show (splS 32 t).length ≤ 1000
      omega
  | other _ c h n =>
    refine ⟨fun w hw => ?_, by decide⟩
    rw [List.mem_singleton.mp hw]
    decide +kernel
end
end My

set_option Elab.async false
set_option linter.all false
set_option maxRecDepth 100000
set_option maxHeartbeats 4000000
namespace My
open PySem L2
section
variable {P : Program} {w : World} {K : PySem.W.Frag} {mg : Str → Option Value} {base : Heap} {a : Ad}
theorem ok_listing (T : Txt K mg a) : FnOk P w K mg base (CXG P w) 7 a.f_listing_of a.d_listing_of ["lines"] (spListing a) := by
  have G_has_listing_length : FnOk P w K mg base CX0 6 _ _ _ spHll := (ok_hll T).mono (by decide)
  have G_unit_of : FnOk P w K mg base (CXG P w) 6 _ _ _ (spUnitOf a) := ok_unitof T
  have G_words_of : FnOk P w K mg base CX0 6 _ _ _ spWords := (ok_words T).mono (by decide)
  refine T.F_listing_of.okG sc_listing_of (fun vs H Q E h => ?_) (fun cdv A outer s H vs Q E hr h => ?_)
  · obtain ⟨x, rfl, _⟩ := h; rfl
  · obtain ⟨x, rfl, h⟩ := h
    have small : sizeLine = 16777216 := sizeLine_eq
    refine ⟨_, (pss_cons (ps_if (pt_not (t_val (pe_call G_has_listing_length hr rfl T.m_has_listing_length T.F_has_listing_length.kp T.B_has_listing_length .nil pass0 (pa_cons (vr 0) pa_nil)))) (pss_one (ps_raiseG T.xc_NoUnits T.xh_NoUnits (pe_mkX0 T.xi_NoUnits T.kc_NoUnits rfl T.mc_NoUnits))) pss_nil) (pss_cons (ps_set (i := 1) sc_listing_of.nd rfl (Or.inl rfl) (pe_lst pa_nil)) (pss_cons (ps_for ownG rfl (pi_any (vr 0)) (pg_name (i := 2) sc_listing_of.nd rfl (Or.inl rfl)) (pss_one (ps_expr (pe_m.append (vr 1) (pa_cons (pe_call G_unit_of hr rfl T.m_unit_of T.F_unit_of.kp T.B_unit_of .nil passG (pa_cons (pe_call G_words_of hr rfl T.m_words_of T.F_words_of.kp T.B_words_of .nil pass0 (pa_cons (vr 2) pa_nil)) (pa_cons (vr 1) pa_nil))) pa_nil))))) (pss_one (ps_ret (vr 1)))))), ?_⟩
    rcases h with ⟨nl, q⟩ | ⟨l, xs, os, rfl, hl, g1, g2, ho, q1, q2⟩
    · refine ⟨_, rfl, .inr ⟨nl, ?_⟩⟩
      intro y hy
      refine ⟨y, none, _, rfl, upd_same, fun h z => z, hy, q _ fun b o e => ?_⟩
      have b1 : b ≠ y := fun z => by rw [z, hy] at e; cases e
      rw [untr_ne b1, upd_ne b1]
      exact e
    · refine ⟨_, rfl, .inl ⟨l, xs, rfl, hl, g1, g2, ?_⟩⟩
      have ol : os.length = xs.length := Paired.length ho
      refine ⟨Nat.zero_le _, fun r hr0 => ?_⟩
      have s0 : Same H (upd H r (.lst [])) := Same.new hr0
      refine .inl ⟨⟨_, SqL.of (s0 _ _ hl)⟩, for_list (K := K) (a := l) (xs := xs) (fun i σ H' => Same H H' ∧ ∃ (us : List U) (ys : List V) (x2 : Option V), σ = [some (.ref l), some (.ref r), x2] ∧ H' r = some (.lst ys) ∧ AllU H' us ys ∧ us.length = i ∧ wrongL us (os.drop i) = wrongL [] os)
        ⟨s0, [], [], none, rfl, upd_same, .nil, rfl, by rw [List.drop_zero]⟩ (fun i σ H' _ h => SqL.of (h.1 _ _ hl)) ?_ ?_⟩
      · rintro i x σ H' hx ⟨s1, us, ys, x2, rfl, hr1, hU, hul, hwr⟩
        obtain ⟨o, hoi, hLn⟩ := ho.get hx
        have hi : i < xs.length := (List.getElem?_eq_some_iff.mp hx).1
        have hyl := hU.len
        have ed : os.drop i = o :: os.drop (i + 1) := by
          rw [List.drop_eq_getElem_cons (by omega)]
          rw [List.getElem?_eq_getElem (by omega)] at hoi
          rw [Option.some.inj hoi]
        rw [ed, wrongL] at hwr
        obtain ⟨w1, w2⟩ := words_ok hLn
        refine ⟨.inl ⟨rfl, _, SqL.of hr1⟩, x, o, rfl, hLn.same s1, fun H2 wl s2 nwl hwl => ?_⟩
        refine ⟨wl, r, wordsO o, us, ys, rfl, hwl, w1, w2, s2 _ _ hr1, hU.tk s2.tk, by omega, fun ew H3 y s3 hy => ?_, fun k ew => ?_⟩
        · rw [ew] at hwr
          refine ⟨r, ys, _, rfl, rfl, (s2.trans s3) _ _ hr1, by omega, ((s1.trans s2).trans s3).put hr0, us ++ [unitW (wordsO o)], ys ++ [.ref y], _, rfl, upd_same, ?_, by rw [List.length_append, hul]; rfl, hwr⟩
          have tk : TK H3 (upd H3 r (.lst (ys ++ [.ref y]))) := TK.lst ((s2.trans s3) _ _ hr1)
          exact AllU.snoc (hy.tk tk) (hU.tk ((s2.trans s3).tk.trans tk))
        · rw [ew] at hwr
          have := q2 _ _ hwr.symm
          rw [← hyl]
          exact fun H4 dx s4 e4 => this H4 dx ((s1.trans s2).trans s4) e4
      · rintro σ H' ⟨s1, us, ys, x2, rfl, hr1, hU, hul, hwr⟩
        rw [List.drop_of_length_le (by omega)] at hwr
        exact q1 hwr.symm _ _ s1
end
end My

set_option Elab.async false
set_option linter.all false
set_option maxRecDepth 100000
set_option maxHeartbeats 4000000
namespace My
open PySem L2
section
variable {P : Program} {w : World} {K : PySem.W.Frag} {mg : Str → Option Value} {base : Heap} {a : Ad}
def Asc (t : Str) : Prop := ∀ n ∈ t.cps.toList, n < 128
def spLName : Sp := fun vs H Q _ => ∃ (t : Str), vs = [.str t] ∧ t.length ≤ 640 ∧ Asc t ∧ ∀ H', Same H H' → Q (.bl (nameB t)) H'
theorem ok_lname (T : Txt K mg a) : FnOk P w K mg base CX0 1 a.f_L_is_name a.d_L_is_name ["_law_text"] spLName := by
  refine T.F_L_is_name.ok sc_L_is_name (fun vs H Q E h => ?_) (fun cdv A outer s H vs Q E hr h => ?_)
  · obtain ⟨t, rfl, _⟩ := h; rfl
  · obtain ⟨t, rfl, hz, hasc, q⟩ := h
    have sl : sizeLine = 16777216 := sizeLine_eq
    have ea : ("a" : Str) = ⟨#[97]⟩ := by decide +kernel
    have ez : ("z" : Str) = ⟨#[122]⟩ := by decide +kernel
    have hz' : t.cps.size ≤ 640 := hz
    have no : ¬ (1 ≤ (t.cps.size : Int) ∧ (t.cps.size : Int) ≤ 8) → ∀ H', Same H H' → Q (.bl false) H' := fun c H' s => by
      have := q H' s
      unfold nameB madeB at this
      rw [decide_eq_false c] at this
      exact this
    refine ⟨_, (pss_one (ps_ret (m_and (m_chain o_lt o_lt pe_int (pe_callB call_lenM rfl T.z_len bt_len (pa_cons (vr 0) pa_nil)) pe_int) (pe_one (pe_cmpR (o_eqD hr.units) (pe_comp rfl (N := ["_law_sign"]) (ix := [none]) ⟨rfl, rfl, rfl, rfl, trivial⟩ (pi_any (vr 0)) ⟨fun C s H fp => pg_name (i := 0) (show List.Nodup (["_law_sign"] : List Str) by decide +kernel) rfl (Or.inl rfl), fun C s H fp => pts_one (pt_not (t_chain o_le o_le pe_str (vr 0) pe_str)), fun C s H fp => (vr 0)⟩) (pe_lst pa_nil) (nomark _)))))), ?_⟩
    refine ⟨by omega, ?_⟩
    refine ifC (fun c1 => ?_) (fun c1 => no (fun z => c1 (by show (0 : Int) < (t.cps.size : Int); omega)) _ (Same.refl H))
    refine ifC (fun c2 => ?_) (fun c2 => no (fun z => c2 (by show (t.cps.size : Int) < 9; omega)) _ (Same.refl H))
    have c1' : (0 : Int) < (t.cps.size : Int) := c1
    have c2' : (t.cps.size : Int) < 9 := c2
    intro D hD
    refine comp_filt (fun c => !decide (97 ≤ c ∧ c ≤ 122)) (by omega) (fun c H' R hc hR => ?_) ?_
    · refine ifB (fun h3 => ?_) (fun h3 => ?_)
      · have h3' : ¬ c < 97 := by
          have z : decide ((⟨#[c]⟩ : Str).cps.toList < ("a" : Str).cps.toList) = false := by simpa using h3
          rw [ea, le_codes] at z
          exact of_decide_eq_false z
        have : (decide (("z" : Str).cps.toList < (⟨#[c]⟩ : Str).cps.toList)) = !decide (97 ≤ c ∧ c ≤ 122) := by
          rw [ez, le_codes, Bool.eq_iff_iff]
          simp
          omega
        show R (!(!decide (("z" : Str).cps.toList < (⟨#[c]⟩ : Str).cps.toList))) H'
        rw [Bool.not_not, this]
        exact hR
      · have h3' : c < 97 := by
          have z : decide ((⟨#[c]⟩ : Str).cps.toList < ("a" : Str).cps.toList) = true := by simpa using h3
          rw [ea, le_codes] at z
          exact of_decide_eq_true z
        have : (!decide (97 ≤ c ∧ c ≤ 122)) = true := by simp; omega
        show R (!false) H'
        rw [this] at hR
        exact hR
    · refine ⟨Nat.zero_le _, fun p hp => ?_⟩
      have npD : D ≠ p := fun z => by rw [← z, upd_same] at hp; cases hp
      refine ⟨.list ((t.cps.toList.filter fun c => !decide (97 ≤ c ∧ c ≤ 122)).map fun c => PyData.str ⟨#[c]⟩), .list [], ?_, ?_, ?_, by decide +kernel, ?_⟩
      · rw [DV]
        exact ⟨D, _, rfl, SqL.of (by rw [upd_ne npD]; exact upd_same), dvs_strs _⟩
      · rw [DV]
        exact ⟨p, [], rfl, SqL.of upd_same, by simp [DVs]⟩
      · exact shaped_list _ fun n hn => hasc n (List.mem_filter.mp hn).1
      · have e2 : (t.cps.toList.filter fun c => !decide (97 ≤ c ∧ c ≤ 122)).isEmpty = nameB t := by
          unfold nameB madeB
          rw [decide_eq_true (by omega), Bool.true_and, Bool.eq_iff_iff]
          constructor
          · intro h; rw [List.all_eq_true]; intro x hx
            have := (List.filter_eq_nil_iff.mp (List.isEmpty_iff.mp h)) x hx
            exact decide_eq_true ((letters_codes x).mpr (by simpa using this))
          · intro h; rw [List.isEmpty_iff, List.filter_eq_nil_iff]; intro x hx
            have := (letters_codes x).mp (of_decide_eq_true (List.all_eq_true.mp h x hx))
            simpa using this
        have sm : Same H (upd (upd H D (.lst ((t.cps.toList.filter fun c => !decide (97 ≤ c ∧ c ≤ 122)).map fun c => V.str ⟨#[c]⟩))) p (.lst [])) := (Same.new hD).trans (Same.new hp)
        have := q _ sm
        rw [← e2, ← eqv_strs_nil] at this
        exact this
end
end My

set_option Elab.async false
set_option linter.all false
set_option maxRecDepth 100000
set_option maxHeartbeats 4000000
namespace My
open PySem L2
theorem int_of {t : Str} (h : NumM.digB (NumM.bareL t.cps.toList) = true) (hz : t.length ≤ 640) : PySem.intText? t = some (NumM.valS t.cps.toList) := by
  obtain ⟨ha, hl1, hl2⟩ := NumM.digB_all h
  by_cases hn : t.cps.toList.head? = some 45
  · have e : t.cps.toList = 45 :: NumM.bareL t.cps.toList := by
      unfold NumM.bareL
      rw [if_pos hn]
      cases hl : t.cps.toList with
      | nil => rw [hl] at hn; cases hn
      | cons c r => rw [hl] at hn; have : c = 45 := by simpa using hn
                    rw [this]; rfl
    have := PySem.intText_neg e ha (by intro z; rw [z] at hl1; exact absurd hl1 (by decide)) (Nat.le_trans hz (by decide))
    rw [this]; unfold NumM.valS; rw [if_pos hn]
  · have e : NumM.bareL t.cps.toList = t.cps.toList := by unfold NumM.bareL; rw [if_neg hn]
    rw [e] at ha hl1
    have := PySem.intText_digits ha (by intro z; rw [z] at hl1; exact absurd hl1 (by decide)) (Nat.le_trans hz (by decide))
    rw [this]; unfold NumM.valS; rw [if_neg hn, e]
theorem inV_bools : ∀ (bs : List Bool), inV (.bl false) (bs.map V.bl) = !bs.all id
  | [] => rfl
  | b :: bs => by
    have ih := inV_bools bs
    unfold inV at *
    rw [List.map_cons, List.any_cons, ih, List.all_cons]
    cases b <;> simp [eqV]
theorem flat_bools (bs : List Bool) : (bs.map V.bl).all flatV = true := by
  rw [List.all_eq_true]
  intro x hx
  obtain ⟨k, _, rfl⟩ := List.mem_map.mp hx
  rfl
def oN : Option (List Str) → V
  | some ps => .int ps.length
  | none => .non
section
variable {P : Program} {w : World} {K : PySem.W.Frag} {mg : Str → Option Value} {base : Heap} {a : Ad}
def spLNum : Sp := fun vs H Q _ => ∃ (t : Str) (lo hi : Int), vs = [.str t, .int lo, .int hi] ∧ t.length ≤ 640 ∧ Asc t ∧ ∀ H', Same H H' → Q (.bl (numW lo hi t).isSome) H'
def spDepth : Sp := fun vs H Q _ => ∃ (t : Str), vs = [.str t] ∧ t.length ≤ 640 ∧ Asc t ∧ ∀ H', Same H H' → Q (oN (pathO t)) H'
theorem asc_spl {c : Nat} {t w : Str} (h : Asc t) (hw : w ∈ splS c t) : Asc w := by
  unfold splS at hw
  obtain ⟨l, hl, rfl⟩ := List.mem_map.mp hw
  intro n hn
  have hn' : n ∈ l := by simpa using hn
  have key : ∀ (m p : List Nat), p ∈ SplM.splitC c m → ∀ x ∈ p, x ∈ m := by
    intro m
    induction m with
    | nil => intro p hp x hx; have : p = [] := by simpa [SplM.splitC] using hp
             rw [this] at hx; cases hx
    | cons b m ih =>
      intro p hp x hx
      unfold SplM.splitC at hp
      by_cases e : b = c
      · rw [if_pos e] at hp
        rcases List.mem_cons.mp hp with h | h
        · rw [h] at hx; cases hx
        · exact List.mem_cons_of_mem _ (ih p h x hx)
      · rw [if_neg e] at hp
        cases hs : SplM.splitC c m with
        | nil => exact absurd hs (SplM.splitC_ne c m)
        | cons q r =>
          rw [hs] at hp
          rcases List.mem_cons.mp hp with h | h
          · rw [h] at hx
            rcases List.mem_cons.mp hx with h2 | h2
            · rw [h2]; exact List.mem_cons_self
            · exact List.mem_cons_of_mem _ (ih q (by rw [hs]; exact List.mem_cons_self) x h2)
          · exact List.mem_cons_of_mem _ (ih p (by rw [hs]; exact List.mem_cons_of_mem _ h) x hx)
  exact h n (key _ l hl n hn')
theorem ok_depth (T : Txt K mg a) : FnOk P w K mg base CX0 2 a.f_L_depth a.d_L_depth ["_law_word"] spDepth := by
  have G_L_is_name : FnOk P w K mg base CX0 1 _ _ _ spLName := ok_lname T
  refine T.F_L_depth.ok sc_L_depth (fun vs H Q E h => ?_) (fun cdv A outer s H vs Q E hr h => ?_)
  · obtain ⟨t, rfl, _⟩ := h; rfl
  · obtain ⟨t, rfl, hz, hasc, q⟩ := h
    have sl : sizeLine = 16777216 := sizeLine_eq
    have hz' : t.cps.size ≤ 640 := hz
    refine ⟨_, (pss_cons (ps_if (t_cmp o_eq (vr 0) pe_str (nomark _)) (pss_one (ps_ret pe_int)) pss_nil) (pss_cons (ps_set (i := 1) sc_L_depth.nd rfl (Or.inl rfl) (pe_m.split (vr 0) (pa_cons pe_str pa_nil))) (pss_cons (ps_if (PW.pt (pw_or (t_cmp o_gt (pe_callB call_lenM rfl T.z_len bt_len (pa_cons (vr 1) pa_nil)) pe_int (nomark _)) (pw_or1 (t_cmp op_in_seq pe_bl (pe_comp rfl (N := ["_law_name"]) (ix := [none]) ⟨rfl, rfl, rfl, rfl, trivial⟩ (pi_any (vr 1)) ⟨fun C s H fp => pg_name (i := 0) (show List.Nodup (["_law_name"] : List Str) by decide +kernel) rfl (Or.inl rfl), fun C s H fp => pts_nil, fun C s H fp => (pe_call G_L_is_name hr rfl T.m_L_is_name T.F_L_is_name.kp T.B_L_is_name .nil pass0 (pa_cons (vr 0) pa_nil))⟩) (by with_unfolding_all rfl))))) (pss_one (ps_ret pe_non)) pss_nil) (pss_one (ps_ret (pe_callB call_lenM rfl T.z_len bt_len (pa_cons (vr 1) pa_nil))))))), ?_⟩
    refine ifB (fun h1 => ?_) (fun h1 => ?_)
    · have e : t = "-" := by simpa using h1
      have := q _ (Same.refl H)
      unfold pathO at this
      rw [if_pos e] at this
      exact this
    · have e : ¬ t = "-" := by simpa using h1
      refine ⟨rfl, _, 46, rfl, by rw [dot_code], by omega, fun r ts hr e1 => ?_⟩
      have ets := splS_eq e1
      have cnt := splS_cnt 46 t
      rw [← ets] at cnt
      have ep : pathO t = if ts.length ≤ 3 ∧ ts.all nameB = true then some ts else none := by unfold pathO; rw [if_neg e, ets]
      have s1 : Same H (upd H r (.lst (ts.map V.str))) := Same.new hr
      refine ⟨_, .inl (SqL.of upd_same), ?_⟩
      rw [List.length_map]
      refine ifC (fun c => ?_) (fun c => ?_)
      · have c' : (3 : Int) < (ts.length : Int) := c
        rw [if_neg (fun z => by omega)] at ep
        have := q _ s1
        rw [ep] at this
        exact iteT this
      · have c' : ¬ (3 : Int) < (ts.length : Int) := c
        refine .inl ⟨⟨_, SqL.of upd_same⟩, fun D hD => ?_⟩
        have hrr : (upd H r (.lst (ts.map V.str))) r = some (.lst (ts.map V.str)) := upd_same
        generalize upd H r (.lst (ts.map V.str)) = H1 at s1 hD hrr
        refine comp_list (K := K) (a := r) (xs := ts.map V.str) (fun i ys H2 => Same H1 H2 ∧ H2 D = some (.lst ys) ∧ ys = ((ts.take i).map nameB).map V.bl) ⟨Same.new hD, upd_same, rfl⟩ (fun i ys H2 h => SqL.of (h.1 _ _ hrr)) (fun i ys H2 h => h.2.1) ?_ ?_
        · rintro i x ys H2 P' hx ⟨s2, hD2, rfl⟩ hP
          rw [List.getElem?_map] at hx
          cases ht : ts[i]? with
          | none => rw [ht] at hx; cases hx
          | some t' =>
            rw [ht] at hx
            cases hx
            have hm : t' ∈ splS 46 t := by rw [← ets]; exact List.mem_of_getElem? ht
            have hl := splS_len hm
            refine ⟨trivial, t', rfl, by show t'.cps.size ≤ 640; omega, asc_spl hasc hm, fun H3 s3 => ⟨s3 _ _ hD2, ?_, hP _ _ ⟨(s2.trans s3).put hD, upd_same, ?_⟩⟩⟩
            · rw [List.length_map, List.length_map, List.length_take]; omega
            · rw [List.take_add_one, ht, List.map_append, List.map_append]; rfl
        · rintro ys H2 ⟨s2, hD2, rfl⟩
          rw [List.length_map, List.take_of_length_le (Nat.le_refl _)] at hD2
          refine ⟨D, _, rfl, .inl (SqL.of hD2), rfl, flat_bools _, ?_⟩
          rw [inV_bools]
          refine ifB (fun c3 => ?_) (fun c3 => ?_)
          · have c3' : ts.all nameB = false := by have z : (!(ts.map nameB).all id) = true := c3; rw [List.all_map] at z; simpa using z
            rw [if_neg (fun z => by rw [z.2] at c3'; cases c3')] at ep
            have := q _ (s1.trans s2)
            rw [ep] at this
            exact this
          · have c3' : ts.all nameB = true := by have z : (!(ts.map nameB).all id) = false := c3; rw [List.all_map] at z; simpa using z
            rw [if_pos ⟨by omega, c3'⟩] at ep
            have := q _ (s1.trans s2)
            rw [ep] at this
            refine ⟨_, .inl (SqL.of (s2 _ _ hrr)), ?_⟩
            rw [List.length_map]
            exact this
end
end My

set_option Elab.async false
set_option linter.all false
set_option maxRecDepth 100000
set_option maxHeartbeats 4000000
namespace My
open PySem L2
section
variable {P : Program} {w : World} {K : PySem.W.Frag} {mg : Str → Option Value} {base : Heap} {a : Ad}
theorem ok_lnum (T : Txt K mg a) : FnOk P w K mg base CX0 1 a.f_L_is_number a.d_L_is_number ["_law_text", "_law_low", "_law_high"] spLNum := by
  refine T.F_L_is_number.ok sc_L_is_number (fun vs H Q E h => ?_) (fun cdv A outer s H vs Q E hr h => ?_)
  · obtain ⟨t, lo, hi, rfl, _⟩ := h; rfl
  · obtain ⟨t, lo, hi, rfl, hz, hasc, q⟩ := h
    have sl : sizeLine = 16777216 := sizeLine_eq
    have hz' : t.length ≤ sizeLine := by omega
    have eminus : ("-" : Str) = ⟨#[45]⟩ := by decide +kernel
    have e0 : ("0" : Str) = ⟨#[48]⟩ := by decide +kernel
    have e9 : ("9" : Str) = ⟨#[57]⟩ := by decide +kernel
    have none_of : NumM.digB (NumM.bareL t.cps.toList) = false → ∀ H', Same H H' → Q (.bl false) H' := fun e H' s => by
      have := q H' s
      unfold numW NumM.numO at this
      rw [e] at this
      exact this
    refine ⟨_, (pss_cons (ps_set (i := 3) sc_L_is_number.nd rfl (Or.inl rfl) (vr 0)) (pss_consM (ps_if (t_cmp o_eq (pe_slice sl_any (vr 0) po_none (po_some pe_int)) pe_str (nomark _)) (pss_one (ps_set (i := 3) sc_L_is_number.nd rfl (Or.inl rfl) (pe_slice sl_any (vr 0) (po_some pe_int) po_none))) pss_nil) (pss_consM (ps_if (PW.pt (pw_or (t_cmp o_eq (vr 3) pe_str (nomark _)) (pw_or (t_cmp o_gt (pe_callB call_lenM rfl T.z_len bt_len (pa_cons (vr 3) pa_nil)) pe_int (nomark _)) (pw_or1 (t_cmp (o_neD hr.units) (pe_comp rfl (N := ["_law_sign"]) (ix := [none]) ⟨rfl, rfl, rfl, rfl, trivial⟩ (pi_any (vr 3)) ⟨fun C s H fp => pg_name (i := 0) (show List.Nodup (["_law_sign"] : List Str) by decide +kernel) rfl (Or.inl rfl), fun C s H fp => pts_one (pt_not (t_chain o_le o_le pe_str (vr 0) pe_str)), fun C s H fp => (vr 0)⟩) (pe_lst pa_nil) (nomark _)))))) (pss_one (ps_ret pe_bl)) pss_nil) (pss_one (ps_ret (m_and (pe_cmpR o_eq (pe_callTy call_strI rfl T.z_str bt_str (pa_cons (pe_callTy call_intS rfl T.z_int bt_int (pa_cons (vr 0) pa_nil)) pa_nil)) (vr 0) (nomark _)) (pe_one (m_chain o_le o_le (vr 1) (pe_callTy call_intS rfl T.z_int bt_int (pa_cons (vr 0) pa_nil)) (vr 2))))))))), ?_⟩
    obtain ⟨F, f1, f2, f3, f4, f5, f6⟩ : ∃ F : Str, F.cps.toList = NumM.bareL t.cps.toList ∧ F.cps.size ≤ t.cps.size ∧ (∀ n ∈ F.cps.toList, n < 128) ∧ (cutS t none (some 1) = "-" → cutS t (some 1) none = F ∧ F ≠ t) ∧ (cutS t none (some 1) ≠ "-" → t = F) ∧
        NumM.valS t.cps.toList = if F = t then ((PySem.NumText.digitsVal F.cps.toList : Nat) : Int) else 0 - ((PySem.NumText.digitsVal F.cps.toList : Nat) : Int) := by
      rw [eminus]
      by_cases hn : t.cps.toList.head? = some 45
      · have f1 : (cutS t (some 1) none).cps.toList = NumM.bareL t.cps.toList := by rw [cut1_codes]; unfold NumM.bareL; rw [if_pos hn]
        have f2 : cutS t (some 1) none ≠ t := fun z => by
          have z2 := congrArg (fun x : Str => x.cps.toList.length) z
          simp only [cut1_codes] at z2
          cases hl : t.cps.toList with
          | nil => rw [hl] at hn; cases hn
          | cons c r => rw [hl] at z2; simp at z2
        refine ⟨_, f1, cutS_le _ _ _, fun n hn => hasc n (cutS_mem hn), fun _ => ⟨rfl, f2⟩, fun z => absurd ((cut_first t 45).mpr hn) z, ?_⟩
        rw [if_neg f2, f1]; unfold NumM.valS; rw [if_pos hn]; omega
      · have f1 : t.cps.toList = NumM.bareL t.cps.toList := by unfold NumM.bareL; rw [if_neg hn]
        refine ⟨t, f1, Nat.le_refl _, hasc, fun z => absurd ((cut_first t 45).mp z) hn, fun _ => rfl, ?_⟩
        rw [if_pos rfl]; unfold NumM.valS; rw [if_neg hn, ← f1]
    have hF : F.length ≤ sizeLine := by show F.cps.size ≤ sizeLine; have : t.cps.size ≤ 640 := hz; omega
    refine ⟨fun σ' H' => σ' = [some (.str t), some (.int lo), some (.int hi), some (.str F)] ∧ H' = H, ⟨1, rfl, hz', ifB (fun h1 => ⟨1, rfl, hz', ?_, rfl⟩) (fun h1 => ⟨?_, rfl⟩)⟩, ?_⟩
    · rw [(f4 (by simpa using h1)).1]; rfl
    · rw [← f5 (by simpa using h1)]; rfl
    rintro σ' H' ⟨rfl, rfl⟩
    have dB : ∀ b : Bool, NumM.digB F.cps.toList = b → NumM.digB (NumM.bareL t.cps.toList) = b := fun b h => by rw [← f1]; exact h
    have hF : F.length ≤ sizeLine := by show F.cps.size ≤ sizeLine; have : t.cps.size ≤ 640 := hz; omega
    refine ⟨fun σ' H1 => σ' = [some (.str t), some (.int lo), some (.int hi), some (.str F)] ∧ Same H' H1 ∧ NumM.digB F.cps.toList = true, ifB (fun h1 => iteT (none_of (dB _ ?_) _ (Same.refl _))) (fun h1 => ⟨hF, ifC (fun h2 => iteT (none_of (dB _ ?_) _ (Same.refl _))) (fun h2 => ?_)⟩), ?_⟩
    · have z : F = "" := by simpa using h1
      rw [z]; decide +kernel
    · have z : (12 : Int) < ((F.cps.size : Nat) : Int) := h2
      unfold NumM.digB
      rw [decide_eq_false (by simp only [Array.length_toList]; omega)]; rfl
    · intro D hD
      have h1' : F.cps.size ≠ 0 := fun z => by
        have : F = "" := PyProof.Rows.ext_toList (by show F.cps.toList = []; exact List.length_eq_zero_iff.mp (by simpa using z))
        simp [this] at h1
      have h2' : ¬ (12 : Int) < ((F.cps.size : Nat) : Int) := h2
      refine comp_filt (fun c => !decide (48 ≤ c ∧ c ≤ 57)) (by omega) (fun c H' R hc hR => ?_) ?_
      · refine ifB (fun h3 => ?_) (fun h3 => ?_)
        · have h3' : ¬ c < 48 := by
            have z : decide ((⟨#[c]⟩ : Str).cps.toList < ("0" : Str).cps.toList) = false := by simpa using h3
            rw [e0, le_codes] at z
            exact of_decide_eq_false z
          have : (decide (("9" : Str).cps.toList < (⟨#[c]⟩ : Str).cps.toList)) = !decide (48 ≤ c ∧ c ≤ 57) := by
            rw [e9, le_codes, Bool.eq_iff_iff]
            simp
            omega
          show R (!(!decide (("9" : Str).cps.toList < (⟨#[c]⟩ : Str).cps.toList))) H'
          rw [Bool.not_not, this]
          exact hR
        · have h3' : c < 48 := by
            have z : decide ((⟨#[c]⟩ : Str).cps.toList < ("0" : Str).cps.toList) = true := by simpa using h3
            rw [e0, le_codes] at z
            exact of_decide_eq_true z
          have : (!decide (48 ≤ c ∧ c ≤ 57)) = true := by simp; omega
          show R (!false) H'
          rw [this] at hR
          exact hR
      · refine ⟨Nat.zero_le _, fun p hp => ?_⟩
        have npD : D ≠ p := fun z => by rw [← z, upd_same] at hp; cases hp
        refine ⟨.list ((F.cps.toList.filter fun c => !decide (48 ≤ c ∧ c ≤ 57)).map fun c => PyData.str ⟨#[c]⟩), .list [], ?_, ?_, ?_, by decide +kernel, ?_⟩
        · rw [DV]
          exact ⟨D, _, rfl, SqL.of (by rw [upd_ne npD]; exact upd_same), dvs_strs _⟩
        · rw [DV]
          exact ⟨p, [], rfl, SqL.of upd_same, by simp [DVs]⟩
        · exact shaped_list _ fun n hn => f3 n (List.mem_filter.mp hn).1
        · have e2 : (F.cps.toList.filter fun c => !decide (48 ≤ c ∧ c ≤ 57)).isEmpty = NumM.digB F.cps.toList := by
            unfold NumM.digB
            rw [decide_eq_true (by simp only [Array.length_toList]; omega), Bool.true_and, Bool.eq_iff_iff]
            constructor
            · intro h; rw [List.all_eq_true]; intro x hx
              have := (List.filter_eq_nil_iff.mp (List.isEmpty_iff.mp h)) x hx
              simpa using this
            · intro h; rw [List.isEmpty_iff, List.filter_eq_nil_iff]; intro x hx
              have := List.all_eq_true.mp h x hx
              simpa using this
          have sm : Same H' (upd (upd H' D (.lst ((F.cps.toList.filter fun c => !decide (48 ≤ c ∧ c ≤ 57)).map fun c => V.str ⟨#[c]⟩))) p (.lst [])) := (Same.new hD).trans (Same.new hp)
          refine ifB (fun h3 => none_of (dB _ ?_) _ sm) (fun h3 => ⟨rfl, sm, ?_⟩)
          · rw [← e2, ← eqv_strs_nil]; simpa using h3
          · rw [← e2, ← eqv_strs_nil]; simpa using h3
    rintro σ' H1 ⟨rfl, s1, hd⟩
    obtain ⟨ha, hl1, hl2⟩ := NumM.digB_all hd
    have hb := digits_lt 12 _ hl2 ha
    have hsb := NumM.str_back (dB _ hd)
    have hbd : (NumM.valS t.cps.toList).natAbs < 2 ^ 64 := by rw [f6]; split <;> omega
    have hres := q H1 s1
    unfold numW NumM.numO at hres
    rw [dB _ hd, Bool.true_and] at hres
    have hi1 := int_of (dB _ hd) hz
    refine ⟨_, hi1, hz, small_log hbd, ifB (fun h4 => ?_) (fun h4 => ?_)⟩
    · have h4' : ((toString (NumM.valS t.cps.toList) : String) : Str) = t := by simpa using h4
      rw [str_eq_iff, toStr_codes, hsb] at h4'
      rw [h4'] at hres
      refine ⟨_, hi1, hz, ?_⟩
      refine and_if (Q := fun v => Q v H1) ?_
      have e : (within lo hi (if (!false) = true then some (NumM.valS t.cps.toList) else none)).isSome = decide (lo ≤ NumM.valS t.cps.toList ∧ NumM.valS t.cps.toList ≤ hi) := by
        show (within lo hi (some (NumM.valS t.cps.toList))).isSome = _
        rw [within_some]
        by_cases z : lo ≤ NumM.valS t.cps.toList ∧ NumM.valS t.cps.toList ≤ hi
        · rw [if_pos z, decide_eq_true z]; rfl
        · rw [if_neg z, decide_eq_false z]; rfl
      rw [e] at hres
      exact hres
    · have h4' : ((toString (NumM.valS t.cps.toList) : String) : Str) ≠ t := by simpa using h4
      rw [Ne, str_eq_iff, toStr_codes, hsb, Bool.not_eq_false] at h4'
      rw [h4'] at hres
      exact hres
end
end My

set_option Elab.async false
set_option linter.all false
set_option maxRecDepth 100000
set_option maxHeartbeats 4000000
namespace My
open PySem L2
section
variable {P : Program} {w : World} {K : PySem.W.Frag} {mg : Str → Option Value} {base : Heap} {a : Ad}
def oK : Option Nat → V
  | some k => .int (k : Nat)
  | none => .non
def deepB (dp : Option Nat) (n : Nat) : Bool := match dp with
  | none => true
  | some m => decide (n = m)
def spWrong : Sp := fun vs H Q _ => ∃ (x : V) (o : Option Str) (l : Addr) (us : List U) (dp : Option Nat), vs = [x, .ref l, oK dp] ∧ Ln H x o ∧ (∀ t, o = some t → Asc t) ∧ H l = some (.lst ((us.map U.name).map V.str)) ∧ us.length ≤ 24 ∧ (∀ ps, plenB ps us = deepB dp ps.length) ∧ ∀ H', Same H H' → Q (oK (wrongW us (wordsO o))) H'
theorem ok_wrong (T : Txt K mg a) : FnOk P w K mg base CX0 3 a.f_L_wrong_word a.d_L_wrong_word ["_law_line_here", "_law_names_here", "_law_deep"] spWrong := by
  have G_L_is_name : FnOk P w K mg base CX0 2 _ _ _ spLName := (ok_lname T).mono (by decide)
  have G_L_is_number : FnOk P w K mg base CX0 2 _ _ _ spLNum := (ok_lnum T).mono (by decide)
  have G_L_depth : FnOk P w K mg base CX0 2 _ _ _ spDepth := (ok_depth T).mono (by decide)
  refine T.F_L_wrong_word.ok sc_L_wrong_word (fun vs H Q E h => ?_) (fun cdv A outer s H vs Q E hr h => ?_)
  · obtain ⟨x, o, l, us, dp, rfl, _⟩ := h; rfl
  · obtain ⟨x, o, l, us, dp, rfl, ln, hasc, hl, hn, hdp, q⟩ := h
    have small : sizeLine = 16777216 := sizeLine_eq
    refine ⟨_, (pss_cons (ps_if (pt_not (t_val (pe_callB call_isi rfl T.z_isinstance bt_isinstance (pa_cons (vr 0) (pa_cons (pe_bltn (v := .ty "str") rfl T.z_str bt_str rfl) pa_nil))))) (pss_one (ps_ret pe_int)) pss_nil) (pss_cons (ps_set (i := 3) sc_L_wrong_word.nd rfl (Or.inl rfl) (pe_m.split (vr 0) (pa_cons pe_str pa_nil))) (pss_cons (ps_for PassesOwn.never rfl (pi_range1 rfl T.z_range (pa_cons (pe_callB (call_min2 rfl) rfl T.z_min bt_min (pa_cons pe_int (pa_cons (pe_callB call_lenM rfl T.z_len bt_len (pa_cons (vr 3) pa_nil)) pa_nil))) pa_nil)) (pg_name (i := 4) sc_L_wrong_word.nd rfl (Or.inl rfl)) (pss_cons (ps_set (i := 5) sc_L_wrong_word.nd rfl (Or.inl rfl) (pe_lst (pa_cons pe_bl (pa_cons pe_bl (pa_cons pe_bl (pa_cons pe_bl pa_nil)))))) (pss_cons (ps_asg (m_and (pe_call G_L_is_name hr rfl T.m_L_is_name T.F_L_is_name.kp T.B_L_is_name .nil pass0 (pa_cons (pe_ix ix_seq (vr 3) (vr 4) (fun _ _ => rfl)) pa_nil)) (pe_one (pe_cmpR op_notIn_seq (pe_ix ix_seq (vr 3) (vr 4) (fun _ _ => rfl)) (vr 1) (by with_unfolding_all rfl)))) (pg_sub (vr 5) pe_int set_list)) (pss_cons (ps_asg (pe_call G_L_is_number hr rfl T.m_L_is_number T.F_L_is_number.kp T.B_L_is_number .nil pass0 (pa_cons (pe_ix ix_seq (vr 3) (vr 4) (fun _ _ => rfl)) (pa_cons (pe_op o_sub pe_int (pe_op o_pow pe_int pe_int)) (pa_cons (pe_op o_pow pe_int pe_int) pa_nil)))) (pg_sub (vr 5) pe_int set_list)) (pss_cons (ps_asg (pe_call G_L_is_number hr rfl T.m_L_is_number T.F_L_is_number.kp T.B_L_is_number .nil pass0 (pa_cons (pe_ix ix_seq (vr 3) (vr 4) (fun _ _ => rfl)) (pa_cons pe_int (pa_cons (pe_op o_pow pe_int pe_int) pa_nil)))) (pg_sub (vr 5) pe_int set_list)) (pss_cons (ps_asg (m_and (pe_cmpR o_isnot (pe_call G_L_depth hr rfl T.m_L_depth T.F_L_depth.kp T.B_L_depth .nil pass0 (pa_cons (pe_ix ix_seq (vr 3) (vr 4) (fun _ _ => rfl)) pa_nil)) pe_non (nomark _)) (pe_one (m_or (pe_cmpR o_is (vr 2) pe_non (nomark _)) (pe_one (pe_cmpR o_eq (pe_call G_L_depth hr rfl T.m_L_depth T.F_L_depth.kp T.B_L_depth .nil pass0 (pa_cons (pe_ix ix_seq (vr 3) (vr 4) (fun _ _ => rfl)) pa_nil)) (vr 2) (nomark _)))))) (pg_sub (vr 5) pe_int set_list)) (pss_one (ps_if (pt_not (t_val (pe_ix ix_seq (vr 5) (vr 4) (fun _ _ => rfl)))) (pss_one (ps_ret (vr 4))) pss_nil)))))))) (pss_cons (ps_if (t_cmp o_eq (pe_callB call_lenM rfl T.z_len bt_len (pa_cons (vr 3) pa_nil)) pe_int (nomark _)) (pss_one (ps_ret pe_non)) pss_nil) (pss_one (ps_ret (pe_callB (call_min2 rfl) rfl T.z_min bt_min (pa_cons pe_int (pa_cons (pe_callB call_lenM rfl T.z_len bt_len (pa_cons (vr 3) pa_nil)) pa_nil))))))))), ?_⟩
    have no : wordsO o = [("" : Str)] → ∀ H', Same H H' → Q (.int 0) H' := fun e H' s => by
      have := q H' s
      rw [e] at this
      have e2 : wrongW us [("" : Str)] = some 0 := by
        unfold wrongW firstBad
        rfl
      rw [e2] at this
      exact this
    cases ln with
    | other _ c h n =>
      cases h with
      | int i => exact ⟨_, _, _, false, rfl, rfl, .int i, rfl, no rfl _ (Same.refl _)⟩
      | bl b => exact ⟨_, _, _, false, rfl, rfl, .bl b, rfl, no rfl _ (Same.refl _)⟩
      | non => exact ⟨_, _, _, false, rfl, rfl, .non, rfl, no rfl _ (Same.refl _)⟩
      | str t h => exact absurd rfl (n t)
      | lst p' xs e => exact ⟨_, _, _, false, rfl, rfl, .lst e, rfl, no rfl _ (Same.refl _)⟩
      | tup p' xs e => exact ⟨_, _, _, false, rfl, rfl, .tup e, rfl, no rfl _ (Same.refl _)⟩
      | dK p' kvs e => exact ⟨_, _, _, false, rfl, rfl, .dK e, rfl, no rfl _ (Same.refl _)⟩
    | str t h =>
      refine ⟨_, _, _, true, rfl, rfl, .str t, rfl, rfl, _, 32, rfl, by rw [blank_code], by omega, fun r ts hr e => ?_⟩
      have ets := splS_eq e
      have cnt := splS_cnt 32 t
      rw [← ets] at cnt
      have s1 : Same H (upd H r (.lst (ts.map V.str))) := Same.new hr
      refine ⟨_, .inl (SqL.of upd_same), ?_⟩
      rw [List.length_map]
      obtain ⟨m, em, hm1, hm2⟩ : ∃ m : Nat, (if (ts.length : Int) < 4 then (ts.length : Int) else 4) = (m : Int) ∧ m = min 4 ts.length ∧ m ≤ ts.length := ⟨min 4 ts.length, by split <;> omega, rfl, by omega⟩
      refine ⟨4, (ts.length : Int), rfl, (m : Int), by rw [em], by omega, by omega, ?_⟩
      refine for_range (n := m) (fun i σ H' => i ≤ m ∧ Same H H' ∧ H' r = some (.lst (ts.map V.str)) ∧ (∀ j t', j < i → ts[j]? = some t' → okW us j t' = true) ∧ ∃ (x4 x5 : Option V), σ = [some (.str t), some (.ref l), some (oK dp), some (.ref r), x4, x5]) ⟨Nat.zero_le _, s1, upd_same, (fun j t' hj => by omega), none, none, rfl⟩ ?_ ?_
      · rintro i σ H' hi ⟨him, s2, hr2, hok, x4, x5, rfl⟩
        obtain ⟨wd, hw⟩ : ∃ wd, ts[i]? = some wd := ⟨_, List.getElem?_eq_getElem (by omega : i < ts.length)⟩
        have hm : wd ∈ splS 32 t := by rw [← ets]; exact List.mem_of_getElem? hw
        have hwl : wd.length ≤ 640 := by have := splS_len hm; show wd.cps.size ≤ 640; omega
        have hwa : Asc wd := asc_spl (hasc t rfl) hm
        have hwv : atI (ts.map V.str) (0 + (i : Int)) = some (.str wd) := atI_cons i (by omega) (by rw [List.getElem?_map, hw]; rfl)
        have ix0 : ∀ m : Nat, m < 4 → ixN 4 (m : Int) = some m := fun m hm => by
          unfold ixN
          rw [if_pos (by omega), if_pos (by omega)]
          simp
        have e9 : (10 : Int) ^ (9 : Int).toNat = 1000000000 := by decide
        have e6 : (10 : Int) ^ (6 : Int).toNat = 1000000 := by decide
        have cp9 : CPow 10 9 := ⟨by decide, by decide, by decide⟩
        have cp6 : CPow 10 6 := ⟨by decide, by decide, by decide⟩
        have retI : okW us i wd = false → ∀ H5, Same H H5 → Q (.int (0 + (i : Int))) H5 := fun c H5 s5 => by
          have := q H5 s5
          have e2 : wrongW us (wordsO (some t)) = some i := by
            show wrongW us (splS 32 t) = some i
            rw [← ets]
            unfold wrongW
            rw [first_of (ts.take 4) 0 i wd (by rw [List.getElem?_take, if_pos (by omega)]; exact hw) (by rw [Nat.zero_add]; exact c) fun j t' hj ht => by rw [Nat.zero_add]; exact hok j t' hj (by rw [List.getElem?_take, if_pos (by omega)] at ht; exact ht)]
            show some (0 + i) = some i
            rw [Nat.zero_add]
          rw [e2] at this
          rw [Int.zero_add]
          exact this
        have hat : ∀ k : Nat, k < 4 → [V.bl (okW us 0 wd), .bl (okW us 1 wd), .bl (okW us 2 wd), .bl (okW us 3 wd)][k]? = some (.bl (okW us k wd)) := fun k hk => by
          match k, hk with
          | 0, _ => rfl
          | 1, _ => rfl
          | 2, _ => rfl
          | 3, _ => rfl
        refine ⟨(by decide : 4 ≤ sizeLine), fun pg hpg => ?_⟩
        have sA : Same H' (upd H' pg (.lst [.bl true, .bl true, .bl true, .bl true])) := Same.new hpg
        have hgA : (upd H' pg (.lst [.bl true, .bl true, .bl true, .bl true])) pg = some (.lst [.bl true, .bl true, .bl true, .bl true]) := upd_same
        refine .inl ⟨r, _, _, _, rfl, rfl, SqL.of (sA _ _ hr2), hwv, wd, rfl, hwl, hwa, fun H1 s1' => ?_⟩
        have sB := sA.trans s1'
        have hgB := s1' _ _ hgA
        refine ifB (fun c0 => ?_) (fun c0 => ?_)
        · refine .inl ⟨r, _, _, _, rfl, rfl, SqL.of (sB _ _ hr2), hwv, l, _, rfl, .inl (SqL.of (sB _ _ (s2 _ _ hl))), rfl, flat_strs _, ?_⟩
          have e0 : (if true = true then !inV (.str wd) ((us.map U.name).map V.str) else inV (.str wd) ((us.map U.name).map V.str)) = okW us 0 wd := by rw [inV_strs]; show _ = (nameB wd && _); rw [c0]; rfl
          have sC := sB.put (o := .lst [.bl (okW us 0 wd), .bl true, .bl true, .bl true]) hpg
          have hgC : (upd H1 pg (.lst [.bl (okW us 0 wd), .bl true, .bl true, .bl true])) pg = some (.lst [.bl (okW us 0 wd), .bl true, .bl true, .bl true]) := upd_same
          refine ⟨pg, _, 0, 0, rfl, rfl, hgB, ix0 0 (by omega), ?_⟩
          rw [show ([V.bl true, .bl true, .bl true, .bl true].set 0 (.bl ((if true = true then !inV (.str wd) ((us.map U.name).map V.str) else inV (.str wd) ((us.map U.name).map V.str))))) = [.bl (okW us 0 wd), .bl true, .bl true, .bl true] by rw [e0]; rfl]
          generalize upd H1 pg (.lst [.bl (okW us 0 wd), .bl true, .bl true, .bl true]) = HC at sC hgC
          refine .inl ⟨r, _, _, _, rfl, rfl, SqL.of (sC _ _ hr2), hwv, cp9, cp9, wd, -1000000000, 1000000000, rfl, hwl, hwa, fun HD sD' => ?_⟩
          have sD := (sC.trans sD').put (o := .lst [.bl (okW us 0 wd), .bl (okW us 1 wd), .bl true, .bl true]) hpg
          have hgD : (upd HD pg (.lst [.bl (okW us 0 wd), .bl (okW us 1 wd), .bl true, .bl true])) pg = some (.lst [.bl (okW us 0 wd), .bl (okW us 1 wd), .bl true, .bl true]) := upd_same
          refine ⟨pg, _, 1, 1, rfl, rfl, sD' _ _ hgC, ix0 1 (by omega), ?_⟩
          rw [show ([V.bl (okW us 0 wd), .bl true, .bl true, .bl true].set 1 (.bl (numW (-1000000000) 1000000000 wd).isSome)) = [.bl (okW us 0 wd), .bl (okW us 1 wd), .bl true, .bl true] from rfl]
          generalize upd HD pg (.lst [.bl (okW us 0 wd), .bl (okW us 1 wd), .bl true, .bl true]) = HE at sD hgD
          refine .inl ⟨r, _, _, _, rfl, rfl, SqL.of (sD _ _ hr2), hwv, cp6, wd, 1, 1000000, rfl, hwl, hwa, fun HF sF' => ?_⟩
          have sF := (sD.trans sF').put (o := .lst [.bl (okW us 0 wd), .bl (okW us 1 wd), .bl (okW us 2 wd), .bl true]) hpg
          have hgF : (upd HF pg (.lst [.bl (okW us 0 wd), .bl (okW us 1 wd), .bl (okW us 2 wd), .bl true])) pg = some (.lst [.bl (okW us 0 wd), .bl (okW us 1 wd), .bl (okW us 2 wd), .bl true]) := upd_same
          refine ⟨pg, _, 2, 2, rfl, rfl, sF' _ _ hgD, ix0 2 (by omega), ?_⟩
          rw [show ([V.bl (okW us 0 wd), .bl (okW us 1 wd), .bl true, .bl true].set 2 (.bl (numW 1 1000000 wd).isSome)) = [.bl (okW us 0 wd), .bl (okW us 1 wd), .bl (okW us 2 wd), .bl true] from rfl]
          generalize upd HF pg (.lst [.bl (okW us 0 wd), .bl (okW us 1 wd), .bl (okW us 2 wd), .bl true]) = HG at sF hgF
          refine .inl ⟨r, _, _, _, rfl, rfl, SqL.of (sF _ _ hr2), hwv, wd, rfl, hwl, hwa, fun HI sI' => ?_⟩
          have hgI := sI' _ _ hgF
          have sI := sF.trans sI'
          cases hpo : pathO wd with
          | none =>
            have e3 : false = okW us 3 wd := by show false = (match pathO wd with | some ps => plenB ps us | none => false); rw [hpo]
            have s5 := (sI).put (o := .lst [.bl (okW us 0 wd), .bl (okW us 1 wd), .bl (okW us 2 wd), .bl (okW us 3 wd)]) hpg
            have hg5 : (upd HI pg (.lst [.bl (okW us 0 wd), .bl (okW us 1 wd), .bl (okW us 2 wd), .bl (okW us 3 wd)])) pg = some (.lst [.bl (okW us 0 wd), .bl (okW us 1 wd), .bl (okW us 2 wd), .bl (okW us 3 wd)]) := upd_same
            refine ⟨pg, _, 3, 3, rfl, rfl, hgI, ix0 3 (by omega), ?_⟩
            rw [show ([V.bl (okW us 0 wd), .bl (okW us 1 wd), .bl (okW us 2 wd), .bl true].set 3 (.bl (false))) = [.bl (okW us 0 wd), .bl (okW us 1 wd), .bl (okW us 2 wd), .bl (okW us 3 wd)] by rw [e3]; rfl]
            generalize upd HI pg (.lst [.bl (okW us 0 wd), .bl (okW us 1 wd), .bl (okW us 2 wd), .bl (okW us 3 wd)]) = HJ at s5 hg5
            refine .inl ⟨pg, _, _, _, rfl, rfl, SqL.of hg5, atI_cons i (by omega) (hat i (by omega)), ifB (fun c9 => retI (by simpa using c9) _ (s2.trans s5)) (fun c9 => ?_)⟩
            · refine ⟨by omega, s2.trans s5, s5 _ _ hr2, fun j t' hj ht => ?_, _, _, rfl⟩
              by_cases ej : j = i
              · subst ej; rw [hw] at ht; cases ht; simpa using c9
              · exact hok j t' (by omega) ht
          | some ps =>
            have e3' : okW us 3 wd = deepB dp ps.length := by show (match pathO wd with | some ps => plenB ps us | none => false) = _; rw [hpo]; exact hdp ps
            cases dp with
            | none =>
              have e3 : true = okW us 3 wd := by rw [e3']; rfl
              have s5 := (sI).put (o := .lst [.bl (okW us 0 wd), .bl (okW us 1 wd), .bl (okW us 2 wd), .bl (okW us 3 wd)]) hpg
              have hg5 : (upd HI pg (.lst [.bl (okW us 0 wd), .bl (okW us 1 wd), .bl (okW us 2 wd), .bl (okW us 3 wd)])) pg = some (.lst [.bl (okW us 0 wd), .bl (okW us 1 wd), .bl (okW us 2 wd), .bl (okW us 3 wd)]) := upd_same
              refine ⟨pg, _, 3, 3, rfl, rfl, hgI, ix0 3 (by omega), ?_⟩
              rw [show ([V.bl (okW us 0 wd), .bl (okW us 1 wd), .bl (okW us 2 wd), .bl true].set 3 (.bl (true))) = [.bl (okW us 0 wd), .bl (okW us 1 wd), .bl (okW us 2 wd), .bl (okW us 3 wd)] by rw [e3]; rfl]
              generalize upd HI pg (.lst [.bl (okW us 0 wd), .bl (okW us 1 wd), .bl (okW us 2 wd), .bl (okW us 3 wd)]) = HJ at s5 hg5
              refine .inl ⟨pg, _, _, _, rfl, rfl, SqL.of hg5, atI_cons i (by omega) (hat i (by omega)), ifB (fun c9 => retI (by simpa using c9) _ (s2.trans s5)) (fun c9 => ?_)⟩
              · refine ⟨by omega, s2.trans s5, s5 _ _ hr2, fun j t' hj ht => ?_, _, _, rfl⟩
                by_cases ej : j = i
                · subst ej; rw [hw] at ht; cases ht; simpa using c9
                · exact hok j t' (by omega) ht
            | some n =>
              refine .inl ⟨r, _, _, _, rfl, rfl, SqL.of (sI _ _ hr2), hwv, wd, rfl, hwl, hwa, fun HK sK' => ?_⟩
              have hgK := sK' _ _ hgI
              have sK := sI.trans sK'
              rw [show oN (pathO wd) = .int ps.length by rw [hpo]; rfl]
              have e3 : (if false = true then !decide ((ps.length : Int) = (n : Int)) else decide ((ps.length : Int) = (n : Int))) = okW us 3 wd := by rw [e3']; show decide _ = decide (ps.length = n); rw [decide_eq_decide]; omega
              have s5 := (sK).put (o := .lst [.bl (okW us 0 wd), .bl (okW us 1 wd), .bl (okW us 2 wd), .bl (okW us 3 wd)]) hpg
              have hg5 : (upd HK pg (.lst [.bl (okW us 0 wd), .bl (okW us 1 wd), .bl (okW us 2 wd), .bl (okW us 3 wd)])) pg = some (.lst [.bl (okW us 0 wd), .bl (okW us 1 wd), .bl (okW us 2 wd), .bl (okW us 3 wd)]) := upd_same
              refine ⟨pg, _, 3, 3, rfl, rfl, hgK, ix0 3 (by omega), ?_⟩
              rw [show ([V.bl (okW us 0 wd), .bl (okW us 1 wd), .bl (okW us 2 wd), .bl true].set 3 (.bl ((if false = true then !decide ((ps.length : Int) = (n : Int)) else decide ((ps.length : Int) = (n : Int)))))) = [.bl (okW us 0 wd), .bl (okW us 1 wd), .bl (okW us 2 wd), .bl (okW us 3 wd)] by rw [e3]; rfl]
              generalize upd HK pg (.lst [.bl (okW us 0 wd), .bl (okW us 1 wd), .bl (okW us 2 wd), .bl (okW us 3 wd)]) = HJ at s5 hg5
              refine .inl ⟨pg, _, _, _, rfl, rfl, SqL.of hg5, atI_cons i (by omega) (hat i (by omega)), ifB (fun c9 => retI (by simpa using c9) _ (s2.trans s5)) (fun c9 => ?_)⟩
              · refine ⟨by omega, s2.trans s5, s5 _ _ hr2, fun j t' hj ht => ?_, _, _, rfl⟩
                by_cases ej : j = i
                · subst ej; rw [hw] at ht; cases ht; simpa using c9
                · exact hok j t' (by omega) ht
        · skip
          have e0 : false = okW us 0 wd := by show false = (nameB wd && _); rw [c0]; rfl
          have sC := sB.put (o := .lst [.bl (okW us 0 wd), .bl true, .bl true, .bl true]) hpg
          have hgC : (upd H1 pg (.lst [.bl (okW us 0 wd), .bl true, .bl true, .bl true])) pg = some (.lst [.bl (okW us 0 wd), .bl true, .bl true, .bl true]) := upd_same
          refine ⟨pg, _, 0, 0, rfl, rfl, hgB, ix0 0 (by omega), ?_⟩
          rw [show ([V.bl true, .bl true, .bl true, .bl true].set 0 (.bl (false))) = [.bl (okW us 0 wd), .bl true, .bl true, .bl true] by rw [e0]; rfl]
          generalize upd H1 pg (.lst [.bl (okW us 0 wd), .bl true, .bl true, .bl true]) = HC at sC hgC
          refine .inl ⟨r, _, _, _, rfl, rfl, SqL.of (sC _ _ hr2), hwv, cp9, cp9, wd, -1000000000, 1000000000, rfl, hwl, hwa, fun HD sD' => ?_⟩
          have sD := (sC.trans sD').put (o := .lst [.bl (okW us 0 wd), .bl (okW us 1 wd), .bl true, .bl true]) hpg
          have hgD : (upd HD pg (.lst [.bl (okW us 0 wd), .bl (okW us 1 wd), .bl true, .bl true])) pg = some (.lst [.bl (okW us 0 wd), .bl (okW us 1 wd), .bl true, .bl true]) := upd_same
          refine ⟨pg, _, 1, 1, rfl, rfl, sD' _ _ hgC, ix0 1 (by omega), ?_⟩
          rw [show ([V.bl (okW us 0 wd), .bl true, .bl true, .bl true].set 1 (.bl (numW (-1000000000) 1000000000 wd).isSome)) = [.bl (okW us 0 wd), .bl (okW us 1 wd), .bl true, .bl true] from rfl]
          generalize upd HD pg (.lst [.bl (okW us 0 wd), .bl (okW us 1 wd), .bl true, .bl true]) = HE at sD hgD
          refine .inl ⟨r, _, _, _, rfl, rfl, SqL.of (sD _ _ hr2), hwv, cp6, wd, 1, 1000000, rfl, hwl, hwa, fun HF sF' => ?_⟩
          have sF := (sD.trans sF').put (o := .lst [.bl (okW us 0 wd), .bl (okW us 1 wd), .bl (okW us 2 wd), .bl true]) hpg
          have hgF : (upd HF pg (.lst [.bl (okW us 0 wd), .bl (okW us 1 wd), .bl (okW us 2 wd), .bl true])) pg = some (.lst [.bl (okW us 0 wd), .bl (okW us 1 wd), .bl (okW us 2 wd), .bl true]) := upd_same
          refine ⟨pg, _, 2, 2, rfl, rfl, sF' _ _ hgD, ix0 2 (by omega), ?_⟩
          rw [show ([V.bl (okW us 0 wd), .bl (okW us 1 wd), .bl true, .bl true].set 2 (.bl (numW 1 1000000 wd).isSome)) = [.bl (okW us 0 wd), .bl (okW us 1 wd), .bl (okW us 2 wd), .bl true] from rfl]
          generalize upd HF pg (.lst [.bl (okW us 0 wd), .bl (okW us 1 wd), .bl (okW us 2 wd), .bl true]) = HG at sF hgF
          refine .inl ⟨r, _, _, _, rfl, rfl, SqL.of (sF _ _ hr2), hwv, wd, rfl, hwl, hwa, fun HI sI' => ?_⟩
          have hgI := sI' _ _ hgF
          have sI := sF.trans sI'
          cases hpo : pathO wd with
          | none =>
            have e3 : false = okW us 3 wd := by show false = (match pathO wd with | some ps => plenB ps us | none => false); rw [hpo]
            have s5 := (sI).put (o := .lst [.bl (okW us 0 wd), .bl (okW us 1 wd), .bl (okW us 2 wd), .bl (okW us 3 wd)]) hpg
            have hg5 : (upd HI pg (.lst [.bl (okW us 0 wd), .bl (okW us 1 wd), .bl (okW us 2 wd), .bl (okW us 3 wd)])) pg = some (.lst [.bl (okW us 0 wd), .bl (okW us 1 wd), .bl (okW us 2 wd), .bl (okW us 3 wd)]) := upd_same
            refine ⟨pg, _, 3, 3, rfl, rfl, hgI, ix0 3 (by omega), ?_⟩
            rw [show ([V.bl (okW us 0 wd), .bl (okW us 1 wd), .bl (okW us 2 wd), .bl true].set 3 (.bl (false))) = [.bl (okW us 0 wd), .bl (okW us 1 wd), .bl (okW us 2 wd), .bl (okW us 3 wd)] by rw [e3]; rfl]
            generalize upd HI pg (.lst [.bl (okW us 0 wd), .bl (okW us 1 wd), .bl (okW us 2 wd), .bl (okW us 3 wd)]) = HJ at s5 hg5
            refine .inl ⟨pg, _, _, _, rfl, rfl, SqL.of hg5, atI_cons i (by omega) (hat i (by omega)), ifB (fun c9 => retI (by simpa using c9) _ (s2.trans s5)) (fun c9 => ?_)⟩
            · refine ⟨by omega, s2.trans s5, s5 _ _ hr2, fun j t' hj ht => ?_, _, _, rfl⟩
              by_cases ej : j = i
              · subst ej; rw [hw] at ht; cases ht; simpa using c9
              · exact hok j t' (by omega) ht
          | some ps =>
            have e3' : okW us 3 wd = deepB dp ps.length := by show (match pathO wd with | some ps => plenB ps us | none => false) = _; rw [hpo]; exact hdp ps
            cases dp with
            | none =>
              have e3 : true = okW us 3 wd := by rw [e3']; rfl
              have s5 := (sI).put (o := .lst [.bl (okW us 0 wd), .bl (okW us 1 wd), .bl (okW us 2 wd), .bl (okW us 3 wd)]) hpg
              have hg5 : (upd HI pg (.lst [.bl (okW us 0 wd), .bl (okW us 1 wd), .bl (okW us 2 wd), .bl (okW us 3 wd)])) pg = some (.lst [.bl (okW us 0 wd), .bl (okW us 1 wd), .bl (okW us 2 wd), .bl (okW us 3 wd)]) := upd_same
              refine ⟨pg, _, 3, 3, rfl, rfl, hgI, ix0 3 (by omega), ?_⟩
              rw [show ([V.bl (okW us 0 wd), .bl (okW us 1 wd), .bl (okW us 2 wd), .bl true].set 3 (.bl (true))) = [.bl (okW us 0 wd), .bl (okW us 1 wd), .bl (okW us 2 wd), .bl (okW us 3 wd)] by rw [e3]; rfl]
              generalize upd HI pg (.lst [.bl (okW us 0 wd), .bl (okW us 1 wd), .bl (okW us 2 wd), .bl (okW us 3 wd)]) = HJ at s5 hg5
              refine .inl ⟨pg, _, _, _, rfl, rfl, SqL.of hg5, atI_cons i (by omega) (hat i (by omega)), ifB (fun c9 => retI (by simpa using c9) _ (s2.trans s5)) (fun c9 => ?_)⟩
              · refine ⟨by omega, s2.trans s5, s5 _ _ hr2, fun j t' hj ht => ?_, _, _, rfl⟩
                by_cases ej : j = i
                · subst ej; rw [hw] at ht; cases ht; simpa using c9
                · exact hok j t' (by omega) ht
            | some n =>
              refine .inl ⟨r, _, _, _, rfl, rfl, SqL.of (sI _ _ hr2), hwv, wd, rfl, hwl, hwa, fun HK sK' => ?_⟩
              have hgK := sK' _ _ hgI
              have sK := sI.trans sK'
              rw [show oN (pathO wd) = .int ps.length by rw [hpo]; rfl]
              have e3 : (if false = true then !decide ((ps.length : Int) = (n : Int)) else decide ((ps.length : Int) = (n : Int))) = okW us 3 wd := by rw [e3']; show decide _ = decide (ps.length = n); rw [decide_eq_decide]; omega
              have s5 := (sK).put (o := .lst [.bl (okW us 0 wd), .bl (okW us 1 wd), .bl (okW us 2 wd), .bl (okW us 3 wd)]) hpg
              have hg5 : (upd HK pg (.lst [.bl (okW us 0 wd), .bl (okW us 1 wd), .bl (okW us 2 wd), .bl (okW us 3 wd)])) pg = some (.lst [.bl (okW us 0 wd), .bl (okW us 1 wd), .bl (okW us 2 wd), .bl (okW us 3 wd)]) := upd_same
              refine ⟨pg, _, 3, 3, rfl, rfl, hgK, ix0 3 (by omega), ?_⟩
              rw [show ([V.bl (okW us 0 wd), .bl (okW us 1 wd), .bl (okW us 2 wd), .bl true].set 3 (.bl ((if false = true then !decide ((ps.length : Int) = (n : Int)) else decide ((ps.length : Int) = (n : Int)))))) = [.bl (okW us 0 wd), .bl (okW us 1 wd), .bl (okW us 2 wd), .bl (okW us 3 wd)] by rw [e3]; rfl]
              generalize upd HK pg (.lst [.bl (okW us 0 wd), .bl (okW us 1 wd), .bl (okW us 2 wd), .bl (okW us 3 wd)]) = HJ at s5 hg5
              refine .inl ⟨pg, _, _, _, rfl, rfl, SqL.of hg5, atI_cons i (by omega) (hat i (by omega)), ifB (fun c9 => retI (by simpa using c9) _ (s2.trans s5)) (fun c9 => ?_)⟩
              · refine ⟨by omega, s2.trans s5, s5 _ _ hr2, fun j t' hj ht => ?_, _, _, rfl⟩
                by_cases ej : j = i
                · subst ej; rw [hw] at ht; cases ht; simpa using c9
                · exact hok j t' (by omega) ht
      · rintro σ H' ⟨him, s2, hr2, hok, x4, x5, rfl⟩
        have n4 : firstBad us 0 (ts.take 4) = none := none_of_all _ _ fun j t' ht => by
          have hj := (List.getElem?_eq_some_iff.mp ht).1
          rw [List.length_take] at hj
          rw [Nat.zero_add]
          exact hok j t' (by omega) (by rw [List.getElem?_take, if_pos (by omega)] at ht; exact ht)
        have e2 : wrongW us (wordsO (some t)) = if ts.length = 4 then none else some (min 4 ts.length) := by
          show wrongW us (splS 32 t) = _
          rw [← ets]
          unfold wrongW
          rw [n4]
        have q' := q H' s2
        rw [e2] at q'
        refine ⟨_, .inl (SqL.of hr2), ?_⟩
        rw [List.length_map]
        refine ifC (fun c4 => ?_) (fun c4 => ?_)
        · have c4' : (ts.length : Int) = 4 := c4
          rw [if_pos (by omega)] at q'
          exact q'
        · have c4' : ¬ (ts.length : Int) = 4 := c4
          rw [if_neg (by omega)] at q'
          refine ⟨_, .inl (SqL.of hr2), 4, (ts.length : Int), by rw [List.length_map], ?_⟩
          rw [em, hm1]
          exact q'
end
end My

set_option Elab.async false
set_option linter.all false
set_option maxRecDepth 100000
set_option maxHeartbeats 4000000
namespace My
open PySem L2
theorem wrongW_none {us : List U} {ts : List Str} (h : wrongW us ts = none) : ∃ w0 w1 w2 w3, ts = [w0, w1, w2, w3] ∧ okW us 3 w3 = true := by
  unfold wrongW at h
  cases hf : firstBad us 0 (ts.take 4) with
  | some k => rw [hf] at h; cases h
  | none =>
    rw [hf] at h
    by_cases e : ts.length = 4
    · match ts, e with
      | [w0, w1, w2, w3], _ => exact ⟨w0, w1, w2, w3, rfl, good_all _ 0 hf 3 w3 rfl⟩
    · have h' : (if ts.length = 4 then none else some (min 4 ts.length)) = none := h
      rw [if_neg e] at h'
      cases h'
theorem wrongW_other (us : List U) : wrongW us [("" : Str)] = some 0 := by
  unfold wrongW firstBad
  rfl
def spDue : Sp := fun vs H Q _ => ∃ (l : Addr) (xs : List V) (os : List (Option Str)), vs = [.ref l] ∧ H l = some (.lst xs) ∧ xs.length ≤ 24 ∧ AllN H os xs ∧ (∀ t, some t ∈ os → Asc t) ∧ (wrongL [] os = none → ∀ H', Same H H' → Q .non H') ∧
  ∀ (i k : Nat), wrongL [] os = some (i, k) → ∀ H' p, Same H H' → H' p = some (.tup [.int (i : Nat), .int (k : Nat)]) → Q (.ref p) H'
section
variable {P : Program} {w : World} {K : PySem.W.Frag} {mg : Str → Option Value} {base : Heap} {a : Ad}
theorem ok_due (T : Txt K mg a) : FnOk P w K mg base CX0 4 a.f_L_due a.d_L_due ["_law_lines"] spDue := by
  have G_L_wrong_word : FnOk P w K mg base CX0 3 _ _ _ spWrong := ok_wrong T
  have G_L_depth : FnOk P w K mg base CX0 3 _ _ _ spDepth := (ok_depth T).mono (by decide)
  refine T.F_L_due.ok sc_L_due (fun vs H Q E h => ?_) (fun cdv A outer s H vs Q E hr h => ?_)
  · obtain ⟨l, xs, os, rfl, _⟩ := h; rfl
  · obtain ⟨l, xs, os, rfl, hl, hz, ho, hasc, q1, q2⟩ := h
    have small : sizeLine = 16777216 := sizeLine_eq
    refine ⟨_, (pss_cons (ps_set (i := 1) sc_L_due.nd rfl (Or.inl rfl) (pe_lst pa_nil)) (pss_cons (ps_set (i := 2) sc_L_due.nd rfl (Or.inl rfl) pe_non) (pss_cons (ps_for PassesOwn.never rfl (pi_enum rfl T.z_enumerate (pa_cons (vr 0) pa_nil)) (pg_tup rfl (pgs_cons (pg_name (i := 3) sc_L_due.nd rfl (Or.inl rfl)) (pgs_cons (pg_name (i := 4) sc_L_due.nd rfl (Or.inl rfl)) pgs_nil))) (pss_cons (ps_set (i := 5) sc_L_due.nd rfl (Or.inl rfl) (pe_call G_L_wrong_word hr rfl T.m_L_wrong_word T.F_L_wrong_word.kp T.B_L_wrong_word .nil pass0 (pa_cons (vr 4) (pa_cons (vr 1) (pa_cons (vr 2) pa_nil))))) (pss_cons (ps_if (t_cmp o_isnot (vr 5) pe_non (nomark _)) (pss_one (ps_ret (pe_tup (pa_cons (vr 3) (pa_cons (vr 5) pa_nil))))) pss_nil) (pss_cons (ps_set (i := 6) sc_L_due.nd rfl (Or.inl rfl) (pe_m.split (vr 4) (pa_cons pe_str pa_nil))) (pss_cons (ps_expr (pe_m.append (vr 1) (pa_cons (pe_ix ix_seq (vr 6) pe_int (fun _ _ => rfl)) pa_nil))) (pss_one (ps_set (i := 2) sc_L_due.nd rfl (Or.inl rfl) (pe_call G_L_depth hr rfl T.m_L_depth T.F_L_depth.kp T.B_L_depth .nil pass0 (pa_cons (pe_ix ix_seq (vr 6) pe_int (fun _ _ => rfl)) pa_nil))))))))) (pss_one (ps_ret pe_non))))), ?_⟩
    have ol : os.length = xs.length := Paired.length ho
    refine ⟨Nat.zero_le _, fun pn hpn0 => ?_⟩
    have s0 : Same H (upd H pn (.lst [])) := Same.new hpn0
    refine ⟨l, _, rfl, s0 _ _ hl, for_enum (a := l) (xs := xs) (fun i σ H' => Same H H' ∧ ∃ (us : List U) (dp : Option Nat) (x3 x4 x5 x6 : Option V), σ = [some (.ref l), some (.ref pn), some (oK dp), x3, x4, x5, x6] ∧ H' pn = some (.lst ((us.map U.name).map V.str)) ∧ us.length = i ∧ (∀ ps, plenB ps us = deepB dp ps.length) ∧ wrongL us (os.drop i) = wrongL [] os)
      ⟨s0, [], none, none, none, none, none, rfl, upd_same, rfl, fun _ => rfl, by rw [List.drop_zero]⟩ (fun i σ H' h => h.1 _ _ hl) ?_ ?_⟩
    · rintro i x σ H' p hx ⟨s1, us, dp, x3, x4, x5, x6, rfl, hn1, hul, hdp, hwr⟩ hp
      obtain ⟨o, hoi, hLn⟩ := ho.get hx
      have hi : i < xs.length := (List.getElem?_eq_some_iff.mp hx).1
      have ed : os.drop i = o :: os.drop (i + 1) := by
        rw [List.drop_eq_getElem_cons (by omega)]
        rw [List.getElem?_eq_getElem (by omega)] at hoi
        rw [Option.some.inj hoi]
      rw [ed, wrongL] at hwr
      have s3 : Same H' (upd H' p (.tup [.int (i : Nat), x])) := Same.new hp
      refine ⟨p, _, rfl, SqT.of upd_same, rfl, _, _, rfl, _, _, rfl, rfl, ?_⟩
      generalize upd H' p (.tup [.int (i : Nat), x]) = H1 at s3
      have sx := s1.trans s3
      refine ⟨x, o, pn, us, dp, rfl, hLn.same sx, fun t e => hasc t (by rw [← e]; exact List.mem_of_getElem? hoi), s3 _ _ hn1, by omega, hdp, fun H2 s4 => ?_⟩
      have sy := sx.trans s4
      cases hw : wrongW us (wordsO o) with
      | some k =>
        rw [hw] at hwr
        refine ⟨(by decide : 2 ≤ sizeLine), fun pt hpt => ?_⟩
        have := q2 us.length k hwr.symm (upd H2 pt (.tup [.int (us.length : Nat), .int (k : Nat)])) pt (sy.trans (Same.new hpt)) upd_same
        rw [hul] at this
        exact this
      | none =>
        rw [hw] at hwr
        cases hLn with
        | other _ c h n => rw [show wordsO none = [("" : Str)] from rfl, wrongW_other] at hw; cases hw
        | str t ht =>
          obtain ⟨w0, w1, w2, w3, ew, ok3⟩ := wrongW_none hw
          have ew' : splS 32 t = [w0, w1, w2, w3] := ew
          refine ⟨rfl, _, 32, rfl, by rw [blank_code], by omega, fun r ts hr e => ?_⟩
          have ets : ts = [w0, w1, w2, w3] := by rw [splS_eq e]; exact ew
          subst ets
          have hrr : (upd H2 r (.lst ([w0, w1, w2, w3].map V.str))) r = some (.lst ([w0, w1, w2, w3].map V.str)) := upd_same
          have s5 : Same H2 (upd H2 r (.lst ([w0, w1, w2, w3].map V.str))) := Same.new hr
          generalize upd H2 r (.lst ([w0, w1, w2, w3].map V.str)) = H3 at s5 hrr
          have hn3 := (s3.trans (s4.trans s5)) _ _ hn1
          have sz := sy.trans s5
          refine ⟨.inl ⟨rfl, _, SqL.of hn3⟩, .inl ⟨r, _, _, _, rfl, rfl, SqL.of hrr, atI_cons 0 rfl rfl, pn, _, _, rfl, rfl, hn3, by rw [List.length_map, List.length_map]; omega, ?_⟩⟩
          have hne : r ≠ pn := fun z => by
            rw [z, (s3.trans s4) _ _ hn1] at hr; cases hr
          have m3 : w3 ∈ splS 32 t := by rw [ew']; simp
          have l3 : w3.length ≤ 640 := by have := splS_len m3; show w3.cps.size ≤ 640; omega
          have as3 : Asc w3 := asc_spl (hasc t (List.mem_of_getElem? hoi)) m3
          obtain ⟨ps, hps, hpl⟩ : ∃ ps, pathO w3 = some ps ∧ plenB ps us = true := by
            have z : (match pathO w3 with | some ps => plenB ps us | none => false) = true := ok3
            cases hp3 : pathO w3 with
            | none => rw [hp3] at z; cases z
            | some ps => rw [hp3] at z; exact ⟨ps, rfl, z⟩
          refine .inl ⟨r, _, _, _, rfl, rfl, SqL.of (by rw [upd_ne hne]; exact hrr), atI_cons 3 rfl rfl, w3, rfl, l3, as3, fun H4 s6 => ?_⟩
          rw [hps]
          refine ⟨(sz.put hpn0).trans s6, us ++ [unitW (wordsO (some t))], some ps.length, _, _, _, _, rfl, s6 _ _ ?_, by rw [List.length_append, hul]; rfl, fun ps' => ?_, hwr⟩
          · rw [upd_same, show wordsO (some t) = [w0, w1, w2, w3] from ew', List.map_append, List.map_append]; rfl
          · cases us with
            | nil =>
              show decide (ps'.length = (unitW (wordsO (some t))).path.length) = decide (ps'.length = ps.length)
              rw [show wordsO (some t) = [w0, w1, w2, w3] from ew', show (unitW [w0, w1, w2, w3]).path = (pathO w3).getD [] from rfl, hps]; rfl
            | cons u ur =>
              have e : ps.length = u.path.length := of_decide_eq_true hpl
              show decide (ps'.length = u.path.length) = decide (ps'.length = ps.length)
              rw [e]
    · rintro σ H' ⟨s1, us, dp, x3, x4, x5, x6, rfl, hn1, hul, hdp, hwr⟩
      rw [List.drop_eq_nil_of_le (by omega), wrongL] at hwr
      exact q1 hwr.symm _ s1
end
end My

set_option Elab.async false
set_option linter.all false
set_option maxRecDepth 100000
set_option maxHeartbeats 4000000
namespace My
open PySem L2
theorem call_isxTK {X : Cx} {K : PySem.W.Frag} (h : X.K = K) : CallR X (.builtin "isinstance") (rIsXT K) := h ▸ call_isxT
def spTold : Sp := fun vs H Q _ => ∃ (l : Addr) (xs : List V) (os : List (Option Str)), vs = [.ref l] ∧ H l = some (.lst xs) ∧ 1 ≤ xs.length ∧ xs.length ≤ 24 ∧ AllN H os xs ∧ (wrongL [] os = none → ∀ H', Same H H' → Q .non H') ∧
  ∀ (i k : Nat), wrongL [] os = some (i, k) → ∀ H' p, Same H H' → H' p = some (.tup [.int (i : Nat), .int (k : Nat)]) → Q (.ref p) H'
def spNoU : Sp := fun vs H Q _ => ∃ (x : V), vs = [x] ∧ NoLen H x ∧ ∀ H', Same H H' → Q (.bl true) H'
section
variable {P : Program} {w : World} {K : PySem.W.Frag} {mg : Str → Option Value} {base : Heap} {a : Ad}
theorem ok_told (T : Txt K mg a) : FnOk P w K mg base CX0 8 a.f_L_told a.d_L_told ["_law_lines"] spTold := by
  have G_listing_of : FnOk P w K mg base (CXG P w) 7 _ _ _ (spListing a) := ok_listing T
  refine T.F_L_told.ok sc_L_told (fun vs H Q E h => ?_) (fun cdv A outer s H vs Q E hr h => ?_)
  · obtain ⟨l, xs, os, rfl, _⟩ := h; rfl
  · obtain ⟨l, xs, os, rfl, hl, g1, g2, ho, q1, q2⟩ := h
    refine ⟨_, (pss_cons (ps_set (i := 1) sc_L_told.nd rfl (Or.inl rfl) pe_non) (pss_cons (ps_tryG ⟨rfl, rfl⟩ G_listing_of hr rfl T.m_listing_of T.F_listing_of.kp T.B_listing_of .nil (pa_cons (vr 0) pa_nil) rfl T.mc_NoListing T.xh_NoListing sc_L_told.nd (ie := 2) rfl rfl (fun x => (pss_cons (ps_set (i := 1) sc_L_told.nd rfl (Or.inl rfl) (pe_tup (pa_cons (pe_fldCK (K := K) rfl (vr 2)) (pa_cons (pe_fldCK (K := K) rfl (vr 2)) pa_nil)))) (pss_one (ps_if (PW.pt (pw_or (t_val (pe_callB (call_isxTK (K := K) rfl) rfl T.z_isinstance bt_isinstance (pa_cons (vr 2) (pa_cons (pe_tup (pa_cons (pe_gl rfl T.g_NoUnits) (pa_cons (pe_gl rfl T.g_NoPlan) (pa_cons (pe_gl rfl T.g_NoLevel) pa_nil)))) pa_nil)))) (pw_or1 (pt_not (t_val (pe_callB (call_isxK (K := K) rfl) rfl T.z_isinstance bt_isinstance (pa_cons (vr 2) (pa_cons (pe_bltn (v := .ty "ValueError") rfl T.z_ValueError bt_ValueError rfl) pa_nil)))))))) (pss_one (ps_set (i := 1) sc_L_told.nd rfl (Or.inl rfl) pe_str)) pss_nil))))) (pss_one (ps_ret (vr 1))))), ?_⟩
    refine ⟨_, rfl, .inr ⟨l, xs, os, rfl, hl, g1, g2, ho, fun e H' v s1 => q1 e _ s1, fun i k e H' dx s1 hdx => ?_⟩⟩
    refine ⟨_, rfl, beq_iff_eq.mp T.tn, fun x hx => ?_⟩
    have sx : Same H' (upd H' x (.ext (XCt x a.c_NoListing (some dx)))) := Same.new hx
    obtain ⟨cd1, sx1⟩ := T.sx_NoListing_line
    obtain ⟨cd2, sx2⟩ := T.sx_NoListing_word
    refine ⟨x, _, cd1, dx, _, _, _, rfl, sx1, T.xc_NoListing, upd_same, fun _ z => z, sx _ _ hdx, rfl, ?_⟩
    refine ⟨x, _, cd2, dx, _, _, _, rfl, sx2, T.xc_NoListing, upd_same, fun _ z => z, sx _ _ hdx, rfl, ?_⟩
    refine ⟨(by decide : 2 ≤ sizeLine), fun p hp => ?_⟩
    have sp1 := Same.new (o := .tup [.int (i : Nat), .int (k : Nat)]) hp
    refine ⟨(by decide : 3 ≤ sizeLine), fun pt hpt => ?_⟩
    have sp2 := Same.new (o := .tup [.ref a.c_NoUnits, .ref a.c_NoPlan, .ref a.c_NoLevel]) hpt
    have ty : TyX K _ (.ref x) (.ref a.c_NoListing) := .inr ⟨x, _, _, rfl, rfl, T.xc_NoListing, (sp1.trans sp2) _ _ upd_same, fun _ z => XCt.at z⟩
    refine ⟨_, pt, _, _, false, rfl, upd_same, rfl, ty, T.a1, ?_⟩
    refine ⟨_, _, _, true, rfl, rfl, ty, T.a2, ?_⟩
    exact q2 i k e _ p (s1.trans (sx.trans (sp1.trans sp2))) (sp2 _ _ upd_same)
theorem ok_nounits (T : Txt K mg a) : FnOk P w K mg base CX0 8 a.f_L_no_units a.d_L_no_units ["_law_thing"] spNoU := by
  have G_listing_of : FnOk P w K mg base (CXG P w) 7 _ _ _ (spListing a) := ok_listing T
  refine T.F_L_no_units.ok sc_L_no_units (fun vs H Q E h => ?_) (fun cdv A outer s H vs Q E hr h => ?_)
  · obtain ⟨x, rfl, _⟩ := h; rfl
  · obtain ⟨v, rfl, nl, q⟩ := h
    refine ⟨_, (pss_cons (ps_set (i := 1) sc_L_no_units.nd rfl (Or.inl rfl) pe_non) (pss_cons (ps_tryG ⟨rfl, rfl⟩ G_listing_of hr rfl T.m_listing_of T.F_listing_of.kp T.B_listing_of .nil (pa_cons (vr 0) pa_nil) rfl T.mc_SpeakError T.xh_SpeakError sc_L_no_units.nd (ie := 2) rfl rfl (fun x => (pss_one (ps_set (i := 1) sc_L_no_units.nd rfl (Or.inl rfl) (vr 2))))) (pss_one (ps_ret (m_and (pe_callB call_isx rfl T.z_isinstance bt_isinstance (pa_cons (vr 1) (pa_cons (pe_gl rfl T.g_NoUnits) pa_nil))) (pe_one (m_not (pe_callB call_isx rfl T.z_isinstance bt_isinstance (pa_cons (vr 1) (pa_cons (pe_gl rfl T.g_NoListing) pa_nil)))))))))), ?_⟩
    refine ⟨_, rfl, .inl ⟨nl, fun H' s1 => ?_⟩⟩
    refine ⟨_, rfl, beq_iff_eq.mp T.tu, fun x hx => ?_⟩
    have sx : Same H' (upd H' x (.ext (XCt x a.c_NoUnits none))) := Same.new hx
    have ty : TyX K (upd H' x (.ext (XCt x a.c_NoUnits none))) (.ref x) (.ref a.c_NoUnits) := .inr ⟨x, _, _, rfl, rfl, T.xc_NoUnits, upd_same, fun _ z => XCt.at z⟩
    refine ⟨_, _, _, true, rfl, rfl, ty, T.u1, ?_⟩
    refine ⟨_, _, _, false, rfl, rfl, ty, T.u2, ?_⟩
    exact q _ (s1.trans sx)
end
end My

set_option Elab.async false
set_option linter.all false
set_option maxRecDepth 100000
set_option maxHeartbeats 4000000
namespace My
open PySem L2
/-- a short word of plain signs -/
def Sw (t : Str) : Prop := Asc t ∧ t.cps.size ≤ 40
def odd0 : List Str := ["", "Abc", "a-", "abcdefghi", "0", "a.b", "a\n", "a\tb"]
def odd1 : List Str := ["", "1000000001", "-1000000001", "+1", "01", "-0", "1.0", "1\n"]
def odd2 : List Str := ["", "0", "1000001", "-1", "007", "x", "\t1"]
def odd3 : List Str := ["", "a.", ".a", "a..b", "A", "a.b.c.d", "--", "-.a", "abcdefghi"]
def swB (t : Str) : Bool := t.cps.toList.all (fun n => decide (n < 128)) && decide (t.cps.size ≤ 40)
theorem swB_of {t : Str} (h : swB t = true) : Sw t := by
  unfold swB at h
  rw [Bool.and_eq_true, List.all_eq_true] at h
  exact ⟨fun n hn => of_decide_eq_true (h.1 n hn), of_decide_eq_true h.2⟩
theorem odds {k : Nat} {o : List Str} (h : [odd0, odd1, odd2, odd3][k]? = some o) : 7 ≤ o.length ∧ o.length ≤ 9 ∧ ∀ t ∈ o, Sw t := by
  have all : [odd0, odd1, odd2, odd3].all (fun o => decide (7 ≤ o.length) && decide (o.length ≤ 9) && o.all swB) = true := by decide +kernel
  have := List.all_eq_true.mp all o (List.mem_of_getElem? h)
  rw [Bool.and_eq_true, Bool.and_eq_true, List.all_eq_true] at this
  exact ⟨of_decide_eq_true this.1.1, of_decide_eq_true this.1.2, fun t ht => swB_of (this.2 t ht)⟩
def spOdd : Sp := fun vs H Q _ => ∃ (l : Addr) (ws : List Str) (k : Nat) (n : Int), vs = [.ref l, .int (k : Nat), .int n] ∧ H l = some (.lst (ws.map V.str)) ∧ 4 ≤ ws.length ∧ ws.length ≤ 10 ∧ k < 4 ∧ (∀ t ∈ ws, Sw t) ∧
  ∀ H' p (ws' : List Str), Same H H' → H' p = some (.lst (ws'.map V.str)) → ws'.length ≤ 11 → (∀ t ∈ ws', Sw t) → Q (.ref p) H'
theorem four_rows {H : Hp} {p0 r p1 p2 p3 : Addr} {o0 o1 o2 o3 x1 x2 x3 : HO} {x0 : List V} (e0 : H p0 = none) (er : upd H p0 o0 r = none) (e1 : upd (upd H p0 o0) r (.lst x0) p1 = none)
    (e2 : upd (upd (upd (upd H p0 o0) r (.lst x0)) p1 o1) r x1 p2 = none) (e3 : upd (upd (upd (upd (upd (upd H p0 o0) r (.lst x0)) p1 o1) r x1) p2 o2) r x2 p3 = none) :
    ∀ H', H' = upd (upd (upd (upd (upd (upd (upd (upd H p0 o0) r (.lst x0)) p1 o1) r x1) p2 o2) r x2) p3 o3) r x3 → Same H H' ∧ H' r = some x3 ∧ H' p0 = some o0 ∧ H' p1 = some o1 ∧ H' p2 = some o2 ∧ H' p3 = some o3 := by
  rintro H' rfl
  have n0 : p0 ≠ r := ne_of_none upd_same er
  have n1 : r ≠ p1 := ne_of_none upd_same e1
  have n2 : r ≠ p2 := ne_of_none upd_same e2
  have n3 : r ≠ p3 := ne_of_none upd_same e3
  have hrH : H r = none := (Same.new e0).free er
  have s1 := Same.new (o := o0) e0
  have s2 := s1.trans (Same.new (o := .lst x0) er)
  have s3 := s2.trans (Same.new (o := o1) e1)
  have s4 := s3.put (o := x1) hrH
  have s5 := s4.trans (Same.new (o := o2) e2)
  have s6 := s5.put (o := x2) hrH
  have s7 := s6.trans (Same.new (o := o3) e3)
  have s8 := s7.put (o := x3) hrH
  have t2 : p2 ≠ p3 := by
    refine ne_of_none (o := o2) ?_ e3
    rw [upd_ne n2.symm, upd_same]
  have t1 : p1 ≠ p2 := by
    refine ne_of_none (o := o1) ?_ e2
    rw [upd_ne n1.symm, upd_same]
  have t1' : p1 ≠ p3 := by
    refine ne_of_none (o := o1) ?_ e3
    rw [upd_ne n1.symm, upd_ne t1, upd_ne n1.symm, upd_same]
  have t0 : p0 ≠ p1 := by
    refine ne_of_none (o := o0) ?_ e1
    rw [upd_ne n0, upd_same]
  have t0' : p0 ≠ p2 := by
    refine ne_of_none (o := o0) ?_ e2
    rw [upd_ne n0, upd_ne t0, upd_ne n0, upd_same]
  have t0'' : p0 ≠ p3 := by
    refine ne_of_none (o := o0) ?_ e3
    rw [upd_ne n0, upd_ne t0', upd_ne n0, upd_ne t0, upd_ne n0, upd_same]
  refine ⟨s8, upd_same, ?_, ?_, ?_, ?_⟩
  · rw [upd_ne n0, upd_ne t0'', upd_ne n0, upd_ne t0', upd_ne n0, upd_ne t0, upd_ne n0, upd_same]
  · rw [upd_ne n1.symm, upd_ne t1', upd_ne n1.symm, upd_ne t1, upd_ne n1.symm, upd_same]
  · rw [upd_ne n2.symm, upd_ne t2, upd_ne n2.symm, upd_same]
  · rw [upd_ne n3.symm, upd_same]
section
variable {P : Program} {w : World} {K : PySem.W.Frag} {mg : Str → Option Value} {base : Heap} {a : Ad}
theorem ok_odd (T : Txt K mg a) : FnOk P w K mg base CX0 1 a.f_L_odd_word a.d_L_odd_word ["_law_words", "_law_at", "_law_number"] spOdd := by
  refine T.F_L_odd_word.ok sc_L_odd_word (fun vs H Q E h => ?_) (fun cdv A outer s H vs Q E hr h => ?_)
  · obtain ⟨l, ws, k, n, rfl, _⟩ := h; rfl
  · obtain ⟨l, ws, k, n, rfl, hl, hlen4, hlen, hk, hw, q⟩ := h
    have small : sizeLine = 16777216 := sizeLine_eq
    refine ⟨_, (psq_out (psq_cons (pst_set (i := 3) sc_L_odd_word.nd rfl (Or.inl rfl) (peq_lst (paq_consq (peq_lst (paq_cons pe_str (paq_cons pe_str (paq_cons pe_str (paq_cons pe_str (paq_cons pe_str (paq_cons pe_str (paq_cons pe_str (paq_cons pe_str paq_nil))))))))) paq_nil))) (psq_cons (pst_app (vr 3) (peq_lst (paq_cons pe_str (paq_cons pe_str (paq_cons pe_str (paq_cons pe_str (paq_cons pe_str (paq_cons pe_str (paq_cons pe_str (paq_cons pe_str paq_nil)))))))))) (psq_cons (pst_app (vr 3) (peq_lst (paq_cons pe_str (paq_cons pe_str (paq_cons pe_str (paq_cons pe_str (paq_cons pe_str (paq_cons pe_str (paq_cons pe_str paq_nil))))))))) (psq_cons (pst_app (vr 3) (peq_lst (paq_cons pe_str (paq_cons pe_str (paq_cons pe_str (paq_cons pe_str (paq_cons pe_str (paq_cons pe_str (paq_cons pe_str (paq_cons pe_str (paq_cons pe_str paq_nil))))))))))) (psq_cons (pst_of (ps_set (i := 4) sc_L_odd_word.nd rfl (Or.inl rfl) (pe_ix ix_seq (vr 3) (vr 1) (fun _ _ => rfl)))) (psq_one (pst_of (ps_ret (pe_op op_cat (pe_op op_cat (pe_slice sl_any (vr 0) po_none (po_some (vr 1))) (pe_lst (pa_cons (pe_ix ix_seq (vr 4) (pe_op o_mod (vr 2) (pe_callB call_lenM rfl T.z_len bt_len (pa_cons (vr 4) pa_nil))) (fun _ _ => rfl)) pa_nil))) (pe_slice sl_any (vr 0) (po_some (pe_op o_add (vr 1) pe_int)) po_none))))))))))), ?_⟩
    refine ⟨(by show 8 ≤ sizeLine; omega), fun p0 e0 => ⟨(by show 1 ≤ sizeLine; omega), fun r er => ?_⟩⟩
    refine ⟨.inl ⟨rfl, _, SqL.of upd_same⟩, (by show 8 ≤ sizeLine; omega), fun p1 e1 => ?_⟩
    have n1 : r ≠ p1 := ne_of_none upd_same e1
    refine ⟨r, _, _, rfl, rfl, (by rw [upd_ne n1]; exact upd_same), (by show 1 + 1 ≤ sizeLine; omega), ?_⟩
    refine ⟨.inl ⟨rfl, _, SqL.of upd_same⟩, (by show 7 ≤ sizeLine; omega), fun p2 e2 => ?_⟩
    have n2 : r ≠ p2 := ne_of_none upd_same e2
    refine ⟨r, _, _, rfl, rfl, (by rw [upd_ne n2]; exact upd_same), (by show 2 + 1 ≤ sizeLine; omega), ?_⟩
    refine ⟨.inl ⟨rfl, _, SqL.of upd_same⟩, (by show 9 ≤ sizeLine; omega), fun p3 e3 => ?_⟩
    have n3 : r ≠ p3 := ne_of_none upd_same e3
    refine ⟨r, _, _, rfl, rfl, (by rw [upd_ne n3]; exact upd_same), (by show 3 + 1 ≤ sizeLine; omega), ?_⟩
    obtain ⟨sA, gr, g0, g1, g2, g3⟩ := four_rows (o0 := .lst (odd0.map V.str)) (o1 := .lst (odd1.map V.str)) (o2 := .lst (odd2.map V.str)) (o3 := .lst (odd3.map V.str)) (x0 := [.ref p0]) (x1 := .lst [.ref p0, .ref p1]) (x2 := .lst [.ref p0, .ref p1, .ref p2]) (x3 := .lst [.ref p0, .ref p1, .ref p2, .ref p3]) e0 er e1 e2 e3 _ rfl
    have row : ∃ (b : Addr) (o : List Str), [V.ref p0, V.ref p1, V.ref p2, V.ref p3][k]? = some (.ref b) ∧ [odd0, odd1, odd2, odd3][k]? = some o ∧ ∀ H' : Hp, H' p0 = some (.lst (odd0.map V.str)) → H' p1 = some (.lst (odd1.map V.str)) → H' p2 = some (.lst (odd2.map V.str)) → H' p3 = some (.lst (odd3.map V.str)) → H' b = some (.lst (o.map V.str)) := by
      match k, hk with
      | 0, _ => exact ⟨p0, odd0, rfl, rfl, fun H' a b c d => a⟩
      | 1, _ => exact ⟨p1, odd1, rfl, rfl, fun H' a b c d => b⟩
      | 2, _ => exact ⟨p2, odd2, rfl, rfl, fun H' a b c d => c⟩
      | 3, _ => exact ⟨p3, odd3, rfl, rfl, fun H' a b c d => d⟩
    obtain ⟨b, o, hb, ho, hbo⟩ := row
    have gb := hbo _ g0 g1 g2 g3
    obtain ⟨l1, l2, hsw⟩ := odds ho
    refine .inl ⟨r, _, _, _, rfl, rfl, SqL.of gr, atI_cons k rfl hb, ?_⟩
    refine ⟨_, rfl, .inl ⟨_, SqL.of (sA _ _ hl), fun q1 f1 => ?_⟩⟩
    have s1 := Same.new (o := .lst (cutV (ws.map V.str) none (some (k : Int)))) f1
    have gb1 := s1 _ _ gb
    have hl1 := s1 _ _ (sA _ _ hl)
    have sB := sA.trans s1
    have pos : (0 : Int) < (o.length : Int) := by omega
    obtain ⟨v, hv, ev⟩ := atI_ex (xs := o.map V.str) (i := n % (o.length : Int)) (Int.emod_nonneg _ (by omega)) (by rw [List.length_map]; exact Int.emod_lt_of_pos _ pos)
    obtain ⟨t, ht, rfl⟩ := List.mem_map.mp hv
    refine ⟨_, .inl (SqL.of gb1), ?_⟩
    rw [List.length_map]
    refine ⟨cp pos, .inl ⟨b, _, _, _, rfl, rfl, SqL.of gb1, ev, (by show 1 ≤ sizeLine; omega), fun q2 f2 => ?_⟩⟩
    have s2 := Same.new (o := .lst [V.str t]) f2
    have sz1 := cutV_length (ws.map V.str) none (some (k : Int))
    have sz2 := cutV_length (ws.map V.str) (some ((k + 1 : Nat) : Int)) none
    rw [List.length_map] at sz1 sz2
    refine ⟨q1, q2, _, _, rfl, rfl, s2 _ _ upd_same, upd_same, (by show _ + 1 ≤ sizeLine; omega), fun q3 f3 => ?_⟩
    have s3 := Same.new (o := .lst (cutV (ws.map V.str) none (some (k : Int)) ++ [V.str t])) f3
    refine ⟨_, rfl, .inl ⟨_, SqL.of ((s2.trans s3) _ _ hl1), fun q4 f4 => ?_⟩⟩
    have s4 := Same.new (o := .lst (cutV (ws.map V.str) (some ((k : Int) + 1)) none)) f4
    refine ⟨q3, q4, _, _, rfl, rfl, s4 _ _ upd_same, upd_same, ?_, fun q5 f5 => ?_⟩
    · rw [List.length_append]
      have : ((k : Int) + 1) = ((k + 1 : Nat) : Int) := by omega
      rw [this]
      show _ + 1 + _ ≤ sizeLine
      omega
    refine q _ q5 (ws.take k ++ [t] ++ ws.drop (k + 1)) ((sB.trans (s2.trans (s3.trans s4))).trans (Same.new f5)) ?_ ?_ fun x hx => ?_
    · rw [upd_same, cutV_take _ k (by rw [List.length_map]; omega), show ((k : Int) + 1) = ((k + 1 : Nat) : Int) by omega, cutV_drop, List.map_append, List.map_append, List.map_take, List.map_drop]
      rfl
    · simp only [List.length_append, List.length_take, List.length_drop, List.length_singleton]; omega
    · rcases List.mem_append.mp hx with z | z
      · rcases List.mem_append.mp z with z | z
        · exact hw x (List.mem_of_mem_take z)
        · rw [List.mem_singleton.mp z]; exact hsw t ht
      · exact hw x (List.mem_of_mem_drop z)
end
end My

set_option Elab.async false
set_option linter.all false
set_option maxRecDepth 100000
set_option maxHeartbeats 4000000
namespace My
open PySem L2
def GoodP (ts : List Str) : Prop := ts.length ≤ 3 ∧ ∀ t ∈ ts, nameB t = true
theorem join_room {ps : List Str} (h : GoodP ps) : (ps.map (·.length)).sum + ps.length * ("." : Str).length ≤ 16777216 := by
  have h1 : ∀ (l : List Str), (∀ t ∈ l, nameB t = true) → (l.map (·.length)).sum ≤ l.length * 8 := by
    intro l
    induction l with
    | nil => intro _; exact Nat.zero_le _
    | cons t l ih =>
      intro hl
      have h2 : t.length ≤ 8 := (nameB_codes (hl t List.mem_cons_self)).2.1
      have h3 := ih fun x hx => hl x (List.mem_cons_of_mem _ hx)
      rw [List.map_cons, List.sum_cons, List.length_cons, Nat.add_mul]
      omega
  have h2 := h1 ps h.2
  have h3 := h.1
  have h4 : ("." : Str).length = 1 := by decide +kernel
  rw [h4]
  omega
def spNames : Sp := fun vs H Q _ => ∃ (c m : Int), vs = [.int c, .int m] ∧ 0 ≤ m ∧ m ≤ 24 ∧ ∀ H' r (nm : List Str), Same H H' → H r = none → H' r = some (.lst (nm.map V.str)) → (nm.length : Int) = m → (∀ n ∈ nm, nameB n = true) → nm.Nodup → Q (.ref r) H'
def spUnits : Sp := fun vs H Q _ => ∃ (c : Int), vs = [.int c] ∧ ∀ H' r us xs, Same H H' → H r = none → H' r = some (.lst xs) → AllU H' us xs → GoodL us → Q (.ref r) H'
def spLine : Sp := fun vs H Q _ => ∃ (u : U) (x : V), vs = [x] ∧ IsU H u x ∧ GoodU u ∧ ∀ H', Same H H' → Q (.str (lineS u)) H'
theorem lett : ∀ i : Int, 0 ≤ i → i < 26 → atI ("abcdefghijklmnopqrstuvwxyz" : Str).cps.toList i = some (97 + i.toNat) := by
  have h : ∀ n : Nat, n < 26 → atI ("abcdefghijklmnopqrstuvwxyz" : Str).cps.toList (n : Int) = some (97 + n) := by decide +kernel
  intro i h0 h1
  have := h i.toNat (by omega)
  rwa [show ((i.toNat : Nat) : Int) = i by omega] at this
theorem app_codes (x y : Str) : (x ++ y).cps.toList = x.cps.toList ++ y.cps.toList := PySem.W.KT.app_list _ _
theorem app_size (x y : Str) : (x ++ y).cps.size = x.cps.size + y.cps.size := by
  have := congrArg List.length (app_codes x y)
  simpa using this
def nmK (stem : Str) (pl first : Int) (k : Nat) : Str :=
  cutS stem none (some pl) ++ (⟨#[97 + ((first / 3 + 3 * (k : Int)) % 26).toNat]⟩ : Str) ++ cutS stem (some (pl + 1)) (some (pl + (1 + (first / 7 + (k : Int) * (first / 49 % 3)) % (8 - pl))))
theorem nmK_ok {stem : Str} {pl first : Int} (hs : stem.cps.size = 8) (hl : ∀ c ∈ stem.cps.toList, 97 ≤ c ∧ c ≤ 122) (p0 : 0 ≤ pl) (p1 : pl < 8) (k : Nat) :
    nameB (nmK stem pl first k) = true ∧ (nmK stem pl first k).cps.toList[pl.toNat]? = some (97 + ((first / 3 + 3 * (k : Int)) % 26).toNat) := by
  have e1 : (cutS stem none (some pl)).cps.toList.length = pl.toNat := by
    obtain ⟨j, rfl⟩ := Int.eq_ofNat_of_zero_le p0
    show ((stem.cps.toList.drop (HT.sIx stem.cps.size 0 none)).take (HT.sIx stem.cps.size stem.cps.size (some (j : Int)) - HT.sIx stem.cps.size 0 none)).toArray.toList.length = _
    rw [HT.sIx_nat, HT.sIx_none, List.drop_zero, List.toList_toArray, List.length_take]
    simp only [Array.length_toList, Nat.sub_zero, Int.toNat_natCast]
    omega
  have hz0 : 0 ≤ (first / 7 + (k : Int) * (first / 49 % 3)) % (8 - pl) := Int.emod_nonneg _ (by omega)
  have hz1 : (first / 7 + (k : Int) * (first / 49 % 3)) % (8 - pl) < 8 - pl := Int.emod_lt_of_pos _ (by omega)
  generalize hzz : (first / 7 + (k : Int) * (first / 49 % 3)) % (8 - pl) = zz at hz0 hz1
  have e2 : (cutS stem (some (pl + 1)) (some (pl + (1 + zz)))).cps.toList.length ≤ 7 - pl.toNat := by
    obtain ⟨j, rfl⟩ := Int.eq_ofNat_of_zero_le p0
    obtain ⟨m, rfl⟩ := Int.eq_ofNat_of_zero_le hz0
    show ((stem.cps.toList.drop (HT.sIx stem.cps.size 0 (some ((j : Int) + 1)))).take _).toArray.toList.length ≤ _
    rw [show ((j : Int) + 1) = ((j + 1 : Nat) : Int) by omega, HT.sIx_nat, List.toList_toArray, List.length_take, List.length_drop]
    simp only [Array.length_toList, Int.toNat_natCast]
    omega
  have ec : (nmK stem pl first k).cps.toList = (cutS stem none (some pl)).cps.toList ++ [97 + ((first / 3 + 3 * (k : Int)) % 26).toNat] ++ (cutS stem (some (pl + 1)) (some (pl + (1 + zz)))).cps.toList := by
    unfold nmK
    rw [hzz, app_codes, app_codes]
  have hx0 : 0 ≤ (first / 3 + 3 * (k : Int)) % 26 := by omega
  have hx1 : (first / 3 + 3 * (k : Int)) % 26 < 26 := by omega
  have hsz : (nmK stem pl first k).cps.size = (nmK stem pl first k).cps.toList.length := by simp
  constructor
  · refine nameB_of ?_ ?_ fun c hc => ?_
    · rw [hsz, ec, List.length_append, List.length_append, e1, List.length_singleton]; omega
    · rw [hsz, ec, List.length_append, List.length_append, e1, List.length_singleton]; omega
    · rw [ec] at hc
      rcases List.mem_append.mp hc with h | h
      · rcases List.mem_append.mp h with h | h
        · exact hl c (cutS_mem h)
        · rw [List.mem_singleton.mp h]; omega
      · exact hl c (cutS_mem h)
  · rw [ec, List.append_assoc, List.getElem?_append_right (by omega), e1, Nat.sub_self]
    rfl
theorem nodup_map {f : Nat → Str} {n : Nat} (h : ∀ i j, i < n → j < n → f i = f j → i = j) : ((List.range n).map f).Nodup := by
  rw [List.nodup_iff_pairwise_ne, List.pairwise_map]
  refine List.Pairwise.imp_of_mem (fun {x y} hx hy hne z => hne ?_) (List.nodup_iff_pairwise_ne.mp List.nodup_range)
  exact h x y (List.mem_range.mp hx) (List.mem_range.mp hy) z
section
variable {P : Program} {w : World} {K : PySem.W.Frag} {mg : Str → Option Value} {base : Heap} {a : Ad}
theorem ok_names (T : Txt K mg a) : FnOk P w K mg base CX0 2 a.f_L_names a.d_L_names ["_law_cell_here", "_law_many"] spNames := by
  have G_L_mixed : FnOk P w K mg base CX0 1 _ _ _ spMixed := ok_mixed T
  refine T.F_L_names.ok sc_L_names (fun vs H Q E h => ?_) (fun cdv A outer s H vs Q E hr h => ?_)
  · obtain ⟨c, m, rfl, _⟩ := h; rfl
  · obtain ⟨c, m, rfl, m0, m1, q⟩ := h
    have small : sizeLine = 16777216 := sizeLine_eq
    refine ⟨_, (pss_cons (ps_set (i := 2) sc_L_names.nd rfl (Or.inl rfl) pe_str) (pss_cons (ps_set (i := 3) sc_L_names.nd rfl (Or.inl rfl) (pe_op o_mod (pe_call G_L_mixed hr rfl T.m_L_mixed T.F_L_mixed.kp T.B_L_mixed .nil pass0 (pa_cons (vr 0) (pa_cons pe_int pa_nil))) pe_int)) (pss_cons (ps_set (i := 4) sc_L_names.nd rfl (Or.inl rfl) (pe_call G_L_mixed hr rfl T.m_L_mixed T.F_L_mixed.kp T.B_L_mixed .nil pass0 (pa_cons (vr 0) (pa_cons pe_int pa_nil)))) (pss_cons (ps_set (i := 5) sc_L_names.nd rfl (Or.inl rfl) pe_str) (pss_cons (ps_for PassesOwn.never rfl (pi_range1 rfl T.z_range (pa_cons pe_int pa_nil)) (pg_name (i := 6) sc_L_names.nd rfl (Or.inl rfl)) (pss_one (ps_set (i := 5) sc_L_names.nd rfl (Or.inl rfl) (pe_op o_add (vr 5) (pe_ix ix_seq (vr 2) (pe_op o_mod (pe_op o_add (pe_op o_fdiv (vr 4) (pe_op o_add (pe_op o_mul pe_int (vr 6)) pe_int)) (vr 6)) pe_int) (fun _ _ => rfl)))))) (pss_cons (ps_set (i := 7) sc_L_names.nd rfl (Or.inl rfl) (pe_lst pa_nil)) (pss_cons (ps_for PassesOwn.never rfl (pi_range1 rfl T.z_range (pa_cons (vr 1) pa_nil)) (pg_name (i := 8) sc_L_names.nd rfl (Or.inl rfl)) (pss_cons (ps_set (i := 9) sc_L_names.nd rfl (Or.inl rfl) (pe_op o_add pe_int (pe_op o_mod (pe_op o_add (pe_op o_fdiv (vr 4) pe_int) (pe_op o_mul (vr 8) (pe_op o_mod (pe_op o_fdiv (vr 4) pe_int) pe_int))) (pe_op o_sub pe_int (vr 3))))) (pss_cons (ps_set (i := 10) sc_L_names.nd rfl (Or.inl rfl) (pe_ix ix_seq (vr 2) (pe_op o_mod (pe_op o_add (pe_op o_fdiv (vr 4) pe_int) (pe_op o_mul pe_int (vr 8))) pe_int) (fun _ _ => rfl))) (pss_one (ps_expr (pe_m.append (vr 7) (pa_cons (pe_op o_add (pe_op o_add (pe_slice sl_any (vr 5) po_none (po_some (vr 3))) (vr 10)) (pe_slice sl_any (vr 5) (po_some (pe_op o_add (vr 3) pe_int)) (po_some (pe_op o_add (vr 3) (vr 9))))) pa_nil))))))) (pss_one (ps_ret (vr 7)))))))))), ?_⟩
    refine ⟨c, 0, rfl, by decide, by decide, cp, ?_⟩
    refine ⟨c, 1, rfl, by decide, by decide, ?_⟩
    obtain ⟨pl, hpl⟩ : ∃ pl : Int, pl = mixed c 0 % 8 := ⟨_, rfl⟩
    have p0 : 0 ≤ pl := by omega
    have p1 : pl < 8 := by omega
    generalize mixed c 1 = first
    refine ⟨8, rfl, by decide, by decide, for_range (fun i σ H' => H' = H ∧ ∃ (t : Str) (x6 x7 x8 x9 x10 : Option V), σ = [some (.int c), some (.int m), some (.str "abcdefghijklmnopqrstuvwxyz"), some (.int pl), some (.int first), some (.str t), x6, x7, x8, x9, x10] ∧
      t.cps.size = i ∧ ∀ c ∈ t.cps.toList, 97 ≤ c ∧ c ≤ 122) ⟨rfl, "", none, none, none, none, none, by rw [hpl]; rfl, by decide +kernel, fun c hc => by cases hc⟩ ?_ ?_⟩
    · rintro i σ H' hi ⟨rfl, t, x6, x7, x8, x9, x10, rfl, hts, htl⟩
      have hi8 : i < 8 := hi
      refine ⟨cl, cd (by omega) (by omega), cp, .inr (.inr ⟨_, _, _, rfl, rfl, by decide +kernel, lett _ (by omega) (by omega), ?_⟩)⟩
      refine ⟨?_, rfl, _, _, _, _, _, _, rfl, ?_, ?_⟩
      · show t.cps.size + 1 ≤ sizeLine; omega
      · rw [app_size, hts]; rfl
      · intro c' hc'
        rw [app_codes] at hc'
        rcases List.mem_append.mp hc' with z | z
        · exact htl c' z
        · rw [List.mem_singleton.mp z]; omega
    · rintro σ H' ⟨rfl, t, x6, x7, x8, x9, x10, rfl, hts, htl⟩
      have hts8 : t.cps.size = 8 := hts
      refine ⟨Nat.zero_le _, fun r hr0 => ?_⟩
      refine ⟨m, rfl, by omega, by omega, for_range (fun i σ H2 => (i : Int) ≤ m ∧ H2 = upd H' r (.lst ((List.range i).map fun k => V.str (nmK t pl first k))) ∧ ∃ (x6 x8 x9 x10 : Option V), σ = [some (.int c), some (.int m), some (.str "abcdefghijklmnopqrstuvwxyz"), some (.int pl), some (.int first), some (.str t), x6, some (.ref r), x8, x9, x10])
        ⟨m0, rfl, x6, x8, x9, x10, rfl⟩ ?_ ?_⟩
      · rintro i σ H2 hi ⟨_, rfl, x6, x8, x9, x10, rfl⟩
        have hi' : (i : Int) < m := by omega
        have hz : t.length ≤ sizeLine := by show t.cps.size ≤ sizeLine; omega
        refine ⟨cd, cd, cp, cr (by omega) (by omega), cp (by omega), cd, cl, cp, .inr (.inr ⟨_, _, _, rfl, rfl, by decide +kernel, lett _ (by omega) (by omega), ?_⟩)⟩
        refine ⟨.inl ⟨rfl, _, SqL.of upd_same⟩, _, rfl, hz, ?_⟩
        have b1 : (cutS t none (some pl)).cps.size ≤ 8 := by have := cutS_le t none (some pl); omega
        refine ⟨by show _ + 1 ≤ sizeLine; have : (cutS t none (some pl)).length = (cutS t none (some pl)).cps.size := rfl; omega, _, rfl, _, rfl, hz, ?_⟩
        refine ⟨?_, r, _, _, rfl, rfl, upd_same, by rw [List.length_map, List.length_range]; omega, by omega, ?_, _, _, _, _, rfl⟩
        · rw [show ∀ x y : Str, x.length + y.length = (x ++ y).cps.size from fun x y => (app_size x y).symm, app_size, app_size]
          have b2 := cutS_le t (some (pl + 1)) (some (pl + (1 + (first / 7 + (0 + (i : Int)) * (first / 49 % 3)) % (8 - pl))))
          show _ + 1 + _ ≤ sizeLine
          omega
        · rw [upd_upd, List.range_succ, List.map_append]
          congr 3
          show [V.str _] = [V.str (nmK t pl first i)]
          congr 2
          unfold nmK
          rw [Int.zero_add]
      · rintro σ H2 ⟨_, rfl, x6, x8, x9, x10, rfl⟩
        have e : ((List.range m.toNat).map fun k => V.str (nmK t pl first k)) = ((List.range m.toNat).map (nmK t pl first)).map V.str := by rw [List.map_map]; rfl
        refine q _ r ((List.range m.toNat).map (nmK t pl first)) (Same.new hr0) hr0 (by rw [upd_same, e]) (by rw [List.length_map, List.length_range]; omega) (fun n hn => ?_) (nodup_map fun i j hi hj e => ?_)
        · obtain ⟨k, _, rfl⟩ := List.mem_map.mp hn
          exact (nmK_ok hts8 htl p0 p1 k).1
        · have h1 := (nmK_ok (first := first) hts8 htl p0 p1 i).2
          have h2 := (nmK_ok (first := first) hts8 htl p0 p1 j).2
          rw [e, h2] at h1
          have h3 := Option.some.inj h1
          omega
theorem ok_units (T : Txt K mg a) : FnOk P w K mg base CX0 3 a.f_L_units a.d_L_units ["_law_cell_here"] spUnits := by
  have G_L_mixed : FnOk P w K mg base CX0 2 _ _ _ spMixed := (ok_mixed T).mono (by decide)
  have G_L_names : FnOk P w K mg base CX0 2 _ _ _ spNames := ok_names T
  refine T.F_L_units.ok sc_L_units (fun vs H Q E h => ?_) (fun cdv A outer s H vs Q E hr h => ?_)
  · obtain ⟨c, rfl, _⟩ := h; rfl
  · obtain ⟨c, rfl, q⟩ := h
    have small : sizeLine = 16777216 := sizeLine_eq
    have e9 : (10 : Int) ^ (9 : Int).toNat = 1000000000 := by decide
    have e6 : (10 : Int) ^ (6 : Int).toNat = 1000000 := by decide
    refine ⟨_, (pss_cons (ps_set (i := 1) sc_L_units.nd rfl (Or.inl rfl) (pe_op o_add pe_int (pe_op o_mod (pe_call G_L_mixed hr rfl T.m_L_mixed T.F_L_mixed.kp T.B_L_mixed .nil pass0 (pa_cons (vr 0) (pa_cons pe_int pa_nil))) pe_int))) (pss_cons (ps_set (i := 2) sc_L_units.nd rfl (Or.inl rfl) (pe_op o_mod (pe_call G_L_mixed hr rfl T.m_L_mixed T.F_L_mixed.kp T.B_L_mixed .nil pass0 (pa_cons (vr 0) (pa_cons pe_int pa_nil))) pe_int)) (pss_cons (ps_set (i := 3) sc_L_units.nd rfl (Or.inl rfl) (pe_call G_L_names hr rfl T.m_L_names T.F_L_names.kp T.B_L_names .nil pass0 (pa_cons (vr 0) (pa_cons (vr 1) pa_nil)))) (pss_cons (ps_set (i := 4) sc_L_units.nd rfl (Or.inl rfl) (pe_lst pa_nil)) (pss_cons (ps_for PassesOwn.never rfl (pi_range1 rfl T.z_range (pa_cons (vr 1) pa_nil)) (pg_name (i := 5) sc_L_units.nd rfl (Or.inl rfl)) (pss_cons (ps_set (i := 6) sc_L_units.nd rfl (Or.inl rfl) (pe_call G_L_mixed hr rfl T.m_L_mixed T.F_L_mixed.kp T.B_L_mixed .nil pass0 (pa_cons (vr 0) (pa_cons (pe_op o_add pe_int (pe_op o_mul pe_int (vr 5))) pa_nil)))) (pss_cons (ps_set (i := 7) sc_L_units.nd rfl (Or.inl rfl) (pe_op o_sub (pe_op o_mod (pe_op o_fdiv (vr 6) pe_int) (pe_op o_add (pe_op o_mul pe_int (pe_op o_pow pe_int pe_int)) pe_int)) (pe_op o_pow pe_int pe_int))) (pss_consM (ps_if (t_cmp o_eq (pe_op o_mod (vr 6) pe_int) pe_int (nomark _)) (pss_one (ps_set (i := 7) sc_L_units.nd rfl (Or.inl rfl) (pe_ix ix_seq (pe_lst (pa_cons (pe_op o_pow pe_int pe_int) (pa_cons (pe_op o_sub pe_int (pe_op o_pow pe_int pe_int)) (pa_cons pe_int (pa_cons pe_int pa_nil))))) (pe_op o_mod (pe_op o_fdiv (vr 6) pe_int) pe_int) (fun _ _ => rfl)))) pss_nil) (pss_cons (ps_set (i := 8) sc_L_units.nd rfl (Or.inl rfl) (pe_call G_L_mixed hr rfl T.m_L_mixed T.F_L_mixed.kp T.B_L_mixed .nil pass0 (pa_cons (vr 0) (pa_cons (pe_op o_add pe_int (pe_op o_mul pe_int (vr 5))) pa_nil)))) (pss_cons (ps_set (i := 8) sc_L_units.nd rfl (Or.inl rfl) (pe_op o_add pe_int (pe_op o_mod (pe_op o_fdiv (vr 8) pe_int) (pe_ix ix_seq (pe_lst (pa_cons (pe_op o_pow pe_int pe_int) (pa_cons pe_int (pa_cons pe_int pa_nil)))) (pe_op o_mod (vr 8) pe_int) (fun _ _ => rfl))))) (pss_cons (ps_set (i := 9) sc_L_units.nd rfl (Or.inl rfl) (pe_call G_L_mixed hr rfl T.m_L_mixed T.F_L_mixed.kp T.B_L_mixed .nil pass0 (pa_cons (vr 0) (pa_cons (pe_op o_add pe_int (pe_op o_mul pe_int (vr 5))) pa_nil)))) (pss_cons (ps_set (i := 10) sc_L_units.nd rfl (Or.inl rfl) (pe_lst pa_nil)) (pss_cons (ps_for PassesOwn.never rfl (pi_range1 rfl T.z_range (pa_cons (vr 2) pa_nil)) (pg_name (i := 11) sc_L_units.nd rfl (Or.inl rfl)) (pss_cons (ps_expr (pe_m.append (vr 10) (pa_cons (pe_ix ix_seq (pe_lst (pa_cons pe_str (pa_cons pe_str (pa_cons pe_str (pa_cons pe_str pa_nil))))) (pe_op o_mod (vr 9) pe_int) (fun _ _ => rfl)) pa_nil))) (pss_one (ps_set (i := 9) sc_L_units.nd rfl (Or.inl rfl) (pe_op o_fdiv (vr 9) pe_int))))) (pss_one (ps_expr (pe_m.append (vr 4) (pa_cons (pe_tup (pa_cons (pe_ix ix_seq (vr 3) (vr 5) (fun _ _ => rfl)) (pa_cons (vr 7) (pa_cons (vr 8) (pa_cons (pe_callTy call_tuple_of rfl T.z_tuple bt_tuple (pa_cons (vr 10) pa_nil)) pa_nil))))) pa_nil))))))))))))) (pss_one (ps_ret (vr 4)))))))), ?_⟩
    refine ⟨c, 2, rfl, by decide, by decide, cp, c, 3, rfl, by decide, by decide, cp, ?_⟩
    obtain ⟨many, hmany⟩ : ∃ x : Int, x = 1 + mixed c 2 % 24 := ⟨_, rfl⟩
    obtain ⟨deep, hdeep⟩ : ∃ x : Int, x = mixed c 3 % 4 := ⟨_, rfl⟩
    have y0 : 1 ≤ many := by omega
    have y1 : many ≤ 24 := by omega
    have d0 : 0 ≤ deep := by omega
    have d1 : deep ≤ 3 := by omega
    refine ⟨c, many, by rw [hmany]; rfl, by omega, y1, fun H1 nA nm s1 hn0 hnA hnl hng hnd => ?_⟩
    refine ⟨Nat.zero_le _, fun r hr0 => ?_⟩
    have hrH : H r = none := s1.free hr0
    have s2 : Same H1 (upd H1 r (.lst [])) := Same.new hr0
    refine ⟨many, by rw [hmany], by omega, by omega, for_range (fun i σ H' => (i : Int) ≤ many ∧ Same H H' ∧ H' nA = some (.lst (nm.map V.str)) ∧ ∃ (us : List U) (xs : List V) (x5 x6 x7 x8 x9 x10 x11 : Option V),
      σ = [some (.int c), some (.int many), some (.int deep), some (.ref nA), some (.ref r), x5, x6, x7, x8, x9, x10, x11] ∧ H' r = some (.lst xs) ∧ AllU H' us xs ∧ us.map U.name = nm.take i ∧ ∀ u ∈ us, GoodU u ∧ (u.path.length : Int) = deep)
      ⟨by omega, s1.trans s2, s2 _ _ hnA, [], [], none, none, none, none, none, none, none, by rw [hmany, hdeep]; rfl, upd_same, .nil, rfl, fun u hu => by cases hu⟩ ?_ ?_⟩
    · rintro i σ H2 hi ⟨_, s3, hnA2, us, xs, x5, x6, x7, x8, x9, x10, x11, rfl, hr2, hU, hnames, hgood⟩
      have hi' : (i : Int) < many := by omega
      have hus : us.length = i := by
        have := congrArg List.length hnames
        rw [List.length_map, List.length_take] at this
        omega
      refine ⟨cl, c, _, rfl, by omega, by omega, ?_⟩
      generalize mixed c (4 + 3 * (0 + (i : Int))) = m1
      refine ⟨cd, cw, cl, cp (by rw [e9]; decide), cw, ?_⟩
      refine ⟨fun σ H3 => Same H2 H3 ∧ ∃ v : Int, -1000000000 ≤ v ∧ v ≤ 1000000000 ∧ σ = [some (.int c), some (.int many), some (.int deep), some (.ref nA), some (.ref r), some (.int (0 + (i : Int))), some (.int m1), some (.int v), x8, x9, x10, x11], ?_, ?_⟩
      · refine ⟨cp, ifC (fun _ => ?_) (fun _ => ⟨Same.refl _, _, ?_, ?_, rfl⟩)⟩
        · refine ⟨cw, cw, by show 4 ≤ sizeLine; omega, fun p hp => ⟨cd, cp, ?_⟩⟩
          obtain ⟨v, hv, e⟩ := atI_ex (xs := [V.int (10 ^ (9 : Int).toNat), V.int (0 - 10 ^ (9 : Int).toNat), V.int 0, V.int 1]) (i := m1 / 4 % 4) (by omega) (by show m1 / 4 % 4 < ((4 : Nat) : Int); omega)
          have : ∃ n : Int, v = .int n ∧ -1000000000 ≤ n ∧ n ≤ 1000000000 := by
            simp only [List.mem_cons, List.not_mem_nil, or_false] at hv
            rw [e9] at hv
            rcases hv with rfl | rfl | rfl | rfl
            · exact ⟨_, rfl, by decide, by decide⟩
            · exact ⟨_, rfl, by decide, by decide⟩
            · exact ⟨_, rfl, by decide, by decide⟩
            · exact ⟨_, rfl, by decide, by decide⟩
          obtain ⟨n, rfl, n0, n1⟩ := this
          exact .inl ⟨p, _, _, _, rfl, rfl, SqL.of upd_same, e, Same.new hp, n, n0, n1, rfl⟩
        · show -1000000000 ≤ m1 / 4 % (2 * 10 ^ (9 : Int).toNat + 1) - 10 ^ (9 : Int).toNat
          rw [e9]; omega
        · show m1 / 4 % (2 * 10 ^ (9 : Int).toNat + 1) - 10 ^ (9 : Int).toNat ≤ 1000000000
          rw [e9]; omega
      rintro σ H3 ⟨s4, v, v0, v1, rfl⟩
      refine ⟨cl, c, _, rfl, by omega, by omega, ?_⟩
      generalize mixed c (5 + 3 * (0 + (i : Int))) = m2
      refine ⟨cd, cw, by show 3 ≤ sizeLine; omega, fun p hp => ⟨cp, ?_⟩⟩
      obtain ⟨z, hz, e⟩ := atI_ex (xs := [V.int (10 ^ (6 : Int).toNat), V.int 10, V.int 1]) (i := m2 % 3) (by omega) (by show m2 % 3 < ((3 : Nat) : Int); omega)
      have : ∃ n : Int, z = .int n ∧ 1 ≤ n ∧ n ≤ 1000000 := by
        simp only [List.mem_cons, List.not_mem_nil, or_false] at hz
        rw [e6] at hz
        rcases hz with rfl | rfl | rfl
        · exact ⟨_, rfl, by decide, by decide⟩
        · exact ⟨_, rfl, by decide, by decide⟩
        · exact ⟨_, rfl, by decide, by decide⟩
      obtain ⟨n, rfl, n0, n1⟩ := this
      refine .inl ⟨p, _, _, _, rfl, rfl, SqL.of upd_same, e, cp (by omega), ?_⟩
      have z0 : 0 ≤ m2 / 4 % n := Int.emod_nonneg _ (by omega)
      have z1 : m2 / 4 % n < n := Int.emod_lt_of_pos _ (by omega)
      obtain ⟨sz, hsz⟩ : ∃ x : Int, x = 1 + m2 / 4 % n := ⟨_, rfl⟩
      have s5 : Same H3 (upd H3 p (.lst [.int (10 ^ (6 : Int).toNat), .int 10, .int 1])) := Same.new hp
      generalize upd H3 p (.lst [.int (10 ^ (6 : Int).toNat), .int 10, .int 1]) = H4 at s5
      refine ⟨cl, c, _, rfl, by omega, by omega, ?_⟩
      generalize mixed c (6 + 3 * (0 + (i : Int))) = m3
      refine ⟨Nat.zero_le _, fun pa hpa => ?_⟩
      have s6 : Same H4 (upd H4 pa (.lst [])) := Same.new hpa
      have s26 := (s4.trans s5).trans s6
      refine ⟨deep, by rw [hdeep], by omega, by omega, for_range (fun j σ H5 => (j : Int) ≤ deep ∧ Same H4 H5 ∧ ∃ (ps : List Str) (t : Int) (x11 : Option V), σ = [some (.int c), some (.int many), some (.int deep), some (.ref nA), some (.ref r), some (.int (0 + (i : Int))), some (.int m1), some (.int v), some (.int sz), some (.int t), some (.ref pa), x11] ∧
        H5 pa = some (.lst (ps.map V.str)) ∧ ps.length = j ∧ ∀ n ∈ ps, nameB n = true) ⟨d0, s6, [], m3, x11, by rw [hsz]; rfl, upd_same, rfl, fun n hn => by cases hn⟩ ?_ ?_⟩
      · rintro j σ H5 hj ⟨_, s7, ps, t, x11, rfl, hpa5, hpl, hpn⟩
        have hj' : (j : Int) < deep := by omega
        refine ⟨.inl ⟨rfl, _, SqL.of hpa5⟩, by show 4 ≤ sizeLine; omega, fun p2 hp2 => ⟨cp, ?_⟩⟩
        obtain ⟨y, hy, e⟩ := atI_ex (xs := [V.str "a", V.str "abcdefgh", V.str "b", V.str "zz"]) (i := t % 4) (by omega) (by show t % 4 < ((4 : Nat) : Int); omega)
        have : ∃ n : Str, y = .str n ∧ nameB n = true := by
          simp only [List.mem_cons, List.not_mem_nil, or_false] at hy
          rcases hy with rfl | rfl | rfl | rfl
          · exact ⟨_, rfl, by decide +kernel⟩
          · exact ⟨_, rfl, by decide +kernel⟩
          · exact ⟨_, rfl, by decide +kernel⟩
          · exact ⟨_, rfl, by decide +kernel⟩
        obtain ⟨n, rfl, hn⟩ := this
        have s8 : Same H5 (upd H5 p2 (.lst [.str "a", .str "abcdefgh", .str "b", .str "zz"])) := Same.new hp2
        refine .inl ⟨p2, _, _, _, rfl, rfl, SqL.of upd_same, e, pa, _, _, rfl, rfl, s8 _ _ hpa5, by rw [List.length_map]; omega, cd, by omega, (s7.trans s8).put hpa, ps ++ [n], t / 4, _, rfl, ?_, by rw [List.length_append, hpl]; rfl, ?_⟩
        · rw [upd_same, List.map_append]; rfl
        · intro n' hn'
          rcases List.mem_append.mp hn' with z | z
          · exact hpn n' z
          · rw [List.mem_singleton.mp z]; exact hn
      · rintro σ H5 ⟨_, s7, ps, t, x11, rfl, hpa5, hpl, hpn⟩
        have hpl' : (ps.length : Int) = deep := by omega
        have s37 := (s4.trans s5).trans s7
        have hil : i < nm.length := by omega
        have hnm : (nm.map V.str)[i]? = some (.str nm[i]) := by rw [List.getElem?_map, List.getElem?_eq_getElem hil]; rfl
        refine ⟨.inl ⟨rfl, _, SqL.of (s37 _ _ hr2)⟩, .inl ⟨nA, _, _, _, rfl, rfl, SqL.of (s37 _ _ hnA2), atI_cons i (by omega) hnm, ?_⟩⟩
        refine ⟨pa, _, rfl, .inl ⟨SqL.of hpa5, fun tp htp => ⟨by show 4 ≤ sizeLine; omega, fun tt htt => ?_⟩⟩⟩
        have s9 : Same H5 (upd H5 tp (.tup (ps.map V.str))) := Same.new htp
        have s10 : Same (upd H5 tp (.tup (ps.map V.str))) (upd (upd H5 tp (.tup (ps.map V.str))) tt (.tup [.str nm[i], .int v, .int sz, .ref tp])) := Same.new htt
        have sall := (s37.trans s9).trans s10
        have hxl : xs.length = i := by rw [← hU.len, hus]
        refine ⟨r, xs, .ref tt, rfl, rfl, sall _ _ hr2, by omega, ?_⟩
        have tk : TK (upd (upd H5 tp (.tup (ps.map V.str))) tt (.tup [.str nm[i], .int v, .int sz, .ref tp])) _ := TK.lst (ys := xs ++ [.ref tt]) (sall _ _ hr2)
        have hne : nA ≠ r := fun z => by
          have h1 := s37 _ _ hnA2
          have h2 := s37 _ _ hr2
          rw [z] at hnA
          rw [hnA] at hr0
          cases hr0
        refine ⟨by omega, (s3.trans sall).put hrH, by rw [upd_ne hne]; exact sall _ _ hnA2, us ++ [⟨nm[i], v, sz, ps⟩], xs ++ [.ref tt], _, _, _, _, _, _, _, rfl, upd_same, AllU.snoc ?_ (hU.tk (sall.tk.trans tk)), ?_, ?_⟩
        · exact ⟨tt, tp, rfl, tk _ _ upd_same, tk _ _ (s10 _ _ upd_same)⟩
        · rw [List.map_append, hnames, List.take_add_one, List.getElem?_eq_getElem hil]; rfl
        · intro u hu
          rcases List.mem_append.mp hu with z | z
          · exact hgood u z
          · rw [List.mem_singleton.mp z]
            exact ⟨⟨hng _ (List.getElem_mem hil), v0, v1, by show 1 ≤ sz; omega, by show sz ≤ 1000000; omega, by show ps.length ≤ 3; omega, hpn⟩, hpl'⟩
    · rintro σ H' ⟨_, s3, hnA2, us, xs, x5, x6, x7, x8, x9, x10, x11, rfl, hr2, hU, hnames, hgood⟩
      have hl1 : us.length = nm.length := by
        have := congrArg List.length hnames
        rw [List.length_map, List.length_take] at this
        omega
      refine q _ r us xs s3 hrH hr2 hU ⟨by omega, by omega, fun u hu => (hgood u hu).1, ?_, fun u hu v hv => ?_⟩
      · rw [hnames]
        exact hnd.sublist (List.take_sublist _ _)
      · have h1 := (hgood u hu).2
        have h2 := (hgood v hv).2
        omega
theorem ok_line (T : Txt K mg a) : FnOk P w K mg base CX0 1 a.f_L_line a.d_L_line ["_law_unit"] spLine := by
  refine T.F_L_line.ok sc_L_line (fun vs H Q E h => ?_) (fun cdv A outer s H vs Q E hr h => ?_)
  · obtain ⟨u, x, rfl, _⟩ := h; rfl
  · obtain ⟨u, x, rfl, ⟨ad, p, rfl, ha, hp⟩, hg, q⟩ := h
    have small : sizeLine = 16777216 := sizeLine_eq
    have v0 := hg.v0
    have v1 := hg.v1
    have z0 := hg.s0
    have z1 := hg.s1
    refine ⟨_, (pss_cons (ps_set (i := 1) sc_L_line.nd rfl (Or.inl rfl) pe_str) (pss_consM (ps_if (t_cmp (o_neD hr.units) (pe_ix ix_seq (vr 0) pe_int (fun _ _ => rfl)) (pe_tup pa_nil) (nomark _)) (pss_one (ps_set (i := 1) sc_L_line.nd rfl (Or.inl rfl) (pe_m.join pe_str (pa_cons (pe_ix ix_seq (vr 0) pe_int (fun _ _ => rfl)) pa_nil)))) pss_nil) (pss_one (ps_ret (pe_m.join pe_str (pa_cons (pe_lst (pa_cons (pe_ix ix_seq (vr 0) pe_int (fun _ _ => rfl)) (pa_cons (pe_callTy call_strI rfl T.z_str bt_str (pa_cons (pe_ix ix_seq (vr 0) pe_int (fun _ _ => rfl)) pa_nil)) (pa_cons (pe_callTy call_strI rfl T.z_str bt_str (pa_cons (pe_ix ix_seq (vr 0) pe_int (fun _ _ => rfl)) pa_nil)) (pa_cons (vr 1) pa_nil))))) pa_nil)))))), ?_⟩
    refine ⟨fun σ H1 => Same H H1 ∧ σ = [some (.ref ad), some (.str (pathS u.path))], .inr (.inl ⟨ad, _, _, _, rfl, rfl, SqT.of ha, atI_cons 3 rfl rfl, Nat.zero_le _, fun e he => ?_⟩), ?_⟩
    · have s1 : Same H (upd H e (.tup [])) := Same.new he
      obtain ⟨k1, k2⟩ := lay_strs u.path fun t ht => name_ascii (hg.pn t ht)
      refine ⟨.tuple (u.path.map PyData.str), .tuple [], ?_, ?_, ?_, by decide +kernel, ?_⟩
      · rw [DV]; exact ⟨p, _, rfl, SqT.of (s1 _ _ hp), dvs_str _⟩
      · rw [DV]; exact ⟨e, [], rfl, SqT.of upd_same, by simp [DVs]⟩
      · unfold SeqAt.shaped
        rw [PyData.canLay0, k1, Bool.true_and]
        refine decide_eq_true ?_
        simp only [PyData.depth]
        omega
      · cases hps : u.path with
        | nil => exact ⟨s1, rfl⟩
        | cons n r =>
          rw [hps] at hp
          have e2 : PyData.eqv (.tuple ((n :: r).map PyData.str)) (.tuple []) = false := by simp [PyData.eqv, PyData.eqvAll]
          rw [e2]
          refine ⟨rfl, .inr (.inl ⟨ad, _, _, _, rfl, rfl, SqT.of (s1 _ _ ha), atI_cons 3 rfl rfl, ".", p, n :: r, rfl, rfl, .inr (SqT.of (s1 _ _ hp)), join_room ⟨by rw [← hps]; exact hg.pl, by rw [← hps]; exact hg.pn⟩, s1, rfl⟩)⟩
    · rintro σ H1 ⟨s1, rfl⟩
      have ha1 := s1 _ _ ha
      refine ⟨rfl, .inr (.inl ⟨ad, _, _, _, rfl, rfl, SqT.of ha1, atI_cons 0 rfl rfl, .inr (.inl ⟨ad, _, _, _, rfl, rfl, SqT.of ha1, atI_cons 1 rfl rfl, small_log (by omega), .inr (.inl ⟨ad, _, _, _, rfl, rfl, SqT.of ha1, atI_cons 2 rfl rfl, small_log (by omega), by show 4 ≤ sizeLine; omega, fun l hl => ?_⟩)⟩)⟩)⟩
      refine ⟨" ", l, lineW u, rfl, rfl, .inl (SqL.of upd_same), ?_, q _ (s1.trans (Same.new hl))⟩
      have hw := lineW_codes hg
      have b0 : u.name.length ≤ 27 := (hw u.name (by simp [lineW])).1
      have b1 : ((toString u.value : String) : Str).length ≤ 27 := (hw (toString u.value) (by simp [lineW])).1
      have b2 : ((toString u.size : String) : Str).length ≤ 27 := (hw (toString u.size) (by simp [lineW])).1
      have b3 : (pathS u.path).length ≤ 27 := (hw (pathS u.path) (by simp [lineW])).1
      have b4 : (" " : Str).length = 1 := by decide +kernel
      rw [b4]
      simp only [lineW, List.map_cons, List.map_nil, List.sum_cons, List.sum_nil, List.length_cons, List.length_nil]
      omega
end
theorem pathO_good {ps : List Str} (h : ps.length ≤ 3) (hn : ∀ n ∈ ps, nameB n = true) : pathO (pathS ps) = some ps := by
  unfold pathO
  cases ps with
  | nil => rw [if_pos ((path_dash hn).mpr rfl)]
  | cons p r =>
    rw [if_neg fun z => by cases (path_dash hn).mp z]
    have e : splS 46 (pathS (p :: r)) = p :: r := (splS_eq (path_split hn).symm).symm
    rw [e, if_pos ⟨h, List.all_eq_true.mpr hn⟩]
theorem words_good {u : U} (g : GoodU u) : splS 32 (lineS u) = lineW u := line_split g (by
  unfold splS
  rw [List.map_map]
  exact (List.map_congr_left fun l _ => by simp).trans (List.map_id _))
theorem unit_good {u : U} (g : GoodU u) : unitW (lineW u) = u := by
  have v0 := g.v0
  have v1 := g.v1
  have z0 := g.s0
  have z1 := g.s1
  have e1 : numW (-1000000000) 1000000000 (toString u.value : String) = some u.value := by
    unfold numW
    rw [toStr_codes, num_codes (by omega), within_some, if_pos ⟨v0, v1⟩]
  have e2 : numW 1 1000000 (toString u.size : String) = some u.size := by
    unfold numW
    rw [toStr_codes, num_codes (by omega), within_some, if_pos ⟨z0, z1⟩]
  have e3 := pathO_good g.pl g.pn
  show U.mk u.name ((numW (-1000000000) 1000000000 (toString u.value : String)).getD 0) ((numW 1 1000000 (toString u.size : String)).getD 0) ((pathO (pathS u.path)).getD []) = u
  rw [e1, e2, e3]
  rfl
theorem plen_good {u : U} : ∀ {us : List U}, (∀ v ∈ us, u.path.length = v.path.length) → plenB u.path us = true := by
  intro us h
  cases us with
  | nil => rfl
  | cons v r => exact decide_eq_true (h v (List.mem_cons_self ..))
theorem wrongW_good {us : List U} {u : U} (g : GoodU u) (hn : u.name ∉ us.map U.name) (hp : ∀ v ∈ us, u.path.length = v.path.length) : wrongW us (lineW u) = none := by
  have v0 := g.v0
  have v1 := g.v1
  have z0 := g.s0
  have z1 := g.s1
  have e1 : okW us 1 (toString u.value : String) = true := by
    show (numW _ _ _).isSome = true
    unfold numW
    rw [toStr_codes, num_codes (by omega), within_some, if_pos ⟨v0, v1⟩]
    rfl
  have e2 : okW us 2 (toString u.size : String) = true := by
    show (numW _ _ _).isSome = true
    unfold numW
    rw [toStr_codes, num_codes (by omega), within_some, if_pos ⟨z0, z1⟩]
    rfl
  have e3 : okW us 3 (pathS u.path) = true := by
    show (match pathO (pathS u.path) with | some ps => plenB ps us | none => false) = true
    rw [pathO_good g.pl g.pn]
    exact plen_good hp
  have e0 : okW us 0 u.name = true := by
    show (nameB u.name && !decide (u.name ∈ us.map U.name)) = true
    rw [g.nm, decide_eq_false hn]
    rfl
  have : firstBad us 0 (lineW u) = none := by
    unfold lineW firstBad
    rw [if_pos e0]
    unfold firstBad
    rw [if_pos e1]
    unfold firstBad
    rw [if_pos e2]
    unfold firstBad
    rw [if_pos e3]
    rfl
  unfold wrongW
  rw [show (lineW u).take 4 = lineW u from rfl, this]
  rfl
theorem wrongL_good : ∀ (vs us : List U), (∀ u ∈ us ++ vs, GoodU u) → ((us ++ vs).map U.name).Nodup → (∀ u ∈ us ++ vs, ∀ v ∈ us ++ vs, u.path.length = v.path.length) → wrongL us (vs.map fun u => some (lineS u)) = none
  | [], us, _, _, _ => rfl
  | u :: r, us, hg, hd, hp => by
    have mu : u ∈ us ++ u :: r := List.mem_append_right _ (List.mem_cons_self ..)
    have gu := hg u mu
    have hn : u.name ∉ us.map U.name := fun z => by
      rw [List.map_append, List.map_cons] at hd
      exact (List.nodup_append.mp hd).2.2 _ z _ (List.mem_cons_self ..) rfl
    rw [List.map_cons]
    unfold wrongL
    rw [show wordsO (some (lineS u)) = lineW u from words_good gu, wrongW_good gu hn fun v hv => hp u mu v (List.mem_append_left _ hv), unit_good gu]
    have e : us ++ u :: r = (us ++ [u]) ++ r := by rw [List.append_assoc]; rfl
    rw [e] at hg hd hp
    exact wrongL_good r (us ++ [u]) hg hd hp
end My

set_option Elab.async false
set_option linter.all false
set_option maxRecDepth 100000
set_option maxHeartbeats 4000000
namespace My
open PySem L2
/-- a line as the law hands it in: a text of plain signs, or another thing -/
def OL (K : PySem.W.Frag) (H : Hp) (x : V) (o : Option Str) (d : PyData) : Prop := Ln H x o ∧ (∀ t, o = some t → Asc t) ∧ DV K H d x ∧ PyData.canLay0 d = true ∧ PyData.depth d ≤ 2
/-- it hangs on one object alone, which isn't r -/
def OX (K : PySem.W.Frag) (r : Addr) (H : Hp) (x : V) : Prop := ∃ o d q ob, q ≠ r ∧ H q = some ob ∧ ∀ G : Hp, G q = some ob → OL K G x o d
theorem OX.same {K : PySem.W.Frag} {r : Addr} {H H' : Hp} {x : V} (s : Same H H') (h : OX K r H x) : OX K r H' x := by
  obtain ⟨o, d, q, ob, n, e, f⟩ := h
  exact ⟨o, d, q, ob, n, s _ _ e, f⟩
theorem OX.put {K : PySem.W.Frag} {r : Addr} {H : Hp} {x : V} {o' : HO} (h : OX K r H x) : OX K r (upd H r o') x := by
  obtain ⟨o, d, q, ob, n, e, f⟩ := h
  exact ⟨o, d, q, ob, n, by rw [upd_ne n]; exact e, f⟩
theorem OX.all {K : PySem.W.Frag} {r : Addr} {H : Hp} : ∀ {xs : List V}, (∀ x ∈ xs, OX K r H x) → ∃ os ds, AllN H os xs ∧ (∀ t, some t ∈ os → Asc t) ∧ DVs K H ds xs ∧ PyData.canLayAll0 ds = true ∧ PyData.depthAll ds ≤ 2
  | [], _ => ⟨[], [], .nil, (fun t h => by cases h), by simp [DVs], by simp [PyData.canLayAll0], by simp [PyData.depthAll]⟩
  | x :: xs, h => by
    obtain ⟨os, ds, h1, h2, h3, h4, h5⟩ := OX.all (xs := xs) fun y hy => h y (List.mem_cons_of_mem _ hy)
    obtain ⟨o, d, q, ob, n, e, f⟩ := h x (List.mem_cons_self ..)
    obtain ⟨k1, k2, k3, k4, k5⟩ := f H e
    refine ⟨o :: os, d :: ds, .cons k1 h1, fun t ht => ?_, ?_, ?_, ?_⟩
    · rcases List.mem_cons.mp ht with z | z
      · exact k2 t z.symm
      · exact h2 t z
    · rw [DVs]; exact ⟨x, xs, rfl, k3, h3⟩
    · rw [PyData.canLayAll0, k4, h4]; rfl
    · simp only [PyData.depthAll]; omega
theorem OL.ofStr {K : PySem.W.Frag} {t : Str} (h1 : t.cps.size ≤ 639) (h2 : Asc t) (G : Hp) : OL K G (.str t) (some t) (.str t) := by
  obtain ⟨k1, k2⟩ := lay_strs [t] fun x hx => by rw [List.mem_singleton.mp hx]; exact h2
  simp only [List.map_cons, List.map_nil, PyData.canLayAll0, Bool.and_true] at k1
  exact ⟨.str t h1, fun x hx => by cases hx; exact h2, by simp [DV], k1, by simp [PyData.depth]⟩
def spOddL (K : PySem.W.Frag) : Sp := fun vs H Q _ => ∃ (l : Addr) (us : List U) (k : Nat) (c : Int), vs = [.ref l, .int (k : Nat), .int c] ∧ H l = some (.lst (us.map fun u => V.str (lineS u))) ∧ GoodL us ∧ k < us.length ∧
  ∀ H' x o d q ob, Same H H' → (q = l ∨ H q = none) → H' q = some ob → (∀ G : Hp, G q = some ob → OL K G x o d) → Q x H'
theorem sw_good {u : U} (g : GoodU u) : ∀ t ∈ lineW u, Sw t := fun t ht => by
  obtain ⟨h1, h2⟩ := lineW_codes g t ht
  refine ⟨fun n hn => ?_, by omega⟩
  rcases h2 n hn with z | z | z | z <;> omega
theorem sw_join {ws : List Str} (h : ∀ t ∈ ws, Sw t) (hl : ws.length ≤ 11) : (Txt.join " " ws).cps.size ≤ 639 ∧ Asc (Txt.join " " ws) ∧ (ws.map (·.length)).sum + ws.length * (" " : Str).length ≤ 16777216 := by
  have e : (Txt.join " " ws).cps.toList = SplM.joinC 32 (ws.map fun t => t.cps.toList) := by rw [blank_code]; exact join_codes 32 ws
  have hs : (Txt.join " " ws).cps.size = (SplM.joinC 32 (ws.map fun t => t.cps.toList)).length := by rw [← e]; simp
  have h1 := len_joinC 32 40 (ws.map fun t => t.cps.toList) fun p hp => by
    obtain ⟨t, ht, rfl⟩ := List.mem_map.mp hp
    simpa using (h t ht).2
  rw [List.length_map] at h1
  refine ⟨by omega, fun n hn => ?_, ?_⟩
  · rw [e] at hn
    rcases mem_joinC _ _ _ hn with z | ⟨p, hp, z⟩
    · omega
    · obtain ⟨t, ht, rfl⟩ := List.mem_map.mp hp
      exact (h t ht).1 n z
  · have b4 : (" " : Str).length = 1 := by decide +kernel
    have : (ws.map (·.length)).sum ≤ ws.length * 40 := by
      clear h1 hs e hl
      induction ws with
      | nil => simp
      | cons t r ih =>
        have i1 := ih fun x hx => h x (List.mem_cons_of_mem _ hx)
        have i2 : t.length ≤ 40 := (h t (List.mem_cons_self ..)).2
        rw [List.map_cons, List.sum_cons, List.length_cons]
        omega
    rw [b4]
    omega
section
variable {P : Program} {w : World} {K : PySem.W.Frag} {mg : Str → Option Value} {base : Heap} {a : Ad}
theorem ok_oddl (T : Txt K mg a) : FnOk P w K mg base CX0 2 a.f_L_odd_line a.d_L_odd_line ["_law_lines", "_law_at", "_law_cell_here"] (spOddL K) := by
  have G_L_mixed : FnOk P w K mg base CX0 1 _ _ _ spMixed := ok_mixed T
  have G_L_odd_word : FnOk P w K mg base CX0 1 _ _ _ spOdd := ok_odd T
  refine T.F_L_odd_line.ok sc_L_odd_line (fun vs H Q E h => ?_) (fun cdv A outer s H vs Q E hr h => ?_)
  · obtain ⟨l, us, k, c, rfl, _⟩ := h; rfl
  · obtain ⟨l, us, k, c, rfl, hl, hg, hk, q⟩ := h
    have small : sizeLine = 16777216 := sizeLine_eq
    obtain ⟨u, hu⟩ : ∃ u, us[k]? = some u := ⟨_, List.getElem?_eq_getElem hk⟩
    have gu := hg.each u (List.mem_of_getElem? hu)
    have hat : (us.map fun u => V.str (lineS u))[k]? = some (.str (lineS u)) := by rw [List.getElem?_map, hu]; rfl
    have hsz := (lineS_size gu).1
    have l1 := hg.l1
    have l2 := hg.l2
    have sw := sw_good gu
    refine ⟨_, (pss_cons (ps_set (i := 3) sc_L_odd_line.nd rfl (Or.inl rfl) (pe_call G_L_mixed hr rfl T.m_L_mixed T.F_L_mixed.kp T.B_L_mixed .nil pass0 (pa_cons (vr 2) (pa_cons pe_int pa_nil)))) (pss_cons (ps_set (i := 4) sc_L_odd_line.nd rfl (Or.inl rfl) (pe_op o_mod (vr 3) pe_int)) (pss_cons (ps_set (i := 5) sc_L_odd_line.nd rfl (Or.inl rfl) (pe_op o_fdiv (vr 3) pe_int)) (pss_cons (ps_set (i := 6) sc_L_odd_line.nd rfl (Or.inl rfl) (pe_m.split (pe_ix ix_seq (vr 0) (vr 1) (fun _ _ => rfl)) (pa_cons pe_str pa_nil))) (pss_consM (ps_if (t_cmp o_lt (vr 4) pe_int (nomark _)) (pss_one (ps_set (i := 6) sc_L_odd_line.nd rfl (Or.inl rfl) (pe_call G_L_odd_word hr rfl T.m_L_odd_word T.F_L_odd_word.kp T.B_L_odd_word .nil pass0 (pa_cons (vr 6) (pa_cons (pe_op o_mod (vr 5) pe_int) (pa_cons (pe_op o_fdiv (vr 5) pe_int) pa_nil)))))) (pss_one (ps_if (t_cmp o_eq (vr 4) pe_int (nomark _)) (pss_one (ps_set (i := 6) sc_L_odd_line.nd rfl (Or.inl rfl) (pe_slice sl_any (vr 6) po_none (po_some (pe_op o_mod (vr 5) pe_int))))) (pss_one (ps_if (t_cmp o_eq (vr 4) pe_int (nomark _)) (pss_one (ps_set (i := 6) sc_L_odd_line.nd rfl (Or.inl rfl) (pe_op op_cat (pe_op op_cat (pe_slice sl_any (vr 6) po_none (po_some (pe_op o_mod (vr 5) pe_int))) (pe_lst (pa_cons (pe_ix ix_seq (pe_lst (pa_consQ pe_str (pa_consQ pe_str (pa_consQ pe_str (pa_consQ pe_str (pa_consQ pe_str pa_nil)))))) (pe_op o_mod (pe_op o_fdiv (vr 5) pe_int) pe_int) (fun _ _ => rfl)) pa_nil))) (pe_slice sl_any (vr 6) (po_some (pe_op o_mod (vr 5) pe_int)) po_none)))) (pss_one (ps_if (t_cmp o_eq (vr 4) pe_int (nomark _)) (pss_one (ps_set (i := 6) sc_L_odd_line.nd rfl (Or.inl rfl) (pe_op op_cat (pe_lst (pa_cons (pe_ix ix_seq (pe_m.split (pe_ix ix_seq (vr 0) (pe_op o_mod (vr 5) (pe_callB call_lenM rfl T.z_len bt_len (pa_cons (vr 0) pa_nil))) (fun _ _ => rfl)) (pa_cons pe_str pa_nil)) pe_int (fun _ _ => rfl)) pa_nil)) (pe_slice sl_any (vr 6) (po_some pe_int) po_none)))) (pss_one (ps_set (i := 6) sc_L_odd_line.nd rfl (Or.inl rfl) (pe_op op_cat (pe_slice sl_any (vr 6) po_none (po_some pe_int)) (pe_lst (pa_cons (pe_ix ix_seq (pe_lst (pa_cons (pe_op o_add (pe_ix ix_seq (vr 6) pe_int (fun _ _ => rfl)) pe_str) (pa_cons pe_str (pa_cons pe_str (pa_cons pe_str pa_nil))))) (pe_op o_mod (vr 5) pe_int) (fun _ _ => rfl)) pa_nil)))))))))))) (pss_cons (ps_if (t_cmp o_eq (pe_op o_mod (pe_op o_fdiv (vr 3) pe_int) pe_int) pe_int (nomark _)) (pss_one (ps_ret (pe_ix ix_seq (pe_lst (pa_consQ pe_non (pa_consQ pe_int (pa_consQ (pe_lst (pa_cons (pe_ix ix_seq (vr 0) (vr 1) (fun _ _ => rfl)) pa_nil)) (pa_consQ (pe_tup (pa_cons (pe_ix ix_seq (vr 0) (vr 1) (fun _ _ => rfl)) pa_nil)) (pa_consQ pe_bl pa_nil)))))) (pe_op o_mod (vr 5) pe_int) (fun _ _ => rfl)))) pss_nil) (pss_one (ps_ret (pe_m.join pe_str (pa_cons (vr 6) pa_nil)))))))))), ?_⟩
    refine ⟨c, 3, rfl, by decide, by decide, cp, cd, ?_⟩
    generalize mixed c 3 = num
    refine .inl ⟨l, _, _, _, rfl, rfl, SqL.of hl, atI_cons k rfl hat, rfl, _, 32, rfl, by rw [blank_code], by omega, fun wl ts hwl e => ?_⟩
    rw [line_split gu e]
    have s0 : Same H (upd H wl (.lst ((lineW u).map V.str))) := Same.new hwl
    have hw0 : (upd H wl (.lst ((lineW u).map V.str))) wl = some (.lst ((lineW u).map V.str)) := upd_same
    generalize upd H wl (.lst ((lineW u).map V.str)) = H0 at s0 hw0
    have hl0 := s0 _ _ hl
    have l4 : (lineW u).length = 4 := rfl
    refine ⟨fun σ H1 => ∃ (p : Addr) (ws : List Str), Same H H1 ∧ H1 p = some (.lst (ws.map V.str)) ∧ ws.length ≤ 11 ∧ (∀ t ∈ ws, Sw t) ∧ σ = [some (.ref l), some (.int (k : Nat)), some (.int c), some (.int num), some (.int (num % 8)), some (.int (num / 8)), some (.ref p)], ?_, ?_⟩
    · refine ifC (fun _ => ?_) fun _ => ?_
      · obtain ⟨kk, hkk, hk4⟩ : ∃ kk : Nat, num / 8 % 4 = (kk : Int) ∧ kk < 4 := ⟨(num / 8 % 4).toNat, by omega, by omega⟩
        refine ⟨cp, cd, wl, lineW u, kk, num / 8 / 4, (by show [V.ref wl, V.int (num / 8 % 4), V.int (num / 8 / 4)] = _; rw [hkk]), hw0, (by rw [l4]; decide), (by rw [l4]; decide), hk4, sw, fun H' p ws' s1 hp hl' hs' => ?_⟩
        exact ⟨p, ws', s0.trans s1, hp, hl', hs', rfl⟩
      refine ifC (fun _ => ?_) fun _ => ?_
      · obtain ⟨kk, hkk, hk4⟩ : ∃ kk : Nat, num / 8 % 4 = (kk : Int) ∧ kk < 4 := ⟨(num / 8 % 4).toNat, by omega, by omega⟩
        refine ⟨cp, _, rfl, .inl ⟨_, SqL.of hw0, fun p hp => ⟨p, (lineW u).take kk, s0.trans (Same.new hp), ?_, ?_, fun t ht => sw t (List.mem_of_mem_take ht), rfl⟩⟩⟩
        · rw [upd_same, hkk, cut_take, List.map_take]
        · rw [List.length_take]; omega
      refine ifC (fun _ => ?_) fun _ => ?_
      · obtain ⟨kk, hkk, hk4⟩ : ∃ kk : Nat, num / 8 % 5 = (kk : Int) ∧ kk < 5 := ⟨(num / 8 % 5).toNat, by omega, by omega⟩
        refine ⟨cp, _, rfl, .inl ⟨_, SqL.of hw0, fun q1 f1 => ?_⟩⟩
        have s1 := Same.new (o := .lst (cutV ((lineW u).map V.str) none (some (num / 8 % 5)))) f1
        refine ⟨(by show 5 ≤ sizeLine; omega), fun q2 f2 => ⟨cd, cp, ?_⟩⟩
        have s2 := Same.new (o := .lst [V.str "", V.str "", V.str "a", V.str "-", V.str "7"]) f2
        obtain ⟨v, hv, ev⟩ := atI_ex (xs := [V.str "", V.str "", V.str "a", V.str "-", V.str "7"]) (i := num / 8 / 5 % 5) (by omega) (by show _ < ((5 : Nat) : Int); omega)
        have hvs : ∃ t : Str, v = .str t ∧ Sw t := by
          simp only [List.mem_cons, List.not_mem_nil, or_false] at hv
          rcases hv with rfl | rfl | rfl | rfl | rfl <;> exact ⟨_, rfl, swB_of (by decide +kernel)⟩
        obtain ⟨t, rfl, hst⟩ := hvs
        refine .inl ⟨q2, _, _, _, rfl, rfl, SqL.of upd_same, ev, (by show 1 ≤ sizeLine; omega), fun q3 f3 => ?_⟩
        have s3 := Same.new (o := .lst [V.str t]) f3
        have z1 := cutV_length ((lineW u).map V.str) none (some (num / 8 % 5))
        have z2 := cutV_length ((lineW u).map V.str) (some (num / 8 % 5)) none
        rw [List.length_map, l4] at z1 z2
        refine ⟨q1, q3, _, _, rfl, rfl, (s2.trans s3) _ _ upd_same, upd_same, (by show _ + 1 ≤ sizeLine; omega), fun q4 f4 => ?_⟩
        have s4 := Same.new (o := .lst (cutV ((lineW u).map V.str) none (some (num / 8 % 5)) ++ [V.str t])) f4
        have sA := s1.trans (s2.trans (s3.trans s4))
        refine ⟨cp, _, rfl, .inl ⟨_, SqL.of (sA _ _ hw0), fun q5 f5 => ?_⟩⟩
        have s5 := Same.new (o := .lst (cutV ((lineW u).map V.str) (some (num / 8 % 5)) none)) f5
        refine ⟨q4, q5, _, _, rfl, rfl, s5 _ _ upd_same, upd_same, (by rw [List.length_append]; show _ + 1 + _ ≤ sizeLine; omega), fun q6 f6 => ?_⟩
        refine ⟨q6, (lineW u).take kk ++ [t] ++ (lineW u).drop kk, (s0.trans (sA.trans s5)).trans (Same.new f6), ?_, ?_, fun x hx => ?_, rfl⟩
        · rw [upd_same, hkk, cut_take, cutV_drop, List.map_append, List.map_append, List.map_take, List.map_drop]; rfl
        · simp only [List.length_append, List.length_take, List.length_drop, List.length_singleton]; omega
        · rcases List.mem_append.mp hx with z | z
          · rcases List.mem_append.mp z with z | z
            · exact sw x (List.mem_of_mem_take z)
            · rw [List.mem_singleton.mp z]; exact hst
          · exact sw x (List.mem_of_mem_drop z)
      refine ifC (fun _ => ?_) fun _ => ?_
      · refine ⟨_, .inl (SqL.of hl0), ?_⟩
        rw [List.length_map]
        obtain ⟨m, hm, hmk⟩ : ∃ m : Nat, m < us.length ∧ (m : Int) = num / 8 % (us.length : Int) := by
          have b0 := Int.emod_nonneg (num / 8) (show (us.length : Int) ≠ 0 by omega)
          have b1 := Int.emod_lt_of_pos (num / 8) (show (0 : Int) < us.length by omega)
          exact ⟨(num / 8 % (us.length : Int)).toNat, by omega, by omega⟩
        obtain ⟨u2, hu2⟩ : ∃ u, us[m]? = some u := ⟨_, List.getElem?_eq_getElem hm⟩
        have gu2 := hg.each u2 (List.mem_of_getElem? hu2)
        have hat2 : (us.map fun u => V.str (lineS u))[m]? = some (.str (lineS u2)) := by rw [List.getElem?_map, hu2]; rfl
        have hsz2 := (lineS_size gu2).1
        refine ⟨cp (by omega), .inl ⟨l, _, _, _, rfl, rfl, SqL.of hl0, atI_cons m hmk hat2, rfl, _, 32, rfl, by rw [blank_code], by omega, fun w2 ts2 hw2 e2 => ?_⟩⟩
        rw [line_split gu2 e2]
        have s1 := Same.new (o := .lst ((lineW u2).map V.str)) hw2
        refine .inl ⟨w2, _, _, _, rfl, rfl, SqL.of upd_same, atI_cons 0 rfl rfl, (by show 1 ≤ sizeLine; omega), fun q1 f1 => ?_⟩
        have s2 := Same.new (o := .lst [V.str u2.name]) f1
        refine ⟨_, rfl, .inl ⟨_, SqL.of ((s1.trans s2) _ _ hw0), fun q2 f2 => ?_⟩⟩
        have s3 := Same.new (o := .lst (cutV ((lineW u).map V.str) (some 1) none)) f2
        refine ⟨q1, q2, _, _, rfl, rfl, s3 _ _ upd_same, upd_same, (by show 1 + 3 ≤ sizeLine; omega), fun q3 f3 => ?_⟩
        refine ⟨q3, u2.name :: (lineW u).drop 1, (s0.trans (s1.trans (s2.trans s3))).trans (Same.new f3), ?_, ?_, fun x hx => ?_, rfl⟩
        · rw [upd_same]; rfl
        · show 4 ≤ 11; omega
        · rcases List.mem_cons.mp hx with z | z
          · rw [z]; exact sw_good gu2 _ (by simp [lineW])
          · exact sw x (List.mem_of_mem_drop z)
      · refine ⟨_, rfl, .inl ⟨_, SqL.of hw0, fun q1 f1 => ?_⟩⟩
        have s1 := Same.new (o := .lst (cutV ((lineW u).map V.str) none (some 3))) f1
        have hp := lineW_codes gu (pathS u.path) (by simp [lineW])
        refine .inl ⟨wl, _, _, _, rfl, rfl, SqL.of (s1 _ _ hw0), atI_cons 3 rfl rfl, ?_, (by show 4 ≤ sizeLine; omega), fun q2 f2 => ?_⟩
        · have : (".a" : Str).length = 2 := by decide +kernel
          have : (pathS u.path).length = (pathS u.path).cps.size := rfl
          omega
        have hpa : Sw (pathS u.path ++ ".a") := by
          have e1 : (pathS u.path ++ (".a" : Str)).cps.toList = (pathS u.path).cps.toList ++ (".a" : Str).cps.toList := app_codes _ _
          have e2 : (pathS u.path ++ (".a" : Str)).cps.size = (pathS u.path).cps.size + (".a" : Str).cps.size := app_size _ _
          have e3 : (".a" : Str).cps.size = 2 := by decide +kernel
          have sd : Sw (".a" : Str) := swB_of (by decide +kernel)
          refine ⟨fun n hn => ?_, by omega⟩
          rw [e1] at hn
          rcases List.mem_append.mp hn with z | z
          · exact (sw _ (by simp [lineW])).1 n z
          · exact sd.1 n z
        have s2 := Same.new (o := .lst [V.str (pathS u.path ++ ".a"), V.str "a", V.str "-", V.str "a.b"]) f2
        obtain ⟨v, hv, ev⟩ := atI_ex (xs := [V.str (pathS u.path ++ ".a"), V.str "a", V.str "-", V.str "a.b"]) (i := num / 8 % 4) (by omega) (by show _ < ((4 : Nat) : Int); omega)
        have hvs : ∃ t : Str, v = .str t ∧ Sw t := by
          simp only [List.mem_cons, List.not_mem_nil, or_false] at hv
          rcases hv with rfl | rfl | rfl | rfl
          · exact ⟨_, rfl, hpa⟩
          all_goals exact ⟨_, rfl, swB_of (by decide +kernel)⟩
        obtain ⟨t, rfl, hst⟩ := hvs
        refine ⟨cp, .inl ⟨q2, _, _, _, rfl, rfl, SqL.of upd_same, ev, (by show 1 ≤ sizeLine; omega), fun q3 f3 => ?_⟩⟩
        have s3 := Same.new (o := .lst [V.str t]) f3
        refine ⟨q1, q3, _, _, rfl, rfl, (s2.trans s3) _ _ upd_same, upd_same, (by show 3 + 1 ≤ sizeLine; omega), fun q4 f4 => ?_⟩
        refine ⟨q4, (lineW u).take 3 ++ [t], (s0.trans (s1.trans (s2.trans s3))).trans (Same.new f4), ?_, ?_, fun x hx => ?_, rfl⟩
        · rw [upd_same]; rfl
        · show 4 ≤ 11; omega
        · rcases List.mem_append.mp hx with z | z
          · exact sw x (List.mem_of_mem_take z)
          · rw [List.mem_singleton.mp z]; exact hst
    · rintro σ H1 ⟨p, ws, s1, hp, hwl', hws, rfl⟩
      have hl1 := s1 _ _ hl
      refine ⟨cd, cp, ifC (fun _ => ?_) fun _ => ?_⟩
      · refine .inl ⟨l, _, _, _, rfl, rfl, SqL.of hl1, atI_cons k rfl hat, (by show 1 ≤ sizeLine; omega), fun q1 f1 => ?_⟩
        have s2 := Same.new (o := .lst [V.str (lineS u)]) f1
        refine .inl ⟨l, _, _, _, rfl, rfl, SqL.of (s2 _ _ hl1), atI_cons k rfl hat, (by show 1 ≤ sizeLine; omega), fun q2 f2 => ?_⟩
        have s3 := Same.new (o := .tup [V.str (lineS u)]) f2
        refine ⟨(by show 5 ≤ sizeLine; omega), fun q3 f3 => ⟨cp, ?_⟩⟩
        have s4 := Same.new (o := .lst [V.non, V.int 7, V.ref q1, V.ref q2, V.bl true]) f3
        obtain ⟨v, hv, ev⟩ := atI_ex (xs := [V.non, V.int 7, V.ref q1, V.ref q2, V.bl true]) (i := num / 8 % 5) (by omega) (by show _ < ((5 : Nat) : Int); omega)
        refine .inl ⟨q3, _, _, _, rfl, rfl, SqL.of upd_same, ev, ?_⟩
        have sA := s1.trans (s2.trans (s3.trans s4))
        have oka : OL K (fun _ => none) (.str (lineS u)) (some (lineS u)) (.str (lineS u)) := OL.ofStr (by omega) (lineS_size gu).2 _
        simp only [List.mem_cons, List.not_mem_nil, or_false] at hv
        rcases hv with rfl | rfl | rfl | rfl | rfl
        · exact q _ _ none .none l _ sA (.inl rfl) (sA _ _ hl) fun G _ => ⟨.other _ _ .non (fun t z => by cases z), (fun t z => by cases z), by simp [DV], by decide +kernel, by decide +kernel⟩
        · exact q _ _ none (.int 7) l _ sA (.inl rfl) (sA _ _ hl) fun G _ => ⟨.other _ _ (.int 7) (fun t z => by cases z), (fun t z => by cases z), by simp [DV], by decide +kernel, by decide +kernel⟩
        · refine q _ _ none (.list [.str (lineS u)]) q1 _ sA (.inr (s1.free f1)) ((s3.trans s4) _ _ upd_same) fun G hG => ⟨.other _ _ (.lst q1 _ hG) (fun t z => by cases z), (fun t z => by cases z), ?_, ?_, ?_⟩
          · rw [DV]; exact ⟨q1, _, rfl, SqL.of hG, dvs_str [lineS u]⟩
          · rw [PyData.canLay0, PyData.canLayAll0, oka.2.2.2.1]; rfl
          · simp [PyData.depth, PyData.depthAll]
        · refine q _ _ none (.tuple [.str (lineS u)]) q2 _ sA (.inr ((s1.trans s2).free f2)) (s4 _ _ upd_same) fun G hG => ⟨.other _ _ (.tup q2 _ hG) (fun t z => by cases z), (fun t z => by cases z), ?_, ?_, ?_⟩
          · rw [DV]; exact ⟨q2, _, rfl, SqT.of hG, dvs_str [lineS u]⟩
          · rw [PyData.canLay0, PyData.canLayAll0, oka.2.2.2.1]; rfl
          · simp [PyData.depth, PyData.depthAll]
        · exact q _ _ none (.bool true) l _ sA (.inl rfl) (sA _ _ hl) fun G _ => ⟨.other _ _ (.bl true) (fun t z => by cases z), (fun t z => by cases z), by simp [DV], by decide +kernel, by decide +kernel⟩
      · obtain ⟨j1, j2, j3⟩ := sw_join hws hwl'
        exact ⟨rfl, " ", p, ws, rfl, rfl, .inl (SqL.of hp), j3, q _ _ _ _ l _ s1 (.inl rfl) hl1 fun G _ => OL.ofStr j1 j2 G⟩
end
end My

set_option Elab.async false
set_option linter.all false
set_option maxRecDepth 100000
set_option maxHeartbeats 4000000
namespace My
open PySem L2
def spLaw (K : PySem.W.Frag) : Sp := fun vs H Q _ => ∃ (p : Addr) (ns : List Int), vs = [.ref p] ∧ SqL K H p (ns.map V.int) ∧ ns.length ≤ 63 ∧ ∀ H', Q (.bl true) H'
theorem law_start {K : PySem.W.Frag} {H : Hp} {a : Addr} {ns : List Int} (hl : ns.length ≤ 63) (_ : Only H) (hS : SqL K H a (ns.map V.int)) : spLaw K [.ref a] H (fun v _ => v = .bl true) fun _ _ _ => False := ⟨a, ns, rfl, hS, hl, fun _ => rfl⟩
theorem allN_good {H : Hp} : ∀ {us : List U}, (∀ u ∈ us, GoodU u) → AllN H (us.map fun u => some (lineS u)) (us.map fun u => V.str (lineS u))
  | [], _ => .nil
  | u :: r, h => by
    have := (lineS_size (h u (List.mem_cons_self ..))).1
    exact .cons (.str _ (by omega)) (allN_good fun v hv => h v (List.mem_cons_of_mem _ hv))
theorem AllN.same {H H' : Hp} (s : Same H H') : ∀ {os : List (Option Str)} {xs : List V}, AllN H os xs → AllN H' os xs
  | _, _, .nil => .nil
  | _, _, .cons r t => .cons (r.same s) (AllN.same s t)
theorem lines_room {us : List U} (h : ∀ u ∈ us, GoodU u) (hl : us.length ≤ 24) : ((us.map lineS).map (·.length)).sum + (us.map lineS).length * (" " : Str).length ≤ 16777216 ∧ (Txt.join " " (us.map lineS)).length ≤ 16777216 := by
  have b4 : (" " : Str).length = 1 := by decide +kernel
  have : ((us.map lineS).map (·.length)).sum ≤ us.length * 112 := by
    clear hl
    induction us with
    | nil => simp
    | cons t r ih =>
      have i1 := ih fun x hx => h x (List.mem_cons_of_mem _ hx)
      have i2 : (lineS t).length ≤ 112 := (lineS_size (h t (List.mem_cons_self ..))).1
      rw [List.map_cons, List.map_cons, List.sum_cons, List.length_cons]
      omega
  have e : (Txt.join " " (us.map lineS)).cps.toList = SplM.joinC 32 ((us.map lineS).map fun t => t.cps.toList) := by rw [blank_code]; exact join_codes 32 _
  have hs : (Txt.join " " (us.map lineS)).cps.size = (SplM.joinC 32 ((us.map lineS).map fun t => t.cps.toList)).length := by rw [← e]; simp
  have h1 := len_joinC 32 112 ((us.map lineS).map fun t => t.cps.toList) fun p hp => by
    obtain ⟨t, ht, rfl⟩ := List.mem_map.mp hp
    obtain ⟨u, hu, rfl⟩ := List.mem_map.mp ht
    simpa using (lineS_size (h u hu)).1
  rw [List.length_map, List.length_map] at h1
  rw [List.length_map, b4]
  refine ⟨by omega, ?_⟩
  show (Txt.join " " (us.map lineS)).cps.size ≤ _
  omega
section
variable {P : Program} {w : World} {K : PySem.W.Frag} {mg : Str → Option Value} {base : Heap} {a : Ad}
theorem eq_lists {H : Hp} {l r : Addr} {xs : List V} {ds : List PyData} {Q : VK} (hl : H l = some (.lst xs)) (hr : H r = some (.lst xs)) (hd : DVs K H ds xs) (h1 : PyData.canLayAll0 ds = true) (h2 : PyData.depthAll ds ≤ 2) (q : Q (.bl false) H) : rEqD K true (.ref l) (.ref r) H Q := by
  have hsh : SeqAt.shaped (.list ds) = true := by
    unfold SeqAt.shaped
    rw [PyData.canLay0, h1, Bool.true_and]
    refine decide_eq_true ?_
    simp only [PyData.depth]
    omega
  refine ⟨.list ds, .list ds, ?_, ?_, hsh, hsh, ?_⟩
  · rw [DV]; exact ⟨l, _, rfl, SqL.of hl, hd⟩
  · rw [DV]; exact ⟨r, _, rfl, SqL.of hr, hd⟩
  rw [SeqAt.eqv_refl _ (SeqAt.canLay_of_shaped hsh)]
  exact q
theorem eq_pairs {H : Hp} {l r : Addr} {i k : Nat} {Q : VK} (hl : H l = some (.tup [.int (i : Nat), .int (k : Nat)])) (hr : H r = some (.tup [.int (i : Nat), .int (k : Nat)])) (q : Q (.bl false) H) : rEqD K true (.ref l) (.ref r) H Q := by
  have dv : ∀ l : Addr, H l = some (.tup [.int (i : Nat), .int (k : Nat)]) → DV K H (.tuple [.int (i : Nat), .int (k : Nat)]) (.ref l) := fun l h => by
    rw [DV]
    refine ⟨l, _, rfl, SqT.of h, ?_⟩
    simp [DVs, DV]
  have hsh : SeqAt.shaped (.tuple [.int (i : Nat), .int (k : Nat)]) = true := by
    unfold SeqAt.shaped
    rw [PyData.canLay0, PyData.canLayAll0, PyData.canLay0, PyData.canLayAll0, PyData.canLay0, PyData.canLayAll0, Bool.true_and, Bool.true_and, Bool.true_and]
    refine decide_eq_true ?_
    simp only [PyData.depth, PyData.depthAll]
    omega
  refine ⟨_, _, dv l hl, dv r hr, hsh, hsh, ?_⟩
  rw [SeqAt.eqv_refl _ (SeqAt.canLay_of_shaped hsh)]
  exact q
abbrev lawK : Nat := 9
theorem ok_law (T : Txt K mg a) : FnOk P w K mg base CX0 lawK a.f_law a.d_law ["_law_script"] (spLaw K) := by
  have G_L_cell : FnOk P w K mg base CX0 8 _ _ _ (spCell K) := (ok_cell T).mono (by decide)
  have G_L_mixed : FnOk P w K mg base CX0 8 _ _ _ spMixed := (ok_mixed T).mono (by decide)
  have G_L_units : FnOk P w K mg base CX0 8 _ _ _ spUnits := (ok_units T).mono (by decide)
  have G_L_line : FnOk P w K mg base CX0 8 _ _ _ spLine := (ok_line T).mono (by decide)
  have G_L_odd_line : FnOk P w K mg base CX0 8 _ _ _ (spOddL K) := (ok_oddl T).mono (by decide)
  have G_L_told : FnOk P w K mg base CX0 8 _ _ _ spTold := ok_told T
  have G_L_due : FnOk P w K mg base CX0 8 _ _ _ spDue := (ok_due T).mono (by decide)
  have G_L_no_units : FnOk P w K mg base CX0 8 _ _ _ spNoU := ok_nounits T
  refine T.F_law.ok sc_law (fun vs H Q E h => ?_) (fun cdv A outer s H vs Q E hr h => ?_)
  · obtain ⟨p, ns, rfl, _⟩ := h; rfl
  · obtain ⟨p, ns, rfl, hS, hlen, q⟩ := h
    have small : sizeLine = 16777216 := sizeLine_eq
    refine ⟨_, (pss_cons (ps_setC rfl (i := 1) sc_law.nd rfl rfl (by with_unfolding_all rfl) (N := ["_law_unit"]) (ix := [none]) ⟨rfl, rfl, rfl, rfl, trivial⟩ (pi_any (pe_call G_L_units hr rfl T.m_L_units T.F_L_units.kp T.B_L_units .nil pass0 (pa_cons (pe_call G_L_cell hr rfl T.m_L_cell T.F_L_cell.kp T.B_L_cell .nil pass0 (pa_cons (vr 0) (pa_cons pe_int pa_nil))) pa_nil))) ⟨fun C s H fp => pg_name (i := 0) (show List.Nodup (["_law_unit"] : List Str) by decide +kernel) rfl (Or.inl rfl), fun C s H fp => pts_nil, fun C s H fp => (pe_call G_L_line hr rfl T.m_L_line T.F_L_line.kp T.B_L_line .nil pass0 (pa_cons (vr 0) pa_nil))⟩) (pss_cons (ps_if (t_cmp o_isnot (pe_call G_L_told hr rfl T.m_L_told T.F_L_told.kp T.B_L_told .nil pass0 (pa_cons (vr 1) pa_nil)) pe_non (nomark _)) (pss_one (ps_ret pe_bl)) pss_nil) (pss_cons (ps_for PassesOwn.never rfl (pi_range2 rfl T.z_range (pa_cons pe_int (pa_cons (pe_callB (call_max2 rfl) rfl T.z_max bt_max (pa_cons pe_int (pa_cons (pe_callB (call_min2 rfl) rfl T.z_min bt_min (pa_cons pe_int (pa_cons (pe_callB call_lenM rfl T.z_len bt_len (pa_cons (vr 0) pa_nil)) pa_nil))) pa_nil))) pa_nil))) (pg_name (i := 2) sc_law.nd rfl (Or.inl rfl)) (pss_cons (ps_set (i := 3) sc_law.nd rfl (Or.inl rfl) (pe_call G_L_cell hr rfl T.m_L_cell T.F_L_cell.kp T.B_L_cell .nil pass0 (pa_cons (vr 0) (pa_cons (vr 2) pa_nil)))) (pss_cons (ps_set (i := 4) sc_law.nd rfl (Or.inl rfl) (pe_callTy call_list_of rfl T.z_list bt_list (pa_cons (vr 1) pa_nil))) (pss_cons (ps_for PassesOwn.never rfl (pi_range1 rfl T.z_range (pa_cons (pe_op o_add pe_int (pe_op o_mod (pe_call G_L_mixed hr rfl T.m_L_mixed T.F_L_mixed.kp T.B_L_mixed .nil pass0 (pa_cons (vr 3) (pa_cons pe_int pa_nil))) pe_int)) pa_nil)) (pg_name (i := 5) sc_law.nd rfl (Or.inl rfl)) (pss_cons (ps_set (i := 6) sc_law.nd rfl (Or.inl rfl) (pe_op o_mod (pe_call G_L_mixed hr rfl T.m_L_mixed T.F_L_mixed.kp T.B_L_mixed .nil pass0 (pa_cons (vr 3) (pa_cons (pe_op o_add pe_int (vr 5)) pa_nil))) (pe_callB call_lenM rfl T.z_len bt_len (pa_cons (vr 1) pa_nil)))) (pss_one (ps_asg (pe_call G_L_odd_line hr rfl T.m_L_odd_line T.F_L_odd_line.kp T.B_L_odd_line .nil pass0 (pa_cons (vr 1) (pa_cons (vr 6) (pa_cons (pe_op o_add (vr 3) (pe_op o_mul pe_int (vr 5))) pa_nil)))) (pg_sub (vr 4) (vr 6) set_list))))) (pss_cons (ps_set (i := 7) sc_law.nd rfl (Or.inl rfl) (pe_callTy call_list_of rfl T.z_list bt_list (pa_cons (vr 4) pa_nil))) (pss_one (ps_if (PW.pt (pw_or (t_cmp (o_neD hr.units) (pe_call G_L_told hr rfl T.m_L_told T.F_L_told.kp T.B_L_told .nil pass0 (pa_cons (vr 7) pa_nil)) (pe_call G_L_due hr rfl T.m_L_due T.F_L_due.kp T.B_L_due .nil pass0 (pa_cons (vr 4) pa_nil)) (nomark _)) (pw_or1 (t_cmp (o_neD hr.units) (vr 7) (vr 4) (nomark _))))) (pss_one (ps_ret pe_bl)) pss_nil))))))) (pss_cons (ps_for PassesOwn.never rfl (pi_any (pe_lstQ (paq_cons pe_non (paq_cons (pe_lst pa_nil) (paq_cons (pe_callTy call_tuple_of rfl T.z_tuple bt_tuple (pa_cons (vr 1) pa_nil)) (paq_cons (pe_m.join pe_str (pa_cons (vr 1) pa_nil)) (paq_cons (pe_slice sl_any (pe_op op_cat (vr 1) (pe_op op_rep (pe_lst (pa_cons pe_str pa_nil)) pe_int)) po_none (po_some pe_int)) (paq_cons pe_dnewK paq_nil)))))))) (pg_name (i := 8) sc_law.nd rfl (Or.inl rfl)) (pss_one (ps_if (pt_not (t_val (pe_call G_L_no_units hr rfl T.m_L_no_units T.F_L_no_units.kp T.B_L_no_units .nil pass0 (pa_cons (vr 8) pa_nil)))) (pss_one (ps_ret pe_bl)) pss_nil))) (pss_one (ps_ret pe_bl)))))), ?_⟩
    refine ⟨p, ns, 0, rfl, hS, hlen, by decide, by decide, ⟨_, rfl, fun H1 r us xs s1 nr hr1 hu g => ?_⟩⟩
    have hlu := hu.len
    have g1 := g.l1
    have g2 := g.l2
    refine .inl ⟨⟨_, SqL.of hr1⟩, fun D hD => ?_⟩
    refine comp_list (K := K) (a := r) (xs := xs) (fun i ys H' => i ≤ xs.length ∧ Same H1 H' ∧ H' D = some (.lst ys) ∧ ys = (us.take i).map fun u => V.str (lineS u)) ⟨Nat.zero_le _, Same.new hD, upd_same, rfl⟩ (fun i ys H' h => SqL.of (h.2.1 _ _ hr1)) (fun i ys H' h => h.2.2.1) ?_ ?_
    · rintro i x ys H' P' hx ⟨hi, s2, hD1, rfl⟩ hP
      obtain ⟨u, hu', hU⟩ := hu.get hx
      have hlt : i < xs.length := (List.getElem?_eq_some_iff.mp hx).1
      refine ⟨trivial, u, x, rfl, hU.tk s2.tk, g.each u (List.mem_of_getElem? hu'), fun H2 s3 => ⟨s3 _ _ hD1, ?_, hP _ _ ⟨hlt, (s2.trans s3).put hD, upd_same, ?_⟩⟩⟩
      · rw [List.length_map, List.length_take]; omega
      · rw [List.take_add_one, hu', List.map_append]; rfl
    rintro ys H2 ⟨_, s2, hD1, rfl⟩
    rw [← hlu, List.take_of_length_le (Nat.le_refl _)] at hD1
    have hlines : wrongL [] (us.map fun u => some (lineS u)) = none := wrongL_good us [] g.each g.nd g.pth
    have lenD : (us.map fun u => V.str (lineS u)).length = us.length := List.length_map ..
    have hS2 := (s1.trans s2).seq hS
    refine ⟨D, _, us.map fun u => some (lineS u), rfl, hD1, (by rw [lenD]; omega), (by rw [lenD]; omega), allN_good g.each, fun _ H3 s3 => ?_, fun i k e => by rw [hlines] at e; cases e⟩
    have hD3 := s3 _ _ hD1
    have hS3 := s3.seq hS2
    refine ⟨ns.map V.int, .inl hS3, 21, ((ns.map V.int).length : Int), rfl, 4, _, rfl, 1, _, rfl, ⟨by decide, by decide, by split <;> split <;> omega, by split <;> split <;> omega⟩, ?_⟩
    refine for_range (fun i σ H' => Same H3 H' ∧ ∃ (x2 x3 x4 x5 x6 x7 x8 : Option V), σ = [some (.ref p), some (.ref D), x2, x3, x4, x5, x6, x7, x8]) ⟨Same.refl _, none, none, none, none, none, none, none, rfl⟩ ?_ ?_
    · rintro i σ H4 hi ⟨s4, x2, x3, x4, x5, x6, x7, x8, rfl⟩
      have hi' : i < 21 := by revert hi; split <;> split <;> omega
      have hD4 := s4 _ _ hD3
      refine ⟨p, ns, 1 + (i : Int), rfl, s4.seq hS3, hlen, by omega, by omega, ?_⟩
      generalize cellAt ns (1 + (i : Int)) = c
      refine ⟨D, _, rfl, .inl (SqL.of hD4), fun sp hsp => ?_⟩
      have s5 := Same.new (o := .lst (us.map fun u => V.str (lineS u))) hsp
      have hDsp : D ≠ sp := ne_of_none hD4 hsp
      refine ⟨c, 0, rfl, by decide, by decide, cp, ?_⟩
      refine ⟨1 + mixed c 0 % 2, rfl, by omega, by omega, for_range (fun j σ H' => (j : Int) ≤ 1 + mixed c 0 % 2 ∧ Same H4 H' ∧ ∃ (ws : List V) (x5 x6 : Option V), σ = [some (.ref p), some (.ref D), some (.int (1 + (i : Int))), some (.int c), some (.ref sp), x5, x6, x7, x8] ∧ H' sp = some (.lst ws) ∧ ws.length = us.length ∧ ∀ x ∈ ws, OX K sp H' x)
        ⟨by omega, s5, _, x5, x6, rfl, upd_same, lenD, fun x hx => ?_⟩ ?_ ?_⟩
      · obtain ⟨u, hu', rfl⟩ := List.mem_map.mp hx
        have gu := g.each u hu'
        have := (lineS_size gu).1
        exact ⟨_, _, D, _, hDsp, s5 _ _ hD4, fun G _ => OL.ofStr (by omega) (lineS_size gu).2 G⟩
      · rintro j σ H6 hj ⟨_, s6, ws, y5, y6, rfl, hsp6, hws, hox⟩
        have hj' : (j : Int) < 1 + mixed c 0 % 2 := by omega
        have hD6 := s6 _ _ hD4
        refine ⟨c, 1 + (0 + (j : Int)), rfl, by omega, by omega, ⟨_, .inl (SqL.of hD6), ?_⟩⟩
        rw [lenD]
        obtain ⟨m, hm, hmk⟩ : ∃ m : Nat, m < us.length ∧ mixed c (1 + (0 + (j : Int))) % (us.length : Int) = (m : Int) := by
          have b0 := Int.emod_nonneg (mixed c (1 + (0 + (j : Int)))) (show (us.length : Int) ≠ 0 by omega)
          have b1 := Int.emod_lt_of_pos (mixed c (1 + (0 + (j : Int)))) (show (0 : Int) < us.length by omega)
          exact ⟨(mixed c (1 + (0 + (j : Int))) % (us.length : Int)).toNat, by omega, by omega⟩
        refine ⟨cp (by omega), cl, D, us, m, _, (by show [V.ref D, V.int (mixed c (1 + (0 + (j : Int))) % (us.length : Int)), V.int (c + 4 * (0 + (j : Int)))] = _; rw [hmk]), hD6, g, hm, fun H7 x o d qa ob s7 hq hq2 hol => ?_⟩
        have hqs : qa ≠ sp := by
          rcases hq with rfl | z
          · exact hDsp
          · exact (ne_of_none hsp6 z).symm
        have hsp7 := s7 _ _ hsp6
        refine ⟨sp, ws, _, m, rfl, rfl, hsp7, ?_, ?_⟩
        · show ixN ws.length (mixed c (1 + (0 + (j : Int))) % (us.length : Int)) = some m
          rw [hmk, hws]
          unfold ixN
          rw [if_pos (by omega), if_pos (by omega)]
          rfl
        refine ⟨by omega, ((s6.trans s7).put hsp), ws.set m x, _, _, rfl, upd_same, by rw [List.length_set]; exact hws, fun y hy => ?_⟩
        rcases List.mem_or_eq_of_mem_set hy with z | z
        · exact ((hox y z).same s7).put
        · rw [z]
          exact OX.put ⟨o, d, qa, ob, hqs, hq2, hol⟩
      · rintro σ H6 ⟨_, s6, ws, y5, y6, rfl, hsp6, hws, hox⟩
        refine ⟨sp, ws, rfl, .inl (SqL.of hsp6), fun hd hhd => ?_⟩
        have s7 := Same.new (o := .lst ws) hhd
        have hd7 : (upd H6 hd (.lst ws)) hd = some (.lst ws) := upd_same
        generalize upd H6 hd (.lst ws) = H7 at s7 hd7
        have hsp7 := s7 _ _ hsp6
        obtain ⟨os, ds, hN, hA, hDV, hc, hdp⟩ := OX.all (xs := ws) fun x hx => (hox x hx).same s7
        have s47 := s6.trans s7
        refine ⟨hd, ws, os, rfl, hd7, by omega, by omega, hN, fun e H8 s8 => ?_, fun i' k' e H8 p8 s8 hp8 => ?_⟩
        · refine ⟨sp, ws, os, rfl, s8 _ _ hsp7, by omega, hN.same s8, hA, fun _ H9 s9 => ?_, (fun i' k' e2 => by rw [e] at e2; cases e2)⟩
          have s79 := s8.trans s9
          refine ⟨.none, .none, by simp [DV], by simp [DV], by decide +kernel, by decide +kernel, ?_⟩
          refine eq_lists (s79 _ _ hd7) (s79 _ _ hsp7) (hDV.same s79) hc hdp ?_
          exact ⟨s4.trans (s47.trans s79), _, _, _, _, _, _, _, rfl⟩
        · refine ⟨sp, ws, os, rfl, s8 _ _ hsp7, by omega, hN.same s8, hA, (fun e2 => by rw [e] at e2; cases e2), fun i2 k2 e2 H9 p9 s9 hp9 => ?_⟩
          rw [e] at e2
          cases e2
          have s79 := s8.trans s9
          refine eq_pairs (s9 _ _ hp8) hp9 ?_
          refine eq_lists (s79 _ _ hd7) (s79 _ _ hsp7) (hDV.same s79) hc hdp ?_
          exact ⟨s4.trans (s47.trans s79), _, _, _, _, _, _, _, rfl⟩
    · rintro σ H4 ⟨s4, x2, x3, x4, x5, x6, x7, x8, rfl⟩
      have hD4 := s4 _ _ hD3
      have eD : (us.map fun u => V.str (lineS u)) = (us.map lineS).map V.str := by rw [List.map_map]; rfl
      obtain ⟨rm1, rm2⟩ := lines_room g.each g2
      refine ⟨Nat.zero_le _, fun q1 f1 => ?_⟩
      have t1 := Same.new (o := .lst []) f1
      refine ⟨D, _, rfl, .inl ⟨SqL.of (t1 _ _ hD4), fun q2 f2 => ?_⟩⟩
      have t2 := t1.trans (Same.new (o := .tup (us.map fun u => V.str (lineS u))) f2)
      refine ⟨rfl, " ", D, us.map lineS, rfl, rfl, .inl (SqL.of (by rw [← eD]; exact t2 _ _ hD4)), rm1, ?_⟩
      refine ⟨(by show 1 ≤ sizeLine; omega), fun q3 f3 => ?_⟩
      have t3 := t2.trans (Same.new (o := .lst [V.str "q 0 1 -"]) f3)
      refine ⟨q3, 24, _, rfl, rfl, upd_same, by decide, by decide, (by show 1 * 24 ≤ sizeLine; omega), fun q4 f4 => ?_⟩
      have t4 := t3.trans (Same.new (o := .lst (List.replicate (24 : Int).toNat [V.str "q 0 1 -"]).flatten) f4)
      have el : (List.replicate (24 : Int).toNat [V.str "q 0 1 -"]).flatten.length = 24 := rfl
      refine ⟨D, q4, _, _, rfl, rfl, t4 _ _ hD4, upd_same, (by rw [el, lenD]; omega), fun q5 f5 => ?_⟩
      have t5 := t4.trans (Same.new (o := .lst ((us.map fun u => V.str (lineS u)) ++ (List.replicate (24 : Int).toNat [V.str "q 0 1 -"]).flatten)) f5)
      refine ⟨25, rfl, .inl ⟨_, SqL.of upd_same, fun q6 f6 => ?_⟩⟩
      have n6 := Same.new (o := .lst (cutV ((us.map fun u => V.str (lineS u)) ++ (List.replicate (24 : Int).toNat [V.str "q 0 1 -"]).flatten) none (some 25))) f6
      have t6 := t5.trans n6
      have e25 : (cutV ((us.map fun u => V.str (lineS u)) ++ (List.replicate (24 : Int).toNat [V.str "q 0 1 -"]).flatten) none (some 25)).length = 25 := by
        rw [show (some (25 : Int)) = some ((25 : Nat) : Int) from rfl, cut_take, List.length_take, List.length_append, el, lenD]
        omega
      intro q7 f7
      have n7 := Same.new (o := .dK []) f7
      refine ⟨(by decide : 6 ≤ sizeLine), fun q8 f8 => ?_⟩
      have n8 := Same.new (o := .lst [.non, .ref q1, .ref q2, .str (Txt.join " " (us.map lineS)), .ref q6, .ref q7]) f8
      have h1 := ((((Same.new (o := .tup (us.map fun u => V.str (lineS u))) f2).trans (Same.new (o := .lst [V.str "q 0 1 -"]) f3)).trans (Same.new (o := .lst (List.replicate (24 : Int).toNat [V.str "q 0 1 -"]).flatten) f4)).trans ((Same.new (o := .lst ((us.map fun u => V.str (lineS u)) ++ (List.replicate (24 : Int).toNat [V.str "q 0 1 -"]).flatten)) f5).trans (n6.trans (n7.trans n8)))) _ _ (upd_same (a := q1) (o := .lst []))
      have h2 := (((Same.new (o := .lst [V.str "q 0 1 -"]) f3).trans (Same.new (o := .lst (List.replicate (24 : Int).toNat [V.str "q 0 1 -"]).flatten) f4)).trans ((Same.new (o := .lst ((us.map fun u => V.str (lineS u)) ++ (List.replicate (24 : Int).toNat [V.str "q 0 1 -"]).flatten)) f5).trans (n6.trans (n7.trans n8)))) _ _ (upd_same (a := q2) (o := .tup (us.map fun u => V.str (lineS u))))
      have h6 := (n7.trans n8) _ _ (upd_same (a := q6))
      have h7 := n8 _ _ (upd_same (a := q7))
      refine .inl ⟨⟨_, SqL.of upd_same⟩, for_list (K := K) (a := q8) (xs := [.non, .ref q1, .ref q2, .str (Txt.join " " (us.map lineS)), .ref q6, .ref q7])
        (fun i σ H' => H' q8 = some (.lst [.non, .ref q1, .ref q2, .str (Txt.join " " (us.map lineS)), .ref q6, .ref q7]) ∧ H' q1 = some (.lst []) ∧ H' q2 = some (.tup (us.map fun u => V.str (lineS u))) ∧ H' q6 = some (.lst (cutV ((us.map fun u => V.str (lineS u)) ++ (List.replicate (24 : Int).toNat [V.str "q 0 1 -"]).flatten) none (some 25))) ∧ H' q7 = some (.dK []) ∧
          ∃ (x2 x3 x4 x5 x6 x7 x8 : Option V), σ = [some (.ref p), some (.ref D), x2, x3, x4, x5, x6, x7, x8])
        ⟨upd_same, h1, h2, h6, h7, _, _, _, _, _, _, _, rfl⟩ (fun i σ H' _ h => SqL.of h.1) ?_ ?_⟩
      · rintro i x σ H' hx ⟨h8, h1, h2, h6, h7, x2, x3, x4, x5, x6, x7, x8, rfl⟩
        have nl : NoLen H' x := by
          have hm := List.mem_of_getElem? hx
          simp only [List.mem_cons, List.not_mem_nil, or_false] at hm
          rcases hm with rfl | rfl | rfl | rfl | rfl | rfl
          · exact .no _ _ .non fun p xs e => by cases e
          · exact .len q1 _ h1 (by decide)
          · exact .no _ _ (.tup q2 _ h2) fun p xs e e2 => by cases e; rw [h2] at e2; cases e2
          · exact .no _ _ (.str _ (by rw [small]; exact rm2)) fun p xs e => by cases e
          · exact .len q6 _ h6 (by rw [e25]; omega)
          · exact .no _ _ (.dK q7 _ h7) fun p xs e e2 => by cases e; rw [h7] at e2; cases e2
        refine ⟨x, rfl, nl, fun H5 s5 => ?_⟩
        exact ⟨s5 _ _ h8, s5 _ _ h1, s5 _ _ h2, s5 _ _ h6, s5 _ _ h7, _, _, _, _, _, _, _, rfl⟩
      · rintro σ H' ⟨h8, h1, h2, h6, h7, x2, x3, x4, x5, x6, x7, x8, rfl⟩
        exact q _
end
theorem us0 {α : Type} : ∀ {us : List α}, us.length = 0 → us = []
  | [], _ => rfl
theorem us1 {α : Type} : ∀ {us : List α}, us.length = 1 → ∃ a0, us = [a0]
  | [_], _ => ⟨_, rfl⟩
theorem us2 {α : Type} : ∀ {us : List α}, us.length = 2 → ∃ a0 a1, us = [a0, a1]
  | [_, _], _ => ⟨_, _, rfl⟩
theorem us3 {α : Type} : ∀ {us : List α}, us.length = 3 → ∃ a0 a1 a2, us = [a0, a1, a2]
  | [_, _, _], _ => ⟨_, _, _, rfl⟩
theorem us4 {α : Type} : ∀ {us : List α}, us.length = 4 → ∃ a0 a1 a2 a3, us = [a0, a1, a2, a3]
  | [_, _, _, _], _ => ⟨_, _, _, _, rfl⟩
theorem us5 {α : Type} : ∀ {us : List α}, us.length = 5 → ∃ a0 a1 a2 a3 a4, us = [a0, a1, a2, a3, a4]
  | [_, _, _, _, _], _ => ⟨_, _, _, _, _, rfl⟩
theorem us6 {α : Type} : ∀ {us : List α}, us.length = 6 → ∃ a0 a1 a2 a3 a4 a5, us = [a0, a1, a2, a3, a4, a5]
  | [_, _, _, _, _, _], _ => ⟨_, _, _, _, _, _, rfl⟩
theorem us7 {α : Type} : ∀ {us : List α}, us.length = 7 → ∃ a0 a1 a2 a3 a4 a5 a6, us = [a0, a1, a2, a3, a4, a5, a6]
  | [_, _, _, _, _, _, _], _ => ⟨_, _, _, _, _, _, _, rfl⟩
theorem txt_mk {K : PySem.W.Frag} {h : Heap} {mg : Str → Option Value} {f0 : Addr} {od0 an0 : Option Addr} {sl0 : Array (Option Value)} {oc0 kV0 dc0 pm0 cd0 ct0 : Value} {f1 : Addr} {od1 an1 : Option Addr} {sl1 : Array (Option Value)} {oc1 kV1 dc1 pm1 cd1 ct1 : Value} {f2 : Addr} {od2 an2 : Option Addr} {sl2 : Array (Option Value)} {oc2 kV2 dc2 pm2 cd2 ct2 : Value} {f3 : Addr} {od3 an3 : Option Addr} {sl3 : Array (Option Value)} {oc3 kV3 dc3 pm3 cd3 ct3 : Value} {f4 : Addr} {od4 an4 : Option Addr} {sl4 : Array (Option Value)} {oc4 kV4 dc4 pm4 cd4 ct4 : Value} {f5 : Addr} {od5 an5 : Option Addr} {sl5 : Array (Option Value)} {oc5 kV5 dc5 pm5 cd5 ct5 : Value} {f6 : Addr} {od6 an6 : Option Addr} {sl6 : Array (Option Value)} {oc6 kV6 dc6 pm6 cd6 ct6 : Value} {f7 : Addr} {od7 an7 : Option Addr} {sl7 : Array (Option Value)} {oc7 kV7 dc7 pm7 cd7 ct7 : Value} {f8 : Addr} {od8 an8 : Option Addr} {sl8 : Array (Option Value)} {oc8 kV8 dc8 pm8 cd8 ct8 : Value} {f9 : Addr} {od9 an9 : Option Addr} {sl9 : Array (Option Value)} {oc9 kV9 dc9 pm9 cd9 ct9 : Value} {f10 : Addr} {od10 an10 : Option Addr} {sl10 : Array (Option Value)} {oc10 kV10 dc10 pm10 cd10 ct10 : Value} {f11 : Addr} {od11 an11 : Option Addr} {sl11 : Array (Option Value)} {oc11 kV11 dc11 pm11 cd11 ct11 : Value} {f12 : Addr} {od12 an12 : Option Addr} {sl12 : Array (Option Value)} {oc12 kV12 dc12 pm12 cd12 ct12 : Value} {f13 : Addr} {od13 an13 : Option Addr} {sl13 : Array (Option Value)} {oc13 kV13 dc13 pm13 cd13 ct13 : Value} {f14 : Addr} {od14 an14 : Option Addr} {sl14 : Array (Option Value)} {oc14 kV14 dc14 pm14 cd14 ct14 : Value} {f15 : Addr} {od15 an15 : Option Addr} {sl15 : Array (Option Value)} {oc15 kV15 dc15 pm15 cd15 ct15 : Value} {f16 : Addr} {od16 an16 : Option Addr} {sl16 : Array (Option Value)} {oc16 kV16 dc16 pm16 cd16 ct16 : Value} {f17 : Addr} {od17 an17 : Option Addr} {sl17 : Array (Option Value)} {oc17 kV17 dc17 pm17 cd17 ct17 : Value} {f18 : Addr} {od18 an18 : Option Addr} {sl18 : Array (Option Value)} {oc18 kV18 dc18 pm18 cd18 ct18 : Value} {f19 : Addr} {od19 an19 : Option Addr} {sl19 : Array (Option Value)} {oc19 kV19 dc19 pm19 cd19 ct19 : Value} {f20 : Addr} {od20 an20 : Option Addr} {sl20 : Array (Option Value)} {oc20 kV20 dc20 pm20 cd20 ct20 : Value} {f21 : Addr} {od21 an21 : Option Addr} {sl21 : Array (Option Value)} {oc21 kV21 dc21 pm21 cd21 ct21 : Value} {f22 : Addr} {od22 an22 : Option Addr} {sl22 : Array (Option Value)} {oc22 kV22 dc22 pm22 cd22 ct22 : Value} {f23 : Addr} {od23 an23 : Option Addr} {sl23 : Array (Option Value)} {oc23 kV23 dc23 pm23 cd23 ct23 : Value} {f24 : Addr} {od24 an24 : Option Addr} {sl24 : Array (Option Value)} {oc24 kV24 dc24 pm24 cd24 ct24 : Value} {f25 : Addr} {od25 an25 : Option Addr} {sl25 : Array (Option Value)} {oc25 kV25 dc25 pm25 cd25 ct25 : Value} {f26 : Addr} {od26 an26 : Option Addr} {sl26 : Array (Option Value)} {oc26 kV26 dc26 pm26 cd26 ct26 : Value} {f27 : Addr} {od27 an27 : Option Addr} {sl27 : Array (Option Value)} {oc27 kV27 dc27 pm27 cd27 ct27 : Value} {u0 : Value} {u1 : Value} {u2 : Value} {u3 : Value} {u4 : Value} {u5 : Value} {u6 : Value} {u7 : Value} {u8 : Value} {c_SpeakError : Addr} {c_NoListing : Addr} {i_NoListing : Addr} {od_NoListing an_NoListing : Option Addr} {sl_NoListing : Array (Option Value)} {oc_NoListing kV_NoListing dc_NoListing pm_NoListing cd_NoListing ct_NoListing : Value} {c_NoUnits : Addr} {c_NoPlan : Addr} {i_NoPlan : Addr} {od_NoPlan an_NoPlan : Option Addr} {sl_NoPlan : Array (Option Value)} {oc_NoPlan kV_NoPlan dc_NoPlan pm_NoPlan cd_NoPlan ct_NoPlan : Value} {c_NoLevel : Addr} (X : K.In h) (G : h.Ns mainGlobals mg)
    (a0 : PySem.W.nsIn K mainGlobals "is_made_of" = some (some (.ref f0))) (l0 : K.lookup f0 = some ⟨oc0, od0, .func (PySem.W.fnOf "is_made_of" "is_made_of" (defArgs s_is_made_of) (defBody s_is_made_of) (defScope s_is_made_of) .none kV0 dc0 pm0 an0 cd0 ct0), sl0⟩) (c0 : PySem.W.codeIn K cd0 "is_made_of" = true) (k0 : PySem.W.keepIn K (.ref f0) = true)
    (a1 : PySem.W.nsIn K mainGlobals "is_name" = some (some (.ref f1))) (l1 : K.lookup f1 = some ⟨oc1, od1, .func (PySem.W.fnOf "is_name" "is_name" (defArgs s_is_name) (defBody s_is_name) (defScope s_is_name) .none kV1 dc1 pm1 an1 cd1 ct1), sl1⟩) (c1 : PySem.W.codeIn K cd1 "is_name" = true) (k1 : PySem.W.keepIn K (.ref f1) = true)
    (a2 : PySem.W.nsIn K mainGlobals "number_of" = some (some (.ref f2))) (l2 : K.lookup f2 = some ⟨oc2, od2, .func (PySem.W.fnOf "number_of" "number_of" (defArgs s_number_of) (defBody s_number_of) (defScope s_number_of) .none kV2 dc2 pm2 an2 cd2 ct2), sl2⟩) (c2 : PySem.W.codeIn K cd2 "number_of" = true) (k2 : PySem.W.keepIn K (.ref f2) = true)
    (a3 : PySem.W.nsIn K mainGlobals "has_listing_length" = some (some (.ref f3))) (l3 : K.lookup f3 = some ⟨oc3, od3, .func (PySem.W.fnOf "has_listing_length" "has_listing_length" (defArgs s_has_listing_length) (defBody s_has_listing_length) (defScope s_has_listing_length) .none kV3 dc3 pm3 an3 cd3 ct3), sl3⟩) (c3 : PySem.W.codeIn K cd3 "has_listing_length" = true) (k3 : PySem.W.keepIn K (.ref f3) = true)
    (a4 : PySem.W.nsIn K mainGlobals "is_path" = some (some (.ref f4))) (l4 : K.lookup f4 = some ⟨oc4, od4, .func (PySem.W.fnOf "is_path" "is_path" (defArgs s_is_path) (defBody s_is_path) (defScope s_is_path) .none kV4 dc4 pm4 an4 cd4 ct4), sl4⟩) (c4 : PySem.W.codeIn K cd4 "is_path" = true) (k4 : PySem.W.keepIn K (.ref f4) = true)
    (a5 : PySem.W.nsIn K mainGlobals "is_new_name" = some (some (.ref f5))) (l5 : K.lookup f5 = some ⟨oc5, od5, .func (PySem.W.fnOf "is_new_name" "is_new_name" (defArgs s_is_new_name) (defBody s_is_new_name) (defScope s_is_new_name) .none kV5 dc5 pm5 an5 cd5 ct5), sl5⟩) (c5 : PySem.W.codeIn K cd5 "is_new_name" = true) (k5 : PySem.W.keepIn K (.ref f5) = true)
    (a6 : PySem.W.nsIn K mainGlobals "has_path_length" = some (some (.ref f6))) (l6 : K.lookup f6 = some ⟨oc6, od6, .func (PySem.W.fnOf "has_path_length" "has_path_length" (defArgs s_has_path_length) (defBody s_has_path_length) (defScope s_has_path_length) .none kV6 dc6 pm6 an6 cd6 ct6), sl6⟩) (c6 : PySem.W.codeIn K cd6 "has_path_length" = true) (k6 : PySem.W.keepIn K (.ref f6) = true)
    (a7 : PySem.W.nsIn K mainGlobals "name_part" = some (some (.ref f7))) (l7 : K.lookup f7 = some ⟨oc7, od7, .func (PySem.W.fnOf "name_part" "name_part" (defArgs s_name_part) (defBody s_name_part) (defScope s_name_part) .none kV7 dc7 pm7 an7 cd7 ct7), sl7⟩) (c7 : PySem.W.codeIn K cd7 "name_part" = true) (k7 : PySem.W.keepIn K (.ref f7) = true)
    (a8 : PySem.W.nsIn K mainGlobals "path_part" = some (some (.ref f8))) (l8 : K.lookup f8 = some ⟨oc8, od8, .func (PySem.W.fnOf "path_part" "path_part" (defArgs s_path_part) (defBody s_path_part) (defScope s_path_part) .none kV8 dc8 pm8 an8 cd8 ct8), sl8⟩) (c8 : PySem.W.codeIn K cd8 "path_part" = true) (k8 : PySem.W.keepIn K (.ref f8) = true)
    (a9 : PySem.W.nsIn K mainGlobals "part_of" = some (some (.ref f9))) (l9 : K.lookup f9 = some ⟨oc9, od9, .func (PySem.W.fnOf "part_of" "part_of" (defArgs s_part_of) (defBody s_part_of) (defScope s_part_of) .none kV9 dc9 pm9 an9 cd9 ct9), sl9⟩) (c9 : PySem.W.codeIn K cd9 "part_of" = true) (k9 : PySem.W.keepIn K (.ref f9) = true)
    (a10 : PySem.W.nsIn K mainGlobals "unit_of" = some (some (.ref f10))) (l10 : K.lookup f10 = some ⟨oc10, od10, .func (PySem.W.fnOf "unit_of" "unit_of" (defArgs s_unit_of) (defBody s_unit_of) (defScope s_unit_of) .none kV10 dc10 pm10 an10 cd10 ct10), sl10⟩) (c10 : PySem.W.codeIn K cd10 "unit_of" = true) (k10 : PySem.W.keepIn K (.ref f10) = true)
    (a11 : PySem.W.nsIn K mainGlobals "words_of" = some (some (.ref f11))) (l11 : K.lookup f11 = some ⟨oc11, od11, .func (PySem.W.fnOf "words_of" "words_of" (defArgs s_words_of) (defBody s_words_of) (defScope s_words_of) .none kV11 dc11 pm11 an11 cd11 ct11), sl11⟩) (c11 : PySem.W.codeIn K cd11 "words_of" = true) (k11 : PySem.W.keepIn K (.ref f11) = true)
    (a12 : PySem.W.nsIn K mainGlobals "listing_of" = some (some (.ref f12))) (l12 : K.lookup f12 = some ⟨oc12, od12, .func (PySem.W.fnOf "listing_of" "listing_of" (defArgs s_listing_of) (defBody s_listing_of) (defScope s_listing_of) .none kV12 dc12 pm12 an12 cd12 ct12), sl12⟩) (c12 : PySem.W.codeIn K cd12 "listing_of" = true) (k12 : PySem.W.keepIn K (.ref f12) = true)
    (a13 : PySem.W.nsIn K mainGlobals "_law_cell" = some (some (.ref f13))) (l13 : K.lookup f13 = some ⟨oc13, od13, .func (PySem.W.fnOf "_law_cell" "_law_cell" (defArgs s_L_cell) (defBody s_L_cell) (defScope s_L_cell) .none kV13 dc13 pm13 an13 cd13 ct13), sl13⟩) (c13 : PySem.W.codeIn K cd13 "_law_cell" = true) (k13 : PySem.W.keepIn K (.ref f13) = true)
    (a14 : PySem.W.nsIn K mainGlobals "_law_mixed" = some (some (.ref f14))) (l14 : K.lookup f14 = some ⟨oc14, od14, .func (PySem.W.fnOf "_law_mixed" "_law_mixed" (defArgs s_L_mixed) (defBody s_L_mixed) (defScope s_L_mixed) .none kV14 dc14 pm14 an14 cd14 ct14), sl14⟩) (c14 : PySem.W.codeIn K cd14 "_law_mixed" = true) (k14 : PySem.W.keepIn K (.ref f14) = true)
    (a15 : PySem.W.nsIn K mainGlobals "_law_names" = some (some (.ref f15))) (l15 : K.lookup f15 = some ⟨oc15, od15, .func (PySem.W.fnOf "_law_names" "_law_names" (defArgs s_L_names) (defBody s_L_names) (defScope s_L_names) .none kV15 dc15 pm15 an15 cd15 ct15), sl15⟩) (c15 : PySem.W.codeIn K cd15 "_law_names" = true) (k15 : PySem.W.keepIn K (.ref f15) = true)
    (a16 : PySem.W.nsIn K mainGlobals "_law_units" = some (some (.ref f16))) (l16 : K.lookup f16 = some ⟨oc16, od16, .func (PySem.W.fnOf "_law_units" "_law_units" (defArgs s_L_units) (defBody s_L_units) (defScope s_L_units) .none kV16 dc16 pm16 an16 cd16 ct16), sl16⟩) (c16 : PySem.W.codeIn K cd16 "_law_units" = true) (k16 : PySem.W.keepIn K (.ref f16) = true)
    (a17 : PySem.W.nsIn K mainGlobals "_law_line" = some (some (.ref f17))) (l17 : K.lookup f17 = some ⟨oc17, od17, .func (PySem.W.fnOf "_law_line" "_law_line" (defArgs s_L_line) (defBody s_L_line) (defScope s_L_line) .none kV17 dc17 pm17 an17 cd17 ct17), sl17⟩) (c17 : PySem.W.codeIn K cd17 "_law_line" = true) (k17 : PySem.W.keepIn K (.ref f17) = true)
    (a18 : PySem.W.nsIn K mainGlobals "_law_odd_word" = some (some (.ref f18))) (l18 : K.lookup f18 = some ⟨oc18, od18, .func (PySem.W.fnOf "_law_odd_word" "_law_odd_word" (defArgs s_L_odd_word) (defBody s_L_odd_word) (defScope s_L_odd_word) .none kV18 dc18 pm18 an18 cd18 ct18), sl18⟩) (c18 : PySem.W.codeIn K cd18 "_law_odd_word" = true) (k18 : PySem.W.keepIn K (.ref f18) = true)
    (a19 : PySem.W.nsIn K mainGlobals "_law_odd_line" = some (some (.ref f19))) (l19 : K.lookup f19 = some ⟨oc19, od19, .func (PySem.W.fnOf "_law_odd_line" "_law_odd_line" (defArgs s_L_odd_line) (defBody s_L_odd_line) (defScope s_L_odd_line) .none kV19 dc19 pm19 an19 cd19 ct19), sl19⟩) (c19 : PySem.W.codeIn K cd19 "_law_odd_line" = true) (k19 : PySem.W.keepIn K (.ref f19) = true)
    (a20 : PySem.W.nsIn K mainGlobals "_law_is_name" = some (some (.ref f20))) (l20 : K.lookup f20 = some ⟨oc20, od20, .func (PySem.W.fnOf "_law_is_name" "_law_is_name" (defArgs s_L_is_name) (defBody s_L_is_name) (defScope s_L_is_name) .none kV20 dc20 pm20 an20 cd20 ct20), sl20⟩) (c20 : PySem.W.codeIn K cd20 "_law_is_name" = true) (k20 : PySem.W.keepIn K (.ref f20) = true)
    (a21 : PySem.W.nsIn K mainGlobals "_law_is_number" = some (some (.ref f21))) (l21 : K.lookup f21 = some ⟨oc21, od21, .func (PySem.W.fnOf "_law_is_number" "_law_is_number" (defArgs s_L_is_number) (defBody s_L_is_number) (defScope s_L_is_number) .none kV21 dc21 pm21 an21 cd21 ct21), sl21⟩) (c21 : PySem.W.codeIn K cd21 "_law_is_number" = true) (k21 : PySem.W.keepIn K (.ref f21) = true)
    (a22 : PySem.W.nsIn K mainGlobals "_law_depth" = some (some (.ref f22))) (l22 : K.lookup f22 = some ⟨oc22, od22, .func (PySem.W.fnOf "_law_depth" "_law_depth" (defArgs s_L_depth) (defBody s_L_depth) (defScope s_L_depth) .none kV22 dc22 pm22 an22 cd22 ct22), sl22⟩) (c22 : PySem.W.codeIn K cd22 "_law_depth" = true) (k22 : PySem.W.keepIn K (.ref f22) = true)
    (a23 : PySem.W.nsIn K mainGlobals "_law_wrong_word" = some (some (.ref f23))) (l23 : K.lookup f23 = some ⟨oc23, od23, .func (PySem.W.fnOf "_law_wrong_word" "_law_wrong_word" (defArgs s_L_wrong_word) (defBody s_L_wrong_word) (defScope s_L_wrong_word) .none kV23 dc23 pm23 an23 cd23 ct23), sl23⟩) (c23 : PySem.W.codeIn K cd23 "_law_wrong_word" = true) (k23 : PySem.W.keepIn K (.ref f23) = true)
    (a24 : PySem.W.nsIn K mainGlobals "_law_due" = some (some (.ref f24))) (l24 : K.lookup f24 = some ⟨oc24, od24, .func (PySem.W.fnOf "_law_due" "_law_due" (defArgs s_L_due) (defBody s_L_due) (defScope s_L_due) .none kV24 dc24 pm24 an24 cd24 ct24), sl24⟩) (c24 : PySem.W.codeIn K cd24 "_law_due" = true) (k24 : PySem.W.keepIn K (.ref f24) = true)
    (a25 : PySem.W.nsIn K mainGlobals "_law_told" = some (some (.ref f25))) (l25 : K.lookup f25 = some ⟨oc25, od25, .func (PySem.W.fnOf "_law_told" "_law_told" (defArgs s_L_told) (defBody s_L_told) (defScope s_L_told) .none kV25 dc25 pm25 an25 cd25 ct25), sl25⟩) (c25 : PySem.W.codeIn K cd25 "_law_told" = true) (k25 : PySem.W.keepIn K (.ref f25) = true)
    (a26 : PySem.W.nsIn K mainGlobals "_law_no_units" = some (some (.ref f26))) (l26 : K.lookup f26 = some ⟨oc26, od26, .func (PySem.W.fnOf "_law_no_units" "_law_no_units" (defArgs s_L_no_units) (defBody s_L_no_units) (defScope s_L_no_units) .none kV26 dc26 pm26 an26 cd26 ct26), sl26⟩) (c26 : PySem.W.codeIn K cd26 "_law_no_units" = true) (k26 : PySem.W.keepIn K (.ref f26) = true)
    (a27 : PySem.W.nsIn K mainGlobals "law" = some (some (.ref f27))) (l27 : K.lookup f27 = some ⟨oc27, od27, .func (PySem.W.fnOf "law" "law" (defArgs s_law) (defBody s_law) (defScope s_law) .none kV27 dc27 pm27 an27 cd27 ct27), sl27⟩) (c27 : PySem.W.codeIn K cd27 "law" = true) (k27 : PySem.W.keepIn K (.ref f27) = true)
    (b0 : PySem.W.nsIn K mainGlobals "LETTERS" = some (some u0))
    (b1 : PySem.W.nsIn K mainGlobals "FIGURES" = some (some u1))
    (b2 : PySem.W.nsIn K mainGlobals "MOST_LETTERS" = some (some u2))
    (b3 : PySem.W.nsIn K mainGlobals "MOST_FIGURES" = some (some u3))
    (b4 : PySem.W.nsIn K mainGlobals "MOST_UNITS" = some (some u4))
    (b5 : PySem.W.nsIn K mainGlobals "MOST_LEVELS" = some (some u5))
    (b6 : PySem.W.nsIn K mainGlobals "VALUE_BOUND" = some (some u6))
    (b7 : PySem.W.nsIn K mainGlobals "MOST_SIZE" = some (some u7))
    (b8 : PySem.W.nsIn K mainGlobals "UNIT_PARTS" = some (some u8))
    (ca_SpeakError : PySem.W.nsIn K mainGlobals "SpeakError" = some (some (.ref c_SpeakError))) (cb_SpeakError : PySem.W.keepIn K (.ref c_SpeakError) = true) (cc_SpeakError : xcIn K c_SpeakError = true)
    (cx_SpeakError : xIn K c_SpeakError none = true)
    (ca_NoListing : PySem.W.nsIn K mainGlobals "NoListing" = some (some (.ref c_NoListing))) (cb_NoListing : PySem.W.keepIn K (.ref c_NoListing) = true) (cc_NoListing : xcIn K c_NoListing = true)
    (cf_NoListing : PySem.W.findIn K (.ref c_NoListing) "__init__" = some (some (.ref i_NoListing))) (cx_NoListing : xIn K c_NoListing (some (.ref i_NoListing)) = true) (cg_NoListing : PySem.W.isFn K (.ref i_NoListing) = true)
    (cl_NoListing : K.lookup i_NoListing = some ⟨oc_NoListing, od_NoListing, .func (PySem.W.fnOf "__init__" "NoListing.__init__" (defArgs s_NoListing___init__) (defBody s_NoListing___init__) (defScope s_NoListing___init__) .none kV_NoListing dc_NoListing pm_NoListing an_NoListing cd_NoListing ct_NoListing), sl_NoListing⟩) (co_NoListing : PySem.W.codeIn K cd_NoListing "NoListing.__init__" = true) (ck_NoListing : PySem.W.keepIn K (.ref i_NoListing) = true)
    (cs_NoListing_line : xsIn K c_NoListing "line" = true)
    (cs_NoListing_word : xsIn K c_NoListing "word" = true)
    (ca_NoUnits : PySem.W.nsIn K mainGlobals "NoUnits" = some (some (.ref c_NoUnits))) (cb_NoUnits : PySem.W.keepIn K (.ref c_NoUnits) = true) (cc_NoUnits : xcIn K c_NoUnits = true)
    (cx_NoUnits : xIn K c_NoUnits none = true)
    (ca_NoPlan : PySem.W.nsIn K mainGlobals "NoPlan" = some (some (.ref c_NoPlan))) (cb_NoPlan : PySem.W.keepIn K (.ref c_NoPlan) = true) (cc_NoPlan : xcIn K c_NoPlan = true)
    (cf_NoPlan : PySem.W.findIn K (.ref c_NoPlan) "__init__" = some (some (.ref i_NoPlan))) (cx_NoPlan : xIn K c_NoPlan (some (.ref i_NoPlan)) = true) (cg_NoPlan : PySem.W.isFn K (.ref i_NoPlan) = true)
    (cl_NoPlan : K.lookup i_NoPlan = some ⟨oc_NoPlan, od_NoPlan, .func (PySem.W.fnOf "__init__" "NoPlan.__init__" (defArgs s_NoPlan___init__) (defBody s_NoPlan___init__) (defScope s_NoPlan___init__) .none kV_NoPlan dc_NoPlan pm_NoPlan an_NoPlan cd_NoPlan ct_NoPlan), sl_NoPlan⟩) (co_NoPlan : PySem.W.codeIn K cd_NoPlan "NoPlan.__init__" = true) (ck_NoPlan : PySem.W.keepIn K (.ref i_NoPlan) = true)
    (cs_NoPlan_place : xsIn K c_NoPlan "place" = true)
    (ca_NoLevel : PySem.W.nsIn K mainGlobals "NoLevel" = some (some (.ref c_NoLevel))) (cb_NoLevel : PySem.W.keepIn K (.ref c_NoLevel) = true) (cc_NoLevel : xcIn K c_NoLevel = true)
    (cx_NoLevel : xIn K c_NoLevel none = true)
    (fact_tn : mroIn' K c_NoListing c_NoListing = true)
    (fact_tu : mroIn' K c_NoUnits c_SpeakError = true)
    (fact_a1 : PySem.W.kitAny K (.ref c_NoListing) [.ref c_NoUnits, .ref c_NoPlan, .ref c_NoLevel] = some false)
    (fact_a2 : PySem.W.kitOne K (.ref c_NoListing) (.type "ValueError") = some true)
    (fact_u1 : PySem.W.kitOne K (.ref c_NoUnits) (.ref c_NoUnits) = some true)
    (fact_u2 : PySem.W.kitOne K (.ref c_NoUnits) (.ref c_NoListing) = some false)
    (z0 : PySem.W.nsIn K mainGlobals "ValueError" = some none)
    (z1 : PySem.W.nsIn K mainGlobals "all" = some none)
    (z2 : PySem.W.nsIn K mainGlobals "enumerate" = some none)
    (z3 : PySem.W.nsIn K mainGlobals "int" = some none)
    (z4 : PySem.W.nsIn K mainGlobals "isinstance" = some none)
    (z5 : PySem.W.nsIn K mainGlobals "len" = some none)
    (z6 : PySem.W.nsIn K mainGlobals "list" = some none)
    (z7 : PySem.W.nsIn K mainGlobals "max" = some none)
    (z8 : PySem.W.nsIn K mainGlobals "min" = some none)
    (z9 : PySem.W.nsIn K mainGlobals "range" = some none)
    (z10 : PySem.W.nsIn K mainGlobals "str" = some none)
    (z11 : PySem.W.nsIn K mainGlobals "tuple" = some none) (r0 : RelV (.str "abcdefghijklmnopqrstuvwxyz") u0) (r1 : RelV (.str "0123456789") u1) (r2 : RelV (.int 8) u2) (r3 : RelV (.int 12) u3) (r4 : RelV (.int 24) u4) (r5 : RelV (.int 3) u5) (r6 : RelV (.int 1000000000) u6) (r7 : RelV (.int 1000000) u7) (r8 : RelV (.int 4) u8) : ∃ a : Ad, Txt K mg a := by
  refine ⟨{ f_is_made_of := f0, d_is_made_of := PySem.W.fnOf "is_made_of" "is_made_of" (defArgs s_is_made_of) (defBody s_is_made_of) (defScope s_is_made_of) .none kV0 dc0 pm0 an0 cd0 ct0, f_is_name := f1, d_is_name := PySem.W.fnOf "is_name" "is_name" (defArgs s_is_name) (defBody s_is_name) (defScope s_is_name) .none kV1 dc1 pm1 an1 cd1 ct1, f_number_of := f2, d_number_of := PySem.W.fnOf "number_of" "number_of" (defArgs s_number_of) (defBody s_number_of) (defScope s_number_of) .none kV2 dc2 pm2 an2 cd2 ct2, f_has_listing_length := f3, d_has_listing_length := PySem.W.fnOf "has_listing_length" "has_listing_length" (defArgs s_has_listing_length) (defBody s_has_listing_length) (defScope s_has_listing_length) .none kV3 dc3 pm3 an3 cd3 ct3, f_is_path := f4, d_is_path := PySem.W.fnOf "is_path" "is_path" (defArgs s_is_path) (defBody s_is_path) (defScope s_is_path) .none kV4 dc4 pm4 an4 cd4 ct4, f_is_new_name := f5, d_is_new_name := PySem.W.fnOf "is_new_name" "is_new_name" (defArgs s_is_new_name) (defBody s_is_new_name) (defScope s_is_new_name) .none kV5 dc5 pm5 an5 cd5 ct5, f_has_path_length := f6, d_has_path_length := PySem.W.fnOf "has_path_length" "has_path_length" (defArgs s_has_path_length) (defBody s_has_path_length) (defScope s_has_path_length) .none kV6 dc6 pm6 an6 cd6 ct6, f_name_part := f7, d_name_part := PySem.W.fnOf "name_part" "name_part" (defArgs s_name_part) (defBody s_name_part) (defScope s_name_part) .none kV7 dc7 pm7 an7 cd7 ct7, f_path_part := f8, d_path_part := PySem.W.fnOf "path_part" "path_part" (defArgs s_path_part) (defBody s_path_part) (defScope s_path_part) .none kV8 dc8 pm8 an8 cd8 ct8, f_part_of := f9, d_part_of := PySem.W.fnOf "part_of" "part_of" (defArgs s_part_of) (defBody s_part_of) (defScope s_part_of) .none kV9 dc9 pm9 an9 cd9 ct9, f_unit_of := f10, d_unit_of := PySem.W.fnOf "unit_of" "unit_of" (defArgs s_unit_of) (defBody s_unit_of) (defScope s_unit_of) .none kV10 dc10 pm10 an10 cd10 ct10, f_words_of := f11, d_words_of := PySem.W.fnOf "words_of" "words_of" (defArgs s_words_of) (defBody s_words_of) (defScope s_words_of) .none kV11 dc11 pm11 an11 cd11 ct11, f_listing_of := f12, d_listing_of := PySem.W.fnOf "listing_of" "listing_of" (defArgs s_listing_of) (defBody s_listing_of) (defScope s_listing_of) .none kV12 dc12 pm12 an12 cd12 ct12, f_L_cell := f13, d_L_cell := PySem.W.fnOf "_law_cell" "_law_cell" (defArgs s_L_cell) (defBody s_L_cell) (defScope s_L_cell) .none kV13 dc13 pm13 an13 cd13 ct13, f_L_mixed := f14, d_L_mixed := PySem.W.fnOf "_law_mixed" "_law_mixed" (defArgs s_L_mixed) (defBody s_L_mixed) (defScope s_L_mixed) .none kV14 dc14 pm14 an14 cd14 ct14, f_L_names := f15, d_L_names := PySem.W.fnOf "_law_names" "_law_names" (defArgs s_L_names) (defBody s_L_names) (defScope s_L_names) .none kV15 dc15 pm15 an15 cd15 ct15, f_L_units := f16, d_L_units := PySem.W.fnOf "_law_units" "_law_units" (defArgs s_L_units) (defBody s_L_units) (defScope s_L_units) .none kV16 dc16 pm16 an16 cd16 ct16, f_L_line := f17, d_L_line := PySem.W.fnOf "_law_line" "_law_line" (defArgs s_L_line) (defBody s_L_line) (defScope s_L_line) .none kV17 dc17 pm17 an17 cd17 ct17, f_L_odd_word := f18, d_L_odd_word := PySem.W.fnOf "_law_odd_word" "_law_odd_word" (defArgs s_L_odd_word) (defBody s_L_odd_word) (defScope s_L_odd_word) .none kV18 dc18 pm18 an18 cd18 ct18, f_L_odd_line := f19, d_L_odd_line := PySem.W.fnOf "_law_odd_line" "_law_odd_line" (defArgs s_L_odd_line) (defBody s_L_odd_line) (defScope s_L_odd_line) .none kV19 dc19 pm19 an19 cd19 ct19, f_L_is_name := f20, d_L_is_name := PySem.W.fnOf "_law_is_name" "_law_is_name" (defArgs s_L_is_name) (defBody s_L_is_name) (defScope s_L_is_name) .none kV20 dc20 pm20 an20 cd20 ct20, f_L_is_number := f21, d_L_is_number := PySem.W.fnOf "_law_is_number" "_law_is_number" (defArgs s_L_is_number) (defBody s_L_is_number) (defScope s_L_is_number) .none kV21 dc21 pm21 an21 cd21 ct21, f_L_depth := f22, d_L_depth := PySem.W.fnOf "_law_depth" "_law_depth" (defArgs s_L_depth) (defBody s_L_depth) (defScope s_L_depth) .none kV22 dc22 pm22 an22 cd22 ct22, f_L_wrong_word := f23, d_L_wrong_word := PySem.W.fnOf "_law_wrong_word" "_law_wrong_word" (defArgs s_L_wrong_word) (defBody s_L_wrong_word) (defScope s_L_wrong_word) .none kV23 dc23 pm23 an23 cd23 ct23, f_L_due := f24, d_L_due := PySem.W.fnOf "_law_due" "_law_due" (defArgs s_L_due) (defBody s_L_due) (defScope s_L_due) .none kV24 dc24 pm24 an24 cd24 ct24, f_L_told := f25, d_L_told := PySem.W.fnOf "_law_told" "_law_told" (defArgs s_L_told) (defBody s_L_told) (defScope s_L_told) .none kV25 dc25 pm25 an25 cd25 ct25, f_L_no_units := f26, d_L_no_units := PySem.W.fnOf "_law_no_units" "_law_no_units" (defArgs s_L_no_units) (defBody s_L_no_units) (defScope s_L_no_units) .none kV26 dc26 pm26 an26 cd26 ct26, f_law := f27, d_law := PySem.W.fnOf "law" "law" (defArgs s_law) (defBody s_law) (defScope s_law) .none kV27 dc27 pm27 an27 cd27 ct27, c_SpeakError := c_SpeakError, c_NoListing := c_NoListing, i_NoListing := i_NoListing, e_NoListing := PySem.W.fnOf "__init__" "NoListing.__init__" (defArgs s_NoListing___init__) (defBody s_NoListing___init__) (defScope s_NoListing___init__) .none kV_NoListing dc_NoListing pm_NoListing an_NoListing cd_NoListing ct_NoListing, c_NoUnits := c_NoUnits, c_NoPlan := c_NoPlan, i_NoPlan := i_NoPlan, e_NoPlan := PySem.W.fnOf "__init__" "NoPlan.__init__" (defArgs s_NoPlan___init__) (defBody s_NoPlan___init__) (defScope s_NoPlan___init__) .none kV_NoPlan dc_NoPlan pm_NoPlan an_NoPlan cd_NoPlan ct_NoPlan, c_NoLevel := c_NoLevel }, ?_⟩
  exact {
    F_is_made_of := fun_mk (st := s_is_made_of) l0 c0 k0
    B_is_made_of := (fun_mk (st := s_is_made_of) l0 c0 k0).binds (ps := ["text", "signs", "most"]) fun _ _ _ _ _ _ us hl => (by obtain ⟨_, _, _, rfl⟩ := us3 hl; rfl)
    m_is_made_of := PySem.W.mg_of X G a0
    F_is_name := fun_mk (st := s_is_name) l1 c1 k1
    B_is_name := (fun_mk (st := s_is_name) l1 c1 k1).binds (ps := ["thing"]) fun _ _ _ _ _ _ us hl => (by obtain ⟨_, rfl⟩ := us1 hl; rfl)
    m_is_name := PySem.W.mg_of X G a1
    F_number_of := fun_mk (st := s_number_of) l2 c2 k2
    B_number_of := (fun_mk (st := s_number_of) l2 c2 k2).binds (ps := ["text", "low", "high"]) fun _ _ _ _ _ _ us hl => (by obtain ⟨_, _, _, rfl⟩ := us3 hl; rfl)
    m_number_of := PySem.W.mg_of X G a2
    F_has_listing_length := fun_mk (st := s_has_listing_length) l3 c3 k3
    B_has_listing_length := (fun_mk (st := s_has_listing_length) l3 c3 k3).binds (ps := ["thing"]) fun _ _ _ _ _ _ us hl => (by obtain ⟨_, rfl⟩ := us1 hl; rfl)
    m_has_listing_length := PySem.W.mg_of X G a3
    F_is_path := fun_mk (st := s_is_path) l4 c4 k4
    B_is_path := (fun_mk (st := s_is_path) l4 c4 k4).binds (ps := ["thing"]) fun _ _ _ _ _ _ us hl => (by obtain ⟨_, rfl⟩ := us1 hl; rfl)
    m_is_path := PySem.W.mg_of X G a4
    F_is_new_name := fun_mk (st := s_is_new_name) l5 c5 k5
    B_is_new_name := (fun_mk (st := s_is_new_name) l5 c5 k5).binds (ps := ["name", "ahead"]) fun _ _ _ _ _ _ us hl => (by obtain ⟨_, _, rfl⟩ := us2 hl; rfl)
    m_is_new_name := PySem.W.mg_of X G a5
    F_has_path_length := fun_mk (st := s_has_path_length) l6 c6 k6
    B_has_path_length := (fun_mk (st := s_has_path_length) l6 c6 k6).binds (ps := ["path", "ahead"]) fun _ _ _ _ _ _ us hl => (by obtain ⟨_, _, rfl⟩ := us2 hl; rfl)
    m_has_path_length := PySem.W.mg_of X G a6
    F_name_part := fun_mk (st := s_name_part) l7 c7 k7
    B_name_part := (fun_mk (st := s_name_part) l7 c7 k7).binds (ps := ["word", "ahead"]) fun _ _ _ _ _ _ us hl => (by obtain ⟨_, _, rfl⟩ := us2 hl; rfl)
    m_name_part := PySem.W.mg_of X G a7
    F_path_part := fun_mk (st := s_path_part) l8 c8 k8
    B_path_part := (fun_mk (st := s_path_part) l8 c8 k8).binds (ps := ["word", "ahead"]) fun _ _ _ _ _ _ us hl => (by obtain ⟨_, _, rfl⟩ := us2 hl; rfl)
    m_path_part := PySem.W.mg_of X G a8
    F_part_of := fun_mk (st := s_part_of) l9 c9 k9
    B_part_of := (fun_mk (st := s_part_of) l9 c9 k9).binds (ps := ["place", "word", "ahead"]) fun _ _ _ _ _ _ us hl => (by obtain ⟨_, _, _, rfl⟩ := us3 hl; rfl)
    m_part_of := PySem.W.mg_of X G a9
    F_unit_of := fun_mk (st := s_unit_of) l10 c10 k10
    B_unit_of := (fun_mk (st := s_unit_of) l10 c10 k10).binds (ps := ["words", "ahead"]) fun _ _ _ _ _ _ us hl => (by obtain ⟨_, _, rfl⟩ := us2 hl; rfl)
    m_unit_of := PySem.W.mg_of X G a10
    F_words_of := fun_mk (st := s_words_of) l11 c11 k11
    B_words_of := (fun_mk (st := s_words_of) l11 c11 k11).binds (ps := ["line"]) fun _ _ _ _ _ _ us hl => (by obtain ⟨_, rfl⟩ := us1 hl; rfl)
    m_words_of := PySem.W.mg_of X G a11
    F_listing_of := fun_mk (st := s_listing_of) l12 c12 k12
    B_listing_of := (fun_mk (st := s_listing_of) l12 c12 k12).binds (ps := ["lines"]) fun _ _ _ _ _ _ us hl => (by obtain ⟨_, rfl⟩ := us1 hl; rfl)
    m_listing_of := PySem.W.mg_of X G a12
    F_L_cell := fun_mk (st := s_L_cell) l13 c13 k13
    B_L_cell := (fun_mk (st := s_L_cell) l13 c13 k13).binds (ps := ["_law_script", "_law_k"]) fun _ _ _ _ _ _ us hl => (by obtain ⟨_, _, rfl⟩ := us2 hl; rfl)
    m_L_cell := PySem.W.mg_of X G a13
    F_L_mixed := fun_mk (st := s_L_mixed) l14 c14 k14
    B_L_mixed := (fun_mk (st := s_L_mixed) l14 c14 k14).binds (ps := ["_law_cell_here", "_law_k"]) fun _ _ _ _ _ _ us hl => (by obtain ⟨_, _, rfl⟩ := us2 hl; rfl)
    m_L_mixed := PySem.W.mg_of X G a14
    F_L_names := fun_mk (st := s_L_names) l15 c15 k15
    B_L_names := (fun_mk (st := s_L_names) l15 c15 k15).binds (ps := ["_law_cell_here", "_law_many"]) fun _ _ _ _ _ _ us hl => (by obtain ⟨_, _, rfl⟩ := us2 hl; rfl)
    m_L_names := PySem.W.mg_of X G a15
    F_L_units := fun_mk (st := s_L_units) l16 c16 k16
    B_L_units := (fun_mk (st := s_L_units) l16 c16 k16).binds (ps := ["_law_cell_here"]) fun _ _ _ _ _ _ us hl => (by obtain ⟨_, rfl⟩ := us1 hl; rfl)
    m_L_units := PySem.W.mg_of X G a16
    F_L_line := fun_mk (st := s_L_line) l17 c17 k17
    B_L_line := (fun_mk (st := s_L_line) l17 c17 k17).binds (ps := ["_law_unit"]) fun _ _ _ _ _ _ us hl => (by obtain ⟨_, rfl⟩ := us1 hl; rfl)
    m_L_line := PySem.W.mg_of X G a17
    F_L_odd_word := fun_mk (st := s_L_odd_word) l18 c18 k18
    B_L_odd_word := (fun_mk (st := s_L_odd_word) l18 c18 k18).binds (ps := ["_law_words", "_law_at", "_law_number"]) fun _ _ _ _ _ _ us hl => (by obtain ⟨_, _, _, rfl⟩ := us3 hl; rfl)
    m_L_odd_word := PySem.W.mg_of X G a18
    F_L_odd_line := fun_mk (st := s_L_odd_line) l19 c19 k19
    B_L_odd_line := (fun_mk (st := s_L_odd_line) l19 c19 k19).binds (ps := ["_law_lines", "_law_at", "_law_cell_here"]) fun _ _ _ _ _ _ us hl => (by obtain ⟨_, _, _, rfl⟩ := us3 hl; rfl)
    m_L_odd_line := PySem.W.mg_of X G a19
    F_L_is_name := fun_mk (st := s_L_is_name) l20 c20 k20
    B_L_is_name := (fun_mk (st := s_L_is_name) l20 c20 k20).binds (ps := ["_law_text"]) fun _ _ _ _ _ _ us hl => (by obtain ⟨_, rfl⟩ := us1 hl; rfl)
    m_L_is_name := PySem.W.mg_of X G a20
    F_L_is_number := fun_mk (st := s_L_is_number) l21 c21 k21
    B_L_is_number := (fun_mk (st := s_L_is_number) l21 c21 k21).binds (ps := ["_law_text", "_law_low", "_law_high"]) fun _ _ _ _ _ _ us hl => (by obtain ⟨_, _, _, rfl⟩ := us3 hl; rfl)
    m_L_is_number := PySem.W.mg_of X G a21
    F_L_depth := fun_mk (st := s_L_depth) l22 c22 k22
    B_L_depth := (fun_mk (st := s_L_depth) l22 c22 k22).binds (ps := ["_law_word"]) fun _ _ _ _ _ _ us hl => (by obtain ⟨_, rfl⟩ := us1 hl; rfl)
    m_L_depth := PySem.W.mg_of X G a22
    F_L_wrong_word := fun_mk (st := s_L_wrong_word) l23 c23 k23
    B_L_wrong_word := (fun_mk (st := s_L_wrong_word) l23 c23 k23).binds (ps := ["_law_line_here", "_law_names_here", "_law_deep"]) fun _ _ _ _ _ _ us hl => (by obtain ⟨_, _, _, rfl⟩ := us3 hl; rfl)
    m_L_wrong_word := PySem.W.mg_of X G a23
    F_L_due := fun_mk (st := s_L_due) l24 c24 k24
    B_L_due := (fun_mk (st := s_L_due) l24 c24 k24).binds (ps := ["_law_lines"]) fun _ _ _ _ _ _ us hl => (by obtain ⟨_, rfl⟩ := us1 hl; rfl)
    m_L_due := PySem.W.mg_of X G a24
    F_L_told := fun_mk (st := s_L_told) l25 c25 k25
    B_L_told := (fun_mk (st := s_L_told) l25 c25 k25).binds (ps := ["_law_lines"]) fun _ _ _ _ _ _ us hl => (by obtain ⟨_, rfl⟩ := us1 hl; rfl)
    m_L_told := PySem.W.mg_of X G a25
    F_L_no_units := fun_mk (st := s_L_no_units) l26 c26 k26
    B_L_no_units := (fun_mk (st := s_L_no_units) l26 c26 k26).binds (ps := ["_law_thing"]) fun _ _ _ _ _ _ us hl => (by obtain ⟨_, rfl⟩ := us1 hl; rfl)
    m_L_no_units := PySem.W.mg_of X G a26
    F_law := fun_mk (st := s_law) l27 c27 k27
    B_law := (fun_mk (st := s_law) l27 c27 k27).binds (ps := ["_law_script"]) fun _ _ _ _ _ _ us hl => (by obtain ⟨_, rfl⟩ := us1 hl; rfl)
    m_law := PySem.W.mg_of X G a27
    g_LETTERS := ⟨u0, PySem.W.mg_of X G b0, r0⟩
    g_FIGURES := ⟨u1, PySem.W.mg_of X G b1, r1⟩
    g_MOST_LETTERS := ⟨u2, PySem.W.mg_of X G b2, r2⟩
    g_MOST_FIGURES := ⟨u3, PySem.W.mg_of X G b3, r3⟩
    g_MOST_UNITS := ⟨u4, PySem.W.mg_of X G b4, r4⟩
    g_MOST_LEVELS := ⟨u5, PySem.W.mg_of X G b5, r5⟩
    g_VALUE_BOUND := ⟨u6, PySem.W.mg_of X G b6, r6⟩
    g_MOST_SIZE := ⟨u7, PySem.W.mg_of X G b7, r7⟩
    g_UNIT_PARTS := ⟨u8, PySem.W.mg_of X G b8, r8⟩
    mc_SpeakError := PySem.W.mg_of X G ca_SpeakError
    g_SpeakError := ⟨_, PySem.W.mg_of X G ca_SpeakError, rfl⟩
    kc_SpeakError := cb_SpeakError
    xc_SpeakError := xc_of cc_SpeakError
    xh_SpeakError := xh_of cc_SpeakError
    xi_SpeakError := cx_SpeakError
    mc_NoListing := PySem.W.mg_of X G ca_NoListing
    g_NoListing := ⟨_, PySem.W.mg_of X G ca_NoListing, rfl⟩
    kc_NoListing := cb_NoListing
    xc_NoListing := xc_of cc_NoListing
    xh_NoListing := xh_of cc_NoListing
    xi_NoListing := cx_NoListing
    fn_NoListing := cg_NoListing
    Fi_NoListing := fun_mk (st := s_NoListing___init__) cl_NoListing co_NoListing ck_NoListing
    Bi_NoListing := (fun_mk (st := s_NoListing___init__) cl_NoListing co_NoListing ck_NoListing).binds (ps := ["self", "line", "word"]) fun _ _ _ _ _ _ us hl => (by obtain ⟨_, _, _, rfl⟩ := us3 hl; rfl)
    sx_NoListing_line := xs_of cs_NoListing_line
    sx_NoListing_word := xs_of cs_NoListing_word
    mc_NoUnits := PySem.W.mg_of X G ca_NoUnits
    g_NoUnits := ⟨_, PySem.W.mg_of X G ca_NoUnits, rfl⟩
    kc_NoUnits := cb_NoUnits
    xc_NoUnits := xc_of cc_NoUnits
    xh_NoUnits := xh_of cc_NoUnits
    xi_NoUnits := cx_NoUnits
    mc_NoPlan := PySem.W.mg_of X G ca_NoPlan
    g_NoPlan := ⟨_, PySem.W.mg_of X G ca_NoPlan, rfl⟩
    kc_NoPlan := cb_NoPlan
    xc_NoPlan := xc_of cc_NoPlan
    xh_NoPlan := xh_of cc_NoPlan
    xi_NoPlan := cx_NoPlan
    fn_NoPlan := cg_NoPlan
    Fi_NoPlan := fun_mk (st := s_NoPlan___init__) cl_NoPlan co_NoPlan ck_NoPlan
    Bi_NoPlan := (fun_mk (st := s_NoPlan___init__) cl_NoPlan co_NoPlan ck_NoPlan).binds (ps := ["self", "place"]) fun _ _ _ _ _ _ us hl => (by obtain ⟨_, _, rfl⟩ := us2 hl; rfl)
    sx_NoPlan_place := xs_of cs_NoPlan_place
    mc_NoLevel := PySem.W.mg_of X G ca_NoLevel
    g_NoLevel := ⟨_, PySem.W.mg_of X G ca_NoLevel, rfl⟩
    kc_NoLevel := cb_NoLevel
    xc_NoLevel := xc_of cc_NoLevel
    xh_NoLevel := xh_of cc_NoLevel
    xi_NoLevel := cx_NoLevel
    tn := fact_tn
    tu := fact_tu
    a1 := fact_a1
    a2 := fact_a2
    u1 := fact_u1
    u2 := fact_u2
    z_ValueError := PySem.W.mg_none_of X G z0
    z_all := PySem.W.mg_none_of X G z1
    z_enumerate := PySem.W.mg_none_of X G z2
    z_int := PySem.W.mg_none_of X G z3
    z_isinstance := PySem.W.mg_none_of X G z4
    z_len := PySem.W.mg_none_of X G z5
    z_list := PySem.W.mg_none_of X G z6
    z_max := PySem.W.mg_none_of X G z7
    z_min := PySem.W.mg_none_of X G z8
    z_range := PySem.W.mg_none_of X G z9
    z_str := PySem.W.mg_none_of X G z10
    z_tuple := PySem.W.mg_none_of X G z11
    bl := fun s u => .of_eq rfl }
end My
open PySem PySem.W PyProof.Rows
set_option maxRecDepth 100000 in
set_option maxHeartbeats 0 in
theorem PySem.Challenge.cw_fewspeak_k04_lines_refused_holds : PySem.Challenge.rw_fewspeak_k04_lines_refused.Holds := by
  w_on; o_law; k_head; (case hw => w_witness2)
  k_fill
  refine L2.walk_ofK (l := PySem.Challenge.rw_fewspeak_k04_lines_refused) (n := 63) (k := My.lawK) (x := "_law_script") (CX := L2.CX0) (sp := My.spLaw) rfl (by decide) rfl ⟨rfl, by decide, by decide⟩ (fun w h Y => PySem.W.kIn_of Y) ?F ?S ?C
  case F =>
    intro w mg fa h KX G hmg
    have T : ∃ a, My.Txt (L2.KOf KX) mg a := by
      dsimp only [L2.KOf]
      refine' My.txt_mk KX G ?a0 ?l0 ?c0 ?k0 ?a1 ?l1 ?c1 ?k1 ?a2 ?l2 ?c2 ?k2 ?a3 ?l3 ?c3 ?k3 ?a4 ?l4 ?c4 ?k4 ?a5 ?l5 ?c5 ?k5 ?a6 ?l6 ?c6 ?k6 ?a7 ?l7 ?c7 ?k7 ?a8 ?l8 ?c8 ?k8 ?a9 ?l9 ?c9 ?k9 ?a10 ?l10 ?c10 ?k10 ?a11 ?l11 ?c11 ?k11 ?a12 ?l12 ?c12 ?k12 ?a13 ?l13 ?c13 ?k13 ?a14 ?l14 ?c14 ?k14 ?a15 ?l15 ?c15 ?k15 ?a16 ?l16 ?c16 ?k16 ?a17 ?l17 ?c17 ?k17 ?a18 ?l18 ?c18 ?k18 ?a19 ?l19 ?c19 ?k19 ?a20 ?l20 ?c20 ?k20 ?a21 ?l21 ?c21 ?k21 ?a22 ?l22 ?c22 ?k22 ?a23 ?l23 ?c23 ?k23 ?a24 ?l24 ?c24 ?k24 ?a25 ?l25 ?c25 ?k25 ?a26 ?l26 ?c26 ?k26 ?a27 ?l27 ?c27 ?k27 ?b0 ?b1 ?b2 ?b3 ?b4 ?b5 ?b6 ?b7 ?b8 ?ca_SpeakError ?cb_SpeakError ?cc_SpeakError ?cx_SpeakError ?ca_NoListing ?cb_NoListing ?cc_NoListing ?cf_NoListing ?cx_NoListing ?cg_NoListing ?cl_NoListing ?co_NoListing ?ck_NoListing ?cs_NoListing_line ?cs_NoListing_word ?ca_NoUnits ?cb_NoUnits ?cc_NoUnits ?cx_NoUnits ?ca_NoPlan ?cb_NoPlan ?cc_NoPlan ?cf_NoPlan ?cx_NoPlan ?cg_NoPlan ?cl_NoPlan ?co_NoPlan ?ck_NoPlan ?cs_NoPlan_place ?ca_NoLevel ?cb_NoLevel ?cc_NoLevel ?cx_NoLevel ?fact_tn ?fact_tu ?fact_a1 ?fact_a2 ?fact_u1 ?fact_u2 ?z0 ?z1 ?z2 ?z3 ?z4 ?z5 ?z6 ?z7 ?z8 ?z9 ?z10 ?z11 ?r0 ?r1 ?r2 ?r3 ?r4 ?r5 ?r6 ?r7 ?r8
      (case a0 => k_is)
      (case l0 => k_is)
      (case c0 => k_is)
      (case k0 => k_is)
      (case a1 => k_is)
      (case l1 => k_is)
      (case c1 => k_is)
      (case k1 => k_is)
      (case a2 => k_is)
      (case l2 => k_is)
      (case c2 => k_is)
      (case k2 => k_is)
      (case a3 => k_is)
      (case l3 => k_is)
      (case c3 => k_is)
      (case k3 => k_is)
      (case a4 => k_is)
      (case l4 => k_is)
      (case c4 => k_is)
      (case k4 => k_is)
      (case a5 => k_is)
      (case l5 => k_is)
      (case c5 => k_is)
      (case k5 => k_is)
      (case a6 => k_is)
      (case l6 => k_is)
      (case c6 => k_is)
      (case k6 => k_is)
      (case a7 => k_is)
      (case l7 => k_is)
      (case c7 => k_is)
      (case k7 => k_is)
      (case a8 => k_is)
      (case l8 => k_is)
      (case c8 => k_is)
      (case k8 => k_is)
      (case a9 => k_is)
      (case l9 => k_is)
      (case c9 => k_is)
      (case k9 => k_is)
      (case a10 => k_is)
      (case l10 => k_is)
      (case c10 => k_is)
      (case k10 => k_is)
      (case a11 => k_is)
      (case l11 => k_is)
      (case c11 => k_is)
      (case k11 => k_is)
      (case a12 => k_is)
      (case l12 => k_is)
      (case c12 => k_is)
      (case k12 => k_is)
      (case a13 => k_is)
      (case l13 => k_is)
      (case c13 => k_is)
      (case k13 => k_is)
      (case a14 => k_is)
      (case l14 => k_is)
      (case c14 => k_is)
      (case k14 => k_is)
      (case a15 => k_is)
      (case l15 => k_is)
      (case c15 => k_is)
      (case k15 => k_is)
      (case a16 => k_is)
      (case l16 => k_is)
      (case c16 => k_is)
      (case k16 => k_is)
      (case a17 => k_is)
      (case l17 => k_is)
      (case c17 => k_is)
      (case k17 => k_is)
      (case a18 => k_is)
      (case l18 => k_is)
      (case c18 => k_is)
      (case k18 => k_is)
      (case a19 => k_is)
      (case l19 => k_is)
      (case c19 => k_is)
      (case k19 => k_is)
      (case a20 => k_is)
      (case l20 => k_is)
      (case c20 => k_is)
      (case k20 => k_is)
      (case a21 => k_is)
      (case l21 => k_is)
      (case c21 => k_is)
      (case k21 => k_is)
      (case a22 => k_is)
      (case l22 => k_is)
      (case c22 => k_is)
      (case k22 => k_is)
      (case a23 => k_is)
      (case l23 => k_is)
      (case c23 => k_is)
      (case k23 => k_is)
      (case a24 => k_is)
      (case l24 => k_is)
      (case c24 => k_is)
      (case k24 => k_is)
      (case a25 => k_is)
      (case l25 => k_is)
      (case c25 => k_is)
      (case k25 => k_is)
      (case a26 => k_is)
      (case l26 => k_is)
      (case c26 => k_is)
      (case k26 => k_is)
      (case a27 => k_is)
      (case l27 => k_is)
      (case c27 => k_is)
      (case k27 => k_is)
      (case b0 => k_is)
      (case b1 => k_is)
      (case b2 => k_is)
      (case b3 => k_is)
      (case b4 => k_is)
      (case b5 => k_is)
      (case b6 => k_is)
      (case b7 => k_is)
      (case b8 => k_is)
      (case ca_SpeakError => k_is)
      (case cb_SpeakError => k_is)
      (case cc_SpeakError => kernel_rfl)
      (case cx_SpeakError => kernel_rfl)
      (case ca_NoListing => k_is)
      (case cb_NoListing => k_is)
      (case cc_NoListing => kernel_rfl)
      (case cf_NoListing => k_is)
      (case cx_NoListing => kernel_rfl)
      (case cg_NoListing => k_is)
      (case cl_NoListing => k_is)
      (case co_NoListing => k_is)
      (case ck_NoListing => k_is)
      (case cs_NoListing_line => kernel_rfl)
      (case cs_NoListing_word => kernel_rfl)
      (case ca_NoUnits => k_is)
      (case cb_NoUnits => k_is)
      (case cc_NoUnits => kernel_rfl)
      (case cx_NoUnits => kernel_rfl)
      (case ca_NoPlan => k_is)
      (case cb_NoPlan => k_is)
      (case cc_NoPlan => kernel_rfl)
      (case cf_NoPlan => k_is)
      (case cx_NoPlan => kernel_rfl)
      (case cg_NoPlan => k_is)
      (case cl_NoPlan => k_is)
      (case co_NoPlan => k_is)
      (case ck_NoPlan => k_is)
      (case cs_NoPlan_place => kernel_rfl)
      (case ca_NoLevel => k_is)
      (case cb_NoLevel => k_is)
      (case cc_NoLevel => kernel_rfl)
      (case cx_NoLevel => kernel_rfl)
      (case fact_tn => kernel_rfl)
      (case fact_tu => kernel_rfl)
      (case fact_a1 => kernel_rfl)
      (case fact_a2 => kernel_rfl)
      (case fact_u1 => kernel_rfl)
      (case fact_u2 => kernel_rfl)
      (case z0 => k_is)
      (case z1 => k_is)
      (case z2 => k_is)
      (case z3 => k_is)
      (case z4 => k_is)
      (case z5 => k_is)
      (case z6 => k_is)
      (case z7 => k_is)
      (case z8 => k_is)
      (case z9 => k_is)
      (case z10 => k_is)
      (case z11 => k_is)
      (case r0 => first | exact rfl | exact ⟨_, rfl⟩)
      (case r1 => first | exact rfl | exact ⟨_, rfl⟩)
      (case r2 => first | exact rfl | exact ⟨_, rfl⟩)
      (case r3 => first | exact rfl | exact ⟨_, rfl⟩)
      (case r4 => first | exact rfl | exact ⟨_, rfl⟩)
      (case r5 => first | exact rfl | exact ⟨_, rfl⟩)
      (case r6 => first | exact rfl | exact ⟨_, rfl⟩)
      (case r7 => first | exact rfl | exact ⟨_, rfl⟩)
      (case r8 => first | exact rfl | exact ⟨_, rfl⟩)
    obtain ⟨a, T⟩ := T
    have e0 := hmg.symm.trans T.m_law
    cases e0
    refine' ⟨a.d_law, ?b, fun base kb nb => My.ok_law T⟩
    exact T.bl
  case S => exact fun K H a ns hl hO hS => My.law_start hl hO hS
  case C => exact fun H s e s' z => z

