import PyProof.Rows.All
import Wide.All
import OpenK.AllK
import Wide.FinOn
import Lean
import PyProof.EqAt
import PyProof.EqKinds
import PyProof.TupleCall
import PySem.Challenge.RW_fewspeak_k23_starts_and_loose_ones_throw
set_option Elab.async false
set_option linter.all false
set_option maxRecDepth 100000
namespace L2
open PySem PySem.Spec PyProof.Rows
abbrev Key := Sum Int Str
def keyIs : Key → Value → Bool
  | .inl k, v => Value.isInt k v
  | .inr x, v => Value.isStrOf x v
def keyH (w : World) : Key → Int
  | .inl k => hashInt k
  | .inr x => hashStr w x
theorem keyIs_shape : ∀ {k : Key} {v : Value}, keyIs k v = true → (∃ i t, k = Sum.inl i ∧ v = Value.int i t) ∨ (∃ x t, k = Sum.inr x ∧ v = Value.str x t)
  | .inl i, v, h => by
    obtain ⟨t, e⟩ := Value.isInt_shape (k := i) (v := v) h
    exact .inl ⟨i, t, rfl, e⟩
  | .inr x, v, h => by
    obtain ⟨t, e⟩ := Value.isStrOf_shape (x := x) (v := v) h
    exact .inr ⟨x, t, rfl, e⟩
theorem key_ll (a b : Int) : decide ((Sum.inl a : Key) = Sum.inl b) = (a == b) := by
  by_cases e : a = b
  · subst e; simp
  · have h : ¬ (Sum.inl a : Key) = Sum.inl b := fun q => e (Sum.inl.inj q)
    rw [decide_eq_false h]
    exact (beq_eq_false_iff_ne.mpr e).symm
theorem key_rr (a b : Str) : decide ((Sum.inr a : Key) = Sum.inr b) = decide (a = b) := by
  by_cases e : a = b
  · subst e; simp
  · have h : ¬ (Sum.inr a : Key) = Sum.inr b := fun q => e (Sum.inr.inj q)
    rw [decide_eq_false h, decide_eq_false e]
theorem key_lr (a : Int) (b : Str) : decide ((Sum.inl a : Key) = Sum.inr b) = false := decide_eq_false (fun q => nomatch q)
theorem key_rl (a : Str) (b : Int) : decide ((Sum.inr a : Key) = Sum.inl b) = false := decide_eq_false (fun q => nomatch q)
def mixKind (prog : Program) (w : World) : PySem.KeyKind prog w Key where
  is := keyIs
  hash := keyH w
  inj := fun v a b ha hb => by
    rcases keyIs_shape ha with ⟨i, t, rfl, rfl⟩ | ⟨x, t, rfl, rfl⟩
    · rcases keyIs_shape hb with ⟨j, u, rfl, e⟩ | ⟨y, u, rfl, e⟩
      · injection e with e1 _; rw [e1]
      · exact nomatch e
    · rcases keyIs_shape hb with ⟨j, u, rfl, e⟩ | ⟨y, u, rfl, e⟩
      · exact nomatch e
      · injection e with e1 _; rw [e1]
  byValue := fun k v h => by
    rcases keyIs_shape h with ⟨i, t, rfl, rfl⟩ | ⟨x, t, rfl, rfl⟩ <;> rfl
  pyHash := fun hv h => by
    rcases keyIs_shape hv with ⟨i, t, rfl, rfl⟩ | ⟨x, t, rfl, rfl⟩
    · exact wpAny_pyHash_int h
    · exact wpAny_pyHash_str h
  eqBool := fun hu hv h => by
    rcases keyIs_shape hu with ⟨i, t, rfl, rfl⟩ | ⟨x, t, rfl, rfl⟩
    · rcases keyIs_shape hv with ⟨j, u, rfl, rfl⟩ | ⟨y, u, rfl, rfl⟩
      · rw [key_ll] at h; exact wpAny_eqBool_int h
      · rw [key_lr] at h; exact SeqAt.EqAt.int_str i t y u _ _ _ _ h
    · rcases keyIs_shape hv with ⟨j, u, rfl, rfl⟩ | ⟨y, u, rfl, rfl⟩
      · rw [key_rl] at h; exact SeqAt.EqAt.str_int x t j u _ _ _ _ h
      · rw [key_rr] at h; exact wpAny_eqBool_str h
  «strs» := fun k x t v h => by
    rcases keyIs_shape h with ⟨i, u, rfl, e⟩ | ⟨y, u, rfl, e⟩
    · exact nomatch e
    · injection e with e1 _
      subst e1
      cases v <;> rfl
end L2
namespace L2
open PySem PySem.Spec PyProof.Rows
inductive V where
  | non | bl (b : Bool) | int (i : Int) | str (x : Str) | byt (b : Array UInt8) | flt (b : UInt64) | ref (a : Addr) | ty (n : String)
  deriving DecidableEq
def RelV : V → Value → Prop
  | .non, u => u = Value.none
  | .bl b, u => u = Value.bool b
  | .int i, u => ∃ t, u = Value.int i t
  | .str x, u => ∃ t, u = Value.str x t
  | .byt b, u => ∃ t, u = Value.bytes b t
  | .flt b, u => ∃ t, u = Value.float b t
  | .ref a, u => u = Value.ref a
  | .ty n, u => u = Value.type n
abbrev Vals : List V → List Value → Prop := Paired RelV
theorem Vals.length {xs : List V} {us : List Value} (r : Vals xs us) : xs.length = us.length := Paired.length r
theorem Vals.get : ∀ {xs : List V} {us : List Value} {i : Nat} {x : V}, Vals xs us → xs[i]? = some x → ∃ u, us[i]? = some u ∧ RelV x u
  | _, _, _, _, .nil, e => by simp at e
  | _, _, 0, _, .cons r _, e => by simp at e; subst e; exact ⟨_, rfl, r⟩
  | _, _, i + 1, x, .cons _ t, e => by
    obtain ⟨u, h1, h2⟩ := Vals.get (i := i) (x := x) t (by simpa using e)
    exact ⟨u, by simpa using h1, h2⟩
theorem Vals.set {x : V} {u : Value} (r : RelV x u) : ∀ {xs : List V} {us : List Value} (i : Nat), Vals xs us → Vals (xs.set i x) (us.set i u)
  | _, _, _, .nil => .nil
  | _, _, 0, .cons _ t => .cons r t
  | _, _, i + 1, .cons q t => .cons q (Vals.set r i t)
theorem Vals.append : ∀ {xs ys : List V} {us ws : List Value}, Vals xs us → Vals ys ws → Vals (xs ++ ys) (us ++ ws)
  | _, _, _, _, .nil, s => s
  | _, _, _, _, .cons r t, s => .cons r (Vals.append t s)
theorem Vals.take : ∀ {xs : List V} {us : List Value} (n : Nat), Vals xs us → Vals (xs.take n) (us.take n)
  | _, _, 0, _ => .nil
  | _, _, _ + 1, .nil => .nil
  | _, _, n + 1, .cons r t => .cons r (Vals.take n t)
theorem Vals.drop : ∀ {xs : List V} {us : List Value} (n : Nat), Vals xs us → Vals (xs.drop n) (us.drop n)
  | _, _, 0, r => r
  | _, _, _ + 1, .nil => .nil
  | _, _, n + 1, .cons _ t => Vals.drop n t
def RelO : Option V → Option Value → Prop
  | some v, some u => RelV v u
  | none, none => True
  | _, _ => False
def KV {κ : Type} : List (κ × V) → List (κ × Value) → Prop := Paired fun (p : κ × V) (q : κ × Value) => p.1 = q.1 ∧ RelV p.2 q.2
def kV : Key → V
  | .inl i => .int i
  | .inr x => .str x
inductive HO where
  | lst (xs : List V)
  | tup (xs : List V)
  | dK (kvs : List (Key × V)) | dT (kvs : List (List Key × V))
  | set (S : Int → Bool) (n : Nat)
  | ins (C dx : Addr) (fs : List (Str × V))
  | own (x : Addr)
  | xd (fs : List (Str × V))
  | met (f x : Addr)
  | rng (lo hi : Int)
  | frz (o : Obj) (u : HO)
  | tbl (ps : Array Value)
  | ext (φ : Heap → Prop)
abbrev Hp := Addr → Option HO
def upd (H : Hp) (a : Addr) (o : HO) : Hp := fun b => if b = a then some o else H b
theorem upd_same {H : Hp} {a : Addr} {o : HO} : upd H a o a = some o := by unfold upd; rw [if_pos rfl]
theorem upd_ne {H : Hp} {a b : Addr} {o : HO} (h : b ≠ a) : upd H a o b = H b := by unfold upd; rw [if_neg h]
theorem upd_upd {H : Hp} {a : Addr} {o u : HO} : upd (upd H a o) a u = upd H a u := by
  funext b; unfold upd; split <;> rfl
theorem ne_of {H : Hp} {a b : Addr} {o u : HO} (h : H a = some o) (h' : H b = some u) (d : o ≠ u) : a ≠ b := by
  intro e; subst e; rw [h] at h'; exact d (Option.some.inj h')
theorem ne_of_none {H : Hp} {a b : Addr} {o : HO} (h : H a = some o) (h' : H b = none) : a ≠ b := by
  intro e; subst e; rw [h] at h'; cases h'
section
variable (P : Program) (w : World)
def ObjOk (H : Hp) (h : Heap) (a : Addr) : HO → Prop
  | .lst xs => xs.length ≤ sizeLine ∧ ∃ (its : List Value) (n : Nat), Vals xs its ∧ h.get? a = some { cls := .type "list", data := .seq its.toArray n }
  | .tup xs => xs.length ≤ sizeLine ∧ ∃ its : List Value, Vals xs its ∧ IsTup h a its.toArray
  | .dK kvs => kvs.length ≤ sizeLine ∧ (a == sysModules) = false ∧ ∃ vs, KV kvs vs ∧ h.DictOf (mixKind P w) a vs
  | .dT kvs => kvs.length ≤ sizeLine ∧ (a == sysModules) = false ∧ ∃ xs : List (List Key × Addr × Value),
      Paired (fun (p : List Key × V) (q : List Key × Addr × Value) => p.1 = q.1 ∧ H q.2.1 = some (.tup (p.1.map kV)) ∧ RelV p.2 q.2.2) kvs xs ∧
      ∃ o es ep, h.get? a = some o ∧ o.ExactDict ∧ o.data = .dict es ep ∧ es.toList = xs.map (entryOfKey (tupleKind (mixKind P w))) ∧ (xs.map (·.1)).Nodup
  | .set S n => h.SetOf (intKind P w) a S n
  | .ins C dx fs => H dx = some (.own a) ∧ fs.length ≤ 1000 ∧ dx ≠ a ∧ h.get? a = some (PySem.W.instObj C dx) ∧
      ∃ mA, h.Ns1 dx mA ∧ (∀ f, RelO (fs.lookup f) (mA f)) ∧ PySem.Within mA (fs.map (·.1))
  | .own _ => ∃ o, h.get? a = some o
  | .xd fs => ∃ mA, h.Ns1 a mA ∧ ∀ f, RelO (fs.lookup f) (mA f)
  | .rng lo hi => ∃ t u v, h.get? a = some { cls := .type "range", data := .fields #[.int lo t, .int hi u, .int 1 v] }
  | .frz o u => h.get? a = some o ∧ ObjOk H h a u
  | .tbl ps => h.get? a = some { cls := .none, data := .fields ps }
  | .met f x => h.get? a = some (PySem.W.methodObj (.ref f) (.ref x))
  | .ext φ => φ h ∧ (∃ o, h.get? a = some o) ∧ ∀ h1 h2 : Heap, φ h1 → (∀ o, h1.get? a = some o → h2.get? a = some o) → φ h2
def HOk (H : Hp) (h : Heap) : Prop := ∀ a o, H a = some o → ObjOk P w H h a o
end
section
variable {P : Program} {w : World} {H H' : Hp} {h h' : Heap} {a : Addr} {o : HO}
theorem ObjOk.lt (x : ObjOk P w H h a o) : a < h.objs.size := by
  cases o with
  | lst xs => obtain ⟨_, _, _, _, e⟩ := x; exact Heap.lt_size e
  | tup xs => obtain ⟨_, _, _, p⟩ := x; exact p.lt
  | dK kvs => obtain ⟨_, _, _, _, o, _, _, e, _⟩ := x; exact Heap.lt_size e
  | dT kvs => obtain ⟨_, _, _, _, o, _, _, e, _⟩ := x; exact Heap.lt_size e
  | set S n => obtain ⟨o, _, _, _, e, _⟩ := x; exact Heap.lt_size e
  | ins C dx fs => obtain ⟨_, _, _, e, _⟩ := x; exact Heap.lt_size e
  | own y => obtain ⟨_, e⟩ := x; exact Heap.lt_size e
  | xd fs => obtain ⟨_, ⟨_, _, _, e, _⟩, _⟩ := x; exact Heap.lt_size e
  | rng lo hi => obtain ⟨_, _, _, e⟩ := x; exact Heap.lt_size e
  | frz ob u => obtain ⟨e, _⟩ := x; exact Heap.lt_size e
  | tbl ps => exact Heap.lt_size (show h.get? a = some _ from x)
  | met f y => exact Heap.lt_size (show h.get? a = some _ from x)
  | ext φ => obtain ⟨_, ⟨_, e⟩, _⟩ := x; exact Heap.lt_size e
theorem Paired.mapP {α β : Type} {F G : α → β → Prop} : ∀ {l₁ : List α} {l₂ : List β}, Paired F l₁ l₂ → (∀ a b, F a b → G a b) → Paired G l₁ l₂
  | _, _, .nil, _ => .nil
  | _, _, .cons r t, f => .cons (f _ _ r) (Paired.mapP t f)
theorem ObjOk.stay (x : ObjOk P w H h a o) (k : ∀ b u, (b = a ∨ H b = some (.own a)) → h.get? b = some u → h'.get? b = some u)
    (ho : ∀ b, H b = some (.own a) → H' b = some (.own a)) (ht : ∀ b xs, H b = some (.tup xs) → H' b = some (.tup xs)) : ObjOk P w H' h' a o := by
  induction o with
  | lst xs => obtain ⟨z, its, n, r, e⟩ := x; exact ⟨z, its, n, r, k _ _ (.inl rfl) e⟩
  | tup xs => obtain ⟨z, its, r, ob, e, c⟩ := x; exact ⟨z, its, r, ob, k _ _ (.inl rfl) e, c⟩
  | dK kvs => obtain ⟨z, y, vs, r, ob, es, ep, e, c⟩ := x; exact ⟨z, y, vs, r, ob, es, ep, k _ _ (.inl rfl) e, c⟩
  | dT kvs =>
    obtain ⟨z, y, xs, r, ob, es, ep, e, c⟩ := x
    exact ⟨z, y, xs, Paired.mapP r fun p q z => ⟨z.1, ht _ _ z.2.1, z.2.2⟩, ob, es, ep, k _ _ (.inl rfl) e, c⟩
  | set S n => obtain ⟨ob, es, ep, t, e, c⟩ := x; exact ⟨ob, es, ep, t, k _ _ (.inl rfl) e, c⟩
  | ins C dx fs =>
    obtain ⟨d, z, ne, e, mA, ⟨od, es, ep, e2, c⟩, r⟩ := x
    exact ⟨ho _ d, z, ne, k _ _ (.inl rfl) e, mA, ⟨od, es, ep, k _ _ (.inr d) e2, c⟩, r⟩
  | own y => obtain ⟨ob, e⟩ := x; exact ⟨ob, k _ _ (.inl rfl) e⟩
  | xd fs => obtain ⟨mA, ⟨od, es, ep, e, c⟩, r⟩ := x; exact ⟨mA, ⟨od, es, ep, k _ _ (.inl rfl) e, c⟩, r⟩
  | rng lo hi => obtain ⟨t, u, v, e⟩ := x; exact ⟨t, u, v, k _ _ (.inl rfl) e⟩
  | frz ob u ih => obtain ⟨e, q⟩ := x; exact ⟨k _ _ (.inl rfl) e, ih q⟩
  | tbl ps =>
    have e : h.get? a = some { cls := .none, data := .fields ps } := x
    show h'.get? a = some { cls := .none, data := .fields ps }
    exact k a _ (.inl rfl) e
  | met f y =>
    have e : h.get? a = some (PySem.W.methodObj (.ref f) (.ref y)) := x
    show h'.get? a = some (PySem.W.methodObj (.ref f) (.ref y))
    exact k a _ (.inl rfl) e
  | ext φ => obtain ⟨p, ⟨o, e⟩, st⟩ := x; exact ⟨st _ _ p fun o q => k _ _ (.inl rfl) q, ⟨o, k _ _ (.inl rfl) e⟩, st⟩
theorem HOk.lt (x : HOk P w H h) (e : H a = some o) : a < h.objs.size := (x a o e).lt
theorem HOk.fresh (x : HOk P w H h) (e : h.objs.size ≤ a) : H a = none := by
  cases q : H a with
  | none => rfl
  | some u => exact absurd (Nat.lt_of_lt_of_le (x.lt q) e) (Nat.lt_irrefl _)
theorem HOk.kept (x : HOk P w H h) (k : ∀ b u, h.get? b = some u → h'.get? b = some u) : HOk P w H h' := fun a o e =>
  (x a o e).stay (fun b u _ q => k b u q) (fun _ q => q) fun _ _ q => q
theorem HOk.laid (x : HOk P w H h) (k : ∀ b u, h.get? b = some u → h'.get? b = some u) (hp : h.objs.size ≤ a) (new : ObjOk P w (upd H a o) h' a o) : HOk P w (upd H a o) h' := fun b u e => by
  have hn := x.fresh hp
  by_cases hb : b = a
  · subst hb; rw [upd_same] at e; cases e; exact new
  · rw [upd_ne hb] at e
    exact (x b u e).stay (fun c v _ q => k c v q) (fun c q => by rw [upd_ne (ne_of_none q hn)]; exact q) fun c xs q => by rw [upd_ne (ne_of_none q hn)]; exact q
end
def Rd (H : Hp) (a : Addr) (u : HO) : Prop := H a = some u ∨ ∃ o, H a = some (.frz o u)
theorem Rd.ok {P : Program} {w : World} {H : Hp} {h : Heap} {a : Addr} {u : HO} (r : Rd H a u) (x : HOk P w H h) : ObjOk P w H h a u := by
  rcases r with r | ⟨o, r⟩
  · exact x a u r
  · obtain ⟨_, q⟩ := x a _ r
    exact q
def Mut : Option HO → Prop
  | some (.lst _) => True
  | some (.dK _) => True
  | some (.dT _) => True
  | some (.set _ _) => True
  | some (.ins _ _ _) => True
  | some (.ext _) => True
  | _ => False
section
variable {P : Program} {w : World} {H : Hp} {h h' : Heap} {x e : Addr} {o' : HO}
theorem HOk.write (ok : HOk P w H h) (mu : Mut (H x)) (he : e = x ∨ H e = some (.own x)) (k : ∀ b u, b ≠ e → h.get? b = some u → h'.get? b = some u) (heo : ∃ u, h'.get? e = some u)
    (new : ObjOk P w (upd H x o') h' x o') : HOk P w (upd H x o') h' := fun b u q => by
  have nown : ∀ c y, H c = some (.own y) → c ≠ x := fun c y r z => by subst z; rw [r] at mu; exact mu
  have ntup : ∀ c xs, H c = some (.tup xs) → c ≠ x := fun c xs r z => by subst z; rw [r] at mu; exact mu
  by_cases hb : b = x
  · subst hb; rw [upd_same] at q; cases q; exact new
  · rw [upd_ne hb] at q
    by_cases hbe : b = e
    · have q' : H b = some (.own x) := by
        rcases he with z | z
        · exact absurd (hbe.trans z) hb
        · rw [hbe]; exact z
      rw [q] at q'; cases q'
      obtain ⟨v, hv⟩ := heo
      exact ⟨v, by rw [hbe]; exact hv⟩
    · refine (ok b u q).stay (fun c v hc r => k c v ?_ r) (fun c r => by rw [upd_ne (nown c b r)]; exact r) fun c xs r => by rw [upd_ne (ntup c xs r)]; exact r
      rcases hc with rfl | hc
      · exact hbe
      · rintro rfl
        rcases he with z | z
        · exact nown c b hc z
        · rw [hc] at z; cases z; exact hb rfl
end
structure Un (fs ex : List Addr) (H H' : Hp) (h h' : Heap) : Prop where
  keep : ∀ b o, h.get? b = some o → H b = none → b ∉ fs → b ∉ ex → h'.get? b = some o
  slot : ∀ b o, h.get? b = some o → H b = none → b ∈ fs → b ∉ ex → ∃ sl, h'.get? b = some { o with slots := sl }
  free : ∀ b o, h.get? b = some o → H b = none → b ∉ ex → H' b = none
  there : ∀ b o, h.get? b = some o → b ∉ ex → ∃ o', h'.get? b = some o'
  tups : ∀ b xs, H b = some (.tup xs) → H' b = some (.tup xs)
  frzs : ∀ b o u, H b = some (.frz o u) → H' b = some (.frz o u)
  tbls : ∀ b ps, H b = some (.tbl ps) → ∃ more, H' b = some (.tbl (ps ++ more))
section
variable {fs fs' ex ex' : List Addr} {H H1 H2 : Hp} {h h1 h2 h' : Heap} {a x e : Addr} {o : HO}
theorem Un.any (u : Un fs ex H H1 h h1) {b : Addr} {ob : Obj} (q : h.get? b = some ob) (n : H b = none) (hx : b ∉ ex) : ∃ sl, h1.get? b = some { ob with slots := sl } := by
  by_cases hb : b ∈ fs
  · exact u.slot b ob q n hb hx
  · exact ⟨ob.slots, u.keep b ob q n hb hx⟩
theorem Un.trans (a : Un fs ex H H1 h h1) (b : Un fs ex H1 H2 h1 h2) : Un fs ex H H2 h h2 where
  keep := fun c ob q n hc hx => b.keep c ob (a.keep c ob q n hc hx) (a.free c ob q n hx) hc hx
  slot := fun c ob q n hc hx => by
    obtain ⟨sl, e1⟩ := a.slot c ob q n hc hx
    obtain ⟨sl', e2⟩ := b.slot c _ e1 (a.free c ob q n hx) hc hx
    exact ⟨sl', e2⟩
  free := fun c ob q n hx => by
    obtain ⟨o', e1⟩ := a.there c ob q hx
    exact b.free c o' e1 (a.free c ob q n hx) hx
  there := fun c ob q hx => by
    obtain ⟨o', e1⟩ := a.there c ob q hx
    exact b.there c o' e1 hx
  tups := fun c xs q => b.tups c xs (a.tups c xs q)
  frzs := fun c ob xs q => b.frzs c ob xs (a.frzs c ob xs q)
  tbls := fun c ps q => by
    obtain ⟨m1, e1⟩ := a.tbls c ps q
    obtain ⟨m2, e2⟩ := b.tbls c _ e1
    exact ⟨m1 ++ m2, by rw [e2, Array.append_assoc]⟩
theorem Un.kept (k : ∀ b u, h.get? b = some u → h'.get? b = some u) : Un fs ex H H h h' :=
  ⟨fun b ob q _ _ _ => k b ob q, fun b ob q _ _ _ => ⟨ob.slots, k b ob q⟩, fun _ _ _ n _ => n, fun b ob q _ => ⟨ob, k b ob q⟩, fun _ _ q => q, fun _ _ _ q => q, fun _ ps q => ⟨#[], by rw [q]; simp⟩⟩
theorem Un.refl : Un fs ex H H h h := Un.kept fun _ _ q => q
theorem Un.laid (k : ∀ b u, h.get? b = some u → h'.get? b = some u) (hp : h.objs.size ≤ a) (hn : H a = none) : Un fs ex H (upd H a o) h h' where
  keep := fun b u q _ _ _ => k b u q
  slot := fun b u q _ _ _ => ⟨u.slots, k b u q⟩
  free := fun b u q n _ => by rw [upd_ne (Nat.ne_of_lt (Nat.lt_of_lt_of_le (Heap.lt_size q) hp))]; exact n
  there := fun b u q _ => ⟨u, k b u q⟩
  tups := fun b xs q => by rw [upd_ne (ne_of_none q hn)]; exact q
  frzs := fun b u xs q => by rw [upd_ne (ne_of_none q hn)]; exact q
  tbls := fun b ps q => ⟨#[], by rw [upd_ne (ne_of_none q hn), q]; simp⟩
theorem Un.write (mu : Mut (H x)) (he : e = x ∨ H e = some (.own x)) (k : ∀ b u, b ≠ e → h.get? b = some u → h'.get? b = some u) (heo : ∃ u, h'.get? e = some u) : Un fs ex H (upd H x o) h h' := by
  have hx : ∀ b, H b = none → b ≠ x := fun b n z => by subst z; rw [n] at mu; exact mu
  have hb : ∀ b, H b = none → b ≠ e := fun b n z => by
    subst z
    rcases he with r | r
    · exact hx b n r
    · rw [n] at r; cases r
  have hm : ∀ b u, H b = some u → ¬ Mut (some u) → b ≠ x := fun b u q nm z => by subst z; rw [q] at mu; exact nm mu
  refine ⟨fun b u q n _ _ => k b u (hb b n) q, fun b u q n _ _ => ⟨u.slots, k b u (hb b n) q⟩, fun b u q n _ => by rw [upd_ne (hx b n)]; exact n, fun b u q _ => ?_,
    fun b xs q => by rw [upd_ne (hm b _ q fun z => z)]; exact q, fun b u xs q => by rw [upd_ne (hm b _ q fun z => z)]; exact q, fun b ps q => ⟨#[], by rw [upd_ne (hm b _ q fun z => z), q]; simp⟩⟩
  by_cases hbe : b = e
  · subst hbe; exact heo
  · exact ⟨u, k b u hbe q⟩
end
def trk (h : Heap) (H : Hp) : List Addr := (List.range h.objs.size).filter fun a => (H a).isSome
def hidT (h : Heap) (H : Hp) : Heap := PySem.W.hideAll h (trk h H)
theorem hidT_size (h : Heap) (H : Hp) : (hidT h H).objs.size = h.objs.size := PySem.W.hideAll_size _ _
theorem hidT_get {h : Heap} {H : Hp} {b : Addr} {o : Obj} (e : h.get? b = some o) (n : H b = none) : (hidT h H).get? b = some o :=
  PySem.W.hideAll_get _ e fun hm => by
    have q : (H b).isSome = true := (List.mem_filter.mp hm).2
    rw [n] at q; simp at q
theorem of_hidT {h : Heap} {H : Hp} {b : Addr} {o : Obj} (e : (hidT h H).get? b = some o) : h.get? b = some o ∧ H b = none := by
  have e' : h.get? b = some o := PySem.W.of_hideAll (trk h H) e
  refine ⟨e', ?_⟩
  cases q : H b with
  | none => rfl
  | some x =>
    have hm : b ∈ trk h H := List.mem_filter.mpr ⟨List.mem_range.mpr (Heap.lt_size e'), by simp [q]⟩
    have z : (hidT h H).get? b = none := PySem.W.hideAll_none (trk h H) hm
    rw [z] at e; cases e
def allNews (g h : Heap) (L : Addr) : List (Addr × Obj) := (List.range h.objs.size).filterMap fun a => if a = L ∨ (g.get? a).isSome = true then none else (h.get? a).map fun o => (a, o)
def rest (g h : Heap) (L d : Addr) : List (Addr × Obj) := (allNews g h L).filter fun p => decide (p.1 ≠ d)
end L2
namespace L2
open PySem PySem.Spec PyProof.Rows
structure Mod (K : PySem.W.Frag) (mg : Str → Option Value) (base : Heap) : Prop where
  kin : K.In base
  glob : base.Ns mainGlobals mg
  blt : ∃ mb, base.Ns builtinsNs mb ∧ ∀ x : Str, x ≠ "__name__" → mb x = bootBuiltins x
  nolimit : base.NoLimit
/-- the context: a def's body (or a comprehension's block) running. base: fixed through the whole law; s₀, H₀: the entry; outer: the frames whose slots others may change (a def's callers); stack: all frames that run;
   ex: iterators that were made ahead of the entry and are walked here (a comprehension's); fn: the names whose cells were made at the entry (a def: all; a comprehension's block: its own); calm: not within an except suite; pn: pins that every state bears; xe: what is wanted of an exception that leaves the code -/
structure Cx where
  prog : Program
  w : World
  K : PySem.W.Frag
  mg : Str → Option Value
  base : Heap
  A : Around
  N : List Str
  s₀ : Shared
  H₀ : Hp
  env : Env
  outer : List Env
  stack : List Env
  ex : List Addr
  fn : Str → Bool
  calm : Bool
  pn : List (Addr × Obj)
  xe : Value → Shared → Prop
def frs (l : List Env) : List Addr := l.filterMap (·.frame)
abbrev Cx.fs (X : Cx) : List Addr := frs X.outer
def Vis (sc : Scope) (x : Str) : Prop := sc.names.lookup x = some .local ∨ sc.names.lookup x = some .cell ∨ sc.names.lookup x = some .free
def Loc (sc : Scope) (x : Str) : Prop := sc.names.lookup x = some .local ∨ sc.names.lookup x = some .cell
def Look (env : Env) (h : Heap) (m : Str → Option Value) (x : Str) (u : Value) : Prop :=
  (env.kindOf x = some .local ∧ m x = some u) ∨ ((env.kindOf x = some .cell ∨ env.kindOf x = some .free) ∧ ∃ c, env.cells.lookup x = some c ∧ h.IsCell c (some u))
structure Cx.Ok (X : Cx) : Prop where
  mod : Mod X.K X.mg X.base
  kind : X.env.scope.kind = .function
  glob : X.env.globals = mainGlobals
  blt : X.env.builtins = builtinsNs
  above : X.s₀.heap.objs.size ≤ X.env.locals
  inj : ∀ x y c, X.env.cells.lookup x = some c → X.env.cells.lookup y = some c → x = y
  has : ∀ x, (X.env.kindOf x = some .cell ∨ X.env.kindOf x = some .free) → ∃ c, X.env.cells.lookup x = some c
  cab : ∀ x c, X.fn x = true → X.env.cells.lookup x = some c → X.s₀.heap.objs.size ≤ c
  hd : X.calm = true → X.A.handled = none
  frames : X.A.frames = some X.stack
  stk : X.stack = X.outer ∨ (X.stack = X.env :: X.outer ∧ X.env.frame = some X.env.locals)
  exf : ∀ b ∈ X.ex, b ≠ X.env.locals ∧ ∀ x c, X.env.cells.lookup x = some c → c ≠ b
  bs : ∀ b o, X.base.get? b = some o → X.s₀.heap.get? b = some o ∧ X.H₀ b = none
  bsz : X.base.objs.size ≤ X.s₀.heap.objs.size
  noex : ∀ b o, X.base.get? b = some o → b ∉ X.ex
  exfs : ∀ b ∈ X.ex, b ∉ X.fs
  funs : X.s₀.heap.FunFrames X.base X.outer
  frf : ∀ b ∈ X.fs, X.H₀ b = none
structure Inv (X : Cx) (pins : List (Addr × Obj)) (σ : List (Option V)) (H : Hp) (s : Shared) : Prop where
  ok : X.Ok
  os : s.os = X.s₀.os
  bare : AllBare s.gens
  base : Un X.fs X.ex X.H₀ H X.s₀.heap s.heap
  loc : ∃ m, s.heap.Ns X.env.locals m ∧ ∀ (i : Nat) (x : Str) (v : V), X.N[i]? = some x → σ[i]? = some (some v) → Vis X.env.scope x → ∃ u, RelV v u ∧ Look X.env s.heap m x u
  cell : ∀ x c, X.env.cells.lookup x = some c → ∃ v, s.heap.IsCell c v
  free : H X.env.locals = none
  freeC : ∀ x c, X.env.cells.lookup x = some c → H c = none
  pin : ∀ p ∈ X.pn ++ pins, s.heap.get? p.1 = some p.2 ∧ H p.1 = none ∧ p.1 ≠ X.env.locals ∧ p.1 ∉ X.fs ∧ ∀ v, p.2.data ≠ .cell v
  hok : HOk X.prog X.w H s.heap
  len : σ.length = X.N.length
section
variable {X : Cx} {pins : List (Addr × Obj)} {σ : List (Option V)} {H H' : Hp} {s : Shared} {h' : Heap}
theorem Cx.Ok.nofr (ok : X.Ok) {b : Addr} {o : Obj} (e : X.base.get? b = some o) : b ∉ X.fs := fun hb => by
  have := (ok.funs.mem hb).1
  rw [e] at this; cases this
theorem Inv.bs (I : Inv X pins σ H s) : ∀ b o, X.base.get? b = some o → s.heap.get? b = some o ∧ H b = none := fun b o e =>
  ⟨I.base.keep b o (I.ok.bs b o e).1 (I.ok.bs b o e).2 (I.ok.nofr e) (I.ok.noex b o e), I.base.free b o (I.ok.bs b o e).1 (I.ok.bs b o e).2 (I.ok.noex b o e)⟩
theorem Inv.bk (I : Inv X pins σ H s) : ∀ b o, X.base.get? b = some o → s.heap.get? b = some o := fun b o e => (I.bs b o e).1
theorem Inv.mod (I : Inv X pins σ H s) : Mod X.K X.mg X.base := I.ok.mod
theorem Inv.kIn (I : Inv X pins σ H s) : X.K.In s.heap := I.ok.mod.kin.keeps I.bk
theorem Inv.lt (I : Inv X pins σ H s) : X.env.locals < s.heap.objs.size := let ⟨_, hn, _⟩ := I.loc; hn.lt
theorem Inv.sz (I : Inv X pins σ H s) : X.s₀.heap.objs.size ≤ s.heap.objs.size := Nat.le_trans I.ok.above (Nat.le_of_lt I.lt)
theorem Inv.nofs (I : Inv X pins σ H s) {a : Addr} (h : s.heap.objs.size ≤ a) : a ∉ X.fs := fun hb => by
  obtain ⟨_, o, ho, _⟩ := I.ok.funs.mem hb
  exact absurd (Nat.lt_of_lt_of_le (Heap.lt_size ho) (Nat.le_trans I.sz h)) (Nat.lt_irrefl _)
theorem Inv.cne (I : Inv X pins σ H s) : ∀ x c, X.env.cells.lookup x = some c → c ≠ X.env.locals := fun x c e z => by
  obtain ⟨v, o, ho, hd⟩ := I.cell x c e
  obtain ⟨m, ⟨o', es, ep, ho', hd', _⟩, _⟩ := I.loc
  rw [z, ho'] at ho; cases ho; rw [hd'] at hd; cases hd
theorem Inv.funs (I : Inv X pins σ H s) : s.heap.FunFrames X.base X.outer := by
  have all : ∀ (l : List Env), (∀ b ∈ frs l, b ∈ X.fs) → X.s₀.heap.FunFrames X.base l → s.heap.FunFrames X.base l := by
    intro l
    induction l with
    | nil => intro _ _; trivial
    | cons env r ih =>
      intro hs hl
      obtain ⟨hk, ⟨L, o, hf, hn, ho, hd⟩, hr⟩ := hl
      have hL : L ∈ X.fs := hs L (by unfold frs; rw [List.filterMap_cons, hf]; exact List.mem_cons_self)
      obtain ⟨sl, e⟩ := I.base.slot L o ho (I.ok.frf L hL) hL fun z => I.ok.exfs L z hL
      exact ⟨hk, ⟨L, _, hf, hn, e, hd⟩, ih (fun b hb => hs b (by unfold frs; rw [List.filterMap_cons, hf]; exact List.mem_cons_of_mem _ hb)) hr⟩
  exact all X.outer (fun _ hb => hb) I.ok.funs
theorem Inv.stack (I : Inv X pins σ H s) : s.heap.FunFrames X.base X.stack := by
  rcases I.ok.stk with e | ⟨e, hf⟩
  · rw [e]; exact I.funs
  · rw [e]
    obtain ⟨m, hn, _⟩ := I.loc
    refine .cons (by rw [I.ok.kind]; decide) hf hn ?_ I.funs
    exact Heap.get?_none_of_le (Nat.le_trans I.ok.bsz I.ok.above)
theorem Inv.stkSub (I : Inv X pins σ H s) : ∀ b ∈ frs X.stack, b ∈ X.env.locals :: X.fs := fun b hb => by
  rcases I.ok.stk with e | ⟨e, hf⟩
  · rw [e] at hb; exact List.mem_cons_of_mem _ hb
  · rw [e] at hb
    unfold frs at hb
    rw [List.filterMap_cons, hf] at hb
    exact hb
theorem Inv.stkFree (I : Inv X pins σ H s) : ∀ b ∈ frs X.stack, H b = none := fun b hb => by
  rcases List.mem_cons.mp (I.stkSub b hb) with e | hb
  · rw [e]; exact I.free
  · obtain ⟨_, o, ho, _⟩ := I.ok.funs.mem hb
    exact I.base.free b o ho (I.ok.frf b hb) fun z => I.ok.exfs b z hb
theorem Inv.step {g' : Array GenState} {t' : Nat} {d' : Drawn} {ch : List Addr} (I : Inv X pins σ H s)
    (hch : ∀ b ∈ ch, (b ∈ X.ex ∨ X.s₀.heap.objs.size ≤ b) ∧ b ≠ X.env.locals ∧ (∀ x c, X.env.cells.lookup x = some c → c ≠ b) ∧ ∀ p ∈ X.pn ++ pins, p.1 ≠ b)
    (keep : ∀ b o, b ≠ X.env.locals → b ∉ X.fs → b ∉ ch → s.heap.get? b = some o → H b = none → h'.get? b = some o)
    (slot : ∀ b o, b ≠ X.env.locals → b ∈ X.fs → b ∉ ch → s.heap.get? b = some o → H b = none → ∃ sl, h'.get? b = some { o with slots := sl }) (free : ∀ b o, b ∉ ch → s.heap.get? b = some o → H b = none → H' b = none)
    (there : ∀ b o, b ∉ ch → s.heap.get? b = some o → ∃ o', h'.get? b = some o')
    (tups : ∀ b xs, H b = some (.tup xs) → H' b = some (.tup xs)) (frzs : ∀ b o u, H b = some (.frz o u) → H' b = some (.frz o u)) (tbls : ∀ b ps, H b = some (.tbl ps) → ∃ more, H' b = some (.tbl (ps ++ more)))
    (ns : ∀ m, s.heap.Ns X.env.locals m → h'.Ns X.env.locals m) (hok : HOk X.prog X.w H' h') (hg : AllBare g') :
    Inv X pins σ H' { s with heap := h', gens := g', drawn := d', toks := t' } := by
  have neL : ∀ b o, X.s₀.heap.get? b = some o → b ≠ X.env.locals := fun b o e => Nat.ne_of_lt (Nat.lt_of_lt_of_le (Heap.lt_size e) I.ok.above)
  have neC : ∀ b o, X.s₀.heap.get? b = some o → b ∉ X.ex → b ∉ ch := fun b o e hx hb => by
    rcases (hch b hb).1 with z | z
    · exact hx z
    · exact absurd (Nat.lt_of_lt_of_le (Heap.lt_size e) z) (Nat.lt_irrefl _)
  have cellK : ∀ x c, X.env.cells.lookup x = some c → ∀ v, s.heap.IsCell c v → h'.IsCell c v := fun x c e v ⟨o, ho, hd⟩ => by
    have nch : c ∉ ch := fun z => (hch c z).2.2.1 x c e rfl
    by_cases hc : c ∈ X.fs
    · obtain ⟨sl, q⟩ := slot c o (I.cne x c e) hc nch ho (I.freeC x c e)
      exact ⟨_, q, hd⟩
    · exact ⟨o, keep c o (I.cne x c e) hc nch ho (I.freeC x c e), hd⟩
  refine ⟨I.ok, I.os, hg, ⟨fun b o e n hb hx => ?_, fun b o e n hb hx => ?_, fun b o e n hx => ?_, fun b o e hx => ?_, fun b xs e => tups b xs (I.base.tups b xs e), fun b o xs e => frzs b o xs (I.base.frzs b o xs e), fun b ps e => ?_⟩, ?_, fun x c e => ?_, ?_, fun x c e => ?_, fun p hp => ?_, hok, I.len⟩
  · exact keep b o (neL b o e) hb (neC b o e hx) (I.base.keep b o e n hb hx) (I.base.free b o e n hx)
  · obtain ⟨sl, e1⟩ := I.base.slot b o e n hb hx
    obtain ⟨sl', e2⟩ := slot b _ (neL b o e) hb (neC b o e hx) e1 (I.base.free b o e n hx)
    exact ⟨sl', e2⟩
  · obtain ⟨o', e1⟩ := I.base.there b o e hx
    exact free b o' (neC b o e hx) e1 (I.base.free b o e n hx)
  · obtain ⟨o', e1⟩ := I.base.there b o e hx
    exact there b o' (neC b o e hx) e1
  · obtain ⟨m1, e1⟩ := I.base.tbls b ps e
    obtain ⟨m2, e2⟩ := tbls b _ e1
    exact ⟨m1 ++ m2, by rw [e2, Array.append_assoc]⟩
  · obtain ⟨m, hn, hl⟩ := I.loc
    refine ⟨m, ns m hn, fun i x v e1 e2 e3 => ?_⟩
    obtain ⟨u, r, l⟩ := hl i x v e1 e2 e3
    refine ⟨u, r, ?_⟩
    rcases l with l | ⟨k, c, e, z⟩
    · exact .inl l
    · exact .inr ⟨k, c, e, cellK x c e _ z⟩
  · obtain ⟨v, z⟩ := I.cell x c e
    exact ⟨v, cellK x c e v z⟩
  · obtain ⟨m, ⟨o, _, _, ho, _⟩, _⟩ := I.loc
    exact free _ o (fun z => (hch _ z).2.1 rfl) ho I.free
  · obtain ⟨v, o, ho, hd⟩ := I.cell x c e
    exact free c o (fun z => (hch c z).2.2.1 x c e rfl) ho (I.freeC x c e)
  · obtain ⟨e, n, ne, nf, d⟩ := I.pin p hp
    have nch : p.1 ∉ ch := fun z => (hch p.1 z).2.2.2 p hp rfl
    exact ⟨keep p.1 p.2 ne nf nch e n, free p.1 p.2 nch e n, ne, nf, d⟩
theorem Inv.un {t' : Nat} (I : Inv X pins σ H s) (u : Un X.fs [] H H' s.heap h') (hok : HOk X.prog X.w H' h') : Inv X pins σ H' { s with heap := h', toks := t' } := by
  obtain ⟨m, ⟨o, es, ep, ho, r⟩, _⟩ := id I.loc
  obtain ⟨sl, hL⟩ := u.any ho I.free (by simp)
  exact I.step (g' := s.gens) (d' := s.drawn) (ch := []) (fun _ z => nomatch z) (fun b o _ hb _ e n => u.keep b o e n hb (by simp)) (fun b o _ hb _ e n => u.slot b o e n hb (by simp)) (fun b o _ e n => u.free b o e n (by simp)) (fun b o _ e => u.there b o e (by simp)) u.tups u.frzs u.tbls (fun m' hm => by
    obtain ⟨o', es', ep', ho', r'⟩ := hm
    rw [ho] at ho'; cases ho'
    exact ⟨_, es', ep', hL, r'⟩) hok I.bare
theorem Inv.call {g' : Array GenState} {t' : Nat} {d' : Drawn} {ch : List Addr} (I : Inv X pins σ H s) (u : Un (frs X.stack) ch H H' s.heap h') (hok : HOk X.prog X.w H' h') (hg : AllBare g')
    (hch : ∀ b ∈ ch, (b ∈ X.ex ∨ X.s₀.heap.objs.size ≤ b) ∧ b ≠ X.env.locals ∧ (∀ x c, X.env.cells.lookup x = some c → c ≠ b) ∧ ∀ p ∈ X.pn ++ pins, p.1 ≠ b) :
    Inv X pins σ H' { s with heap := h', gens := g', drawn := d', toks := t' } := by
  obtain ⟨m, ⟨o, es, ep, ho, r⟩, _⟩ := id I.loc
  obtain ⟨sl, hL⟩ := u.any ho I.free fun z => (hch _ z).2.1 rfl
  exact I.step (ch := ch) hch (fun b o hL hb hc e n => u.keep b o e n (fun z => (List.mem_cons.mp (I.stkSub b z)).elim hL hb) hc) (fun b o _ _ hc e n => u.any e n hc) (fun b o hc e n => u.free b o e n hc) (fun b o hc e => u.there b o e hc) u.tups u.frzs u.tbls (fun m' hm => by
    obtain ⟨o', es', ep', ho', r'⟩ := hm
    rw [ho] at ho'; cases ho'
    exact ⟨_, es', ep', hL, r'⟩) hok hg
theorem Inv.turned {t' : Nat} {it : Addr} (I : Inv X pins σ H s) (k : ∀ b o, b ≠ it → s.heap.get? b = some o → h'.get? b = some o) (hn : H it = none) (hL : it ≠ X.env.locals)
    (h1 : it ∈ X.ex ∨ X.s₀.heap.objs.size ≤ it) (h2 : ∀ x c, X.env.cells.lookup x = some c → c ≠ it) (h3 : ∀ p ∈ X.pn ++ pins, p.1 ≠ it) : Inv X pins σ H { s with heap := h', toks := t' } := by
  have nit : ∀ b u, H b = some u → b ≠ it := fun b u e z => by rw [z, hn] at e; cases e
  refine I.step (g' := s.gens) (d' := s.drawn) (ch := [it]) (fun b hb => ?_) (fun b o _ _ hc e _ => k b o (fun z => hc (by simp [z])) e) (fun b o _ _ hc e _ => ⟨o.slots, k b o (fun z => hc (by simp [z])) e⟩) (fun _ _ _ _ n => n)
    (fun b o hc e => ⟨o, k b o (fun z => hc (by simp [z])) e⟩) (fun _ _ e => e) (fun _ _ _ e => e) (fun b ps e => ⟨#[], by rw [e]; simp⟩) (fun m hm => ?_) (fun b u e => ?_) I.bare
  · have e : b = it := by simpa using hb
    subst e
    exact ⟨h1, hL, h2, h3⟩
  · obtain ⟨o, es, ep, ho, r⟩ := hm
    exact ⟨o, es, ep, k _ o (Ne.symm hL) ho, r⟩
  · refine (I.hok b u e).stay (fun c v hc q => k c v ?_ q) (fun _ q => q) fun _ _ q => q
    rcases hc with z | z
    · rw [z]; exact nit b u e
    · exact nit c _ z
theorem Inv.tok (I : Inv X pins σ H s) (t : Nat) : Inv X pins σ H { s with toks := t } := I.un (h' := s.heap) (t' := t) Un.refl I.hok
theorem Inv.kept {t' : Nat} (I : Inv X pins σ H s) (k : ∀ b u, s.heap.get? b = some u → h'.get? b = some u) : Inv X pins σ H { s with heap := h', toks := t' } := I.un (Un.kept k) (I.hok.kept k)
theorem Inv.laid {a : Addr} {o : HO} {t' : Nat} (I : Inv X pins σ H s) (k : ∀ b u, s.heap.get? b = some u → h'.get? b = some u) (hp : s.heap.objs.size ≤ a) (new : ObjOk X.prog X.w (upd H a o) h' a o) :
    Inv X pins σ (upd H a o) { s with heap := h', toks := t' } := I.un (Un.laid k hp (I.hok.fresh hp)) (I.hok.laid k hp new)
theorem Inv.write {x e : Addr} {o : HO} {t' : Nat} (I : Inv X pins σ H s) (mu : Mut (H x)) (he : e = x ∨ H e = some (.own x)) (k : ∀ b u, b ≠ e → s.heap.get? b = some u → h'.get? b = some u) (heo : ∃ u, h'.get? e = some u)
    (new : ObjOk X.prog X.w (upd H x o) h' x o) : Inv X pins σ (upd H x o) { s with heap := h', toks := t' } := I.un (Un.write mu he k heo) (I.hok.write mu he k heo new)
theorem Inv.weak {σ' : List (Option V)} (I : Inv X pins σ H s) (hl : σ'.length = σ.length) (w : ∀ (i : Nat) v, σ'[i]? = some (some v) → σ[i]? = some (some v)) : Inv X pins σ' H s :=
  ⟨I.ok, I.os, I.bare, I.base, let ⟨m, hn, hl'⟩ := I.loc; ⟨m, hn, fun i x v e1 e2 e3 => hl' i x v e1 (w i v e2) e3⟩, I.cell, I.free, I.freeC, I.pin, I.hok, hl.trans I.len⟩
theorem Inv.pins_of {pins' : List (Addr × Obj)} (I : Inv X pins σ H s) (h : ∀ p ∈ pins', s.heap.get? p.1 = some p.2 ∧ H p.1 = none ∧ p.1 ≠ X.env.locals ∧ p.1 ∉ X.fs ∧ ∀ v, p.2.data ≠ .cell v) : Inv X pins' σ H s :=
  ⟨I.ok, I.os, I.bare, I.base, I.loc, I.cell, I.free, I.freeC, fun p hp => (List.mem_append.mp hp).elim (fun z => I.pin p (List.mem_append_left _ z)) (h p), I.hok, I.len⟩
theorem nodup_ix {N : List Str} (hN : N.Nodup) {i j : Nat} {x : Str} (a : N[i]? = some x) (b : N[j]? = some x) : i = j := by
  obtain ⟨h1, e1⟩ := List.getElem?_eq_some_iff.mp a
  obtain ⟨h2, e2⟩ := List.getElem?_eq_some_iff.mp b
  exact (List.getElem_inj hN).mp (e1.trans e2.symm)
theorem store_ok2 {M : Model} {A : Around} {E : Value → Shared → Prop} {i : Nat} {x : Str} {v : V} {u : Value} {Q : Unit → Shared → Prop} (I : Inv X pins σ H s) (hN : X.N.Nodup) (hi : X.N[i]? = some x) (hx : Loc X.env.scope x) (r : RelV v u)
    (h : ∀ s', Inv X pins (σ.set i (some v)) H s' → (∃ a, Heap.SameBut a s.heap s'.heap ∧ (a = X.env.locals ∨ X.env.cells.lookup x = some a)) → Q () s') (hf : X.fn x = true ∨ X.env.scope.names.lookup x = some .local := by first | exact .inl rfl | exact .inr rfl | assumption) : wpAny M A (storeName X.env x u) Q E s := by
  obtain ⟨m, hn, hl⟩ := id I.loc
  have hcls : (X.env.scope.kind == .class || (X.env.scope.kind == .module && X.env.locals != X.env.globals)) = false := by rw [I.ok.kind]; rfl
  have hiσ : i < σ.length := by rw [I.len]; exact (List.getElem?_eq_some_iff.mp hi).1
  have cne := I.cne
  have tracked : ∀ {a : Addr} {h' : Heap}, (∃ o, s.heap.get? a = some o ∧ H a = none) → Heap.SameBut a s.heap h' → HOk X.prog X.w H h' := fun {a h'} ha hs b ob e => by
    obtain ⟨_, _, hfree⟩ := ha
    refine (I.hok b ob e).stay (fun c w' hc q => (hs.2 c ?_).trans q) (fun _ q => q) fun _ _ q => q
    rintro rfl
    rcases hc with rfl | hc
    · rw [hfree] at e; cases e
    · rw [hfree] at hc; cases hc
  rcases hx with hk | hk
  · refine wpAny_storeName_local hk hn (fun h' hn' hs => ?_) hcls
    obtain ⟨oL, _, _, hoL, _⟩ := id hn
    refine h _ ⟨I.ok, I.os, I.bare, ⟨fun b o e n hb hx => ?_, fun b o e n hb hx => ?_, I.base.free, fun b o e hx => ?_, I.base.tups, I.base.frzs, I.base.tbls⟩, ⟨_, hn', fun j y v' e1 e2 e3 => ?_⟩, fun y c e => ?_, I.free, I.freeC, fun p hp => ?_, tracked ⟨oL, hoL, I.free⟩ hs, by simpa using I.len⟩ ⟨_, hs, .inl rfl⟩
    · exact (hs.2 b (Nat.ne_of_lt (Nat.lt_of_lt_of_le (Heap.lt_size e) I.ok.above))).trans (I.base.keep b o e n hb hx)
    · obtain ⟨sl, e1⟩ := I.base.slot b o e n hb hx
      exact ⟨sl, (hs.2 b (Nat.ne_of_lt (Nat.lt_of_lt_of_le (Heap.lt_size e) I.ok.above))).trans e1⟩
    · obtain ⟨o', e1⟩ := I.base.there b o e hx
      exact ⟨o', (hs.2 b (Nat.ne_of_lt (Nat.lt_of_lt_of_le (Heap.lt_size e) I.ok.above))).trans e1⟩
    · by_cases hj : j = i
      · subst hj
        rw [hi] at e1; cases e1
        rw [List.getElem?_set_self hiσ] at e2
        cases e2
        exact ⟨u, r, .inl ⟨hk, by simp⟩⟩
      · rw [List.getElem?_set_ne (Ne.symm hj)] at e2
        obtain ⟨u', r', q⟩ := hl j y v' e1 e2 e3
        refine ⟨u', r', ?_⟩
        rcases q with ⟨k, e⟩ | ⟨k, c, e, z⟩
        · refine .inl ⟨k, ?_⟩
          have : y ≠ x := fun e => hj (nodup_ix hN e1 (e ▸ hi))
          simp [this, e]
        · exact .inr ⟨k, c, e, z.sameBut hs (cne y c e)⟩
    · obtain ⟨w', z⟩ := I.cell y c e
      exact ⟨w', z.sameBut hs (cne y c e)⟩
    · obtain ⟨e, n, ne, nf, d⟩ := I.pin p hp
      exact ⟨(hs.2 p.1 ne).trans e, n, ne, nf, d⟩
  · have hfn : X.fn x = true := by
      rcases hf with z | z
      · exact z
      · rw [z] at hk; cases hk
    obtain ⟨c, hc⟩ := I.ok.has x (.inl hk)
    obtain ⟨w', z⟩ := I.cell x c hc
    refine wpAny_storeName_cell I.ok.kind hk hc z (fun h' hc' hs => ?_)
    obtain ⟨oc, hoc, hocd⟩ := id z
    refine h { s with heap := h' } ⟨I.ok, I.os, I.bare, ⟨fun b o e n hb hx => ?_, fun b o e n hb hx => ?_, I.base.free, fun b o e hx => ?_, I.base.tups, I.base.frzs, I.base.tbls⟩, ⟨m, hn.sameBut hs (Ne.symm (cne x c hc)), fun j y v' e1 e2 e3 => ?_⟩, fun y c' e => ?_, I.free, I.freeC, fun p hp => ?_, tracked ⟨oc, hoc, I.freeC x c hc⟩ hs, by simpa using I.len⟩ ⟨c, hs, .inr hc⟩
    · exact (hs.2 b (Nat.ne_of_lt (Nat.lt_of_lt_of_le (Heap.lt_size e) (I.ok.cab x c hfn hc)))).trans (I.base.keep b o e n hb hx)
    · obtain ⟨sl, e1⟩ := I.base.slot b o e n hb hx
      exact ⟨sl, (hs.2 b (Nat.ne_of_lt (Nat.lt_of_lt_of_le (Heap.lt_size e) (I.ok.cab x c hfn hc)))).trans e1⟩
    · obtain ⟨o', e1⟩ := I.base.there b o e hx
      exact ⟨o', (hs.2 b (Nat.ne_of_lt (Nat.lt_of_lt_of_le (Heap.lt_size e) (I.ok.cab x c hfn hc)))).trans e1⟩
    · by_cases hj : j = i
      · subst hj
        rw [hi] at e1; cases e1
        rw [List.getElem?_set_self hiσ] at e2
        cases e2
        exact ⟨u, r, .inr ⟨.inl hk, c, hc, hc'⟩⟩
      · rw [List.getElem?_set_ne (Ne.symm hj)] at e2
        obtain ⟨u', r', q⟩ := hl j y v' e1 e2 e3
        refine ⟨u', r', ?_⟩
        rcases q with q | ⟨k, c', e, z'⟩
        · exact .inl q
        · refine .inr ⟨k, c', e, z'.sameBut hs ?_⟩
          rintro rfl
          exact hj (nodup_ix hN e1 (I.ok.inj _ _ _ e hc ▸ hi))
    · by_cases hcc : c' = c
      · subst hcc; exact ⟨_, hc'⟩
      · obtain ⟨w2, z2⟩ := I.cell y c' e
        exact ⟨w2, z2.sameBut hs hcc⟩
    · obtain ⟨e, n, ne, nf, d⟩ := I.pin p hp
      refine ⟨(hs.2 p.1 ?_).trans e, n, ne, nf, d⟩
      intro q
      rw [q, hoc] at e
      have q' : oc = p.2 := Option.some.inj e
      exact d w' (by rw [← q']; exact hocd)
theorem store_ok {M : Model} {A : Around} {E : Value → Shared → Prop} {i : Nat} {x : Str} {v : V} {u : Value} {Q : Unit → Shared → Prop} (I : Inv X pins σ H s) (hN : X.N.Nodup) (hi : X.N[i]? = some x) (hx : Loc X.env.scope x) (r : RelV v u)
    (h : ∀ s', Inv X pins (σ.set i (some v)) H s' → Q () s') (hf : X.fn x = true ∨ X.env.scope.names.lookup x = some .local := by first | exact .inl rfl | exact .inr rfl | assumption) : wpAny M A (storeName X.env x u) Q E s :=
  store_ok2 I hN hi hx r (fun s' I' _ => h s' I') hf
theorem Inv.call' {s' : Shared} {ch : List Addr} (I : Inv X pins σ H s) (ho : s'.os = s.os) (u : Un (frs X.stack) ch H H' s.heap s'.heap) (hok : HOk X.prog X.w H' s'.heap) (hg : AllBare s'.gens)
    (hch : ∀ b ∈ ch, (b ∈ X.ex ∨ X.s₀.heap.objs.size ≤ b) ∧ b ≠ X.env.locals ∧ (∀ x c, X.env.cells.lookup x = some c → c ≠ b) ∧ ∀ p ∈ X.pn ++ pins, p.1 ≠ b) : Inv X pins σ H' s' := by
  obtain ⟨h', g', d', t', o'⟩ := s'
  have e : o' = s.os := ho
  subst e
  exact I.call (g' := g') (t' := t') (d' := d') u hok hg hch
end
abbrev XK := Value → Option Addr → Hp → Prop
abbrev St := List (Option V)
abbrev VK := V → Hp → Prop
abbrev TE := St → Hp → VK → Prop
abbrev TT := St → Hp → (Bool → Hp → Prop) → Prop
abbrev TA := St → Hp → (List V → Hp → Prop) → Prop
structure Ends where
  nx : St → Hp → Prop
  rt : VK
  bk : St → Hp → Prop := fun _ _ => False
  ct : St → Hp → Prop := fun _ _ => False
abbrev TS := Ends → St → Hp → Prop
def EP (X : Cx) (pins : List (Addr × Obj)) (σ : St) (Q : VK) (u : Value) (s' : Shared) : Prop := ∃ v H', Inv X pins σ H' s' ∧ RelV v u ∧ Q v H'
def TP (X : Cx) (pins : List (Addr × Obj)) (σ : St) (Q : Bool → Hp → Prop) (b : Bool) (s' : Shared) : Prop := ∃ H', Inv X pins σ H' s' ∧ Q b H'
def AP (X : Cx) (pins : List (Addr × Obj)) (σ : St) (Q : List V → Hp → Prop) (us : List Value) (s' : Shared) : Prop := ∃ vs H', Inv X pins σ H' s' ∧ Vals vs us ∧ Q vs H'
def SP (X : Cx) (pins : List (Addr × Obj)) (D : Ends) (f : Flow) (s' : Shared) : Prop :=
  match f with
  | .next => ∃ σ' H', Inv X pins σ' H' s' ∧ D.nx σ' H'
  | .brk => ∃ σ' H', Inv X pins σ' H' s' ∧ D.bk σ' H'
  | .cont => ∃ σ' H', Inv X pins σ' H' s' ∧ D.ct σ' H'
  | .ret u => ∃ v σ' H', Inv X pins σ' H' s' ∧ RelV v u ∧ D.rt v H'
def PE (X : Cx) (e : Expr) (t : TE) : Prop :=
  ∀ (pins : List (Addr × Obj)) (s : Shared) (σ : St) (H : Hp) (Q : VK), Inv X pins σ H s → t σ H Q → wpAny (model X.prog X.w) X.A (eval e X.env) (EP X pins σ Q) X.xe s
def PT (X : Cx) (e : Expr) (t : TT) : Prop :=
  ∀ (pins : List (Addr × Obj)) (s : Shared) (σ : St) (H : Hp) (Q : Bool → Hp → Prop), Inv X pins σ H s → t σ H Q → wpAny (model X.prog X.w) X.A (isTrue e X.env (eval e X.env)) (TP X pins σ Q) X.xe s
def PW (X : Cx) (e : Expr) (t : TT) : Prop :=
  ∀ (whole : Sem Value) (pins : List (Addr × Obj)) (s : Shared) (σ : St) (H : Hp) (Q : Bool → Hp → Prop), Inv X pins σ H s → t σ H Q → wpAny (model X.prog X.w) X.A (isTrue e X.env whole) (TP X pins σ Q) X.xe s
theorem PW.pt {X : Cx} {e : Expr} {t : TT} (h : PW X e t) : PT X e t := h _
def PA (X : Cx) (es : List Expr) (t : TA) : Prop :=
  ∀ (pos : Pos) (pins : List (Addr × Obj)) (s : Shared) (σ : St) (H : Hp) (Q : List V → Hp → Prop), Inv X pins σ H s → t σ H Q → wpAny (model X.prog X.w) X.A (spliced (backTo pos (starEach es X.env))) (AP X pins σ Q) X.xe s
def PS (X : Cx) (st : Stmt) (t : TS) : Prop :=
  ∀ (pins : List (Addr × Obj)) (s : Shared) (σ : St) (H : Hp) (D : Ends), Inv X pins σ H s → t D σ H → wpAny (model X.prog X.w) X.A (exec st X.env) (SP X pins D) X.xe s
def PSs (X : Cx) (st : List Stmt) (t : TS) : Prop :=
  ∀ (pins : List (Addr × Obj)) (s : Shared) (σ : St) (H : Hp) (D : Ends), Inv X pins σ H s → t D σ H → wpAny (model X.prog X.w) X.A (execs st X.env) (SP X pins D) X.xe s
theorem thn {α : Type} {t : Sem α} {Q Q' : α → Shared → Prop} {M : Model} {A : Around} {E : Value → Shared → Prop} {s : Shared} (h : wpAny M A t Q E s) (hQ : ∀ a s, Q a s → Q' a s) : wpAny M A t Q' E s := wpAny_mono h hQ fun _ _ x => x
end L2
namespace L2
open PySem PySem.Spec PyProof.Rows
section
variable {X : Cx}
def tVar (i : Nat) : TE := fun σ H Q => ∃ v, σ[i]? = some (some v) ∧ Q v H
def tC (v : V) : TE := fun _ H Q => Q v H
theorem pe_var {i : Nat} {x : Str} {pos : Pos} (hN : X.N[i]? = some x) (hv : Vis X.env.scope x) (hd : (x == ("__debug__" : Str)) = false := by decide) (hcd : (x == ("__classdict__" : Str)) = false := by decide) : PE X (.Name x pos) (tVar i) := by
  intro pins s σ H Q I h
  obtain ⟨v, e, h⟩ := h
  obtain ⟨m, hn, hl⟩ := I.loc
  obtain ⟨u, r, l⟩ := hl i x v hN e hv
  have fin : EP X pins σ Q u s := ⟨v, H, I, r, h⟩
  rcases l with ⟨hk, hm⟩ | ⟨hk, c, hc, hcell⟩
  · exact wpAny_Name (wpAny_loadName_local I.ok.kind hk hn hm fin) hd
  · rcases hk with hk | hk
    · exact wpAny_Name (wpAny_loadName_cell I.ok.kind hk hc hcell fin) hd
    · exact wpAny_Name (wpAny_loadName_free I.ok.kind hk hc hcell fin hcd) hd
theorem pe_int {i j pos} : PE X (.Constant (.int i) j pos) (tC (.int i)) := fun _ _ _ H _ I h => wpAny_Constant_int ⟨.int i, H, I.tok _, ⟨_, rfl⟩, h⟩
theorem pe_bl {b j pos} : PE X (.Constant (.bool b) j pos) (tC (.bl b)) := fun _ _ _ H _ I h => Constant_bool ⟨.bl b, H, I, rfl, h⟩
theorem pe_non {j pos} : PE X (.Constant .none j pos) (tC .non) := fun _ _ _ H _ I h => Constant_none ⟨.non, H, I, rfl, h⟩
theorem pe_str {x j pos} : PE X (.Constant (.str x) j pos) (tC (.str x)) := fun _ _ _ H _ I h => Calls.Constant_str ⟨.str x, H, I.tok _, ⟨_, rfl⟩, h⟩
def Gl (X : Cx) (x : Str) : Prop := X.env.kindOf x = some .globalImplicit
theorem ld_glob {E : Value → Shared → Prop} {pins : List (Addr × Obj)} {s : Shared} {σ : St} {H : Hp} {x : Str} {u : Value} {pos : Pos} {Q : Value → Shared → Prop} (I : Inv X pins σ H s) (hg : Gl X x) (hm : X.mg x = some u) (h : Q u s)
    (hd : (x == ("__debug__" : Str)) = false := by decide) : wpAny (model X.prog X.w) X.A (eval (.Name x pos) X.env) Q E s :=
  Calls.Name_function_global I.ok.kind hg (Calls.loadGlobal_global (by rw [I.ok.glob]; exact I.mod.glob.keeps I.bk) hm h) hd
theorem ld_blt {E : Value → Shared → Prop} {pins : List (Addr × Obj)} {s : Shared} {σ : St} {H : Hp} {x : Str} {u : Value} {pos : Pos} {Q : Value → Shared → Prop} (I : Inv X pins σ H s) (hg : Gl X x) (hm : X.mg x = none) (hv : bootBuiltins x = some u) (h : Q u s)
    (hn : x ≠ "__name__" := by decide) (hd : (x == ("__debug__" : Str)) = false := by decide) : wpAny (model X.prog X.w) X.A (eval (.Name x pos) X.env) Q E s := by
  obtain ⟨mb, h1, h2⟩ := I.mod.blt
  exact Calls.Name_function_global I.ok.kind hg (Calls.loadGlobal_builtin (by rw [I.ok.glob]; exact I.mod.glob.keeps I.bk) hm (by rw [I.ok.blt]; exact h1.keeps I.bk) ((h2 x hn).trans hv) h) hd
theorem pe_glob {x : Str} {v : V} {u : Value} {pos : Pos} (hg : Gl X x) (hm : X.mg x = some u) (r : RelV v u) (hd : (x == ("__debug__" : Str)) = false := by decide) : PE X (.Name x pos) (tC v) :=
  fun _ _ _ H _ I h => ld_glob I hg hm ⟨v, H, I, r, h⟩ hd
theorem pe_bltn {x : Str} {v : V} {u : Value} {pos : Pos} (hg : Gl X x) (hm : X.mg x = none) (hv : bootBuiltins x = some u) (r : RelV v u) (hn : x ≠ "__name__" := by decide) (hd : (x == ("__debug__" : Str)) = false := by decide) : PE X (.Name x pos) (tC v) :=
  fun _ _ _ H _ I h => ld_blt I hg hm hv ⟨v, H, I, r, h⟩ hn hd
variable {a b : Expr} {ta tb : TE} {pos : Pos}
variable {tA tB' : TT} {rest : List Expr}
def tAnd (t u : TT) : TT := fun σ H Q => t σ H fun c H1 => if c = true then u σ H1 Q else Q false H1
def tOr (t u : TT) : TT := fun σ H Q => t σ H fun c H1 => if c = true then Q true H1 else u σ H1 Q
def tNot (t : TT) : TT := fun σ H Q => t σ H fun c H1 => Q (!c) H1
theorem pw_and1 (ha : PT X a tA) : PW X (.BoolOp .And [a] pos) tA := by
  intro wh pins s σ H Q I h
  refine isTrue_and (thn (ha pins s σ H Q I h) fun c s1 e => ?_)
  cases c with
  | true => exact isTrue_and_nil e
  | false => exact e
theorem pw_or1 (ha : PT X a tA) : PW X (.BoolOp .Or [a] pos) tA := by
  intro wh pins s σ H Q I h
  refine isTrue_or (thn (ha pins s σ H Q I h) fun c s1 e => ?_)
  cases c with
  | false => exact isTrue_or_nil e
  | true => exact e
theorem pw_and (ha : PT X a tA) (hb : PW X (.BoolOp .And (b :: rest) pos) tB') : PW X (.BoolOp .And (a :: b :: rest) pos) (tAnd tA tB') := by
  intro wh pins s σ H Q I h
  refine isTrue_and (thn (ha pins s σ H _ I h) fun c s1 ⟨H1, I1, q1⟩ => ?_)
  cases c with
  | true => exact hb wh pins s1 σ H1 Q I1 q1
  | false => exact ⟨H1, I1, q1⟩
theorem pw_or (ha : PT X a tA) (hb : PW X (.BoolOp .Or (b :: rest) pos) tB') : PW X (.BoolOp .Or (a :: b :: rest) pos) (tOr tA tB') := by
  intro wh pins s σ H Q I h
  refine isTrue_or (thn (ha pins s σ H _ I h) fun c s1 ⟨H1, I1, q1⟩ => ?_)
  cases c with
  | true => exact ⟨H1, I1, q1⟩
  | false => exact hb wh pins s1 σ H1 Q I1 q1
theorem pt_not (ha : PT X a tA) : PT X (.UnaryOp .Not a pos) (tNot tA) := by
  intro pins s σ H Q I h
  exact isTrue_not (ha pins s σ H (fun c H1 => Q (!c) H1) I h)
theorem pe_one {op} {t : TE} (h : PE X a t) : PE X (.BoolOp op [a] pos) t := fun pins s σ H Q I hw => BoolOp_one (h pins s σ H Q I hw)
def tIf (t : TT) (ta tb : TE) : TE := fun σ H Q => t σ H fun c H1 => if c = true then ta σ H1 Q else tb σ H1 Q
theorem pe_ifExp {c : Expr} (hc : PT X c tA) (ha : PE X a ta) (hb : PE X b tb) : PE X (.IfExp c a b pos) (tIf tA ta tb) := by
  intro pins s σ H Q I h
  refine wpAny_IfExp (thn (hc pins s σ H _ I h) fun d s1 ⟨H1, I1, q1⟩ => ?_)
  cases d with
  | true => exact ha pins s1 σ H1 Q I1 q1
  | false => exact hb pins s1 σ H1 Q I1 q1
end
end L2
namespace L2
open PySem PySem.Spec PyProof.Rows
def SqL (K : PySem.W.Frag) (H : Hp) (a : Addr) (xs : List V) : Prop :=
  Rd H a (.lst xs) ∨
    ∃ (o : Obj) (its : Array Value) (n : Nat), K.lookup a = some o ∧ o.cls = .type "list" ∧ o.dict = none ∧ o.data = .seq its n ∧ its.size ≤ sizeLine ∧ Vals xs its.toList
def SqT (K : PySem.W.Frag) (H : Hp) (a : Addr) (xs : List V) : Prop :=
  Rd H a (.tup xs) ∨
    ∃ (o : Obj) (its : Array Value) (n : Nat), K.lookup a = some o ∧ o.cls = .type "tuple" ∧ o.data = .seq its n ∧ its.size ≤ sizeLine ∧ Vals xs its.toList
def absV : Value → Option V
  | .none => some .non
  | .bool b => some (.bl b)
  | .int i _ => some (.int i)
  | .str x _ => some (.str x)
  | .bytes b _ => some (.byt b)
  | .float b _ => some (.flt b)
  | .ref a => some (.ref a)
  | .type n => some (.ty n)
  | _ => none
theorem RelV.abs {x : V} {u : Value} (r : RelV x u) : absV u = some x := by
  cases x with
  | non => cases r; rfl
  | bl _ => cases r; rfl
  | int _ => obtain ⟨t, rfl⟩ := r; rfl
  | str _ => obtain ⟨t, rfl⟩ := r; rfl
  | byt _ => obtain ⟨t, rfl⟩ := r; rfl
  | flt _ => obtain ⟨t, rfl⟩ := r; rfl
  | ref _ => cases r; rfl
  | ty _ => cases r; rfl
theorem RelV.inj {x y : V} {u : Value} (r : RelV x u) (q : RelV y u) : x = y := Option.some.inj (r.abs.symm.trans q.abs)
theorem Vals.inj : ∀ {xs ys : List V} {us : List Value}, Vals xs us → Vals ys us → xs = ys
  | _, _, _, .nil, .nil => rfl
  | _, _, _, .cons r t, .cons r' t' => by rw [r.inj r', Vals.inj t t']
section
variable {X : Cx} {pins : List (Addr × Obj)} {σ : St} {H : Hp} {s : Shared} {a : Addr} {xs ys : List V}
theorem SqL.of {K : PySem.W.Frag} (h : H a = some (.lst xs)) : SqL K H a xs := .inl (.inl h)
theorem SqT.of {K : PySem.W.Frag} (h : H a = some (.tup xs)) : SqT K H a xs := .inl (.inl h)
theorem Inv.list (I : Inv X pins σ H s) (h : SqL X.K H a xs) : ∃ its : List Value, Vals xs its ∧ PlainL s.heap a its.toArray ∧ xs.length ≤ sizeLine := by
  rcases h with h | ⟨o, its, n, hk, hc, hd, hs, hz, r⟩
  · obtain ⟨z, its, n, r, e⟩ := h.ok I.hok
    exact ⟨its, r, ⟨_, n, e, rfl, rfl, rfl⟩, z⟩
  · refine ⟨its.toList, r, ⟨o, n, I.kIn a o hk, hc, hd, by simpa using hs⟩, ?_⟩
    have e := r.length
    simp only [Array.length_toList] at e
    omega
theorem Inv.tuple (I : Inv X pins σ H s) (h : SqT X.K H a xs) : ∃ its : List Value, Vals xs its ∧ IsTup s.heap a its.toArray ∧ xs.length ≤ sizeLine := by
  rcases h with h | ⟨o, its, n, hk, hc, hs, hz, r⟩
  · obtain ⟨z, its, r, p⟩ := h.ok I.hok
    exact ⟨its, r, p, z⟩
  · refine ⟨its.toList, r, ⟨o, I.kIn a o hk, hc, n, by simpa using hs⟩, ?_⟩
    have e := r.length
    simp only [Array.length_toList] at e
    omega
theorem Inv.list_inj (I : Inv X pins σ H s) (h : SqL X.K H a xs) (h' : SqL X.K H a ys) : xs = ys := by
  obtain ⟨its, r, ⟨o, n, e, _, _, d⟩, _⟩ := I.list h
  obtain ⟨its', r', ⟨o', n', e', _, _, d'⟩, _⟩ := I.list h'
  rw [e] at e'; cases e'
  rw [d] at d'
  injection d' with d1 _
  have : its = its' := by simpa using congrArg Array.toList d1
  subst this
  exact r.inj r'
theorem Inv.tuple_inj (I : Inv X pins σ H s) (h : SqT X.K H a xs) (h' : SqT X.K H a ys) : xs = ys := by
  obtain ⟨its, r, ⟨o, e, _, n, d⟩, _⟩ := I.tuple h
  obtain ⟨its', r', ⟨o', e', _, n', d'⟩, _⟩ := I.tuple h'
  rw [e] at e'; cases e'
  rw [d] at d'
  injection d' with d1 _
  have : its = its' := by simpa using congrArg Array.toList d1
  subst this
  exact r.inj r'
end
abbrev Cx.wish (X : Cx) (E : Value → Shared → Prop) : Cx := { X with xe := E }
abbrev Cx.nox (X : Cx) : Cx := X.wish fun _ _ => False
theorem Cx.Ok.wish {X : Cx} (ok : X.Ok) (E : Value → Shared → Prop) : (X.wish E).Ok :=
  ⟨ok.mod, ok.kind, ok.glob, ok.blt, ok.above, ok.inj, ok.has, ok.cab, ok.hd, ok.frames, ok.stk, ok.exf, ok.bs, ok.bsz, ok.noex, ok.exfs, ok.funs, ok.frf⟩
theorem Cx.Ok.unwish {X : Cx} {E : Value → Shared → Prop} (ok : (X.wish E).Ok) : X.Ok :=
  ⟨ok.mod, ok.kind, ok.glob, ok.blt, ok.above, ok.inj, ok.has, ok.cab, ok.hd, ok.frames, ok.stk, ok.exf, ok.bs, ok.bsz, ok.noex, ok.exfs, ok.funs, ok.frf⟩
section
variable {X : Cx} {pins : List (Addr × Obj)} {σ : St} {H : Hp} {s : Shared} {E : Value → Shared → Prop}
theorem Inv.wish (I : Inv X pins σ H s) (E : Value → Shared → Prop) : Inv (X.wish E) pins σ H s := ⟨I.ok.wish E, I.os, I.bare, I.base, I.loc, I.cell, I.free, I.freeC, I.pin, I.hok, I.len⟩
theorem Inv.unwish (I : Inv (X.wish E) pins σ H s) : Inv X pins σ H s := ⟨I.ok.unwish, I.os, I.bare, I.base, I.loc, I.cell, I.free, I.freeC, I.pin, I.hok, I.len⟩
theorem SP.unwish {D : Ends} {f : Flow} {s' : Shared} (h : SP (X.wish E) pins D f s') : SP X pins D f s' := by
  cases f with
  | next => obtain ⟨σ', H', I, q⟩ := h; exact ⟨σ', H', I.unwish, q⟩
  | brk => obtain ⟨σ', H', I, q⟩ := h; exact ⟨σ', H', I.unwish, q⟩
  | cont => obtain ⟨σ', H', I, q⟩ := h; exact ⟨σ', H', I.unwish, q⟩
  | ret u => obtain ⟨v, σ', H', I, r, q⟩ := h; exact ⟨v, σ', H', I.unwish, r, q⟩
theorem PSs.nox {st : List Stmt} {t : TS} (h : PSs X.nox st t) : PSs X st t := fun pins s σ H D I hw =>
  wpAny_mono (h pins s σ H D (I.wish _) hw) (fun _ _ q => q.unwish) fun _ _ z => False.elim z
end
section
variable {X : Cx} {st : Stmt} {rest : List Stmt} {t u : TS} {e : Expr} {te : TE} {pos : Pos}
def tNext : TS := fun D σ H => D.nx σ H
def tSeq (t u : TS) : TS := fun D σ H => t { D with nx := u D } σ H
theorem pss_nil : PSs X [] tNext := fun _ _ σ H _ I h => wpAny_execs_nil ⟨σ, H, I, h⟩
theorem pss_cons (h1 : PS X st t) (h2 : PSs X rest u) : PSs X (st :: rest) (tSeq t u) := by
  intro pins s σ H D I h
  refine wpAny_execs_cons (thn (h1 pins s σ H { D with nx := u D } I h) fun f s1 q => ?_)
  cases f with
  | next =>
    obtain ⟨σ', H', I', q⟩ := q
    exact h2 pins s1 σ' H' D I' q
  | ret v => exact q
  | brk => exact q
  | cont => exact q
theorem pss_one (h1 : PS X st t) : PSs X [st] t := by
  intro pins s σ H D I h
  refine wpAny_execs_cons (thn (h1 pins s σ H D I h) fun f s1 q => ?_)
  cases f with
  | next => exact wpAny_execs_nil q
  | ret v => exact q
  | brk => exact q
  | cont => exact q
def tBreak : TS := fun D σ H => D.bk σ H
theorem ps_break : PS X (.Break pos) tBreak := fun _ _ σ H _ I h => wpAny_Break ⟨σ, H, I, h⟩
theorem Inv.quiet {pins : List (Addr × Obj)} {σ : St} {H : Hp} {s : Shared} (I : Inv X pins σ H s) : interactive X.env = false := by simp [interactive, I.ok.kind]
def tDrop (te : TE) : TS := fun D σ H => te σ H fun _ H1 => D.nx σ H1
theorem ps_expr (he : PE X e te) (hs : swapsWith e none pos.line X.env = pure false := by rfl) : PS X (.Expr e pos) (tDrop te) := by
  intro pins s σ H D I h
  exact wpAny_Expr_any (thn (he pins s σ H _ I h) fun v s1 ⟨x, H1, I1, r1, q1⟩ => ⟨σ, H1, I1, q1⟩) I.quiet hs
def tRet (te : TE) : TS := fun D σ H => te σ H D.rt
theorem ps_ret (he : PE X e te) : PS X (.Return (some e) pos) (tRet te) := by
  intro pins s σ H D I h
  exact wpAny_Return_some (thn (he pins s σ H _ I h) fun v s1 ⟨x, H1, I1, r1, q1⟩ => ⟨x, σ, H1, I1, r1, q1⟩)
def tIfS (c : TT) (t u : TS) : TS := fun D σ H => c σ H fun b H1 => if b = true then t D σ H1 else u D σ H1
theorem ps_if {c : Expr} {a b : List Stmt} {tc : TT} (hc : PT X c tc) (ha : PSs X a t) (hb : PSs X b u) : PS X (.If c a b pos) (tIfS tc t u) := by
  intro pins s σ H D I h
  refine wpAny_If (thn (hc pins s σ H _ I h) fun d s1 ⟨H1, I1, q1⟩ => ?_)
  cases d with
  | true => exact ha pins s1 σ H1 D I1 q1
  | false => exact hb pins s1 σ H1 D I1 q1
def tNever : TS := fun _ _ _ => False
theorem ps_never : PS X st tNever := fun _ _ _ _ _ _ h => h.elim
end
abbrev TG := V → St → Hp → (St → Hp → Prop) → Prop
abbrev TGs := List V → St → Hp → (St → Hp → Prop) → Prop
def PG (X : Cx) (target : Expr) (t : TG) : Prop :=
  ∀ (pins : List (Addr × Obj)) (s : Shared) (σ : St) (H : Hp) (v : V) (u : Value) (Q : St → Hp → Prop), Inv X pins σ H s → RelV v u → t v σ H Q →
    wpAny (model X.prog X.w) X.A (assign target X.env u) (fun _ s' => ∃ σ' H', Inv X pins σ' H' s' ∧ Q σ' H') X.xe s
def PGs (X : Cx) (ts : List Expr) (t : TGs) : Prop :=
  ∀ (pins : List (Addr × Obj)) (s : Shared) (σ : St) (H : Hp) (vs : List V) (us : List Value) (Q : St → Hp → Prop), Inv X pins σ H s → Vals vs us → t vs σ H Q →
    wpAny (model X.prog X.w) X.A (assignInOrder ((assignEach ts X.env).map (·.2)) us) (fun _ s' => ∃ σ' H', Inv X pins σ' H' s' ∧ Q σ' H') X.xe s
abbrev TSet := V → V → V → Hp → (Hp → Prop) → Prop
def PSet (X : Cx) (t : TSet) : Prop :=
  ∀ (pins : List (Addr × Obj)) (s : Shared) (σ : St) (H : Hp) (o i v : V) (ov iv u : Value) (Q : Hp → Prop), Inv X pins σ H s → RelV o ov → RelV i iv → RelV v u → t o i v H Q →
    wpAny (model X.prog X.w) X.A (setItem ov iv u) (fun _ s' => ∃ H', Inv X pins σ H' s' ∧ Q H') X.xe s
abbrev TIp := V → V → Hp → VK → Prop
def PIp (X : Cx) (op : Operator) (t : TIp) : Prop :=
  ∀ (pins : List (Addr × Obj)) (s : Shared) (σ : St) (H : Hp) (x y : V) (v u : Value) (Q : VK), Inv X pins σ H s → RelV x v → RelV y u → t x y H Q →
    wpAny (model X.prog X.w) X.A (inplaceOp op v u) (EP X pins σ Q) X.xe s
section
variable {X : Cx} {pos : Pos}
def gName (i : Nat) : TG := fun v σ H Q => Q (σ.set i (some v)) H
theorem pg_name {i : Nat} {x : Str} (hN : X.N.Nodup) (hi : X.N[i]? = some x) (hx : Loc X.env.scope x) (hf : X.fn x = true ∨ X.env.scope.names.lookup x = some .local := by first | exact .inl rfl | exact .inr rfl | assumption) : PG X (.Name x pos) (gName i) := by
  intro pins s σ H v u Q I r h
  exact wpAny_assign_Name (store_ok I hN hi hx r (fun s' I' => ⟨_, H, I', h⟩) hf)
def gNil : TGs := fun vs σ H Q => vs = [] ∧ Q σ H
inductive gCons (t : TG) (u : TGs) (vs : List V) (σ : St) (H : Hp) (Q : St → Hp → Prop) : Prop
  | mk (v : V) (r : List V) (h0 : vs = v :: r) (h1 : t v σ H fun σ' H' => u r σ' H' Q) : gCons t u vs σ H Q
theorem pgs_nil : PGs X [] gNil := by
  intro pins s σ H vs us Q I r h
  obtain ⟨e, h⟩ := h
  subst e
  cases r
  exact assignInOrder_nil ⟨σ, H, I, h⟩
theorem pgs_cons {e : Expr} {es : List Expr} {t : TG} {u : TGs} (h1 : PG X e t) (h2 : PGs X es u)
    (hs : (assignEach (e :: es) X.env).map (·.2) = assign e X.env :: (assignEach es X.env).map (·.2) := by rfl) : PGs X (e :: es) (gCons t u) := by
  intro pins s σ H vs us Q I r h
  obtain ⟨v, vr, e1, h⟩ := h
  subst e1
  cases r with
  | cons r rr =>
    rw [hs]
    refine assignInOrder_cons (thn (h1 pins s σ H _ _ _ I r h) fun _ s1 ⟨σ1, H1, I1, q1⟩ => ?_)
    exact h2 pins s1 σ1 H1 _ _ Q I1 rr q1
inductive gTup (K : PySem.W.Frag) (n : Nat) (t : TGs) (v : V) (σ : St) (H : Hp) (Q : St → Hp → Prop) : Prop
  | mk (a : Addr) (xs : List V) (h0 : v = .ref a) (h1 : SqT K H a xs) (h2 : xs.length = n) (h3 : t xs σ H Q) : gTup K n t v σ H Q
theorem pg_tup {es : List Expr} {k : Nat} {t : TGs} {n : Nat} (hc : X.calm = true) (h : PGs X es t)
    (hn : (assignEach es X.env).length = n := by rfl) (hst : (assignEach es X.env).findIdx? (·.1) = none := by rfl) : PG X (.Tuple es k pos) (gTup X.K n t) := by
  intro pins s σ H v u Q I r hw
  obtain ⟨a, xs, e1, hq, hl, hw⟩ := hw
  subst e1
  cases r
  obtain ⟨its, rv, ht, hz⟩ := I.tuple hq
  refine assign_Tuple_tuple (I.ok.hd hc) ht (by simp [hn, ← hl, rv.length]) hst fun h' hx => ?_
  have I1 : Inv X pins σ H { s with heap := h' } := I.kept (t' := s.toks) fun b o e => hx b o (Nat.ne_of_lt (Heap.lt_size e)) e
  exact h pins _ σ H xs _ Q I1 (by simpa using rv) hw
def gSub (to ti : TE) (t : TSet) : TG := fun v σ H Q => to σ H fun o H1 => ti σ H1 fun i H2 => t o i v H2 fun H3 => Q σ H3
theorem pg_sub {o i : Expr} {to ti : TE} {t : TSet} (ho : PE X o to) (hi : PE X i ti) (hs : PSet X t)
    (ha : ∀ v, assign (.Subscript o i pos) X.env v = (do
      let ov ← holding [v] (eval o X.env)
      let iv ← holding [v, ov] (eval i X.env)
      standAt pos
      holding [v, ov, iv] (setItem ov iv v)
      release [v, ov, iv] []) := by intro _; rfl) : PG X (.Subscript o i pos) (gSub to ti t) := by
  intro pins s σ H v u Q I r h
  rw [ha]
  refine wpAny_bind (wpAny_holding (thn (ho pins s σ H _ I h) fun ov s1 ⟨x, H1, I1, r1, q1⟩ => ?_))
  refine wpAny_bind (wpAny_holding (thn (hi pins s1 σ H1 _ I1 q1) fun iv s2 ⟨y, H2, I2, r2, q2⟩ => ?_))
  refine wpAny_bind (wpAny_standAt (wpAny_bind (wpAny_holding (thn (hs pins s2 σ H2 x y v ov iv u _ I2 r1 r2 r q2) fun _ s3 ⟨H3, I3, q3⟩ => ?_))))
  exact wpAny_release ⟨σ, H3, I3, q3⟩
def tAsg (te : TE) (g : TG) : TS := fun D σ H => te σ H fun x H1 => g x σ H1 D.nx
theorem ps_asg {tg e : Expr} {te : TE} {g : TG} (he : PE X e te) (hg : PG X tg g) (hs : swapsWithSole [tg] e pos.line X.env = pure false := by rfl) (hw : swappedStores [tg] e X.env = pure none := by rfl)
    (h1 : (assignEach [tg] X.env).map (·.2) = [assign tg X.env] := by rfl) : PS X (.Assign [tg] e pos) (tAsg te g) := by
  intro pins s σ H D I h
  refine wpAny_Assign_stores (thn (he pins s σ H _ I h) fun v s1 ⟨x, H1, I1, r1, q1⟩ => ?_) hs hw
  rw [h1]
  exact thn (hg pins s1 σ H1 x v _ I1 r1 q1) fun _ s2 q => q
theorem ps_set {i : Nat} {x : Str} {e : Expr} {te : TE} {pos' : Pos} (hN : X.N.Nodup) (hi : X.N[i]? = some x) (hx : Loc X.env.scope x) (he : PE X e te) (hs : swapsWith e (some (.Name x pos')) pos.line X.env = pure false := by rfl) (hf : X.fn x = true ∨ X.env.scope.names.lookup x = some .local := by first | exact .inl rfl | exact .inr rfl | assumption) :
    PS X (.Assign [.Name x pos'] e pos) (tAsg te (gName i)) := by
  intro pins s σ H D I h
  refine wpAny_Assign_Name (thn (he pins s σ H _ I h) fun v s1 ⟨y, H1, I1, r1, q1⟩ => ?_) hs
  exact store_ok I1 hN hi hx r1 (fun s2 I2 => ⟨_, H1, I2, q1⟩) hf
def tPar (i j : Nat) (ta : TA) : TS := fun D σ H => ta σ H fun vs H1 => ∃ v w, vs = [v, w] ∧ D.nx ((σ.set i (some v)).set j (some w)) H1
theorem ps_par {i j : Nat} {x y : Str} {a b : Expr} {ta : TA} {px py pt : Pos} {kt k2 pt2} (hc : X.calm = true) (hN : X.N.Nodup) (hi : X.N[i]? = some x) (hj : X.N[j]? = some y) (hij : i ≠ j)
    (hx : X.env.scope.names.lookup x = some .local) (hy : X.env.scope.names.lookup y = some .local) (ha : PA X [a, b] ta)
    (hw : swappedStores [.Tuple [.Name x px, .Name y py] kt pt] (.Tuple [a, b] k2 pt2) X.env = pure (some [x, y]))
    (hs : swapsWithSole [.Tuple [.Name x px, .Name y py] kt pt] (.Tuple [a, b] k2 pt2) pos.line X.env = pure false := by rfl) :
    PS X (.Assign [.Tuple [.Name x px, .Name y py] kt pt] (.Tuple [a, b] k2 pt2) pos) (tPar i j ta) := by
  intro pins s σ H D I h
  rw [exec_Assign_arm]
  refine wpAny_bind (wpAny_standAt ?_)
  rw [hs]
  refine wpAny_bind (wpAny_pure ?_)
  rw [if_neg (by decide)]
  refine wpAny_bind (Tuple_ (thn (ha _ pins s σ H _ I h) fun us s1 ⟨vs, H1, I1, r1, q1⟩ => ?_))
  obtain ⟨v, w, e1, q1⟩ := q1
  subst e1
  obtain ⟨u1, u2, rfl, rv, rw'⟩ : ∃ u1 u2, us = [u1, u2] ∧ RelV v u1 ∧ RelV w u2 := by
    cases r1 with
    | cons p q =>
      cases q with
      | cons p' q' =>
        cases q'
        exact ⟨_, _, rfl, p, p'⟩
  refine wpAny_newObj_type ?_ (by show 2 ≤ sizeLine; decide)
  have I2 : Inv X pins σ H1 { s1 with heap := s1.heap.push { cls := .type "tuple", data := .seq [u1, u2].toArray } } := I1.kept (t' := s1.toks) fun b o e => Heap.get?_push_of_some _ e
  rw [hw]
  refine wpAny_bind (wpAny_pure ?_)
  show wpAny (model X.prog X.w) X.A (do rule "assign.swapped-stores"; let items ← unpackItems (.ref s1.heap.objs.size) 2 none; assignInOrder [fun v => bindName X.env y v, fun v => bindName X.env x v] items.reverse; pure Flow.next) _ _ _
  refine wpAny_bind (wpAny_rule (wpAny_bind (unpackItems_tuple (items := #[u1, u2]) (I.ok.hd hc) (IsTup.new s1.heap _) fun h' hx' => ?_)))
  have I3 := I2.kept (h' := h') (t' := s1.toks) fun b o e => hx' b o (Nat.ne_of_lt (Heap.lt_size e)) e
  show wpAny _ _ (assignInOrder [fun v => bindName X.env y v, fun v => bindName X.env x v] [u2, u1] >>= fun _ => pure Flow.next) _ _ _
  refine wpAny_bind (assignInOrder_cons (wpAny_bindName (store_ok I3 hN hj (.inl hy) rw' (fun s2 I4 => ?_) (.inr hy))))
  refine assignInOrder_cons (wpAny_bindName (store_ok I4 hN hi (.inl hx) rv (fun s3 I5 => assignInOrder_nil (wpAny_pure ?_)) (.inr hx)))
  rw [List.set_comm _ _ (Ne.symm hij)] at I5
  exact ⟨_, H1, I5, q1⟩
def tAug (i : Nat) (te : TE) (ti : TIp) : TS := fun D σ H => ∃ x, σ[i]? = some (some x) ∧ te σ H fun y H1 => ti x y H1 fun z H2 => D.nx (σ.set i (some z)) H2
theorem ps_aug {i : Nat} {x : Str} {e : Expr} {te : TE} {op : Operator} {ti : TIp} {pos' : Pos} (hN : X.N.Nodup) (hi : X.N[i]? = some x) (hx : Loc X.env.scope x) (he : PE X e te) (ho : PIp X op ti) (hf : X.fn x = true ∨ X.env.scope.names.lookup x = some .local := by first | exact .inl rfl | exact .inr rfl | assumption) :
    PS X (.AugAssign (.Name x pos') op e pos) (tAug i te ti) := by
  intro pins s σ H D I h
  obtain ⟨v, e1, h⟩ := h
  obtain ⟨m, hn, hl⟩ := I.loc
  have vis : Vis X.env.scope x := by rcases hx with k | k; exact .inl k; exact .inr (.inl k)
  obtain ⟨u, r, l⟩ := hl i x v hi e1 vis
  refine wpAny_AugAssign_Name ?_
  have go : wpAny (model X.prog X.w) X.A (eval e X.env) (fun w s₂ => wpAny (model X.prog X.w) X.A (inplaceOp op u w) (fun r s₃ => wpAny (model X.prog X.w) X.A (storeName X.env x r) (fun _ => SP X pins D .next) X.xe s₃) X.xe s₂) X.xe s := by
    refine thn (he pins s σ H _ I h) fun w s1 ⟨y, H1, I1, r1, q1⟩ => ?_
    refine thn (ho pins s1 σ H1 v y u w _ I1 r r1 q1) fun z s2 ⟨zv, H2, I2, r2, q2⟩ => ?_
    exact store_ok I2 hN hi hx r2 (fun s3 I3 => ⟨_, H2, I3, q2⟩) hf
  rcases l with ⟨hk, hm⟩ | ⟨hk, c, hc, hcell⟩
  · exact wpAny_loadName_local I.ok.kind hk hn hm go
  · rcases hk with hk | hk
    · exact wpAny_loadName_cell I.ok.kind hk hc hcell go
    · rcases hx with k | k
      · have : X.env.scope.names.lookup x = some .free := hk
        rw [k] at this; cases this
      · have : X.env.scope.names.lookup x = some .free := hk
        rw [k] at this; cases this
def ipI (f : Int → Int → Int) : TIp := fun x y H Q => ∃ i j, x = .int i ∧ y = .int j ∧ Q (.int (f i j)) H
theorem ip_add : PIp X .Add (ipI fun i j => i + j) := by
  intro pins s σ H x y v u Q I r1 r2 h
  obtain ⟨i, j, e1, e2, q⟩ := h
  subst e1; subst e2
  obtain ⟨t, rfl⟩ := r1
  obtain ⟨t', rfl⟩ := r2
  exact iadd_int ⟨.int _, H, I.tok _, ⟨_, rfl⟩, q⟩
theorem ip_sub : PIp X .Sub (ipI fun i j => i - j) := by
  intro pins s σ H x y v u Q I r1 r2 h
  obtain ⟨i, j, e1, e2, q⟩ := h
  subst e1; subst e2
  obtain ⟨t, rfl⟩ := r1
  obtain ⟨t', rfl⟩ := r2
  exact isub_int ⟨.int _, H, I.tok _, ⟨_, rfl⟩, q⟩
end
section
variable {X : Cx} {pos : Pos}
def tWhile (c : TT) (tb : TS) : TS := fun D σ H => ∃ W : Nat → St → Hp → Prop, (∃ m, W m σ H) ∧ ∀ m σ H, W m σ H →
  c σ H fun b H1 => if b = true then ∃ N : St → Hp → Prop, (∀ σ' H', N σ' H' → ∃ m', m' < m ∧ W m' σ' H') ∧ tb { D with nx := N, ct := N, bk := D.nx } σ H1 else D.nx σ H1
theorem ps_while {c : Expr} {body : List Stmt} {tc : TT} {tb : TS} (hp : PassesOwn (model X.prog X.w) X.A X.env X.xe) (hc : PT X c tc) (hb : PSs X body tb) : PS X (.While c body [] pos) (tWhile tc tb) := by
  intro pins s σ H D I h
  obtain ⟨W, ⟨m0, w0⟩, turn⟩ := h
  refine wpAny_While (codeAny_whileLoop (fun n s' => ∃ σ' H', Inv X pins σ' H' s' ∧ W n σ' H') ?_ m0 ⟨σ, H, I, w0⟩)
  rintro n s1 ⟨σ1, H1, I1, w1⟩
  refine wpAny_passesOwn hp (thn (hc pins s1 σ1 H1 _ I1 (turn n σ1 H1 w1)) fun b s2 ⟨H2, I2, q2⟩ => ?_)
  cases b with
  | true =>
    obtain ⟨N, hN, q2⟩ := q2
    rw [if_pos rfl]
    refine wpAny_passesOwn hp (thn (hb pins s2 σ1 H2 _ I2 q2) fun f s3 q3 => ?_)
    cases f with
    | next =>
      obtain ⟨σ3, H3, I3, n3⟩ := q3
      obtain ⟨m', hm, w3⟩ := hN σ3 H3 n3
      exact ⟨m', hm, σ3, H3, I3, w3⟩
    | cont =>
      obtain ⟨σ3, H3, I3, n3⟩ := q3
      obtain ⟨m', hm, w3⟩ := hN σ3 H3 n3
      exact ⟨m', hm, σ3, H3, I3, w3⟩
    | brk => exact q3
    | ret v => exact q3
  | false =>
    rw [if_neg Bool.false_ne_true]
    exact wpAny_execs_nil ⟨σ1, H2, I2, q2⟩
end
structure It where
  go : Nat → Hp → Prop
  yld : Nat → Hp → V → Hp → Prop
  stop : Nat → Hp → Prop
def FpOk (X : Cx) (pins : List (Addr × Obj)) (H : Hp) (b : Addr) : Prop :=
  H b = none ∧ b ≠ X.env.locals ∧ b ∉ X.fs ∧ (b ∈ X.ex ∨ X.s₀.heap.objs.size ≤ b) ∧ (∀ x c, X.env.cells.lookup x = some c → c ≠ b) ∧ ∀ p ∈ X.pn ++ pins, p.1 ≠ b
theorem Inv.fpOk {X : Cx} {pins : List (Addr × Obj)} {σ : St} {H H' : Hp} {s : Shared} {b : Addr} (I : Inv X pins σ H s) (hb : s.heap.objs.size ≤ b) (hn : H' b = none) : FpOk X pins H' b := by
  refine ⟨hn, Nat.ne_of_gt (Nat.lt_of_lt_of_le I.lt hb), I.nofs hb, .inr (Nat.le_trans I.sz hb), fun x c e z => ?_, fun p hp z => ?_⟩
  · obtain ⟨v, q⟩ := I.cell x c e
    exact absurd (Nat.lt_of_lt_of_le q.lt (by rw [z]; exact hb)) (Nat.lt_irrefl _)
  · exact absurd (Nat.lt_of_lt_of_le (Heap.lt_size (I.pin p hp).1) (by rw [z]; exact hb)) (Nat.lt_irrefl _)
structure Turn (P : Program) (w : World) (K : PySem.W.Frag) (tg : Expr) (J : It) (fp : List Addr) (it : Addr) (tn : Nat → Heap → Prop) : Prop where
  mem : it ∈ fp
  obj : ∀ i h, tn i h → ∀ b ∈ fp, ∃ o, h.get? b = some o ∧ ∀ v, o.data ≠ .cell v
  keep : ∀ i h h', tn i h → (∀ b ∈ fp, ∀ o, h.get? b = some o → h'.get? b = some o) → tn i h'
  item : ∀ (X : Cx), X.prog = P → X.w = w → X.K = K → X.calm = true → ∀ (i : Nat) (pins : List (Addr × Obj)) (s : Shared) (σ : St) (H : Hp) (E : Value → Shared → Prop), Inv X pins σ H s → (∀ b ∈ fp, FpOk X pins H b) → tn i s.heap → J.go i H →
    wpAny (model P w) X.A (pyNext (.ref it)) (fun r s1 => ∃ u, r = some u ∧
      wpAny (model P w) X.A (letOwnedTupleGo tg (.ref it) u) (fun _ s2 => ∃ x H', Inv X pins σ H' s2 ∧ RelV x u ∧ J.yld i H x H' ∧ tn (i + 1) s2.heap ∧ ∀ b ∈ fp, H' b = none) E s1) E s
  done : ∀ (X : Cx), X.prog = P → X.w = w → X.K = K → X.calm = true → ∀ (i : Nat) (pins : List (Addr × Obj)) (s : Shared) (σ : St) (H : Hp) (E : Value → Shared → Prop), Inv X pins σ H s → (∀ b ∈ fp, FpOk X pins H b) → tn i s.heap → J.stop i H →
    wpAny (model P w) X.A (pyNext (.ref it)) (fun r s1 => r = none ∧ Inv X pins σ H s1) E s
  self : ∀ (A : Around) (i : Nat) (s : Shared) (Q : Value → Shared → Prop) (E : Value → Shared → Prop), tn i s.heap → Q (.ref it) s → wpAny (model P w) A (pyIter (.ref it)) Q E s
abbrev TI := St → Hp → (It → Hp → Prop) → Prop
def PIE (X : Cx) (pins : List (Addr × Obj)) (σ : St) (tg : Expr) (R : It → Hp → Prop) (itv : Value) (s2 : Shared) : Prop :=
  ∃ (it : Addr) (fp : List Addr) (tn : Nat → Heap → Prop) (J : It) (H' : Hp), itv = .ref it ∧ Inv X pins σ H' s2 ∧ Turn X.prog X.w X.K tg J fp it tn ∧ tn 0 s2.heap ∧ (∀ b ∈ fp, FpOk X pins H' b) ∧ R J H'
def PI (X : Cx) (tg iter : Expr) (wi : TI) : Prop :=
  ∀ (pins : List (Addr × Obj)) (s : Shared) (σ : St) (H : Hp) (R : It → Hp → Prop), Inv X pins σ H s → wi σ H R →
    wpAny (model X.prog X.w) X.A (eval iter X.env) (fun v s1 => wpAny (model X.prog X.w) X.A (pyIter v) (PIE X pins σ tg R) X.xe s1) X.xe s
theorem go_of {M : Model} {A : Around} {E : Value → Shared → Prop} {s : Shared} {tg : Expr} {it : Addr} {u : Value} {o : Obj} {n : String} {vs : Array Value} {Q : Unit → Shared → Prop} (ho : s.heap.get? it = some o) (hc : o.cls = .type n) (hd : o.data = .fields vs)
    (hn : ["enumerate", "zip", "dict_itemiterator", "dict_reverseitemiterator", "odict_iterator", "itertools.zip_longest", "itertools.pairwise"].contains n = false) (hQ : Q () s) : wpAny M A (letOwnedTupleGo tg (.ref it) u) Q E s := by
  unfold letOwnedTupleGo
  cases tg <;> first
    | exact wpAny_pure hQ
    | (cases u <;> first
        | exact wpAny_pure hQ
        | (refine wpAny_bind (wpAny_load ho ?_)
           rw [hc, hd]
           show wpAny M A (if (["enumerate", "zip", "dict_itemiterator", "dict_reverseitemiterator", "odict_iterator", "itertools.zip_longest", "itertools.pairwise"].contains n && vs[0]? == some (rawInt _)) = true then _ else _) Q E s
           rw [if_neg (by intro h; rw [hn, Bool.false_and] at h; cases h)]
           exact wpAny_pure hQ))
def Itl (K : PySem.W.Frag) (a : Addr) : It :=
  ⟨fun i H => ∃ xs x, SqL K H a xs ∧ xs[i]? = some x, fun i H x H' => H' = H ∧ ∀ xs, SqL K H a xs → xs[i]? = some x, fun i H => ∃ xs, SqL K H a xs ∧ xs.length ≤ i⟩
def Itt (K : PySem.W.Frag) (a : Addr) : It :=
  ⟨fun i H => ∃ xs x, SqT K H a xs ∧ xs[i]? = some x, fun i H x H' => H' = H ∧ ∀ xs, SqT K H a xs → xs[i]? = some x, fun i H => ∃ xs, SqT K H a xs ∧ xs.length ≤ i⟩
def Itr (lo : Int) (n : Nat) : It := ⟨fun i _ => i < n, fun i H x H' => H' = H ∧ x = .int (lo + i), fun i _ => n ≤ i⟩
theorem turn_list {P : Program} {w : World} {K : PySem.W.Frag} {tg : Expr} (a it : Addr) : Turn P w K tg (Itl K a) [it] it (fun i h => h.IsListIter it a i) where
  mem := by simp
  obj := fun i h st b hb => by
    have e : b = it := by simpa using hb
    subst e
    obtain ⟨o, e, c, d⟩ := st
    exact ⟨o, e, fun v z => by rw [d] at z; cases z⟩
  keep := fun i h h' st k => st.at fun o e => k it (by simp) o e
  item := by
    intro X hP hw hK hc i pins s σ H E I hf st hg
    subst hP hw hK
    obtain ⟨xs, x, hq, hx⟩ := hg
    obtain ⟨its, rv, p, hz⟩ := I.list hq
    obtain ⟨u, hu, ru⟩ := rv.get hx
    obtain ⟨f0, f1, f2, f3, f4, f5⟩ := hf it (by simp)
    refine wpAny_pyNext_list_item st p.isList (x := u) (by simpa using hu) fun h' st' sb => ?_
    have I1 : Inv X pins σ H { s with heap := h' } := I.turned (t' := s.toks) (fun b o hb e => (sb.2 b hb).trans e) f0 f1 f3 f4 f5
    obtain ⟨o, e, c, d⟩ := id st'
    exact ⟨u, rfl, go_of (s := { s with heap := h' }) e c d (by decide) ⟨x, H, I1, ru, ⟨rfl, fun ys hy => by rw [I.list_inj hy hq]; exact hx⟩, st', fun b hb => (hf b hb).1⟩⟩
  done := by
    intro X hP hw hK hc i pins s σ H E I hf st hg
    subst hP hw hK
    obtain ⟨xs, hq, hx⟩ := hg
    obtain ⟨its, rv, p, hz⟩ := I.list hq
    obtain ⟨f0, f1, f2, f3, f4, f5⟩ := hf it (by simp)
    have hl := rv.length
    exact wpAny_pyNext_list_end (I.ok.hd hc) st p.isList (by simp; omega) fun h' eb => ⟨rfl, I.turned (t' := s.toks) (fun b o hb e => eb b o hb e) f0 f1 f3 f4 f5⟩
  self := fun _ _ _ _ _ st h => wpAny_pyIter_listiter st h
theorem turn_tuple {P : Program} {w : World} {K : PySem.W.Frag} {tg : Expr} (a it : Addr) : Turn P w K tg (Itt K a) [it] it (fun i h => h.IsTupleIter it a i) where
  mem := by simp
  obj := fun i h st b hb => by
    have e : b = it := by simpa using hb
    subst e
    obtain ⟨o, e, c, d⟩ := st
    exact ⟨o, e, fun v z => by rw [d] at z; cases z⟩
  keep := fun i h h' st k => st.at fun o e => k it (by simp) o e
  item := by
    intro X hP hw hK hc i pins s σ H E I hf st hg
    subst hP hw hK
    obtain ⟨xs, x, hq, hx⟩ := hg
    obtain ⟨its, rv, p, hz⟩ := I.tuple hq
    obtain ⟨u, hu, ru⟩ := rv.get hx
    obtain ⟨f0, f1, f2, f3, f4, f5⟩ := hf it (by simp)
    refine wpAny_pyNext_tuple_item st (show s.heap.IsTuple a its.toArray from p) (x := u) (by simpa using hu) fun h' st' sb => ?_
    have I1 : Inv X pins σ H { s with heap := h' } := I.turned (t' := s.toks) (fun b o hb e => (sb.2 b hb).trans e) f0 f1 f3 f4 f5
    obtain ⟨o, e, c, d⟩ := id st'
    exact ⟨u, rfl, go_of (s := { s with heap := h' }) e c d (by decide) ⟨x, H, I1, ru, ⟨rfl, fun ys hy => by rw [I.tuple_inj hy hq]; exact hx⟩, st', fun b hb => (hf b hb).1⟩⟩
  done := by
    intro X hP hw hK hc i pins s σ H E I hf st hg
    subst hP hw hK
    obtain ⟨xs, hq, hx⟩ := hg
    obtain ⟨its, rv, p, hz⟩ := I.tuple hq
    obtain ⟨f0, f1, f2, f3, f4, f5⟩ := hf it (by simp)
    have hl := rv.length
    exact wpAny_pyNext_tuple_end (I.ok.hd hc) st (show s.heap.IsTuple a its.toArray from p) (by simp; omega) fun h' eb => ⟨rfl, I.turned (t' := s.toks) (fun b o hb e => eb b o hb e) f0 f1 f3 f4 f5⟩
  self := fun _ _ _ _ _ st h => wpAny_pyIter_tupleiter st h
theorem turn_range {P : Program} {w : World} {K : PySem.W.Frag} {tg : Expr} (it : Addr) (lo : Int) (n : Nat) : Turn P w K tg (Itr lo n) [it] it (fun i h => IsRangeIter h it (lo + (i : Nat) * 1) ((n : Int) - (i : Nat)) 1) where
  mem := by simp
  obj := fun i h st b hb => by
    have e : b = it := by simpa using hb
    subst e
    exact ⟨_, st, fun v z => by
      have z' : Data.fields _ = Data.cell v := z
      cases z'⟩
  keep := fun i h h' st k => k it (by simp) _ st
  item := by
    intro X hP hw hK hc i pins s σ H E I hf st hg
    subst hP hw hK
    obtain ⟨f0, f1, f2, f3, f4, f5⟩ := hf it (by simp)
    have W := Walks.range (prog := X.prog) (w := X.w) (I.ok.hd hc) it lo 1 n
    refine W.item i s _ _ hg st fun v h' tk hv st' kk => ?_
    obtain ⟨t, rfl⟩ := hv
    have I1 : Inv X pins σ H { s with heap := h', toks := tk } := I.turned (fun b o hb e => kk b o (by simpa using hb) e) f0 f1 f3 f4 f5
    refine ⟨_, rfl, go_of (s := { s with heap := h', toks := tk }) (n := "range_iterator") st' rfl rfl (by decide) ⟨.int (lo + i), H, I1, ⟨t, ?_⟩, ⟨rfl, rfl⟩, st', fun b hb => (hf b hb).1⟩⟩
    rw [Int.mul_one]
  done := by
    intro X hP hw hK hc i pins s σ H E I hf st hg
    subst hP hw hK
    obtain ⟨f0, f1, f2, f3, f4, f5⟩ := hf it (by simp)
    exact wpAny_pyNext_range_end (I.ok.hd hc) st (by have : n ≤ i := hg; omega) fun h' eb => ⟨rfl, I.turned (t' := s.toks) (fun b o hb e => eb b o hb e) f0 f1 f3 f4 f5⟩
  self := fun _ _ _ _ _ st h => wpAny_pyIter_rangeiter st h
end L2
namespace L2
open PySem PySem.Spec PyProof.Rows
section
variable {X : Cx} {tg : Expr}
theorem range_it {pins : List (Addr × Obj)} {σ : St} {H : Hp} {s : Shared} {R : It → Hp → Prop} {E : Value → Shared → Prop} {lo hi : Int} {t u v : Tok} {tk : Nat} (I : Inv X pins σ H s) (h1 : -(2 ^ 62) ≤ lo) (h2 : lo < 2 ^ 62) (h3 : -(2 ^ 62) ≤ hi) (h4 : hi < 2 ^ 62)
    (q : R (Itr lo (hi - lo).toNat) H) : wpAny (model X.prog X.w) X.A (pyIter (.ref s.heap.objs.size)) (PIE X pins σ tg R) E { s with heap := s.heap.push { cls := .type "range", data := .fields #[.int lo t, .int hi u, .int 1 v] }, toks := tk } := by
  refine wpAny_pyIter_range (IsRange.new ..) (small_one h1 h2 h3 h4) ?_
  have I1 : Inv X pins σ H { s with heap := s.heap.push { cls := .type "range", data := .fields #[.int lo t, .int hi u, .int 1 v] }, toks := tk } := I.kept fun b o e => Heap.get?_push_of_some _ e
  refine ⟨(s.heap.push { cls := .type "range", data := .fields #[.int lo t, .int hi u, .int 1 v] }).objs.size, [(s.heap.push { cls := .type "range", data := .fields #[.int lo t, .int hi u, .int 1 v] }).objs.size], _, _, H, rfl,
    I1.kept (t' := tk) fun b o e => Heap.get?_push_of_some _ e, turn_range _ lo (hi - lo).toNat, ?_, fun b hb => ?_, q⟩
  · have e1 : lo + ((0 : Nat) : Int) * 1 = lo := by simp
    have e2 : (((hi - lo).toNat : Nat) : Int) - ((0 : Nat) : Int) = Builtin.Range.rangeSize lo hi 1 := by rw [rangeSize_one]; split <;> omega
    show IsRangeIter _ _ (lo + ((0 : Nat) : Int) * 1) ((((hi - lo).toNat : Nat) : Int) - ((0 : Nat) : Int)) 1
    rw [e1, e2]
    exact Heap.get?_push_size _ rfl
  · have e : b = (s.heap.push { cls := .type "range", data := .fields #[.int lo t, .int hi u, .int 1 v] }).objs.size := by simpa using hb
    subst e
    exact I1.fpOk (Nat.le_refl _) (I1.hok.fresh (Nat.le_refl _))
def iRng1 (ta : TA) : TI := fun σ H R => ta σ H fun vs H1 => ∃ j : Int, vs = [.int j] ∧ -(2 ^ 62) ≤ j ∧ j < 2 ^ 62 ∧ R (Itr 0 j.toNat) H1
theorem pi_range1 {a : Expr} {ta : TA} {p pos : Pos} (hg : Gl X "range") (hm : X.mg "range" = none) (ha : PA X [a] ta) (hs : starEach [a] X.env = [(false, eval a X.env)] := by rfl) : PI X tg (.Call (.Name "range" p) [a] [] pos) (iRng1 ta) := by
  intro pins s σ H R I h
  refine Call_ (ld_blt I hg hm boot_range (PyProof.Rows.callWith_type1 (thn (ha pos pins s σ H _ I h) fun us s1 ⟨vs, H1, I1, r1, q1⟩ => ?_) hs rfl))
  obtain ⟨j, e, q1, q2, q⟩ := q1
  subst e
  cases r1 with
  | cons r rr =>
    cases rr
    obtain ⟨t, rfl⟩ := r
    exact call_range_1 (range_it I1 (by omega) (by omega) q1 q2 (by simpa using q))
def tFor (wi : TI) (g : TG) (tb : TS) : TS := fun D σ H => wi σ H fun J H1 => ∃ W : Nat → Nat → St → Hp → Prop, (∃ m, W 0 m σ H1) ∧ ∀ i m σ H, W i m σ H →
  (J.stop i H ∧ D.nx σ H) ∨ (J.go i H ∧ ∃ N : St → Hp → Prop, (∀ σ' H', N σ' H' → ∃ m', m' < m ∧ W (i + 1) m' σ' H') ∧ ∀ x H', J.yld i H x H' → g x σ H' fun σ2 H2 => tb { D with nx := N, ct := N, bk := D.nx } σ2 H2)
def pinsAt (fp : List Addr) (h : Heap) : List (Addr × Obj) := fp.filterMap fun b => (h.get? b).map fun o => (b, o)
theorem mem_pinsAt {fp : List Addr} {h : Heap} {b : Addr} {o : Obj} (hb : b ∈ fp) (e : h.get? b = some o) : (b, o) ∈ pinsAt fp h := List.mem_filterMap.mpr ⟨b, hb, by rw [e]; rfl⟩
theorem of_pinsAt {fp : List Addr} {h : Heap} {p : Addr × Obj} (hp : p ∈ pinsAt fp h) : p.1 ∈ fp ∧ h.get? p.1 = some p.2 := by
  obtain ⟨b, hb, e⟩ := List.mem_filterMap.mp hp
  cases q : h.get? b with
  | none => rw [q] at e; cases e
  | some o =>
    rw [q] at e
    have e' : (b, o) = p := Option.some.inj e
    subst e'
    exact ⟨hb, q⟩
theorem Inv.pinned {pins : List (Addr × Obj)} {σ : St} {H : Hp} {s : Shared} {fp : List Addr} (I : Inv X pins σ H s) (hf : ∀ b ∈ fp, FpOk X pins H b) (ho : ∀ b ∈ fp, ∃ o, s.heap.get? b = some o ∧ ∀ v, o.data ≠ .cell v) : Inv X (pins ++ pinsAt fp s.heap) σ H s :=
  I.pins_of fun p hp => (List.mem_append.mp hp).elim (fun z => I.pin p (List.mem_append_right _ z)) fun z => by
    obtain ⟨hb, e⟩ := of_pinsAt z
    obtain ⟨f0, f1, f2, _⟩ := hf p.1 hb
    obtain ⟨o, e', d⟩ := ho p.1 hb
    rw [e] at e'; cases e'
    exact ⟨e, f0, f1, f2, d⟩
theorem Inv.unpinned {pins pl : List (Addr × Obj)} {σ : St} {H : Hp} {s : Shared} (I : Inv X (pins ++ pl) σ H s) : Inv X pins σ H s := I.pins_of fun p hp => I.pin p (List.mem_append_right _ (List.mem_append_left _ hp))
theorem ps_for {iter : Expr} {body : List Stmt} {wi : TI} {g : TG} {tb : TS} {pos : Pos} (hp : PassesOwn (model X.prog X.w) X.A X.env X.xe) (hc : X.calm = true) (hi : PI X tg iter wi) (hg : PG X tg g) (hb : PSs X body tb)
    (hs : ∀ x, foldedSetIterable iter X.env x = pure x := by intro _; rfl) : PS X (.For tg iter body [] pos) (tFor wi g tb) := by
  intro pins s σ H D I h
  refine wpAny_For (thn (hi pins s σ H _ I h) fun v s1 h1 => thn h1 fun itv s2 h2 => ?_) hs
  obtain ⟨it, fp, tn, J, H2, e, I2, T, st2, f2, W, ⟨m0, w0⟩, turn⟩ := h2
  subst e
  -- what stays true of the iterator's objects through the loop
  have stat : ∀ {H' : Hp}, (∀ b ∈ fp, H' b = none) → ∀ b ∈ fp, FpOk X pins H' b := fun hn b hb => ⟨hn b hb, (f2 b hb).2⟩
  refine codeAny_forLoop_any (fun n s' => ∃ i σ' H', Inv X pins σ' H' s' ∧ tn i s'.heap ∧ (∀ b ∈ fp, H' b = none) ∧ W i n σ' H') ?_ m0 ⟨0, σ, H2, I2, st2, fun b hb => (f2 b hb).1, w0⟩
  rintro n s3 ⟨i, σ3, H3, I3, st3, fr3, w3⟩
  rcases turn i n σ3 H3 w3 with ⟨stop, qn⟩ | ⟨go, N, hN, step⟩
  · refine wpAny_passesOwn hp (thn (T.done X rfl rfl rfl hc i pins s3 σ3 H3 X.xe I3 (stat fr3) st3 stop) fun r s4 ⟨hr, I4⟩ => ?_)
    subst hr
    exact wpAny_execs_nil ⟨σ3, H3, I4, qn⟩
  · refine wpAny_passesOwn hp (thn (T.item X rfl rfl rfl hc i pins s3 σ3 H3 X.xe I3 (stat fr3) st3 go) fun r s4 ⟨u, hr, h4⟩ => ?_)
    subst hr
    refine wpAny_passesOwn hp (thn h4 fun _ s5 ⟨x, H5, I5, r5, y5, st5, fr5⟩ => ?_)
    have I5' := I5.pinned (stat fr5) (T.obj _ _ st5)
    refine wpAny_passesOwn hp (thn (hg _ s5 σ3 H5 x u _ I5' r5 (step x H5 y5)) fun _ s6 ⟨σ6, H6, I6, q6⟩ => ?_)
    refine wpAny_passesOwn hp (thn (hb _ s6 σ6 H6 _ I6 q6) fun f s7 q7 => ?_)
    have again : ∀ {σ7 : St} {H7 : Hp}, Inv X (pins ++ pinsAt fp s5.heap) σ7 H7 s7 → N σ7 H7 → ∃ m, m < n ∧ ∃ i σ' H', Inv X pins σ' H' s7 ∧ tn i s7.heap ∧ (∀ b ∈ fp, H' b = none) ∧ W i m σ' H' := fun {σ7 H7} I7 n7 => by
      obtain ⟨m', hm, w7⟩ := hN σ7 H7 n7
      refine ⟨m', hm, i + 1, σ7, H7, I7.unpinned, T.keep _ _ _ st5 fun b hb o e => (I7.pin (b, o) (List.mem_append_right _ (List.mem_append_right _ (mem_pinsAt hb e)))).1, fun b hb => ?_, w7⟩
      obtain ⟨o, e, d⟩ := T.obj _ _ st5 b hb
      exact (I7.pin (b, o) (List.mem_append_right _ (List.mem_append_right _ (mem_pinsAt hb e)))).2.1
    cases f with
    | next => obtain ⟨σ7, H7, I7, n7⟩ := q7; exact again I7 n7
    | cont => obtain ⟨σ7, H7, I7, n7⟩ := q7; exact again I7 n7
    | brk => obtain ⟨σ7, H7, I7, q7⟩ := q7; exact ⟨σ7, H7, I7.unpinned, q7⟩
    | ret v => obtain ⟨x7, σ7, H7, I7, r7, q7⟩ := q7; exact ⟨x7, σ7, H7, I7.unpinned, r7, q7⟩
end
theorem for_list {K : PySem.W.Frag} {a : Addr} {xs : List V} {g : TG} {tb : TS} {D : Ends} {σ : St} {H : Hp} (Pv : Nat → St → Hp → Prop) (h0 : Pv 0 σ H) (hl : ∀ i σ H, i ≤ xs.length → Pv i σ H → SqL K H a xs)
    (hs : ∀ i x σ H, xs[i]? = some x → Pv i σ H → g x σ H fun σ2 H2 => tb { D with nx := Pv (i + 1), ct := Pv (i + 1), bk := D.nx } σ2 H2) (hd : ∀ σ H, Pv xs.length σ H → D.nx σ H) :
    ∃ W : Nat → Nat → St → Hp → Prop, (∃ m, W 0 m σ H) ∧ ∀ i m σ H, W i m σ H →
      ((Itl K a).stop i H ∧ D.nx σ H) ∨ ((Itl K a).go i H ∧ ∃ N : St → Hp → Prop, (∀ σ' H', N σ' H' → ∃ m', m' < m ∧ W (i + 1) m' σ' H') ∧ ∀ x H', (Itl K a).yld i H x H' → g x σ H' fun σ2 H2 => tb { D with nx := N, ct := N, bk := D.nx } σ2 H2) := by
  refine ⟨fun i m σ H => m = xs.length - i ∧ i ≤ xs.length ∧ Pv i σ H, ⟨xs.length, by simp, Nat.zero_le _, h0⟩, ?_⟩
  rintro i m σ H ⟨rfl, hi, p⟩
  have q := hl i σ H hi p
  by_cases hlt : i < xs.length
  · refine .inr ⟨⟨xs, xs[i], q, by simp [hlt]⟩, Pv (i + 1), fun σ' H' p' => ⟨xs.length - (i + 1), by omega, rfl, hlt, p'⟩, fun x H' y => ?_⟩
    obtain ⟨e, y⟩ := y
    subst e
    exact hs i x σ _ (y xs q) p
  · have e : i = xs.length := by omega
    subst e
    exact .inl ⟨⟨xs, q, Nat.le_refl _⟩, hd σ H p⟩
theorem for_range {lo : Int} {n : Nat} {g : TG} {tb : TS} {D : Ends} {σ : St} {H : Hp} (Pv : Nat → St → Hp → Prop) (h0 : Pv 0 σ H)
    (hs : ∀ i σ H, i < n → Pv i σ H → g (.int (lo + i)) σ H fun σ2 H2 => tb { D with nx := Pv (i + 1), ct := Pv (i + 1), bk := D.nx } σ2 H2) (hd : ∀ σ H, Pv n σ H → D.nx σ H) :
    ∃ W : Nat → Nat → St → Hp → Prop, (∃ m, W 0 m σ H) ∧ ∀ i m σ H, W i m σ H →
      ((Itr lo n).stop i H ∧ D.nx σ H) ∨ ((Itr lo n).go i H ∧ ∃ N : St → Hp → Prop, (∀ σ' H', N σ' H' → ∃ m', m' < m ∧ W (i + 1) m' σ' H') ∧ ∀ x H', (Itr lo n).yld i H x H' → g x σ H' fun σ2 H2 => tb { D with nx := N, ct := N, bk := D.nx } σ2 H2) := by
  refine ⟨fun i m σ H => m = n - i ∧ i ≤ n ∧ Pv i σ H, ⟨n, by simp, Nat.zero_le _, h0⟩, ?_⟩
  rintro i m σ H ⟨rfl, hi, p⟩
  by_cases hlt : i < n
  · refine .inr ⟨hlt, Pv (i + 1), fun σ' H' p' => ⟨n - (i + 1), by omega, rfl, hlt, p'⟩, fun x H' y => ?_⟩
    obtain ⟨e, y⟩ := y
    subst e y
    exact hs i σ _ hlt p
  · have e : i = n := by omega
    subst e
    exact .inl ⟨Nat.le_refl _, hd σ H p⟩
end L2
namespace L2
open PySem PySem.Spec PyProof.Rows
abbrev R2 := V → V → Hp → VK → Prop
def OpR (X : Cx) (f : Value → Value → Sem Value) (r : R2) : Prop :=
  ∀ (pins : List (Addr × Obj)) (s : Shared) (σ : St) (H : Hp) (x y : V) (v u : Value) (Q : VK), Inv X pins σ H s → RelV x v → RelV y u → r x y H Q →
    wpAny (model X.prog X.w) X.A (f v u) (EP X pins σ Q) X.xe s
def UnR (X : Cx) (f : Value → Sem Value) (r : V → Hp → VK → Prop) : Prop :=
  ∀ (pins : List (Addr × Obj)) (s : Shared) (σ : St) (H : Hp) (x : V) (v : Value) (Q : VK), Inv X pins σ H s → RelV x v → r x H Q →
    wpAny (model X.prog X.w) X.A (f v) (EP X pins σ Q) X.xe s
def CallR (X : Cx) (f : Value) (r : List V → Hp → VK → Prop) : Prop :=
  ∀ (pins : List (Addr × Obj)) (s : Shared) (σ : St) (H : Hp) (xs : List V) (us : List Value) (Q : VK), Inv X pins σ H s → Vals xs us → r xs H Q →
    wpAny (model X.prog X.w) X.A (call f us) (EP X pins σ Q) X.xe s
def TruR (X : Cx) (r : V → Hp → (Bool → Hp → Prop) → Prop) : Prop :=
  ∀ (pins : List (Addr × Obj)) (s : Shared) (σ : St) (H : Hp) (x : V) (v : Value) (Q : Bool → Hp → Prop), Inv X pins σ H s → RelV x v → r x H Q →
    wpAny (model X.prog X.w) X.A (truthy v) (TP X pins σ Q) X.xe s
def tOp (r : R2) (ta tb : TE) : TE := fun σ H Q => ta σ H fun x H1 => tb σ H1 fun y H2 => r x y H2 Q
def tUn (r : V → Hp → VK → Prop) (ta : TE) : TE := fun σ H Q => ta σ H fun x H1 => r x H1 Q
def rI (C : Int → Int → Prop) (g : Int → Int → V) : R2 := fun x y H Q => ∃ i j, x = .int i ∧ y = .int j ∧ C i j ∧ Q (g i j) H
def rI0 (g : Int → Int → V) : R2 := fun x y H Q => ∃ i j, x = .int i ∧ y = .int j ∧ Q (g i j) H
def rU (g : Int → V) : V → Hp → VK → Prop := fun x H Q => ∃ i, x = .int i ∧ Q (g i) H
section
variable {X : Cx} {a b c : Expr} {ta tb tc : TE} {pos : Pos}
theorem binT (ha : PE X a ta) (hb : PE X b tb) {pins : List (Addr × Obj)} {s : Shared} {σ : St} {H : Hp} {R : V → V → Hp → Prop} (I : Inv X pins σ H s)
    (h : ta σ H fun x H1 => tb σ H1 fun y H2 => R x y H2) {Q : Value → Shared → Prop} {f : Value → Value → Sem Value}
    (hf : ∀ v u s2 x y H2, Inv X pins σ H2 s2 → RelV x v → RelV y u → R x y H2 → wpAny (model X.prog X.w) X.A (f v u) Q X.xe s2) :
    wpAny (model X.prog X.w) X.A (eval a X.env) (fun v s₁ => wpAny (model X.prog X.w) X.A (eval b X.env) (fun u s₂ => wpAny (model X.prog X.w) X.A (f v u) Q X.xe s₂) X.xe s₁) X.xe s := by
  refine thn (ha pins s σ H _ I h) fun v s1 ⟨x, H1, I1, r1, q1⟩ => ?_
  refine thn (hb pins s1 σ H1 _ I1 q1) fun u s2 ⟨y, H2, I2, r2, q2⟩ => ?_
  exact hf v u s2 x y H2 I2 r1 r2 q2
theorem pe_op {op : Operator} {r : R2} (ho : OpR X (binaryOp op) r) (ha : PE X a ta) (hb : PE X b tb) : PE X (.BinOp a op b pos) (tOp r ta tb) := by
  intro pins s σ H Q I h
  exact wpAny_BinOp (binT ha hb I h fun v u s2 x y H2 I2 rx ry q => ho pins s2 σ H2 x y v u Q I2 rx ry q)
theorem pe_un {op : UnaryOp} {r : V → Hp → VK → Prop} (ho : UnR X (unaryOp op) r) (ha : PE X a ta) : PE X (.UnaryOp op a pos) (tUn r ta) := by
  intro pins s σ H Q I h
  exact UnaryOp_ (thn (ha pins s σ H _ I h) fun v s1 ⟨x, H1, I1, r1, q1⟩ => ho pins s1 σ H1 x v Q I1 r1 q1)
theorem opI {f : Value → Value → Sem Value} {C : Int → Int → Prop} {g : Int → Int → Int}
    (rule : ∀ (i j : Int) (t u : Tok) (s : Shared) (Q : Value → Shared → Prop) (E : Value → Shared → Prop), C i j → Q (.int (g i j) s.toks) { s with toks := s.toks + 1 } → wpAny (model X.prog X.w) X.A (f (.int i t) (.int j u)) Q E s) :
    OpR X f (rI C fun i j => .int (g i j)) := by
  intro pins s σ H x y v u Q I rx ry h
  obtain ⟨i, j, rfl, rfl, hc, q⟩ := h
  obtain ⟨t, rfl⟩ := rx
  obtain ⟨t', rfl⟩ := ry
  exact rule i j t t' s _ _ hc ⟨.int (g i j), H, I.tok _, ⟨_, rfl⟩, q⟩
theorem opI0 {f : Value → Value → Sem Value} {g : Int → Int → Int}
    (rule : ∀ (i j : Int) (t u : Tok) (s : Shared) (Q : Value → Shared → Prop) (E : Value → Shared → Prop), Q (.int (g i j) s.toks) { s with toks := s.toks + 1 } → wpAny (model X.prog X.w) X.A (f (.int i t) (.int j u)) Q E s) :
    OpR X f (rI0 fun i j => .int (g i j)) := by
  intro pins s σ H x y v u Q I rx ry h
  obtain ⟨i, j, rfl, rfl, q⟩ := h
  obtain ⟨t, rfl⟩ := rx
  obtain ⟨t', rfl⟩ := ry
  exact rule i j t t' s _ _ ⟨.int (g i j), H, I.tok _, ⟨_, rfl⟩, q⟩
theorem opB0 {f : Value → Value → Sem Value} {g : Int → Int → Bool}
    (rule : ∀ (i j : Int) (t u : Tok) (s : Shared) (Q : Value → Shared → Prop) (E : Value → Shared → Prop), Q (.bool (g i j)) s → wpAny (model X.prog X.w) X.A (f (.int i t) (.int j u)) Q E s) :
    OpR X f (rI0 fun i j => .bl (g i j)) := by
  intro pins s σ H x y v u Q I rx ry h
  obtain ⟨i, j, rfl, rfl, q⟩ := h
  obtain ⟨t, rfl⟩ := rx
  obtain ⟨t', rfl⟩ := ry
  exact rule i j t t' s _ _ ⟨.bl (g i j), H, I, rfl, q⟩
def CDiv (i j : Int) : Prop := 0 < j ∧ j < 1073741824
def CPow (i j : Int) : Prop := 0 ≤ j ∧ j ≤ 1000000 ∧ i.natAbs < 2 ^ 64
def CMul (i j : Int) : Prop := (-(2 ^ 64) < i ∧ i < 2 ^ 64) ∨ (-(2 ^ 64) < j ∧ j < 2 ^ 64)
theorem CMul.ok {i j : Int} (h : CMul i j) : IntMulOk i j := by
  rcases h with ⟨h1, h2⟩ | ⟨h1, h2⟩
  · exact .of_left (intBits_le_64 h1 h2)
  · exact .of_right (intBits_le_64 h1 h2)
theorem op_add : OpR X (binaryOp .Add) (rI0 fun i j => .int (i + j)) := opI0 fun _ _ _ _ _ _ _ q => add_int q
theorem op_sub : OpR X (binaryOp .Sub) (rI0 fun i j => .int (i - j)) := opI0 fun _ _ _ _ _ _ _ q => sub_int q
theorem op_mod : OpR X (binaryOp .Mod) (rI (fun _ j => 0 < j) fun i j => .int (i % j)) := opI fun i j _ _ _ _ _ hc q => by
  have h1 : (0 : Int) < j := hc
  exact mod_int' (by omega) (by rw [Int.fmod_eq_emod_of_nonneg i (by omega)]; exact q)
theorem op_pow : OpR X (binaryOp .Pow) (rI CPow fun i j => .int (i ^ j.toNat)) := opI fun _ _ _ _ _ _ _ hc q => pow_int_small hc.1 hc.2.1 hc.2.2 q
theorem unI {f : Value → Sem Value} {g : Int → Int}
    (rule : ∀ (i : Int) (t : Tok) (s : Shared) (Q : Value → Shared → Prop) (E : Value → Shared → Prop), Q (.int (g i) s.toks) { s with toks := s.toks + 1 } → wpAny (model X.prog X.w) X.A (f (.int i t)) Q E s) :
    UnR X f (rU fun i => .int (g i)) := by
  intro pins s σ H x v Q I rx h
  obtain ⟨i, rfl, q⟩ := h
  obtain ⟨t, rfl⟩ := rx
  exact rule i t s _ _ ⟨.int (g i), H, I.tok _, ⟨_, rfl⟩, q⟩
theorem un_neg : UnR X (unaryOp .USub) (rU fun i => .int (-i)) := unI fun _ _ _ _ _ q => neg_int q
end
def scal : V → V → Bool
  | .non, .non => true | .non, .int _ => true | .int _, .non => true | .non, .bl _ => true | .bl _, .non => true | .non, .str _ => true | .str _, .non => true
  | .int _, .int _ => true | .bl _, .bl _ => true | .str _, .str _ => true | .byt _, .byt _ => true
  | .int _, .str _ => true | .str _, .int _ => true | .bl _, .str _ => true | .str _, .bl _ => true
  | _, _ => false
def rEq : R2 := fun x y H Q => scal x y = true ∧ Q (.bl (decide (x = y))) H
def rNe : R2 := fun x y H Q => scal x y = true ∧ Q (.bl (!decide (x = y))) H
theorem dec_int {i j : Int} : decide (V.int i = V.int j) = (i == j) := by
  rw [Bool.eq_iff_iff]
  simp
theorem dec_bl {i j : Bool} : decide (V.bl i = V.bl j) = (i == j) := by
  rw [Bool.eq_iff_iff]
  simp
theorem dec_str {i j : Str} : decide (V.str i = V.str j) = (i == j) := by
  rw [Bool.eq_iff_iff]
  simp
theorem dec_byt {i j : Array UInt8} : decide (V.byt i = V.byt j) = (i.toList == j.toList) := by
  rw [Bool.eq_iff_iff]
  cases i
  cases j
  simp
section
variable {X : Cx} {a b c : Expr} {ta tb tc : TE} {pos : Pos}
theorem fin_bl {pins : List (Addr × Obj)} {σ : St} {H : Hp} {s : Shared} {Q : VK} {k k' : Bool} (I : Inv X pins σ H s) (q : Q (.bl k) H) (e : k = k') : EP X pins σ Q (.bool k') s := by
  subst e
  exact ⟨.bl k, H, I, rfl, q⟩
theorem op_eq : OpR X (compareOp .Eq) rEq := by
  intro pins s σ H x y v u Q I rx ry h
  obtain ⟨hs, q⟩ := h
  cases x with
  | non =>
    cases rx
    cases y with
    | non => cases ry; exact PySem.EqNone.eq_none_none (fin_bl I q (by simp))
    | bl j => cases ry; exact PySem.EqNone.eq_none_bool (fin_bl I q (by simp))
    | int j => obtain ⟨t', rfl⟩ := ry; exact PySem.EqNone.eq_none_int (fin_bl I q (by simp))
    | str j => obtain ⟨t', rfl⟩ := ry; exact PySem.EqNone.eq_none_str (fin_bl I q (by simp))
    | _ => exact absurd (show false = true from hs) Bool.false_ne_true
  | bl i =>
    cases rx
    cases y with
    | non => cases ry; exact PySem.EqNone.eq_bool_none (fin_bl I q (by simp))
    | bl j => cases ry; exact eq_bool (fin_bl I q dec_bl)
    | str j => obtain ⟨t', rfl⟩ := ry; exact PySem.EqMixed.eq_bool_str (fin_bl I q (by simp))
    | _ => exact absurd (show false = true from hs) Bool.false_ne_true
  | int i =>
    obtain ⟨t, rfl⟩ := rx
    cases y with
    | non => cases ry; exact PySem.EqNone.eq_int_none (fin_bl I q (by simp))
    | int j => obtain ⟨t', rfl⟩ := ry; exact eq_int (fin_bl I q dec_int)
    | str j => obtain ⟨t', rfl⟩ := ry; exact PySem.EqMixed.eq_int_str (fin_bl I q (by simp))
    | _ => exact absurd (show false = true from hs) Bool.false_ne_true
  | str i =>
    obtain ⟨t, rfl⟩ := rx
    cases y with
    | non => cases ry; exact PySem.EqNone.eq_str_none (fin_bl I q (by simp))
    | bl j => cases ry; exact PySem.EqMixed.eq_str_bool (fin_bl I q (by simp))
    | int j => obtain ⟨t', rfl⟩ := ry; exact PySem.EqMixed.eq_str_int (fin_bl I q (by simp))
    | str j => obtain ⟨t', rfl⟩ := ry; exact eq_str (fin_bl I q dec_str)
    | _ => exact absurd (show false = true from hs) Bool.false_ne_true
  | byt i =>
    obtain ⟨t, rfl⟩ := rx
    cases y with
    | byt j => obtain ⟨t', rfl⟩ := ry; exact PySem.W.eq_bytes (fin_bl I q dec_byt)
    | _ => exact absurd (show false = true from hs) Bool.false_ne_true
  | _ => cases y <;> exact absurd (show false = true from hs) Bool.false_ne_true
theorem op_ne : OpR X (compareOp .NotEq) rNe := by
  intro pins s σ H x y v u Q I rx ry h
  obtain ⟨hs, q⟩ := h
  cases x with
  | non =>
    cases rx
    cases y with
    | non => cases ry; exact PySem.EqNone.ne_none_none (fin_bl I q (by simp))
    | bl j => cases ry; exact PySem.EqNone.ne_none_bool (fin_bl I q (by simp))
    | int j => obtain ⟨t', rfl⟩ := ry; exact PySem.EqNone.ne_none_int (fin_bl I q (by simp))
    | str j => obtain ⟨t', rfl⟩ := ry; exact PySem.EqNone.ne_none_str (fin_bl I q (by simp))
    | _ => exact absurd (show false = true from hs) Bool.false_ne_true
  | bl i =>
    cases rx
    cases y with
    | non => cases ry; exact PySem.EqNone.ne_bool_none (fin_bl I q (by simp))
    | bl j => cases ry; exact ne_bool (fin_bl I q (congrArg not dec_bl))
    | str j => obtain ⟨t', rfl⟩ := ry; exact PySem.EqMixed.ne_bool_str (fin_bl I q (by simp))
    | _ => exact absurd (show false = true from hs) Bool.false_ne_true
  | int i =>
    obtain ⟨t, rfl⟩ := rx
    cases y with
    | non => cases ry; exact PySem.EqNone.ne_int_none (fin_bl I q (by simp))
    | int j => obtain ⟨t', rfl⟩ := ry; exact ne_int (fin_bl I q (congrArg not dec_int))
    | str j => obtain ⟨t', rfl⟩ := ry; exact PySem.EqMixed.ne_int_str (fin_bl I q (by simp))
    | _ => exact absurd (show false = true from hs) Bool.false_ne_true
  | str i =>
    obtain ⟨t, rfl⟩ := rx
    cases y with
    | non => cases ry; exact PySem.EqNone.ne_str_none (fin_bl I q (by simp))
    | bl j => cases ry; exact PySem.EqMixed.ne_str_bool (fin_bl I q (by simp))
    | int j => obtain ⟨t', rfl⟩ := ry; exact PySem.EqMixed.ne_str_int (fin_bl I q (by simp))
    | str j => obtain ⟨t', rfl⟩ := ry; exact ne_str (fin_bl I q (congrArg not dec_str))
    | _ => exact absurd (show false = true from hs) Bool.false_ne_true
  | byt i =>
    obtain ⟨t, rfl⟩ := rx
    cases y with
    | byt j => obtain ⟨t', rfl⟩ := ry; exact PySem.W.ne_bytes (fin_bl I q (congrArg not dec_byt))
    | _ => exact absurd (show false = true from hs) Bool.false_ne_true
  | _ => cases y <;> exact absurd (show false = true from hs) Bool.false_ne_true
theorem op_lt : OpR X (compareOp .Lt) (rI0 fun i j => .bl (decide (i < j))) := opB0 fun _ _ _ _ _ _ _ q => lt_int q
theorem op_le : OpR X (compareOp .LtE) (rI0 fun i j => .bl (decide (i ≤ j))) := opB0 fun _ _ _ _ _ _ _ q => le_int q
theorem op_gt : OpR X (compareOp .Gt) (rI0 fun i j => .bl (decide (j < i))) := opB0 fun _ _ _ _ _ _ _ q => gt_int q
theorem op_ge : OpR X (compareOp .GtE) (rI0 fun i j => .bl (decide (j ≤ i))) := opB0 fun _ _ _ _ _ _ _ q => ge_int q
theorem op_lt_str : OpR X (compareOp .Lt) (fun x y H Q => ∃ i j, x = .str i ∧ y = .str j ∧ Q (.bl (decide (i.cps.toList < j.cps.toList))) H) := by
  intro pins s σ H x y v u Q I rx ry h
  obtain ⟨i, j, rfl, rfl, q⟩ := h
  obtain ⟨t, rfl⟩ := rx
  obtain ⟨t', rfl⟩ := ry
  exact lt_str (fin_bl I q rfl)
theorem op_notN : OpR X (compareOp .IsNot) (fun x y H Q => y = .non ∧ Q (.bl (!decide (x = .non))) H) := by
  intro pins s σ H x y v u Q I rx ry h
  obtain ⟨rfl, q⟩ := h
  cases ry
  refine isnot_none_gen (fin_bl I q ?_)
  cases x <;> first
    | (cases rx; rfl)
    | (obtain ⟨t, rfl⟩ := rx; rfl)
def isObj : HO → Bool
  | .lst _ => true
  | .ins _ _ _ => true
  | _ => false
theorem OpR.or {f : Value → Value → Sem Value} {r r' : R2} (h : OpR X f r) (h' : OpR X f r') : OpR X f (fun x y H Q => r x y H Q ∨ r' x y H Q) := by
  intro pins s σ H x y v u Q I rx ry q
  rcases q with q | q
  · exact h pins s σ H x y v u Q I rx ry q
  · exact h' pins s σ H x y v u Q I rx ry q
theorem nomark (b : Expr) {op : CmpOp} (h : op ≠ .In := by decide) (h2 : op ≠ .NotIn := by decide) : behindInMarks op b = false := by
  have e1 : (op == CmpOp.In) = false := by cases op <;> first | rfl | exact absurd rfl h
  have e2 : (op == CmpOp.NotIn) = false := by cases op <;> first | rfl | exact absurd rfl h2
  cases b <;> simp [behindInMarks, e1, e2]
theorem pe_cmpR {op : CmpOp} {r : R2} (ho : OpR X (compareOp op) r) (ha : PE X a ta) (hb : PE X b tb) (hm : behindInMarks op b = false) : PE X (.Compare a [op] [b] pos) (tOp r ta tb) := by
  intro pins s σ H Q I h
  exact wpAny_Compare1 (binT ha hb I h fun v u s2 x y H2 I2 rx ry q => ho pins s2 σ H2 x y v u Q I2 rx ry q) hm
def TruV (K : PySem.W.Frag) (x : V) (H : Hp) (k : Bool) : Prop :=
  match x with
  | .non => k = false
  | .bl b => k = b
  | .int i => k = (i != 0)
  | .str y => y.length ≤ sizeLine ∧ k = ((y.length : Int) != 0)
  | .byt y => y.size ≤ sizeLine ∧ k = ((y.size : Int) != 0)
  | .ref p => (∃ xs, SqL K H p xs ∧ k = !xs.isEmpty) ∨ (∃ xs, SqT K H p xs ∧ k = !xs.isEmpty) ∨ ∃ kvs, H p = some (.dK kvs) ∧ k = !kvs.isEmpty
  | _ => False
theorem isEmpty_kv {κ : Type} {kvs : List (κ × V)} {vs : List (κ × Value)} (r : KV kvs vs) : (!vs.isEmpty) = !kvs.isEmpty := by
  cases r <;> rfl
theorem isEmpty_of {xs : List V} {its : List Value} (r : Vals xs its) : (!its.toArray.isEmpty) = !xs.isEmpty := by
  cases r <;> simp
theorem line63 : (sizeLine : Nat) < 2 ^ 63 := by rw [sizeLine_eq]; decide
theorem tru_ok : TruR X (fun x H Q => ∃ k, TruV X.K x H k ∧ Q k H) := by
  intro pins s σ H x v Q I rx h
  obtain ⟨k, e, q⟩ := h
  have hl := line63
  have hs : sizeLine = 16777216 := sizeLine_eq
  cases x with
  | non =>
    cases rx
    have e' : k = false := e
    subst e'
    exact truthy_none ⟨H, I, q⟩
  | bl b =>
    cases rx
    have e' : k = b := e
    subst e'
    exact wpAny_truthy_bool ⟨H, I, q⟩
  | int i =>
    obtain ⟨t, rfl⟩ := rx
    have e' : k = (i != 0) := e
    subst e'
    exact PySem.P.truthy_int ⟨H, I, q⟩
  | str y =>
    obtain ⟨t, rfl⟩ := rx
    obtain ⟨hy, e'⟩ : y.length ≤ sizeLine ∧ k = ((y.length : Int) != 0) := e
    subst e'
    exact PySem.P.truthy_str (by omega) ⟨H, I.tok _, q⟩
  | byt y =>
    obtain ⟨t, rfl⟩ := rx
    obtain ⟨hy, e'⟩ : y.size ≤ sizeLine ∧ k = ((y.size : Int) != 0) := e
    subst e'
    exact PySem.W.truthy_bytes (by omega) ⟨H, I.tok _, q⟩
  | ref p =>
    cases rx
    have e' : (∃ xs, SqL X.K H p xs ∧ k = !xs.isEmpty) ∨ (∃ xs, SqT X.K H p xs ∧ k = !xs.isEmpty) ∨ ∃ kvs, H p = some (.dK kvs) ∧ k = !kvs.isEmpty := e
    rcases e' with ⟨xs, hx, e'⟩ | ⟨xs, hx, e'⟩ | ⟨kvs, hx, e'⟩
    · subst e'
      obtain ⟨its, r, pl, hz⟩ := I.list hx
      have hlen := r.length
      exact wpAny_truthy_list pl.isList (by simp only [List.size_toArray]; omega) ⟨H, I.tok _, by rw [isEmpty_of r]; exact q⟩
    · subst e'
      obtain ⟨its, r, pl, hz⟩ := I.tuple hx
      have hlen := r.length
      exact truthy_tuple pl (by simp only [List.size_toArray]; omega) ⟨H, I.tok _, by rw [isEmpty_of r]; exact q⟩
    · subst e'
      obtain ⟨hz, hS, vs, r, m⟩ : kvs.length ≤ sizeLine ∧ (p == sysModules) = false ∧ ∃ vs, KV kvs vs ∧ s.heap.DictOf (mixKind X.prog X.w) p vs := I.hok p _ hx
      have hlen : kvs.length = vs.length := Paired.length r
      exact wpAny_truthy_dict hS m (by omega) ⟨H, I.tok _, by rw [isEmpty_kv r]; exact q⟩
  | _ => exact (show False from e).elim
theorem pt_truth (ha : PE X a ta) (he : ∀ whole, isTrue a X.env whole = (do let v ← whole; standAt a.pos; holding [v] (truthy v))) :
    PT X a (fun σ H Q => ta σ H fun x H' => ∃ k, TruV X.K x H' k ∧ Q k H') := by
  intro pins s σ H Q I h
  exact isTrue_plain (thn (ha pins s σ H _ I h) fun v s1 ⟨x, H1, I1, r1, q1⟩ => tru_ok pins s1 σ H1 x v Q I1 r1 q1) (he _)
theorem op_add_str : OpR X (binaryOp .Add) (fun x y H Q => ∃ i j, x = .str i ∧ y = .str j ∧ i.length + j.length ≤ sizeLine ∧ Q (.str (i ++ j)) H) := by
  intro pins s σ H x y v u Q I rx ry h
  obtain ⟨i, j, rfl, rfl, hz, q⟩ := h
  obtain ⟨t, rfl⟩ := rx
  obtain ⟨t', rfl⟩ := ry
  exact add_str (fun t' tk => ⟨.str (i ++ j), H, I.tok _, ⟨_, rfl⟩, q⟩) hz
theorem vals1 {x : V} {us : List Value} (r : Vals [x] us) : ∃ u, us = [u] ∧ RelV x u := by
  cases r with
  | cons r1 r2 => cases r2; exact ⟨_, rfl, r1⟩
theorem vals2 {x y : V} {us : List Value} (r : Vals [x, y] us) : ∃ u w', us = [u, w'] ∧ RelV x u ∧ RelV y w' := by
  cases r with
  | cons r1 r2 =>
    cases r2 with
    | cons r3 r4 => cases r4; exact ⟨_, _, rfl, r1, r3⟩
theorem call_abs : CallR X (.builtin "abs") (fun xs H Q => ∃ i, xs = [.int i] ∧ Q (.int (if i < 0 then -i else i)) H) := by
  intro pins s σ H xs us Q I r h
  obtain ⟨i, rfl, q⟩ := h
  obtain ⟨u, rfl, t, rfl⟩ := vals1 r
  exact call_abs_int fun u tk => ⟨.int (if i < 0 then -i else i), H, I.tok _, ⟨_, rfl⟩, q⟩
inductive rTwo (f : Int → Int → Int) (xs : List V) (H : Hp) (Q : VK) : Prop
  | mk (i j : Int) (h0 : xs = [.int i, .int j]) (h1 : Q (.int (f i j)) H) : rTwo f xs H Q
theorem call_str_int : CallR X (.type "str") (fun xs H Q => ∃ i, xs = [.int i] ∧ i.natAbs.log2 < 1920 ∧ Q (.str (toString i)) H) := by
  intro pins s σ H xs us Q I r h
  obtain ⟨i, rfl, hz, q⟩ := h
  obtain ⟨u, rfl, t, rfl⟩ := vals1 r
  exact PySem.P.str_of_int hz ⟨.str _, H, I.tok _, ⟨_, rfl⟩, q⟩
end
end L2
namespace L2
open PySem PySem.Spec PyProof.Rows
structure ObjM (h : Heap) (x dx C : Addr) (mA : Str → Option Value) : Prop where
  obj : h.get? x = some (PySem.W.instObj C dx)
  ns : h.Ns1 dx mA
  ne : dx ≠ x
theorem lookIn_ns {h : Heap} {dx : Addr} {mA : Str → Option Value} (n : h.Ns1 dx mA) : ∃ od, h.get? dx = some od ∧ ∀ name, PySem.W.lookIn name od = some (mA name) := by
  obtain ⟨o, es, ep, ho, hd, hk, _, hm⟩ := n
  refine ⟨o, ho, fun name => ?_⟩
  have e := hm name
  unfold nsFind findBy at e
  rw [← Array.find?_toList] at e
  unfold PySem.W.lookIn
  rw [hd]
  dsimp only
  split
  · rename_i y q
    rw [q] at e
    exact congrArg some e
  · rename_i q
    rw [q] at e
    have a : es.toList.any (·.refKey) = false := by
      rw [List.any_eq_false]
      intro y hy
      obtain ⟨z, t, hkey⟩ := hk y (Array.mem_toList_iff.mp hy)
      simp [DictEntry.refKey, hkey]
    have a' : ¬ es.toList.any (·.refKey) = true := by rw [a]; exact Bool.false_ne_true
    rw [if_neg a']
    exact congrArg some e
theorem ObjM.look {h : Heap} {x dx C : Addr} {mA : Str → Option Value} (I : ObjM h x dx C mA) : ∃ od, PySem.W.InstAt h x (PySem.W.instObj C dx) C (some od) ∧ ∀ name, PySem.W.lookIn name od = some (mA name) :=
  let ⟨od, ho, hl⟩ := lookIn_ns I.ns
  ⟨od, ⟨I.obj, rfl, rfl, ho⟩, hl⟩
section
variable {prog : Program} {w : World} {A : Around} {E : Value → Shared → Prop} {s : Shared} {K : PySem.W.Frag} {x dx C f : Addr} {mA : Str → Option Value} {name : Str} {v : Value}
theorem get_map {expr : Bool} {Q : Value → Shared → Prop} (X : K.In s.heap) (I : ObjM s.heap x dx C mA) (hg : PySem.W.plainGet K C name = true) (hh : PySem.W.hasDictIn K C = true)
    (ha : PySem.W.findIn K (.ref C) name = some none) (hv : mA name = some v) (hv' : PySem.W.handedIn v = true) (h : Q v { s with toks := s.toks + 1 }) :
    wpAny (model prog w) A (getAttr (.ref x) name expr) Q E s := by
  obtain ⟨od, J, hl⟩ := I.look
  exact PySem.W.get_value X J (PySem.W.plainGet_of hg).1 (PySem.W.findObj_own hh ha rfl (by rw [hl, hv])) hv' h
theorem get_meth {pl : Sem Bool} {Q : Value × List Value → Shared → Prop} (X : K.In s.heap) (I : ObjM s.heap x dx C mA) (hg : PySem.W.plainGet K C name = true)
    (hf : PySem.W.findIn K (.ref C) name = some (some (.ref f))) (ht : PySem.W.isFn K (.ref f) = true) (hv : mA name = none) (h : Q (.ref f, [.ref x]) s) :
    wpAny (model prog w) A (getMethod (.ref x) name pl) Q E s := by
  obtain ⟨od, J, hl⟩ := I.look
  exact PySem.W.method_fn X J (PySem.W.plainGet_of hg).1 (PySem.W.plainGet_of hg).2 hf (beq_iff_eq.mp ht) (by show (PySem.W.lookIn name od).map (·.isSome) = some false; rw [hl, hv]; rfl) h
theorem set_map {ns : List Str} {Q : Unit → Shared → Prop} (X : K.In s.heap) (I : ObjM s.heap x dx C mA)
    (hs : PySem.W.findIn K (.ref C) "__setattr__" = some (some (.builtin "object.__setattr__"))) (hp : PySem.W.plainOver K C = true) (ht : PySem.W.takerIn K C name = some none) (hh : PySem.W.hasDictIn K C = true)
    (hw : PySem.Within mA ns) (hsz : ns.length ≤ sizeLine)
    (h : ∀ h', ObjM h' x dx C (fun y => if y = name then some v else mA y) → Heap.SameBut dx s.heap h' → Q () { s with heap := h', toks := s.toks + 2 }) :
    wpAny (model prog w) A (setAttr (.ref x) name v) Q E s := by
  obtain ⟨od, J, hl⟩ := I.look
  refine PySem.W.set_plain X J hs (PySem.W.osa_open (s := { s with toks := s.toks + 1 }) (r := none) X J hp ht fun b => ?_)
  obtain ⟨cd, hc, hd'⟩ := PySem.W.any_some hh
  have hx : s.heap.get? x = some ⟨.ref C, some dx, .plain, #[]⟩ := I.obj
  refine wpAny_bind (wpAny_pure (wpAny_bind (wpAny_bind (wpAny_loadPart hx (wpAny_bind (PySem.W.Looks.here (s := { s with toks := s.toks + 1 }) (PySem.W.looks_clsIn X hc) ?_))))))
  rw [hd']
  refine wpAny_pure (a := some dx) (wpAny_bind (wpAny_pure (wpAny_bind ?_)))
  refine wpAny_nsSet1 (s := { s with toks := s.toks + 1 }) I.ns fun h' hn2 hs2 => ?_
  obtain ⟨oD, esD, epD, hoD, hdD, hcD⟩ := hn2.count (PySem.Within.cons name v hw)
  refine wpAny_bind (wpAny_lookBehind hoD (by rw [hdD]; exact pastItsLine_dict (Nat.le_trans hcD (by rw [List.length_cons]; omega))) ?_)
  exact wpAny_pure (h _ ⟨(hs2.2 _ (Ne.symm I.ne)).trans I.obj, hn2, I.ne⟩ hs2)
theorem make_map {R : Result → Shared → Prop} {vs : List Value} {kw : List (Str × Value)} (X : K.In s.heap) (hm : PySem.W.makesIn K C = true)
    (hi : PySem.W.findIn K (.ref C) "__init__" = some (some (.ref f))) (hf : PySem.W.typeIn K (.ref f) = some (.type "function"))
    (h : codeAny (model prog w) (A.under (.builtin "type.__call__" ⟨.ref C :: vs, kw⟩)) (.call (.ref f) ⟨.ref (s.heap.objs.size + 1) :: vs, kw⟩) (PySem.W.InitBack (s.heap.objs.size + 1) R)
      { s with heap := (s.heap.push PySem.W.emptyDict).push (PySem.W.instObj C s.heap.objs.size) }) :
    codeAny (model prog w) A (.call (.ref C) ⟨vs, kw⟩) R s := by
  obtain ⟨hh, g, d, t, os⟩ := s
  exact PySem.W.make_core (PySem.W.makes_of X hm) (PySem.W.looks_findIn X hi) (fun self => PySem.W.bind_fn X self hf) (.inl rfl) h
end
def putF (f : Str) (v : V) : List (Str × V) → List (Str × V)
  | [] => [(f, v)]
  | (g, x) :: r => if g = f then (g, v) :: r else (g, x) :: putF f v r
theorem lookup_putF (f g : Str) (v : V) : ∀ fs : List (Str × V), (putF f v fs).lookup g = if g = f then some v else fs.lookup g
  | [] => by
    show List.lookup g [(f, v)] = _
    by_cases h : g = f
    · have hb : (g == f) = true := beq_iff_eq.mpr h
      simp only [List.lookup, hb, if_pos h]
    · have hb : (g == f) = false := beq_eq_false_iff_ne.mpr h
      simp only [List.lookup, hb, if_neg h]
  | (k, x) :: r => by
    have ih := lookup_putF f g v r
    rw [show putF f v ((k, x) :: r) = (if k = f then (k, v) :: r else (k, x) :: putF f v r) from rfl]
    by_cases hk : k = f
    · rw [if_pos hk]
      by_cases h : g = k
      · have hb : (g == k) = true := beq_iff_eq.mpr h
        simp only [List.lookup, hb, if_pos (h.trans hk)]
      · have hb : (g == k) = false := beq_eq_false_iff_ne.mpr h
        simp only [List.lookup, hb, if_neg (fun e : g = f => h (e.trans hk.symm))]
    · rw [if_neg hk]
      by_cases h : g = k
      · have hb : (g == k) = true := beq_iff_eq.mpr h
        simp only [List.lookup, hb, if_neg (fun e : g = f => hk (h.symm.trans e))]
      · have hb : (g == k) = false := beq_eq_false_iff_ne.mpr h
        simp only [List.lookup, hb]
        exact ih
theorem keys_putF (f : Str) (v : V) : ∀ fs : List (Str × V), f ∈ (putF f v fs).map (·.1) ∧ ∀ g, g ∈ fs.map (·.1) → g ∈ (putF f v fs).map (·.1)
  | [] => ⟨by simp [putF], fun g h => by simp at h⟩
  | (k, x) :: r => by
    obtain ⟨i1, i2⟩ := keys_putF f v r
    rw [show putF f v ((k, x) :: r) = (if k = f then (k, v) :: r else (k, x) :: putF f v r) from rfl]
    by_cases hk : k = f
    · rw [if_pos hk]
      subst hk
      exact ⟨by simp, fun g h => by simpa using h⟩
    · rw [if_neg hk]
      refine ⟨?_, fun g h => ?_⟩
      · rw [List.map_cons]
        exact List.mem_cons_of_mem _ i1
      · rw [List.map_cons] at h ⊢
        rcases List.mem_cons.mp h with e | e
        · exact List.mem_cons.mpr (.inl e)
        · exact List.mem_cons_of_mem _ (i2 g e)
theorem length_putF (f : Str) (v : V) : ∀ fs : List (Str × V), (putF f v fs).length ≤ fs.length + 1
  | [] => by simp [putF]
  | (k, x) :: r => by
    have ih := length_putF f v r
    rw [show putF f v ((k, x) :: r) = (if k = f then (k, v) :: r else (k, x) :: putF f v r) from rfl]
    by_cases hk : k = f
    · rw [if_pos hk, List.length_cons, List.length_cons]; omega
    · rw [if_neg hk, List.length_cons, List.length_cons]; omega
theorem RelO.some_of {v : V} {o : Option Value} (r : RelO (some v) o) : ∃ u, o = some u ∧ RelV v u := by
  cases o with
  | none => exact (show False from r).elim
  | some u => exact ⟨u, rfl, r⟩
theorem RelO.none_of {o : Option Value} (r : RelO none o) : o = none := by
  cases o with
  | none => rfl
  | some u => exact (show False from r).elim
theorem handed_of {v : V} {u : Value} (r : RelV v u) : PySem.W.handedIn u = true := by
  cases v with
  | non => cases (show u = Value.none from r); rfl
  | bl b => cases (show u = Value.bool b from r); rfl
  | int i => obtain ⟨t, e⟩ := (show ∃ t, u = Value.int i t from r); cases e; rfl
  | str x => obtain ⟨t, e⟩ := (show ∃ t, u = Value.str x t from r); cases e; rfl
  | byt b => obtain ⟨t, e⟩ := (show ∃ t, u = Value.bytes b t from r); cases e; rfl
  | flt b => obtain ⟨t, e⟩ := (show ∃ t, u = Value.float b t from r); cases e; rfl
  | ref a => cases (show u = Value.ref a from r); rfl
  | ty n => cases (show u = Value.type n from r); rfl
section
variable {P : Program} {w : World} {H H' : Hp} {h h' : Heap} {a C dx : Addr} {fs fs' : List (Str × V)}
theorem ins_get (hok : HOk P w H h) (e : H a = some (.ins C dx fs)) : ∃ mA, ObjM h a dx C mA ∧ (∀ f, RelO (fs.lookup f) (mA f)) ∧ PySem.Within mA (fs.map (·.1)) ∧ fs.length ≤ 1000 ∧ H dx = some (.own a) := by
  obtain ⟨d, z, ne, ob, mA, n, r, q⟩ := (show ObjOk P w H h a (.ins C dx fs) from hok a _ e)
  exact ⟨mA, ⟨ob, n, ne⟩, r, q, z, d⟩
end
structure Cls (K : PySem.W.Frag) (C : Addr) : Prop where
  pg : PySem.W.plainGet K C Str.empty = true
  hd : PySem.W.hasDictIn K C = true
  po : PySem.W.plainOver K C = true
  sa : PySem.W.findIn K (.ref C) "__setattr__" = some (some (.builtin "object.__setattr__"))
theorem Cls.get {K : PySem.W.Frag} {C : Addr} (c : Cls K C) (f : Str) : PySem.W.plainGet K C f = true := c.pg
def NoAttr (K : PySem.W.Frag) (C : Addr) (f : Str) : Prop := PySem.W.findIn K (.ref C) f = some none
theorem NoAttr.taker {K : PySem.W.Frag} {C : Addr} {f : Str} (n : NoAttr K C f) : PySem.W.takerIn K C f = some none := by
  unfold PySem.W.takerIn
  rw [show PySem.W.findIn K (.ref C) f = some none from n]
  rfl
structure Con (K : PySem.W.Frag) (C : Addr) (f : Str) (v : V) (u : Value) : Prop where
  at_ : PySem.W.findIn K (.ref C) f = some (some u)
  rel : RelV v u
  get : PySem.W.specialIn K u "__get__" = some none
  cp : PySem.W.copiedNames.contains f = false
structure Meth (K : PySem.W.Frag) (C : Addr) (m : Str) (f : Addr) : Prop where
  at_ : PySem.W.findIn K (.ref C) m = some (some (.ref f))
  fn : PySem.W.isFn K (.ref f) = true
  kp : PySem.W.keepIn K (.ref f) = true
section
variable {X : Cx} {pins : List (Addr × Obj)} {σ : St} {H : Hp} {s : Shared} {a C dx : Addr} {fs : List (Str × V)} {f : Str} {v : V} {A : Around} {E : Value → Shared → Prop}
theorem getattr_ok {b : Bool} {Q : Value → Shared → Prop} (I : Inv X pins σ H s) (e : H a = some (.ins C dx fs)) (c : Cls X.K C) (n : NoAttr X.K C f) (l : fs.lookup f = some v)
    (h : ∀ u s', Inv X pins σ H s' → RelV v u → Q u s') : wpAny (model X.prog X.w) A (getAttr (.ref a) f b) Q E s := by
  obtain ⟨mA, O, r, _, _, _⟩ := ins_get I.hok e
  obtain ⟨u, hu, ru⟩ := RelO.some_of (v := v) (o := mA f) (by rw [← l]; exact r f)
  exact get_map I.kIn O (c.get f) c.hd n hu (handed_of ru) (h u _ (I.tok _) ru)
theorem getmeth_ok {m : Str} {g : Addr} {pl : Sem Bool} {Q : Value × List Value → Shared → Prop} (I : Inv X pins σ H s) (e : H a = some (.ins C dx fs)) (c : Cls X.K C) (k : Meth X.K C m g) (l : fs.lookup m = none)
    (h : Q (.ref g, [.ref a]) s) : wpAny (model X.prog X.w) A (getMethod (.ref a) m pl) Q E s := by
  obtain ⟨mA, O, r, _, _, _⟩ := ins_get I.hok e
  have hn : mA m = none := RelO.none_of (by rw [← l]; exact r m)
  exact get_meth I.kIn O (c.get m) k.at_ k.fn hn h
theorem setattr_ok {y : V} {u : Value} {Q : Unit → Shared → Prop} (I : Inv X pins σ H s) (e : H a = some (.ins C dx fs)) (c : Cls X.K C) (n : NoAttr X.K C f) (hl : fs.length < 1000) (ry : RelV y u)
    (h : ∀ s', Inv X pins σ (upd H a (.ins C dx (putF f y fs))) s' → Q () s') : wpAny (model X.prog X.w) A (setAttr (.ref a) f u) Q E s := by
  obtain ⟨mA, O, r, wi, _, ho⟩ := ins_get I.hok e
  have hz : (fs.map (·.1)).length ≤ sizeLine := by rw [List.length_map, sizeLine_eq]; omega
  refine set_map I.kIn O c.sa c.po n.taker c.hd wi hz fun h' O' sb => h _ ?_
  have hd : ∃ o, h'.get? dx = some o := let ⟨o, _, _, e', _⟩ := O'.ns; ⟨o, e'⟩
  refine I.write (x := a) (e := dx) (by rw [e]; exact True.intro) (.inr ho) (fun b q hb z => (sb.2 b hb).trans z) hd ?_
  refine ⟨by rw [upd_ne O.ne]; exact ho, ?_, O.ne, O'.obj, _, O'.ns, fun g => ?_, fun g hg => ?_⟩
  · have := length_putF f y fs; omega
  · show RelO ((putF f y fs).lookup g) (if g = f then some u else mA g)
    rw [lookup_putF]
    by_cases q : g = f
    · rw [if_pos q, if_pos q]; exact ry
    · rw [if_neg q, if_neg q]; exact r g
  · by_cases q : g = f
    · rw [q]; exact (keys_putF f y fs).1
    · refine (keys_putF f y fs).2 g (wi g fun z => hg ?_)
      show (if g = f then some u else mA g) = none
      rw [if_neg q]; exact z
theorem Inv.made (I : Inv X pins σ H s) : Inv X pins σ (upd (upd H s.heap.objs.size (.own (s.heap.objs.size + 1))) (s.heap.objs.size + 1) (.ins C s.heap.objs.size []))
    { s with heap := (s.heap.push PySem.W.emptyDict).push (PySem.W.instObj C s.heap.objs.size) } := by
  have e1 : (s.heap.push PySem.W.emptyDict).get? s.heap.objs.size = some PySem.W.emptyDict := Heap.get?_push_size s.heap rfl
  have e2 : ((s.heap.push PySem.W.emptyDict).push (PySem.W.instObj C s.heap.objs.size)).get? (s.heap.objs.size + 1) = some (PySem.W.instObj C s.heap.objs.size) := by
    have := Heap.get?_push_size (s.heap.push PySem.W.emptyDict) (o := PySem.W.instObj C s.heap.objs.size) rfl
    rwa [Heap.size_push] at this
  have e3 : (s.heap.push PySem.W.emptyDict).Ns s.heap.objs.size (fun _ => none) := ⟨PySem.W.emptyDict, #[], _, e1, rfl, (fun e he => absurd he (by simp)), fun _ => rfl⟩
  have I1 := I.laid (a := s.heap.objs.size) (o := .own (s.heap.objs.size + 1)) (h' := s.heap.push PySem.W.emptyDict) (t' := s.toks) (fun b u q => Heap.get?_push_of_some _ q) (Nat.le_refl _) ⟨_, e1⟩
  refine I1.laid (a := s.heap.objs.size + 1) (o := .ins C s.heap.objs.size []) (t' := s.toks) (fun b u q => Heap.get?_push_of_some _ q) (Nat.le_of_eq (Heap.size_push _ _)) ?_
  have ne : s.heap.objs.size ≠ s.heap.objs.size + 1 := Nat.ne_of_lt (Nat.lt_succ_self _)
  refine ⟨by rw [upd_ne ne, upd_same], Nat.zero_le _, ne, e2, fun _ => none, (Heap.Ns1.of_empty e3).at fun o q => Heap.get?_push_of_some _ q, fun _ => True.intro, fun y hy => absurd rfl hy⟩
theorem attr_of {prog : Program} {w : World} {env : Env} {e : Expr} {f : Str} {pos : Pos} {s : Shared} {Q : Value → Shared → Prop} (hb : attributeBase e f env (eval e env) = eval e env)
    (h : wpAny (model prog w) A (eval e env) (fun o s₁ => wpAny (model prog w) A (getAttr o f true) Q E s₁) E s) : wpAny (model prog w) A (eval (.Attribute e f pos) env) Q E s :=
  Attribute_any_ h (by rw [arm_eval_Attribute, hb])
end
def tFld (K : PySem.W.Frag) (ta : TE) (f : Str) : TE := fun σ H Q => ta σ H fun x H1 => ∃ a C dx fs v, x = .ref a ∧ H1 a = some (.ins C dx fs) ∧ Cls K C ∧ NoAttr K C f ∧ fs.lookup f = some v ∧ Q v H1
def sFld (K : PySem.W.Frag) (ta tv : TE) (f : Str) : TS := fun D σ H => tv σ H fun y H1 => ta σ H1 fun x H2 => ∃ a C dx fs, x = .ref a ∧ H2 a = some (.ins C dx fs) ∧ Cls K C ∧ NoAttr K C f ∧ fs.length < 1000 ∧
  D.nx σ (upd H2 a (.ins C dx (putF f y fs)))
section
variable {X : Cx} {o e value : Expr} {f : Str} {pos pos' tpos : Pos} {ta tv : TE}
theorem pe_fld (he : PE X e ta) (hb : attributeBase e f X.env (eval e X.env) = eval e X.env) : PE X (.Attribute e f pos) (tFld X.K ta f) := by
  intro pins s σ H Q I h
  refine attr_of hb (thn (he pins s σ H _ I h) fun u s1 ⟨x, H1, I1, rx, a, C, dx, fs, v, ex, ea, c, n, l, q⟩ => ?_)
  subst ex
  obtain rfl : u = Value.ref a := rx
  exact getattr_ok I1 ea c n l fun u' s2 I2 ru => ⟨v, H1, I2, ru, q⟩
theorem ps_fld (ha : PE X o ta) (hv : PE X value tv) (hs : swapsWith value (some (.Attribute o f pos')) pos.line X.env = pure false) : PS X (.Assign [.Attribute o f pos'] value pos) (sFld X.K ta tv f) := by
  intro pins s σ H D I h
  refine plainObj_wpAny_Assign_Attribute (thn (hv pins s σ H _ I h) fun u s1 ⟨y, H1, I1, ry, q⟩ => thn (ha pins s1 σ H1 _ I1 q) fun ov s2 ⟨x, H2, I2, rx, a, C, dx, fs, ex, ea, c, n, l, q2⟩ => ?_) hs
  subst ex
  obtain rfl : ov = Value.ref a := rx
  exact setattr_ok I2 ea c n l ry fun s3 I3 => ⟨σ, _, I3, q2⟩
end
section
variable {X : Cx} {pins : List (Addr × Obj)} {σ : St} {H : Hp} {s : Shared} {A : Around} {E : Value → Shared → Prop} {Q : Value → Shared → Prop} {c : Value} {b : Bool}
inductive TyOf (K : PySem.W.Frag) (H : Hp) : V → Value → Prop where
  | non : TyOf K H .non (.type "NoneType")
  | bl (x : Bool) : TyOf K H (.bl x) (.type "bool")
  | int (i : Int) : TyOf K H (.int i) (.type "int")
  | str (x : Str) : TyOf K H (.str x) (.type "str")
  | flt (x : UInt64) : TyOf K H (.flt x) (.type "float")
  | lst {a : Addr} {xs : List V} (e : H a = some (.lst xs)) : TyOf K H (.ref a) (.type "list")
  | frz {a : Addr} {o : Obj} {xs : List V} (e : H a = some (.frz o (.lst xs))) : TyOf K H (.ref a) (.type "list")
  | tup {a : Addr} {xs : List V} (e : H a = some (.tup xs)) : TyOf K H (.ref a) (.type "tuple")
  | dK {a : Addr} {kvs : List (Key × V)} (e : H a = some (.dK kvs)) : TyOf K H (.ref a) (.type "dict")
  | dT {a : Addr} {kvs : List (List Key × V)} (e : H a = some (.dT kvs)) : TyOf K H (.ref a) (.type "dict")
  | ins {a C dx : Addr} {fs : List (Str × V)} (e : H a = some (.ins C dx fs)) (cl : Cls K C) (ha : PySem.W.findIn K (.ref C) "__class__" = some (some (.builtin "object.__class__")))
      (hn : PySem.W.specialIn K (.builtin "object.__class__") "__get__" = some (some (.builtin "getset_descriptor.__get__"))) (htk : PySem.W.takesIn K (.builtin "object.__class__") = some true)
      (hm : PySem.W.mroIn K C (.type "object") = some true) : TyOf K H (.ref a) (.ref C)
end
end L2
namespace L2
open PySem PySem.Spec PyProof.Rows
structure Room (k : Nat) (A : Around) : Prop where
  hd : A.handled = none
  dp : A.depth + 3 * k + 5 < recursionLimit
  un : A.units + 16 * k + 200 < cLine
theorem Room.mono {j k : Nat} {A : Around} (r : Room k A) (h : j ≤ k) : Room j A := ⟨r.hd, by have := r.dp; omega, by have := r.un; omega⟩
theorem Room.deeper {k : Nat} {A : Around} (r : Room (k + 1) A) (env : Env) : Room k (A.deeper env) :=
  ⟨r.hd, by have := r.dp; show A.depth + 1 + 3 * k + 5 < _; omega, by have := r.un; show A.units + 3 + 16 * k + 200 < _; omega⟩
theorem make_depth {A : Around} {C : Addr} {us : List Value} {kw : List (Str × Value)} : (A.under (.builtin "type.__call__" ⟨.ref C :: us, kw⟩)).depth = A.depth + 1 := by
  first | rfl | simp [Around.under, Code.weight, Code.isCreation, Code.isGuard, Code.isCaller, Code.frames, Code.isFrame, guardIds]
theorem make_units {A : Around} {C : Addr} {us : List Value} {kw : List (Str × Value)} : (A.under (.builtin "type.__call__" ⟨.ref C :: us, kw⟩)).units = A.units + 1 := by
  first | rfl | simp [Around.under, Code.cUnits, Code.frames, Code.isFrame]
theorem Room.make {k : Nat} {A : Around} (r : Room (k + 1) A) (C : Addr) (us : List Value) (kw : List (Str × Value)) : Room k (A.under (.builtin "type.__call__" ⟨.ref C :: us, kw⟩)) :=
  ⟨r.hd, by have := r.dp; rw [make_depth]; omega, by have := r.un; rw [make_units]; omega⟩
theorem Room.depth {k : Nat} {A : Around} (r : Room k A) : A.depth < recursionLimit := by have := r.dp; omega
theorem Room.units {k : Nat} {A : Around} (r : Room k A) : A.units + 64 < cLine := by have := r.un; omega
def tNil : TA := fun _ H Q => Q [] H
def tCons (ta : TE) (tr : TA) : TA := fun σ H Q => ta σ H fun x H1 => tr σ H1 fun xs H2 => Q (x :: xs) H2
section
variable {X : Cx} {e : Expr} {es : List Expr} {te : TE} {t : TA} {pos : Pos}
theorem pa_nil : PA X [] tNil := fun _ _ _ _ H Q I h => Calls.spliced_nil ⟨[], H, I, .nil, h⟩
theorem pa_cons (ha : PE X e te) (hr : PA X es t) (hs : starEach (e :: es) X.env = (false, eval e X.env) :: starEach es X.env := by rfl) : PA X (e :: es) (tCons te t) := by
  intro pos pins s σ H Q I h
  rw [hs]
  show wpAny _ _ (spliced ((false, eval e X.env) :: backTo pos (starEach es X.env))) _ _ s
  refine Calls.spliced_cons (thn (ha pins s σ H _ I h) fun u s1 ⟨x, H1, I1, r1, q1⟩ => ?_)
  exact thn (hr pos pins s1 σ H1 _ I1 q1) fun us s2 ⟨xs, H2, I2, r2, q2⟩ => ⟨x :: xs, H2, I2, .cons r1 r2, q2⟩
def tTup (t : TA) : TE := fun σ H Q => t σ H fun xs H1 => xs.length ≤ sizeLine ∧ ∀ p, H1 p = none → Q (.ref p) (upd H1 p (.tup xs))
def tLst (t : TA) : TE := fun σ H Q => t σ H fun xs H1 => xs.length ≤ sizeLine ∧ ∀ p, H1 p = none → Q (.ref p) (upd H1 p (.lst xs))
theorem pe_tup {x1} (h : PA X es t) : PE X (.Tuple es x1 pos) (tTup t) := by
  intro pins s σ H Q I hq
  refine wpAny_Tuple_spliced (thn (h pos pins s σ H _ I hq) fun us s1 ⟨xs, H1, I1, r, z, q⟩ => ⟨by rw [← r.length]; exact z, ?_⟩)
  have hf : H1 s1.heap.objs.size = none := I1.hok.fresh (Nat.le_refl _)
  refine ⟨.ref s1.heap.objs.size, upd H1 s1.heap.objs.size (.tup xs), I1.laid (t' := s1.toks) (fun b u e => Heap.get?_push_of_some _ e) (Nat.le_refl _) ?_, rfl, q _ hf⟩
  exact ⟨z, us, r, ⟨_, Heap.get?_push_size _ rfl, rfl, _, rfl⟩⟩
theorem pe_lst (h : PA X es t) : PE X (.List es pos) (tLst t) := by
  intro pins s σ H Q I hq
  refine wpAny_List_spliced (thn (h pos pins s σ H _ I hq) fun us s1 ⟨xs, H1, I1, r, z, q⟩ => ⟨by rw [← r.length]; exact z, ?_⟩)
  have hf : H1 s1.heap.objs.size = none := I1.hok.fresh (Nat.le_refl _)
  refine ⟨.ref s1.heap.objs.size, upd H1 s1.heap.objs.size (.lst xs), I1.laid (t' := s1.toks) (fun b u e => Heap.get?_push_of_some _ e) (Nat.le_refl _) ?_, rfl, q _ hf⟩
  exact ⟨z, us, 0, r, Heap.get?_push_size _ rfl⟩
end
abbrev Sp := List V → Hp → VK → XK → Prop
abbrev CXT := List Env → Hp → Shared → XK → Value → Shared → Prop
structure Env0 (P : Program) (w : World) (K : PySem.W.Frag) (mg : Str → Option Value) (base : Heap) (A : Around) (outer : List Env) (s : Shared) (H : Hp) : Prop where
  frames : A.frames = some outer
  mod : Mod K mg base
  bs : ∀ b o, base.get? b = some o → s.heap.get? b = some o ∧ H b = none
  bsz : base.objs.size ≤ s.heap.objs.size
  funs : s.heap.FunFrames base outer
  frf : ∀ b ∈ frs outer, H b = none
  hok : HOk P w H s.heap
  bare : AllBare s.gens
def CE (outer : List Env) (P : Program) (w : World) (H : Hp) (s : Shared) (Q : VK) (u : Value) (s' : Shared) : Prop :=
  ∃ v H', s'.os = s.os ∧ AllBare s'.gens ∧ Un (frs outer) [] H H' s.heap s'.heap ∧ HOk P w H' s'.heap ∧ RelV v u ∧ Q v H'
def CR (CX : CXT) (outer : List Env) (P : Program) (w : World) (H : Hp) (s : Shared) (Q : VK) (E : XK) (r : Result) (s' : Shared) : Prop :=
  match r with
  | .ok (.ret u) => CE outer P w H s Q u s'
  | .ok _ => False
  | .error e => CX outer H s E e s'
structure FnOk (P : Program) (w : World) (K : PySem.W.Frag) (mg : Str → Option Value) (base : Heap) (CX : CXT) (k : Nat) (f : Addr) (fd : FuncData) (ps : List Str) (sp : Sp) : Prop where
  len : ∀ vs H Q E, sp vs H Q E → vs.length = ps.length
  run : ∀ (A : Around) (outer : List Env) (s : Shared) (H : Hp) (args : Args) (us : List Value) (vs : List V) (Q : VK) (E : XK), Room k A → Env0 P w K mg base A outer s H → BindsTo s fd args (ps.zip us) → Vals vs us → sp vs H Q E →
    codeAny (model P w) A (.call (.ref f) args) (CR CX outer P w H s Q E) s
theorem FnOk.mono {P : Program} {w : World} {K : PySem.W.Frag} {mg : Str → Option Value} {base : Heap} {CX : CXT} {j k : Nat} {f : Addr} {fd : FuncData} {ps : List Str} {sp : Sp} (F : FnOk P w K mg base CX j f fd ps sp) (h : j ≤ k) :
    FnOk P w K mg base CX k f fd ps sp := ⟨F.len, fun A outer s H args us vs Q E hr => F.run A outer s H args us vs Q E (hr.mono h)⟩
theorem Env0.make {P : Program} {w : World} {K : PySem.W.Frag} {mg : Str → Option Value} {base : Heap} {A : Around} {outer : List Env} {s : Shared} {H : Hp} (e : Env0 P w K mg base A outer s H) (C : Addr) (us : List Value) (kw : List (Str × Value)) :
    Env0 P w K mg base (A.under (.builtin "type.__call__" ⟨.ref C :: us, kw⟩)) outer s H := ⟨by first | exact e.frames | (simpa [Around.under, Code.envs, Code.isFrame, pushEnvs] using e.frames), e.mod, e.bs, e.bsz, e.funs, e.frf, e.hok, e.bare⟩
section
variable {X : Cx} {pins : List (Addr × Obj)} {σ : St} {H : Hp} {s s' : Shared}
theorem Inv.env0 (I : Inv X pins σ H s) : Env0 X.prog X.w X.K X.mg X.base X.A X.stack s H :=
  ⟨I.ok.frames, I.ok.mod, I.bs, Nat.le_trans I.ok.bsz I.sz, I.stack, I.stkFree, I.hok, I.bare⟩
theorem Inv.after {Q : VK} {u : Value} (I : Inv X pins σ H s) (h : CE X.stack X.prog X.w H s Q u s') : EP X pins σ Q u s' := by
  obtain ⟨v, H', os, bare, un, hok, r, q⟩ := h
  obtain ⟨hh, g, d, t, os'⟩ := s'
  obtain rfl : os' = s.os := os
  exact ⟨v, H', I.call (h' := hh) (g' := g) (d' := d) (t' := t) (ch := []) un hok bare (fun b z => absurd z (by simp)), r, q⟩
end
def tCall (sp : Sp) (dvs : List V) (E : XK) (t : TA) : TE := fun σ H Q => t σ H fun vs H1 => sp (vs ++ dvs) H1 Q E
def tMeth (C : Addr) (m : Str) (sp : Sp) (dvs : List V) (E : XK) (ta : TE) (t : TA) : TE := fun σ H Q => ta σ H fun x H1 => ∃ a dx fs, x = .ref a ∧ H1 a = some (.ins C dx fs) ∧ fs.lookup m = none ∧
  t σ H1 fun vs H2 => sp (x :: (vs ++ dvs)) H2 Q E
def tMake (C : Addr) (sp : Sp) (dvs : List V) (E : XK) (t : TA) : TE := fun σ H Q => t σ H fun vs H1 => ∀ x dx, H1 x = none → H1 dx = none → dx ≠ x →
  sp (.ref x :: (vs ++ dvs)) (upd (upd H1 dx (.own x)) x (.ins C dx [])) (fun v H2 => v = .non ∧ Q (.ref x) H2) E
def Binds (K : PySem.W.Frag) (fd : FuncData) (ps : List Str) (ds : List Value) : Prop :=
  ∀ (s : Shared) (us : List Value), K.In s.heap → (us ++ ds).length = ps.length → BindsTo s fd ⟨us, []⟩ (ps.zip (us ++ ds))
theorem Binds.all {K : PySem.W.Frag} {fd : FuncData} {ps : List Str} (h : ∀ us : List Value, us.length = ps.length → bindArgs fd ⟨us, []⟩ = pure (ps.zip us)) : Binds K fd ps [] := fun s us _ hl => by
  rw [List.append_nil] at hl ⊢
  exact .of_eq (h us hl)
def Passes (CX : CXT) (X : Cx) (E : XK) : Prop := ∀ (pins : List (Addr × Obj)) (σ : St) (H : Hp) (s : Shared) (e : Value) (s' : Shared), Inv X pins σ H s → CX X.stack H s E e s' → X.xe e s'
section
variable {X : Cx} {CX : CXT} {k : Nat} {f C : Addr} {fd : FuncData} {ps : List Str} {sp : Sp} {dvs : List V} {ds : List Value} {E : XK} {x m : Str} {p pos apos : Pos} {e o : Expr} {es : List Expr} {ta : TE} {t : TA}
theorem run_fn {pins : List (Addr × Obj)} {σ : St} {H : Hp} {s : Shared} {Q : VK} {us : List Value} {vs : List V} (F : FnOk X.prog X.w X.K X.mg X.base CX k f fd ps sp) (hr : Room k X.A) (hb : Binds X.K fd ps ds) (hd : Vals dvs ds) (hx : Passes CX X E)
    (I : Inv X pins σ H s) (r : Vals vs us) (h : sp (vs ++ dvs) H Q E) : wpAny (model X.prog X.w) X.A (call (.ref f) us) (EP X pins σ Q) X.xe s := by
  have r2 : Vals (vs ++ dvs) (us ++ ds) := r.append hd
  have hl : (us ++ ds).length = ps.length := by rw [← r2.length]; exact F.len _ _ _ _ h
  refine wpAny_call (codeAny_mono (F.run X.A X.stack s H ⟨us, []⟩ (us ++ ds) (vs ++ dvs) Q E hr I.env0 (hb s us I.kIn hl) r2 h) fun r s' hq => ?_)
  cases r with
  | error e => exact hx pins σ H s e s' I hq
  | ok fl =>
    cases fl with
    | ret u => exact I.after hq
    | next => exact False.elim hq
    | brk => exact False.elim hq
    | cont => exact False.elim hq
theorem pe_call (F : FnOk X.prog X.w X.K X.mg X.base CX k f fd ps sp) (hr : Room k X.A) (hg : Gl X x) (hm : X.mg x = some (.ref f)) (hk : PySem.W.keepIn X.K (.ref f) = true) (hb : Binds X.K fd ps ds) (hd : Vals dvs ds) (hx : Passes CX X E)
    (ha : PA X (e :: es) t) (hdb : (x == ("__debug__" : Str)) = false := by decide) (he : starEach (e :: es) X.env = (false, eval e X.env) :: starEach es X.env := by rfl) (hpl : (backTo pos (starEach es X.env)).any (·.1) = false := by rfl) :
    PE X (.Call (.Name x p) (e :: es) [] pos) (tCall sp dvs E t) := by
  intro pins s σ H Q I h
  refine wpAny_Call_Name_kw (ld_glob I hg hm ?_ hdb)
  refine PySem.W.callWith_K (h₀ := X.base) I.ok.mod.kin hk (thn (ha pos pins s σ H _ I h) fun us s1 ⟨vs, H1, I1, r, q⟩ => ⟨I1.kIn, ?_⟩) he hpl
  exact run_fn F hr hb hd hx I1 r q
theorem pe_meth {pl : Sem Bool} (he : PE X o ta) (c : Cls X.K C) (hm : Meth X.K C m f) (F : FnOk X.prog X.w X.K X.mg X.base CX k f fd ps sp) (hr : Room k X.A) (hb : Binds X.K fd ps ds) (hd : Vals dvs ds) (hx : Passes CX X E) (ha : PA X (e :: es) t)
    (hst : starEach (e :: es) X.env = (false, eval e X.env) :: starEach es X.env := by rfl) (hpl : (backTo pos (starEach es X.env)).any (·.1) = false := by rfl)
    (ht : eval (.Call (.Attribute o m apos) (e :: es) [] pos) X.env = (do
      let ov ← eval o X.env
      standAt apos.atName
      let (f, first) ← holding [ov] (getMethod ov m pl)
      callWith pos f first (backTo pos (starEach (e :: es) X.env)) (backToKw pos (keywordEach [] X.env))) := by rfl) :
    PE X (.Call (.Attribute o m apos) (e :: es) [] pos) (tMeth C m sp dvs E ta t) := by
  intro pins s σ H Q I h
  refine PySem.W.methodCall_KW (pl := pl) (thn (he pins s σ H _ I h) fun u s1 ⟨x, H1, I1, rx, a, dx, fs, ex, ea, l, q⟩ => ?_) ht
  subst ex
  obtain rfl : u = Value.ref a := rx
  refine getmeth_ok I1 ea c hm l ?_
  refine PySem.W.callWith_K (first := [.ref a]) (h₀ := X.base) I.ok.mod.kin hm.kp (thn (ha pos pins s1 σ H1 _ I1 q) fun us s2 ⟨vs, H2, I2, r, q2⟩ => ⟨I2.kIn, ?_⟩) hst hpl
  exact run_fn (us := .ref a :: us) (vs := .ref a :: vs) F hr hb hd hx I2 (.cons rfl r) q2
theorem pe_meth0 {pl : Sem Bool} (he : PE X o ta) (c : Cls X.K C) (hm : Meth X.K C m f) (F : FnOk X.prog X.w X.K X.mg X.base CX k f fd ps sp) (hr : Room k X.A) (hb : Binds X.K fd ps ds) (hd : Vals dvs ds) (hx : Passes CX X E)
    (ht : eval (.Call (.Attribute o m apos) [] [] pos) X.env = (do
      let ov ← eval o X.env
      standAt apos.atName
      let (f, first) ← holding [ov] (getMethod ov m pl)
      callWith pos f first (backTo pos (starEach [] X.env)) (backToKw pos (keywordEach [] X.env))) := by rfl) :
    PE X (.Call (.Attribute o m apos) [] [] pos) (tMeth C m sp dvs E ta tNil) := by
  intro pins s σ H Q I h
  refine PySem.W.methodCall_KW (pl := pl) (thn (he pins s σ H _ I h) fun u s1 ⟨x, H1, I1, rx, a, dx, fs, ex, ea, l, q⟩ => ?_) ht
  subst ex
  obtain rfl : u = Value.ref a := rx
  refine getmeth_ok I1 ea c hm l ?_
  exact PySem.W.callWith_K0 (first := [.ref a]) I1.kIn hm.kp (run_fn (us := [.ref a]) (vs := [.ref a]) F hr hb hd hx I1 (.cons rfl .nil) q)
structure Mk (K : PySem.W.Frag) (C f : Addr) : Prop where
  makes : PySem.W.makesIn K C = true
  init : PySem.W.findIn K (.ref C) "__init__" = some (some (.ref f))
  fn : PySem.W.isFn K (.ref f) = true
  kp : PySem.W.keepIn K (.ref C) = true
theorem run_make {pins : List (Addr × Obj)} {σ : St} {H : Hp} {s : Shared} {Q : VK} {us : List Value} {vs : List V} (M : Mk X.K C f) (F : FnOk X.prog X.w X.K X.mg X.base CX k f fd ps sp) (hr : Room (k + 1) X.A) (hb : Binds X.K fd ps ds) (hd : Vals dvs ds)
    (hx : Passes CX X E) (I : Inv X pins σ H s) (r : Vals vs us)
    (h : ∀ x dx, H x = none → H dx = none → dx ≠ x → sp (.ref x :: (vs ++ dvs)) (upd (upd H dx (.own x)) x (.ins C dx [])) (fun v H2 => v = .non ∧ Q (.ref x) H2) E) :
    wpAny (model X.prog X.w) X.A (call (.ref C) us) (EP X pins σ Q) X.xe s := by
  have hq := h (s.heap.objs.size + 1) s.heap.objs.size (I.hok.fresh (Nat.le_succ _)) (I.hok.fresh (Nat.le_refl _)) (Nat.ne_of_lt (Nat.lt_succ_self _))
  have I2 := Inv.made (C := C) I
  have r2 : Vals (V.ref (s.heap.objs.size + 1) :: (vs ++ dvs)) (Value.ref (s.heap.objs.size + 1) :: (us ++ ds)) := .cons rfl (r.append hd)
  have hl : (Value.ref (s.heap.objs.size + 1) :: us ++ ds).length = ps.length := by
    have e := r2.length
    rw [F.len _ _ _ _ hq] at e
    exact e.symm
  refine wpAny_call (make_map (f := f) I.kIn M.makes M.init (beq_iff_eq.mp M.fn) (codeAny_mono (F.run _ X.stack _ _ ⟨Value.ref (s.heap.objs.size + 1) :: us, []⟩ (Value.ref (s.heap.objs.size + 1) :: (us ++ ds)) _ _ E (hr.make C us [])
    (I2.env0.make C us []) (hb _ (Value.ref (s.heap.objs.size + 1) :: us) I2.kIn hl) r2 hq) fun r s' hq' => ?_))
  cases r with
  | error e => exact hx pins σ _ _ e s' I2 hq'
  | ok fl =>
    cases fl with
    | ret u =>
      obtain ⟨v, H', I3, rv, ev, q3⟩ := I2.after hq'
      subst ev
      exact ⟨rv, ⟨V.ref (s.heap.objs.size + 1), H', I3, rfl, q3⟩⟩
    | next => exact False.elim hq'
    | brk => exact False.elim hq'
    | cont => exact False.elim hq'
theorem pe_make (M : Mk X.K C f) (F : FnOk X.prog X.w X.K X.mg X.base CX k f fd ps sp) (hr : Room (k + 1) X.A) (hg : Gl X x) (hm : X.mg x = some (.ref C)) (hb : Binds X.K fd ps ds) (hd : Vals dvs ds) (hx : Passes CX X E)
    (ha : PA X (e :: es) t) (hdb : (x == ("__debug__" : Str)) = false := by decide) (he : starEach (e :: es) X.env = (false, eval e X.env) :: starEach es X.env := by rfl) (hpl : (backTo pos (starEach es X.env)).any (·.1) = false := by rfl) :
    PE X (.Call (.Name x p) (e :: es) [] pos) (tMake C sp dvs E t) := by
  intro pins s σ H Q I h
  refine wpAny_Call_Name_kw (ld_glob I hg hm ?_ hdb)
  refine PySem.W.callWith_K (h₀ := X.base) I.ok.mod.kin M.kp (thn (ha pos pins s σ H _ I h) fun us s1 ⟨vs, H1, I1, r, q⟩ => ⟨I1.kIn, ?_⟩) he hpl
  exact run_make M F hr hb hd hx I1 r q
end
section
variable {X : Cx} {CX : CXT} {k : Nat} {f C : Addr} {fd : FuncData} {ps ks : List Str} {sp : Sp} {E : XK} {x m : Str} {p pos apos kpos : Pos} {e o : Expr} {es : List Expr} {kws : List Keyword} {te ta : TE} {t tk : TA} {nm : Option Str}
structure KBinds (K : PySem.W.Frag) (fd : FuncData) (ps ks : List Str) (g : List Value → List Value → List Value) (gV : List V → List V → List V) : Prop where
  to : ∀ (s : Shared) (us ws : List Value), K.In s.heap → (g us ws).length = ps.length → BindsTo s fd ⟨us, ks.zip ws⟩ (ps.zip (g us ws))
  rel : ∀ {vs : List V} {us : List Value} {zs : List V} {ws : List Value}, Vals vs us → Vals zs ws → Vals (gV vs zs) (g us ws)
variable {g : List Value → List Value → List Value} {gV : List V → List V → List V}
end
structure FnScope (N P : List Str) (sc : Scope) : Prop where
  kind : sc.kind = .function
  co : sc.isCoroutine = false
  gen : sc.isGenerator = false
  nd : N.Nodup
  pre : N.take P.length = P
  par : ∀ x ∈ P, sc.names.lookup x = some .local ∨ sc.names.lookup x = some .cell
  nofree : ∀ y ∈ sc.names, y.2 ≠ .free
theorem bindL_out {kindOf : Str → Option NameKind} {x : Str} : ∀ {binds : List (Str × Value)} {m : Str → Option Value}, (∀ v, (x, v) ∉ binds) → bindL kindOf binds m x = m x
  | [], _, _ => rfl
  | (n, v) :: r, m, h => by
    unfold bindL
    rw [bindL_out fun w hw => h w (List.mem_cons_of_mem _ hw)]
    split
    · have : x ≠ n := by rintro rfl; exact h v List.mem_cons_self
      simp [this]
    · rfl
theorem bindC_out {kindOf : Str → Option NameKind} {x : Str} : ∀ {binds : List (Str × Value)} {m : Str → Option Value}, (∀ v, (x, v) ∉ binds) → bindC kindOf binds m x = m x
  | [], _, _ => rfl
  | (n, v) :: r, m, h => by
    unfold bindC
    rw [bindC_out fun w hw => h w (List.mem_cons_of_mem _ hw)]
    split
    · rfl
    · have : x ≠ n := by rintro rfl; exact h v List.mem_cons_self
      simp [this]
theorem bindL_get {kindOf : Str → Option NameKind} {x : Str} {v : Value} : ∀ {P : List Str} {vs : List Value} {i : Nat} {m : Str → Option Value}, P.Nodup → P[i]? = some x → vs[i]? = some v → kindOf x = some .local →
    bindL kindOf (P.zip vs) m x = some v
  | [], _, _, _, _, h, _, _ => by simp at h
  | _ :: _, [], _, _, _, _, h, _ => by simp at h
  | p :: P, w :: vs, 0, m, nd, h1, h2, hk => by
    simp at h1 h2; subst h1; subst h2
    show bindL kindOf ((p, w) :: P.zip vs) m p = _
    unfold bindL
    rw [bindL_out fun v hv => (List.nodup_cons.mp nd).1 (List.of_mem_zip hv).1, if_pos hk]
    simp
  | p :: P, w :: vs, i + 1, m, nd, h1, h2, hk => by
    show bindL kindOf ((p, w) :: P.zip vs) m x = _
    unfold bindL
    exact bindL_get (i := i) (List.nodup_cons.mp nd).2 (by simpa using h1) (by simpa using h2) hk
theorem bindC_get {kindOf : Str → Option NameKind} {x : Str} {v : Value} : ∀ {P : List Str} {vs : List Value} {i : Nat} {m : Str → Option Value}, P.Nodup → P[i]? = some x → vs[i]? = some v → kindOf x ≠ some .local →
    bindC kindOf (P.zip vs) m x = some v
  | [], _, _, _, _, h, _, _ => by simp at h
  | _ :: _, [], _, _, _, _, h, _ => by simp at h
  | p :: P, w :: vs, 0, m, nd, h1, h2, hk => by
    simp at h1 h2; subst h1; subst h2
    show bindC kindOf ((p, w) :: P.zip vs) m p = _
    unfold bindC
    rw [bindC_out fun v hv => (List.nodup_cons.mp nd).1 (List.of_mem_zip hv).1, if_neg hk]
    simp
  | p :: P, w :: vs, i + 1, m, nd, h1, h2, hk => by
    show bindC kindOf ((p, w) :: P.zip vs) m x = _
    unfold bindC
    exact bindC_get (i := i) (List.nodup_cons.mp nd).2 (by simpa using h1) (by simpa using h2) hk
def start (N : List Str) (vs : List V) : St := vs.map some ++ List.replicate (N.length - vs.length) none
def cxOf (CX : CXT) (P : Program) (w : World) (K : PySem.W.Frag) (mg : Str → Option Value) (base : Heap) (N : List Str) (qual : Str) (scope : Scope) (f : Addr) (cd : Value) (A : Around) (outer : List Env) (s : Shared) (H : Hp) (E : XK) : Cx where
  prog := P
  w := w
  K := K
  mg := mg
  base := base
  A := A.deeper (envOfC qual scope s.heap.objs.size f cd)
  N := N
  s₀ := s
  H₀ := H
  env := envOfC qual scope s.heap.objs.size f cd
  outer := outer
  stack := envOfC qual scope s.heap.objs.size f cd :: outer
  ex := []
  calm := true
  fn := fun _ => true
  pn := []
  xe := fun e s' => wpAny (model P w) (A.deeper (envOfC qual scope s.heap.objs.size f cd)) (leaving (envOfC qual scope s.heap.objs.size f cd) e) (fun _ s'' => CX outer H s E e s'') (fun e' s'' => CX outer H s E e' s'') s'
theorem cell_has {sc : Scope} {n : Nat} {x : Str} (h : sc.names.lookup x = some .cell) : ∃ c, (cellsFrom n sc.names []).lookup x = some c := by
  have q := PySem.W.cellsFrom_some sc.names n [] (.inl h)
  exact Option.isSome_iff_exists.mp q
theorem inv_start {CX : CXT} {P : Program} {w : World} {K : PySem.W.Frag} {mg : Str → Option Value} {base : Heap} {N ps : List Str} {qual : Str} {scope : Scope} {f : Addr} {cd : Value} {A : Around} {outer : List Env} {s s1 : Shared} {H : Hp} {E : XK} {us : List Value} {vs : List V}
    (S : FnScope N ps scope) (hd : A.handled = none) (e0 : Env0 P w K mg base A outer s H) (hl : vs.length = ps.length) (r : Vals vs us)
    (x : InCallC s s.heap.objs.size (bindL (envOfC qual scope s.heap.objs.size f cd).kindOf (ps.zip us) fun _ => none) (cellsFrom (s.heap.objs.size + 1) scope.names []) (bindC (envOfC qual scope s.heap.objs.size f cd).kindOf (ps.zip us) fun _ => none) s1) :
    Inv (cxOf CX P w K mg base N qual scope f cd A outer s H E) [] (start N vs) H s1 := by
  have hpl : ps.length ≤ N.length := by have := congrArg List.length S.pre; rw [List.length_take] at this; omega
  obtain ⟨h1, tk, rfl, hk⟩ := x.done
  have noA : ∀ b : Addr, b ∉ (cxOf CX P w K mg base N qual scope f cd A outer s H E).ex := fun b z => absurd (show b ∈ ([] : List Addr) from z) (by simp)
  refine ⟨⟨e0.mod, S.kind, rfl, rfl, Nat.le_refl _, fun y z c h1 h2 => ?_, fun y hy => ?_, fun y c _ h => ?_, fun _ => hd, Around.frames_deeper e0.frames, .inr ⟨rfl, rfl⟩, fun b z => absurd z (noA b), e0.bs, e0.bsz, fun b _ _ => noA b, fun b z => absurd z (noA b), e0.funs, e0.frf⟩,
    rfl, e0.bare, Un.kept hk, ⟨_, x.toInCall.ns, fun i y v h1 h2 h3 => ?_⟩, fun y c h => ⟨_, x.cell y c h⟩, e0.hok.fresh (Nat.le_refl _), fun y c h => ?_, fun p hp => absurd (show p ∈ ([] : List (Addr × Obj)) from hp) (by simp), e0.hok.kept hk, ?_⟩
  · exact name_of_addr x.apart (PySem.mem_of_lookup h1) (PySem.mem_of_lookup h2)
  · have hy : scope.names.lookup y = some .cell ∨ scope.names.lookup y = some .free := hy
    rcases hy with hy | hy
    · exact cell_has hy
    · exact absurd rfl (S.nofree _ (PySem.mem_of_lookup hy))
  · exact Nat.le_of_lt (x.above y c (PySem.mem_of_lookup h))
  · have hi : i < vs.length := by
      unfold start at h2
      by_cases hi : i < vs.length
      · exact hi
      · rw [List.getElem?_append_right (by simpa using hi)] at h2
        rw [List.getElem?_replicate] at h2
        split at h2 <;> cases h2
    have ha : vs[i]? = some v := by
      unfold start at h2
      rw [List.getElem?_append_left (by simpa using hi), List.getElem?_map] at h2
      cases e : vs[i]? with
      | none => rw [e] at h2; cases h2
      | some a => rw [e] at h2; cases h2; rfl
    obtain ⟨u, hu, rv⟩ := r.get ha
    have hp : ps[i]? = some y := by
      rw [← S.pre, List.getElem?_take_of_lt (by omega)]; exact h1
    have ndP : ps.Nodup := by rw [← S.pre]; exact S.nd.sublist (List.take_sublist _ _)
    refine ⟨u, rv, ?_⟩
    rcases S.par y (List.mem_of_getElem? hp) with k | k
    · exact .inl ⟨k, bindL_get ndP hp hu k⟩
    · obtain ⟨c, e⟩ := cell_has (n := s.heap.objs.size + 1) k
      refine .inr ⟨.inl k, c, e, ?_⟩
      have q := x.cell y c e
      rw [bindC_get ndP hp hu (by show scope.names.lookup y ≠ _; rw [k]; decide)] at q
      exact q
  · exact e0.hok.fresh (Nat.le_of_lt (x.above y c (PySem.mem_of_lookup h)))
  · unfold start
    show _ = N.length
    rw [List.length_append, List.length_map, List.length_replicate]
    omega
theorem fn_of {CX : CXT} {P : Program} {w : World} {K : PySem.W.Frag} {mg : Str → Option Value} {base : Heap} {k : Nat} {f : Addr} {name qual : Str} {params : Arguments} {body : List Stmt} {scope : Scope} {dV kV doc pm cdv ct oc : Value} {an od : Option Addr}
    {osl : Array (Option Value)} {N ps : List Str} {sp : Sp} (lk : K.lookup f = some ⟨oc, od, .func (PySem.W.fnOf name qual params body scope dV kV doc pm an cdv ct), osl⟩) (hcd : PySem.W.codeIn K cdv qual = true) (S : FnScope N ps scope)
    (len : ∀ vs H Q E, sp vs H Q E → vs.length = ps.length)
    (hbody : ∀ (A : Around) (outer : List Env) (s : Shared) (H : Hp) (vs : List V) (Q : VK) (E : XK), Room k (A.deeper (envOfC qual scope s.heap.objs.size f cdv)) → sp vs H Q E →
      ∃ t, PSs (cxOf CX P w K mg base N qual scope f cdv A outer s H E) body t ∧ t { nx := fun _ H' => Q .non H', rt := Q } (start N vs) H) :
    FnOk P w K mg base CX (k + 1) f (PySem.W.fnOf name qual params body scope dV kV doc pm an cdv ct) ps sp := by
  refine ⟨len, fun A outer s H args us vs Q E hr e0 hb r hsp => ?_⟩
  have hl := len _ _ _ _ hsp
  have KX : K.In s.heap := e0.mod.kin.keeps fun b o e => (e0.bs b o e).1
  have lim : s.heap.NoLimit := e0.mod.nolimit.keeps fun b o e => (e0.bs b o e).1
  have hkind : ∀ y ∈ ps.zip us, scope.names.lookup y.1 = some .local ∨ (scope.names.lookup y.1 = some .cell ∧ ((cellsFrom (s.heap.objs.size + 1) scope.names []).lookup y.1).isSome = true) := fun ⟨n, v⟩ hy => by
    rcases S.par n (List.of_mem_zip hy).1 with q | q
    · exact .inl q
    · exact .inr ⟨q, PySem.W.cellsFrom_some _ _ _ (.inl q)⟩
  refine codeAny_call_function hr.depth (KX _ _ lk) rfl S.co S.gen rfl (PySem.W.codeRec_of KX hcd) (hb _ _ _ _ ?_)
  refine wpAny_newFunctionEnv_cells S.kind hkind fun env he s1 x => ?_
  subst he
  refine ⟨lim.keeps x.toInCall.keep, codeAny_func ?_⟩
  obtain ⟨t, ht, hq⟩ := hbody A outer s H vs Q E (hr.deeper _) hsp
  have I : Inv (cxOf CX P w K mg base N qual scope f cdv A outer s H E) [] (start N vs) H s1 := inv_start S hr.hd e0 hl r x
  refine wpAny_mono (ht [] s1 (start N vs) H _ I hq) (fun fl s' hs => ?_) fun e s' hs => hs
  have fin : ∀ {σ' : St} {H' : Hp} {v : V} {u : Value}, Inv (cxOf CX P w K mg base N qual scope f cdv A outer s H E) [] σ' H' s' → RelV v u → Q v H' → CE outer P w H s Q u s' :=
    fun {σ' H' v u} J rv q => ⟨v, H', J.os, J.bare, J.base, J.hok, rv, q⟩
  cases fl with
  | ret u =>
    obtain ⟨v, σ', H', J, rv, q⟩ := hs
    exact fin J rv q
  | next =>
    obtain ⟨σ', H', J, q⟩ := hs
    exact fin (v := V.non) (u := Value.none) J rfl q
  | brk =>
    obtain ⟨_, _, _, q⟩ := hs
    exact False.elim q
  | cont =>
    obtain ⟨_, _, _, q⟩ := hs
    exact False.elim q
end L2
namespace L2
open PySem PySem.Spec PyProof.Rows
section
variable {X : Cx} {x : Str} {p pos : Pos} {e : Expr} {es : List Expr} {t : TA} {id T : String} {r : List V → Hp → VK → Prop}
def tCB (r : List V → Hp → VK → Prop) (t : TA) : TE := fun σ H Q => t σ H fun vs H1 => r vs H1 Q
theorem pe_callB (hc : CallR X (.builtin id) r) (hg : Gl X x) (hm : X.mg x = none) (hv : bootBuiltins x = some (.builtin id)) (ha : PA X (e :: es) t) (hn : x ≠ "__name__" := by decide) (hdb : (x == ("__debug__" : Str)) = false := by decide)
    (he : starEach (e :: es) X.env = (false, eval e X.env) :: starEach es X.env := by rfl) (hpl : (backTo pos (starEach es X.env)).any (·.1) = false := by rfl) : PE X (.Call (.Name x p) (e :: es) [] pos) (tCB r t) := by
  intro pins s σ H Q I h
  refine wpAny_Call_Name_kw (ld_blt I hg hm hv ?_ hn hdb)
  exact PyProof.Rows.callWith_builtin1 (thn (ha pos pins s σ H _ I h) fun us s1 ⟨vs, H1, I1, r1, q1⟩ => hc pins s1 σ H1 vs us Q I1 r1 q1) he hpl
theorem pe_callTy (hc : CallR X (.type T) r) (hg : Gl X x) (hm : X.mg x = none) (hv : bootBuiltins x = some (.type T)) (ha : PA X (e :: es) t) (hn : x ≠ "__name__" := by decide) (hdb : (x == ("__debug__" : Str)) = false := by decide)
    (he : starEach (e :: es) X.env = (false, eval e X.env) :: starEach es X.env := by rfl) (hpl : (backTo pos (starEach es X.env)).any (·.1) = false := by rfl) : PE X (.Call (.Name x p) (e :: es) [] pos) (tCB r t) := by
  intro pins s σ H Q I h
  refine wpAny_Call_Name_kw (ld_blt I hg hm hv ?_ hn hdb)
  exact PyProof.Rows.callWith_type1 (thn (ha pos pins s σ H _ I h) fun us s1 ⟨vs, H1, I1, r1, q1⟩ => hc pins s1 σ H1 vs us Q I1 r1 q1) he hpl
end
end L2
namespace HT
open PySem PyProof.Rows
section
open PySem.SeqAt
open PySem.AutoSeq1 (wpAny_loadPart')
open PySem.MeetsSeq PySem.MeetsSeq2 PySem.MeetsSeq3
end
section
variable {prog : Program} {w : World} {A : Around} {E : Value → Shared → Prop} {s : Shared}
def sIx (n d : Nat) : Option Int → Nat
  | none => d
  | some v => if v < 0 then (v + (n : Int)).toNat else min v.toNat n
theorem sIx_none (n d : Nat) : sIx n d none = d := rfl
theorem sIx_nat (n d k : Nat) : sIx n d (some (k : Int)) = min k n := by
  show (if (k : Int) < 0 then ((k : Int) + (n : Int)).toNat else min (k : Int).toNat n) = min k n
  rw [if_neg (by omega), Int.toNat_natCast]
theorem sIx_le (n d : Nat) (hd : d ≤ n) (o : Option Int) : sIx n d o ≤ n := by
  cases o with
  | none => exact hd
  | some v =>
    show (if v < 0 then (v + (n : Int)).toNat else min v.toNat n) ≤ n
    by_cases hv : v < 0
    · rw [if_pos hv]; omega
    · rw [if_neg hv]; exact Nat.min_le_right _ _
theorem clip_eq (v : Int) (n d : Nat) : (if v < 0 then max (v + (n : Int)) 0 else min v (n : Int)) = ((sIx n d (some v) : Nat) : Int) := by
  show (if v < 0 then max (v + (n : Int)) 0 else min v (n : Int)) = (((if v < 0 then (v + (n : Int)).toNat else min v.toNat n) : Nat) : Int)
  by_cases hv : v < 0
  · simp only [if_pos hv]; omega
  · simp only [if_neg hv]; omega
theorem adjust_gen (lo hi : Option Int) (n : Nat) : Builtin.Slice.sliceAdjust lo hi 1 (n : Int) = (((sIx n 0 lo : Nat) : Int), ((sIx n n hi : Nat) : Int)) := by
  have h1 : ¬ ((1 : Int) < 0) := by omega
  unfold Builtin.Slice.sliceAdjust
  simp only [h1, if_false]
  refine Prod.ext ?_ ?_
  · cases lo with
    | none => rfl
    | some v => exact clip_eq v n 0
  · cases hi with
    | none => rfl
    | some v => exact clip_eq v n n
theorem places_gen (i j : Nat) : Builtin.Slice.slicePlaces (i : Int) (j : Int) 1 = j - i := by
  unfold Builtin.Slice.slicePlaces
  have h1 : (1 : Int) > 0 := by omega
  simp only [h1, if_true, Int.ediv_one]
  split <;> omega
theorem slicePart_ {v : Value} {o : Option Int} {Q : Option Int → Shared → Prop} (p : IsPart v o) (h : Q o s) : wpAny (model prog w) A (Builtin.Slice.slicePartIndex v) Q E s := by
  cases p with
  | none => exact slicePart_none h
  | int i t => exact slicePart_int h
theorem sliceApplied_gen {sl : Addr} {vl vu : Value} {lo hi : Option Int} {n : Nat} {Q : Int × Int × Nat → Shared → Prop} (hs : s.heap.IsSliceOf sl vl vu .none) (pl : IsPart vl lo) (pu : IsPart vu hi)
    (h : Q (((sIx n 0 lo : Nat) : Int), 1, sIx n n hi - sIx n 0 lo) s) : wpAny (model prog w) A (Builtin.Slice.sliceApplied (.ref sl) (pure (n : Int))) Q E s := by
  obtain ⟨os, hos, hcs, hds⟩ := id hs
  unfold Builtin.Slice.sliceApplied Builtin.Slice.sliceFields
  refine wpAny_bind (wpAny_bind (wpAny_field hos hds (x := vl) rfl (wpAny_bind (wpAny_field hos hds (x := vu) rfl (wpAny_bind (wpAny_field hos hds (x := .none) rfl (wpAny_pure ?_)))))))
  refine wpAny_bind (slicePart_none ?_)
  show wpAny _ _ (if ((1 : Int) == 0) = true then _ else _) _ _ s
  rw [if_neg (by decide)]
  refine wpAny_bind (slicePart_ pl (wpAny_bind (slicePart_ pu (wpAny_bind (wpAny_pure ?_)))))
  show wpAny _ _ (match Builtin.Slice.sliceAdjust lo hi 1 (n : Int) with | (lo, hi) => pure (lo, (1 : Int), Builtin.Slice.slicePlaces lo hi 1)) _ _ s
  rw [adjust_gen lo hi n]
  show wpAny _ _ (pure (((sIx n 0 lo : Nat) : Int), (1 : Int), Builtin.Slice.slicePlaces ((sIx n 0 lo : Nat) : Int) ((sIx n n hi : Nat) : Int) 1)) _ _ s
  rw [places_gen]
  exact wpAny_pure h
theorem pick_gen (xs : Array Value) (i k : Nat) : ((List.range k).filterMap fun (m : Nat) => xs[((i : Int) + (m : Int) * 1).toNat]?).toArray = ((xs.toList.drop i).take k).toArray := by
  have e : (fun (m : Nat) => xs[((i : Int) + (m : Int) * 1).toNat]?) = fun m => xs[i + m]? := by
    funext m
    have : ((i : Int) + (m : Int) * 1).toNat = i + m := by omega
    rw [this]
  rw [e]
  have := pick_run xs i k
  rw [List.filterMap_map] at this
  have e2 : ((fun x => xs[x]?) ∘ fun x => i + x) = fun m => xs[i + m]? := rfl
  rw [e2] at this
  rw [this]
theorem getItem_tuple_cut {t sl : Addr} {items : Array Value} {vl vu : Value} {lo hi : Option Int} {Q : Value → Shared → Prop} (ht : IsTup s.heap t items) (hs : s.heap.IsSliceOf sl vl vu .none) (pl : IsPart vl lo) (pu : IsPart vu hi)
    (hw : ¬ (sIx items.size 0 lo = 0 ∧ sIx items.size items.size hi = items.size))
    (h : Q (.ref s.heap.objs.size) { s with heap := s.heap.push { cls := .type "tuple", data := .seq ((items.toList.drop (sIx items.size 0 lo)).take (sIx items.size items.size hi - sIx items.size 0 lo)).toArray } })
    (hsz : items.size ≤ sizeLine) : wpAny (model prog w) A (getItem (.ref t) (.ref sl)) Q E s := by
  have htake : sizeOk (.seq ((items.toList.drop (sIx items.size 0 lo)).take (sIx items.size items.size hi - sIx items.size 0 lo)).toArray) := by
    show ((items.toList.drop (sIx items.size 0 lo)).take (sIx items.size items.size hi - sIx items.size 0 lo)).toArray.size ≤ sizeLine
    rw [List.size_toArray, List.length_take, List.length_drop, Array.length_toList]
    omega
  have hj : sIx items.size items.size hi ≤ items.size := sIx_le _ _ (Nat.le_refl _) hi
  obtain ⟨os, hos, hcs, hds⟩ := id hs
  have hTs : s.TypeIs (.ref sl) "slice" := ⟨os, hos, hcs⟩
  unfold getItem
  try with_reducible refine wpAny_holding ?_
  first | refine wpAny_bind (wpAny_pure ?_) | skip
  refine wpAny_bind (wpAny_sequenceKey ht.typeIs (by decide) ?_)
  refine wpAny_bind (wpAny_callSpecial?_slot (name := Str.ofString "__getitem__") ht.typeIs PyProof.Rows.slot_tuple_getitem
    (wpAny_call_entry PyProof.Rows.slot_tuple_getitem ht.typeIs entry_tuple_getitem ?_ (args_tuple_getitem _ _)))
  show wpAny _ _ (Builtin.Tuple.tupleItemsOf (.ref t) >>= _) _ _ s
  refine wpAny_bind (tupleItemsOf_ ht ?_)
  refine wpAny_bind (wpAny_typeOf hTs ?_)
  rw [if_pos (by decide)]
  refine wpAny_bind (sliceApplied_gen hs pl pu ?_)
  have hno : ¬ ((((sIx items.size 0 lo : Nat) : Int) == 0 && (1 : Int) == 1 && (sIx items.size items.size hi - sIx items.size 0 lo) == items.size) = true) := by
    intro q
    rw [Bool.and_eq_true, Bool.and_eq_true] at q
    have q1 : ((sIx items.size 0 lo : Nat) : Int) = 0 := eq_of_beq q.1.1
    have q2 : sIx items.size items.size hi - sIx items.size 0 lo = items.size := eq_of_beq q.2
    exact hw ⟨by omega, by omega⟩
  show wpAny _ _ (if (((sIx items.size 0 lo : Nat) : Int) == 0 && (1 : Int) == 1 && (sIx items.size items.size hi - sIx items.size 0 lo) == items.size) = true then _ else _) _ _ s
  rw [if_neg hno, pick_gen]
  first
    | exact wpAny_bind (m := Builtin.Tuple.tupleExact _) (wpAny_newObj_type (wpAny_pure ⟨_, rfl, wpAny_pure h⟩) htake)
    | exact wpAny_bind (m := Builtin.Tuple.tupleExact _) (wpAny_newObj_type (wpAny_bind (wpAny_pure (wpAny_pure ⟨_, rfl, wpAny_pure h⟩))) htake)
    | exact wpAny_bind (wpAny_bind (m := Builtin.Tuple.tupleExact _) (wpAny_newObj_type (wpAny_pure (wpAny_pure ⟨_, rfl, wpAny_pure h⟩)) htake))
    | exact wpAny_bind (wpAny_bind (m := Builtin.Tuple.tupleExact _) (wpAny_newObj_type (wpAny_pure ⟨_, rfl, wpAny_pure h⟩) htake))
end
end HT
namespace L2
open PySem PySem.Spec PyProof.Rows
abbrev TO := St → Hp → (Option Int → Hp → Prop) → Prop
def PO (X : Cx) (e : Option Expr) (t : TO) : Prop :=
  ∀ (pins : List (Addr × Obj)) (s : Shared) (σ : St) (H : Hp) (Q : Option Int → Hp → Prop), Inv X pins σ H s → t σ H Q →
    wpAny (model X.prog X.w) X.A (evalPart e X.env) (fun u s' => ∃ o H', Inv X pins σ H' s' ∧ IsPart u o ∧ Q o H') X.xe s
def tNoPart : TO := fun _ H Q => Q none H
def tPart (t : TE) : TO := fun σ H Q => t σ H fun x H1 => ∃ i, x = .int i ∧ Q (some i) H1
section
variable {X : Cx} {e : Expr} {te : TE} {lo hi : Option Expr} {tl th : TO} {pos p2 : Pos}
theorem po_none : PO X none tNoPart := by
  intro pins s σ H Q I h
  rw [evalPart_none]
  exact wpAny_pure ⟨none, H, I, .none, h⟩
theorem po_some (h : PE X e te) : PO X (some e) (tPart te) := by
  intro pins s σ H Q I hw
  rw [evalPart_some]
  refine thn (h pins s σ H _ I hw) fun u s1 ⟨x, H1, I1, r1, q1⟩ => ?_
  obtain ⟨i, rfl, q⟩ := q1
  obtain ⟨t, rfl⟩ := r1
  exact ⟨some i, H1, I1, .int i t, q⟩
def SlR (X : Cx) (r : V → Option Int → Option Int → Hp → VK → Prop) : Prop :=
  ∀ (pins : List (Addr × Obj)) (s : Shared) (σ : St) (H : Hp) (x : V) (v vl vu : Value) (lo hi : Option Int) (sl : Addr) (Q : VK), Inv X pins σ H s → RelV x v → s.heap.IsSliceOf sl vl vu .none → IsPart vl lo → IsPart vu hi → r x lo hi H Q →
    ∃ T id, typeLookup (.type T) "__getitem__" = pure (some (.builtin id)) ∧ s.TypeIs v T ∧ wpAny (model X.prog X.w) X.A (getItem v (.ref sl)) (EP X pins σ Q) X.xe s
theorem SlR.or {r r' : V → Option Int → Option Int → Hp → VK → Prop} (h : SlR X r) (h' : SlR X r') : SlR X (fun x lo hi H Q => r x lo hi H Q ∨ r' x lo hi H Q) := by
  intro pins s σ H x v vl vu lo hi sl Q I rx hs pl pu q
  rcases q with q | q
  · exact h pins s σ H x v vl vu lo hi sl Q I rx hs pl pu q
  · exact h' pins s σ H x v vl vu lo hi sl Q I rx hs pl pu q
def tSl (r : V → Option Int → Option Int → Hp → VK → Prop) (te : TE) (tl th : TO) : TE := fun σ H Q => te σ H fun x H1 => tl σ H1 fun l H2 => th σ H2 fun u H3 => r x l u H3 Q
theorem pe_slice {r : V → Option Int → Option Int → Hp → VK → Prop} (hr : SlR X r) (he : PE X e te) (hl : PO X lo tl) (hu : PO X hi th) : PE X (.Subscript e (.Slice lo hi none p2) pos) (tSl r te tl th) := by
  intro pins s σ H Q I h
  refine Subscript_ (thn (he pins s σ H _ I h) fun v s1 ⟨x, H1, I1, r1, q1⟩ => ?_)
  refine wpAny_Slice (thn (hl pins s1 σ H1 _ I1 q1) fun vl s2 ⟨l, H2, I2, pl, q2⟩ => thn (hu pins s2 σ H2 _ I2 q2) fun vu s3 ⟨u, H3, I3, pu, q3⟩ => ?_)
  rw [evalPart_none]
  refine wpAny_pure ?_
  have I4 : Inv X pins σ H3 { s3 with heap := s3.heap.push { cls := .type "slice", data := .fields #[vl, vu, .none] } } := I3.kept (t' := s3.toks) fun b ob q => Heap.get?_push_of_some _ q
  obtain ⟨T, id, hT, ht, hg⟩ := hr pins { s3 with heap := s3.heap.push { cls := .type "slice", data := .fields #[vl, vu, .none] } } σ H3 x v vl vu l u s3.heap.objs.size Q I4 r1 (Heap.IsSliceOf.new ..) pl pu q3
  show wpAny (model X.prog X.w) X.A (subscriptTail e (.Slice lo hi none p2) v (.ref s3.heap.objs.size)) (EP X pins σ Q) X.xe { s3 with heap := s3.heap.push { cls := .type "slice", data := .fields #[vl, vu, .none] } }
  exact tail_any (ops := [.ref s3.heap.objs.size, v]) ht hT hg (by with_unfolding_all rfl)
def cutV (xs : List V) (lo hi : Option Int) : List V := (xs.drop (HT.sIx xs.length 0 lo)).take (HT.sIx xs.length xs.length hi - HT.sIx xs.length 0 lo)
theorem cutV_length (xs : List V) (lo hi : Option Int) : (cutV xs lo hi).length ≤ xs.length := by
  unfold cutV
  rw [List.length_take, List.length_drop]
  omega
def rSlT (K : PySem.W.Frag) : V → Option Int → Option Int → Hp → VK → Prop := fun x lo hi H Q => ∃ a xs, x = .ref a ∧ SqT K H a xs ∧
  ¬ (HT.sIx xs.length 0 lo = 0 ∧ HT.sIx xs.length xs.length hi = xs.length) ∧ ∀ p, H p = none → Q (.ref p) (upd H p (.tup (cutV xs lo hi)))
theorem sl_tup : SlR X (rSlT X.K) := by
  intro pins s σ H x v vl vu lo hi sl Q I rx hs pl pu h
  obtain ⟨a, xs, rfl, hx, hw, q⟩ := h
  cases rx
  obtain ⟨its, r, ht, hz⟩ := I.tuple hx
  have hlen : its.toArray.size = xs.length := by rw [List.size_toArray]; exact r.length.symm
  refine ⟨"tuple", _, PyProof.Rows.slot_tuple_getitem.lookup, ht.typeIs, ?_⟩
  refine HT.getItem_tuple_cut ht hs pl pu (by rw [hlen]; exact hw) ?_ (by rw [hlen]; exact hz)
  rw [hlen]
  refine ⟨.ref s.heap.objs.size, _, I.laid (t' := s.toks) (o := .tup (cutV xs lo hi)) (fun b ob q => Heap.get?_push_of_some _ q) (Nat.le_refl _) ?_, rfl, q _ (I.hok.fresh (Nat.le_refl _))⟩
  exact ⟨Nat.le_trans (cutV_length xs lo hi) hz, _, (r.drop (HT.sIx xs.length 0 lo)).take (HT.sIx xs.length xs.length hi - HT.sIx xs.length 0 lo), IsTup.new _ _⟩
end
end L2
namespace L2
open PySem PySem.Spec PyProof.Rows
def ixN (n : Nat) (i : Int) : Option Nat := if 0 ≤ i then (if i < n then some i.toNat else none) else if -(n : Int) ≤ i then some (i + n).toNat else none
def atI {α : Type} (xs : List α) (i : Int) : Option α := (ixN xs.length i).bind fun j => xs[j]?
theorem ixN_seq {n : Nat} {i : Int} {j : Nat} (h : ixN n i = some j) : seqIndex? i n = some j ∧ j < n ∧ -(n : Int) ≤ i ∧ i < n := by
  unfold ixN at h
  by_cases h0 : 0 ≤ i
  · rw [if_pos h0] at h
    by_cases h1 : i < n
    · rw [if_pos h1] at h
      have e : i.toNat = j := Option.some.inj h
      exact ⟨by rw [seqIndex_of h0 h1, e], by omega, by omega, h1⟩
    · rw [if_neg h1] at h; cases h
  · rw [if_neg h0] at h
    by_cases h1 : -(n : Int) ≤ i
    · rw [if_pos h1] at h
      have e : (i + n).toNat = j := Option.some.inj h
      exact ⟨by rw [seqIndex_neg (by omega) h1, e], by omega, h1, by omega⟩
    · rw [if_neg h1] at h; cases h
theorem atI_get {α : Type} {xs : List α} {i : Int} {v : α} (h : atI xs i = some v) : ∃ j, seqIndex? i xs.length = some j ∧ xs[j]? = some v ∧ j < xs.length ∧ -(xs.length : Int) ≤ i ∧ i < xs.length := by
  unfold atI at h
  cases e : ixN xs.length i with
  | none => rw [e] at h; cases h
  | some j =>
    rw [e] at h
    obtain ⟨h1, h2, h3, h4⟩ := ixN_seq e
    exact ⟨j, h1, h, h2, h3, h4⟩
theorem atI_nat {α : Type} {xs : List α} {j : Nat} {v : α} (h : xs[j]? = some v) : atI xs (j : Int) = some v := by
  have hj : j < xs.length := (List.getElem?_eq_some_iff.mp h).1
  have e : ixN xs.length (j : Int) = some j := by
    unfold ixN
    rw [if_pos (by omega), if_pos (by omega)]; simp
  unfold atI; rw [e]; exact h
def PlainIx (b : Expr) : Prop := ∀ o i, subscripted b false o i = operate [o, i] (getItem o i)
def IxR (X : Cx) (r : R2) : Prop :=
  ∀ (value slice : Expr) (pins : List (Addr × Obj)) (s : Shared) (σ : St) (H : Hp) (x y : V) (v u : Value) (Q : VK), Inv X pins σ H s → RelV x v → RelV y u → r x y H Q →
    subscripted slice false v u = operate [v, u] (getItem v u) → wpAny (model X.prog X.w) X.A (subscriptTail value slice v u) (EP X pins σ Q) X.xe s
def MtR (X : Cx) (id : String) (r : V → List V → Hp → VK → Prop) : Prop :=
  ∀ (pins : List (Addr × Obj)) (s : Shared) (σ : St) (H : Hp) (x : V) (xs : List V) (v : Value) (us : List Value) (Q : VK), Inv X pins σ H s → RelV x v → Vals xs us → r x xs H Q →
    wpAny (model X.prog X.w) X.A (call (.builtin id) (v :: us)) (EP X pins σ Q) X.xe s
section
variable {X : Cx} {a b : Expr} {ta tb : TE} {pos : Pos}
theorem IxR.or {r r' : R2} (h : IxR X r) (h' : IxR X r') : IxR X (fun x y H Q => r x y H Q ∨ r' x y H Q) := by
  intro value slice pins s σ H x y v u Q I rx ry q hs
  rcases q with q | q
  · exact h value slice pins s σ H x y v u Q I rx ry q hs
  · exact h' value slice pins s σ H x y v u Q I rx ry q hs
theorem pe_ix {r : R2} (hr : IxR X r) (ha : PE X a ta) (hb : PE X b tb) (hs : PlainIx b) : PE X (.Subscript a b pos) (tOp r ta tb) := by
  intro pins s σ H Q I h
  exact Subscript_ (binT ha hb I h fun v u s2 x y H2 I2 rx ry q => hr a b pins s2 σ H2 x y v u Q I2 rx ry q (hs _ _))
inductive rIxL (K : PySem.W.Frag) (x y : V) (H : Hp) (Q : VK) : Prop
  | mk (p : Addr) (xs : List V) (i : Int) (v : V) (h0 : x = .ref p) (h1 : y = .int i) (h2 : SqL K H p xs) (h3 : atI xs i = some v) (h4 : Q v H) : rIxL K x y H Q
inductive rIxT (K : PySem.W.Frag) (x y : V) (H : Hp) (Q : VK) : Prop
  | mk (p : Addr) (xs : List V) (i : Int) (v : V) (h0 : x = .ref p) (h1 : y = .int i) (h2 : SqT K H p xs) (h3 : atI xs i = some v) (h4 : Q v H) : rIxT K x y H Q
def rIxS : R2 := fun x y H Q => ∃ z i c, x = .str z ∧ y = .int i ∧ z.length ≤ sizeLine ∧ atI z.cps.toList i = some c ∧ Q (.str ⟨#[c]⟩) H
theorem ix_list : IxR X (rIxL X.K) := by
  intro value slice pins s σ H x y v u Q I rx ry h hs
  obtain ⟨p, xs, i, z, rfl, rfl, hq, he, q⟩ := h
  cases rx
  obtain ⟨t, rfl⟩ := ry
  obtain ⟨its, r, pl, hz⟩ := I.list hq
  obtain ⟨j, h1, h2, h3, h4, h5⟩ := atI_get he
  obtain ⟨w, ew, rw'⟩ := r.get h2
  have hl := r.length
  have hn := line63
  have fin : EP X pins σ Q w s := ⟨z, H, I, rw', q⟩
  by_cases h0 : 0 ≤ i
  · have hj : i.toNat = j := by
      rw [seqIndex_of h0 h5] at h1
      exact Option.some.inj h1
    exact item_listR pl.isList h0 (by omega) (by rw [hj]; simpa using ew) fin hs
  · have hj : (i + (its.toArray.size : Int)).toNat = j := by
      rw [seqIndex_neg (by omega) h4] at h1
      rw [List.size_toArray, ← hl]
      exact Option.some.inj h1
    exact subscriptTail_builtinR (x := w) pl.isList.typeIs slot_list_getitem.lookup
      (wpAny_getItem_list_neg (Q := fun r s' => r = w ∧ EP X pins σ Q r s') pl.isList (by omega) (by rw [List.size_toArray] <;> omega) (by omega) (by rw [hj]; simpa using ew) ⟨rfl, fin⟩) hs
theorem ix_tup : IxR X (rIxT X.K) := by
  intro value slice pins s σ H x y v u Q I rx ry h hs
  obtain ⟨p, xs, i, z, rfl, rfl, hq, he, q⟩ := h
  cases rx
  obtain ⟨t, rfl⟩ := ry
  obtain ⟨its, r, pl, hz⟩ := I.tuple hq
  obtain ⟨j, h1, h2, h3, h4, h5⟩ := atI_get he
  obtain ⟨w, ew, rw'⟩ := r.get h2
  have hl := r.length
  have hn := line63
  have fin : EP X pins σ Q w s := ⟨z, H, I, rw', q⟩
  exact subscriptTail_builtinR (x := w) pl.typeIs slot_tuple_getitem.lookup
    (getItem_tuple (j := j) (Q := fun r s' => r = w ∧ EP X pins σ Q r s') pl (by omega) (by omega) (by rw [List.size_toArray, ← hl]; exact h1) (by simpa using ew) ⟨rfl, fin⟩) hs
theorem ix_str : IxR X rIxS := by
  intro value slice pins s σ H x y v u Q I rx ry h hs
  obtain ⟨z, i, c, rfl, rfl, hz, he, q⟩ := h
  obtain ⟨t, rfl⟩ := rx
  obtain ⟨t', rfl⟩ := ry
  obtain ⟨j, h1, h2, h3, h4, h5⟩ := atI_get he
  have hl : z.cps.toList.length = z.length := by simp [Str.length]
  rw [hl] at h1 h4 h5
  have hn := line63
  exact tail_any (typeIs_str s z t) slot_str_getitem.lookup (getItem_str (c := c) (by
    have e1 : decide (i < -(2 ^ 63 : Int)) = false := decide_eq_false (by omega)
    have e2 : decide (i ≥ 2 ^ 63) = false := decide_eq_false (by omega)
    rw [e1, e2, Bool.or_false]) (by rw [h1]; simpa using h2) ⟨.str ⟨#[c]⟩, H, I.tok _, ⟨_, rfl⟩, q⟩) hs
def rIx (K : PySem.W.Frag) : R2 := fun x y H Q => rIxL K x y H Q ∨ rIxT K x y H Q ∨ rIxS x y H Q
theorem ix_seq : IxR X (rIx X.K) := ix_list.or (ix_tup.or ix_str)
theorem mapSeq_set (its : List Value) (n j : Nat) (u : Value) : Obj.mapSeq (·.setIfInBounds j u) { cls := .type "list", data := .seq its.toArray n } = { cls := .type "list", data := .seq (its.set j u).toArray n } := by
  simp [Obj.mapSeq]
theorem Inv.lst {pins : List (Addr × Obj)} {σ : St} {H : Hp} {s : Shared} {p : Addr} {xs : List V} (I : Inv X pins σ H s) (h : H p = some (.lst xs)) :
    ∃ (its : List Value) (n : Nat), Vals xs its ∧ s.heap.get? p = some { cls := .type "list", data := .seq its.toArray n } ∧ xs.length ≤ sizeLine := by
  obtain ⟨z, its, n, r, e⟩ := I.hok p _ h
  exact ⟨its, n, r, e, z⟩
theorem Inv.lstUpd {pins : List (Addr × Obj)} {σ : St} {H : Hp} {s : Shared} {p : Addr} {xs ys : List V} {its its' : List Value} {n n' : Nat} {f : Obj → Obj} (I : Inv X pins σ H s) (h : H p = some (.lst xs))
    (ho : s.heap.get? p = some { cls := .type "list", data := .seq its.toArray n }) (hf : f { cls := .type "list", data := .seq its.toArray n } = { cls := .type "list", data := .seq its'.toArray n' }) (r : Vals ys its') (hz : ys.length ≤ sizeLine) (t : Nat) :
    Inv X pins σ (upd H p (.lst ys)) { s with heap := s.heap.update p f, toks := t } := by
  have e : (s.heap.update p f).get? p = some { cls := .type "list", data := .seq its'.toArray n' } := by
    rw [Heap.get?_update_self f ho (by rw [hf] <;> rfl), hf]
  refine I.write (x := p) (e := p) (by rw [h]; trivial) (.inl rfl) (fun b u hb q => (Heap.get?_update_other _ _ (Ne.symm hb)).trans q) ⟨_, e⟩ ?_
  exact ⟨hz, its', n', r, e⟩
def rSetL : V → V → V → Hp → (Hp → Prop) → Prop := fun o i v H Q => ∃ p xs k j, o = .ref p ∧ i = .int k ∧ H p = some (.lst xs) ∧ ixN xs.length k = some j ∧ Q (upd H p (.lst (xs.set j v)))
theorem set_list : PSet X rSetL := by
  intro pins s σ H o i v ov iv u Q I ro ri rv h
  obtain ⟨p, xs, k, j, rfl, rfl, hp, hj, q⟩ := h
  cases ro
  obtain ⟨t, rfl⟩ := ri
  obtain ⟨its, n, r, ho, hz⟩ := I.lst hp
  obtain ⟨h1, h2, h3, h4⟩ := ixN_seq hj
  have hl := r.length
  have hn := line63
  have I' : Inv X pins σ (upd H p (.lst (xs.set j v))) { s with heap := s.heap.update p (Obj.mapSeq (·.setIfInBounds j u)) } :=
    I.lstUpd hp ho (mapSeq_set its n j u) (r.set rv j) (by rw [List.length_set]; exact hz) s.toks
  by_cases h0 : 0 ≤ k
  · have hk : k.toNat = j := by
      rw [seqIndex_of h0 h4] at h1
      exact Option.some.inj h1
    exact PySem.W.ki_setAt ho h0 (by omega) (by rw [List.size_toArray, ← hl]; exact h4) (by rw [hk]; exact ⟨_, I', q⟩)
  · have hk : (k + (its.toArray.size : Int)).toNat = j := by
      rw [seqIndex_neg (by omega) h3] at h1
      rw [List.size_toArray, ← hl]
      exact Option.some.inj h1
    exact PySem.W.ki_setBack ho (by omega) (by rw [List.size_toArray, ← hl]; exact h3) (by omega) (by rw [hk]; exact ⟨_, I', q⟩)
theorem slice_bounds (lo hi : Option Int) (n : Nat) : (sliceBounds lo hi none n).1 = ((HT.sIx n 0 lo : Nat) : Int) ∧ (sliceBounds lo hi none n).2.1 = ((HT.sIx n n hi : Nat) : Int) ∧ (sliceBounds lo hi none n).2.2 = 1 := by
  refine ⟨?_, ?_, rfl⟩
  · cases lo with
    | none => simp [sliceBounds, HT.sIx]
    | some i =>
      simp only [sliceBounds, HT.sIx, Option.getD_none, show (1 : Int) > 0 by decide, if_true]
      by_cases h : i < 0
      · simp only [h, if_true] <;> omega
      · simp only [h, if_false] <;> omega
  · cases hi with
    | none => simp [sliceBounds, HT.sIx]
    | some i =>
      simp only [sliceBounds, HT.sIx, Option.getD_none, show (1 : Int) > 0 by decide, if_true]
      by_cases h : i < 0
      · simp only [h, if_true] <;> omega
      · simp only [h, if_false] <;> omega
theorem slicePick_cut (its : List Value) (lo hi : Option Int) : slicePick its.toArray lo hi none = ((its.drop (HT.sIx its.length 0 lo)).take (HT.sIx its.length its.length hi - HT.sIx its.length 0 lo)).toArray := by
  obtain ⟨h1, h2, h3⟩ := slice_bounds lo hi its.toArray.size
  unfold slicePick
  rw [h1, h2, h3]
  simp only [sliceRange_one, pick_run, List.size_toArray] <;> rfl
def rSlL (K : PySem.W.Frag) : V → Option Int → Option Int → Hp → VK → Prop := fun x lo hi H Q => ∃ a xs, x = .ref a ∧ SqL K H a xs ∧ ∀ p, H p = none → Q (.ref p) (upd H p (.lst (cutV xs lo hi)))
theorem sl_list : SlR X (rSlL X.K) := by
  intro pins s σ H x v vl vu lo hi sl Q I rx hs pl pu h
  obtain ⟨a, xs, rfl, hx, q⟩ := h
  cases rx
  obtain ⟨its, r, ht, hz⟩ := I.list hx
  have hlen := r.length
  refine ⟨"list", _, slot_list_getitem.lookup, ht.isList.typeIs, ?_⟩
  refine wpAny_getItem_list_slice ht.isList hs pl pu .none (by simp) ?_ (by rw [List.size_toArray] <;> omega)
  rw [slicePick_cut, ← hlen]
  refine ⟨.ref s.heap.objs.size, _, I.laid (t' := s.toks) (o := .lst (cutV xs lo hi)) (fun b ob q => Heap.get?_push_of_some _ q) (Nat.le_refl _) ?_, rfl, q _ (I.hok.fresh (Nat.le_refl _))⟩
  exact ⟨Nat.le_trans (cutV_length xs lo hi) hz, _, 0, (r.drop (HT.sIx xs.length 0 lo)).take (HT.sIx xs.length xs.length hi - HT.sIx xs.length 0 lo), Heap.get?_push_size _ rfl⟩
def flatV : V → Bool
  | .non => true
  | .bl _ => true
  | .int _ => true
  | .str _ => true
  | _ => false
def eqV : V → V → Bool
  | .non, .non => true
  | .bl a, .bl b => a == b
  | .bl a, .int b => (if a then 1 else 0) == b
  | .int a, .bl b => a == (if b then 1 else 0)
  | .int a, .int b => a == b
  | .str a, .str b => a == b
  | _, _ => false
theorem eqAt_V {A : Around} {s : Shared} {y x : V} {u v : Value} (ry : RelV y u) (rx : RelV x v) (fy : flatV y = true) (fx : flatV x = true) : SeqAt.EqAt A s u v (eqV y x) := by
  cases y with
  | non =>
    cases ry
    cases x with
    | non => cases rx; exact SeqAt.EqAt.same _
    | bl b => cases rx; exact SeqAt.EqAt.none_bool b
    | int b => obtain ⟨t, rfl⟩ := rx; exact SeqAt.EqAt.none_int b t
    | str b => obtain ⟨t, rfl⟩ := rx; exact SeqAt.EqAt.none_str b t
    | _ => exact absurd (show false = true from fx) Bool.false_ne_true
  | bl a =>
    cases ry
    cases x with
    | non => cases rx; exact SeqAt.EqAt.bool_none a
    | bl b => cases rx; exact SeqAt.EqAt.bool_bool a b
    | int b => obtain ⟨t, rfl⟩ := rx; exact SeqAt.EqAt.bool_int a b t
    | str b => obtain ⟨t, rfl⟩ := rx; exact SeqAt.EqAt.bool_str a b t
    | _ => exact absurd (show false = true from fx) Bool.false_ne_true
  | int a =>
    obtain ⟨t', rfl⟩ := ry
    cases x with
    | non => cases rx; exact SeqAt.EqAt.int_none a t'
    | bl b => cases rx; exact SeqAt.EqAt.int_bool a t' b
    | int b => obtain ⟨t, rfl⟩ := rx; exact SeqAt.EqAt.int_int a t' b t
    | str b => obtain ⟨t, rfl⟩ := rx; exact SeqAt.EqAt.int_str a t' b t
    | _ => exact absurd (show false = true from fx) Bool.false_ne_true
  | str a =>
    obtain ⟨t', rfl⟩ := ry
    cases x with
    | non => cases rx; exact SeqAt.EqAt.str_none a t'
    | bl b => cases rx; exact SeqAt.EqAt.str_bool a t' b
    | int b => obtain ⟨t, rfl⟩ := rx; exact SeqAt.EqAt.str_int a t' b t
    | str b => obtain ⟨t, rfl⟩ := rx; exact SeqAt.EqAt.str_str a t' b t
    | _ => exact absurd (show false = true from fx) Bool.false_ne_true
  | _ => exact absurd (show false = true from fy) Bool.false_ne_true
def eqU (x : V) (u : Value) : Bool := match u with
  | .none => eqV .non x
  | .bool b => eqV (.bl b) x
  | .int i _ => eqV (.int i) x
  | .str z _ => eqV (.str z) x
  | _ => false
theorem eqU_of {x y : V} {u : Value} (r : RelV y u) (f : flatV y = true) : eqU x u = eqV y x := by
  cases y with
  | non => cases r; rfl
  | bl b => cases r; rfl
  | int i => obtain ⟨t, rfl⟩ := r; rfl
  | str z => obtain ⟨t, rfl⟩ := r; rfl
  | _ => exact absurd (show false = true from f) Bool.false_ne_true
theorem any_eqU {x : V} : ∀ {xs : List V} {us : List Value}, Vals xs us → xs.all flatV = true → us.any (eqU x) = xs.any fun y => eqV y x
  | _, _, .nil, _ => rfl
  | y :: xs, u :: us, .cons r t, f => by
    rw [List.all_cons, Bool.and_eq_true] at f
    rw [List.any_cons, List.any_cons, eqU_of r f.1, any_eqU t f.2]
theorem mem_eqAt {A : Around} {s : Shared} {x : V} {v : Value} (rx : RelV x v) (fx : flatV x = true) : ∀ {xs : List V} {us : List Value}, Vals xs us → xs.all flatV = true → ∀ u ∈ us, SeqAt.EqAt A s u v (eqU x u)
  | _, _, .nil, _ => fun u hu => by cases hu
  | y :: xs, u :: us, .cons r t, f => fun u' hu => by
    rw [List.all_cons, Bool.and_eq_true] at f
    rcases List.mem_cons.mp hu with rfl | hu
    · rw [eqU_of r f.1]; exact eqAt_V r rx f.1 fx
    · exact mem_eqAt rx fx t f.2 u' hu
def inV (x : V) (xs : List V) : Bool := xs.any fun y => eqV y x
inductive rIn (K : PySem.W.Frag) (neg : Bool) (x y : V) (H : Hp) (Q : VK) : Prop
  | mk (p : Addr) (xs : List V) (h0 : y = .ref p) (h1 : SqL K H p xs ∨ SqT K H p xs) (h2 : flatV x = true) (h3 : xs.all flatV = true) (h4 : Q (.bl (if neg then !inV x xs else inV x xs)) H) : rIn K neg x y H Q
theorem op_in_seq : OpR X (compareOp .In) (rIn X.K false) := by
  intro pins s σ H x y v u Q I rx ry h
  obtain ⟨p, xs, rfl, hq, fx, fs, q⟩ := h
  cases ry
  rcases hq with hq | hq
  · obtain ⟨its, r, pl, hz⟩ := I.list hq
    refine SeqAt.in_listAt (eqU x) pl.isList (fun w hw => mem_eqAt rx fx r fs w (by simpa using hw)) ⟨.bl _, H, I, rfl, ?_⟩
    rw [show its.toArray.any (eqU x) = its.any (eqU x) by simp, any_eqU r fs]
    exact q
  · obtain ⟨its, r, pl, hz⟩ := I.tuple hq
    refine SeqAt.in_tupleAt (eqU x) pl (fun w hw => mem_eqAt rx fx r fs w (by simpa using hw)) ⟨.bl _, H, I, rfl, ?_⟩
    rw [show its.toArray.any (eqU x) = its.any (eqU x) by simp, any_eqU r fs]
    exact q
theorem call_len_seq : CallR X (.builtin "len") (fun xs H Q => ∃ p ys, xs = [.ref p] ∧ (SqL X.K H p ys ∨ SqT X.K H p ys) ∧ Q (.int ys.length) H) := by
  intro pins s σ H xs us Q I r h
  obtain ⟨p, ys, rfl, hq, q⟩ := h
  obtain ⟨u, rfl, rx⟩ := vals1 r
  cases rx
  have hn := line63
  rcases hq with hq | hq
  · obtain ⟨its, r', pl, hz⟩ := I.list hq
    have hlen := r'.length
    exact Calls.call_len_list pl.isList (by simp only [List.size_toArray] <;> omega) ⟨.int ys.length, H, I.tok _, ⟨s.toks + 1, by rw [List.size_toArray, hlen]⟩, q⟩
  · obtain ⟨its, r', pl, hz⟩ := I.tuple hq
    have hlen := r'.length
    exact len_tuple pl (by simp only [List.size_toArray] <;> omega) ⟨.int ys.length, H, I.tok _, ⟨s.toks + 1, by rw [List.size_toArray, hlen]⟩, q⟩
theorem call_len_str : CallR X (.builtin "len") (fun xs H Q => ∃ z, xs = [.str z] ∧ z.length ≤ sizeLine ∧ Q (.int z.length) H) := by
  intro pins s σ H xs us Q I r h
  obtain ⟨z, rfl, hz, q⟩ := h
  obtain ⟨u, rfl, t, rfl⟩ := vals1 r
  have hn := line63
  exact len_str (by omega) ⟨.int z.length, H, I.tok _, ⟨_, rfl⟩, q⟩
theorem CallR.or {f : Value} {r r' : List V → Hp → VK → Prop} (h : CallR X f r) (h' : CallR X f r') : CallR X f (fun xs H Q => r xs H Q ∨ r' xs H Q) := by
  intro pins s σ H xs us Q I rs q
  rcases q with q | q
  · exact h pins s σ H xs us Q I rs q
  · exact h' pins s σ H xs us Q I rs q
inductive rListOf (K : PySem.W.Frag) (xs : List V) (H : Hp) (Q : VK) : Prop
  | mk (p : Addr) (ys : List V) (h0 : xs = [.ref p]) (h1 : SqL K H p ys ∨ SqT K H p ys) (h2 : ∀ l, H l = none → Q (.ref l) (upd H l (.lst ys))) : rListOf K xs H Q
theorem call_list_of : CallR X (.type "list") (rListOf X.K) := by
  intro pins s σ H xs us Q I r h
  obtain ⟨p, ys, rfl, hq, q⟩ := h
  obtain ⟨u, rfl, rx⟩ := vals1 r
  cases rx
  have fin : ∀ (its : List Value), Vals ys its → ys.length ≤ sizeLine → ∀ (h' : Heap) (c' : Nat), (∀ b o', s.heap.get? b = some o' → h'.get? b = some o') →
      h'.get? s.heap.objs.size = some { cls := .type "list", dict := none, data := .seq its.toArray c', slots := #[] } → EP X pins σ Q (.ref s.heap.objs.size) { s with heap := h' } := fun its r' hz h' c' kp e =>
    ⟨.ref s.heap.objs.size, _, I.laid (t' := s.toks) kp (Nat.le_refl _) (show ObjOk X.prog X.w _ h' _ (.lst ys) from ⟨hz, its, c', r', e⟩), rfl, q _ (I.hok.fresh (Nat.le_refl _))⟩
  rcases hq with hq | hq
  · obtain ⟨its, r', pl, hz⟩ := I.list hq
    have hlen := r'.length
    obtain ⟨o, ho, hc, n, hd⟩ := pl.isList
    exact call_list_seq p (.inl rfl) ho hc hd (fun h' c' kp e => fin its r' hz h' c' kp e) (by simp only [List.size_toArray] <;> omega)
  · obtain ⟨its, r', pl, hz⟩ := I.tuple hq
    have hlen := r'.length
    obtain ⟨o, ho, hc, n, hd⟩ := pl
    exact call_list_seq p (.inr rfl) ho hc hd (fun h' c' kp e => fin its r' hz h' c' kp e) (by simp only [List.size_toArray] <;> omega)
theorem call_tuple_of : CallR X (.type "tuple") (fun xs H Q => ∃ p ys, xs = [.ref p] ∧ ((SqL X.K H p ys ∧ ∀ l, H l = none → Q (.ref l) (upd H l (.tup ys))) ∨ (SqT X.K H p ys ∧ Q (.ref p) H))) := by
  intro pins s σ H xs us Q I r h
  obtain ⟨p, ys, rfl, h⟩ := h
  obtain ⟨u, rfl, rx⟩ := vals1 r
  cases rx
  rcases h with ⟨hq, q⟩ | ⟨hq, q⟩
  · obtain ⟨its, r', pl, hz⟩ := I.list hq
    have hlen := r'.length
    refine call_tuple_list pl.isList (fun h' kp => ?_) (by simp only [List.size_toArray] <;> omega)
    have I1 : Inv X pins σ H { s with heap := h' } := I.kept (t' := s.toks) kp
    have I2 : Inv X pins σ (upd H h'.objs.size (.tup ys)) { s with heap := h'.push { cls := .type "tuple", data := .seq its.toArray } } :=
      I1.laid (t' := s.toks) (fun b o e => Heap.get?_push_of_some _ e) (Nat.le_refl _) (show ObjOk X.prog X.w _ _ _ (.tup ys) from ⟨hz, its, r', IsTup.new _ _⟩)
    exact ⟨.ref h'.objs.size, _, I2, rfl, q _ (I1.hok.fresh (Nat.le_refl _))⟩
  · obtain ⟨its, r', pl, hz⟩ := I.tuple hq
    exact call_tuple_same pl ⟨.ref p, H, I, rfl, q⟩
def tyV (K : PySem.W.Frag) (T : String) (x : V) (H : Hp) : Prop := match x with
  | .str _ => T = "str"
  | .int _ => T = "int"
  | .ref p => (T = "list" ∧ ∃ xs, SqL K H p xs) ∨ (T = "tuple" ∧ ∃ o, K.lookup p = some o ∧ o.cls = .type "tuple" ∧ o.dict = none) ∨
      (T = "dict" ∧ ((∃ kvs, H p = some (.dK kvs)) ∨ ∃ kvs, H p = some (.dT kvs))) ∨ (T = "set" ∧ ∃ S n, H p = some (.set S n))
  | _ => False
theorem tyV_is {pins : List (Addr × Obj)} {σ : St} {H : Hp} {s : Shared} {T : String} {x : V} {v : Value} (I : Inv X pins σ H s) (r : RelV x v) (ty : tyV X.K T x H) :
    s.TypeIs v T ∧ ∀ a, v = .ref a → ∃ ob, s.heap.get? a = some ob ∧ ob.dict = none := by
  cases x with
  | str z =>
    obtain ⟨t, rfl⟩ := r
    cases (show T = "str" from ty)
    exact ⟨typeIs_str s z t, fun _ e => nomatch e⟩
  | int i =>
    obtain ⟨t, rfl⟩ := r
    cases (show T = "int" from ty)
    exact ⟨typeIs_int s i t, fun _ e => nomatch e⟩
  | ref p =>
    cases r
    rcases ty with ⟨rfl, xs, hq⟩ | ⟨rfl, o, hk, hc, hd⟩ | ⟨rfl, hk⟩ | ⟨rfl, S, n, hk⟩
    · obtain ⟨its, _, pl, _⟩ := I.list hq
      refine ⟨pl.isList.typeIs, fun a e => ?_⟩
      cases e
      obtain ⟨o, n, e, c, hd, _⟩ := pl
      exact ⟨o, e, hd⟩
    · refine ⟨⟨o, I.kIn p o hk, hc⟩, fun a e => ?_⟩
      cases e
      exact ⟨o, I.kIn _ o hk, hd⟩
    · have z : ∃ o, s.heap.get? p = some o ∧ o.ExactDict := by
        rcases hk with ⟨kvs, hk⟩ | ⟨kvs, hk⟩
        · obtain ⟨_, _, _, _, o, _, _, e, ex, _⟩ := I.hok p _ hk
          exact ⟨o, e, ex⟩
        · obtain ⟨_, _, _, _, o, _, _, e, ex, _⟩ := I.hok p _ hk
          exact ⟨o, e, ex⟩
      obtain ⟨o, e, ex⟩ := z
      refine ⟨⟨o, e, ex.1⟩, fun a e2 => ?_⟩
      cases e2
      exact ⟨o, e, ex.2.1⟩
    · obtain ⟨o, _, _, _, e, ex, _⟩ := I.hok p _ hk
      refine ⟨⟨o, e, ex.1⟩, fun a e2 => ?_⟩
      cases e2
      exact ⟨o, e, ex.2.1⟩
  | _ => exact False.elim ty
def tBM0 (K : PySem.W.Frag) (T : String) (r : V → List V → Hp → VK → Prop) (to : TE) : TE := fun σ H Q => to σ H fun x H1 => tyV K T x H1 ∧ r x [] H1 Q
def tBM (K : PySem.W.Frag) (T : String) (r : V → List V → Hp → VK → Prop) (to : TE) (t : TA) : TE := fun σ H Q => to σ H fun x H1 => tyV K T x H1 ∧ t σ H1 fun xs H2 => r x xs H2 Q
variable {o e : Expr} {es : List Expr} {to : TE} {t : TA} {name : Str} {apos cpos : Pos} {T id : String} {r : V → List V → Hp → VK → Prop}
theorem pe_bm0 (pa : PlainAttrs T) (slot : Slot T name id) (hty : typeOf (.builtin id) = pure (.type "method_descriptor")) (hm : MtR X id r) (ho : PE X o to)
    (hbase : attributeBase o name X.env (eval o X.env) = eval o X.env := by rfl) (hline : (apos.endLine == cpos.line) = true := by rfl) : PE X (.Call (.Attribute o name apos) [] [] cpos) (tBM0 X.K T r to) := by
  intro pins s σ H Q I h
  refine wpAny_Call_method0_late hbase hline (thn (ho pins s σ H _ I h) fun v s1 ⟨x, H1, I1, r1, ty, q1⟩ => ?_)
  obtain ⟨h1, h2⟩ := tyV_is I1 r1 ty
  exact ⟨T, id, pa, slot, hty, h1, h2, Calls.callWith_builtin rfl (PySem.evalArgs_none (hm pins s1 σ H1 x [] v [] Q I1 r1 .nil q1))⟩
theorem pe_bm (pa : PlainAttrs T) (slot : Slot T name id) (hty : typeOf (.builtin id) = pure (.type "method_descriptor")) (hm : MtR X id r) (ho : PE X o to) (ha : PA X (e :: es) t)
    (hbase : attributeBase o name X.env (eval o X.env) = eval o X.env := by rfl)
    (hfew : ((backTo cpos (starEach (e :: es) X.env)).all (fun x => !x.1) && (backToKw cpos (keywordEach [] X.env)).all (fun x => x.1.isSome)
      && decide ((e :: es).length + ([] : List Keyword).length + (if ([] : List Keyword).isEmpty then 0 else 1) < 30)) = true := by rfl)
    (hline : (apos.endLine == cpos.line) = true := by rfl) (hs : starEach (e :: es) X.env = (false, eval e X.env) :: starEach es X.env := by rfl) (hplain : (backTo cpos (starEach es X.env)).any (·.1) = false := by rfl) :
    PE X (.Call (.Attribute o name apos) (e :: es) [] cpos) (tBM X.K T r to t) := by
  intro pins s σ H Q I h
  refine wpAny_Call_method_late hbase hfew hline rfl (thn (ho pins s σ H _ I h) fun v s1 ⟨x, H1, I1, r1, ty, q1⟩ => ?_)
  obtain ⟨h1, h2⟩ := tyV_is I1 r1 ty
  refine ⟨T, id, pa, slot, hty, h1, h2, ?_⟩
  have hA := ha cpos pins s1 σ H1 _ I1 q1
  rw [hs] at hA ⊢
  refine Calls.callWith_builtin (by show (false || (backTo cpos (starEach es X.env)).any (·.1)) = false; rw [hplain] <;> rfl) (Calls.evalArgs_plain ?_)
  exact thn hA fun us s2 ⟨vs, H2, I2, r2, q2⟩ => hm pins s2 σ H2 x vs v us Q I2 r1 r2 q2
end
end L2
namespace L2
open PySem PySem.Spec PyProof.Rows
def MtM (X : Cx) (id : String) (r : V → List V → Hp → VK → Prop) : Prop :=
  ∀ (pins : List (Addr × Obj)) (s : Shared) (σ : St) (H : Hp) (x : V) (xs : List V) (v : Value) (us : List Value) (Q : VK), Inv X pins σ H s → RelV x v → Vals xs us → r x xs H Q →
    wpAny (model X.prog X.w) X.A (call (.builtin id) (v :: us)) (EP X pins σ Q) X.xe s
theorem Vals.one : ∀ {x : V} {us : List Value}, Vals [x] us → ∃ u, us = [u] ∧ RelV x u
  | _, _, .cons r .nil => ⟨_, rfl, r⟩
theorem Vals.zero : ∀ {us : List Value}, Vals [] us → us = []
  | _, .nil => rfl
theorem Vals.eraseIdx : ∀ {xs : List V} {us : List Value} (i : Nat), Vals xs us → Vals (xs.eraseIdx i) (us.eraseIdx i)
  | _, _, _, .nil => .nil
  | _, _, 0, .cons _ t => t
  | _, _, i + 1, .cons r t => .cons r (Vals.eraseIdx i t)
theorem len_erase {α : Type} : ∀ (l : List α) (i : Nat), (l.eraseIdx i).length ≤ l.length
  | [], _ => Nat.le_refl _
  | _ :: _, 0 => Nat.le_succ _
  | _ :: r, i + 1 => Nat.succ_le_succ (len_erase r i)
section
variable {X : Cx} {pins : List (Addr × Obj)} {σ : St} {H : Hp} {s : Shared} {l b : Addr} {xs ys zs : List V}
theorem Inv.lset {its its' : List Value} {n : Nat} {f : Array Value → Array Value} {t' : Nat} (I : Inv X pins σ H s) (hH : H l = some (.lst xs))
    (e : s.heap.get? l = some { cls := .type "list", data := .seq its.toArray n }) (hf : f its.toArray = its'.toArray) (hv : Vals ys its') (hz : ys.length ≤ sizeLine) :
    Inv X pins σ (upd H l (.lst ys)) { s with heap := s.heap.update l (Obj.mapSeq f), toks := t' } := by
  have q := PySem.IsL.update e f
  rw [hf] at q
  refine I.write (x := l) (e := l) (by rw [hH]; exact trivial) (.inl rfl) (fun b' u hb hu => (Heap.get?_update_other s.heap (Obj.mapSeq f) (Ne.symm hb)).trans hu) ⟨_, q⟩ ?_
  exact ⟨hz, its', _, hv, q⟩
theorem Inv.lnew {its : List Value} {t' : Nat} (I : Inv X pins σ H s) (hv : Vals ys its) (hz : ys.length ≤ sizeLine) :
    Inv X pins σ (upd H s.heap.objs.size (.lst ys)) { s with heap := s.heap.push { cls := .type "list", data := .seq its.toArray }, toks := t' } :=
  I.laid (fun _ _ q => Heap.get?_push_of_some _ q) (Nat.le_refl _) ⟨hz, its, 0, hv, Heap.get?_push_size _ rfl⟩
theorem Inv.fresh (I : Inv X pins σ H s) : H s.heap.objs.size = none := I.hok.fresh (Nat.le_refl _)
theorem Inv.lstM (I : Inv X pins σ H s) (hH : H l = some (.lst xs)) : xs.length ≤ sizeLine ∧ ∃ (its : List Value) (n : Nat), Vals xs its ∧ xs.length = its.length ∧ s.heap.get? l = some { cls := .type "list", data := .seq its.toArray n } := by
  obtain ⟨z, its, n, r, e⟩ := I.hok l _ hH
  exact ⟨z, its, n, r, r.length, e⟩
end
section
variable {X : Cx}
inductive rAppend (x : V) (vs : List V) (H : Hp) (Q : VK) : Prop
  | mk (l : Addr) (xs : List V) (y : V) (h0 : x = .ref l) (h1 : vs = [y]) (h2 : H l = some (.lst xs)) (h3 : xs.length < sizeLine) (h4 : Q .non (upd H l (.lst (xs ++ [y])))) : rAppend x vs H Q
theorem mt_append : MtM X "list.append" rAppend := by
  intro pins s σ H x vs v us Q I rx rv h
  obtain ⟨l, xs, y, rfl, rfl, hH, hz, q⟩ := h
  cases rx
  obtain ⟨u, rfl, ru⟩ := rv.one
  obtain ⟨z, its, n, r, hl, e⟩ := I.lstM hH
  refine call_meets F.slot_list_append ⟨_, e, rfl⟩ F.entry_list_append (F.args_list_append_2 _ _) (PySem.list_append l its.toArray n u (by rw [List.size_toArray]; omega)) ⟨e, ?_⟩
  refine ⟨.non, _, I.lset (its' := its ++ [u]) hH e (by simp) (r.append (.cons ru .nil)) ?_, rfl, q⟩
  rw [List.length_append, List.length_singleton]
  omega
def rPop : V → List V → Hp → VK → Prop := fun x vs H Q => ∃ l xs y, x = .ref l ∧ vs = [] ∧ H l = some (.lst xs) ∧ xs[xs.length - 1]? = some y ∧ Q y (upd H l (.lst xs.dropLast))
def rPopAt : V → List V → Hp → VK → Prop := fun x vs H Q => ∃ l xs i k y, x = .ref l ∧ vs = [.int i] ∧ H l = some (.lst xs) ∧ -(2 ^ 63) ≤ i ∧ i < 2 ^ 63 ∧ seqIndex? i xs.length = some k ∧ xs[k]? = some y ∧ Q y (upd H l (.lst (xs.eraseIdx k)))
theorem mt_popAt : MtM X "list.pop" rPopAt := by
  intro pins s σ H x vs v us Q I rx rv h
  obtain ⟨l, xs, i, k, y, rfl, rfl, hH, h1, h2, hk, hy, q⟩ := h
  cases rx
  obtain ⟨u, rfl, ru⟩ := rv.one
  obtain ⟨t, rfl⟩ := ru
  obtain ⟨z, its, n, r, hl, e⟩ := I.lstM hH
  obtain ⟨w, hw, rw'⟩ := r.get hy
  refine call_meets F.slot_list_pop ⟨_, e, rfl⟩ F.entry_list_pop (F.args_list_pop_2 _ _)
    (MeetsSeq.list_pop_at l its.toArray n i t k w (fitsIndex_both h1 h2) (by rw [List.size_toArray, ← hl]; exact hk) (by rw [← Array.getElem?_toList]; exact hw) (by rw [List.size_toArray]; omega)) ⟨e, ?_⟩
  refine ⟨y, _, I.lset (its' := its.eraseIdx k) hH e ?_ (r.eraseIdx k) ?_, rw', q⟩
  · show its.toArray.eraseIdxIfInBounds k = (its.eraseIdx k).toArray
    rw [List.eraseIdxIfInBounds_toArray]
  · have := len_erase xs k
    omega
def rClear : V → List V → Hp → VK → Prop := fun x vs H Q => ∃ l xs, x = .ref l ∧ vs = [] ∧ H l = some (.lst xs) ∧ Q .non (upd H l (.lst []))
theorem mt_clear : MtM X "list.clear" rClear := by
  intro pins s σ H x vs v us Q I rx rv h
  obtain ⟨l, xs, rfl, rfl, hH, q⟩ := h
  cases rx
  have hus := rv.zero
  subst hus
  obtain ⟨z, its, n, r, hl, e⟩ := I.lstM hH
  refine call_meets F.slot_list_clear ⟨_, e, rfl⟩ F.entry_list_clear (F.args_list_clear_1 _) (AutoSeq1.list_clear_list_0 l its.toArray n (by rw [List.size_toArray]; omega)) ⟨e, ?_⟩
  exact ⟨.non, _, I.lset (its' := []) (ys := []) hH e rfl .nil (Nat.zero_le _), rfl, q⟩
inductive rCat (x y : V) (H : Hp) (Q : VK) : Prop
  | mk (l b : Addr) (xs zs : List V) (h0 : x = .ref l) (h1 : y = .ref b) (h2 : H l = some (.lst xs)) (h3 : H b = some (.lst zs)) (h4 : xs.length + zs.length ≤ sizeLine) (h5 : ∀ p, H p = none → Q (.ref p) (upd H p (.lst (xs ++ zs)))) : rCat x y H Q
theorem op_cat : OpR X (binaryOp .Add) rCat := by
  intro pins s σ H x y v u Q I rx ry h
  obtain ⟨l, b, xs, zs, rfl, rfl, hH, hB, hz, q⟩ := h
  cases rx
  cases ry
  obtain ⟨z, its, n, r, hl, e⟩ := I.lstM hH
  obtain ⟨z2, its2, n2, r2, hl2, e2⟩ := I.lstM hB
  refine PySem.P.add_list e e2 ?_ (by rw [List.size_toArray, List.size_toArray]; omega)
  have ea : its.toArray ++ its2.toArray = (its ++ its2).toArray := by simp
  rw [ea]
  exact ⟨.ref _, _, I.lnew (t' := s.toks) (r.append r2) (by rw [List.length_append]; omega), rfl, q _ I.fresh⟩
end
section
variable {prog : Program} {w : World} {A : Around} {E : Value → Shared → Prop} {s : Shared}
set_option maxRecDepth 100000 in
end
section
variable {X : Cx}
end
end L2
namespace Att
open PySem PySem.W PySem.Calls PyProof.Rows
theorem ints_of_wellAll {P : Params} {h : Heap} : ∀ (ns : List Int) (vs : List Value), WellAll P h vs (ns.map WData.int) → IntsAre vs ns := by
  intro ns
  induction ns with
  | nil =>
    intro vs w
    rw [List.map_nil] at w
    cases w
    exact .nil
  | cons n ns ih =>
    intro vs w
    rw [List.map_cons] at w
    cases w with
    | cons a b =>
      cases a
      exact .cons _ _ (ih _ b)
theorem script_of {l : OpenLaw} {n : Nat} (hn : l.most = some n) {P : Params} {h : Heap} {args : List WData} {vals : List Value}
    (hpre : l.row.toRowW.claim.pre args = true) (hwl : WellAll P h vals args) :
    ∃ a vs ns, vals = [Value.ref a] ∧ args = [WData.list (ns.map WData.int)] ∧ h.get? a = some { cls := .type "list", data := .seq vs.toArray } ∧ IntsAre vs ns ∧ ns.length ≤ n := by
  have hsh : WShape.hasAll [] args [.list .int] = true := (pre_splitW hpre).1
  have hc : l.pre.holds [] { args := args } = true := (pre_splitW hpre).2
  obtain ⟨d, r, rfl, h1, h2⟩ := hasAllW_cons hsh
  obtain rfl := hasAllW_nil h2
  obtain ⟨xs, rfl, h3⟩ := hasW_list h1
  obtain ⟨ns, rfl⟩ := items_int h3
  have hlen : ns.length ≤ n := by
    unfold OpenLaw.pre at hc
    have h4 : (WTm.not (.lt (.lit (.int (n : Int))) (.len (.arg 0)))).holds [] { args := [.list (ns.map .int)] } = true := by
      have h4 := (holds_andW hc).1
      rw [hn] at h4
      exact h4
    have h5 := condW_of h4 (w_not (w_lt w_lit (w_len_list (w_arg rfl))))
    rw [List.length_map] at h5
    refine Nat.le_of_not_lt fun q => ?_
    have q' : (n : Int) < ((ns.length : Nat) : Int) := by omega
    first
      | (rw [decide_eq_true q'] at h5; exact absurd h5 (by decide))
      | (simp at h5; omega)
  cases hwl with
  | cons w1 w2 =>
    cases w2
    cases w1 with
    | list ho hall => exact ⟨_, _, ns, rfl, rfl, ho, ints_of_wellAll ns _ hall, hlen⟩
theorem post_true (l : OpenLaw) (args : List WData) : l.row.toRowW.claim.post args (.bool true) args = true :=
  postW_of (r := l.row.toRowW) (X := (true == true))
    (show WShape.has [] (.bool true) .bool = true by first | rfl | decide | simp [WShape.has, WShape.arms, WShape.armsAll])
    (show (WTm.eq .res (.lit (.bool true))).value [] { args := args, res := some (.bool true), after := args } = some (.bool (true == true)) from w_eq_bool (w_res rfl) w_lit) rfl
theorem attach_call {l : OpenLaw} {n : Nat} {q : Program} {loose : List Str} {XP : (Str → Option Value) → Heap → Prop} {YP : World → Heap → Prop} {d : DefRec}
    (hn : l.most = some n) (hdf : d.params.defaults = [])
    (call : ∀ (w : World) (s₀ s₁ : Shared) (mg mb : Str → Option Value) (fa : Addr) (o : Obj) (pm cd doc : Value) (a : Addr) (vs : List Value) (ns : List Int),
      Ground q loose [] XP w s₀ mg mb s₁.heap → YP w s₁.heap →
      s₁.heap.get? fa = some o → o.data = .func (docDef d.name d.params d.body d.scope pm cd doc) → s₁.heap.CodeRec cd d.name → mg d.name = some (.ref fa) →
      s₁.heap.get? a = some { cls := .type "list", data := .seq vs.toArray } → IntsAre vs ns → ns.length ≤ n → s₁.gens = #[] →
      codeAny (model l.prog w) callerA (.call (.ref fa) ⟨[.ref a], []⟩) (fun r s' => r = .ok (.ret (.bool true)) ∧ OldK s₁.heap s'.heap ∧ s'.os = s₁.os ∧ AllBare s'.gens) s₁) :
    WalkO q loose XP YP l.row.toRowW d [] (fun f vs => PySem.call f vs) := by
  intro w s₀ s₁ mg mb G Y fa o pm cd doc dV kV ho hd hcd hD hmg hg args vals as hpre hlay hrd hwl hlo
  obtain rfl : dV = .none := Dflts.none hD hdf
  obtain rfl : kV = .none := Dflts.noKw hD
  obtain ⟨a, vs, ns, rfl, rfl, hobj, hints, hlen⟩ := script_of hn hpre hwl
  refine enter_call (codeAny_mono (call w s₀ s₁ mg mb fa o pm cd doc a vs ns G Y ho (fd_plain hd) hcd hmg hobj hints hlen hg) fun r s' hq => ?_)
  obtain ⟨rfl, h2, h3, h4⟩ := hq
  exact ⟨.inl ⟨.bool true, .bool true, [], rfl, fun _ => rfl, .bool true, post_true l _, fun _ => ⟨List.Pairwise.nil, fun _ hm => (nomatch hm)⟩⟩, h2, h3, h4⟩
section
variable {prog : Program} {w : World} {A : Around} {E : Value → Shared → Prop} {s : Shared} {K : Frag}
def ledger (h : Heap) (L d : Addr) : List (Addr × Obj) := (List.range h.objs.size).filterMap fun a => if a = L ∨ a = d then none else (h.get? a).map fun o => (a, o)
end
end Att
namespace L2
open PySem PySem.Spec PyProof.Rows
theorem vals_ints : ∀ {vs : List Value} {ns : List Int}, IntsAre vs ns → Vals (ns.map V.int) vs
  | _, _, .nil => .nil
  | _, _, .cons n t h => .cons ⟨t, rfl⟩ (vals_ints h)
def Only (H : Hp) : Prop := ∀ b, H b = none ∨ ∃ o xs, H b = some (.frz o (.lst xs))
end L2
namespace L2
open PySem PySem.Spec PyProof.Rows
abbrev KOf {K : PySem.W.Frag} {h : Heap} (_ : K.In h) : PySem.W.Frag := K
end L2
namespace L2
open PySem PySem.Spec PyProof.Rows
def inClass (s : Stmt) (j : Nat) : Stmt := match s with
  | .ClassDef _ _ _ body _ _ _ _ _ _ _ => body.getD j (.Pass ⟨0, 0, 0, 0⟩)
  | _ => .Pass ⟨0, 0, 0, 0⟩
def defArgs (s : Stmt) : Arguments := match s with
  | .FunctionDef _ a _ _ _ _ _ _ _ _ => a
  | _ => { posonlyargs := [], args := [], vararg := none, kwonlyargs := [], kw_defaults := [], kwarg := none, defaults := [] }
def defBody (s : Stmt) : List Stmt := match s with
  | .FunctionDef _ _ b _ _ _ _ _ _ _ => b
  | _ => []
def defScope (s : Stmt) : Scope := match s with
  | .FunctionDef _ _ _ _ _ _ sc _ _ _ => sc
  | _ => { kind := .function, names := [], isGenerator := false, isCoroutine := false }
abbrev CX0 : CXT := fun _ _ _ _ _ _ => False
abbrev E0 : XK := fun _ _ _ => False
theorem pass0 {X : Cx} : Passes CX0 X E0 := fun _ _ _ _ _ _ _ h => h.elim
structure Fun (K : PySem.W.Frag) (x qual : Str) (st : Stmt) (f : Addr) (fd : FuncData) : Prop where
  ex : ∃ (oc : Value) (od : Option Addr) (kV doc pm : Value) (an : Option Addr) (cdv ct : Value) (osl : Array (Option Value)),
    fd = PySem.W.fnOf x qual (defArgs st) (defBody st) (defScope st) .none kV doc pm an cdv ct ∧ K.lookup f = some ⟨oc, od, .func fd, osl⟩ ∧ PySem.W.codeIn K cdv qual = true
  kp : PySem.W.keepIn K (.ref f) = true
section
variable {P : Program} {w : World} {K : PySem.W.Frag} {mg : Str → Option Value} {base : Heap}
theorem Fun.ok {x qual : Str} {st : Stmt} {f : Addr} {fd : FuncData} {N ps : List Str} {k : Nat} {sp : Sp} (F : Fun K x qual st f fd) (S : FnScope N ps (defScope st)) (len : ∀ vs H Q E, sp vs H Q E → vs.length = ps.length)
    (hbody : ∀ (cdv : Value) (A : Around) (outer : List Env) (s : Shared) (H : Hp) (vs : List V) (Q : VK) (E : XK), Room k (A.deeper (envOfC qual (defScope st) s.heap.objs.size f cdv)) → sp vs H Q E →
      ∃ t, PSs (cxOf CX0 P w K mg base N qual (defScope st) f cdv A outer s H E).nox (defBody st) t ∧ t { nx := fun _ H' => Q .non H', rt := Q } (start N vs) H) : FnOk P w K mg base CX0 (k + 1) f fd ps sp := by
  obtain ⟨oc, od, kV, doc, pm, an, cdv, ct, osl, rfl, lk, hcd⟩ := F.ex
  refine fn_of lk hcd S len fun A outer s H vs Q E hr hsp => ?_
  obtain ⟨t, h, q⟩ := hbody cdv A outer s H vs Q E hr hsp
  exact ⟨t, h.nox, q⟩
theorem Fun.binds {x qual : Str} {st : Stmt} {f : Addr} {fd : FuncData} {ps : List Str} (F : Fun K x qual st f fd)
    (h : ∀ (kV doc pm : Value) (an : Option Addr) (cdv ct : Value) (us : List Value), us.length = ps.length → bindArgs (PySem.W.fnOf x qual (defArgs st) (defBody st) (defScope st) .none kV doc pm an cdv ct) ⟨us, []⟩ = pure (ps.zip us)) : Binds K fd ps [] := by
  obtain ⟨oc, od, kV, doc, pm, an, cdv, ct, osl, rfl, lk, hcd⟩ := F.ex
  exact .all (h kV doc pm an cdv ct)
theorem fun_mk {x qual : Str} {st : Stmt} {f : Addr} {oc : Value} {od an : Option Addr} {osl : Array (Option Value)} {kV doc pm cdv ct : Value} (l : K.lookup f = some ⟨oc, od, .func (PySem.W.fnOf x qual (defArgs st) (defBody st) (defScope st) .none kV doc pm an cdv ct), osl⟩)
    (c : PySem.W.codeIn K cdv qual = true) (k : PySem.W.keepIn K (.ref f) = true) : Fun K x qual st f (PySem.W.fnOf x qual (defArgs st) (defBody st) (defScope st) .none kV doc pm an cdv ct) := ⟨⟨oc, od, kV, doc, pm, an, cdv, ct, osl, rfl, l, c⟩, k⟩
end
section
variable {X : Cx}
end
theorem iteF {A B : Prop} (h : B) : if false = true then A else B := by
  rw [if_neg Bool.false_ne_true]
  exact h
theorem ite2 {c A B : Prop} [Decidable c] (h1 : c → A) (h2 : ¬ c → B) : if c then A else B := by
  by_cases h : c
  · rw [if_pos h]
    exact h1 h
  · rw [if_neg h]
    exact h2 h
theorem iteNS {c A B : Prop} [Decidable c] (hc : c) (h : B) : if (!decide c) = true then A else B := by
  rw [decide_eq_true hc]
  exact iteF h
def Same (H H' : Hp) : Prop := ∀ b o, H b = some o → H' b = some o
theorem Same.refl (H : Hp) : Same H H := fun _ _ h => h
theorem Same.trans {H H1 H2 : Hp} (a : Same H H1) (b : Same H1 H2) : Same H H2 := fun c o h => b c o (a c o h)
theorem Same.free {H H' : Hp} (e : Same H H') {l : Addr} (h : H' l = Option.none) : H l = Option.none := by
  cases q : H l with
  | none => rfl
  | some o =>
    rw [e l o q] at h
    cases h
theorem Same.seq {K : PySem.W.Frag} {H H' : Hp} {a : Addr} {xs : List V} (e : Same H H') (h : SqL K H a xs) : SqL K H' a xs := by
  rcases h with (h | ⟨o, h⟩) | h
  · exact .inl (.inl (e _ _ h))
  · exact .inl (.inr ⟨o, e _ _ h⟩)
  · exact .inr h
end L2
set_option Elab.async false
set_option linter.all false
set_option maxRecDepth 100000
set_option maxHeartbeats 4000000
namespace L2
open PySem PySem.Spec PyProof.Rows
def Its (x : Str) : It := ⟨fun i _ => i < x.cps.size, fun i H y H' => H' = H ∧ ∃ c, x.cps[i]? = some c ∧ y = .str ⟨#[c]⟩, fun i _ => x.cps.size ≤ i⟩
theorem turn_str {P : Program} {w : World} {K : PySem.W.Frag} {tg : Expr} (x : Str) (it : Addr) {ty : String} {t : Tok} (hty : ty = "str_ascii_iterator" ∨ ty = "str_iterator") :
    Turn P w K tg (Its x) [it] it (fun i h => h.IsStrIter it ty x t i) where
  mem := by simp
  obj := fun i h st b hb => by
    have e : b = it := by simpa using hb
    subst e
    obtain ⟨o, e, c, d⟩ := st
    exact ⟨o, e, fun v z => by rw [d] at z; cases z⟩
  keep := fun i h h' st k => by
    obtain ⟨o, e, r⟩ := st
    exact ⟨o, k it (by simp) o e, r⟩
  item := by
    intro X hP hw hK hc i pins s σ H E I hf st hg
    subst hP hw hK
    have hi : i < x.cps.size := hg
    obtain ⟨f0, f1, f2, f3, f4, f5⟩ := hf it (by simp)
    rcases hty with rfl | rfl
    · refine wpAny_pyNext_ascii_item st (c := x.cps[i]) (by simp [hi]) fun h' st' sb => ?_
      have I1 : Inv X pins σ H { s with heap := h', toks := s.toks + 1 } := I.turned (fun b o hb e => (sb.2 b hb).trans e) f0 f1 f3 f4 f5
      obtain ⟨o, e, c, d⟩ := id st'
      exact ⟨_, rfl, go_of (s := { s with heap := h', toks := s.toks + 1 }) e c d (by decide) ⟨.str ⟨#[x.cps[i]]⟩, H, I1, ⟨_, rfl⟩, ⟨rfl, x.cps[i], by simp [hi], rfl⟩, st', fun b hb => (hf b hb).1⟩⟩
    · refine wpAny_pyNext_wide_item st (c := x.cps[i]) (by simp [hi]) fun h' st' sb => ?_
      have I1 : Inv X pins σ H { s with heap := h', toks := s.toks + 1 } := I.turned (fun b o hb e => (sb.2 b hb).trans e) f0 f1 f3 f4 f5
      obtain ⟨o, e, c, d⟩ := id st'
      exact ⟨_, rfl, go_of (s := { s with heap := h', toks := s.toks + 1 }) e c d (by decide) ⟨.str ⟨#[x.cps[i]]⟩, H, I1, ⟨_, rfl⟩, ⟨rfl, x.cps[i], by simp [hi], rfl⟩, st', fun b hb => (hf b hb).1⟩⟩
  done := by
    intro X hP hw hK hc i pins s σ H E I hf st hg
    subst hP hw hK
    have hi : x.cps.size ≤ i := hg
    obtain ⟨f0, f1, f2, f3, f4, f5⟩ := hf it (by simp)
    rcases hty with rfl | rfl
    · exact wpAny_pyNext_ascii_end (I.ok.hd hc) st (by simp [hi]) fun h' eb => ⟨rfl, I.turned (t' := s.toks) (fun b o hb e => eb b o hb e) f0 f1 f3 f4 f5⟩
    · exact wpAny_pyNext_wide_end (I.ok.hd hc) st (by simp [hi]) fun h' eb => ⟨rfl, I.turned (t' := s.toks) (fun b o hb e => eb b o hb e) f0 f1 f3 f4 f5⟩
  self := fun _ _ _ _ _ st h => by
    rcases hty with rfl | rfl
    · exact wpAny_pyIter_striter_ascii st h
    · exact wpAny_pyIter_striter_wide st h
def iStr (tl : TE) : TI := fun σ H R => tl σ H fun x H1 => ∃ z, x = .str z ∧ R (Its z) H1
theorem pi_str {X : Cx} {tg l : Expr} {tl : TE} (hl : PE X l tl) : PI X tg l (iStr tl) := by
  intro pins s σ H R I h
  refine thn (hl pins s σ H _ I h) fun v s1 ⟨x, H1, I1, r1, q1⟩ => ?_
  obtain ⟨z, e, q⟩ := q1
  subst e
  obtain ⟨t, rfl⟩ := r1
  refine wpAny_pyIter_strU ?_
  refine ⟨s1.heap.objs.size, [s1.heap.objs.size], _, _, H1, rfl, I1.kept (t' := s1.toks) fun b o e => Heap.get?_push_of_some _ e, turn_str (ty := strIterType z) (t := t) z _ ?_, ⟨_, Heap.get?_push_size _ rfl, rfl, rfl⟩, fun b hb => ?_, q⟩
  · unfold strIterType
    split
    · exact .inl rfl
    · exact .inr rfl
  · have e : b = s1.heap.objs.size := by simpa using hb
    subst e
    exact I1.fpOk (Nat.le_refl _) (I1.hok.fresh (Nat.le_refl _))
end L2
set_option Elab.async false
set_option linter.all false
set_option maxRecDepth 100000
set_option maxHeartbeats 4000000
namespace L2
open PySem PySem.Spec PyProof.Rows
def Wk : St → St → Prop
  | [], [] => True
  | Option.none :: r, _ :: q => Wk r q
  | some a :: r, b :: q => b = some a ∧ Wk r q
  | _, _ => False
theorem Wk.len : ∀ {a b : St}, Wk a b → a.length = b.length
  | [], [], _ => rfl
  | Option.none :: r, _ :: q, h => congrArg (· + 1) (Wk.len (a := r) (b := q) h)
  | some _ :: r, _ :: q, h => congrArg (· + 1) (Wk.len (a := r) (b := q) h.2)
  | [], _ :: _, h => h.elim
  | Option.none :: _, [], h => h.elim
  | some _ :: _, [], h => h.elim
theorem Wk.get : ∀ {a b : St}, Wk a b → ∀ (i : Nat) v, a[i]? = some (some v) → b[i]? = some (some v)
  | [], [], _, i, v, e => by simp at e
  | Option.none :: r, y :: q, h, 0, v, e => by simp at e
  | Option.none :: r, y :: q, h, i + 1, v, e => by simpa using Wk.get (a := r) (b := q) h i v (by simpa using e)
  | some x :: r, y :: q, h, 0, v, e => by
    have e' : x = v := by simpa using e
    rw [h.1, e'] <;> simp
  | some x :: r, y :: q, h, i + 1, v, e => by simpa using Wk.get (a := r) (b := q) h.2 i v (by simpa using e)
  | [], _ :: _, h, _, _, _ => h.elim
  | Option.none :: _, [], h, _, _, _ => h.elim
  | some _ :: _, [], h, _, _, _ => h.elim
def clOf (cells : List (Str × Addr)) : List (Str × NameKind) → List (Str × Addr) → List (Str × Addr)
  | [], acc => acc
  | (n, k) :: r, acc => if k == .free then clOf cells r ((n, (cells.lookup n).getD 0) :: acc) else clOf cells r acc
theorem closureFor_clOf {sc : Scope} {env : Env} (h : ∀ y ∈ sc.names, y.2 = .free → ∃ c, env.cells.lookup y.1 = some c) : closureFor sc env = pure (clOf env.cells sc.names []) := by
  unfold closureFor
  have key : ∀ (l : List (Str × NameKind)) (acc : List (Str × Addr)), (∀ y ∈ l, y.2 = .free → ∃ c, env.cells.lookup y.1 = some c) →
      (forIn l acc fun x r => match x with | (name, kind) => if (kind == .free) = true then do let a ← cellOf env name; pure (ForInStep.yield ((name, a) :: r)) else pure (ForInStep.yield r) : Sem (List (Str × Addr))) = pure (clOf env.cells l acc) := by
    intro l
    induction l with
    | nil => intro acc _; rfl
    | cons y r ih =>
      intro acc hy
      obtain ⟨n, k⟩ := y
      have hr : ∀ y ∈ r, y.2 = .free → ∃ c, env.cells.lookup y.1 = some c := fun y hm => hy y (List.mem_cons_of_mem _ hm)
      rw [List.forIn_cons]
      by_cases hk : k = .free
      · subst hk
        obtain ⟨c, hc⟩ := hy (n, .free) List.mem_cons_self rfl
        have e1 : cellOf env n = pure c := by unfold cellOf; rw [hc]
        have e2 : clOf env.cells ((n, .free) :: r) acc = clOf env.cells r ((n, c) :: acc) := by
          show (if (NameKind.free == NameKind.free) = true then clOf env.cells r ((n, (env.cells.lookup n).getD 0) :: acc) else clOf env.cells r acc) = _
          rw [if_pos (by decide), hc]; rfl
        rw [e2, ← ih ((n, c) :: acc) hr]
        show (do let x ← (if (NameKind.free == NameKind.free) = true then do let a ← cellOf env n; pure (ForInStep.yield ((n, a) :: acc)) else pure (ForInStep.yield acc) : Sem _); _) = _
        rw [if_pos (by decide), e1]
        rfl
      · have hb : (k == NameKind.free) = false := by simpa using hk
        have e2 : clOf env.cells ((n, k) :: r) acc = clOf env.cells r acc := by
          show (if (k == NameKind.free) = true then clOf env.cells r ((n, (env.cells.lookup n).getD 0) :: acc) else clOf env.cells r acc) = _
          rw [hb]; rfl
        rw [e2, ← ih acc hr]
        show (do let x ← (if (k == NameKind.free) = true then do let a ← cellOf env n; pure (ForInStep.yield ((n, a) :: acc)) else pure (ForInStep.yield acc) : Sem _); _) = _
        rw [hb]
        rfl
  have := key sc.names [] h
  first | exact this | (rw [this]; rfl) | simpa using this
theorem clOf_lookup {cells : List (Str × Addr)} : ∀ {l : List (Str × NameKind)} {acc : List (Str × Addr)} {n : Str} {c : Addr}, (∀ y ∈ l, y.2 = .free → ∃ c, cells.lookup y.1 = some c) → (∀ n c, acc.lookup n = some c → cells.lookup n = some c) →
    (clOf cells l acc).lookup n = some c → cells.lookup n = some c
  | [], acc, n, c, _, ha, e => ha n c e
  | (m, k) :: r, acc, n, c, hl, ha, e => by
    have hr : ∀ y ∈ r, y.2 = .free → ∃ c, cells.lookup y.1 = some c := fun y hm => hl y (List.mem_cons_of_mem _ hm)
    have e' : (if (k == NameKind.free) = true then clOf cells r ((m, (cells.lookup m).getD 0) :: acc) else clOf cells r acc).lookup n = some c := e
    by_cases hk : (k == NameKind.free) = true
    · rw [if_pos hk] at e'
      refine clOf_lookup hr (fun n c z => ?_) e'
      obtain ⟨d, hd⟩ := hl (m, k) List.mem_cons_self (by simpa using hk)
      rw [List.lookup_cons] at z
      by_cases hn : (n == m) = true
      · rw [hn] at z
        have : n = m := by simpa using hn
        subst this
        have hd' : cells.lookup n = some d := hd
        rw [hd'] at z ⊢
        simpa using z
      · have hn' : (n == m) = false := by simpa using hn
        rw [hn'] at z
        exact ha n c z
    · rw [if_neg hk] at e'
      exact clOf_lookup hr ha e'
theorem clOf_some {cells : List (Str × Addr)} : ∀ {l : List (Str × NameKind)} {acc : List (Str × Addr)} {n : Str}, ((n, NameKind.free) ∈ l ∨ ∃ c, acc.lookup n = some c) → ∃ c, (clOf cells l acc).lookup n = some c
  | [], acc, n, h => by
    rcases h with h | h
    · cases h
    · exact h
  | (m, k) :: r, acc, n, h => by
    show ∃ c, (if (k == NameKind.free) = true then clOf cells r ((m, (cells.lookup m).getD 0) :: acc) else clOf cells r acc).lookup n = some c
    have hcons : ∀ a, n = m ∨ (∃ c, acc.lookup n = some c) → ∃ c, ((m, a) :: acc).lookup n = some c := fun a z => by
      rw [List.lookup_cons]
      by_cases hn : (n == m) = true
      · rw [hn]; exact ⟨_, rfl⟩
      · have hn' : (n == m) = false := by simpa using hn
        rw [hn']
        rcases z with z | z
        · exact absurd (by simpa using z) hn
        · exact z
    by_cases hk : (k == NameKind.free) = true
    · rw [if_pos hk]
      refine clOf_some ?_
      rcases h with h | h
      · rcases List.mem_cons.mp h with e | h
        · exact .inr (hcons _ (.inl (congrArg Prod.fst e)))
        · exact .inl h
      · exact .inr (hcons _ (.inr h))
    · rw [if_neg hk]
      refine clOf_some ?_
      rcases h with h | h
      · rcases List.mem_cons.mp h with e | h
        · have : k = .free := (congrArg Prod.snd e).symm
          rw [this] at hk
          exact absurd (by decide) hk
        · exact .inl h
      · exact .inr h
def rlb (env : Env) (p : Str × NameKind) : Str × NameKind := if (p.2 == NameKind.free && env.scope.kind == ScopeKind.function && env.kindOf p.1 == some NameKind.cell) = true then (p.1, NameKind.cell) else p
theorem relabel_names (sc : Scope) (env : Env) : (relabel sc env).names = sc.names.map (rlb env) := rfl
theorem rlb_fst (env : Env) (p : Str × NameKind) : (rlb env p).1 = p.1 := by
  unfold rlb
  split <;> rfl
theorem rlb_free {env : Env} {p : Str × NameKind} (h : p.2 ≠ .cell) (h2 : (rlb env p).2 = .cell ∨ (rlb env p).2 = .free) : p.2 = .free := by
  unfold rlb at h2
  split at h2
  · rename_i q
    rw [Bool.and_eq_true, Bool.and_eq_true] at q
    simpa using q.1.1
  · rcases h2 with h2 | h2
    · exact absurd h2 h
    · exact h2
theorem relabel_free' {env : Env} : ∀ {names : List (Str × NameKind)} {x : Str} {k : NameKind}, (∀ y ∈ names, y.2 ≠ .cell) → (k = .cell ∨ k = .free) → (names.map (rlb env)).lookup x = some k → (x, NameKind.free) ∈ names
  | [], x, k, _, _, e => by simp at e
  | p :: r, x, k, hc, hk, e => by
    have hr : ∀ y ∈ r, y.2 ≠ .cell := fun y hm => hc y (List.mem_cons_of_mem _ hm)
    have e0 : rlb env p = (p.1, (rlb env p).2) := by rw [← rlb_fst env p]
    rw [List.map_cons, e0, List.lookup_cons] at e
    by_cases hx : x = p.1
    · have hb : (x == p.1) = true := by simpa using hx
      rw [hb] at e
      have e2 : (rlb env p).2 = k := Option.some.inj e
      have hj := rlb_free (env := env) (hc p List.mem_cons_self) (by rw [e2]; exact hk)
      have : (x, NameKind.free) = p := by rw [hx, ← hj]
      rw [this]
      exact List.mem_cons_self
    · have hb : (x == p.1) = false := by simpa using hx
      rw [hb] at e
      exact List.mem_cons_of_mem _ (relabel_free' hr hk e)
theorem relabel_free {env : Env} {sc : Scope} {x : Str} {k : NameKind} (hc : ∀ y ∈ sc.names, y.2 ≠ .cell) (hk : k = .cell ∨ k = .free) (e : (relabel sc env).names.lookup x = some k) : (x, NameKind.free) ∈ sc.names :=
  relabel_free' (env := env) hc hk (by rw [← relabel_names]; exact e)
def blkS (ix : List (Option Nat)) (σ : St) : St := ix.map fun o => o.bind fun i => (σ[i]?).join
def FreeOk (XN : List Str) (env : Env) (sc : Scope) : List Str → List (Option Nat) → Prop
  | [], [] => True
  | _ :: N, Option.none :: ix => FreeOk XN env sc N ix
  | y :: N, some i :: ix => XN[i]? = some y ∧ env.kindOf y = some .cell ∧ (relabel sc env).names.lookup y = some .cell ∧ FreeOk XN env sc N ix
  | _, _ => False
theorem FreeOk.len {XN : List Str} {env : Env} {sc : Scope} : ∀ {N : List Str} {ix : List (Option Nat)}, FreeOk XN env sc N ix → ix.length = N.length
  | [], [], _ => rfl
  | _ :: N, Option.none :: ix, h => congrArg (· + 1) (FreeOk.len (N := N) (ix := ix) h)
  | _ :: N, some _ :: ix, h => congrArg (· + 1) (FreeOk.len (N := N) (ix := ix) h.2.2.2)
  | [], _ :: _, h => h.elim
  | _ :: _, [], h => h.elim
theorem FreeOk.get {XN : List Str} {env : Env} {sc : Scope} : ∀ {N : List Str} {ix : List (Option Nat)}, FreeOk XN env sc N ix → ∀ (j : Nat) (y : Str) (i : Nat), N[j]? = some y → ix[j]? = some (some i) →
    XN[i]? = some y ∧ env.kindOf y = some .cell ∧ (relabel sc env).names.lookup y = some .cell
  | [], [], _, j, y, i, e, _ => by simp at e
  | _ :: N, Option.none :: ix, h, 0, y, i, e, e2 => by simp at e2
  | _ :: N, Option.none :: ix, h, j + 1, y, i, e, e2 => FreeOk.get (N := N) (ix := ix) h j y i (by simpa using e) (by simpa using e2)
  | z :: N, some k :: ix, h, 0, y, i, e, e2 => by
    have e' : z = y := by simpa using e
    have e2' : k = i := by simpa using e2
    subst e'; subst e2'
    exact ⟨h.1, h.2.1, h.2.2.1⟩
  | _ :: N, some _ :: ix, h, j + 1, y, i, e, e2 => FreeOk.get (N := N) (ix := ix) h.2.2.2 j y i (by simpa using e) (by simpa using e2)
  | [], _ :: _, h, _, _, _, _, _ => h.elim
  | _ :: _, [], h, _, _, _, _, _ => h.elim
def cxB (X : Cx) (sc : Scope) (C : Addr) (N : List Str) (s₀ : Shared) (H₀ : Hp) (fp : List Addr) : Cx :=
  { X with N := N, s₀ := s₀, H₀ := H₀, env := compEnvC sc (clOf X.env.cells sc.names []) C X.env, outer := X.stack, ex := fp, fn := fun _ => false, pn := [], xe := fun _ _ => False }
structure CompOk (X : Cx) (sc : Scope) (N : List Str) (ix : List (Option Nat)) : Prop where
  kind : sc.kind = .function
  nocell : (sc.names.all fun y => y.2 != .cell) = true
  names : (sc.names.all fun y => y.2 != .local || sc.names.lookup y.1 == some .local) = true
  free : (sc.names.all fun y => y.2 != .free || X.env.scope.names.lookup y.1 == some .cell) = true
  fr : FreeOk X.N X.env sc N ix
section
variable {X : Cx} {sc : Scope} {N : List Str} {ix : List (Option Nat)} {pins : List (Addr × Obj)} {σ : St} {H : Hp} {s : Shared}
theorem CompOk.cells (c : CompOk X sc N ix) (ok : X.Ok) : ∀ y ∈ sc.names, y.2 = .free → ∃ c, X.env.cells.lookup y.1 = some c := fun y hy e => by
  have h := List.all_eq_true.mp c.free y hy
  rw [e] at h
  have h' : X.env.scope.names.lookup y.1 = some .cell := by simpa using h
  exact ok.has y.1 (.inl h')
theorem CompOk.nc (c : CompOk X sc N ix) : ∀ y ∈ sc.names, y.2 ≠ .cell := fun y hy => by simpa using List.all_eq_true.mp c.nocell y hy
theorem CompOk.nm (c : CompOk X sc N ix) : ∀ y ∈ sc.names, y.2 = .local → sc.names.lookup y.1 = some .local := fun y hy e => by
  have h := List.all_eq_true.mp c.names y hy
  rw [e] at h
  simpa using h
theorem inv_block {C : Addr} {fp : List Addr} {h₁ : Heap} {t' : Nat} (c : CompOk X sc N ix) (I : Inv X pins σ H s) (hf : ∀ b ∈ fp, FpOk X pins H b) (hfp : ∀ b ∈ fp, b < s.heap.objs.size) (hC : s.heap.objs.size ≤ C)
    (hn : h₁.Ns C (fun _ => none)) (old : ∀ b o, s.heap.get? b = some o → h₁.get? b = some o) : Inv (cxB X sc C N s H fp) [] (blkS ix σ) H { s with heap := h₁, toks := t' } := by
  have hcells := c.cells I.ok
  have sub : ∀ n c, (clOf X.env.cells sc.names []).lookup n = some c → X.env.cells.lookup n = some c := fun n c e => clOf_lookup hcells (fun n c z => by simp at z) e
  refine ⟨⟨I.ok.mod, c.kind, I.ok.glob, I.ok.blt, hC, fun x y d h1 h2 => I.ok.inj x y d (sub x d h1) (sub y d h2), fun x hx => ?_, fun x d z => absurd z (by simp [cxB]), I.ok.hd, I.ok.frames, .inl rfl, fun b hb => ⟨?_, fun x d e => ?_⟩, I.bs, Nat.le_trans I.ok.bsz I.sz, fun b o e hb => ?_, fun b hb hs => ?_, I.stack, I.stkFree⟩,
    rfl, I.bare, Un.kept old, ⟨_, hn, fun j y v e1 e2 e3 => ?_⟩, fun x d e => ?_, I.hok.fresh hC, fun x d e => I.freeC x d (sub x d e), fun p hp => absurd (show p ∈ ([] : List (Addr × Obj)) from hp) (by simp), I.hok.kept old, ?_⟩
  · refine clOf_some (.inl ?_)
    rcases hx with hx | hx
    · exact relabel_free c.nc (.inl rfl) (show (relabel sc X.env).names.lookup x = some .cell from hx)
    · exact relabel_free c.nc (.inr rfl) (show (relabel sc X.env).names.lookup x = some .free from hx)
  · exact Nat.ne_of_lt (Nat.lt_of_lt_of_le (hfp b hb) hC)
  · exact (hf b hb).2.2.2.2.1 x d (sub x d e)
  · rcases (hf b hb).2.2.2.1 with z | z
    · exact I.ok.noex b o e z
    · exact absurd (Nat.lt_of_lt_of_le (Heap.lt_size e) (Nat.le_trans I.ok.bsz z)) (Nat.lt_irrefl _)
  · rcases List.mem_cons.mp (I.stkSub b hs) with z | z
    · exact (hf b hb).2.1 z
    · exact (hf b hb).2.2.1 z
  · have hj : ∃ i, ix[j]? = some (some i) ∧ σ[i]? = some (some v) := by
      unfold blkS at e2
      rw [List.getElem?_map] at e2
      cases q : ix[j]? with
      | none => rw [q] at e2; cases e2
      | some o =>
        rw [q] at e2
        cases o with
        | none => cases e2
        | some i =>
          refine ⟨i, rfl, ?_⟩
          have e2' : (σ[i]?).join = some v := Option.some.inj e2
          cases q2 : σ[i]? with
          | none => rw [q2] at e2'; cases e2'
          | some w => rw [q2] at e2'; exact congrArg some e2'
    obtain ⟨i, hi, hv⟩ := hj
    obtain ⟨k1, k2, k3⟩ := c.fr.get j y i e1 hi
    obtain ⟨m, hm, hl⟩ := I.loc
    obtain ⟨u, r, l⟩ := hl i y v k1 hv (.inr (.inl k2))
    refine ⟨u, r, ?_⟩
    rcases l with ⟨z, _⟩ | ⟨_, d, hd, hcell⟩
    · rw [k2] at z; cases z
    · obtain ⟨d', hd'⟩ : ∃ d', (clOf X.env.cells sc.names []).lookup y = some d' := clOf_some (.inl (relabel_free c.nc (.inl rfl) k3))
      have := sub y d' hd'
      rw [hd] at this
      cases this
      exact .inr ⟨.inl k3, d, hd', hcell.keeps old⟩
  · obtain ⟨v, z⟩ := I.cell x d (sub x d e)
    exact ⟨v, z.keeps old⟩
  · show (blkS ix σ).length = N.length
    unfold blkS
    rw [List.length_map, c.fr.len]
theorem inv_unblock {C : Addr} {fp : List Addr} {pins' : List (Addr × Obj)} {σ' : St} {H' : Hp} {s' : Shared} (I : Inv X pins σ H s) (hf : ∀ b ∈ fp, FpOk X pins H b) (J : Inv (cxB X sc C N s H fp) pins' σ' H' s') : Inv X pins σ H' s' := by
  refine I.call' (ch := fp) J.os J.base J.hok J.bare fun b hb => ?_
  obtain ⟨f0, f1, f2, f3, f4, f5⟩ := hf b hb
  exact ⟨f3, f1, f4, f5⟩
end
def PTs (X : Cx) (ifs : List Expr) (t : TT) : Prop :=
  ∀ (pins : List (Addr × Obj)) (s : Shared) (σ : St) (H : Hp) (Q : Bool → Hp → Prop), Inv X pins σ H s → t σ H Q →
    wpAny (model X.prog X.w) X.A (forIn ifs true fun c r => if r = true then do let ok ← isTrue c X.env (eval c X.env); pure (ForInStep.yield ok) else pure (ForInStep.yield r)) (TP X pins σ Q) X.xe s
def tAll : TT := fun _ H Q => Q true H
theorem pts_nil {X : Cx} : PTs X [] tAll := fun _ _ _ H _ I h => wpAny_tests_nil ⟨H, I, h⟩
theorem pts_one {X : Cx} {c : Expr} {t : TT} (h : PT X c t) : PTs X [c] t := fun pins s σ H Q I hw => wpAny_tests_one (h pins s σ H Q I hw)
def CompW (J : It) (D : Addr) (σb : St) (g : TG) (tt : TT) (te : TE) (Q : Hp → List V → Prop) (W : Nat → Nat → List V → Hp → Prop) : Prop :=
  ∀ i m ys H, W i m ys H → H D = some (.lst ys) ∧ ((J.stop i H ∧ Q H ys) ∨ (J.go i H ∧ ∀ x H3, J.yld i H x H3 → g x σb H3 fun σ4 H4 => Wk σb σ4 ∧ tt σ4 H4 fun b H5 =>
    if b = true then te σ4 H5 fun y H6 => H6 D = some (.lst ys) ∧ ys.length < sizeLine ∧ ∃ m', m' < m ∧ W (i + 1) m' (ys ++ [y]) (upd H6 D (.lst (ys ++ [y]))) else ∃ m', m' < m ∧ W (i + 1) m' ys H5))
def tComp (ix : List (Option Nat)) (wi : TI) (g : TG) (tt : TT) (te : TE) : TE := fun σ H Q => wi σ H fun J H1 => ∀ D, H1 D = none → ∃ W, (∃ m, W 0 m [] (upd H1 D (.lst []))) ∧ CompW J D (blkS ix σ) g tt te (fun H _ => Q (.ref D) H) W
section
variable {X : Cx} {sc : Scope} {N : List Str} {ix : List (Option Nat)} {elt tg iter : Expr} {ifs : List Expr} {pos : Pos} {wi : TI} {g : TG} {tt : TT} {te : TE}
structure Blk (X : Cx) (sc : Scope) (N : List Str) (tg elt : Expr) (ifs : List Expr) (g : TG) (tt : TT) (te : TE) : Prop where
  tg : ∀ C s H fp, PG (cxB X sc C N s H fp) tg g
  tests : ∀ C s H fp, PTs (cxB X sc C N s H fp) ifs tt
  elt : ∀ C s H fp, PE (cxB X sc C N s H fp) elt te
theorem comp_loop {J : It} {fp : List Addr} {it D : Addr} {tn : Nat → Heap → Prop} {σb : St} {Q : Hp → List V → Prop} {R : Result → Shared → Prop} {W : Nat → Nat → List V → Hp → Prop}
    (hc : X.calm = true) (hxe : X.xe = fun _ _ => False) (T : Turn X.prog X.w X.K tg J fp it tn) (hg : PG X tg g) (ht : PTs X ifs tt) (he : PE X elt te) (turn : CompW J D σb g tt te Q W)
    (stat : ∀ {H' : Hp}, (∀ b ∈ fp, H' b = none) → ∀ b ∈ fp, FpOk X [] H' b)
    (fin : ∀ {σ' : St} {H' : Hp} {s' : Shared} {ys : List V}, Inv X [] σ' H' s' → Q H' ys → R (.ok .next) s')
    {m0 i0 : Nat} {ys0 : List V} {H0 : Hp} {s0 : Shared} (I0 : Inv X [] σb H0 s0) (st0 : tn i0 s0.heap) (fr0 : ∀ b ∈ fp, H0 b = none) (w0 : W i0 m0 ys0 H0) :
    codeAny (model X.prog X.w) X.A (.compLoop (.ListComp elt [⟨tg, iter, ifs, 0⟩] sc pos) 0 (.ref it) (.ref D) X.env) R s0 := by
  have noE : ∀ {E' : Value → Shared → Prop} (e : Value) (s' : Shared), X.xe e s' → E' e s' := fun {E'} e s' z => by rw [hxe] at z; exact z.elim
  refine codeAny_loop rfl (fun n s' => ∃ i ys H', Inv X [] σb H' s' ∧ tn i s'.heap ∧ (∀ b ∈ fp, H' b = none) ∧ W i n ys H') ?_ m0 ⟨i0, ys0, H0, I0, st0, fr0, w0⟩
  rintro n s3 ⟨i, ys, H3, I3, st3, fr3, w3⟩
  show wpAny _ X.A ((compTurn (.ListComp elt [⟨tg, iter, ifs, 0⟩] sc pos) 0 (.ref it) (.ref D) X.env).onRaise (fun x => do noteFrame x X.env; theTreesLotGoes x)) _ _ s3
  refine wpAny_noted ?_
  rw [compTurn_list]
  refine wpAny_bind (wpAny_standAt (wpAny_bind ?_))
  obtain ⟨hDl, next⟩ := turn i n ys H3 w3
  rcases next with ⟨stop, q⟩ | ⟨go, step⟩
  · refine thn (T.done X rfl rfl rfl hc i [] s3 σb H3 _ I3 (stat fr3) st3 stop) fun r s4 ⟨hr, I4⟩ => ?_
    subst hr
    exact wpAny_pure (fin I4 q)
  · refine thn (T.item X rfl rfl rfl hc i [] s3 σb H3 _ I3 (stat fr3) st3 go) fun r s4 ⟨u, hr, h4⟩ => ?_
    subst hr
    refine wpAny_bind (thn h4 fun _ s5 ⟨x, H5, I5, r5, y5, st5, fr5⟩ => ?_)
    have I5' := I5.pinned (stat fr5) (T.obj _ _ st5)
    have back : ∀ {σ' : St} {H' : Hp} {s' : Shared}, Inv X ([] ++ pinsAt fp s5.heap) σ' H' s' → Wk σb σ' → Inv X [] σb H' s' ∧ tn (i + 1) s'.heap ∧ ∀ b ∈ fp, H' b = none := fun {σ' H' s'} I7 wk => by
      refine ⟨(I7.unpinned).weak wk.len wk.get, T.keep _ _ _ st5 fun b hb o e => (I7.pin (b, o) (List.mem_append_right _ (List.mem_append_right _ (mem_pinsAt hb e)))).1, fun b hb => ?_⟩
      obtain ⟨o, e, d⟩ := T.obj _ _ st5 b hb
      exact (I7.pin (b, o) (List.mem_append_right _ (List.mem_append_right _ (mem_pinsAt hb e)))).2.1
    refine wpAny_bind (wpAny_mono (hg _ s5 σb H5 x u _ I5' r5 (step x H5 y5)) (fun _ s6 ⟨σ6, H6, I6, wk, q6⟩ => ?_) noE)
    refine wpAny_bind (wpAny_mono (ht _ s6 σ6 H6 _ I6 q6) (fun ok s7 ⟨H7, I7, q7⟩ => ?_) noE)
    cases ok with
    | false =>
      obtain ⟨m', hm, w7⟩ := q7
      obtain ⟨b1, b2, b3⟩ := back I7 wk
      exact wpAny_pure ⟨rfl, m', hm, i + 1, ys, H7, b1, b2, b3, w7⟩
    | true =>
      refine wpAny_bind (wpAny_bind (wpAny_mono (he _ s7 σ6 H7 _ I7 q7) (fun v s8 ⟨y, H8, I8, r8, hD8, hl8, m', hm, w8⟩ => ?_) noE))
      refine wpAny_bind (wpAny_mono (mt_append _ s8 σ6 H8 (.ref D) [y] (.ref D) [v] (fun _ H9 => H9 = upd H8 D (.lst (ys ++ [y]))) I8 rfl (.cons r8 .nil) ⟨D, ys, y, rfl, rfl, hD8, hl8, rfl⟩) (fun _ s9 ⟨z, H9, I9, _, e9⟩ => ?_) noE)
      subst e9
      obtain ⟨b1, b2, b3⟩ := back I9 wk
      exact wpAny_pure (wpAny_pure ⟨rfl, m', hm, i + 1, ys ++ [y], _, b1, b2, b3, w8⟩)
theorem comp_core {pins : List (Addr × Obj)} {σ : St} {H : Hp} {s : Shared} {E : Value → Shared → Prop} {RR : Value → Addr → Result → Shared → Prop} {it : Addr} {fp : List Addr} {tn : Nat → Heap → Prop} {J : It} {Q : Addr → Hp → List V → Prop}
    (hc : X.calm = true) (c : CompOk X sc N ix) (B : Blk X sc N tg elt ifs g tt te) (I : Inv X pins σ H s) (T : Turn X.prog X.w X.K tg J fp it tn) (st : tn 0 s.heap) (hf : ∀ b ∈ fp, FpOk X pins H b)
    (h : ∀ D, H D = none → ∃ W, (∃ m, W 0 m [] (upd H D (.lst []))) ∧ CompW J D (blkS ix σ) g tt te (Q D) W)
    (hR : ∀ D C H' s' ys, Inv X pins σ H' s' → FpOk X pins H' C → (∃ m, s'.heap.Ns C m) → Q D H' ys → RR (.ref D) C (.ok .next) s') :
    wpAny (model X.prog X.w) X.A (newList []) (fun acc s₃ => wpAny (model X.prog X.w) X.A (newFunctionEnv sc X.env.globals (clOf X.env.cells sc.names []) [] X.env.qual none .none (some X.env)) (fun cenv s₄ =>
      codeAny (model X.prog X.w) X.A (.compStart (.ListComp elt [⟨tg, iter, ifs, 0⟩] sc pos) 0 (.ref it) acc { cenv with scope := relabel sc X.env }) (RR acc cenv.locals) s₄) E s₃) E s := by
  have hlt : ∀ b ∈ fp, b < s.heap.objs.size := fun b hb => let ⟨o, e, _⟩ := T.obj _ _ st b hb; Heap.lt_size e
  refine wpAny_newObj_type ?_ (by show 0 ≤ sizeLine; exact Nat.zero_le _)
  have hD : H s.heap.objs.size = none := I.hok.fresh (Nat.le_refl _)
  obtain ⟨W, ⟨m0, w0⟩, turn⟩ := h s.heap.objs.size hD
  have I1 : Inv X pins σ (upd H s.heap.objs.size (.lst [])) { s with heap := s.heap.push { cls := .type "list", data := .seq ([] : List Value).toArray } } := I.lnew (t' := s.toks) (its := []) .nil (Nat.zero_le _)
  have k1 : ∀ b o, s.heap.get? b = some o → (s.heap.push { cls := .type "list", data := .seq ([] : List Value).toArray }).get? b = some o := fun b o e => Heap.get?_push_of_some _ e
  have hne : ∀ b ∈ fp, b ≠ s.heap.objs.size := fun b hb => Nat.ne_of_lt (hlt b hb)
  have hf1 : ∀ b ∈ fp, FpOk X pins (upd H s.heap.objs.size (.lst [])) b := fun b hb => ⟨by rw [upd_ne (hne b hb)]; exact (hf b hb).1, (hf b hb).2⟩
  have st1 : tn 0 (s.heap.push { cls := .type "list", data := .seq ([] : List Value).toArray }) := T.keep _ _ _ st fun b _ o e => k1 b o e
  generalize hs1 : ({ s with heap := s.heap.push { cls := .type "list", data := .seq ([] : List Value).toArray } } : Shared) = s1 at I1
  have hs1h : s1.heap = s.heap.push { cls := .type "list", data := .seq ([] : List Value).toArray } := by rw [← hs1]
  generalize hDe : s.heap.objs.size = D at *
  show wpAny _ _ _ _ _ s1
  refine wpAny_newFunctionEnv c.nc (by intro y hy; simp at hy) (fun h₁ hns₁ hsb₁ => ?_) c.kind
  have old : ∀ b o, s1.heap.get? b = some o → h₁.get? b = some o := fun b o e => (hsb₁.2 b (Nat.ne_of_lt (Heap.lt_size e))).trans (Heap.get?_push_of_some _ e)
  have hlt1 : ∀ b ∈ fp, b < s1.heap.objs.size := fun b hb => by
    obtain ⟨o, e, _⟩ := T.obj _ _ st1 b hb
    rw [hs1h]
    exact Heap.lt_size e
  have J0 := inv_block (h₁ := h₁) (t' := s1.toks + ([] : List (Str × Value)).length) c I1 hf1 hlt1 (Nat.le_refl _) (by simpa using hns₁) old
  have stB : tn 0 h₁ := T.keep _ _ _ (by rw [hs1h]; exact st1 : tn 0 s1.heap) fun b _ o e => old b o e
  have fpB : ∀ {H' : Hp}, (∀ b ∈ fp, H' b = none) → ∀ b ∈ fp, FpOk (cxB X sc s1.heap.objs.size N s1 (upd H D (.lst [])) fp) [] H' b := fun {H'} hn b hb => by
    obtain ⟨f0, f1, f2, f3, f4, f5⟩ := hf1 b hb
    refine ⟨hn b hb, Nat.ne_of_lt (hlt1 b hb), ?_, .inl hb, fun x d e => f4 x d (clOf_lookup (c.cells I.ok) (fun n c z => by simp at z) e), fun p hp => absurd (show p ∈ ([] : List (Addr × Obj)) from hp) (by simp)⟩
    intro z
    rcases List.mem_cons.mp (I1.stkSub b z) with q | q
    · exact f1 q
    · exact f2 q
  have fin : ∀ {σ' : St} {H' : Hp} {s' : Shared} {ys : List V}, Inv (cxB X sc s1.heap.objs.size N s1 (upd H D (.lst [])) fp) [] σ' H' s' → Q D H' ys → RR (.ref D) s1.heap.objs.size (.ok .next) s' := fun {σ' H' s' ys} J q =>
    hR D _ H' s' ys (inv_unblock I1 hf1 J) (I1.fpOk (Nat.le_refl _) J.free) (let ⟨m, hn, _⟩ := J.loc; ⟨m, hn⟩) q
  have loop : codeAny (model X.prog X.w) X.A (.compLoop (.ListComp elt [⟨tg, iter, ifs, 0⟩] sc pos) 0 (.ref it) (.ref D) (cxB X sc s1.heap.objs.size N s1 (upd H D (.lst [])) fp).env) (RR (.ref D) s1.heap.objs.size) { s1 with heap := h₁, toks := s1.toks + ([] : List (Str × Value)).length } :=
    comp_loop (X := cxB X sc s1.heap.objs.size N s1 (upd H D (.lst [])) fp) hc rfl T (B.tg _ _ _ _) (B.tests _ _ _ _) (B.elt _ _ _ _) turn fpB fin J0 stB (fun b hb => (hf1 b hb).1) w0
  exact codeAny_compStart_list loop (T.self _ 0 _ _ _ stB loop)
theorem pe_comp (hc : X.calm = true) (c : CompOk X sc N ix) (hi : PI X tg iter wi) (B : Blk X sc N tg elt ifs g tt te) (hs : ∀ x, foldedSetIterable iter X.env x = pure x := by intro _; rfl) : PE X (.ListComp elt [⟨tg, iter, ifs, 0⟩] sc pos) (tComp ix wi g tt te) := by
  intro pins s σ H Q I h
  rw [eval_ListComp]
  refine wpAny_comprehension_free (use := none) rfl hs (closureFor_clOf (c.cells I.ok)) c.kind c.nm (thn (hi pins s σ H _ I h) fun xv s₁ h₁ => thn h₁ fun itv s₂ h₂ => ?_)
  obtain ⟨it, fp, tn, J, H2, e, I2, T, st2, f2, q2⟩ := h₂
  subst e
  refine comp_core (RR := fun acc C => compPost (model X.prog X.w) X.A X.xe none (EP X pins σ Q) acc C) (Q := fun D H _ => Q (.ref D) H) hc c B I2 T st2 f2 q2 ?_
  intro D C H' s' ys I' fC ns q
  refine ⟨_, ns.choose_spec, fun h' sb => ⟨.ref D, H', ?_, rfl, q⟩⟩
  obtain ⟨f0, f1, f2, f3, f4, f5⟩ := fC
  exact I'.turned (t' := s'.toks) (fun b o hb e => (sb.2 b hb).trans e) f0 f1 f3 f4 f5
theorem ps_setC {i : Nat} {y : Str} {py spos : Pos} (hc : X.calm = true) (hN : X.N.Nodup) (hy : X.N[i]? = some y) (hl : X.env.scope.names.lookup y = some .local)
    (hsw : swapsWith (.ListComp elt [⟨tg, iter, ifs, 0⟩] sc pos) (some (.Name y py)) spos.line X.env = pure true)
    (c : CompOk X sc N ix) (hi : PI X tg iter wi) (B : Blk X sc N tg elt ifs g tt te) (hs : ∀ x, foldedSetIterable iter X.env x = pure x := by intro _; rfl) :
    PS X (.Assign [.Name y py] (.ListComp elt [⟨tg, iter, ifs, 0⟩] sc pos) spos) (tAsg (tComp ix wi g tt te) (gName i)) := by
  intro pins s σ H D0 I h
  rw [exec_Assign_Name_used _ _ _ _ hsw]
  refine wpAny_bind (wpAny_standAt (wpAny_bind ?_))
  show wpAny _ X.A (do let _ ← comprehension (.ListComp elt [⟨tg, iter, ifs, 0⟩] sc pos) sc X.env _ (newList []) false (eval iter X.env) (some (assign (.Name y py) X.env))) _ _ s
  refine wpAny_bind (wpAny_mono (wpAny_comprehension_free (use := some (assign (.Name y py) X.env)) (Q := fun _ s' => SP X pins D0 .next s') rfl hs (closureFor_clOf (c.cells I.ok)) c.kind c.nm
    (thn (hi pins s σ H _ I h) fun xv s₁ h₁ => thn h₁ fun itv s₂ h₂ => ?_)) (fun _ s' hq => wpAny_pure (wpAny_pure hq)) fun _ _ e => e)
  obtain ⟨it, fp, tn, J, H2, e, I2, T, st2, f2, q2⟩ := h₂
  subst e
  refine comp_core (RR := fun acc C => compPost (model X.prog X.w) X.A X.xe (some (assign (.Name y py) X.env)) (fun _ s' => SP X pins D0 .next s') acc C) (Q := fun D H _ => D0.nx (σ.set i (some (.ref D))) H) hc c B I2 T st2 f2 q2 ?_
  intro D C H' s' ys I' fC ns q
  show wpAny _ X.A (assign (.Name y py) X.env (.ref D)) _ _ _
  obtain ⟨f0, f1, f2, f3, f4, f5⟩ := fC
  refine wpAny_assign_Name (store_ok2 I' hN hy (.inl hl) (v := .ref D) rfl (fun s2 J2 ⟨a, sb, ha⟩ => ?_) (.inr hl))
  obtain ⟨m, hn⟩ := ns
  have neC : C ≠ a := by
    rcases ha with z | z
    · rw [z]; exact f1
    · exact fun e => f4 y a z e.symm
  refine ⟨m, hn.sameBut sb neC, fun h3 sb3 => ⟨_, H', ?_, q⟩⟩
  exact J2.turned (t' := s2.toks) (fun b o hb e => (sb3.2 b hb).trans e) f0 f1 f3 f4 f5
end
end L2
set_option Elab.async false
set_option linter.all false
set_option maxRecDepth 100000
namespace L2
open PySem PySem.Spec PyProof.Rows
section
variable {κ : Type} [DecidableEq κ]
def valV (kvs : List (κ × V)) (k : κ) : Option V := (kvs.find? fun kv => decide (kv.1 = k)).map (·.2)
def putK (kvs : List (κ × V)) (k : κ) (v : V) : List (κ × V) :=
  if (kvs.any fun kv => decide (kv.1 = k)) = true then kvs.map (fun kv => if kv.1 = k then (kv.1, v) else kv) else kvs ++ [(k, v)]
def dropK (kvs : List (κ × V)) (k : κ) : List (κ × V) := kvs.filter fun kv => decide (kv.1 ≠ k)
end
abbrev KT (H : Hp) : List (List Key × V) → List (List Key × Addr × Value) → Prop := Paired fun p q => p.1 = q.1 ∧ H q.2.1 = some (.tup (p.1.map kV)) ∧ RelV p.2 q.2.2
section
variable {P : Program} {w : World} {H : Hp} {h : Heap} {a : Addr}
end
def DGet (H : Hp) (a : Addr) (y : V) (r : Option V) : Prop :=
  (∃ kvs k, Rd H a (.dK kvs) ∧ y = kV k ∧ r = valV kvs k) ∨ ∃ kvs k b, Rd H a (.dT kvs) ∧ y = .ref b ∧ H b = some (.tup (k.map kV)) ∧ r = valV kvs k
def DPut (H : Hp) (a : Addr) (y v : V) (H' : Hp) : Prop :=
  (∃ kvs k, H a = some (.dK kvs) ∧ y = kV k ∧ kvs.length < sizeLine ∧ H' = upd H a (.dK (putK kvs k v))) ∨
  ∃ kvs k b, H a = some (.dT kvs) ∧ y = .ref b ∧ H b = some (.tup (k.map kV)) ∧ kvs.length < sizeLine ∧ H' = upd H a (.dT (putK kvs k v))
theorem DGet.k {H : Hp} {a : Addr} {kvs : List (Key × V)} {k : Key} (e : H a = some (.dK kvs)) : DGet H a (kV k) (valV kvs k) := .inl ⟨kvs, k, .inl e, rfl, rfl⟩
theorem DGet.t {H : Hp} {a b : Addr} {kvs : List (List Key × V)} {k : List Key} (e : H a = some (.dT kvs)) (eb : H b = some (.tup (k.map kV))) : DGet H a (.ref b) (valV kvs k) := .inr ⟨kvs, k, b, .inl e, rfl, eb, rfl⟩
theorem DPut.k {H : Hp} {a : Addr} {kvs : List (Key × V)} {k : Key} {v : V} (e : H a = some (.dK kvs)) (hl : kvs.length < sizeLine) : DPut H a (kV k) v (upd H a (.dK (putK kvs k v))) := .inl ⟨kvs, k, e, rfl, hl, rfl⟩
theorem DPut.t {H : Hp} {a b : Addr} {kvs : List (List Key × V)} {k : List Key} {v : V} (e : H a = some (.dT kvs)) (eb : H b = some (.tup (k.map kV))) (hl : kvs.length < sizeLine) :
    DPut H a (.ref b) v (upd H a (.dT (putK kvs k v))) := .inr ⟨kvs, k, b, e, rfl, eb, hl, rfl⟩
section
variable {X : Cx} {pins : List (Addr × Obj)} {σ : St} {H : Hp} {s : Shared} {a : Addr} {y v : V} {u r : Value} {o : Option V} {A : Around} {E : Value → Shared → Prop}
end
section
variable {X : Cx} {pins : List (Addr × Obj)} {σ : St} {H : Hp} {s : Shared} {a : Addr} {kvs : List (Key × V)} {k : Key} {u : Value} {A : Around} {E : Value → Shared → Prop}
end
inductive rDGet (x y : V) (H : Hp) (Q : VK) : Prop
  | mk (a : Addr) (v : V) (h0 : x = .ref a) (h1 : DGet H a y (some v)) (h2 : Q v H) : rDGet x y H Q
section
variable {X : Cx} {o i e value : Expr} {pos pos' tpos : Pos} {td ty tv : TE}
end
section
variable {X : Cx} {pos : Pos}
end
structure M1 (X : Cx) (o : Expr) (m : Str) (apos : Pos) (e : Expr) (cpos : Pos) : Prop where
  base : attributeBase o m X.env (eval o X.env) = eval o X.env
  few : ((backTo cpos (starEach [e] X.env)).all (fun x => !x.1) && (backToKw cpos (keywordEach [] X.env)).all (fun x => x.1.isSome)
    && decide (([e] : List Expr).length + ([] : List Keyword).length + (if ([] : List Keyword).isEmpty then 0 else 1) < 30)) = true
  line : (apos.endLine == cpos.line) = true
  trees : backTo cpos (starEach [e] X.env) = [(false, eval e X.env)]
structure M2 (X : Cx) (o : Expr) (m : Str) (apos : Pos) (e f : Expr) (cpos : Pos) : Prop where
  base : attributeBase o m X.env (eval o X.env) = eval o X.env
  few : ((backTo cpos (starEach [e, f] X.env)).all (fun x => !x.1) && (backToKw cpos (keywordEach [] X.env)).all (fun x => x.1.isSome)
    && decide (([e, f] : List Expr).length + ([] : List Keyword).length + (if ([] : List Keyword).isEmpty then 0 else 1) < 30)) = true
  line : (apos.endLine == cpos.line) = true
  trees : backTo cpos (starEach [e, f] X.env) = [(false, eval e X.env), (false, eval f X.env)]
section
variable {X : Cx} {pins : List (Addr × Obj)} {σ : St} {H : Hp} {s : Shared} {a : Addr} {y d : V} {u r : Value} {o : Option V} {A : Around} {E : Value → Shared → Prop}
end
section
variable {X : Cx} {o e f : Expr} {apos cpos : Pos} {td ty tx : TE}
end
section
variable {X : Cx} {pins : List (Addr × Obj)} {σ : St} {H : Hp} {s : Shared} {a : Addr} {kvs : List (Key × V)} {A : Around} {E : Value → Shared → Prop}
end
section
variable {X : Cx} {pins : List (Addr × Obj)} {σ : St} {H : Hp} {s : Shared} {a : Addr} {y : V} {u : Value} {A : Around} {E : Value → Shared → Prop}
end
end L2
set_option Elab.async false
set_option linter.all false
set_option maxRecDepth 100000
set_option maxHeartbeats 4000000
namespace L2
open PySem PySem.Spec PyProof.Rows
theorem OpR.imp {X : Cx} {f : Value → Value → Sem Value} {r r' : R2} (h : OpR X f r) (i : ∀ x y H Q, r' x y H Q → r x y H Q) : OpR X f r' :=
  fun pins s σ H x y v u Q I rx ry q => h pins s σ H x y v u Q I rx ry (i x y H Q q)
theorem CallR.imp {X : Cx} {f : Value} {r r' : List V → Hp → VK → Prop} (h : CallR X f r) (i : ∀ xs H Q, r' xs H Q → r xs H Q) : CallR X f r' :=
  fun pins s σ H xs us Q I rs q => h pins s σ H xs us Q I rs (i xs H Q q)
def tV (i : Nat) : TE := fun σ H Q => match σ[i]? with
  | some (some v) => Q v H
  | _ => False
theorem vr {X : Cx} (i : Nat) {x : Str} {pos : Pos} (hN : X.N[i]? = some x := by rfl) (hv : Vis X.env.scope x := by first | exact Or.inl rfl | exact Or.inr (Or.inl rfl) | exact Or.inr (Or.inr rfl)) (hd : (x == ("__debug__" : Str)) = false := by decide)
    (hcd : (x == ("__classdict__" : Str)) = false := by decide) : PE X (.Name x pos) (tV i) := fun pins s σ H Q I h => by
  refine pe_var hN hv hd hcd pins s σ H Q I ?_
  unfold tV at h
  split at h
  · rename_i v e
    exact ⟨v, e, h⟩
  · exact h.elim
def rI2 (g : Int → Int → V) : R2 := fun x y H Q => match x, y with
  | .int i, .int j => Q (g i j) H
  | _, _ => False
def rIC (C : Int → Int → Prop) (g : Int → Int → V) : R2 := fun x y H Q => match x, y with
  | .int i, .int j => C i j ∧ Q (g i j) H
  | _, _ => False
theorem OpR.i2 {X : Cx} {f : Value → Value → Sem Value} {g : Int → Int → V} (h : OpR X f (rI0 g)) : OpR X f (rI2 g) := h.imp fun x y H Q q => by
  cases x <;> cases y <;> first | exact ⟨_, _, rfl, rfl, q⟩ | exact (show False from q).elim
theorem OpR.ic {X : Cx} {f : Value → Value → Sem Value} {C : Int → Int → Prop} {g : Int → Int → V} (h : OpR X f (rI C g)) : OpR X f (rIC C g) := h.imp fun x y H Q q => by
  cases x <;> cases y <;> first | exact ⟨_, _, rfl, rfl, q.1, q.2⟩ | exact (show False from q).elim
section
variable {X : Cx}
def rAddM : R2 := fun x y H Q => match x, y with
  | .int i, .int j => Q (.int (i + j)) H
  | .str i, .str j => i.length + j.length ≤ sizeLine ∧ Q (.str (i ++ j)) H
  | _, _ => False
theorem o_add : OpR X (binaryOp .Add) rAddM := (op_add.or op_add_str).imp fun x y H Q q => by
  cases x <;> cases y <;> first | exact .inl ⟨_, _, rfl, rfl, q⟩ | exact .inr ⟨_, _, rfl, rfl, q.1, q.2⟩ | exact (show False from q).elim
theorem o_sub : OpR X (binaryOp .Sub) (rI2 fun i j => .int (i - j)) := op_sub.i2
def CPos (i j : Int) : Prop := 0 < j
def CNn (i j : Int) : Prop := 0 ≤ j
theorem cp {i j : Int} (h : 0 < j := by decide) : CPos i j := h
theorem cw {i j : Int} (h : 0 ≤ j := by decide) (h2 : j ≤ 1000000 := by decide) (h3 : i.natAbs < 2 ^ 64 := by decide) : CPow i j := ⟨h, h2, h3⟩
theorem cl {i j : Int} (h : -(2 ^ 64) < i := by decide) (h2 : i < 2 ^ 64 := by decide) : CMul i j := .inl ⟨h, h2⟩
theorem cr {i j : Int} (h : -(2 ^ 64) < j := by decide) (h2 : j < 2 ^ 64 := by decide) : CMul i j := .inr ⟨h, h2⟩
theorem o_mod : OpR X (binaryOp .Mod) (rIC CPos fun i j => .int (i % j)) := op_mod.ic
theorem o_pow : OpR X (binaryOp .Pow) (rIC CPow fun i j => .int (i ^ j.toNat)) := op_pow.ic
theorem op_le_str : OpR X (compareOp .LtE) (fun x y H Q => ∃ i j, x = .str i ∧ y = .str j ∧ Q (.bl (!decide (j.cps.toList < i.cps.toList))) H) := by
  intro pins s σ H x y v u Q I rx ry h
  obtain ⟨i, j, rfl, rfl, q⟩ := h
  obtain ⟨t, rfl⟩ := rx
  obtain ⟨t', rfl⟩ := ry
  exact PySem.P.le_str (fin_bl I q rfl)
def rCmpM (f : Int → Int → Bool) (g : Str → Str → Bool) : R2 := fun x y H Q => match x, y with
  | .int i, .int j => Q (.bl (f i j)) H
  | .str i, .str j => Q (.bl (g i j)) H
  | _, _ => False
theorem o_lt : OpR X (compareOp .Lt) (rCmpM (fun i j => decide (i < j)) fun i j => decide (i.cps.toList < j.cps.toList)) := (op_lt.or op_lt_str).imp fun x y H Q q => by
  cases x <;> cases y <;> first | exact .inl ⟨_, _, rfl, rfl, q⟩ | exact .inr ⟨_, _, rfl, rfl, q⟩ | exact (show False from q).elim
theorem o_le : OpR X (compareOp .LtE) (rCmpM (fun i j => decide (i ≤ j)) fun i j => !decide (j.cps.toList < i.cps.toList)) := (op_le.or op_le_str).imp fun x y H Q q => by
  cases x <;> cases y <;> first | exact .inl ⟨_, _, rfl, rfl, q⟩ | exact .inr ⟨_, _, rfl, rfl, q⟩ | exact (show False from q).elim
theorem o_gt : OpR X (compareOp .Gt) (rI2 fun i j => .bl (decide (j < i))) := op_gt.i2
theorem o_ge : OpR X (compareOp .GtE) (rI2 fun i j => .bl (decide (j ≤ i))) := op_ge.i2
def rEqM (neg : Bool) : R2 := fun x y H Q => match x, y with
  | .int i, .int j => Q (.bl (if neg then !decide (i = j) else decide (i = j))) H
  | .str i, .str j => Q (.bl (if neg then !decide (i = j) else decide (i = j))) H
  | .bl i, .bl j => Q (.bl (if neg then !decide (i = j) else decide (i = j))) H
  | .non, .non => Q (.bl (!neg)) H
  | .non, .int _ => Q (.bl neg) H
  | .non, .str _ => Q (.bl neg) H
  | .non, .bl _ => Q (.bl neg) H
  | .int _, .non => Q (.bl neg) H
  | .str _, .non => Q (.bl neg) H
  | .bl _, .non => Q (.bl neg) H
  | .int _, .str _ => Q (.bl neg) H
  | .str _, .int _ => Q (.bl neg) H
  | _, _ => False
theorem o_eq : OpR X (compareOp .Eq) (rEqM false) := op_eq.imp fun x y H Q q => by
  cases x <;> cases y <;> first | exact (show False from q).elim | (refine ⟨rfl, ?_⟩; revert q; simp [rEqM])
theorem o_ne : OpR X (compareOp .NotEq) (rEqM true) := op_ne.imp fun x y H Q q => by
  cases x <;> cases y <;> first | exact (show False from q).elim | (refine ⟨rfl, ?_⟩; revert q; simp [rEqM])
def rU1 (g : Int → V) : V → Hp → VK → Prop := fun x H Q => match x with
  | .int i => Q (g i) H
  | _ => False
theorem u_neg : UnR X (unaryOp .USub) (rU1 fun i => .int (-i)) := fun pins s σ H x v Q I r q => un_neg pins s σ H x v Q I r (by
  cases x <;> first | exact ⟨_, rfl, q⟩ | exact (show False from q).elim)
theorem o_isnot : OpR X (compareOp .IsNot) (fun x y H Q => match y with | .non => Q (.bl (!decide (x = .non))) H | _ => False) := op_notN.imp fun x y H Q q => by
  cases y <;> first | exact ⟨rfl, q⟩ | exact (show False from q).elim
def mB (Q : Bool → Hp → Prop) : VK := fun x H => match x with
  | .bl c => Q c H
  | _ => False
variable {a b c : Expr} {ta tb tc : TE} {pos : Pos} {rest : List Expr}
def mAnd (ta tb : TE) : TE := fun σ H Q => ta σ H (mB fun c H1 => if c = true then tb σ H1 Q else Q (.bl false) H1)
def mNot (ta : TE) : TE := fun σ H Q => ta σ H (mB fun c H1 => Q (.bl (!c)) H1)
theorem mB_iff {Q : Bool → Hp → Prop} {x : V} {H : Hp} (h : mB Q x H) : ∃ c, x = .bl c ∧ Q c H := by
  cases x <;> first | exact ⟨_, rfl, h⟩ | exact (show False from h).elim
theorem m_and (ha : PE X a ta) (hb : PE X (.BoolOp .And (b :: rest) pos) tb) : PE X (.BoolOp .And (a :: b :: rest) pos) (mAnd ta tb) := by
  intro pins s σ H Q I h
  refine BoolOp_and (thn (ha pins s σ H _ I h) fun v s1 ⟨x, H1, I1, r1, q1⟩ => ?_)
  obtain ⟨c, rfl, q1⟩ := mB_iff q1
  cases r1
  refine wpAny_truthy_bool ?_
  cases c with
  | true => exact hb pins s1 σ H1 Q I1 q1
  | false => exact ⟨.bl false, H1, I1, rfl, q1⟩
theorem m_not (ha : PE X a ta) : PE X (.UnaryOp .Not a pos) (mNot ta) := by
  intro pins s σ H Q I h
  refine UnaryOp_ (thn (ha pins s σ H _ I h) fun v s1 ⟨x, H1, I1, r1, q1⟩ => ?_)
  obtain ⟨c, rfl, q1⟩ := mB_iff q1
  cases r1
  exact not_of (wpAny_truthy_bool ⟨.bl (!c), H1, I1, rfl, q1⟩)
def mT (t : TE) : TT := fun σ H Q => t σ H (mB Q)
theorem t_val (h : PE X a ta) (he : ∀ whole, isTrue a X.env whole = (do let v ← whole; standAt a.pos; holding [v] (truthy v)) := by intro _; rfl) : PT X a (mT ta) := by
  intro pins s σ H Q I hw
  refine isTrue_plain (thn (h pins s σ H _ I hw) fun v s1 ⟨x, H1, I1, r1, q1⟩ => ?_) (he _)
  obtain ⟨d, rfl, q⟩ := mB_iff q1
  cases r1
  exact wpAny_truthy_bool ⟨H1, I1, q⟩
theorem t_cmp {op : CmpOp} {r : R2} (ho : OpR X (compareOp op) r) (ha : PE X a ta) (hb : PE X b tb) (hm : behindInMarks op b = false) : PT X (.Compare a [op] [b] pos) (mT (tOp r ta tb)) := by
  intro pins s σ H Q I h
  refine wpAny_isTrue_Compare1 (thn (ha pins s σ H _ I h) fun v s1 ⟨x, H1, I1, r1, q1⟩ => thn (hb pins s1 σ H1 _ I1 q1) fun u s2 ⟨y, H2, I2, r2, q2⟩ =>
    thn (ho pins s2 σ H2 x y v u _ I2 r1 r2 q2) fun c s3 ⟨z, H3, I3, r3, q3⟩ => ?_) hm
  obtain ⟨k, rfl, q3⟩ := mB_iff q3
  cases r3
  exact wpAny_truthy_bool ⟨H3, I3, q3⟩
def mChain (r r' : R2) (ta tb tc : TE) : TE := fun σ H Q => ta σ H fun x H1 => tb σ H1 fun y H2 => r x y H2 (mB fun k H3 => if k = true then tc σ H3 fun w' H4 => r' y w' H4 Q else Q (.bl false) H3)
theorem m_chain {op op' : CmpOp} {r r' : R2} (ho : OpR X (compareOp op) r) (ho' : OpR X (compareOp op') r') (ha : PE X a ta) (hb : PE X b tb) (hc : PE X c tc)
    (hm : lastMarks [op, op'] [b, c] = false := by with_unfolding_all rfl) : PE X (.Compare a [op, op'] [b, c] pos) (mChain r r' ta tb tc) := by
  intro pins s σ H Q I h
  refine Compare_chain (thn (ha pins s σ H _ I h) fun v s1 ⟨x, H1, I1, r1, q1⟩ => chain_link (thn (hb pins s1 σ H1 _ I1 q1) fun u s2 ⟨y, H2, I2, r2, q2⟩ =>
    thn (ho pins s2 σ H2 x y v u _ I2 r1 r2 q2) fun d s3 ⟨z, H3, I3, r3, q3⟩ => ?_)) hm
  obtain ⟨k, rfl, q3⟩ := mB_iff q3
  cases r3
  refine wpAny_truthy_bool ?_
  cases k with
  | false => exact ite_ff ⟨.bl false, H3, I3, rfl, q3⟩
  | true => exact ite_tt (chain_last (thn (hc pins s3 σ H3 _ I3 q3) fun w' s4 ⟨z', H4, I4, r4, q4⟩ => ho' pins s4 σ H4 y z' u w' Q I4 r2 r4 q4))
theorem t_chain {op op' : CmpOp} {r r' : R2} (ho : OpR X (compareOp op) r) (ho' : OpR X (compareOp op') r') (ha : PE X a ta) (hb : PE X b tb) (hc : PE X c tc)
    (hm : lastMarks [op, op'] [b, c] = false := by with_unfolding_all rfl) : PT X (.Compare a [op, op'] [b, c] pos) (mT (mChain r r' ta tb tc)) := by
  intro pins s σ H Q I h
  refine isTrue_chain (thn (ha pins s σ H _ I h) fun v s1 ⟨x, H1, I1, r1, q1⟩ => test_link (thn (hb pins s1 σ H1 _ I1 q1) fun u s2 ⟨y, H2, I2, r2, q2⟩ =>
    thn (ho pins s2 σ H2 x y v u _ I2 r1 r2 q2) fun d s3 ⟨z, H3, I3, r3, q3⟩ => ?_)) hm
  obtain ⟨k, rfl, q3⟩ := mB_iff q3
  cases r3
  refine wpAny_truthy_bool ?_
  cases k with
  | false => exact ite_ff ⟨H3, I3, q3⟩
  | true =>
    refine ite_tt (test_last (thn (hc pins s3 σ H3 _ I3 q3) fun w' s4 ⟨z', H4, I4, r4, q4⟩ => thn (ho' pins s4 σ H4 y z' u w' _ I4 r2 r4 q4) fun d' s5 ⟨z2, H5, I5, r5, q5⟩ => ?_))
    obtain ⟨k2, rfl, q5⟩ := mB_iff q5
    cases r5
    exact wpAny_truthy_bool ⟨H5, I5, q5⟩
open PySem.W in
theorem kit_of {pins : List (Addr × Obj)} {σ : St} {H : Hp} {s : Shared} {x : V} {u t : Value} (I : Inv X pins σ H s) (rx : RelV x u) (ty : TyOf X.K H x t) :
    ∃ Hh : Heap → Prop, KitX X.K u t Hh ∧ Hh s.heap ∧ u ≠ .builtin "__main__.__loader__#opaque" := by
  cases ty with
  | non => cases (show u = Value.none from rx); exact ⟨_, PySem.W.kitx_none, True.intro, fun z => nomatch z⟩
  | bl y => cases (show u = Value.bool y from rx); exact ⟨_, PySem.W.kitx_bool, True.intro, fun z => nomatch z⟩
  | int i => obtain ⟨t, q⟩ := (show ∃ t, u = Value.int i t from rx); cases q; exact ⟨_, PySem.W.kitx_int, True.intro, fun z => nomatch z⟩
  | str y => obtain ⟨t, q⟩ := (show ∃ t, u = Value.str y t from rx); cases q; exact ⟨_, PySem.W.kitx_str, True.intro, fun z => nomatch z⟩
  | flt y => obtain ⟨t, q⟩ := (show ∃ t, u = Value.float y t from rx); cases q; exact ⟨_, PySem.W.kitx_float, True.intro, fun z => nomatch z⟩
  | @lst a xs ea =>
    cases (show u = Value.ref a from rx)
    obtain ⟨_, _, n, _, h1⟩ := (show ObjOk X.prog X.w H s.heap a (.lst xs) from I.hok a _ ea)
    exact ⟨_, PySem.W.kitx_list, ⟨_, h1, rfl⟩, fun z => nomatch z⟩
  | @frz a ob xs ea =>
    cases (show u = Value.ref a from rx)
    obtain ⟨_, _, _, n, _, h1⟩ := (show ObjOk X.prog X.w H s.heap a (.frz ob (.lst xs)) from I.hok a _ ea)
    exact ⟨_, PySem.W.kitx_list, ⟨_, h1, rfl⟩, fun z => nomatch z⟩
  | @tup a xs ea =>
    cases (show u = Value.ref a from rx)
    obtain ⟨_, _, _, p⟩ := (show ObjOk X.prog X.w H s.heap a (.tup xs) from I.hok a _ ea)
    obtain ⟨o, h1, h2, _⟩ := p
    exact ⟨_, PySem.W.kitx_tuple, ⟨o, h1, h2⟩, fun z => nomatch z⟩
  | @dK a kvs ea =>
    cases (show u = Value.ref a from rx)
    obtain ⟨_, _, vs, _, p⟩ := (show ObjOk X.prog X.w H s.heap a (.dK kvs) from I.hok a _ ea)
    obtain ⟨o, es, ep, h1, h2, _⟩ := p
    exact ⟨_, PySem.W.kitx_dict, ⟨o, h1, h2.1⟩, fun z => nomatch z⟩
  | @dT a kvs ea =>
    cases (show u = Value.ref a from rx)
    obtain ⟨_, _, xs, _, o, es, ep, h1, h2, _⟩ := (show ObjOk X.prog X.w H s.heap a (.dT kvs) from I.hok a _ ea)
    exact ⟨_, PySem.W.kitx_dict, ⟨o, h1, h2.1⟩, fun z => nomatch z⟩
  | @ins a C dx fs ea cl ha hn htk hm =>
    cases (show u = Value.ref a from rx)
    obtain ⟨mA, O, _⟩ := ins_get I.hok ea
    obtain ⟨od, J, _⟩ := O.look
    exact ⟨_, PySem.W.kitx_own (cl.get _) cl.hd ha hn htk hm, J, fun z => nomatch z⟩
def cVal : V → Value
  | .ty n => .type n
  | .ref a => .ref a
  | _ => .none
def isCls : V → Bool
  | .ty _ => true
  | .ref _ => true
  | _ => false
theorem cVal_of {c : V} {u : Value} (h : isCls c = true) (r : RelV c u) : u = cVal c := by
  cases c <;> first | exact r | exact absurd (show false = true from h) Bool.false_ne_true
inductive rIsi (K : PySem.W.Frag) (xs : List V) (H : Hp) (Q : VK) : Prop
  | mk (x c : V) (t : _) (b : Bool) (h0 : xs = [x, c]) (h1 : isCls c = true) (h2 : TyOf K H x t) (h3 : PySem.W.kitOne K t (cVal c) = some b) (h4 : Q (.bl b) H) : rIsi K xs H Q
theorem call_isi : CallR X (.builtin "isinstance") (rIsi X.K) := by
  intro pins s σ H xs us Q I r h
  obtain ⟨x, c, t, b, rfl, hc, ty, e, q⟩ := h
  obtain ⟨u, w', rfl, rx, rc⟩ := vals2 r
  cases cVal_of hc rc
  obtain ⟨Hh, Z, p, hx⟩ := kit_of I rx ty
  exact PySem.W.kia_one Z I.kIn p e hx fun tk => ⟨.bl b, H, I.tok tk, rfl, q⟩
end
end L2
set_option Elab.async false
set_option linter.all false
set_option maxRecDepth 100000
set_option maxHeartbeats 4000000
namespace L2
open PySem PySem.Spec PyProof.Rows
theorem and_if {Q : V → Prop} {p r : Prop} [Decidable p] [Decidable r] (q : Q (.bl (decide (p ∧ r)))) : if decide p = true then Q (.bl (decide r)) else Q (.bl false) := by
  by_cases h : p
  · rw [if_pos (decide_eq_true h)]
    have e : decide (p ∧ r) = decide r := by by_cases z : r <;> simp [h, z]
    rw [← e]; exact q
  · rw [if_neg (fun z => h (of_decide_eq_true z))]
    have e : decide (p ∧ r) = false := decide_eq_false fun z => h z.1
    rw [← e]; exact q
theorem ifP {c : Prop} [Decidable c] {A B : Prop} (hc : c) (h : A) : if decide c = true then A else B := by rw [if_pos (decide_eq_true hc)]; exact h
theorem ifN {c : Prop} [Decidable c] {A B : Prop} (hc : ¬ c) (h : B) : if decide c = true then A else B := by rw [if_neg (fun z => hc (of_decide_eq_true z))]; exact h
theorem ifC {c : Prop} [Decidable c] {A B : Prop} (h1 : c → A) (h2 : ¬ c → B) : if decide c = true then A else B := by
  by_cases h : c
  · exact ifP h (h1 h)
  · exact ifN h (h2 h)
theorem ifB {b : Bool} {A B : Prop} (h1 : b = true → A) (h2 : b = false → B) : if b = true then A else B := by
  cases b with
  | true => rw [if_pos rfl]; exact h1 rfl
  | false => rw [if_neg Bool.false_ne_true]; exact h2 rfl
theorem bt_len : bootBuiltins "len" = some (.builtin "len") := by decide +kernel
theorem bt_isinstance : bootBuiltins "isinstance" = some (.builtin "isinstance") := by decide +kernel
theorem bt_enumerate : bootBuiltins "enumerate" = some (.type "enumerate") := by decide +kernel
theorem bt_zip : bootBuiltins "zip" = some (.type "zip") := by decide +kernel
theorem bt_range : bootBuiltins "range" = some (.type "range") := by decide +kernel
theorem bt_str : bootBuiltins "str" = some (.type "str") := by decide +kernel
theorem bt_int : bootBuiltins "int" = some (.type "int") := by decide +kernel
theorem bt_bool : bootBuiltins "bool" = some (.type "bool") := by decide +kernel
theorem bt_list : bootBuiltins "list" = some (.type "list") := by decide +kernel
theorem bt_tuple : bootBuiltins "tuple" = some (.type "tuple") := by decide +kernel
theorem pe_gl {X : Cx} {x : Str} {v : V} {pos : Pos} (hg : Gl X x) (h : ∃ u, X.mg x = some u ∧ RelV v u) (hd : (x == ("__debug__" : Str)) = false := by decide) : PE X (.Name x pos) (tC v) :=
  let ⟨_, e, r⟩ := h
  pe_glob hg e r hd
def iAny (K : PySem.W.Frag) (tl : TE) : TI := fun σ H R => tl σ H fun x H1 => match x with
  | .str z => R (Its z) H1
  | .ref a => ((∃ xs, SqL K H1 a xs) ∧ R (Itl K a) H1) ∨ ((∃ xs, SqT K H1 a xs) ∧ R (Itt K a) H1)
  | _ => False
theorem pi_any {X : Cx} {tg l : Expr} {tl : TE} (hl : PE X l tl) : PI X tg l (iAny X.K tl) := by
  intro pins s σ H R I h
  have hl1 : PE X l tl := hl
  refine thn (hl pins s σ H _ I h) fun v s1 ⟨x, H1, I1, r1, q1⟩ => ?_
  cases x with
  | str z =>
    have := pi_str (X := X) (tg := tg) (l := l) (tl := tC (.str z)) 
    obtain ⟨t, rfl⟩ := r1
    refine wpAny_pyIter_strU ?_
    refine ⟨s1.heap.objs.size, [s1.heap.objs.size], _, _, H1, rfl, I1.kept (t' := s1.toks) fun b o e => Heap.get?_push_of_some _ e, turn_str (ty := strIterType z) (t := t) z _ ?_, ⟨_, Heap.get?_push_size _ rfl, rfl, rfl⟩, fun b hb => ?_, q1⟩
    · unfold strIterType
      split
      · exact .inl rfl
      · exact .inr rfl
    · have e : b = s1.heap.objs.size := by simpa using hb
      subst e
      exact I1.fpOk (Nat.le_refl _) (I1.hok.fresh (Nat.le_refl _))
  | ref a =>
    cases r1
    rcases q1 with ⟨⟨xs, hq⟩, q⟩ | ⟨⟨xs, hq⟩, q⟩
    · obtain ⟨its, rv, p, hz⟩ := I1.list hq
      refine wpAny_pyIter_list p.isList ?_
      refine ⟨s1.heap.objs.size, [s1.heap.objs.size], _, _, H1, rfl, I1.kept (t' := s1.toks) fun b o e => Heap.get?_push_of_some _ e, turn_list a _, ⟨_, Heap.get?_push_size _ rfl, rfl, rfl⟩, fun b hb => ?_, q⟩
      have e : b = s1.heap.objs.size := by simpa using hb
      subst e
      exact I1.fpOk (Nat.le_refl _) (I1.hok.fresh (Nat.le_refl _))
    · obtain ⟨its, rv, p, hz⟩ := I1.tuple hq
      refine wpAny_pyIter_tuple (show s1.heap.IsTuple a its.toArray from p) ?_
      refine ⟨s1.heap.objs.size, [s1.heap.objs.size], _, _, H1, rfl, I1.kept (t' := s1.toks) fun b o e => Heap.get?_push_of_some _ e, turn_tuple a _, ⟨_, Heap.get?_push_size _ rfl, rfl, rfl⟩, fun b hb => ?_, q⟩
      have e : b = s1.heap.objs.size := by simpa using hb
      subst e
      exact I1.fpOk (Nat.le_refl _) (I1.hok.fresh (Nat.le_refl _))
  | _ => exact (show False from q1).elim
inductive rLenSq (K : PySem.W.Frag) (p : Addr) (H : Hp) (Q : VK) : Prop
  | mk (ys : List V) (h0 : SqL K H p ys ∨ SqT K H p ys) (h1 : Q (.int ys.length) H) : rLenSq K p H Q
theorem call_lenM {X : Cx} : CallR X (.builtin "len") (fun xs H Q => match xs with
    | [.str z] => z.length ≤ sizeLine ∧ Q (.int z.length) H
    | [.ref p] => rLenSq X.K p H Q
    | _ => False) := (call_len_str.or call_len_seq).imp fun xs H Q q => by
  match xs, q with
  | [.str z], q => exact .inl ⟨z, rfl, q.1, q.2⟩
  | [.ref p], q => obtain ⟨ys, h, q⟩ := q; exact .inr ⟨p, ys, rfl, h, q⟩
section
variable {D : Addr} {σb : St} {g : TG} {tt : TT} {te : TE} {Q : Hp → List V → Prop} {H : Hp} {K : PySem.W.Frag}
def CompT (D : Addr) (σb : St) (g : TG) (tt : TT) (te : TE) (x : V) (ys : List V) (H : Hp) (P : List V → Hp → Prop) : Prop :=
  g x σb H fun σ4 H4 => Wk σb σ4 ∧ tt σ4 H4 fun b H5 => if b = true then te σ4 H5 fun y H6 => H6 D = some (.lst ys) ∧ ys.length < sizeLine ∧ P (ys ++ [y]) (upd H6 D (.lst (ys ++ [y]))) else P ys H5
theorem comp_list {a : Addr} {xs : List V} (Pv : Nat → List V → Hp → Prop) (h0 : Pv 0 [] H) (hq : ∀ i ys H, Pv i ys H → SqL K H a xs) (hl : ∀ i ys H, Pv i ys H → H D = some (.lst ys))
    (hs : ∀ (i : Nat) x ys H P, xs[i]? = some x → Pv i ys H → (∀ a b, Pv (i + 1) a b → P a b) → CompT D σb g tt te x ys H P) (hd : ∀ ys H, Pv xs.length ys H → Q H ys) : ∃ W, (∃ m, W 0 m [] H) ∧ CompW (Itl K a) D σb g tt te Q W := by
  refine ⟨fun i m ys H => m = xs.length - i ∧ i ≤ xs.length ∧ Pv i ys H, ⟨_, rfl, Nat.zero_le _, h0⟩, ?_⟩
  rintro i m ys H ⟨rfl, hi, p⟩
  refine ⟨hl i ys H p, ?_⟩
  have q := hq i ys H p
  by_cases hlt : i < xs.length
  · refine .inr ⟨⟨xs, xs[i], q, by simp [hlt]⟩, fun x H3 y => ?_⟩
    obtain ⟨rfl, y⟩ := y
    exact hs i x ys _ (fun a b => ∃ m', m' < xs.length - i ∧ m' = xs.length - (i + 1) ∧ i + 1 ≤ xs.length ∧ Pv (i + 1) a b) (y xs q) p (fun a b q => ⟨xs.length - (i + 1), by omega, rfl, hlt, q⟩)
  · have e : i = xs.length := by omega
    subst e
    exact .inl ⟨⟨xs, q, Nat.le_refl _⟩, hd ys H p⟩
theorem comp_rng {lo : Int} {n : Nat} (Pv : Nat → List V → Hp → Prop) (h0 : Pv 0 [] H) (hl : ∀ i ys H, Pv i ys H → H D = some (.lst ys))
    (hs : ∀ (i : Nat) ys H P, i < n → Pv i ys H → (∀ a b, Pv (i + 1) a b → P a b) → CompT D σb g tt te (.int (lo + i)) ys H P) (hd : ∀ ys H, Pv n ys H → Q H ys) : ∃ W, (∃ m, W 0 m [] H) ∧ CompW (Itr lo n) D σb g tt te Q W := by
  refine ⟨fun i m ys H => m = n - i ∧ i ≤ n ∧ Pv i ys H, ⟨_, rfl, Nat.zero_le _, h0⟩, ?_⟩
  rintro i m ys H ⟨rfl, hi, p⟩
  refine ⟨hl i ys H p, ?_⟩
  by_cases hlt : i < n
  · refine .inr ⟨hlt, fun x H3 y => ?_⟩
    obtain ⟨rfl, rfl⟩ := y
    exact hs i ys _ (fun a b => ∃ m', m' < n - i ∧ m' = n - (i + 1) ∧ i + 1 ≤ n ∧ Pv (i + 1) a b) hlt p (fun a b q => ⟨n - (i + 1), by omega, rfl, hlt, q⟩)
  · have e : i = n := by omega
    subst e
    exact .inl ⟨Nat.le_refl _, hd ys H p⟩
end
theorem Same.new {H : Hp} {p : Addr} {o : HO} (h : H p = none) : Same H (upd H p o) := fun b u e => by rw [upd_ne (ne_of_none e h)]; exact e
mutual
def DV (K : PySem.W.Frag) (H : Hp) : PyData → V → Prop
  | .none, x => x = .non
  | .bool b, x => x = .bl b
  | .int i, x => x = .int i
  | .str z, x => x = .str z
  | .list ds, x => ∃ a xs, x = .ref a ∧ SqL K H a xs ∧ DVs K H ds xs
  | .tuple ds, x => ∃ a xs, x = .ref a ∧ SqT K H a xs ∧ DVs K H ds xs
  | .dict _, _ => False
def DVs (K : PySem.W.Frag) (H : Hp) : List PyData → List V → Prop
  | [], xs => xs = []
  | d :: ds, xs => ∃ y ys, xs = y :: ys ∧ DV K H d y ∧ DVs K H ds ys
end
section
variable {X : Cx} {pins : List (Addr × Obj)} {σ : St} {H : Hp} {s : Shared}
mutual
theorem DV.reads (I : Inv X pins σ H s) : ∀ {d : PyData} {x : V} {u : Value}, DV X.K H d x → RelV x u → ∃ as, Reads s.heap u d as
  | .none, x, u, h, r => by
    rw [DV] at h; subst h; cases r; exact ⟨_, .none⟩
  | .bool b, x, u, h, r => by
    rw [DV] at h; subst h; cases r; exact ⟨_, .bool b⟩
  | .int i, x, u, h, r => by
    rw [DV] at h; subst h; obtain ⟨t, rfl⟩ := r; exact ⟨_, .int i t⟩
  | .str z, x, u, h, r => by
    rw [DV] at h; subst h; obtain ⟨t, rfl⟩ := r; exact ⟨_, .str z t⟩
  | .list ds, x, u, h, r => by
    rw [DV] at h
    obtain ⟨a, xs, rfl, h2, h3⟩ := h
    cases r
    obtain ⟨its, rv, ⟨o, n, e, c, _, d⟩, _⟩ := I.list h2
    obtain ⟨as, q⟩ := DVs.reads I h3 rv
    exact ⟨_, .list e c d (by simpa using q)⟩
  | .tuple ds, x, u, h, r => by
    rw [DV] at h
    obtain ⟨a, xs, rfl, h2, h3⟩ := h
    cases r
    obtain ⟨its, rv, ⟨o, e, c, n, d⟩, _⟩ := I.tuple h2
    obtain ⟨as, q⟩ := DVs.reads I h3 rv
    exact ⟨_, .tuple e c d (by simpa using q)⟩
  | .dict _, x, u, h, r => by rw [DV] at h; exact h.elim
theorem DVs.reads (I : Inv X pins σ H s) : ∀ {ds : List PyData} {xs : List V} {us : List Value}, DVs X.K H ds xs → Vals xs us → ∃ as, ReadsAll s.heap us ds as
  | [], xs, us, h, r => by
    rw [DVs] at h; subst h; cases r; exact ⟨_, .nil⟩
  | d :: ds, xs, us, h, r => by
    rw [DVs] at h
    obtain ⟨y, ys, rfl, h2, h3⟩ := h
    cases r with
    | cons r rs =>
      obtain ⟨as, q⟩ := DV.reads I h2 r
      obtain ⟨bs, p⟩ := DVs.reads I h3 rs
      exact ⟨_, .cons q p⟩
end
end
inductive rEqD (K : PySem.W.Frag) (neg : Bool) (x y : V) (H : Hp) (Q : VK) : Prop
  | mk (d e : PyData) (h0 : DV K H d x) (h1 : DV K H e y) (h2 : SeqAt.shaped d = true) (h3 : SeqAt.shaped e = true) (h4 : Q (.bl (if neg then !PyData.eqv d e else PyData.eqv d e)) H) : rEqD K neg x y H Q
theorem o_eqD {X : Cx} (hu : X.A.units + 64 < cLine) : OpR X (compareOp .Eq) (rEqD X.K false) := by
  intro pins s σ H x y v u Q I rx ry h
  obtain ⟨d, e, h1, h2, s1, s2, q⟩ := h
  obtain ⟨as, ra⟩ := h1.reads I rx
  obtain ⟨bs, rb⟩ := h2.reads I ry
  exact eq_dataH ra rb s1 s2 hu ⟨.bl _, H, I, rfl, q⟩
theorem o_neD {X : Cx} (hu : X.A.units + 64 < cLine) : OpR X (compareOp .NotEq) (rEqD X.K true) := by
  intro pins s σ H x y v u Q I rx ry h
  obtain ⟨d, e, h1, h2, s1, s2, q⟩ := h
  obtain ⟨as, ra⟩ := h1.reads I rx
  obtain ⟨bs, rb⟩ := h2.reads I ry
  exact ne_dataH ra rb s1 s2 hu ⟨.bl _, H, I, rfl, q⟩
end L2
set_option Elab.async false
set_option linter.all false
set_option maxRecDepth 100000
set_option maxHeartbeats 4000000
namespace L2
open PySem PySem.Spec PyProof.Rows
def cutS (z : Str) (lo hi : Option Int) : Str := ⟨((z.cps.toList.drop (HT.sIx z.cps.size 0 lo)).take (HT.sIx z.cps.size z.cps.size hi - HT.sIx z.cps.size 0 lo)).toArray⟩
theorem clipS (n d : Nat) (v : Option Int) : (match v with | none => (d : Int) | some i => max 0 (min (if i < 0 then i + (n : Int) else i) (n : Int))) = ((HT.sIx n d v : Nat) : Int) := by
  cases v with
  | none => rfl
  | some i =>
    show max 0 (min (if i < 0 then i + (n : Int) else i) (n : Int)) = (((if i < 0 then (i + (n : Int)).toNat else min i.toNat n) : Nat) : Int)
    split <;> omega
theorem strIdx (lo hi : Option Int) (n : Nat) : Builtin.Str.strSliceIndices lo hi 1 n = (List.range (HT.sIx n n hi - HT.sIx n 0 lo)).map (HT.sIx n 0 lo + ·) := by
  have e : Builtin.Str.strSliceIndices lo hi 1 n = sliceRange ((HT.sIx n 0 lo : Nat) : Int) ((HT.sIx n n hi : Nat) : Int) 1 := by
    rw [← clipS n 0 lo, ← clipS n n hi]
    unfold Builtin.Str.strSliceIndices
    simp only [show (1 : Int) > 0 by decide, if_true]
    cases lo <;> cases hi <;> rfl
  rw [e, sliceRange_one]
theorem slice_cut (z : Str) (lo hi : Option Int) : Txt.slice z lo hi = cutS z lo hi := by
  have e : ((Builtin.Str.strSliceIndices lo hi 1 z.length).filterMap (z.cps[·]?)) = (z.cps.toList.drop (HT.sIx z.cps.size 0 lo)).take (HT.sIx z.cps.size z.cps.size hi - HT.sIx z.cps.size 0 lo) := by
    rw [strIdx]
    exact pick_run z.cps _ _
  unfold Txt.slice
  split
  · rename_i h
    have hl : (Builtin.Str.strSliceIndices lo hi 1 z.length).length = z.cps.size := by
      rw [Bool.and_eq_true] at h
      exact eq_of_beq h.2
    rw [strIdx, List.length_map, List.length_range] at hl
    have h1 := HT.sIx_le z.cps.size z.cps.size (Nat.le_refl _) hi
    have hl' : HT.sIx z.cps.size z.cps.size hi - HT.sIx z.cps.size 0 lo = z.cps.size := hl
    unfold cutS
    by_cases h0 : z.cps.size = 0
    · refine ext_toList ?_
      have hz : z.cps.toList = [] := List.length_eq_zero_iff.mp (by simpa using h0)
      show z.cps.toList = _
      rw [hz]
      simp
    · have h2 : HT.sIx z.cps.size 0 lo = 0 := by omega
      rw [hl', h2, List.drop_zero, List.take_of_length_le (by simp)]
  · rw [e]
    rfl
section
variable {X : Cx}
def rSlS : V → Option Int → Option Int → Hp → VK → Prop := fun x lo hi H Q => ∃ z, x = .str z ∧ z.length ≤ sizeLine ∧ Q (.str (cutS z lo hi)) H
theorem sl_str : SlR X rSlS := by
  intro pins s σ H x v vl vu lo hi sl Q I rx hs pl pu h
  obtain ⟨z, rfl, hz, q⟩ := h
  obtain ⟨t, rfl⟩ := rx
  refine ⟨"str", _, F.slot_str_getitem.lookup, typeIs_str _ _ _, ?_⟩
  rw [← slice_cut] at q
  have fin : ∀ t' k, EP X pins σ Q (.str (Txt.slice z lo hi) t') { s with toks := k } := fun t' k => ⟨.str _, H, I.tok _, ⟨_, rfl⟩, q⟩
  cases pl with
  | none =>
    cases pu with
    | none => exact wpAny_getItem_str_slice (l := none) (u := none) (st := none) hs rfl (post_val_or_str ⟨Nat.le_trans (Txt.slice_le z _ _) hz, fin⟩)
    | int j uj => exact wpAny_getItem_str_slice (l := none) (u := some (j, uj)) (st := none) hs rfl (post_val_or_str ⟨Nat.le_trans (Txt.slice_le z _ _) hz, fin⟩)
  | int i ui =>
    cases pu with
    | none => exact wpAny_getItem_str_slice (l := some (i, ui)) (u := none) (st := none) hs rfl (post_val_or_str ⟨Nat.le_trans (Txt.slice_le z _ _) hz, fin⟩)
    | int j uj => exact wpAny_getItem_str_slice (l := some (i, ui)) (u := some (j, uj)) (st := none) hs rfl (post_val_or_str ⟨Nat.le_trans (Txt.slice_le z _ _) hz, fin⟩)
theorem SlR.imp {r r' : V → Option Int → Option Int → Hp → VK → Prop} (h : SlR X r) (i : ∀ x lo hi H Q, r' x lo hi H Q → r x lo hi H Q) : SlR X r' :=
  fun pins s σ H x v vl vu lo hi sl Q I rx hs pl pu q => h pins s σ H x v vl vu lo hi sl Q I rx hs pl pu (i x lo hi H Q q)
theorem sl_any : SlR X (fun x lo hi H Q => match x with
    | .str z => z.length ≤ sizeLine ∧ Q (.str (cutS z lo hi)) H
    | .ref a => (∃ xs, SqL X.K H a xs ∧ ∀ p, H p = none → Q (.ref p) (upd H p (.lst (cutV xs lo hi)))) ∨
        ∃ xs, SqT X.K H a xs ∧ ¬ (HT.sIx xs.length 0 lo = 0 ∧ HT.sIx xs.length xs.length hi = xs.length) ∧ ∀ p, H p = none → Q (.ref p) (upd H p (.tup (cutV xs lo hi)))
    | _ => False) := (sl_list.or (sl_tup.or sl_str)).imp fun x lo hi H Q q => by
  cases x with
  | str z => exact .inr (.inr ⟨z, rfl, q.1, q.2⟩)
  | ref a =>
    rcases q with ⟨xs, h1, h2⟩ | ⟨xs, h1, h2, h3⟩
    · exact .inl ⟨a, xs, rfl, h1, h2⟩
    · exact .inr (.inl ⟨a, xs, rfl, h1, h2, h3⟩)
  | _ => exact (show False from q).elim
def rStarts : V → List V → Hp → VK → Prop := fun x xs H Q => match x, xs with
  | .str z, [.str y] => Q (.bl (Txt.startswith z y)) H
  | _, _ => False
theorem call_strI : CallR X (.type "str") (fun xs H Q => match xs with
    | [.int i] => i.natAbs.log2 < 1920 ∧ Q (.str (toString i)) H
    | _ => False) := call_str_int.imp fun xs H Q q => by
  match xs, q with
  | [.int i], q => exact ⟨i, rfl, q.1, q.2⟩
variable {o e : Expr} {es : List Expr} {to : TE} {t : TA} {apos cpos : Pos}
end
end L2
set_option Elab.async false
set_option linter.all false
set_option maxRecDepth 100000
set_option maxHeartbeats 4000000
namespace L2
open PySem PySem.Spec PyProof.Rows
section
variable {X : Cx} {st : Stmt} {rest : List Stmt} {t u : TS} {e : Expr} {te : TE} {tt : TT}
def tSeqM (t u : TS) : TS := fun D σ H => ∃ M : St → Hp → Prop, t { D with nx := M } σ H ∧ ∀ σ' H', M σ' H' → u D σ' H'
theorem pss_consM (h1 : PS X st t) (h2 : PSs X rest u) : PSs X (st :: rest) (tSeqM t u) := by
  intro pins s σ H D I h
  obtain ⟨M, h, hm⟩ := h
  refine wpAny_execs_cons (thn (h1 pins s σ H { D with nx := M } I h) fun f s1 q => ?_)
  cases f with
  | next =>
    obtain ⟨σ', H', I', q⟩ := q
    exact h2 pins s1 σ' H' D I' (hm _ _ q)
  | ret v => exact q
  | brk => exact q
  | cont => exact q
end
end L2
set_option Elab.async false
set_option linter.all false
set_option maxRecDepth 100000
set_option maxHeartbeats 4000000
namespace L2
open PySem PySem.Spec PyProof.Rows
section
variable {X : Cx} {pins : List (Addr × Obj)} {σ : St} {H : Hp} {s : Shared} {h' : Heap}
theorem Inv.turnedNew {t' : Nat} {ch : List Addr} {a : Addr} {o : HO} (I : Inv X pins σ H s) (k : ∀ b u, b ∉ ch → s.heap.get? b = some u → h'.get? b = some u) (hf : ∀ b ∈ ch, FpOk X pins H b)
    (ha : s.heap.objs.size ≤ a) (new : ObjOk X.prog X.w (upd H a o) h' a o) : Inv X pins σ (upd H a o) { s with heap := h', toks := t' } := by
  have hna : H a = none := I.hok.fresh ha
  have nch : ∀ b u, H b = some u → b ∉ ch := fun b u e z => by
    rw [(hf b z).1] at e
    cases e
  have nea : ∀ b u, H b = some u → b ≠ a := fun b u e z => by
    rw [z, hna] at e
    cases e
  have old : ∀ b u, s.heap.get? b = some u → b ≠ a := fun b u e => Nat.ne_of_lt (Nat.lt_of_lt_of_le (Heap.lt_size e) ha)
  refine I.step (g' := s.gens) (d' := s.drawn) (ch := ch) (fun b hb => ?_) (fun b u _ _ hc e _ => k b u hc e) (fun b u _ _ hc e _ => ⟨u.slots, k b u hc e⟩) (fun b u _ e n => ?_) (fun b u hc e => ⟨u, k b u hc e⟩)
    (fun b xs e => ?_) (fun b u v e => ?_) (fun b ps e => ⟨#[], ?_⟩) (fun m hm => ?_) (fun b u e => ?_) I.bare
  · obtain ⟨_, f1, _, f3, f4, f5⟩ := hf b hb
    exact ⟨f3, f1, f4, f5⟩
  · rw [upd_ne (old b u e)]; exact n
  · rw [upd_ne (nea b _ e)]; exact e
  · rw [upd_ne (nea b _ e)]; exact e
  · rw [upd_ne (nea b _ e), e]; simp
  · obtain ⟨ob, es, ep, ho, r⟩ := hm
    exact ⟨ob, es, ep, k _ ob (fun z => (hf _ z).2.1 rfl) ho, r⟩
  · by_cases hb : b = a
    · subst hb
      rw [upd_same] at e
      cases e
      exact new
    · rw [upd_ne hb] at e
      refine (I.hok b u e).stay (fun c v hc q => k c v ?_ q) (fun c q => ?_) fun c xs q => ?_
      · rcases hc with z | z
        · rw [z]; exact nch b u e
        · exact nch c _ z
      · rw [upd_ne (nea c _ q)]; exact q
      · rw [upd_ne (nea c _ q)]; exact q
theorem Inv.turnedN {t' : Nat} {ch : List Addr} (I : Inv X pins σ H s) (k : ∀ b u, b ∉ ch → s.heap.get? b = some u → h'.get? b = some u) (hf : ∀ b ∈ ch, FpOk X pins H b) : Inv X pins σ H { s with heap := h', toks := t' } := by
  have nch : ∀ b u, H b = some u → b ∉ ch := fun b u e z => by
    rw [(hf b z).1] at e
    cases e
  refine I.step (g' := s.gens) (d' := s.drawn) (ch := ch) (fun b hb => ?_) (fun b u _ _ hc e _ => k b u hc e) (fun b u _ _ hc e _ => ⟨u.slots, k b u hc e⟩) (fun b u _ e n => n) (fun b u hc e => ⟨u, k b u hc e⟩)
    (fun b xs e => e) (fun b u v e => e) (fun b ps e => ⟨#[], by rw [e]; simp⟩) (fun m hm => ?_) (fun b u e => ?_) I.bare
  · obtain ⟨_, f1, _, f3, f4, f5⟩ := hf b hb
    exact ⟨f3, f1, f4, f5⟩
  · obtain ⟨ob, es, ep, ho, r⟩ := hm
    exact ⟨ob, es, ep, k _ ob (fun z => (hf _ z).2.1 rfl) ho, r⟩
  · refine (I.hok b u e).stay (fun c v hc q => k c v ?_ q) (fun c q => q) fun c xs q => q
    rcases hc with z | z
    · rw [z]; exact nch b u e
    · exact nch c _ z
end
def Ite (a : Addr) : It := ⟨fun i H => ∃ xs x, H a = some (.lst xs) ∧ xs[i]? = some x,
  fun i H x H' => ∃ p y, H p = none ∧ x = .ref p ∧ (∀ xs, H a = some (.lst xs) → xs[i]? = some y) ∧ H' = upd H p (.tup [.int (i : Nat), y]), fun i H => ∃ xs, H a = some (.lst xs) ∧ xs.length ≤ i⟩
theorem turn_enum {P : Program} {w : World} {K : PySem.W.Frag} {es : List Expr} {k : Nat} {pos : Pos} (a e it : Addr) (hne : e ≠ it) :
    Turn P w K (.Tuple es k pos) (Ite a) [e, it] e (fun i h => (∃ old, IsEnum h e it i old) ∧ h.IsListIter it a i) where
  mem := by simp
  obj := fun i h st b hb => by
    obtain ⟨⟨old, he⟩, o, h1, h2, h3⟩ := st
    rcases List.mem_cons.mp hb with rfl | hb
    · exact ⟨_, he, fun v z => by cases z⟩
    · rw [List.mem_singleton.mp hb]
      exact ⟨o, h1, fun v z => by rw [h3] at z; cases z⟩
  keep := fun i h h' st kp => by
    obtain ⟨⟨old, he⟩, o, h1, r⟩ := st
    exact ⟨⟨old, kp e (by simp) _ he⟩, o, kp it (by simp) o h1, r⟩
  item := by
    intro X hP hw hK hc i pins s σ H E I hf st hg
    subst hP hw hK
    obtain ⟨⟨old, he⟩, hit⟩ := st
    obtain ⟨xs, x, hl, hx⟩ := hg
    obtain ⟨z, its, n, r, hlen, eo⟩ := I.lstM hl
    obtain ⟨u, hu, ru⟩ := Vals.get r hx
    have hil : s.heap.IsList a its.toArray := ⟨_, eo, rfl, _, rfl⟩
    refine wpAny_pyNext_enum_item he hit hil (x := u) (by simpa using hu) hne fun h1 e1 e2 e3 e4 e5 => ?_
    refine ⟨_, rfl, wpAny_letOwnedTupleGo_enum e1 fun h2 e6 sb => ?_⟩
    have hps : s.heap.objs.size ≠ e := fun q => absurd (Heap.lt_size he) (by rw [← q]; exact Nat.lt_irrefl _)
    have hpi : s.heap.objs.size ≠ it := fun q => by
      obtain ⟨o, ho, _⟩ := hit
      exact absurd (Heap.lt_size ho) (by rw [← q]; exact Nat.lt_irrefl _)
    have hn : H s.heap.objs.size = none := I.hok.fresh (Nat.le_refl _)
    have e3' : h2.get? s.heap.objs.size = some { cls := .type "tuple", data := .seq #[.int i s.toks, u] } := (sb.2 _ hps).trans e3
    have J : Inv X pins σ (upd H s.heap.objs.size (.tup [.int (i : Nat), x])) { s with heap := h2, toks := s.toks + 1 } := by
      refine I.turnedNew (ch := [e, it]) (fun b o hb q => ?_) hf (Nat.le_refl _) ⟨by rw [sizeLine_eq]; show 2 ≤ 16777216; decide, [.int i s.toks, u], .cons ⟨_, rfl⟩ (.cons ru .nil), _, e3', rfl, 0, rfl⟩
      have b1 : b ≠ e := fun z => hb (by simp [z])
      have b2 : b ≠ it := fun z => hb (by simp [z])
      exact (sb.2 b b1).trans (e5 b o b1 b2 q)
    refine ⟨.ref s.heap.objs.size, _, J, rfl, ⟨s.heap.objs.size, x, hn, rfl, fun ys hy => ?_, rfl⟩, ⟨⟨u, ?_⟩, ?_⟩, fun b hb => ?_⟩
    · rw [hl] at hy
      cases hy
      exact hx
    · have e6' : IsEnum h2 e it ((i : Int) + 1) u := e6
      have e7 : ((i + 1 : Nat) : Int) = (i : Int) + 1 := by omega
      rw [e7]
      exact e6'
    · obtain ⟨o, ho, r⟩ := e2
      exact ⟨o, (sb.2 it (Ne.symm hne)).trans ho, r⟩
    · have hb' : b ≠ s.heap.objs.size := by
        rcases List.mem_cons.mp hb with rfl | hb
        · exact hps.symm
        · rw [List.mem_singleton.mp hb]; exact hpi.symm
      rw [upd_ne hb']
      exact (hf b hb).1
  done := by
    intro X hP hw hK hc i pins s σ H E I hf st hg
    subst hP hw hK
    obtain ⟨⟨old, he⟩, hit⟩ := st
    obtain ⟨xs, hl, hx⟩ := hg
    obtain ⟨z, its, n, r, hlen, eo⟩ := I.lstM hl
    have hil : s.heap.IsList a its.toArray := ⟨_, eo, rfl, _, rfl⟩
    refine wpAny_pyNext_enum_end (I.ok.hd hc) he hit hil (by simp; omega) fun h1 eb => ⟨rfl, I.turnedN (ch := [e, it]) (t' := s.toks) (fun b o hb q => eb b o (fun z => hb (by simp [z])) q) hf⟩
  self := fun _ _ _ _ _ st h => by
    obtain ⟨⟨old, he⟩, _⟩ := st
    exact wpAny_pyIter_enum he h
def iEnum (ta : TA) : TI := fun σ H R => ta σ H fun vs H1 => ∃ a xs, vs = [.ref a] ∧ H1 a = some (.lst xs) ∧ R (Ite a) H1
theorem pi_enum {X : Cx} {es : List Expr} {k : Nat} {tpos : Pos} {e : Expr} {ta : TA} {p pos : Pos} (hg : Gl X "enumerate") (hm : X.mg "enumerate" = none) (ha : PA X [e] ta) (hs : starEach [e] X.env = [(false, eval e X.env)] := by rfl) :
    PI X (.Tuple es k tpos) (.Call (.Name "enumerate" p) [e] [] pos) (iEnum ta) := by
  intro pins s σ H R I h
  refine wpAny_Call_Name_kw (ld_blt I hg hm bt_enumerate ?_ (by decide) (by decide))
  refine PyProof.Rows.callWith_type1 (thn (ha pos pins s σ H _ I h) fun us s1 ⟨vs, H1, I1, r1, a, xs, e1, hl, q⟩ => ?_) hs rfl
  subst e1
  obtain ⟨u, rfl, ru⟩ := vals1 r1
  cases ru
  obtain ⟨z, its, n, r, hlen, eo⟩ := I1.lstM hl
  refine call_enumerate_1 (n := n) eo fun h2 e1 e2 e3 e4 => ?_
  have I2 : Inv X pins σ H1 { s1 with heap := h2 } := I1.kept (t' := s1.toks) e4
  have hne : s1.heap.objs.size + 1 ≠ s1.heap.objs.size := Nat.succ_ne_self _
  refine wpAny_pyIter_enum e1 ?_
  refine ⟨s1.heap.objs.size + 1, [s1.heap.objs.size + 1, s1.heap.objs.size], _, _, H1, rfl, I2, turn_enum a _ _ hne, ⟨⟨_, e1⟩, e2⟩, fun b hb => ?_, q⟩
  have hb' : s1.heap.objs.size ≤ b := by
    rcases List.mem_cons.mp hb with rfl | hb
    · omega
    · rw [List.mem_singleton.mp hb]
      exact Nat.le_refl _
  exact I1.fpOk hb' (I1.hok.fresh hb')
theorem for_enum {a : Addr} {xs : List V} {g : TG} {tb : TS} {D : Ends} {σ : St} {H : Hp} (Pv : Nat → St → Hp → Prop) (h0 : Pv 0 σ H) (hl : ∀ i σ H, Pv i σ H → H a = some (.lst xs))
    (hs : ∀ (i : Nat) x σ H p, xs[i]? = some x → Pv i σ H → H p = none → g (.ref p) σ (upd H p (.tup [.int (i : Nat), x])) fun σ2 H2 => tb { D with nx := Pv (i + 1), ct := Pv (i + 1), bk := D.nx } σ2 H2) (hd : ∀ σ H, Pv xs.length σ H → D.nx σ H) :
    ∃ W : Nat → Nat → St → Hp → Prop, (∃ m, W 0 m σ H) ∧ ∀ i m σ H, W i m σ H →
      ((Ite a).stop i H ∧ D.nx σ H) ∨ ((Ite a).go i H ∧ ∃ N : St → Hp → Prop, (∀ σ' H', N σ' H' → ∃ m', m' < m ∧ W (i + 1) m' σ' H') ∧ ∀ x H', (Ite a).yld i H x H' → g x σ H' fun σ2 H2 => tb { D with nx := N, ct := N, bk := D.nx } σ2 H2) := by
  refine ⟨fun i m σ H => m = xs.length - i ∧ i ≤ xs.length ∧ Pv i σ H, ⟨_, rfl, Nat.zero_le _, h0⟩, ?_⟩
  rintro i m σ H ⟨rfl, hi, p⟩
  have q := hl i σ H p
  by_cases hlt : i < xs.length
  · refine .inr ⟨⟨xs, xs[i], q, by simp [hlt]⟩, Pv (i + 1), fun σ' H' p' => ⟨_, by omega, rfl, hlt, p'⟩, fun x H' y => ?_⟩
    obtain ⟨b, v, hb, rfl, hv, rfl⟩ := y
    exact hs i v σ H b (hv xs q) p hb
  · have e : i = xs.length := by omega
    subst e
    exact .inl ⟨⟨xs, q, Nat.le_refl _⟩, hd σ H p⟩
theorem comp_enum {D : Addr} {σb : St} {g : TG} {tt : TT} {te : TE} {Q : Hp → List V → Prop} {H : Hp} {a : Addr} {xs : List V} (Pv : Nat → List V → Hp → Prop) (h0 : Pv 0 [] H) (hq : ∀ i ys H, Pv i ys H → H a = some (.lst xs)) (hl : ∀ i ys H, Pv i ys H → H D = some (.lst ys))
    (hs : ∀ (i : Nat) x ys H p P, xs[i]? = some x → Pv i ys H → H p = none → (∀ a b, Pv (i + 1) a b → P a b) → CompT D σb g tt te (.ref p) ys (upd H p (.tup [.int (i : Nat), x])) P) (hd : ∀ ys H, Pv xs.length ys H → Q H ys) : ∃ W, (∃ m, W 0 m [] H) ∧ CompW (Ite a) D σb g tt te Q W := by
  refine ⟨fun i m ys H => m = xs.length - i ∧ i ≤ xs.length ∧ Pv i ys H, ⟨_, rfl, Nat.zero_le _, h0⟩, ?_⟩
  rintro i m ys H ⟨rfl, hi, p⟩
  refine ⟨hl i ys H p, ?_⟩
  have q := hq i ys H p
  by_cases hlt : i < xs.length
  · refine .inr ⟨⟨xs, xs[i], q, by simp [hlt]⟩, fun x H3 y => ?_⟩
    obtain ⟨b, v, hb, rfl, hv, rfl⟩ := y
    exact hs i v ys H b (fun a b => ∃ m', m' < xs.length - i ∧ m' = xs.length - (i + 1) ∧ i + 1 ≤ xs.length ∧ Pv (i + 1) a b) (hv xs q) p hb fun a b r => ⟨_, by omega, rfl, hlt, r⟩
  · have e : i = xs.length := by omega
    subst e
    exact .inl ⟨⟨xs, q, Nat.le_refl _⟩, hd ys H p⟩
def Itz (a b : Addr) : It := ⟨fun i H => ∃ xs ys x y, H a = some (.lst xs) ∧ H b = some (.lst ys) ∧ xs[i]? = some x ∧ ys[i]? = some y,
  fun i H v H' => ∃ p x y, H p = none ∧ v = .ref p ∧ (∀ xs, H a = some (.lst xs) → xs[i]? = some x) ∧ (∀ ys, H b = some (.lst ys) → ys[i]? = some y) ∧ H' = upd H p (.tup [x, y]),
  fun i H => ∃ xs ys, H a = some (.lst xs) ∧ H b = some (.lst ys) ∧ (xs.length ≤ i ∨ ys.length ≤ i)⟩
theorem turn_zip {P : Program} {w : World} {K : PySem.W.Frag} {es : List Expr} {k : Nat} {pos : Pos} (a b z TI TO i1 i2 : Addr) (nd : [z, TI, TO, i1, i2].Nodup) :
    Turn P w K (.Tuple es k pos) (Itz a b) [z, TI, TO, i1, i2] z (fun i h => IsZip h z TI TO .none ∧ IsPair h TI (.ref i1) (.ref i2) ∧ (∃ u v, IsPair h TO u v) ∧ h.IsListIter i1 a i ∧ h.IsListIter i2 b i) := by
  have n1 : TI ≠ z := fun e => by simp [e] at nd
  have n2 : TO ≠ z := fun e => by simp [e] at nd
  have n3 : i1 ≠ z := fun e => by simp [e] at nd
  have n4 : i2 ≠ z := fun e => by simp [e] at nd
  have n5 : TI ≠ TO := fun e => by simp [e] at nd
  have n6 : TI ≠ i1 := fun e => by simp [e] at nd
  have n7 : TI ≠ i2 := fun e => by simp [e] at nd
  have n8 : TO ≠ i1 := fun e => by simp [e] at nd
  have n9 : TO ≠ i2 := fun e => by simp [e] at nd
  have n0 : i1 ≠ i2 := fun e => by simp [e] at nd
  have apart : ∀ {H : Hp} {xs ys : List V}, (∀ c ∈ [z, TI, TO, i1, i2], H c = none) → H a = some (.lst xs) → H b = some (.lst ys) → ZipApart z TI TO i1 i2 a b := fun {H xs ys} hf ha hb =>
    ⟨n1, n2, n3, n4, n5, n6, n7, n8, n9, n0, ne_of_none ha (hf z (by simp)), ne_of_none ha (hf TO (by simp)), ne_of_none ha (hf i1 (by simp)), ne_of_none ha (hf i2 (by simp)),
      ne_of_none hb (hf z (by simp)), ne_of_none hb (hf TO (by simp)), ne_of_none hb (hf i1 (by simp)), ne_of_none hb (hf i2 (by simp))⟩
  refine { mem := by simp, obj := ?_, keep := ?_, item := ?_, done := ?_, self := ?_ }
  · rintro i h ⟨h1, h2, ⟨u, v, h3⟩, ⟨o4, h4, _, d4⟩, ⟨o5, h5, _, d5⟩⟩ c hc
    simp only [List.mem_cons, List.not_mem_nil, or_false] at hc
    rcases hc with rfl | rfl | rfl | rfl | rfl
    · exact ⟨_, h1, fun v z => by cases z⟩
    · exact ⟨_, h2, fun v z => by cases z⟩
    · exact ⟨_, h3, fun v z => by cases z⟩
    · exact ⟨_, h4, fun v z => by rw [d4] at z; cases z⟩
    · exact ⟨_, h5, fun v z => by rw [d5] at z; cases z⟩
  · rintro i h h' ⟨h1, h2, ⟨u, v, h3⟩, ⟨o4, h4, r4⟩, ⟨o5, h5, r5⟩⟩ kp
    exact ⟨kp z (by simp) _ h1, kp TI (by simp) _ h2, ⟨u, v, kp TO (by simp) _ h3⟩, ⟨o4, kp i1 (by simp) _ h4, r4⟩, ⟨o5, kp i2 (by simp) _ h5, r5⟩⟩
  · intro X hP hw hK hc i pins s σ H E I hf st hg
    subst hP hw hK
    obtain ⟨h1, h2, ⟨u, v, h3⟩, h4, h5⟩ := st
    obtain ⟨xs, ys, x, y, ha, hb, hx, hy⟩ := hg
    obtain ⟨_, its, n, r, hlen, eo⟩ := I.lstM ha
    obtain ⟨_, its2, m, r2, hlen2, eo2⟩ := I.lstM hb
    obtain ⟨ux, hux, rux⟩ := Vals.get r hx
    obtain ⟨uy, huy, ruy⟩ := Vals.get r2 hy
    have hn : H s.heap.objs.size = none := I.hok.fresh (Nat.le_refl _)
    have new : ∀ c ∈ [z, TI, TO, i1, i2], c ≠ s.heap.objs.size := fun c hc q => by
      have : ∃ o, s.heap.get? c = some o := by
        simp only [List.mem_cons, List.not_mem_nil, or_false] at hc
        obtain ⟨o4, h4, _⟩ := h4
        obtain ⟨o5, h5, _⟩ := h5
        rcases hc with rfl | rfl | rfl | rfl | rfl
        · exact ⟨_, h1⟩
        · exact ⟨_, h2⟩
        · exact ⟨_, h3⟩
        · exact ⟨_, h4⟩
        · exact ⟨_, h5⟩
      obtain ⟨o, ho⟩ := this
      exact absurd (Heap.lt_size ho) (by rw [q]; exact Nat.lt_irrefl _)
    refine wpAny_pyNext_zip_item (apart (fun c hc => (hf c hc).1) ha hb) h1 h2 h3 h4 h5 (xs := its.toArray) (ys := its2.toArray) ⟨_, eo, rfl, _, rfl⟩ ⟨_, eo2, rfl, _, rfl⟩ (x := ux) (y := uy) (by simpa using hux) (by simpa using huy)
      fun h6 e1 e2 e3 e4 e5 e6 e7 => ?_
    refine ⟨_, rfl, wpAny_letOwnedTupleGo_zip e1 fun h7 e8 sb => ?_⟩
    have J : Inv X pins σ (upd H s.heap.objs.size (.tup [x, y])) { s with heap := h7 } := by
      refine I.turnedNew (t' := s.toks) (ch := [z, TI, TO, i1, i2]) (fun c o hc q => ?_) hf (Nat.le_refl _) ⟨by rw [sizeLine_eq]; show 2 ≤ 16777216; decide, [ux, uy], .cons rux (.cons ruy .nil), _, (sb.2 _ (new z (by simp)).symm).trans e5, rfl, 0, rfl⟩
      have c1 : c ≠ z := fun w => hc (by simp [w])
      exact (sb.2 c c1).trans (e7 c o c1 (fun w => hc (by simp [w])) (fun w => hc (by simp [w])) (fun w => hc (by simp [w])) q)
    refine ⟨.ref s.heap.objs.size, _, J, rfl, ⟨s.heap.objs.size, x, y, hn, rfl, fun xs' h => by rw [ha] at h; cases h; exact hx, fun ys' h => by rw [hb] at h; cases h; exact hy, rfl⟩, ⟨e8, ?_, ⟨ux, uy, ?_⟩, ?_, ?_⟩, fun c hc => ?_⟩
    · exact (sb.2 TI n1).trans (e7 TI _ n1 n5 n6 n7 h2)
    · exact (sb.2 TO n2).trans e2
    · obtain ⟨o, ho, q⟩ := e3
      exact ⟨o, (sb.2 i1 n3).trans ho, q⟩
    · obtain ⟨o, ho, q⟩ := e4
      exact ⟨o, (sb.2 i2 n4).trans ho, q⟩
    · rw [upd_ne (new c hc)]
      exact (hf c hc).1
  · intro X hP hw hK hc i pins s σ H E I hf st hg
    subst hP hw hK
    obtain ⟨h1, h2, ⟨u, v, h3⟩, h4, h5⟩ := st
    obtain ⟨xs, ys, ha, hb, hx⟩ := hg
    obtain ⟨_, its, n, r, hlen, eo⟩ := I.lstM ha
    obtain ⟨_, its2, m, r2, hlen2, eo2⟩ := I.lstM hb
    refine wpAny_pyNext_zip_end (I.ok.hd hc) (apart (fun c hc => (hf c hc).1) ha hb) h1 h2 h3 h4 h5 (xs := its.toArray) (ys := its2.toArray) ⟨_, eo, rfl, _, rfl⟩ ⟨_, eo2, rfl, _, rfl⟩ (by simp; omega) fun h6 e7 => ?_
    exact ⟨rfl, I.turnedN (t' := s.toks) (ch := [z, TI, TO, i1, i2]) (fun c o hc q => e7 c o (fun w => hc (by simp [w])) (fun w => hc (by simp [w])) (fun w => hc (by simp [w])) (fun w => hc (by simp [w])) q) hf⟩
  · exact fun _ _ _ _ _ st h => wpAny_pyIter_zip st.1 h
def iZip (ta : TA) : TI := fun σ H R => ta σ H fun vs H1 => ∃ a b xs ys, vs = [.ref a, .ref b] ∧ H1 a = some (.lst xs) ∧ H1 b = some (.lst ys) ∧ R (Itz a b) H1
theorem pi_zip {X : Cx} {es : List Expr} {k : Nat} {tpos : Pos} {e f : Expr} {ta : TA} {p pos : Pos} (hg : Gl X "zip") (hm : X.mg "zip" = none) (ha : PA X [e, f] ta) (hs : starEach [e, f] X.env = (false, eval e X.env) :: starEach [f] X.env := by rfl)
    (hpl : (backTo pos (starEach [f] X.env)).any (·.1) = false := by rfl) : PI X (.Tuple es k tpos) (.Call (.Name "zip" p) [e, f] [] pos) (iZip ta) := by
  intro pins s σ H R I h
  refine wpAny_Call_Name_kw (ld_blt I hg hm bt_zip ?_ (by decide) (by decide))
  refine PyProof.Rows.callWith_type1 (thn (ha pos pins s σ H _ I h) fun us s1 ⟨vs, H1, I1, r1, a, b, xs, ys, e1, hl, hl2, q⟩ => ?_) hs hpl
  subst e1
  obtain ⟨u, v, rfl, ru, rv⟩ := vals2 r1
  cases ru
  cases rv
  obtain ⟨_, its, n, r, hlen, eo⟩ := I1.lstM hl
  obtain ⟨_, its2, m, r2, hlen2, eo2⟩ := I1.lstM hl2
  refine call_zip_2 (xs := its.toArray) (ys := its2.toArray) ⟨_, eo, rfl, _, rfl⟩ ⟨_, eo2, rfl, _, rfl⟩ fun h2 e1 e2 e3 e4 e5 e6 e7 => ?_
  have I2 : Inv X pins σ H1 { s1 with heap := h2 } := I1.kept (t' := s1.toks) e7
  refine wpAny_pyIter_zip e1 ?_
  refine ⟨s1.heap.objs.size + 4, [s1.heap.objs.size + 4, s1.heap.objs.size + 2, s1.heap.objs.size + 3, s1.heap.objs.size, s1.heap.objs.size + 1], _, _, H1, rfl, I2, turn_zip a b _ _ _ _ _ (by simp), ⟨e1, e2, ⟨_, _, e3⟩, e4, e5⟩, fun c hc => ?_, q⟩
  have hc' : s1.heap.objs.size ≤ c := by
    simp only [List.mem_cons, List.not_mem_nil, or_false] at hc
    rcases hc with z | z | z | z | z <;> rw [z] <;> first | exact Nat.le_refl _ | exact Nat.le_add_right _ _
  exact I1.fpOk hc' (I1.hok.fresh hc')
theorem for_zip {a b : Addr} {xs ys : List V} {g : TG} {tb : TS} {D : Ends} {σ : St} {H : Hp} (he : xs.length = ys.length) (Pv : Nat → St → Hp → Prop) (h0 : Pv 0 σ H) (hl : ∀ i σ H, Pv i σ H → H a = some (.lst xs) ∧ H b = some (.lst ys))
    (hs : ∀ (i : Nat) x y σ H p, xs[i]? = some x → ys[i]? = some y → Pv i σ H → H p = none → g (.ref p) σ (upd H p (.tup [x, y])) fun σ2 H2 => tb { D with nx := Pv (i + 1), ct := Pv (i + 1), bk := D.nx } σ2 H2) (hd : ∀ σ H, Pv xs.length σ H → D.nx σ H) :
    ∃ W : Nat → Nat → St → Hp → Prop, (∃ m, W 0 m σ H) ∧ ∀ i m σ H, W i m σ H →
      ((Itz a b).stop i H ∧ D.nx σ H) ∨ ((Itz a b).go i H ∧ ∃ N : St → Hp → Prop, (∀ σ' H', N σ' H' → ∃ m', m' < m ∧ W (i + 1) m' σ' H') ∧ ∀ x H', (Itz a b).yld i H x H' → g x σ H' fun σ2 H2 => tb { D with nx := N, ct := N, bk := D.nx } σ2 H2) := by
  refine ⟨fun i m σ H => m = xs.length - i ∧ i ≤ xs.length ∧ Pv i σ H, ⟨_, rfl, Nat.zero_le _, h0⟩, ?_⟩
  rintro i m σ H ⟨rfl, hi, p⟩
  obtain ⟨q1, q2⟩ := hl i σ H p
  by_cases hlt : i < xs.length
  · refine .inr ⟨⟨xs, ys, xs[i], ys[i]'(by omega), q1, q2, by simp [hlt], by simp [show i < ys.length by omega]⟩, Pv (i + 1), fun σ' H' p' => ⟨_, by omega, rfl, hlt, p'⟩, fun v H' y => ?_⟩
    obtain ⟨c, x, y, hc, rfl, hx, hy, rfl⟩ := y
    exact hs i x y σ H c (hx xs q1) (hy ys q2) p hc
  · have e : i = xs.length := by omega
    subst e
    exact .inl ⟨⟨xs, ys, q1, q2, .inl (Nat.le_refl _)⟩, hd σ H p⟩
end L2
set_option Elab.async false
set_option linter.all false
set_option maxRecDepth 100000
set_option maxHeartbeats 4000000
namespace NumM
open PySem PySem.NumText
def codesI (n : Int) : List Nat := (toString n : String).toList.map Char.toNat
theorem codes_nat (m : Nat) : codesI (m : Int) = (Nat.toDigits 10 m).map Char.toNat := by
  unfold codesI
  show (Nat.repr m).toList.map Char.toNat = _
  rw [Nat.toList_repr]
theorem codes_neg (m : Nat) (h : 0 < m) : codesI (-(m : Int)) = 45 :: (Nat.toDigits 10 m).map Char.toNat := by
  obtain ⟨k, rfl⟩ : ∃ k, m = k + 1 := ⟨m - 1, by omega⟩
  have e : -((k + 1 : Nat) : Int) = Int.negSucc k := rfl
  rw [e]
  unfold codesI
  have e2 : (toString (Int.negSucc k) : String) = "-" ++ Nat.repr (k + 1) := rfl
  rw [e2, String.toList_append, Nat.toList_repr]
  rfl
end NumM
namespace L2
open PySem PySem.Spec PyProof.Rows
theorem small_log {i : Int} (h : i.natAbs < 2 ^ 64) : i.natAbs.log2 < 1920 := by
  by_cases h0 : i.natAbs = 0
  · rw [h0]; decide
  · have := (Nat.log2_lt h0).mpr h
    omega
theorem toStr_codes (n : Int) : ((toString n : String) : Str).cps.toList = NumM.codesI n := signs_ofString _
theorem dig_len : ∀ (k m : Nat), m < 10 ^ (k + 1) → (Nat.toDigits 10 m).length ≤ k + 1
  | 0, m, h => by
    rw [Nat.toDigits_of_lt_base (by simpa using h)]
    exact Nat.le_refl _
  | k + 1, m, h => by
    by_cases hm : m < 10
    · rw [Nat.toDigits_of_lt_base hm]
      simp
    · have hr : m % 10 < 10 := Nat.mod_lt m (by decide)
      have t : Nat.toDigits 10 (m / 10) ++ Nat.toDigits 10 (m % 10) = Nat.toDigits 10 (10 * (m / 10) + m % 10) := Nat.toDigits_append_toDigits (by decide) (by omega) hr
      rw [Nat.div_add_mod] at t
      rw [← t, List.length_append, Nat.toDigits_of_lt_base hr]
      have := dig_len k (m / 10) (by rw [Nat.pow_succ] at h; omega)
      simp only [List.length_cons, List.length_nil]
      omega
theorem codes_len {k : Nat} {n : Int} (h : n.natAbs < 10 ^ (k + 1)) : (NumM.codesI n).length ≤ k + 2 := by
  by_cases h0 : 0 ≤ n
  · obtain ⟨m, rfl⟩ := Int.eq_ofNat_of_zero_le h0
    rw [NumM.codes_nat, List.length_map]
    have := dig_len k m (by simpa using h)
    omega
  · obtain ⟨m, rfl⟩ : ∃ m : Nat, n = -(m : Int) := ⟨n.natAbs, by omega⟩
    rw [NumM.codes_neg m (by omega), List.length_cons, List.length_map]
    have := dig_len k m (by simpa using h)
    omega
def within (lo hi : Int) : Option Int → Option Int
  | some n => if lo ≤ n ∧ n ≤ hi then some n else none
  | none => none
def madeB (t S : Str) (m : Int) : Bool := decide (1 ≤ (t.cps.size : Int) ∧ (t.cps.size : Int) ≤ m) && t.cps.toList.all fun c => decide (c ∈ S.cps.toList)
end L2
set_option Elab.async false
set_option linter.all false
set_option maxRecDepth 100000
set_option maxHeartbeats 4000000
namespace SplM
open PySem
def splitC (c : Nat) : List Nat → List (List Nat)
  | [] => [[]]
  | a :: l => if a = c then [] :: splitC c l else match splitC c l with
    | [] => [[a]]
    | p :: r => (a :: p) :: r
def joinC (c : Nat) : List (List Nat) → List Nat
  | [] => []
  | [p] => p
  | p :: q :: r => p ++ c :: joinC c (q :: r)
end SplM
namespace L2
open PySem PySem.Spec PyProof.Rows
section
variable {X : Cx}
def rJoin (K : PySem.W.Frag) : V → List V → Hp → VK → Prop := fun x xs H Q => ∃ (z : Str) (p : Addr) (ts : List Str), x = .str z ∧ xs = [.ref p] ∧ (SqL K H p (ts.map V.str) ∨ SqT K H p (ts.map V.str)) ∧
  (ts.map (·.length)).sum + ts.length * z.length ≤ 16777216 ∧ Q (.str (Txt.join z ts)) H
open Builtin.Str in
theorem split_new {P : Program} {w : World} {A : Around} {E : Value → Shared → Prop} {s : Shared} {x y : Str} {t u : Tok} {Q : Value → Shared → Prop} (hy : (y.length == 0) = false) (hx : x.length ≤ sizeLine)
    (hp : (partsBetween x (occurrences x y 0 x.length (x.length + 1)) y.length).length ≤ sizeLine)
    (h : ∀ (l : List (Str × Tok)) (k : Nat), l.map (·.1) = Txt.split x y → Q (.ref s.heap.objs.size) { s with heap := s.heap.push { cls := .type "list", data := .seq (strValues l).toArray }, toks := k }) :
    wpAny (model P w) A (call (.builtin "str.split") [.str x t, .str y u]) Q E s := by
  by_cases h1 : (decide (x.length < y.length) || decide (strKind x < strKind y)) = true
  · refine call_meets F.slot_str_split (typeIs_str s x t) F.entry_str_split (F.args_str_split_2 _ _) (meets_str_split_cannot_occur x y t u h1) ?_
    exact h [(x, t)] s.toks (by unfold Txt.split; rw [if_pos h1]; rfl)
  · have h1' := eq_false_of_ne_true h1
    by_cases h2 : (occurrences x y 0 x.length (x.length + 1)).isEmpty = true
    · refine call_meets F.slot_str_split (typeIs_str s x t) F.entry_str_split (F.args_str_split_2 _ _) (meets_str_split_not_found x y t u h1' hy h2) ?_
      exact h [(x, t)] s.toks (by unfold Txt.split; rw [if_neg h1, if_pos h2]; rfl)
    · have h2' := eq_false_of_ne_true h2
      refine call_meets F.slot_str_split (typeIs_str s x t) F.entry_str_split (F.args_str_split_2 _ _) (meets_str_split_sep x y t u h1' hy h2' hx hp) ?_
      have := h (numbered s.toks (partsBetween x (occurrences x y 0 x.length (x.length + 1)) y.length)) (s.toks + (partsBetween x (occurrences x y 0 x.length (x.length + 1)) y.length).length)
        ((numbered_texts _ _).trans (by unfold Txt.split; rw [if_neg h1, if_neg h2]))
      rw [← strsFrom_eq] at this
      exact this
def rSplit : V → List V → Hp → VK → Prop := fun x xs H Q => ∃ (z : Str) (c : Nat), x = .str z ∧ xs = [.str ⟨#[c]⟩] ∧ z.cps.size + 2 ≤ sizeLine ∧
  ∀ (l : Addr) (ts : List Str), H l = none → ts.map (fun t => t.cps.toList) = SplM.splitC c z.cps.toList → Q (.ref l) (upd H l (.lst (ts.map V.str)))
abbrev TJ := Str → St → Hp → (Str → Hp → Prop) → Prop
def PJ (X : Cx) (vs : List Expr) (t : TJ) : Prop := ∀ (pins : List (Addr × Obj)) (s : Shared) (σ : St) (H : Hp) (acc : Str) (Q : VK), Inv X pins σ H s → t acc σ H (fun out H' => Q (.str out) H') →
  wpAny (model X.prog X.w) X.A (joinParts acc (evalEach vs X.env)) (EP X pins σ Q) X.xe s
def jNil : TJ := fun acc _ H R => acc.length ≤ sizeLine ∧ R acc H
def jCons (te : TE) (tr : TJ) : TJ := fun acc σ H R => te σ H fun x H1 => match x with
  | .str y => (acc ++ y).length ≤ sizeLine ∧ tr (acc ++ y) σ H1 R
  | _ => False
theorem pj_nil : PJ X [] jNil := fun pins s σ H acc Q I h => joinParts_nil ⟨.str acc, H, I.tok _, ⟨_, rfl⟩, h.2⟩ h.1
theorem pj_cons {e : Expr} {es : List Expr} {te : TE} {tr : TJ} (he : PE X e te) (hr : PJ X es tr) : PJ X (e :: es) (jCons te tr) := by
  intro pins s σ H acc Q I h
  show wpAny _ _ (joinParts acc (eval e X.env :: evalEach es X.env)) _ _ s
  refine joinParts_cons (thn (he pins s σ H _ I h) fun v s1 ⟨x, H1, I1, r1, q1⟩ => ?_)
  cases x with
  | str y =>
    obtain ⟨t, rfl⟩ := r1
    exact ⟨q1.1, hr pins s1 σ H1 (acc ++ y) Q I1 q1.2⟩
  | _ => exact (show False from q1).elim
def tFstr (t : TJ) : TE := fun σ H Q => t Str.empty σ H fun out H' => Q (.str out) H'
theorem pe_fstr {v1 v2 : Expr} {rest : List Expr} {pos : Pos} {t : TJ} (h : PJ X (v1 :: v2 :: rest) t) : PE X (.JoinedStr (v1 :: v2 :: rest) pos) (tFstr t) := fun pins s σ H Q I q => JoinedStr_many (h pins s σ H Str.empty Q I q)
def tFmt (te : TE) : TE := fun σ H Q => te σ H fun x H1 => match x with
  | .str y => y.length ≤ sizeLine ∧ Q (.str y) H1
  | .int i => i.natAbs.log2 < 1920 ∧ Q (.str (toString i)) H1
  | _ => False
theorem pe_fmt {e : Expr} {te : TE} {pos : Pos} (he : PE X e te) : PE X (.FormattedValue e (-1) none pos) (tFmt te) := by
  intro pins s σ H Q I h
  refine FormattedValue_plain (thn (he pins s σ H _ I h) fun v s1 ⟨x, H1, I1, r1, q1⟩ => ?_)
  cases x with
  | str y =>
    obtain ⟨t, rfl⟩ := r1
    exact formatField_str (fun t' tk => ⟨.str y, H1, I1.tok _, ⟨_, rfl⟩, q1.2⟩) q1.1
  | int i =>
    obtain ⟨t, rfl⟩ := r1
    exact formatField_int_small q1.1 ⟨.str _, H1, I1.tok _, ⟨_, rfl⟩, q1.2⟩
  | _ => exact (show False from q1).elim
variable {o e : Expr} {es : List Expr} {to : TE} {t : TA} {apos cpos : Pos}
theorem pe_m.append (ho : PE X o to) (ha : PA X (e :: es) t) (hbase : attributeBase o "append" X.env (eval o X.env) = eval o X.env := by rfl)
    (hfew : ((backTo cpos (starEach (e :: es) X.env)).all (fun x => !x.1) && (backToKw cpos (keywordEach [] X.env)).all (fun x => x.1.isSome) && decide ((e :: es).length + ([] : List Keyword).length + (if ([] : List Keyword).isEmpty then 0 else 1) < 30)) = true := by rfl)
    (hline : (apos.endLine == cpos.line) = true := by rfl) (hs : starEach (e :: es) X.env = (false, eval e X.env) :: starEach es X.env := by rfl) (hplain : (backTo cpos (starEach es X.env)).any (·.1) = false := by rfl) :
    PE X (.Call (.Attribute o "append" apos) (e :: es) [] cpos) (tBM X.K "list" rAppend to t) := pe_bm F.plainAttrs_list F.slot_list_append F.type_list_append mt_append ho ha hbase hfew hline hs hplain
theorem pe_m.popAt (ho : PE X o to) (ha : PA X (e :: es) t) (hbase : attributeBase o "pop" X.env (eval o X.env) = eval o X.env := by rfl)
    (hfew : ((backTo cpos (starEach (e :: es) X.env)).all (fun x => !x.1) && (backToKw cpos (keywordEach [] X.env)).all (fun x => x.1.isSome) && decide ((e :: es).length + ([] : List Keyword).length + (if ([] : List Keyword).isEmpty then 0 else 1) < 30)) = true := by rfl)
    (hline : (apos.endLine == cpos.line) = true := by rfl) (hs : starEach (e :: es) X.env = (false, eval e X.env) :: starEach es X.env := by rfl) (hplain : (backTo cpos (starEach es X.env)).any (·.1) = false := by rfl) :
    PE X (.Call (.Attribute o "pop" apos) (e :: es) [] cpos) (tBM X.K "list" rPopAt to t) := pe_bm F.plainAttrs_list F.slot_list_pop F.type_list_pop mt_popAt ho ha hbase hfew hline hs hplain
theorem pe_m.clear (ho : PE X o to) (hbase : attributeBase o "clear" X.env (eval o X.env) = eval o X.env := by rfl) (hline : (apos.endLine == cpos.line) = true := by rfl) :
    PE X (.Call (.Attribute o "clear" apos) [] [] cpos) (tBM0 X.K "list" rClear to) := pe_bm0 F.plainAttrs_list F.slot_list_clear F.type_list_clear mt_clear ho hbase hline
end
def TK (H H' : Hp) : Prop := ∀ b xs, H b = some (.tup xs) → H' b = some (.tup xs)
theorem TK.trans {H H1 H2 : Hp} (a : TK H H1) (b : TK H1 H2) : TK H H2 := fun c o h => b c o (a c o h)
theorem Same.tk {H H' : Hp} (e : Same H H') : TK H H' := fun b xs h => e b _ h
theorem TK.lst {H : Hp} {l : Addr} {xs ys : List V} (h : H l = some (.lst xs)) : TK H (upd H l (.lst ys)) := fun b zs e => by
  rw [upd_ne (ne_of e h (by intro z; cases z))]; exact e
theorem Same.put {H H' : Hp} {D : Addr} {o : HO} (e : Same H H') (h : H D = none) : Same H (upd H' D o) := fun b u q => by
  rw [upd_ne (ne_of_none q h)]; exact e b u q
theorem atI_cons {α : Type} {xs : List α} {i : Int} {v : α} (k : Nat) (hk : (k : Int) = i) (h : xs[k]? = some v) : atI xs i = some v := by rw [← hk]; exact atI_nat h
theorem cutV_drop (xs : List V) (k : Nat) : cutV xs (some (k : Int)) none = xs.drop k := by
  unfold cutV
  rw [HT.sIx_nat, HT.sIx_none]
  by_cases h : k ≤ xs.length
  · rw [Nat.min_eq_left h, List.take_of_length_le (by simp)]
  · rw [Nat.min_eq_right (by omega), Nat.sub_self, List.take_zero, List.drop_of_length_le (by omega)]
def nameB (t : Str) : Bool := madeB t "abcdefghijklmnopqrstuvwxyz" 8
end L2
set_option Elab.async false
set_option linter.all false
set_option maxRecDepth 100000
set_option maxHeartbeats 4000000
namespace L2
open PySem PySem.Spec PyProof.Rows
structure U where
  name : Str
  value : Int
  size : Int
  path : List Str
def uV (p : Addr) (u : U) : List V := [.str u.name, .int u.value, .int u.size, .ref p]
def IsU (H : Hp) (u : U) (x : V) : Prop := ∃ a p, x = .ref a ∧ H a = some (.tup (uV p u)) ∧ H p = some (.tup (u.path.map V.str))
abbrev AllU (H : Hp) : List U → List V → Prop := Paired (IsU H)
theorem AllU.len {H : Hp} {us : List U} {xs : List V} (h : AllU H us xs) : us.length = xs.length := Paired.length h
structure GoodU (u : U) : Prop where
  nm : nameB u.name = true
  v0 : -1000000000 ≤ u.value
  v1 : u.value ≤ 1000000000
  s0 : 1 ≤ u.size
  s1 : u.size ≤ 1000000
  pl : u.path.length ≤ 3
  pn : ∀ n ∈ u.path, nameB n = true
structure GoodL (us : List U) : Prop where
  l1 : 1 ≤ us.length
  l2 : us.length ≤ 24
  each : ∀ u ∈ us, GoodU u
  nd : (us.map U.name).Nodup
  pth : ∀ u ∈ us, ∀ v ∈ us, u.path.length = v.path.length
def uD (u : U) : PyData := .tuple [.str u.name, .int u.value, .int u.size, .tuple (u.path.map PyData.str)]
section
variable {X : Cx} {K : PySem.W.Frag}
theorem ix_seqK (h : X.K = K) : IxR X (rIx K) := h ▸ ix_seq
theorem op_in_seqK (h : X.K = K) : OpR X (compareOp .In) (rIn K false) := h ▸ op_in_seq
theorem pg_tupK (h : X.K = K) {es : List Expr} {k : Nat} {t : TGs} {n : Nat} {pos : Pos} (hc : X.calm = true) (hp : PGs X es t) (hn : (assignEach es X.env).length = n := by rfl) (hst : (assignEach es X.env).findIdx? (·.1) = none := by rfl) :
    PG X (.Tuple es k pos) (gTup K n t) := h ▸ pg_tup hc hp hn hst
end
end L2
set_option Elab.async false
set_option linter.all false
set_option maxRecDepth 100000
set_option maxHeartbeats 4000000
namespace L2
open PySem PySem.Spec PyProof.Rows
structure XCls (K : PySem.W.Frag) (D : Addr) : Prop where
  ga : PySem.W.findIn K (.ref D) "__getattribute__" = some (some (.builtin "BaseException.__getattribute__"))
  gn : PySem.W.findIn K (.ref D) "__getattr__" = some none
  cl : PySem.W.findIn K (.ref D) "__class__" = some (some (.builtin "object.__class__"))
  mb : PySem.W.mroIn K D (.type "BaseException") = some true
  mo : PySem.W.mroIn K D (.type "object") = some true
  isc : (PySem.W.clsIn K D).isSome = true
section
variable {prog : Program} {w : World} {A : Around} {E : Value → Shared → Prop} {h : Heap} {g : Array GenState} {d : Drawn} {t : Nat} {os : OsState} {a D : Addr} {o : Obj} {K : PySem.W.Frag}
end
def XAt (a D : Addr) (h : Heap) : Prop := ∃ o, h.get? a = some o ∧ o.cls = .ref D
end L2
set_option Elab.async false
set_option linter.all false
set_option maxRecDepth 100000
set_option maxHeartbeats 4000000
namespace L2
open PySem PySem.Spec PyProof.Rows
structure XF (P : Program) (w : World) (outer : List Env) (H : Hp) (s : Shared) (x D : Addr) (a0 : Value) (B : Heap) (H' : Hp) (s' : Shared) : Prop where
  os : s'.os = s.os
  bare : AllBare s'.gens
  un : Un (frs outer) [] H H' s.heap s'.heap
  hok : HOk P w H' s'.heap
  fly : Heap.FlyingW B outer x (.ref D) a0 s'.heap
  cov : ∀ b o, s'.heap.get? b = some o → ((∃ o', s.heap.get? b = some o') ∨ (∃ u, H' b = some u)) → b ∉ frs outer → B.get? b = some o
section
variable {P : Program} {w : World} {outer : List Env} {H H' : Hp} {s s' : Shared} {x D : Addr} {a0 : Value} {B : Heap}
end
section
variable {X : Cx} {pins : List (Addr × Obj)} {σ : St} {H H' : Hp} {s s' : Shared} {x D : Addr} {a0 : Value} {B h2 : Heap}
end
section
variable {P : Program} {w : World} {K : PySem.W.Frag} {mg : Str → Option Value} {base : Heap} {N : List Str} {qual : Str} {scope : Scope} {f : Addr} {cdv : Value} {A : Around} {outer : List Env} {s0 : Shared} {H0 : Hp} {E : XK}
end
section
variable {P : Program} {w : World} {K : PySem.W.Frag} {mg : Str → Option Value} {base : Heap}
end
end L2
set_option Elab.async false
set_option linter.all false
set_option maxRecDepth 100000
set_option maxHeartbeats 4000000
namespace L2
open PySem PySem.Spec PyProof.Rows
structure XHd (K : PySem.W.Frag) (C : Addr) : Prop where
  isc : (PySem.W.clsIn K C).isSome = true
  ty : PySem.W.typeIn K (.ref C) = some (.type "type")
  mb : PySem.W.mroIn K C (.type "BaseException") = some true
def Cx.inX (X : Cx) (x : Addr) : Cx := { X with A := X.A.mark (some (.ref x)), calm := false, xe := fun _ _ => False }
section
variable {X : Cx} {pins : List (Addr × Obj)} {σ : St} {H H' H1 : Hp} {s s' s1 : Shared} {x D C : Addr} {a0 : Value} {B h2 : Heap}
end
end L2
set_option Elab.async false
set_option linter.all false
set_option maxRecDepth 100000
set_option maxHeartbeats 4000000
namespace L2
open PySem PySem.Spec PyProof.Rows
section
variable {X : Cx} {pins : List (Addr × Obj)} {σ : St} {H H' H1 : Hp} {s s' s1 : Shared} {x D C : Addr} {a0 : Value} {B h2 : Heap} {cn en : Str} {ie : Nat} {b₀ : Stmt} {suite : List Stmt} {cp hp : Pos} {ts : TS} {DE : Ends}
end
section
variable {X : Cx} {k ie : Nat} {f C : Addr} {fd : FuncData} {ps : List Str} {sp : Sp} {dvs : List V} {ds : List Value} {fx cn en : Str} {p pos p2 cp hp tp : Pos} {e : Expr} {es : List Expr} {t : TA} {b₀ : Stmt} {suite : List Stmt} {ts : TS}
end
def TyX (K : PySem.W.Frag) (H : Hp) (x : V) (t : Value) : Prop := TyOf K H x t ∨ ∃ a D φ, x = .ref a ∧ t = .ref D ∧ XCls K D ∧ H a = some (.ext φ) ∧ ∀ h, φ h → XAt a D h
section
variable {X : Cx}
end
end L2
set_option Elab.async false
set_option linter.all false
set_option maxRecDepth 100000
set_option maxHeartbeats 4000000
namespace L2
open PySem PySem.Spec PyProof.Rows
section
variable {prog : Program} {w : World} {A : Around} {E : Value → Shared → Prop} {h : Heap} {g : Array GenState} {d : Drawn} {t : Nat} {os : OsState} {a D dx : Addr} {o : Obj} {vs : Array Value} {cd : ClassData} {K : PySem.W.Frag} {name : Str} {mA : Str → Option Value} {v : Value}
abbrev bmV : List Value := [.type "ValueError", .type "Exception", .type "BaseException", .type "object"]
def isRf : Value → Bool
  | .ref _ => true
  | _ => false
def vTail (l : List Value) : Bool := l.dropWhile isRf == bmV
structure XSet (K : PySem.W.Frag) (D : Addr) (name : Str) (cd : ClassData) : Prop where
  k : PySem.W.clsIn K D = some cd
  dct : cd.hasDict = true
  mro : vTail cd.mro = true
  mo : PySem.W.mroIn K D (.type "object") = some true
  sa : PySem.W.findIn K (.ref D) "__setattr__" = some (some (.builtin "object.__setattr__"))
  na : PySem.W.findIn K (.ref D) name = some none
end
section
variable {prog : Program} {w : World} {A : Around} {E : Value → Shared → Prop} {h : Heap} {g : Array GenState} {d : Drawn} {t : Nat} {os : OsState}
variable {nm q : Str} {C N fI : Addr} {bs bm bmB : List Value} {hdct : Bool} {sn : List Str} {sub : List Value} {ab : Bool} {col : Option Bool} {dd : Option Addr} {k0 k1 k2 k3 k5 : Option Value} {B newId initId : String} {mN : Str → Option Value} {rest : List Value} {oI : Obj}
end
end L2
set_option Elab.async false
set_option linter.all false
set_option maxRecDepth 100000
set_option maxHeartbeats 4000000
namespace L2
open PySem PySem.Spec PyProof.Rows
def XD0 (a D : Addr) : Heap → Prop := fun h => ∃ o vs, h.get? a = some o ∧ o.cls = .ref D ∧ o.data = .fields vs ∧ o.dict = none ∧ vs[1]? = some .none
def XD1 (a D dx : Addr) : Heap → Prop := fun h => ∃ o vs, h.get? a = some o ∧ o.cls = .ref D ∧ o.data = .fields vs ∧ o.dict = some dx ∧ vs[1]? = some .none
def XDct (dx : Addr) (fs : List (Str × V)) : Heap → Prop := fun h => ∃ mA, h.Ns1 dx mA ∧ ∀ f, RelO (fs.lookup f) (mA f)
theorem XD0.at {a D : Addr} {h : Heap} (x : XD0 a D h) : XAt a D h := let ⟨o, _, e, c, _⟩ := x; ⟨o, e, c⟩
theorem XD1.at {a D dx : Addr} {h : Heap} (x : XD1 a D dx h) : XAt a D h := let ⟨o, _, e, c, _⟩ := x; ⟨o, e, c⟩
section
variable {P : Program} {w : World} {H : Hp} {h : Heap} {a D dx : Addr} {fs : List (Str × V)}
end
section
variable {X : Cx} {pins : List (Addr × Obj)} {σ : St} {H : Hp} {s : Shared} {h' : Heap} {x dx D : Addr} {φ : Heap → Prop} {ox od : HO}
end
section
variable {X : Cx} {o e value : Expr} {f : Str} {pos pos' tpos : Pos} {ta tv : TE}
end
end L2
set_option Elab.async false
set_option linter.all false
set_option maxRecDepth 100000
set_option maxHeartbeats 4000000
namespace L2
open PySem PySem.Spec PyProof.Rows
def xIn (K : PySem.W.Frag) (C : Addr) (fI : Option Value) : Bool := match K.lookup C with
  | some ⟨.type "type", _, .cls cd, sl⟩ => (match cd.mro, sl.toList with
    | .ref C' :: bm, [_, _, _, _, some (.builtin n), _] => C' == C && n == "ValueError.__new__" && !cd.hasDel && PySem.W.tailIn K bmV bm && PySem.W.nsOkIn K cd.ns && PySem.W.nsIn K cd.ns "__init__" == some fI
    | _, _ => false)
  | _ => false
structure XObj (h : Heap) (C : Addr) (fI : Option Value) : Prop where
  obj : ∃ bm N nm q bs hdct sn sub ab col dd k0 k1 k2 k3 k5 mN, h.get? C = some (excClassObj nm q C N bs bm hdct sn sub ab col dd k0 k1 k2 k3 k5 "ValueError.__new__") ∧ h.Ns N mN ∧ mN "__init__" = fI ∧ OwnTail h bmV bm
def xcIn (K : PySem.W.Frag) (D : Addr) : Bool := PySem.W.findIn K (.ref D) "__getattribute__" == some (some (.builtin "BaseException.__getattribute__")) && PySem.W.findIn K (.ref D) "__getattr__" == some none &&
  PySem.W.findIn K (.ref D) "__class__" == some (some (.builtin "object.__class__")) && PySem.W.mroIn K D (.type "BaseException") == some true && PySem.W.mroIn K D (.type "object") == some true && (PySem.W.clsIn K D).isSome && PySem.W.typeIn K (.ref D) == some (.type "type")
theorem xc_of {K : PySem.W.Frag} {D : Addr} (h : xcIn K D = true) : XCls K D := by
  unfold xcIn at h
  simp only [Bool.and_eq_true, beq_iff_eq] at h
  obtain ⟨⟨⟨⟨⟨⟨h1, h2⟩, h3⟩, h4⟩, h5⟩, h6⟩, h7⟩ := h
  exact ⟨h1, h2, h3, h4, h5, h6⟩
theorem xh_of {K : PySem.W.Frag} {D : Addr} (h : xcIn K D = true) : XHd K D := by
  unfold xcIn at h
  simp only [Bool.and_eq_true, beq_iff_eq] at h
  obtain ⟨⟨⟨⟨⟨⟨h1, h2⟩, h3⟩, h4⟩, h5⟩, h6⟩, h7⟩ := h
  exact ⟨h6, h7, h4⟩
def xsIn (K : PySem.W.Frag) (D : Addr) (name : Str) : Bool := ((PySem.W.clsIn K D).any fun cd => cd.hasDict && vTail cd.mro) && PySem.W.mroIn K D (.type "object") == some true &&
  PySem.W.findIn K (.ref D) "__setattr__" == some (some (.builtin "object.__setattr__")) && PySem.W.findIn K (.ref D) name == some none
theorem xs_of {K : PySem.W.Frag} {D : Addr} {name : Str} (h : xsIn K D name = true) : ∃ cd, XSet K D name cd := by
  unfold xsIn at h
  simp only [Bool.and_eq_true, beq_iff_eq] at h
  obtain ⟨⟨⟨h1, h2⟩, h3⟩, h4⟩ := h
  obtain ⟨cd, e, e2⟩ := PySem.W.any_some h1
  rw [Bool.and_eq_true] at e2
  exact ⟨cd, e, e2.1, e2.2, h2, h3, h4⟩
section
variable {P : Program} {w : World} {K : PySem.W.Frag} {mg : Str → Option Value} {base : Heap} {N : List Str} {qual : Str} {scope : Scope} {f : Addr} {cdv : Value} {A : Around} {outer : List Env} {s0 : Shared} {H0 : Hp} {E : XK}
end
section
variable {X : Cx} {k : Nat} {f C : Addr} {fd : FuncData} {ps : List Str} {sp : Sp} {x : Str} {p pos : Pos} {e : Expr} {es : List Expr} {t : TA}
end
end L2
set_option Elab.async false
set_option linter.all false
set_option maxRecDepth 100000
set_option maxHeartbeats 4000000
namespace L2
open PySem PySem.Spec PyProof.Rows
section
variable {prog : Program} {w : World} {KT : Type} [DecidableEq KT] {knd : KeyKind prog w KT} {A : Around} {E : Value → Shared → Prop} {s : Shared} {d : Addr} {kvs : List (KT × Value)} {k : KT} {key dflt : Value}
end
def rSetD : V → List V → Hp → VK → Prop := fun x vs H Q => ∃ (a : Addr) (kvs : List (Key × V)) (k : Key) (v : V), x = .ref a ∧ vs = [kV k, v] ∧ H a = some (.dK kvs) ∧ kvs.length < sizeLine ∧
  (∀ y, valV kvs k = some y → Q y H) ∧ (valV kvs k = none → Q v (upd H a (.dK (kvs ++ [(k, v)]))))
section
variable {X : Cx}
end
end L2
set_option Elab.async false
set_option linter.all false
set_option maxRecDepth 100000
set_option maxHeartbeats 4000000
namespace L2
open PySem PySem.Spec PyProof.Rows
def IV (v d : Addr) : Heap → Prop := fun h => h.IsItemsView v d
def rItems : V → List V → Hp → VK → Prop := fun x vs H Q => ∃ (d : Addr) (kvs : List (Key × V)), x = .ref d ∧ vs = [] ∧ H d = some (.dK kvs) ∧ ∀ v, H v = none → Q (.ref v) (upd H v (.ext (IV v d)))
section
variable {X : Cx} {o e : Expr} {es : List Expr} {to : TE} {t : TA} {apos cpos : Pos}
end
section
variable {X : Cx} {o e : Expr} {es : List Expr} {to : TE} {t : TA} {apos cpos : Pos}
end
end L2
set_option Elab.async false
set_option linter.all false
set_option maxRecDepth 100000
set_option maxHeartbeats 4000000
namespace L2
open PySem PySem.Spec PyProof.Rows
theorem vals_at : ∀ {xs : List V} {us : List Value}, xs.length = us.length → (∀ (i : Nat) x u, xs[i]? = some x → us[i]? = some u → RelV x u) → Vals xs us
  | [], [], _, _ => .nil
  | x :: xs, u :: us, h, r => .cons (r 0 x u rfl rfl) (vals_at (by simpa using h) fun i y w h1 h2 => r (i + 1) y w (by simpa using h1) (by simpa using h2))
  | [], _ :: _, h, _ => by cases h
  | _ :: _, [], h, _ => by cases h
section
variable {X : Cx}
theorem call_rng1 : CallR X (.type "range") (fun xs H Q => ∃ b, xs = [.int b] ∧ ∀ p, H p = none → Q (.ref p) (upd H p (.rng 0 b))) := by
  intro pins s σ H xs us Q I r h
  obtain ⟨b, rfl, q⟩ := h
  obtain ⟨u, rfl, ⟨t, rfl⟩⟩ := vals1 r
  refine call_range_1 ?_
  exact ⟨.ref s.heap.objs.size, _, I.laid (o := .rng 0 b) (fun b o e => Heap.get?_push_of_some _ e) (Nat.le_refl _) ⟨_, _, _, Heap.get?_push_size _ rfl⟩, rfl, q _ (I.hok.fresh (Nat.le_refl _))⟩
theorem call_lstRng (hc : X.calm = true) : CallR X (.type "list") (fun xs H Q => ∃ (p : Addr), xs = [.ref p] ∧ H p = some (.rng 0 24) ∧ ∀ l, H l = none → Q (.ref l) (upd H l (.lst ((List.range 24).map fun (i : Nat) => V.int (i : Int))))) := by
  intro pins s σ H xs us Q I r h
  obtain ⟨p, rfl, e, q⟩ := h
  obtain ⟨u, rfl, ru⟩ := vals1 r
  cases ru
  obtain ⟨t, t2, t3, ho⟩ := (show ObjOk X.prog X.w H s.heap p (.rng 0 24) from I.hok p _ e)
  refine call_list_range (n := 24) (I.ok.hd hc) ho (by decide) (by decide) (by decide) fun h' tk acc c hk hS hI => ?_
  refine ⟨.ref s.heap.objs.size, _, I.laid (t' := tk) (o := .lst ((List.range 24).map fun (i : Nat) => V.int (i : Int))) hk (Nat.le_refl _) ?_, rfl, q _ (I.hok.fresh (Nat.le_refl _))⟩
  obtain ⟨z1, z2⟩ := hI
  refine ⟨by rw [List.length_map, List.length_range, sizeLine_eq]; omega, acc.toList, c, vals_at (by rw [List.length_map, List.length_range]; simpa using z1.symm) fun i x u hx hu => ?_, hS⟩
  rw [List.getElem?_map] at hx
  have hi : i < 24 := by
    by_cases hi : i < 24
    · exact hi
    · rw [List.getElem?_eq_none (by rw [List.length_range]; omega)] at hx
      cases hx
  rw [List.getElem?_range hi] at hx
  cases hx
  obtain ⟨tt, hv⟩ := z2 i u (by simpa using hu)
  refine (show ∃ t', u = Value.int (i : Int) t' from ⟨tt, ?_⟩)
  rw [hv]
  congr 1
  omega
end
end L2
set_option Elab.async false
set_option linter.all false
set_option maxRecDepth 100000
set_option maxHeartbeats 4000000
namespace L2
open PySem PySem.Spec PyProof.Rows
def Fx (h : Heap) (e : Addr) (cls : Value) (dct : Option Addr) (fl : Value) (T : Addr) : Prop :=
  ∃ ob fs oT ts, h.get? e = some ob ∧ ob.cls = cls ∧ ob.dict = dct ∧ ob.data = .fields fs ∧ fs[1]? = some (.ref T) ∧ T ≠ e ∧ h.get? T = some oT ∧ oT.data = .fields ts ∧ ts[3]? = some fl
section
variable {M : Model} {A : Around} {E : Value → Shared → Prop} {s : Shared} {base : Heap} {env : Env} {outer : List Env} {L e : Addr} {ob : Obj} {fs : Array Value} {head : Value} {more : Bool}
end
end L2
set_option Elab.async false
set_option linter.all false
set_option maxRecDepth 100000
set_option maxHeartbeats 4000000
namespace L2
open PySem PySem.Spec PyProof.Rows
section
variable {M : Model} {A : Around} {E : Value → Shared → Prop} {s : Shared} {base : Heap} {env : Env} {outer : List Env} {L e T : Addr} {ob : Obj} {fs : Array Value} {cls fl : Value} {dct : Option Addr}
def KeptBut (xs fr : List Addr) (h h' : Heap) : Prop :=
  (∀ b o, b ∉ xs → b ∉ fr → h.get? b = some o → h'.get? b = some o) ∧ ∀ b o, b ∉ xs → h.get? b = some o → ∃ sl, h'.get? b = some { o with slots := sl }
theorem KeptBut.trans {xs ys fr : List Addr} {h h1 h2 : Heap} (a : KeptBut xs fr h h1) (b : KeptBut ys fr h1 h2) : KeptBut (xs ++ ys) fr h h2 :=
  ⟨fun c o n f g => b.1 c o (fun z => n (List.mem_append_right _ z)) f (a.1 c o (fun z => n (List.mem_append_left _ z)) f g), fun c o n g => by
    obtain ⟨s1, g1⟩ := a.2 c o (fun z => n (List.mem_append_left _ z)) g
    obtain ⟨s2, g2⟩ := b.2 c _ (fun z => n (List.mem_append_right _ z)) g1
    exact ⟨s2, g2⟩⟩
end
end L2
set_option Elab.async false
set_option linter.all false
set_option maxRecDepth 100000
set_option maxHeartbeats 4000000
namespace L2
open PySem PySem.Spec PyProof.Rows
structure XG (P : Program) (w : World) (outer : List Env) (H : Hp) (s : Shared) (x D : Addr) (dct : Option Addr) (T : Addr) (H' : Hp) (s' : Shared) : Prop where
  os : s'.os = s.os
  bare : AllBare s'.gens
  un : Un (frs outer) [] H H' s.heap s'.heap
  hok : HOk P w H' s'.heap
  fx : Fx s'.heap x (.ref D) dct .none T
  nx : s.heap.get? x = none
  nT : s.heap.get? T = none
  ux : H' x = none
  uT : H' T = none
def CXG (P : Program) (w : World) : CXT := fun outer H s E e s' => ∃ x D dct T H', e = .ref x ∧ XG P w outer H s x D dct T H' s' ∧ E (.ref D) dct H'
section
variable {P : Program} {w : World} {K : PySem.W.Frag} {mg : Str → Option Value} {base : Heap} {N : List Str} {qual : Str} {scope : Scope} {f : Addr} {cdv : Value} {A : Around} {outer : List Env} {s0 : Shared} {H0 : Hp} {E : XK}
end
section
variable {P : Program} {w : World} {K : PySem.W.Frag} {mg : Str → Option Value} {base : Heap}
end
end L2
set_option Elab.async false
set_option linter.all false
set_option maxRecDepth 100000
set_option maxHeartbeats 4000000
namespace L2
open PySem PySem.Spec PyProof.Rows
def untr (H : Hp) (x : Addr) : Hp := fun b => if b = x then none else H b
section
variable {P : Program} {w : World} {K : PySem.W.Frag} {mg : Str → Option Value} {base : Heap} {N : List Str} {qual : Str} {scope : Scope} {f : Addr} {cdv : Value} {A : Around} {outer : List Env} {s0 : Shared} {H0 : Hp} {E : XK}
end
end L2
set_option Elab.async false
set_option linter.all false
set_option maxRecDepth 100000
set_option maxHeartbeats 4000000
namespace L2
open PySem PySem.Spec PyProof.Rows
def XCt (a D : Addr) (dct : Option Addr) : Heap → Prop := fun h => ∃ o vs, h.get? a = some o ∧ o.cls = .ref D ∧ o.data = .fields vs ∧ o.dict = dct
theorem XCt.at {a D : Addr} {dct : Option Addr} {h : Heap} (x : XCt a D dct h) : XAt a D h := let ⟨o, _, e, c, _⟩ := x; ⟨o, e, c⟩
section
variable {X : Cx} {pins : List (Addr × Obj)} {σ : St} {H H' : Hp} {s s' : Shared} {x D C T T2 : Addr} {dct : Option Addr} {fl : Value} {h2 : Heap} {xs : List Addr}
end
section
variable {X : Cx} {pins : List (Addr × Obj)} {σ : St} {H H' : Hp} {s s' : Shared} {x D C T : Addr} {dct : Option Addr} {cn en : Str} {ie : Nat} {b₀ : Stmt} {suite : List Stmt} {cp hp : Pos} {ts : TS} {DE : Ends}
end
end L2
set_option linter.all false
namespace FrM
theorem gcd_step (x y : Int) : Int.gcd y (x % y) = Int.gcd x y := by
  have e : x = x % y + y * (x / y) := (Int.emod_add_mul_ediv x y).symm
  rw [Int.gcd_comm x y]
  conv => rhs; rw [e]
  rw [Int.gcd_add_mul_left_right]
def Bt (n : Nat) (i : Int) : Prop := i.natAbs < 2 ^ n
theorem Bt.mono {m n : Nat} {i : Int} (h : Bt m i) (l : m ≤ n) : Bt n i := Nat.lt_of_lt_of_le h (Nat.pow_le_pow_right (by decide) l)
theorem Bt.le {n : Nat} {i j : Int} (h : Bt n i) (l : j.natAbs ≤ i.natAbs) : Bt n j := Nat.lt_of_le_of_lt l h
theorem Bt.mul {m n : Nat} {i j : Int} (h : Bt m i) (h' : Bt n j) : Bt (m + n) (i * j) := by
  unfold Bt at *
  rw [Int.natAbs_mul, Nat.pow_add]
  exact Nat.mul_lt_mul_of_le_of_lt (Nat.le_of_lt h) h' (Nat.lt_of_le_of_lt (Nat.zero_le _) h)
structure Low (T B t b : Int) : Prop where
  pos : 1 ≤ b
  cop : Int.gcd t b = 1
  eq : t * B = T * b
theorem low (t b : Int) (hb : 0 < b) : 0 < (Int.gcd t b : Int) ∧ (Int.gcd t b : Int) ≤ b ∧ Low t b (t / (Int.gcd t b : Int)) (b / (Int.gcd t b : Int)) ∧ (t / (Int.gcd t b : Int)).natAbs ≤ t.natAbs ∧ (b / (Int.gcd t b : Int)).natAbs ≤ b.natAbs := by
  have hg : 0 < Int.gcd t b := Int.gcd_pos_iff.mpr (.inr (by omega))
  have hgi : 0 < (Int.gcd t b : Int) := by omega
  have d1 := Int.gcd_dvd_left t b
  have d2 := Int.gcd_dvd_right t b
  have e1 := Int.ediv_mul_cancel d1
  have e2 := Int.ediv_mul_cancel d2
  have hle : (Int.gcd t b : Int) ≤ b := Int.le_of_dvd hb d2
  refine ⟨hgi, hle, ⟨?_, Int.gcd_ediv_gcd_ediv_gcd hg, ?_⟩, ?_, ?_⟩
  · have := Int.ediv_pos_of_pos_of_dvd hb (by omega) d2
    omega
  · rw [← Int.mul_ediv_assoc _ d2, Int.mul_comm, ← Int.mul_ediv_assoc _ d1, Int.mul_comm]
  · have := congrArg Int.natAbs e1
    rw [Int.natAbs_mul] at this
    rw [← this]
    exact Nat.le_mul_of_pos_right _ (by simpa using hg)
  · have := congrArg Int.natAbs e2
    rw [Int.natAbs_mul] at this
    rw [← this]
    exact Nat.le_mul_of_pos_right _ (by simpa using hg)
theorem dvd_cop {b t b' : Int} (c : Int.gcd t b = 1) (h : b ∣ t * b') : b ∣ b' := by
  rw [← Int.natAbs_dvd_natAbs] at *
  rw [Int.natAbs_mul] at h
  exact Nat.Coprime.dvd_of_dvd_mul_left (by rw [Nat.coprime_comm]; exact c) h
theorem Low.uniq {T B t b t' b' : Int} (hB : B ≠ 0) (h : Low T B t b) (h' : Low T B t' b') : t = t' ∧ b = b' := by
  have e : t * b' = t' * b := by
    have : (t * b') * B = (t' * b) * B := by
      rw [Int.mul_assoc, Int.mul_comm b' B, ← Int.mul_assoc, h.eq, Int.mul_assoc t' b B, Int.mul_comm b B, ← Int.mul_assoc, h'.eq, Int.mul_assoc, Int.mul_assoc, Int.mul_comm b b']
    exact Int.eq_of_mul_eq_mul_right hB this
  have d1 : b ∣ b' := by
    have : b ∣ t * b' := ⟨t', by rw [e, Int.mul_comm]⟩
    exact dvd_cop h.cop this
  have d2 : b' ∣ b := by
    have : b' ∣ t' * b := ⟨t, by rw [← e, Int.mul_comm]⟩
    exact dvd_cop h'.cop this
  have eb : b = b' := Int.dvd_antisymm (by have := h.pos; omega) (by have := h'.pos; omega) d1 d2
  refine ⟨?_, eb⟩
  rw [eb] at e
  exact Int.eq_of_mul_eq_mul_right (by have := h'.pos; omega) e
end FrM
set_option linter.all false
set_option maxRecDepth 100000
namespace L2
open PySem PySem.Spec PyProof.Rows FrM
section
variable {X : Cx}
def CMulB (i j : Int) : Prop := (Bt 8000 i ∧ Bt 8000 j) ∨ CMul i j
theorem CMulB.ok {i j : Int} (h : CMulB i j) : IntMulOk i j := by
  rcases h with ⟨h1, h2⟩ | h
  · exact IntMulOk.of_le (m := 8000) (n := 8000) (intBits_le_iff.mpr h1) (intBits_le_iff.mpr h2) (by decide)
  · exact h.ok
def CDivB (i j : Int) : Prop := 0 < j ∧ Bt 8000 j
theorem CDivB.no {i j : Int} (h : CDivB i j) : Builtin.divisionGoesByPylong i j = false := by
  refine PyProof.noPylong_of_log2 ?_
  have h2 : j.natAbs < 2 ^ 8000 := h.2
  by_cases h0 : j.natAbs = 0
  · rw [h0]; decide +kernel
  · have : j.natAbs.log2 < 8000 := (Nat.log2_lt h0).mpr h2
    omega
theorem op_mulB : OpR X (binaryOp .Mult) (rI CMulB fun i j => .int (i * j)) := opI fun _ _ _ _ _ _ _ hc q => mul_int q hc.ok
theorem op_fdivB : OpR X (binaryOp .FloorDiv) (rI CDivB fun i j => .int (i / j)) := opI fun i j _ _ _ _ _ hc q => by
  have h1 : (0 : Int) < j := hc.1
  exact floordiv_int (by omega) (by rw [Int.fdiv_eq_ediv_of_nonneg i (by omega)]; exact q) (.inl hc.no)
theorem o_mulB : OpR X (binaryOp .Mult) (rIC CMulB fun i j => .int (i * j)) := op_mulB.ic
theorem o_fdivB : OpR X (binaryOp .FloorDiv) (rIC CDivB fun i j => .int (i / j)) := op_fdivB.ic
theorem cmB {i j : Int} {m n : Nat} (h : Bt m i) (h' : Bt n j) (hm : m ≤ 8000 := by decide) (hn : n ≤ 8000 := by decide) : CMulB i j := .inl ⟨h.mono hm, h'.mono hn⟩
theorem clB {i j : Int} (h : -(2 ^ 64) < i := by decide) (h2 : i < 2 ^ 64 := by decide) : CMulB i j := .inr (cl h h2)
theorem crB {i j : Int} (h : -(2 ^ 64) < j := by decide) (h2 : j < 2 ^ 64 := by decide) : CMulB i j := .inr (cr h h2)
theorem cdB {i j : Int} {n : Nat} (h : 0 < j) (h' : Bt n j) (hn : n ≤ 8000 := by decide) : CDivB i j := ⟨h, h'.mono hn⟩
theorem bt_abs : bootBuiltins "abs" = some (.builtin "abs") := by decide +kernel
end
end L2
set_option Elab.async false
set_option linter.all false
set_option maxRecDepth 100000
set_option maxHeartbeats 4000000
namespace L2
open PySem PySem.Spec PyProof.Rows
def isSt : Expr → Bool
  | .Starred .. => true
  | _ => false
theorem star_cons {e : Expr} {es : List Expr} {env : Env} (h : isSt e = false) : starEach (e :: es) env = (false, eval e env) :: starEach es env := by
  cases e <;> first | rfl | cases h
theorem pa_consQ {X : Cx} {e : Expr} {es : List Expr} {te : TE} {t : TA} (ha : PE X e te) (hr : PA X es t) (h : isSt e = false := by rfl) : PA X (e :: es) (tCons te t) := pa_cons ha hr (star_cons h)
@[irreducible] def PSq (X : Cx) (sts : List Stmt) (t : TS) : Prop := PSs X sts t
theorem pss_consI {X : Cx} {st : Stmt} {sts : List Stmt} {t u : TS} (h1 : PS X st t) (h2 : PSq X sts u) : PSs X (st :: sts) (tSeq t u) := by
  unfold PSq at h2
  exact pss_cons h1 h2
section
variable {X : Cx} {k ie ir : Nat} {f C : Addr} {fd : FuncData} {ps : List Str} {sp : Sp} {dvs : List V} {ds : List Value} {fx cn en rn : Str} {p pos p2 p3 cp hp tp : Pos} {e : Expr} {es : List Expr} {t : TA} {b₀ : Stmt} {suite : List Stmt} {ts : TS}
end
end L2
set_option Elab.async false
set_option linter.all false
set_option maxRecDepth 100000
set_option maxHeartbeats 4000000
namespace HT
open PySem PySem.Spec PyProof.Rows
section
variable {prog : Program} {w : World} {A : Around} {E : Value → Shared → Prop} {s : Shared}
end
end HT
namespace L2
open PySem PySem.Spec PyProof.Rows
section
variable {X : Cx}
@[irreducible] def PAq (X : Cx) (es : List Expr) (t : TA) : Prop := PA X es t
theorem paq_nil : PAq X [] tNil := by unfold PAq; exact pa_nil
end
end L2
set_option Elab.async false
set_option linter.all false
set_option maxRecDepth 100000
set_option maxHeartbeats 4000000
namespace L2
open PySem PySem.Spec PyProof.Rows
section
variable {X : Cx}
@[irreducible] def PEq (X : Cx) (e : Expr) (t : TE) : Prop := PE X e t
@[irreducible] def PSt (X : Cx) (st : Stmt) (t : TS) : Prop := PS X st t
theorem peq_of {e : Expr} {t : TE} (h : PE X e t) : PEq X e t := by unfold PEq; exact h
end
end L2
set_option Elab.async false
set_option linter.all false
set_option maxRecDepth 100000
set_option maxHeartbeats 4000000
namespace L2
open PySem PySem.Spec PyProof.Rows
structure LamD where
  qual : Str
  params : Arguments
  body : Expr
  scope : Scope
def LamX (f : Addr) (d : LamD) (clos : List (Str × Addr)) (c : Addr) : Heap → Prop := fun h => ∃ pm ctv, h.get? f = some (PySem.W.kla_obj "<lambda>" d.qual d.params d.body d.scope clos pm c ctv)
def CellX (c : Addr) (v : V) : Heap → Prop := fun h => ∃ o u, h.get? c = some o ∧ o.data = .cell (some u) ∧ RelV v u
def CodeX (c : Addr) (q : Str) : Heap → Prop := fun h => ∃ o vs t, h.get? c = some o ∧ o.data = .fields vs ∧ vs[1]? = some (.str q t)
section
variable {P : Program} {w : World} {H : Hp} {h : Heap}
theorem lamX_ok {f : Addr} {d : LamD} {clos : List (Str × Addr)} {c : Addr} {pm ctv : Value} (e : h.get? f = some (PySem.W.kla_obj "<lambda>" d.qual d.params d.body d.scope clos pm c ctv)) : ObjOk P w H h f (.ext (LamX f d clos c)) :=
  ⟨⟨pm, ctv, e⟩, ⟨_, e⟩, fun h1 h2 ⟨pm, ctv, e1⟩ k => ⟨pm, ctv, k _ e1⟩⟩
theorem cellX_ok {c : Addr} {v : V} (x : CellX c v h) : ObjOk P w H h c (.ext (CellX c v)) :=
  ⟨x, let ⟨o, _, e, _⟩ := x; ⟨o, e⟩, fun h1 h2 ⟨o, u, e1, r⟩ k => ⟨o, u, k _ e1, r⟩⟩
theorem codeX_ok {c : Addr} {q : Str} (x : CodeX c q h) : ObjOk P w H h c (.ext (CodeX c q)) :=
  ⟨x, let ⟨o, _, _, e, _⟩ := x; ⟨o, e⟩, fun h1 h2 ⟨o, vs, t, e1, r⟩ k => ⟨o, vs, t, k _ e1, r⟩⟩
end
theorem heap_at (a : Addr) (o : Obj) (ho : o.data ≠ .freed) : ∃ h : Heap, h.get? a = some o := by
  refine ⟨{ objs := Array.replicate (a + 1) o }, ?_⟩
  obtain ⟨c, d, dt, sl⟩ := o
  cases dt <;> first | exact absurd rfl ho | simp [Heap.get?]
theorem code_ne_cell {c : Addr} {q : Str} {v : V} : HO.ext (CodeX c q) ≠ HO.ext (CellX c v) := fun e => by
  injection e with e
  obtain ⟨h, hh⟩ := heap_at c { cls := .none, data := .fields #[.none, .str q 0] } (by intro z; cases z)
  have y : CellX c v h := by rw [← e]; exact ⟨_, _, _, hh, rfl, rfl⟩
  obtain ⟨o, u, e1, e2, _⟩ := y
  rw [hh] at e1
  cases e1
  cases e2
def notT : HO → Bool
  | .tbl _ => false
  | _ => true
def SameT (H H' : Hp) : Prop := ∀ b o, H b = some o → (notT o = true → H' b = some o) ∧ ∃ o', H' b = some o'
theorem SameT.refl {H : Hp} : SameT H H := fun b o e => ⟨fun _ => e, o, e⟩
theorem SameT.trans {H H1 H2 : Hp} (a : SameT H H1) (b : SameT H1 H2) : SameT H H2 := fun c o e => by
  obtain ⟨f, o', e'⟩ := a c o e
  obtain ⟨g, o2, e2⟩ := b c o' e'
  exact ⟨fun n => (b c o (f n)).1 n, o2, e2⟩
theorem Same.t {H H' : Hp} (s : Same H H') : SameT H H' := fun b o e => ⟨fun _ => s b o e, o, s b o e⟩
theorem SameT.at {H H' : Hp} (s : SameT H H') {a : Addr} {o : HO} (e : H a = some o) (n : notT o = true := by rfl) : H' a = some o := (s a o e).1 n
theorem SameT.free {H H' : Hp} (s : SameT H H') {a : Addr} (e : H' a = none) : H a = none := by
  cases q : H a with
  | none => rfl
  | some o => obtain ⟨_, o', e'⟩ := s a o q; rw [e] at e'; cases e'
theorem SameT.put {H H' : Hp} (s : SameT H H') {a : Addr} {o : HO} (e : H a = none) : SameT H (upd H' a o) := fun b u q => by
  have n : b ≠ a := fun z => by rw [z, e] at q; cases q
  rw [upd_ne n]
  exact s b u q
def TabOk (H : Hp) (P : Addr) (ls : List (Pos × Str)) : Prop := ∃ ps, H P = some (.tbl ps) ∧ TriplesOk ps.toList ∧ ∀ l ∈ ls, codeAmong l.1 ps.toList = none ∨ ∃ c, codeAmong l.1 ps.toList = some (.ref c) ∧ H c = some (.ext (CodeX c l.2))
abbrev Tabs := List (Addr × List (Pos × Str))
def TabsOk (tabs : Tabs) (H : Hp) : Prop := ∀ q ∈ tabs, TabOk H q.1 q.2
theorem TabsOk.same {tabs : Tabs} {H H' : Hp} (t : TabsOk tabs H) (s : Same H H') : TabsOk tabs H' := fun q hq => by
  obtain ⟨ps, e1, e2, e3⟩ := t q hq
  exact ⟨ps, s _ _ e1, e2, fun l hl => (e3 l hl).imp id fun ⟨c, a, b⟩ => ⟨c, a, s _ _ b⟩⟩
theorem TabsOk.put {tabs : Tabs} {H : Hp} {r : Addr} {o : HO} (t : TabsOk tabs H) (h1 : ∀ ps, H r ≠ some (.tbl ps)) (h2 : ∀ φ, H r ≠ some (.ext φ)) : TabsOk tabs (upd H r o) := fun q hq => by
  obtain ⟨ps, e1, e2, e3⟩ := t q hq
  refine ⟨ps, ?_, e2, fun l hl => (e3 l hl).imp id fun ⟨c, a, b⟩ => ⟨c, a, ?_⟩⟩
  · rw [upd_ne fun z => h1 ps (by rw [← z]; exact e1)]; exact e1
  · rw [upd_ne fun z => h2 _ (by rw [← z]; exact b)]; exact b
theorem among_other {p p' : Pos} {c : Value} (l : List Value) (h : TriplesOk l) (hn : ¬ (p.line = p'.line ∧ p.col = p'.col)) : codeAmong p' (l ++ [rawInt p.line, rawInt p.col, c]) = codeAmong p' l := by
  fun_induction TriplesOk l with
  | case1 =>
    simp only [List.nil_append, codeAmong, rawInt]
    rw [if_neg]
    intro z
    rw [Bool.and_eq_true, beq_iff_eq, beq_iff_eq] at z
    exact hn ⟨by omega, by omega⟩
  | case2 a t b u x rest ih =>
    simp only [List.cons_append, codeAmong]
    rw [ih h]
  | case3 => exact h.elim
theorem triples_snoc {p : Pos} {c : Value} (l : List Value) (h : TriplesOk l) : TriplesOk (l ++ [rawInt p.line, rawInt p.col, c]) := by
  fun_induction TriplesOk l with
  | case1 => simp [TriplesOk, rawInt]
  | case2 a t b u x rest ih => exact ih h
  | case3 => exact h.elim
def Bm (mg : Str → Option Value) (base : Heap) : Prop := ∃ bm ob, mg "__builtins__" = some (.ref bm) ∧ base.get? bm = some ob ∧ ob.cls = .type "module" ∧ ob.dict = some builtinsNs ∧ ob.data = .plain
def tLam (tabs : Tabs) (d : LamD) (clos : List (Str × Addr)) : TE := fun σ H Q => TabsOk tabs H ∧ ∀ f c H1, SameT H H1 → TabsOk tabs H1 → H f = none → H1 f = some (.ext (LamX f d clos c)) → H1 c = some (.ext (CodeX c d.qual)) → Q (.ref f) H1
end L2
set_option Elab.async false
set_option linter.all false
set_option maxRecDepth 100000
set_option maxHeartbeats 4000000
namespace L2
open PySem PySem.Spec PyProof.Rows
theorem fst_inj {α β : Type} : ∀ {l : List (α × β)}, (l.map (·.1)).Nodup → ∀ x ∈ l, ∀ y ∈ l, x.1 = y.1 → x = y
  | [], _, x, hx, _, _, _ => by cases hx
  | a :: r, nd, x, hx, y, hy, e => by
    rw [List.map_cons, List.nodup_cons] at nd
    rcases List.mem_cons.mp hx with rfl | hx' <;> rcases List.mem_cons.mp hy with rfl | hy'
    · rfl
    · exact absurd (List.mem_map.mpr ⟨y, hy', e.symm⟩) nd.1
    · exact absurd (List.mem_map.mpr ⟨x, hx', e⟩) nd.1
    · exact fst_inj nd.2 x hx' y hy' e
theorem pos_inj : ∀ {l : List (Pos × Str)}, (l.Pairwise fun x y => ¬ (x.1.line = y.1.line ∧ x.1.col = y.1.col)) → ∀ x ∈ l, ∀ y ∈ l, (x.1.line = y.1.line ∧ x.1.col = y.1.col) → x = y
  | [], _, x, hx, _, _, _ => by cases hx
  | a :: r, nd, x, hx, y, hy, e => by
    rw [List.pairwise_cons] at nd
    rcases List.mem_cons.mp hx with rfl | hx' <;> rcases List.mem_cons.mp hy with rfl | hy'
    · rfl
    · exact absurd e (nd.1 y hy')
    · exact absurd ⟨e.1.symm, e.2.symm⟩ (nd.1 x hx')
    · exact pos_inj nd.2 x hx' y hy' e
section
variable {X : Cx} {tabs : Tabs} {P c : Addr} {ls : List (Pos × Str)} {d : LamD} {clos : List (Str × Addr)} {pos : Pos}
theorem pe_lam (hcd : X.env.code = .ref c) (hC : PySem.W.codeHdIn X.K c P = true) (hB : Bm X.mg X.base) (hq : X.env.qual ++ "<lambda>" = d.qual) (hcl : closureFor d.scope X.env = pure clos) (hdef : defaultsOf d.params X.env = ([], []))
    (hm : (P, ls) ∈ tabs) (hl : (pos, d.qual) ∈ ls) (hnd : (tabs.map (·.1)).Nodup) (hps : ls.Pairwise fun x y => ¬ (x.1.line = y.1.line ∧ x.1.col = y.1.col)) : PE X (.Lambda d.params d.body d.scope pos) (tLam tabs d clos) := by
  intro pins s σ H Q I h
  obtain ⟨hT, hQ⟩ := h
  refine PySem.W.kla_eval hdef ?_
  rw [hq]
  obtain ⟨ps, hP, htr, hls⟩ := hT _ hm
  have hgs : s.heap.Ns mainGlobals X.mg := I.mod.glob.keeps I.bk
  have C : PySem.W.CodeHd s.heap c P := PySem.W.codeHd_of_K I.kIn hC
  have hPo : s.heap.get? P = some (PySem.W.tabObj ps) := I.hok P _ hP
  have hgP : mainGlobals ≠ P := fun q => by
    obtain ⟨o, es, ep, e, hd, _⟩ := hgs
    rw [q, hPo] at e; cases e; cases hd
  obtain ⟨bm, ob, b1, b2, b3, b4, b5⟩ := hB
  have bo := I.bk _ _ b2
  have hbP : bm ≠ P := fun q => by
    rw [q, hPo] at bo; cases bo; cases b3
  have hbG : bm ≠ mainGlobals := fun q => by
    obtain ⟨o, es, ep, e, hd, _⟩ := hgs
    rw [q, e] at bo; cases bo; rw [hd] at b5; cases b5
  have hbB : bm ≠ builtinsNs := fun q => by
    obtain ⟨mb, ⟨o, es, ep, e, hd, _⟩, _⟩ := I.mod.blt
    rw [q, e] at b2; cases b2; rw [hd] at b5; cases b5
  have BA : s.heap.BuiltinsAt X.mg P := ⟨bm, ob, b1, hbB, hbG, hbP, bo, b3, b4, b5⟩
  rcases hls _ hl with hn | ⟨c', hc, hHc⟩
  · refine PySem.W.kla_makeFunction (mg := X.mg) hcl I.ok.glob hgs hcd C hPo htr hn hgP BA fun c' ctv h' tk hx hge hlt hrec htb => ?_
    have hc0 : H c' = none := I.hok.fresh hge
    have hf0 : H h'.objs.size = none := I.hok.fresh (Nat.le_trans hge (Nat.le_of_lt hlt))
    have ncf : c' ≠ h'.objs.size := Nat.ne_of_lt hlt
    have nPc : P ≠ c' := ne_of_none hP hc0
    have nPf : P ≠ h'.objs.size := ne_of_none hP hf0
    obtain ⟨f, hf⟩ : ∃ f, f = h'.objs.size := ⟨_, rfl⟩
    obtain ⟨ob', hob⟩ : ∃ o, o = PySem.W.kla_obj "<lambda>" d.qual d.params d.body d.scope clos ((X.mg "__name__").getD .none) c' ctv := ⟨_, rfl⟩
    have hfo : (h'.push ob').get? f = some ob' := by rw [hf, hob]; exact Heap.get?_push_size _ rfl
    have keep : ∀ b o, b ≠ P → s.heap.get? b = some o → (h'.push ob').get? b = some o := fun b o n e => Heap.get?_push_of_some _ (hx b o n e)
    have htb' : (h'.push ob').get? P = some (PySem.W.tabObj (ps ++ #[rawInt pos.line, rawInt pos.col, .ref c'])) := Heap.get?_push_of_some _ htb
    have hcx : CodeX c' d.qual (h'.push ob') := by
      obtain ⟨c2, oc, vs, t, e2, hoc, hdt, hv⟩ := hrec
      cases e2
      exact ⟨oc, vs, t, Heap.get?_push_of_some _ hoc, hdt, hv⟩
    rw [← hf] at hf0 ncf nPf ⊢
    rw [← hob]
    obtain ⟨H1, hH1⟩ : ∃ H1, H1 = upd (upd (upd H P (.tbl (ps ++ #[rawInt pos.line, rawInt pos.col, .ref c']))) c' (.ext (CodeX c' d.qual))) f (.ext (LamX f d clos c')) := ⟨_, rfl⟩
    have gf : H1 f = some (.ext (LamX f d clos c')) := by rw [hH1]; exact upd_same
    have gc : H1 c' = some (.ext (CodeX c' d.qual)) := by rw [hH1, upd_ne ncf]; exact upd_same
    have gP : H1 P = some (.tbl (ps ++ #[rawInt pos.line, rawInt pos.col, .ref c'])) := by rw [hH1, upd_ne nPf, upd_ne nPc]; exact upd_same
    have go : ∀ b, b ≠ P → b ≠ c' → b ≠ f → H1 b = H b := fun b h1 h2 h3 => by rw [hH1, upd_ne h3, upd_ne h2, upd_ne h1]
    have same : ∀ b o, b ≠ P → H b = some o → H1 b = some o := fun b o n e => by rw [go b n (ne_of_none e hc0) (ne_of_none e hf0)]; exact e
    have nt : ∀ b o, H b = some o → (∀ qs, o ≠ .tbl qs) → b ≠ P := fun b o e n z => by rw [z, hP] at e; cases e; exact n ps rfl
    have un : Un X.fs [] H H1 s.heap (h'.push ob') := by
      refine ⟨fun b o e n _ _ => keep b o (fun z => by rw [z, hP] at n; cases n) e, fun b o e n _ _ => ⟨o.slots, keep b o (fun z => by rw [z, hP] at n; cases n) e⟩, fun b o e n _ => ?_, fun b o e _ => ?_, fun b xs e => same b _ (nt b _ e fun _ z => nomatch z) e, fun b o u e => same b _ (nt b _ e fun _ z => nomatch z) e, fun b qs e => ?_⟩
      · have hb : b < s.heap.objs.size := Heap.lt_size e
        rw [go b (fun z => by rw [z, hP] at n; cases n) (Nat.ne_of_lt (Nat.lt_of_lt_of_le hb hge)) (by rw [hf]; exact Nat.ne_of_lt (Nat.lt_of_lt_of_le hb (Nat.le_trans hge (Nat.le_of_lt hlt))))]
        exact n
      · by_cases hb : b = P
        · rw [hb]; exact ⟨_, htb'⟩
        · exact ⟨o, keep b o hb e⟩
      · by_cases hb : b = P
        · rw [hb, hP] at e
          cases e
          rw [hb]
          exact ⟨_, gP⟩
        · exact ⟨#[], by rw [same b _ hb e]; simp⟩
    have hok : HOk X.prog X.w H1 (h'.push ob') := fun a o e => by
      by_cases h1 : a = f
      · subst h1; rw [gf] at e; cases e; exact lamX_ok (by rw [hfo, hob])
      by_cases h2 : a = c'
      · subst h2; rw [gc] at e; cases e; exact codeX_ok hcx
      by_cases h3 : a = P
      · subst h3; rw [gP] at e; cases e; exact htb'
      rw [go a h3 h2 h1] at e
      refine (I.hok a o e).stay (fun b u hb q => keep b u ?_ q) (fun b q => same b _ (nt b _ q fun _ z => nomatch z) q) fun b xs q => same b _ (nt b _ q fun _ z => nomatch z) q
      rcases hb with rfl | hb
      · exact h3
      · exact nt b _ hb fun _ z => nomatch z
    refine ⟨.ref f, H1, I.un (h' := h'.push ob') (t' := tk) un hok, rfl, hQ f c' H1 (fun b o e => ?_) (fun q hq' => ?_) hf0 gf gc⟩
    · by_cases hb : b = P
      · subst hb
        rw [hP] at e
        cases e
        exact ⟨fun z => (Bool.false_ne_true z).elim, _, gP⟩
      · exact ⟨fun _ => same b o hb e, o, same b o hb e⟩
    · by_cases hqP : q.1 = P
      · have hqe : q = (P, ls) := fst_inj hnd q hq' (P, ls) hm hqP
        subst hqe
        refine ⟨_, gP, by rw [Array.toList_append]; exact triples_snoc _ htr, fun l' hl' => ?_⟩
        rw [Array.toList_append]
        by_cases hp : pos.line = l'.1.line ∧ pos.col = l'.1.col
        · have := pos_inj hps (pos, d.qual) hl l' hl' hp
          subst this
          exact .inr ⟨c', codeAmong_snoc _ htr hn, gc⟩
        · have eo := among_other (c := .ref c') ps.toList htr hp
          rcases hls l' hl' with z | ⟨c2, z1, z2⟩
          · exact .inl (eo.trans z)
          · exact .inr ⟨c2, eo.trans z1, same c2 _ (nt c2 _ z2 fun _ z => nomatch z) z2⟩
      · obtain ⟨qs, e1, e2, e3⟩ := hT q hq'
        exact ⟨qs, same _ _ hqP e1, e2, fun l' hl' => (e3 l' hl').imp id fun ⟨c2, z1, z2⟩ => ⟨c2, z1, same c2 _ (nt c2 _ z2 fun _ z => nomatch z) z2⟩⟩
  · refine PySem.W.kla_makeFunctionHit (mg := X.mg) hcl I.ok.glob hgs hcd C hPo htr hc BA fun ctv h' tk hk hsz => ?_
    have hf0 : H h'.objs.size = none := I.hok.fresh hsz
    have sm : Same H (upd H h'.objs.size (.ext (LamX h'.objs.size d clos c'))) := Same.new hf0
    refine ⟨.ref h'.objs.size, _, I.laid (a := h'.objs.size) (o := .ext (LamX h'.objs.size d clos c')) (t' := tk) (fun b u e => Heap.get?_push_of_some _ (hk b u e)) hsz (lamX_ok (Heap.get?_push_size _ rfl)), rfl, hQ _ c' _ sm.t (hT.same sm) hf0 upd_same (sm _ _ hHc)⟩
end
end L2
set_option Elab.async false
set_option linter.all false
set_option maxRecDepth 100000
set_option maxHeartbeats 4000000
namespace L2
open PySem PySem.Spec PyProof.Rows
def untrs (H : Hp) (cs : List Addr) : Hp := fun b => if b ∈ cs then none else H b
theorem untrs_in {H : Hp} {cs : List Addr} {b : Addr} (h : b ∈ cs) : untrs H cs b = none := by unfold untrs; rw [if_pos h]
theorem untrs_out {H : Hp} {cs : List Addr} {b : Addr} (h : b ∉ cs) : untrs H cs b = H b := by unfold untrs; rw [if_neg h]
theorem untrs_none {H : Hp} {cs : List Addr} {b : Addr} (h : H b = none) : untrs H cs b = none := by unfold untrs; split <;> first | rfl | exact h
abbrev CellsAt (H : Hp) : List (Str × Addr) → List V → Prop := Paired fun (p : Str × Addr) (v : V) => H p.2 = some (.ext (CellX p.2 v))
theorem CellsAt.mem {H : Hp} : ∀ {clos : List (Str × Addr)} {vals : List V}, CellsAt H clos vals → ∀ p ∈ clos, ∃ v, H p.2 = some (.ext (CellX p.2 v))
  | _, _, .nil, p, h => by cases h
  | _, _, .cons r t, p, h => by
    rcases List.mem_cons.mp h with rfl | h
    · exact ⟨_, r⟩
    · exact CellsAt.mem t p h
theorem CellsAt.get {H : Hp} : ∀ {clos : List (Str × Addr)} {vals : List V} {i : Nat} {v : V}, CellsAt H clos vals → vals[i]? = some v → ∃ p, clos[i]? = some p ∧ H p.2 = some (.ext (CellX p.2 v))
  | _, _, _, _, .nil, h => by cases h
  | _, _, 0, _, .cons r t, h => by cases h; exact ⟨_, rfl, r⟩
  | _, _, i + 1, _, .cons r t, h => CellsAt.get (i := i) t h
theorem CellsAt.at {H : Hp} {clos : List (Str × Addr)} {vals : List V} (ca : CellsAt H clos vals) {b : Addr} (hb : b ∈ clos.map (·.2)) : ∃ v, H b = some (.ext (CellX b v)) := by
  obtain ⟨p, hp, rfl⟩ := List.mem_map.mp hb
  exact ca.mem p hp
theorem untrs_of {H : Hp} {clos : List (Str × Addr)} {vals : List V} {b : Addr} {o : HO} (ca : CellsAt H clos vals) (h : H b = some o) (n : ∀ v, o ≠ .ext (CellX b v)) : untrs H (clos.map (·.2)) b = some o := by
  rw [untrs_out fun z => ?_]
  · exact h
  · obtain ⟨v, e⟩ := ca.at z
    rw [h] at e
    exact n v (Option.some.inj e)
theorem lookup_of_mem {α : Type} : ∀ {l : List (Str × α)} {x : Str} {u : α}, (l.map (·.1)).Nodup → (x, u) ∈ l → l.lookup x = some u
  | [], _, _, _, h => by cases h
  | (y, w) :: r, x, u, nd, h => by
    rw [List.map_cons, List.nodup_cons] at nd
    rcases List.mem_cons.mp h with e | h
    · cases e; simp [List.lookup]
    · have : x ≠ y := fun z => nd.1 (List.mem_map.mpr ⟨(x, u), h, z⟩)
      rw [List.lookup_cons, beq_eq_false_iff_ne.mpr this]
      exact lookup_of_mem nd.2 h
theorem nodup_rev {α : Type} {l : List α} (h : l.Nodup) : l.reverse.Nodup := by
  unfold List.Nodup at h ⊢
  rw [List.pairwise_reverse]
  exact h.imp fun n z => n z.symm
def lamEnv (d : LamD) (L f c : Addr) (clos : List (Str × Addr)) : Env := { scope := d.scope, locals := L, globals := mainGlobals, cells := clos, qual := d.qual ++ ".<locals>.", func := some f, code := .ref c, frame := some L, builtins := builtinsNs }
def cxL (P : Program) (w : World) (K : PySem.W.Frag) (mg : Str → Option Value) (base : Heap) (N : List Str) (d : LamD) (clos : List (Str × Addr)) (f c : Addr) (A : Around) (outer : List Env) (s : Shared) (H : Hp) : Cx where
  prog := P
  w := w
  K := K
  mg := mg
  base := base
  A := A.deeper (lamEnv d s.heap.objs.size f c clos)
  N := N
  s₀ := s
  H₀ := untrs H (clos.map (·.2))
  env := lamEnv d s.heap.objs.size f c clos
  outer := outer
  stack := lamEnv d s.heap.objs.size f c clos :: outer
  ex := []
  calm := true
  fn := fun _ => false
  pn := []
  xe := fun _ _ => False
def LamOk (P : Program) (w : World) (K : PySem.W.Frag) (mg : Str → Option Value) (base : Heap) (k : Nat) (d : LamD) (fv ps : List Str) (sp : List V → Sp) : Prop :=
  ∀ (A : Around) (outer : List Env) (s : Shared) (H : Hp) (f c : Addr) (clos : List (Str × Addr)) (us : List Value) (vs vals : List V) (Q : VK) (E : XK), Room k A → Env0 P w K mg base A outer s H → H f = some (.ext (LamX f d clos c)) → H c = some (.ext (CodeX c d.qual)) →
    clos.map (·.1) = fv → (clos.map (·.2)).Nodup → CellsAt H clos vals → Vals vs us → sp vals vs H Q E → codeAny (model P w) A (.call (.ref f) ⟨us, []⟩) (CR CX0 outer P w H s Q E) s
structure LamScope (d : LamD) (fv ps : List Str) : Prop where
  kind : d.scope.kind = .function
  co : d.scope.isCoroutine = false
  gen : d.scope.isGenerator = false
  nocell : ∀ x ∈ d.scope.names, x.2 ≠ .cell
  par : ∀ x ∈ ps, d.scope.names.lookup x = some .local
  free : ∀ x ∈ d.scope.names, x.2 = .free → x.1 ∈ fv
  fr : ∀ x ∈ fv, d.scope.names.lookup x = some .free
  nd : (ps ++ fv).Nodup
theorem mem_of_look {α β : Type} [BEq α] [LawfulBEq α] : ∀ {l : List (α × β)} {x : α} {u : β}, l.lookup x = some u → (x, u) ∈ l
  | [], _, _, h => by cases h
  | (y, w) :: r, x, u, h => by
    rw [List.lookup_cons] at h
    cases e : x == y with
    | true => rw [e] at h; cases h; rw [eq_of_beq e]; exact List.mem_cons_self ..
    | false => rw [e] at h; exact List.mem_cons_of_mem _ (mem_of_look h)
theorem inv_startL {P : Program} {w : World} {K : PySem.W.Frag} {mg : Str → Option Value} {base : Heap} {d : LamD} {fv ps : List Str} {clos : List (Str × Addr)} {f c : Addr} {A : Around} {outer : List Env} {s : Shared} {H : Hp} {us : List Value} {vs vals : List V} {h1 : Heap} {tk : Nat}
    (S : LamScope d fv ps) (hd : A.handled = none) (e0 : Env0 P w K mg base A outer s H) (hl : vs.length = ps.length) (r : Vals vs us) (hfv : clos.map (·.1) = fv) (hnd : (clos.map (·.2)).Nodup) (ca : CellsAt H clos vals)
    (hns : h1.Ns s.heap.objs.size (fun x => (ps.zip us).reverse.lookup x)) (hk : ∀ b o, s.heap.get? b = some o → h1.get? b = some o) :
    Inv (cxL P w K mg base (ps ++ fv) d clos f c A outer s H) [] ((vs ++ vals).map some) (untrs H (clos.map (·.2))) { s with heap := h1, toks := tk } := by
  have ndf : (clos.map (·.1)).Nodup := by rw [hfv]; exact (List.nodup_append.mp S.nd).2.1
  have ndp : ps.Nodup := (List.nodup_append.mp S.nd).1
  have lus : us.length = ps.length := by rw [← r.length]; exact hl
  have hin : ∀ x c', clos.lookup x = some c' → c' ∈ clos.map (·.2) := fun x c' e => List.mem_map.mpr ⟨(x, c'), mem_of_look e, rfl⟩
  have cellOf : ∀ b v, H b = some (.ext (CellX b v)) → ∃ u, RelV v u ∧ h1.IsCell b (some u) := fun b v e => by
    obtain ⟨⟨o, u, g1, g2, g3⟩, _⟩ := e0.hok b _ e
    exact ⟨u, g3, o, hk _ _ g1, g2⟩
  have noA : ∀ b : Addr, b ∉ (cxL P w K mg base (ps ++ fv) d clos f c A outer s H).ex := fun b z => absurd (show b ∈ ([] : List Addr) from z) (by simp)
  have lcl : clos.length = fv.length := by rw [← hfv, List.length_map]
  have lva : vals.length = clos.length := (Paired.length ca).symm
  refine ⟨⟨e0.mod, S.kind, rfl, rfl, Nat.le_refl _, fun y z c' h1 h2 => ?_, fun y hy => ?_, fun y c' h => (Bool.false_ne_true h).elim, fun _ => hd, Around.frames_deeper e0.frames, .inr ⟨rfl, rfl⟩, fun b z => absurd z (noA b), fun b o e => ⟨(e0.bs b o e).1, untrs_none (e0.bs b o e).2⟩, e0.bsz, fun b _ _ => noA b, fun b z => absurd z (noA b), e0.funs, fun b hb => untrs_none (e0.frf b hb)⟩,
    rfl, e0.bare, Un.kept hk, ⟨_, hns, fun i y v g1 g2 g3 => ?_⟩, fun y c' h => ?_, untrs_none (e0.hok.fresh (Nat.le_refl _)), fun y c' h => untrs_in (hin y c' h), fun p hp => absurd (show p ∈ ([] : List (Addr × Obj)) from hp) (by simp), fun b u e => ?_, ?_⟩
  · have h1 : clos.lookup y = some c' := h1
    have h2 : clos.lookup z = some c' := h2
    have e1 := mem_of_look h1
    have e2 := mem_of_look h2
    have nd2 : ((clos.map fun p => (p.2, p.1)).map (·.1)).Nodup := by rw [List.map_map]; exact hnd
    have := fst_inj nd2 (c', y) (List.mem_map.mpr ⟨_, e1, rfl⟩) (c', z) (List.mem_map.mpr ⟨_, e2, rfl⟩) rfl
    exact congrArg Prod.snd this
  · have hy : d.scope.names.lookup y = some .cell ∨ d.scope.names.lookup y = some .free := hy
    rcases hy with hy | hy
    · exact absurd rfl (S.nocell _ (mem_of_look hy))
    · have := S.free _ (mem_of_look hy) rfl
      rw [← hfv] at this
      obtain ⟨p, hp, e⟩ := List.mem_map.mp this
      have e' : p.1 = y := e
      exact ⟨p.2, lookup_of_mem ndf (by show (y, p.2) ∈ clos; rw [← e']; exact hp)⟩
  · have g1 : (ps ++ fv)[i]? = some y := g1
    by_cases hi : i < ps.length
    · rw [List.getElem?_append_left hi] at g1
      rw [List.getElem?_map, List.getElem?_append_left (by omega)] at g2
      have g2' : vs[i]? = some v := by
        cases q : vs[i]? with
        | none => rw [q] at g2; cases g2
        | some x => rw [q] at g2; cases g2; rfl
      obtain ⟨u, hu, rv⟩ := r.get g2'
      refine ⟨u, rv, .inl ⟨S.par y (List.mem_of_getElem? g1), ?_⟩⟩
      have mem : (y, u) ∈ ps.zip us := List.mem_of_getElem? (i := i) (by rw [List.getElem?_zip_eq_some]; exact ⟨g1, hu⟩)
      refine lookup_of_mem ?_ (List.mem_reverse.mpr mem)
      rw [List.map_reverse]
      refine nodup_rev ?_
      have : (ps.zip us).map (·.1) = ps := by rw [List.map_fst_zip]; omega
      rw [this]
      exact ndp
    · rw [List.getElem?_append_right (by omega)] at g1
      rw [List.getElem?_map, List.getElem?_append_right (by omega)] at g2
      have g2' : vals[i - ps.length]? = some v := by
        rw [hl] at g2
        cases q : vals[i - ps.length]? with
        | none => rw [q] at g2; cases g2
        | some x => rw [q] at g2; cases g2; rfl
      obtain ⟨p, hp, e⟩ := ca.get g2'
      rw [← hfv, List.getElem?_map, hp] at g1
      cases g1
      obtain ⟨u, rv, ic⟩ := cellOf _ _ e
      have hmem := List.mem_of_getElem? hp
      refine ⟨u, rv, .inr ⟨.inr (S.fr p.1 ?_), p.2, lookup_of_mem ndf hmem, ic⟩⟩
      rw [← hfv]
      exact List.mem_map.mpr ⟨p, hmem, rfl⟩
  · obtain ⟨v, e⟩ := ca.at (hin y c' h)
    obtain ⟨u, _, ic⟩ := cellOf _ _ e
    exact ⟨_, ic⟩
  · by_cases hb : b ∈ clos.map (·.2)
    · rw [untrs_in hb] at e; cases e
    · rw [untrs_out hb] at e
      refine (e0.hok b u e).stay (fun b' u' _ q => hk b' u' q) (fun b' q => ?_) fun b' xs q => ?_
      · exact untrs_of ca q fun v z => nomatch z
      · exact untrs_of ca q fun v z => nomatch z
  · show ((vs ++ vals).map some).length = (ps ++ fv).length
    rw [List.length_map, List.length_append, List.length_append]
    omega
end L2
set_option Elab.async false
set_option linter.all false
set_option maxRecDepth 100000
set_option maxHeartbeats 4000000
namespace L2
open PySem PySem.Spec PyProof.Rows
section
variable {P : Program} {w : World} {K : PySem.W.Frag} {mg : Str → Option Value} {base : Heap}
theorem lam_of {d : LamD} {fv ps : List Str} {k : Nat} {sp : List V → Sp} (S : LamScope d fv ps)
    (hbind : ∀ (pm ctv : Value) (clos : List (Str × Addr)) (c : Addr) (us : List Value), us.length = ps.length → bindArgs (PySem.W.kla_fn "<lambda>" d.qual d.params d.body d.scope clos pm (.ref c) ctv) ⟨us, []⟩ = pure (ps.zip us))
    (len : ∀ vals vs H Q E, sp vals vs H Q E → vs.length = ps.length)
    (hbody : ∀ (A : Around) (outer : List Env) (s : Shared) (H : Hp) (f c : Addr) (clos : List (Str × Addr)) (vals vs : List V) (Q : VK) (E : XK), Room k (A.deeper (lamEnv d s.heap.objs.size f c clos)) → clos.map (·.1) = fv → CellsAt H clos vals → sp vals vs H Q E →
      ∃ t, PE (cxL P w K mg base (ps ++ fv) d clos f c A outer s H) d.body t ∧ t ((vs ++ vals).map some) (untrs H (clos.map (·.2))) (fun v H' => ∀ H3, Same H' H3 → (∀ p ∈ clos, H3 p.2 = H p.2) → Q v H3)) :
    LamOk P w K mg base (k + 1) d fv ps sp := by
  intro A outer s H f c clos us vs vals Q E hr e0 hf hc hfv hnd ca r hsp
  have hl := len _ _ _ _ _ hsp
  have lus : us.length = ps.length := by rw [← r.length]; exact hl
  obtain ⟨⟨pm, ctv, ef⟩, _, _⟩ := e0.hok f _ hf
  obtain ⟨⟨oc, cvs, ct, ec, ed, ev⟩, _, _⟩ := e0.hok c _ hc
  have lim : s.heap.NoLimit := e0.mod.nolimit.keeps fun b o e => (e0.bs b o e).1
  obtain ⟨t, ht, hq⟩ := hbody A outer s H f c clos vals vs Q E (hr.deeper _) hfv ca hsp
  refine PySem.W.kla_callFunE (body := d.body) hr.depth ef rfl S.co S.gen rfl ⟨c, oc, cvs, ct, rfl, ec, ed, ev⟩ ?_
  rw [hbind pm ctv clos c us lus]
  refine wpAny_pure (wpAny_newFunctionEnv S.nocell (fun y hy => S.par y.1 (List.of_mem_zip hy).1) (fun h1 hns hsb => ?_) S.kind)
  have hk : ∀ b o, s.heap.get? b = some o → h1.get? b = some o := fun b o e => hsb.extBut b o (Nat.ne_of_lt (Heap.lt_size e)) (Heap.get?_push_of_some _ e)
  refine ⟨lim.fresh _ hsb, ?_⟩
  show codeAny _ _ (.expr d.body (lamEnv d s.heap.objs.size f c clos)) _ _
  have I := inv_startL (f := f) (c := c) (tk := s.toks + (ps.zip us).length) S hr.hd e0 hl r hfv hnd ca hns hk
  refine PySem.W.kla_codeExpr (wpAny_mono (ht [] _ _ _ _ I hq) (fun u s' hs => ?_) fun e s' z => False.elim z)
  obtain ⟨v, H', J, rv, q⟩ := hs
  obtain ⟨cs, hcs⟩ : ∃ cs, cs = clos.map (·.2) := ⟨_, rfl⟩
  have ub : Un (frs outer) [] (untrs H (clos.map (·.2))) H' s.heap s'.heap := J.base
  have hat : ∀ b, b ∈ clos.map (·.2) → ∃ o v, s.heap.get? b = some o ∧ H b = some (.ext (CellX b v)) := fun b hb => by
    obtain ⟨v, e⟩ := ca.at hb
    obtain ⟨⟨o, _, g, _⟩, _⟩ := e0.hok b _ e
    exact ⟨o, v, g, e⟩
  have hfr : ∀ b ∈ clos.map (·.2), H' b = none := fun b hb => by
    obtain ⟨o, v, g, _⟩ := hat b hb
    exact ub.free b o g (untrs_in hb) (by simp)
  let H3 : Hp := fun b => if b ∈ clos.map (·.2) then H b else H' b
  have g1 : ∀ b, b ∈ clos.map (·.2) → H3 b = H b := fun b hb => if_pos hb
  have g2 : ∀ b, b ∉ clos.map (·.2) → H3 b = H' b := fun b hb => if_neg hb
  have sm : Same H' H3 := fun b o e => by
    rw [g2 b fun z => by rw [hfr b z] at e; cases e]
    exact e
  have up : ∀ b o, H b = some o → (∀ v, o ≠ .ext (CellX b v)) → b ∉ clos.map (·.2) := fun b o e n z => by
    obtain ⟨v, e'⟩ := ca.at z
    rw [e] at e'
    exact n v (Option.some.inj e')
  refine ⟨v, H3, J.os, J.bare, ⟨fun b o e n hb hx => ub.keep b o e (untrs_none n) hb hx, fun b o e n hb hx => ub.slot b o e (untrs_none n) hb hx, fun b o e n hx => ?_, ub.there, fun b xs e => ?_, fun b o u e => ?_, fun b ps' e => ?_⟩, fun b o e => ?_, rv, q H3 sm fun p hp => g1 p.2 (List.mem_map.mpr ⟨p, hp, rfl⟩)⟩
  · rw [g2 b fun z => by obtain ⟨_, v, _, e'⟩ := hat b z; rw [n] at e'; cases e']
    exact ub.free b o e (untrs_none n) hx
  · exact sm _ _ (ub.tups b xs (untrs_of ca e fun v z => nomatch z))
  · exact sm _ _ (ub.frzs b o u (untrs_of ca e fun v z => nomatch z))
  · obtain ⟨more, z⟩ := ub.tbls b ps' (untrs_of ca e fun v z => nomatch z)
    exact ⟨more, sm _ _ z⟩
  · by_cases hb : b ∈ clos.map (·.2)
    · rw [g1 b hb] at e
      obtain ⟨o', v', g, e'⟩ := hat b hb
      rw [e] at e'
      cases e'
      obtain ⟨⟨o2, u2, k1, k2, k3⟩, _⟩ := e0.hok b _ e
      refine cellX_ok ⟨o2, u2, ub.keep b o2 k1 (untrs_in hb) (fun z => ?_) (by simp), k2, k3⟩
      rw [e0.frf b z] at e
      cases e
    · rw [g2 b hb] at e
      refine (J.hok b o e).stay (fun b' u' _ q => q) (fun b' q => sm _ _ q) fun b' xs q => sm _ _ q
end
theorem PE.or {X : Cx} {e : Expr} {t t' : TE} (h : PE X e t) (h' : PE X e t') : PE X e (fun σ H Q => t σ H Q ∨ t' σ H Q) := fun pins s σ H Q I q => q.elim (h pins s σ H Q I) (h' pins s σ H Q I)
def rLam (d : LamD) (fv : List Str) (sp : List V → Sp) : V → List V → Hp → VK → Prop := fun v vs H Q => ∃ f c clos vals, v = .ref f ∧ H f = some (.ext (LamX f d clos c)) ∧ H c = some (.ext (CodeX c d.qual)) ∧ clos.map (·.1) = fv ∧ (clos.map (·.2)).Nodup ∧ CellsAt H clos vals ∧ sp vals vs H Q fun _ _ _ => False
def tCallL (d : LamD) (fv : List Str) (sp : List V → Sp) (tf : TE) (t : TA) : TE := fun σ H Q => tf σ H fun v H1 => (∃ f d' clos c, v = .ref f ∧ H1 f = some (.ext (LamX f d' clos c))) ∧ t σ H1 fun vs H2 => (∀ f d' clos c, v = .ref f → H1 f = some (.ext (LamX f d' clos c)) → H2 f = some (.ext (LamX f d' clos c))) ∧ rLam d fv sp v vs H2 Q
section
variable {X : Cx} {d : LamD} {fv ps : List Str} {k : Nat} {sp : List V → Sp} {x : Str} {p pos : Pos} {tf : TE} {t : TA} {e : Expr} {es : List Expr}
theorem run_lam {pins : List (Addr × Obj)} {σ : St} {H : Hp} {s : Shared} {Q : VK} {us : List Value} {vs : List V} {v : V} {u : Value} (L : LamOk X.prog X.w X.K X.mg X.base k d fv ps sp) (hr : Room k X.A) (I : Inv X pins σ H s) (rv : RelV v u) (r : Vals vs us) (h : rLam d fv sp v vs H Q) :
    wpAny (model X.prog X.w) X.A (call u us) (EP X pins σ Q) X.xe s := by
  obtain ⟨f, c, clos, vals, rfl, hf, hc, h1, h2, h3, h4⟩ := h
  obtain rfl : u = Value.ref f := rv
  refine wpAny_call (codeAny_mono (L X.A X.stack s H f c clos us vs vals Q _ hr I.env0 hf hc h1 h2 h3 r h4) fun r s' hq => ?_)
  cases r with
  | error e => exact False.elim hq
  | ok fl =>
    cases fl with
    | ret u => exact I.after hq
    | next => exact False.elim hq
    | brk => exact False.elim hq
    | cont => exact False.elim hq
theorem fnAt_of {H : Hp} {s : Shared} {P : Program} {w : World} {f c : Addr} {d : LamD} {clos : List (Str × Addr)} (ok : HOk P w H s.heap) (hf : H f = some (.ext (LamX f d clos c))) : PySem.W.FnAt f s.heap := by
  obtain ⟨⟨pm, ctv, ef⟩, _, _⟩ := ok f _ hf
  exact ⟨_, _, _, _, ef⟩
theorem pe_callL (hn : PE X (.Name x p) tf) (L : LamOk X.prog X.w X.K X.mg X.base k d fv ps sp) (hr : Room k X.A) (ha : PA X (e :: es) t)
    (he : starEach (e :: es) X.env = (false, eval e X.env) :: starEach es X.env := by rfl) (hpl : (backTo pos (starEach es X.env)).any (·.1) = false := by rfl) : PE X (.Call (.Name x p) (e :: es) [] pos) (tCallL d fv sp tf t) := by
  intro pins s σ H Q I h
  refine wpAny_Call_Name_kw (thn (hn pins s σ H _ I h) fun u s1 ⟨v, H1, I1, rv, ⟨f, d', clos, c, ef, hf⟩, q⟩ => ?_)
  subst ef
  obtain rfl : u = Value.ref f := rv
  refine PySem.W.callWith_F (fnAt_of I1.hok hf) (thn (ha pos pins s1 σ H1 _ I1 q) fun us s2 ⟨vs, H2, I2, r, q2⟩ => ⟨fnAt_of I2.hok (q2.1 _ _ _ _ rfl hf), ?_⟩) he hpl
  exact run_lam L hr I2 (v := .ref f) rfl r q2.2
theorem pe_callL0 (hn : PE X (.Name x p) tf) (L : LamOk X.prog X.w X.K X.mg X.base k d fv ps sp) (hr : Room k X.A) : PE X (.Call (.Name x p) [] [] pos) (fun σ H Q => tf σ H fun v H1 => rLam d fv sp v [] H1 Q) := by
  intro pins s σ H Q I h
  refine wpAny_Call_Name_kw (thn (hn pins s σ H _ I h) fun u s1 ⟨v, H1, I1, rv, q⟩ => ?_)
  obtain ⟨f, c, clos, vals, ef, hf, _⟩ := id q
  subst ef
  obtain rfl : u = Value.ref f := rv
  exact PySem.W.callWith_F0 (fnAt_of I1.hok hf) (run_lam (us := []) L hr I1 (v := .ref f) rfl .nil q)
end
end L2
set_option Elab.async false
set_option linter.all false
set_option maxRecDepth 100000
set_option maxHeartbeats 4000000
namespace L2
open PySem PySem.Spec PyProof.Rows
abbrev TR := VK → (V → St → Hp → Prop) → St → Hp → Prop
def PR (X : Cx) (sts : List Stmt) (t : TR) : Prop :=
  ∀ (pins : List (Addr × Obj)) (s : Shared) (σ : St) (H : Hp) (R : VK) (Z : V → St → Hp → Prop), Inv X pins σ H s → t R Z σ H →
    wpAny (model X.prog X.w) X.A (execs sts X.env) (fun f s' => ∃ u, f = .ret u ∧ ((∃ v σ' H', Inv X pins σ' H' s' ∧ RelV v u ∧ (R v H' ∨ Z v σ' H')) ∨ ∃ v H', s'.os = X.s₀.os ∧ AllBare s'.gens ∧ Un X.fs X.ex X.H₀ H' X.s₀.heap s'.heap ∧ HOk X.prog X.w H' s'.heap ∧ RelV v u ∧ R v H')) X.xe s
section
variable {X : Cx} {e : Expr} {te : TE} {pos : Pos} {st : Stmt} {rest : List Stmt} {t : TS} {u : TR}
theorem pr_ret (he : PE X e te) : PR X [.Return (some e) pos] (fun _ Z σ H => te σ H fun v H' => Z v σ H') := by
  intro pins s σ H R Z I h
  refine wpAny_execs_cons (wpAny_Return_some (thn (he pins s σ H _ I h) fun v s1 ⟨x, H1, I1, r1, q1⟩ => ?_))
  exact ⟨v, rfl, .inl ⟨x, σ, H1, I1, r1, .inr q1⟩⟩
theorem pr_cons (h1 : PS X st t) (h2 : PR X rest u) : PR X (st :: rest) (fun R Z σ H => t { nx := u R Z, rt := R } σ H) := by
  intro pins s σ H R Z I h
  refine wpAny_execs_cons (thn (h1 pins s σ H { nx := u R Z, rt := R } I h) fun f s1 q => ?_)
  cases f with
  | next =>
    obtain ⟨σ', H', I', q⟩ := q
    exact h2 pins s1 σ' H' R Z I' q
  | ret v =>
    obtain ⟨v', σ', H', I', r, q⟩ := q
    exact ⟨v, rfl, .inl ⟨v', σ', H', I', r, .inl q⟩⟩
  | brk => obtain ⟨_, _, _, q⟩ := q; exact False.elim q
  | cont => obtain ⟨_, _, _, q⟩ := q; exact False.elim q
end
def CellsOf (cells : List (Str × Addr)) (N : List Str) (σ : St) (H3 : Hp) : Prop := ∀ (i : Nat) (y : Str) (v : V) (c : Addr), N[i]? = some y → σ[i]? = some (some v) → cells.lookup y = some c → H3 c = some (.ext (CellX c v))
theorem cells_mem {y : Str} {c : Addr} : ∀ (names : List (Str × NameKind)) (n : Nat) (acc : List (Str × Addr)), (y, c) ∈ cellsFrom n names acc → (y, c) ∈ acc ∨ (y, NameKind.cell) ∈ names
  | [], n, acc, h => .inl h
  | (x, k) :: r, n, acc, h => by
    unfold cellsFrom at h
    split at h
    · rename_i hk
      rcases cells_mem r (n + 1) ((x, n) :: acc) h with z | z
      · rcases List.mem_cons.mp z with e | z
        · cases e
          rw [eq_of_beq hk]
          exact .inr (List.mem_cons_self ..)
        · exact .inl z
      · exact .inr (List.mem_cons_of_mem _ z)
    · rcases cells_mem r n acc h with z | z
      · exact .inl z
      · exact .inr (List.mem_cons_of_mem _ z)
section
variable {P : Program} {w : World} {K : PySem.W.Frag} {mg : Str → Option Value} {base : Heap}
theorem track {CX : CXT} {N : List Str} {qual : Str} {scope : Scope} {f : Addr} {cd : Value} {A : Around} {outer : List Env} {s s' : Shared} {H H' : Hp} {E : XK} {σ : St} (hN : N.Nodup) (hck : ∀ p ∈ scope.names, p.2 = .cell → scope.names.lookup p.1 = some .cell)
    {pins : List (Addr × Obj)} (J : Inv (cxOf CX P w K mg base N qual scope f cd A outer s H E) pins σ H' s') :
    ∃ H3, Same H' H3 ∧ CellsOf (cellsFrom (s.heap.objs.size + 1) scope.names []) N σ H3 ∧ (∀ b, H' b = none → H3 b ≠ none → ∃ y, (cellsFrom (s.heap.objs.size + 1) scope.names []).lookup y = some b) ∧ Un (frs outer) [] H H3 s.heap s'.heap ∧ HOk P w H3 s'.heap := by
  have hvis : ∀ y c, (cellsFrom (s.heap.objs.size + 1) scope.names []).lookup y = some c → scope.names.lookup y = some .cell := fun y c e => by
    rcases cells_mem _ _ _ (mem_of_look e) with z | z
    · cases z
    · exact hck _ z rfl
  obtain ⟨cells, hcells⟩ : ∃ l, l = cellsFrom (s.heap.objs.size + 1) scope.names [] := ⟨_, rfl⟩
  rw [← hcells] at hvis ⊢
  have henv : (cxOf CX P w K mg base N qual scope f cd A outer s H E).env.cells = cells := hcells.symm
  let G : Addr → V → Prop := fun b v => ∃ (i : Nat) (y : Str), N[i]? = some y ∧ σ[i]? = some (some v) ∧ cells.lookup y = some b
  have G1 : ∀ b v v', G b v → G b v' → v = v' := by
    rintro b v v' ⟨i, y, a1, a2, a3⟩ ⟨j, z, b1, b2, b3⟩
    have : y = z := J.ok.inj y z b (by rw [henv]; exact a3) (by rw [henv]; exact b3)
    subst this
    have : i = j := nodup_ix hN a1 b1
    subst this
    rw [a2] at b2
    cases b2
    rfl
  have G2 : ∀ b v, G b v → H' b = none ∧ s.heap.objs.size ≤ b ∧ CellX b v s'.heap := by
    rintro b v ⟨i, y, a1, a2, a3⟩
    refine ⟨J.freeC y b (by rw [henv]; exact a3), J.ok.cab y b rfl (by rw [henv]; exact a3), ?_⟩
    obtain ⟨m, hn, hl⟩ := J.loc
    obtain ⟨u, r, l⟩ := hl i y v a1 a2 (.inr (.inl (hvis y b a3)))
    rcases l with ⟨k, _⟩ | ⟨k, c, e, o, ho, hd⟩
    · exfalso
      have k : scope.names.lookup y = some .local := k
      rw [hvis y b a3] at k
      cases k
    · have e : cells.lookup y = some c := by rw [← henv]; exact e
      rw [a3] at e
      cases e
      exact ⟨o, u, ho, hd, r⟩
  classical
  let H3 : Hp := fun b => if h : ∃ v, G b v then some (.ext (CellX b (Classical.choose h))) else H' b
  have g1 : ∀ b v, G b v → H3 b = some (.ext (CellX b v)) := fun b v h => by
    have hx : ∃ v, G b v := ⟨v, h⟩
    show (if h : ∃ v, G b v then some (.ext (CellX b (Classical.choose h))) else H' b) = _
    rw [dif_pos hx, G1 b _ v (Classical.choose_spec hx) h]
  have g2 : ∀ b, (¬ ∃ v, G b v) → H3 b = H' b := fun b h => dif_neg h
  have sm : Same H' H3 := fun b o e => by
    rw [g2 b fun ⟨v, z⟩ => by rw [(G2 b v z).1] at e; cases e]
    exact e
  have jb : Un (frs outer) [] H H' s.heap s'.heap := J.base
  refine ⟨H3, sm, fun i y v c a1 a2 a3 => g1 c v ⟨i, y, a1, a2, a3⟩, (fun b n1 n2 => ?_), ⟨jb.keep, jb.slot, fun b o e n hx => ?_, jb.there, fun b xs e => sm _ _ (jb.tups b xs e), fun b o u e => sm _ _ (jb.frzs b o u e), fun b ps e => ?_⟩, fun b o e => ?_⟩
  · by_cases h : ∃ v, G b v
    · obtain ⟨v, i, y, _, _, a3⟩ := h
      exact ⟨y, a3⟩
    · rw [g2 b h] at n2
      exact absurd n1 n2
  · rw [g2 b fun ⟨v, z⟩ => absurd (Nat.lt_of_lt_of_le (Heap.lt_size e) (G2 b v z).2.1) (Nat.lt_irrefl _)]
    exact jb.free b o e n hx
  · obtain ⟨more, z⟩ := jb.tbls b ps e
    exact ⟨more, sm _ _ z⟩
  · by_cases h : ∃ v, G b v
    · obtain ⟨v, h⟩ := h
      rw [g1 b v h] at e
      cases e
      exact cellX_ok (G2 b v h).2.2
    · rw [g2 b h] at e
      exact (J.hok b o e).stay (fun b' u' _ q => q) (fun b' q => sm _ _ q) fun b' xs q => sm _ _ q
theorem pr_retC {N : List Str} {qual : Str} {scope : Scope} {f : Addr} {cd : Value} {A : Around} {outer : List Env} {s : Shared} {H : Hp} {E : XK} {k : Nat} {g : Addr} {fd : FuncData} {ps : List Str} {sp : Sp} {ds : List Value} {dvs : List V} {x : Str} {p pos rp : Pos} {e : Expr} {es : List Expr} {t : TA}
    (hN : N.Nodup) (hck : ∀ p ∈ scope.names, p.2 = .cell → scope.names.lookup p.1 = some .cell)
    (F : FnOk P w K mg base CX0 k g fd ps sp) (hr : Room k (cxOf CX0 P w K mg base N qual scope f cd A outer s H E).nox.A) (hg : Gl (cxOf CX0 P w K mg base N qual scope f cd A outer s H E).nox x) (hm : mg x = some (.ref g)) (hk : PySem.W.keepIn K (.ref g) = true) (hb : Binds K fd ps ds) (hd : Vals dvs ds)
    (ha : PA (cxOf CX0 P w K mg base N qual scope f cd A outer s H E).nox (e :: es) t) (hdb : (x == ("__debug__" : Str)) = false := by decide)
    (he : starEach (e :: es) (cxOf CX0 P w K mg base N qual scope f cd A outer s H E).nox.env = (false, eval e (cxOf CX0 P w K mg base N qual scope f cd A outer s H E).nox.env) :: starEach es (cxOf CX0 P w K mg base N qual scope f cd A outer s H E).nox.env := by rfl)
    (hpl : (backTo pos (starEach es (cxOf CX0 P w K mg base N qual scope f cd A outer s H E).nox.env)).any (·.1) = false := by rfl) :
    PR (cxOf CX0 P w K mg base N qual scope f cd A outer s H E).nox [.Return (some (.Call (.Name x p) (e :: es) [] pos)) rp]
      (fun R _ σ H' => t σ H' fun vs H1 => ∀ H3, Same H1 H3 → CellsOf (cellsFrom (s.heap.objs.size + 1) scope.names []) N σ H3 → sp (vs ++ dvs) H3 R fun _ _ _ => False) := by
  intro pins s1 σ H1 R Z I h
  refine wpAny_execs_cons (wpAny_Return_some ?_)
  refine wpAny_Call_Name_kw (ld_glob I hg hm ?_ hdb)
  refine PySem.W.callWith_K (h₀ := base) I.ok.mod.kin hk (thn (ha pos pins s1 σ H1 _ I h) fun us s2 ⟨vs, H2, I2, r, q⟩ => ⟨I2.kIn, ?_⟩) he hpl
  have J : Inv (cxOf CX0 P w K mg base N qual scope f cd A outer s H E) pins σ H2 s2 := I2.unwish
  obtain ⟨H3, sm, hc, hnew, un, hok⟩ := track hN hck J
  have r2 : Vals (vs ++ dvs) (us ++ ds) := r.append hd
  have q' := q H3 sm hc
  have hl : (us ++ ds).length = ps.length := by rw [← r2.length]; exact F.len _ _ _ _ q'
  have hL : ∀ b ∈ frs (envOfC qual scope s.heap.objs.size f cd :: outer), b = s.heap.objs.size ∨ b ∈ frs outer := fun b hb => by
    have : b ∈ s.heap.objs.size :: frs outer := hb
    exact List.mem_cons.mp this
  have e0 : Env0 P w K mg base (cxOf CX0 P w K mg base N qual scope f cd A outer s H E).A (envOfC qual scope s.heap.objs.size f cd :: outer) s2 H3 := by
    have z := J.env0
    refine ⟨z.frames, z.mod, fun b o e => ⟨(z.bs b o e).1, un.free b o (J.ok.bs b o e).1 (J.ok.bs b o e).2 (by simp)⟩, z.bsz, z.funs, fun b hb => ?_, hok, z.bare⟩
    cases q3 : H3 b with
    | none => rfl
    | some o =>
      obtain ⟨y, hy⟩ := hnew b (z.frf b hb) (by rw [q3]; simp)
      rcases hL b hb with rfl | hb'
      · exact absurd rfl (J.cne y _ hy)
      · obtain ⟨_, o', ho', _⟩ := J.ok.funs.mem hb'
        have := J.ok.cab y b rfl hy
        exact absurd (Nat.lt_of_lt_of_le (Heap.lt_size ho') this) (Nat.lt_irrefl _)
  refine wpAny_call (codeAny_mono (F.run _ _ s2 H3 ⟨us, []⟩ (us ++ ds) (vs ++ dvs) R _ hr e0 (hb s2 us J.kIn hl) r2 q') fun rr s' hq => ?_)
  cases rr with
  | error e => exact False.elim hq
  | ok fl =>
    cases fl with
    | ret u =>
      obtain ⟨v, H4, os, bare, un2, hok4, rv, qq⟩ := hq
      have hout : ∀ b o, s.heap.get? b = some o → b ∉ frs outer → b ∉ frs (envOfC qual scope s.heap.objs.size f cd :: outer) := fun b o e n z => by
        rcases hL b z with rfl | z
        · exact absurd (Heap.lt_size e) (Nat.lt_irrefl _)
        · exact n z
      have hin : ∀ b, b ∈ frs outer → b ∈ frs (envOfC qual scope s.heap.objs.size f cd :: outer) := fun b z => by
        show b ∈ s.heap.objs.size :: frs outer
        exact List.mem_cons_of_mem _ z
      refine ⟨u, rfl, .inr ⟨v, H4, os.trans J.os, bare, ⟨fun b o e n hb hx => un2.keep b o (un.keep b o e n hb hx) (un.free b o e n hx) (hout b o e hb) hx, fun b o e n hb hx => ?_, fun b o e n hx => ?_, fun b o e hx => ?_, fun b xs e => un2.tups b xs (un.tups b xs e), fun b o u e => un2.frzs b o u (un.frzs b o u e), fun b qs e => ?_⟩, hok4, rv, qq⟩⟩
      · obtain ⟨sl, e1⟩ := un.slot b o e n hb hx
        obtain ⟨sl', e2⟩ := un2.slot b _ e1 (un.free b o e n hx) (hin b hb) hx
        exact ⟨sl', e2⟩
      · obtain ⟨o', e1⟩ := un.there b o e hx
        exact un2.free b o' e1 (un.free b o e n hx) hx
      · obtain ⟨o', e1⟩ := un.there b o e hx
        exact un2.there b o' e1 hx
      · obtain ⟨m1, e1⟩ := un.tbls b qs e
        obtain ⟨m2, e2⟩ := un2.tbls b _ e1
        exact ⟨m1 ++ m2, by rw [e2, Array.append_assoc]⟩
    | next => exact False.elim hq
    | brk => exact False.elim hq
    | cont => exact False.elim hq
theorem Fun.okL {x qual : Str} {st : Stmt} {f c : Addr} {fd : FuncData} {N ps : List Str} {k : Nat} {sp : Sp} (F : Fun K x qual st f fd) (hc : fd.code = .ref c) (S : FnScope N ps (defScope st)) (hck : ∀ p ∈ (defScope st).names, p.2 = .cell → (defScope st).names.lookup p.1 = some .cell)
    (len : ∀ vs H Q E, sp vs H Q E → vs.length = ps.length)
    (hbody : ∀ (A : Around) (outer : List Env) (s : Shared) (H : Hp) (vs : List V) (Q : VK) (E : XK), Room k (A.deeper (envOfC qual (defScope st) s.heap.objs.size f (.ref c))) → sp vs H Q E →
      ∃ t, PR (cxOf CX0 P w K mg base N qual (defScope st) f (.ref c) A outer s H E).nox (defBody st) t ∧ t Q (fun v σ H' => ∀ H3, Same H' H3 → CellsOf (cellsFrom (s.heap.objs.size + 1) (defScope st).names []) N σ H3 → Q v H3) (start N vs) H) : FnOk P w K mg base CX0 (k + 1) f fd ps sp := by
  obtain ⟨oc, od, kV, doc, pm, an, cdv, ct, osl, rfl, lk, hcd⟩ := F.ex
  obtain rfl : cdv = .ref c := hc
  refine ⟨len, fun A outer s H args us vs Q E hr e0 hb r hsp => ?_⟩
  have hl := len _ _ _ _ hsp
  have KX : K.In s.heap := e0.mod.kin.keeps fun b o e => (e0.bs b o e).1
  have lim : s.heap.NoLimit := e0.mod.nolimit.keeps fun b o e => (e0.bs b o e).1
  have hkind : ∀ y ∈ ps.zip us, (defScope st).names.lookup y.1 = some .local ∨ ((defScope st).names.lookup y.1 = some .cell ∧ ((cellsFrom (s.heap.objs.size + 1) (defScope st).names []).lookup y.1).isSome = true) := fun ⟨n, v⟩ hy => by
    rcases S.par n (List.of_mem_zip hy).1 with q | q
    · exact .inl q
    · exact .inr ⟨q, PySem.W.cellsFrom_some _ _ _ (.inl q)⟩
  refine codeAny_call_function hr.depth (KX _ _ lk) rfl S.co S.gen rfl (PySem.W.codeRec_of KX hcd) (hb _ _ _ _ ?_)
  refine wpAny_newFunctionEnv_cells S.kind hkind fun env he s1 x => ?_
  subst he
  refine ⟨lim.keeps x.toInCall.keep, codeAny_func ?_⟩
  obtain ⟨t, ht, hq⟩ := hbody A outer s H vs Q E (hr.deeper _) hsp
  have I : Inv (cxOf CX0 P w K mg base N qual (defScope st) f (.ref c) A outer s H E) [] (start N vs) H s1 := inv_start S hr.hd e0 hl r x
  refine wpAny_mono (ht [] s1 (start N vs) H Q _ (I.wish _) hq) (fun fl s' hs => ?_) fun e s' hs => False.elim hs
  obtain ⟨u, rfl, ⟨v, σ', H', J, rv, q⟩ | ⟨v, H', g1, g2, g3, g4, rv, q⟩⟩ := hs
  · have J := J.unwish
    rcases q with q | q
    · exact ⟨v, H', J.os, J.bare, J.base, J.hok, rv, q⟩
    · obtain ⟨H3, h1, h2, _, h3, h4⟩ := track S.nd hck J
      exact ⟨v, H3, J.os, J.bare, h3, h4, rv, q H3 h1 h2⟩
  · exact ⟨v, H', g1, g2, g3, g4, rv, q⟩
end
end L2
set_option Elab.async false
set_option linter.all false
set_option maxRecDepth 100000
set_option maxHeartbeats 4000000
namespace L2
open PySem PySem.Spec PyProof.Rows
theorem law_callT {P : Program} {w : World} {K : PySem.W.Frag} {mg mb : Str → Option Value} {CX : CXT} {k : Nat} {fa a : Addr} {fd : FuncData} {x : Str} {sp : Sp} {s₁ : Shared} {vs : List Value} {ns : List Int} {ts : List Addr}
    (KX : K.In s₁.heap) (hns : s₁.heap.Ns mainGlobals mg) (hb : s₁.heap.Ns builtinsNs mb) (hbb : ∀ x : Str, x ≠ "__name__" → mb x = bootBuiltins x) (hlim : s₁.heap.NoLimit) (hg : s₁.gens = #[])
    (ha : s₁.heap.get? a = some { cls := .type "list", data := .seq vs.toArray }) (hi : IntsAre vs ns) (hl : ns.length ≤ sizeLine) (hr : Room k callerA) (hbm : Bm mg s₁.heap)
    (htab : ∀ P ∈ ts, s₁.heap.get? P = some (PySem.W.tabObj #[])) (htc : ∀ P ∈ ts, ∃ c, PySem.W.codeHdIn K c P = true) (htK : ∀ P ∈ ts, K.lookup P = none)
    (F : ∀ base : Heap, K.In base → base.Ns mainGlobals mg → Bm mg base → FnOk P w K mg base CX k fa fd [x] sp) (hbind : ∀ (s : Shared) (u : Value), BindsTo s fd ⟨[u], []⟩ [(x, u)])
    (hsp : ∀ H : Hp, (∀ P ∈ ts, H P = some (.tbl #[])) → SqL K H a (ns.map V.int) → sp [.ref a] H (fun v _ => v = .bl true) fun _ _ _ => False)
    (hCX : ∀ H e s', CX [] H s₁ (fun _ _ _ => False) e s' → False) :
    codeAny (model P w) callerA (.call (.ref fa) ⟨[.ref a], []⟩) (fun r s' => r = .ok (.ret (.bool true)) ∧ OldK s₁.heap s'.heap ∧ s'.os = s₁.os ∧ AllBare s'.gens) s₁ := by
  have rv := vals_ints hi
  have lenV := hi.length
  have nat : a ∉ ts := fun z => by have := htab a z; rw [ha] at this; cases this
  have core : ∀ H : Hp, (∀ P ∈ ts, H P = some (.tbl #[])) → SqL K H a (ns.map V.int) → HOk P w H s₁.heap → (∀ b u, H b = some u → (b = a ∧ ∃ o xs, u = .frz o (.lst xs)) ∨ (b ∈ ts ∧ u = .tbl #[])) → (H a ≠ none → K.lookup a = none) →
      codeAny (model P w) callerA (.call (.ref fa) ⟨[.ref a], []⟩) (fun r s' => r = .ok (.ret (.bool true)) ∧ OldK s₁.heap s'.heap ∧ s'.os = s₁.os ∧ AllBare s'.gens) s₁ := by
    intro H hT hS hok hA hK
    have base_of : ∀ {b : Addr} {o : Obj}, s₁.heap.get? b = some o → H b = none → (hidT s₁.heap H).get? b = some o := fun e n => hidT_get e n
    have noA : ∀ {b : Addr} {o : Obj}, s₁.heap.get? b = some o → o.cls ≠ .none → (∀ its n, o.data ≠ .seq its n) → H b = none := fun {b o} e d1 d2 => by
      cases q : H b with
      | none => rfl
      | some u =>
        rcases hA b u q with ⟨rfl, _⟩ | ⟨hb, _⟩
        · rw [ha] at e; cases e; exact (d2 _ _ rfl).elim
        · rw [htab b hb] at e; cases e; exact (d1 rfl).elim
    have noD : ∀ {b : Addr} {o : Obj} {es : Array DictEntry} {ep : Nat}, s₁.heap.get? b = some o → o.data = .dict es ep → H b = none := fun {b o es ep} e d => by
      cases q : H b with
      | none => rfl
      | some u =>
        rcases hA b u q with ⟨rfl, _⟩ | ⟨hb, _⟩
        · rw [ha] at e; cases e
          have d' : Data.seq vs.toArray _ = Data.dict es ep := d
          cases d'
        · rw [htab b hb] at e; cases e; cases d
    have nsK : ∀ {b : Addr} {m : Str → Option Value}, s₁.heap.Ns b m → (hidT s₁.heap H).Ns b m := fun {b m} ⟨o, es, ep, e, d, r⟩ => ⟨o, es, ep, base_of e (noD e d), d, r⟩
    have hKb : K.In (hidT s₁.heap H) := fun b o e => base_of (KX b o e) (by
      cases q : H b with
      | none => rfl
      | some u =>
        rcases hA b u q with ⟨rfl, _⟩ | ⟨hb, _⟩
        · rw [hK (by rw [q]; simp)] at e; cases e
        · rw [htK b hb] at e; cases e)
    have hM : Mod K mg (hidT s₁.heap H) := ⟨hKb, nsK hns, ⟨mb, nsK hb, hbb⟩, let ⟨mc, h1, h2⟩ := hlim; ⟨mc, nsK h1, h2⟩⟩
    have hB : Bm mg (hidT s₁.heap H) := by
      obtain ⟨bm, ob, b1, b2, b3, b4, b5⟩ := hbm
      exact ⟨bm, ob, b1, base_of b2 (noA b2 (by rw [b3]; simp) (fun its n => by rw [b5]; intro z; cases z)), b3, b4, b5⟩
    have e0 : Env0 P w K mg (hidT s₁.heap H) callerA [] s₁ H := ⟨rfl, hM, fun b o e => of_hidT e, Nat.le_of_eq (hidT_size _ _), trivial, fun b hb => absurd (show b ∈ ([] : List Addr) from hb) (by simp), hok, .of_eq hg⟩
    refine codeAny_mono ((F _ hKb (nsK hns) hB).run callerA [] s₁ H ⟨[.ref a], []⟩ [.ref a] [.ref a] _ _ hr e0 (hbind s₁ (.ref a)) (.cons rfl .nil) (hsp H hT hS)) fun r s' h => ?_
    cases r with
    | error e => exact (hCX H e s' h).elim
    | ok fl =>
      cases fl with
      | next => exact False.elim h
      | brk => exact False.elim h
      | cont => exact False.elim h
      | ret u =>
        obtain ⟨v, H', os, bare, un, hok', r', q⟩ := h
        have q' : v = .bl true := q
        subst q'
        obtain rfl : u = Value.bool true := r'
        refine ⟨rfl, ⟨fun b o e => ?_, fun b o e => un.there b o e (by simp)⟩, os, bare⟩
        cases q : H b with
        | none => exact .inl (un.keep b o e q (by intro z; exact absurd (show b ∈ ([] : List Addr) from z) (by simp)) (by simp))
        | some u =>
          rcases hA b u q with ⟨_, ob, xs, rfl⟩ | ⟨hb, rfl⟩
          · have z2 := un.frzs b ob _ q
            obtain ⟨e1, _⟩ := hok b _ q
            obtain ⟨e2, _⟩ := hok' b _ z2
            rw [e] at e1; cases e1
            exact .inl e2
          · obtain ⟨c, hc⟩ := htc b hb
            have C := PySem.W.codeHd_of_K KX hc
            obtain ⟨more, z⟩ := un.tbls b _ q
            have z2 : s'.heap.get? b = some (PySem.W.tabObj (#[] ++ more)) := hok' b _ z
            rw [htab b hb] at e
            cases e
            exact .inr (.inl ⟨(C.tab (htab b hb)).isCodeTable, rfl, #[], more, rfl, z2⟩)
  let T : Hp := fun b => if b ∈ ts then some (.tbl #[]) else none
  cases hk : K.lookup a with
  | some o =>
    have e := KX a o hk
    rw [ha] at e
    cases e
    refine core T (fun P hP => if_pos hP) (.inr ⟨_, vs.toArray, _, hk, rfl, rfl, rfl, by rw [List.size_toArray, lenV]; exact hl, by simpa using rv⟩) (fun b u z => ?_) (fun b u z => ?_) fun z => absurd (if_neg nat) z
    · by_cases hb : b ∈ ts
      · have z' := (if_pos hb).symm.trans z
        cases z'
        exact htab b hb
      · have z' := (if_neg hb).symm.trans z
        cases z'
    · by_cases hb : b ∈ ts
      · have z' := (if_pos hb).symm.trans z
        cases z'
        exact .inr ⟨hb, rfl⟩
      · have z' := (if_neg hb).symm.trans z
        cases z'
  | none =>
    refine core (fun b => if b = a then some (.frz { cls := .type "list", data := .seq vs.toArray } (.lst (ns.map V.int))) else T b) (fun P hP => ?_) (.inl (.inr ⟨{ cls := .type "list", data := .seq vs.toArray }, if_pos rfl⟩)) (fun b u z => ?_) (fun b u z => ?_) fun _ => hk
    · have hne : P ≠ a := fun z => nat (by rw [← z]; exact hP)
      exact (if_neg hne).trans (if_pos hP)
    · by_cases hb : b = a
      · have z' := (if_pos hb).symm.trans z
        cases z'
        subst hb
        exact ⟨ha, by rw [List.length_map]; exact hl, vs, _, rv, ha⟩
      · have z' := (if_neg hb).symm.trans z
        by_cases hb : b ∈ ts
        · have z' := (if_pos hb).symm.trans z'
          cases z'
          exact htab b hb
        · have z' := (if_neg hb).symm.trans z'
          cases z'
    · by_cases hb : b = a
      · have z' := (if_pos hb).symm.trans z
        cases z'
        exact .inl ⟨hb, _, _, rfl⟩
      · have z' := (if_neg hb).symm.trans z
        by_cases hb : b ∈ ts
        · have z' := (if_pos hb).symm.trans z'
          cases z'
          exact .inr ⟨hb, rfl⟩
        · have z' := (if_neg hb).symm.trans z'
          cases z'
theorem walk_ofT {l : PySem.W.OpenLaw} {n k : Nat} {q : Program} {loose : List Str} {XP : (Str → Option Value) → Heap → Prop} {YP : World → Heap → Prop} {d : DefRec} {K : Params → PySem.W.Frag} {CX : CXT} {sp : PySem.W.Frag → List Addr → Sp} {x : Str} {ts : List Addr}
    (hn : l.most = some n) (hn2 : n ≤ sizeLine) (hdf : d.params.defaults = []) (hr : Room k callerA)
    (hY : ∀ (w : World) (h : Heap), YP w h → (K w.params).In h ∧ ∀ P ∈ ts, h.get? P = some (PySem.W.tabObj #[]))
    (F : ∀ (ts' : List Addr), ts' = ts → ∀ (w : World) (mg : Str → Option Value) (fa : Addr) (h : Heap), (K w.params).In h → h.Ns mainGlobals mg → mg d.name = some (.ref fa) →
      ∃ fd : FuncData, (∀ (s : Shared) (u : Value), BindsTo s fd ⟨[u], []⟩ [(x, u)]) ∧ (∀ P ∈ ts, ∃ c, PySem.W.codeHdIn (K w.params) c P = true) ∧ (∀ P ∈ ts, (K w.params).lookup P = none) ∧
        ∀ base : Heap, (K w.params).In base → base.Ns mainGlobals mg → Bm mg base → FnOk l.prog w (K w.params) mg base CX k fa fd [x] (sp (K w.params) ts))
    (hsp : ∀ (K : PySem.W.Frag) (H : Hp) (a : Addr) (ns : List Int), ns.length ≤ n → (∀ P ∈ ts, H P = some (.tbl #[])) → SqL K H a (ns.map V.int) → sp K ts [.ref a] H (fun v _ => v = .bl true) fun _ _ _ => False)
    (hCX : ∀ (H : Hp) (s : Shared) (e : Value) (s' : Shared), CX [] H s (fun _ _ _ => False) e s' → False) :
    PySem.W.WalkO q loose XP YP l.row.toRowW d [] (fun f vs => PySem.call f vs) := by
  refine Att.attach_call hn hdf fun w s₀ s₁ mg mb fa o pm cd doc a vs ns G Y ho hd hcd hmg hobj hints hlen hg => ?_
  obtain ⟨KX, hT⟩ := hY w _ Y
  obtain ⟨fd, hb, htc, htK, hF⟩ := F ts rfl w mg fa _ KX G.T.g hmg
  have hbm : Bm mg s₁.heap := let ⟨bm, ob, b1, _, b3, b4, b5, b6⟩ := G.T.bmain; ⟨bm, ob, b1, b3, b4, b5, b6⟩
  exact law_callT KX G.T.g G.T.b G.T.builtins G.T.nolimit hg hobj hints (Nat.le_trans hlen hn2) hr hbm hT htc htK hF hb (fun H hO hS => hsp (K w.params) H a ns hlen hO hS) fun H e s' => hCX H s₁ e s'
end L2
set_option linter.all false
namespace FrM
def lowP (t b : Int) : Int × Int := (t / (Int.gcd t b : Int), b / (Int.gcd t b : Int))
theorem lowP_low {t b : Int} (hb : 0 < b) : Low t b (lowP t b).1 (lowP t b).2 := (low t b hb).2.2.1
theorem low_eq {T B t b : Int} (hB : 0 < B) (h : Low T B t b) : (t, b) = lowP T B := by
  obtain ⟨e1, e2⟩ := h.uniq (by lia) (lowP_low hB)
  rw [e1, e2]
def sz (z : List Int) (k : Nat) : Int := z.getD k 0
def sumL (z : List Int) (l : List Nat) : Int := (l.map (sz z)).sum
def stay (z : List Int) (l : List Nat) (w : Int) : List Nat := l.filter fun k => decide (sz z k * w < sumL z l)
theorem stay_le (z : List Int) (l : List Nat) (w : Int) : (stay z l w).length ≤ l.length := List.length_filter_le _ _
def fin (z : List Int) (l : List Nat) (w : Int) : List Nat × Int :=
  if (stay z l w).length = l.length then (l, w) else fin z (stay z l w) (w - ((l.length : Int) - ((stay z l w).length : Int)))
termination_by l.length
decreasing_by
  have := stay_le z l w
  lia
theorem fin_stop {z : List Int} {l : List Nat} {w : Int} (h : (stay z l w).length = l.length) : fin z l w = (l, w) := by
  rw [fin, if_pos h]
theorem fin_go {z : List Int} {l : List Nat} {w : Int} (h : (stay z l w).length ≠ l.length) : fin z l w = fin z (stay z l w) (w - ((l.length : Int) - ((stay z l w).length : Int))) := by
  rw [fin, if_neg h]
theorem sumL_ge (z : List Int) : ∀ (l : List Nat), (∀ k ∈ l, 1 ≤ sz z k) → (l.length : Int) ≤ sumL z l
  | [], _ => by simp [sumL]
  | a :: l, h => by
    have := sumL_ge z l (fun k hk => h k (List.mem_cons_of_mem _ hk))
    have h1 := h a List.mem_cons_self
    unfold sumL at *
    rw [List.map_cons, List.sum_cons, List.length_cons]
    lia
theorem sumL_le (z : List Int) (M : Int) : ∀ (l : List Nat), (∀ k ∈ l, sz z k ≤ M) → sumL z l ≤ (l.length : Int) * M
  | [], _ => by simp [sumL]
  | a :: l, h => by
    have := sumL_le z M l (fun k hk => h k (List.mem_cons_of_mem _ hk))
    have h1 := h a List.mem_cons_self
    unfold sumL at *
    rw [List.map_cons, List.sum_cons, List.length_cons]
    have e : ((l.length + 1 : Nat) : Int) * M = (l.length : Int) * M + M := by rw [Int.natCast_add, Int.add_mul]; simp
    rw [e]
    lia
theorem sum_ge_mul (z : List Int) (w S : Int) : ∀ (l : List Nat), (∀ k ∈ l, S ≤ sz z k * w) → (l.length : Int) * S ≤ sumL z l * w
  | [], _ => by simp [sumL]
  | a :: l, h => by
    have := sum_ge_mul z w S l (fun k hk => h k (List.mem_cons_of_mem _ hk))
    have h1 := h a List.mem_cons_self
    unfold sumL at *
    rw [List.map_cons, List.sum_cons, List.length_cons, Int.add_mul]
    have e : ((l.length + 1 : Nat) : Int) * S = (l.length : Int) * S + S := by rw [Int.natCast_add, Int.add_mul]; simp
    rw [e]
    lia
theorem stay_pos {z : List Int} {l : List Nat} {w : Int} (hz : ∀ k ∈ l, 1 ≤ sz z k) (hw : w < l.length) (hl : 0 < l.length) : 0 < (stay z l w).length := by
  by_cases h : 0 < (stay z l w).length
  · exact h
  · exfalso
    have e : stay z l w = [] := List.length_eq_zero_iff.mp (by lia)
    have hall : ∀ k ∈ l, sumL z l ≤ sz z k * w := fun k hk => by
      have := (List.filter_eq_nil_iff.mp e) k hk
      simp at this
      exact this
    have h1 := sum_ge_mul z w (sumL z l) l hall
    have h2 := sumL_ge z l hz
    have h3 : 0 < sumL z l := by lia
    rw [Int.mul_comm (sumL z l) w] at h1
    have := Int.le_of_mul_le_mul_right h1 h3
    lia
structure Rnd (z : List Int) (n : Nat) (m : Int) (l : List Nat) (w : Int) : Prop where
  pos : 0 < l.length
  sub : ∀ k ∈ l, k < n
  lt : w < l.length
  dif : w - l.length = m - n
  fil : l = (List.range n).filter fun k => decide (k ∈ l)
theorem Rnd.len {z : List Int} {n : Nat} {m : Int} {l : List Nat} {w : Int} (h : Rnd z n m l w) : l.length ≤ n := by
  have e := congrArg List.length h.fil
  have := List.length_filter_le (fun k => decide (k ∈ l)) (List.range n)
  rw [List.length_range] at this
  lia
theorem Rnd.start {z : List Int} {n : Nat} {m : Int} (h0 : 0 < n) (hm : m < n) : Rnd z n m (List.range n) m := by
  refine ⟨by rw [List.length_range]; exact h0, fun k hk => List.mem_range.mp hk, by rw [List.length_range]; exact hm, by rw [List.length_range], ?_⟩
  rw [List.filter_eq_self.mpr]
  intro k hk
  exact decide_eq_true hk
theorem Rnd.step {z : List Int} {n : Nat} {m : Int} {l : List Nat} {w : Int} (hz : ∀ k, k < n → 1 ≤ sz z k) (h : Rnd z n m l w) : Rnd z n m (stay z l w) (w - ((l.length : Int) - ((stay z l w).length : Int))) := by
  have hp := stay_pos (fun k hk => hz k (h.sub k hk)) h.lt h.pos
  refine ⟨hp, fun k hk => h.sub k (List.mem_filter.mp hk).1, by have := h.lt; lia, by have := h.dif; lia, ?_⟩
  have e : (List.range n).filter (fun k => decide (k ∈ stay z l w)) = ((List.range n).filter fun k => decide (k ∈ l)).filter fun k => decide (sz z k * w < sumL z l) := by
    rw [List.filter_filter]
    refine List.filter_congr fun k _ => ?_
    rw [Bool.eq_iff_iff]
    simp [stay]
    exact And.comm
  rw [e, ← h.fil]
  rfl
theorem Rnd.fin {z : List Int} {n : Nat} {m : Int} (hz : ∀ k, k < n → 1 ≤ sz z k) : ∀ (c : Nat) (l : List Nat) (w : Int), l.length ≤ c → Rnd z n m l w → Rnd z n m (fin z l w).1 (fin z l w).2
  | 0, l, w, hc, h => absurd h.pos (by lia)
  | c + 1, l, w, hc, h => by
    by_cases e : (stay z l w).length = l.length
    · rw [fin_stop e]; exact h
    · rw [fin_go e]
      have := stay_le z l w
      exact Rnd.fin hz c _ _ (by lia) (h.step hz)
structure Top (m : Int) (n : Nat) (S : Int) (N : Nat → Int) : Prop where
  pos : 0 < S
  all : ((List.range n).map N).sum = m * S
theorem low_bd {N S t b : Int} (hS : 0 < S) (h : Low N S t b) : b ≤ S ∧ t.natAbs ≤ N.natAbs := by
  have hb := h.pos
  have d : b ∣ S := dvd_cop h.cop ⟨N, by rw [h.eq, Int.mul_comm]⟩
  have hle := Int.le_of_dvd hS d
  refine ⟨hle, ?_⟩
  have e := congrArg Int.natAbs h.eq
  rw [Int.natAbs_mul, Int.natAbs_mul] at e
  have h1 : b.natAbs ≤ S.natAbs := by lia
  have h2 : 0 < S.natAbs := by lia
  have h3 : N.natAbs * b.natAbs ≤ N.natAbs * S.natAbs := Nat.mul_le_mul_left _ h1
  rw [← e] at h3
  exact Nat.le_of_mul_le_mul_right h3 h2
def due (z : List Int) (m : Int) : List (Int × Int) :=
  if (z.length : Int) ≤ m then z.map fun _ => (1, 1) else if m = 0 then z.map fun _ => (0, 1)
  else (List.range z.length).map fun k => if decide (k ∈ (fin z (List.range z.length) m).1) = true then lowP (sz z k * (fin z (List.range z.length) m).2) (sumL z (fin z (List.range z.length) m).1) else (1, 1)
theorem due_len (z : List Int) (m : Int) : (due z m).length = z.length := by
  unfold due
  split
  · simp
  · split <;> simp
end FrM
set_option Elab.async false
set_option linter.all false
set_option maxRecDepth 100000
set_option maxHeartbeats 4000000
namespace L2
open PySem PySem.Spec PyProof.Rows
def intsIn : List V → List Value → Bool
  | [], [] => true
  | .int i :: xs, .int j _ :: us => decide (i = j) && intsIn xs us
  | _, _ => false
theorem intsIn_vals : ∀ {xs : List V} {us : List Value}, intsIn xs us = true → Vals xs us
  | [], [], _ => .nil
  | .int i :: xs, .int j t :: us, h => by
    rw [intsIn, Bool.and_eq_true] at h
    have e := of_decide_eq_true h.1
    exact .cons ⟨t, by rw [e]⟩ (intsIn_vals h.2)
def tupIn (K : PySem.W.Frag) (a : Addr) (xs : List V) : Bool :=
  match K.lookup a with
  | some o =>
    (match o.cls with
    | .type t => t == "tuple"
    | _ => false) &&
    (match o.data with
    | .seq its _ => decide (its.size ≤ 1000) && intsIn xs its.toList
    | _ => false)
  | none => false
theorem tup_in {K : PySem.W.Frag} {H : Hp} {a : Addr} {xs : List V} (h : tupIn K a xs = true) : SqT K H a xs := by
  unfold tupIn at h
  split at h
  · rename_i o e
    rw [Bool.and_eq_true] at h
    obtain ⟨h1, h2⟩ := h
    split at h1
    · rename_i t ec
      split at h2
      · rename_i its n ed
        rw [Bool.and_eq_true] at h2
        refine .inr ⟨o, its, n, e, by rw [ec, beq_iff_eq.mp h1], ed, ?_, intsIn_vals h2.2⟩
        have := of_decide_eq_true h2.1
        have : sizeLine = 16777216 := sizeLine_eq
        omega
      · cases h2
    · cases h1
  · cases h
def TyS (K : PySem.W.Frag) (H : Hp) (x : V) (t : Value) : Prop := TyOf K H x t ∨ ∃ a xs, x = .ref a ∧ t = .type "tuple" ∧ SqT K H a xs
section
variable {X : Cx}
open PySem.W in
theorem kit_ofS {pins : List (Addr × Obj)} {σ : St} {H : Hp} {s : Shared} {x : V} {u t : Value} (I : Inv X pins σ H s) (rx : RelV x u) (ty : TyS X.K H x t) :
    ∃ Hh : Heap → Prop, KitX X.K u t Hh ∧ Hh s.heap ∧ u ≠ .builtin "__main__.__loader__#opaque" := by
  rcases ty with ty | ⟨a, xs, rfl, rfl, hq⟩
  · exact kit_of I rx ty
  · cases (show u = Value.ref a from rx)
    obtain ⟨its, rv, p, hz⟩ := I.tuple hq
    exact ⟨_, PySem.W.kitx_tuple, let ⟨o, e, c, _⟩ := p; ⟨o, e, c⟩, fun z => nomatch z⟩
def rIsS (K : PySem.W.Frag) : List V → Hp → VK → Prop := fun xs H Q => ∃ x c t b, xs = [x, c] ∧ isCls c = true ∧ TyS K H x t ∧ PySem.W.kitOne K t (cVal c) = some b ∧ Q (.bl b) H
theorem call_iss : CallR X (.builtin "isinstance") (rIsS X.K) := by
  intro pins s σ H xs us Q I r h
  obtain ⟨x, c, t, b, rfl, hc, ty, e, q⟩ := h
  obtain ⟨u, w', rfl, rx, rc⟩ := vals2 r
  cases cVal_of hc rc
  obtain ⟨Hh, Z, p, hx⟩ := kit_ofS I rx ty
  exact PySem.W.kia_one Z I.kIn p e hx fun tk => ⟨.bl b, H, I.tok tk, rfl, q⟩
theorem bt_sum : bootBuiltins "sum" = some (.builtin "sum") := by decide +kernel
theorem ints_are : ∀ {ns : List Int} {us : List Value}, Vals (ns.map V.int) us → IntsAre us ns
  | [], _, .nil => .nil
  | n :: ns, _, .cons r t => by
    obtain ⟨t', rfl⟩ := r
    exact .cons _ _ (ints_are t)
inductive rSumI (K : PySem.W.Frag) (xs : List V) (H : Hp) (Q : VK) : Prop
  | mk (p : Addr) (ns : List Int) (h0 : xs = [.ref p]) (h1 : SqL K H p (ns.map V.int)) (h2 : Q (.int ns.sum) H) : rSumI K xs H Q
theorem call_sumI (hc : X.calm = true) : CallR X (.builtin "sum") (rSumI X.K) := by
  intro pins s σ H xs us Q I r h
  obtain ⟨p, ns, rfl, hq, q⟩ := h
  obtain ⟨u, rfl, rx⟩ := vals1 r
  cases rx
  obtain ⟨its, rv, pl, hz⟩ := I.list hq
  have hi := ints_are rv
  obtain ⟨xs, ex⟩ := hi.allInts.items
  have e2 : (numsOf its) = ns := hi.numsOf
  refine sum_intListG (I.ok.hd hc) (xs := xs) (by rw [← ex]; exact pl.isList) fun h' tk t' hk => ?_
  have e3 : preSum (numAt xs) xs.size = ns.sum := by
    rw [preSum_eq, List.take_of_length_le (by simp), ← e2, ← nums_intItems, ← ex]
  rw [e3]
  exact ⟨.int ns.sum, H, I.kept hk, ⟨_, rfl⟩, q⟩
theorem call_lstRngN (hc : X.calm = true) : CallR X (.type "list") (fun xs H Q => ∃ (p : Addr) (n : Nat), xs = [.ref p] ∧ n ≤ 1000 ∧ H p = some (.rng 0 (n : Int)) ∧ ∀ l, H l = none → Q (.ref l) (upd H l (.lst ((List.range n).map fun (i : Nat) => V.int (i : Int))))) := by
  intro pins s σ H xs us Q I r h
  obtain ⟨p, n, rfl, hn, e, q⟩ := h
  obtain ⟨u, rfl, ru⟩ := vals1 r
  cases ru
  obtain ⟨t, t2, t3, ho⟩ := (show ObjOk X.prog X.w H s.heap p (.rng 0 (n : Int)) from I.hok p _ e)
  refine call_list_range (n := n) (I.ok.hd hc) ho (small_one (by decide) (by decide) (by omega) (by omega)) (by rw [rangeSize_one]; split <;> omega) (by omega) fun h' tk acc c hk hS hI => ?_
  refine ⟨.ref s.heap.objs.size, _, I.laid (t' := tk) (o := .lst ((List.range n).map fun (i : Nat) => V.int (i : Int))) hk (Nat.le_refl _) ?_, rfl, q _ (I.hok.fresh (Nat.le_refl _))⟩
  obtain ⟨z1, z2⟩ := hI
  refine ⟨by rw [List.length_map, List.length_range, sizeLine_eq]; omega, acc.toList, c, vals_at (by rw [List.length_map, List.length_range]; simpa using z1.symm) fun i x u hx hu => ?_, hS⟩
  rw [List.getElem?_map] at hx
  have hi : i < n := by
    by_cases hi : i < n
    · exact hi
    · rw [List.getElem?_eq_none (by rw [List.length_range]; omega)] at hx
      cases hx
  rw [List.getElem?_range hi] at hx
  cases hx
  obtain ⟨tt, hv⟩ := z2 i u (by simpa using hu)
  refine (show ∃ t', u = Value.int (i : Int) t' from ⟨tt, ?_⟩)
  rw [hv]
  congr 1
  omega
def Itr3 (lo c : Int) (n : Nat) : It := ⟨fun i _ => i < n, fun i H x H' => H' = H ∧ x = .int (lo + i * c), fun i _ => n ≤ i⟩
theorem turn_range3 {P : Program} {w : World} {K : PySem.W.Frag} {tg : Expr} (it : Addr) (lo c : Int) (n : Nat) : Turn P w K tg (Itr3 lo c n) [it] it (fun i h => IsRangeIter h it (lo + (i : Nat) * c) ((n : Int) - (i : Nat)) c) where
  mem := by simp
  obj := fun i h st b hb => by
    have e : b = it := by simpa using hb
    subst e
    exact ⟨_, st, fun v z => by
      have z' : Data.fields _ = Data.cell v := z
      cases z'⟩
  keep := fun i h h' st k => k it (by simp) _ st
  item := by
    intro X hP hw hK hc i pins s σ H E I hf st hg
    subst hP hw hK
    obtain ⟨f0, f1, f2, f3, f4, f5⟩ := hf it (by simp)
    have W := Walks.range (prog := X.prog) (w := X.w) (I.ok.hd hc) it lo c n
    refine W.item i s _ _ hg st fun v h' tk hv st' kk => ?_
    obtain ⟨t, rfl⟩ := hv
    have I1 : Inv X pins σ H { s with heap := h', toks := tk } := I.turned (fun b o hb e => kk b o (by simpa using hb) e) f0 f1 f3 f4 f5
    exact ⟨_, rfl, go_of (s := { s with heap := h', toks := tk }) (n := "range_iterator") st' rfl rfl (by decide) ⟨.int (lo + i * c), H, I1, ⟨t, rfl⟩, ⟨rfl, rfl⟩, st', fun b hb => (hf b hb).1⟩⟩
  done := by
    intro X hP hw hK hc i pins s σ H E I hf st hg
    subst hP hw hK
    obtain ⟨f0, f1, f2, f3, f4, f5⟩ := hf it (by simp)
    exact wpAny_pyNext_range_end (I.ok.hd hc) st (by have : n ≤ i := hg; omega) fun h' eb => ⟨rfl, I.turned (t' := s.toks) (fun b o hb e => eb b o hb e) f0 f1 f3 f4 f5⟩
  self := fun _ _ _ _ _ st h => wpAny_pyIter_rangeiter st h
theorem for_range3 {lo c : Int} {n : Nat} {g : TG} {tb : TS} {D : Ends} {σ : St} {H : Hp} (Pv : Nat → St → Hp → Prop) (h0 : Pv 0 σ H)
    (hs : ∀ i σ H, i < n → Pv i σ H → g (.int (lo + i * c)) σ H fun σ2 H2 => tb { D with nx := Pv (i + 1), ct := Pv (i + 1), bk := D.nx } σ2 H2) (hd : ∀ σ H, Pv n σ H → D.nx σ H) :
    ∃ W : Nat → Nat → St → Hp → Prop, (∃ m, W 0 m σ H) ∧ ∀ i m σ H, W i m σ H →
      ((Itr3 lo c n).stop i H ∧ D.nx σ H) ∨ ((Itr3 lo c n).go i H ∧ ∃ N : St → Hp → Prop, (∀ σ' H', N σ' H' → ∃ m', m' < m ∧ W (i + 1) m' σ' H') ∧ ∀ x H', (Itr3 lo c n).yld i H x H' → g x σ H' fun σ2 H2 => tb { D with nx := N, ct := N, bk := D.nx } σ2 H2) := by
  refine ⟨fun i m σ H => m = n - i ∧ i ≤ n ∧ Pv i σ H, ⟨n, by simp, Nat.zero_le _, h0⟩, ?_⟩
  rintro i m σ H ⟨rfl, hi, p⟩
  by_cases hlt : i < n
  · refine .inr ⟨hlt, Pv (i + 1), fun σ' H' p' => ⟨n - (i + 1), by omega, rfl, hlt, p'⟩, fun x H' y => ?_⟩
    obtain ⟨e, y⟩ := y
    subst e y
    exact hs i σ _ hlt p
  · have e : i = n := by omega
    subst e
    exact .inl ⟨Nat.le_refl _, hd σ H p⟩
end
end L2
set_option Elab.async false
set_option linter.all false
set_option maxRecDepth 100000
set_option maxHeartbeats 4000000
namespace L2
open PySem PySem.Spec PyProof.Rows
def dE : Expr := .Name "" ⟨0, 0, 0, 0⟩
def stAt (st : Stmt) (i : Nat) : Stmt := (defBody st).getD i (.Pass ⟨0, 0, 0, 0⟩)
def retE : Stmt → Expr
  | .Return (some e) _ => e
  | _ => dE
def argE : Expr → Nat → Expr
  | .Call _ es _ _, i => es.getD i dE
  | _, _ => dE
def lstE : Expr → Nat → Expr
  | .List es _, i => es.getD i dE
  | _, _ => dE
def tupE : Expr → Nat → Expr
  | .Tuple es _ _, i => es.getD i dE
  | _, _ => dE
def lamOf (q : Str) : Expr → LamD
  | .Lambda p b s _ => ⟨q, p, b, s⟩
  | _ => ⟨q, default, dE, default⟩
def lamP : Expr → Pos
  | .Lambda _ _ _ p => p
  | _ => ⟨0, 0, 0, 0⟩
theorem bt_sorted : bootBuiltins "sorted" = some (.builtin "sorted") := by decide +kernel
theorem vals_of_ints : ∀ {us : List Value} {ns : List Int}, IntsAre us ns → Vals (ns.map V.int) us
  | _, _, .nil => .nil
  | _, _, .cons n t h => .cons ⟨_, rfl⟩ (vals_of_ints h)
theorem call_sortedI {X : Cx} : CallR X (.builtin "sorted") (fun xs H Q => ∃ (p : Addr) (ns : List Int), xs = [.ref p] ∧ SqL X.K H p (ns.map V.int) ∧ ns.length < 64 ∧ ∀ q (ns' : List Int), ns'.Perm ns → ns'.Pairwise (· ≤ ·) → H q = none → Q (.ref q) (upd H q (.lst (ns'.map V.int)))) := by
  intro pins s σ H xs us Q I r h
  obtain ⟨p, ns, rfl, hq, hl, q⟩ := h
  obtain ⟨u, rfl, rx⟩ := vals1 r
  cases rx
  obtain ⟨its, rv, pl, hz⟩ := I.list hq
  have hi := ints_are rv
  have hlen : its.length = ns.length := by have := rv.length; rw [List.length_map] at this; exact this.symm
  refine sorted_ints pl.isList hi (by omega) fun out ns' a1 a2 a3 => ?_
  obtain ⟨e, he⟩ := sortedAll_at s.heap its out
  have hn : H (s.heap.objs.size + 1) = none := I.hok.fresh (Nat.le_succ _)
  have small : sizeLine = 16777216 := sizeLine_eq
  refine ⟨.ref (s.heap.objs.size + 1), _, I.laid (a := s.heap.objs.size + 1) (o := .lst (ns'.map V.int)) (t' := s.toks) (fun b u z => sortedAll_old z) (Nat.le_succ _) ⟨?_, out.toList, e, vals_of_ints a1, ?_⟩, rfl, q _ ns' a2 a3 hn⟩
  · rw [List.length_map, a2.length_eq]; omega
  · rw [he, Array.toArray_toList]
end L2
set_option Elab.async false
set_option linter.all false
set_option maxRecDepth 100000
set_option maxHeartbeats 4000000
namespace L2
open PySem PySem.Spec PyProof.Rows
structure Lnd (X : Cx) (pins : List (Addr × Obj)) (σ : St) (H : Hp) (s : Shared) (x D : Addr) (dct : Option Addr) (T : Addr) (H' : Hp) (s' : Shared) (T4 : Addr) (h5 : Heap) : Prop where
  I : Inv X pins σ H s
  G : XG X.prog X.w X.stack H s x D dct T H' s'
  k : KeptBut ([T, x] ++ [T4]) (frs X.stack) s'.heap h5
  hxs : ∀ b, b = T ∨ b = x ∨ b = T4 → s.heap.get? b = none ∧ H' b = none ∧ b ∉ frs X.stack
  fx : Fx h5 x (.ref D) dct .none T4
abbrev TH := Addr → Option Addr → Addr → Ends → St → Hp → Prop
section
variable {X : Cx} {C : Addr} {cn en : Str} {ie : Nat} {b₀ : Stmt} {suite : List Stmt} {cp hp : Pos} {ts : TS} {rest : List ExceptHandler} {tr : TH}
end
section
variable {X : Cx}
def PX (X : Cx) (e : Expr) (t : VK → XK → St → Hp → Prop) : Prop :=
  ∀ (pins : List (Addr × Obj)) (s : Shared) (σ : St) (H : Hp) (Q : VK) (E : XK), Inv X pins σ H s → t Q E σ H →
    wpAny (model X.prog X.w) X.A (eval e X.env) (EP X pins σ Q) (fun e s' => ∃ H1 s1, Inv X pins σ H1 s1 ∧ CXG X.prog X.w X.stack H1 s1 E e s') s
end
section
variable {X : Cx} {k : Nat} {f C : Addr} {fd : FuncData} {ps : List Str} {sp : Sp} {dvs : List V} {ds : List Value} {x m : Str} {p pos apos : Pos} {e o : Expr} {es : List Expr} {ta : TE} {t : TA}
end
end L2
set_option Elab.async false
set_option linter.all false
namespace L2
open PySem PySem.Spec PyProof.Rows
section
variable {X : Cx} {e : Expr} {es : List Expr} {pos : Pos}
theorem o_eqDK {K : PySem.W.Frag} (h : X.K = K) (hu : X.A.units + 64 < cLine) : OpR X (compareOp .Eq) (rEqD K false) := h ▸ o_eqD hu
end
end L2
set_option Elab.async false
set_option linter.all false
set_option maxRecDepth 100000
set_option maxHeartbeats 4000000
namespace L2
open PySem PySem.Spec PyProof.Rows
section
variable {X : Cx}
inductive rCount (K : PySem.W.Frag) (x : V) (vs : List V) (H : Hp) (Q : VK) : Prop
  | mk (l : Addr) (xs : List V) (ds : List PyData) (y : V) (d : PyData) (h0 : x = .ref l) (h1 : vs = [y]) (h2 : H l = some (.lst xs)) (h3 : DVs K H ds xs) (h4 : DV K H d y) (h5 : PyData.canLayAll0 ds = true) (h6 : d.canLay0 = true) (h7 : d.depth ≤ 60)
      (h8 : Q (.int ((ds.countP fun z => PyData.eqv z d : Nat) : Int)) H) : rCount K x vs H Q
theorem mt_count (hu : X.A.units + 64 < cLine) : MtM X "list.count" (rCount X.K) := by
  intro pins s σ H x vs v us Q I rx rv h
  obtain ⟨l, xs, ds, y, d, rfl, rfl, hH, hds, hd, c1, c2, dd, q⟩ := h
  cases rx
  obtain ⟨u, rfl, ru⟩ := rv.one
  obtain ⟨z, its, n, r, hl, e⟩ := I.lstM hH
  obtain ⟨as, ra⟩ := DVs.reads I hds r
  obtain ⟨bs, rb⟩ := hd.reads I ru
  refine call_meets F.slot_list_count ⟨_, e, rfl⟩ F.entry_list_count (F.args_list_count_2 _ _) (SeqAt.list_countAt l its.toArray n none #[] u (fun y => PyData.eqv (SeqAt.readOf s.heap y) d)) ⟨e, SeqAt.items_eqAt (xs := ds) (as := as) (by simpa using ra) rb c1 c2 ?_, ?_⟩
  · have : min (PyData.depthAll ds) d.depth ≤ d.depth := Nat.min_le_right _ _
    omega
  · have e1 : its.toArray.toList.countP (fun y => PyData.eqv (SeqAt.readOf s.heap y) d) = ds.countP fun z => PyData.eqv z d := by
      rw [← SeqAt.readsAll_map ds its as c1 ra, List.countP_map]
      rfl
    rw [e1]
    exact ⟨.int _, H, I.tok _, ⟨_, rfl⟩, q⟩
variable {o e : Expr} {es : List Expr} {to : TE} {t : TA} {apos cpos : Pos}
theorem pe_m.count (hu : X.A.units + 64 < cLine) (ho : PE X o to) (ha : PA X (e :: es) t) (hbase : attributeBase o "count" X.env (eval o X.env) = eval o X.env := by rfl)
    (hfew : ((backTo cpos (starEach (e :: es) X.env)).all (fun x => !x.1) && (backToKw cpos (keywordEach [] X.env)).all (fun x => x.1.isSome) && decide ((e :: es).length + ([] : List Keyword).length + (if ([] : List Keyword).isEmpty then 0 else 1) < 30)) = true := by rfl)
    (hline : (apos.endLine == cpos.line) = true := by rfl) (hs : starEach (e :: es) X.env = (false, eval e X.env) :: starEach es X.env := by rfl) (hplain : (backTo cpos (starEach es X.env)).any (·.1) = false := by rfl) :
    PE X (.Call (.Attribute o "count" apos) (e :: es) [] cpos) (tBM X.K "list" (rCount X.K) to t) := pe_bm F.plainAttrs_list F.slot_list_count F.type_list_count (mt_count hu) ho ha hbase hfew hline hs hplain
def stepV (xs : List V) (lo : Option Int) (c : Int) : List V := (sliceRange (sliceBounds lo none (some c) xs.length).1 (sliceBounds lo none (some c) xs.length).2.1 (sliceBounds lo none (some c) xs.length).2.2).filterMap (xs[·]?)
theorem Vals.picks {xs : List V} {us : List Value} (r : Vals xs us) : ∀ (ps : List Nat), Vals (ps.filterMap (xs[·]?)) (ps.filterMap (us[·]?))
  | [] => .nil
  | p :: ps => by
    rw [List.filterMap_cons, List.filterMap_cons]
    cases h : xs[p]? with
    | none =>
      have hl : xs.length ≤ p := List.getElem?_eq_none_iff.mp h
      rw [List.getElem?_eq_none (by rw [← r.length]; exact hl)]
      exact Vals.picks r ps
    | some x =>
      obtain ⟨u, h1, h2⟩ := r.get h
      rw [h1]
      exact .cons h2 (Vals.picks r ps)
theorem stepV_len (xs : List V) (lo : Option Int) {c : Int} (hc : 0 < c) : (stepV xs lo c).length ≤ xs.length := by
  unfold stepV
  refine Nat.le_trans (List.length_filterMap_le _ _) ?_
  refine sliceRange_length_le _ _ _ _ (fun _ => ?_) (fun h => ?_)
  · unfold sliceBounds
    simp only [Option.getD_some, hc, if_true]
    cases lo with
    | none => simp
    | some i =>
      simp only
      refine ⟨?_, Int.le_refl _⟩
      split <;> omega
  · have e : (sliceBounds lo none (some c) xs.length).2.2 = c := rfl
    rw [e] at h
    exact absurd hc h
theorem pe_sliceS {lo : Option Expr} {se : Expr} {te : TE} {tl ts : TO} {pos p2 : Pos} (he : PE X e te) (hl : PO X lo tl) (hst : PO X (some se) ts) : PE X (.Subscript e (.Slice lo none (some se) p2) pos)
    (fun σ H Q => te σ H fun x H1 => tl σ H1 fun l H2 => ts σ H2 fun u H3 => ∃ (a : Addr) (xs : List V) (c : Int), x = .ref a ∧ SqL X.K H3 a xs ∧ u = some c ∧ 0 < c ∧ ∀ p, H3 p = none → Q (.ref p) (upd H3 p (.lst (stepV xs l c)))) := by
  intro pins s σ H Q I h
  refine Subscript_ (thn (he pins s σ H _ I h) fun v s1 ⟨x, H1, I1, r1, q1⟩ => ?_)
  refine wpAny_Slice (thn (hl pins s1 σ H1 _ I1 q1) fun vl s2 ⟨l, H2, I2, pl, q2⟩ => ?_)
  rw [evalPart_none]
  refine wpAny_pure (thn (hst pins s2 σ H2 _ I2 q2) fun vs s3 ⟨u, H3, I3, ps, a, xs, c, ex, hx, eu, hc, q⟩ => ?_)
  subst ex
  subst eu
  have I4 : Inv X pins σ H3 { s3 with heap := s3.heap.push { cls := .type "slice", data := .fields #[vl, .none, vs] } } := I3.kept (t' := s3.toks) fun b ob q => Heap.get?_push_of_some _ q
  obtain rfl : v = Value.ref a := r1
  obtain ⟨its, r, ht, hz⟩ := I4.list hx
  have hlen := r.length
  have hg : wpAny (model X.prog X.w) X.A (getItem (.ref a) (.ref s3.heap.objs.size)) (EP X pins σ Q) X.xe { s3 with heap := s3.heap.push { cls := .type "slice", data := .fields #[vl, .none, vs] } } := by
    refine wpAny_getItem_list_slice ht.isList (Heap.IsSliceOf.new ..) pl .none ps (by intro z; cases z; omega) ?_ (by rw [List.size_toArray]; omega)
    have ep : slicePick its.toArray l none (some c) = ((sliceRange (sliceBounds l none (some c) xs.length).1 (sliceBounds l none (some c) xs.length).2.1 (sliceBounds l none (some c) xs.length).2.2).filterMap (its[·]?)).toArray := by
      unfold slicePick
      rw [List.size_toArray, ← hlen]
      simp
    rw [ep]
    refine ⟨.ref _, _, I4.laid (t' := s3.toks) (o := .lst (stepV xs l c)) (fun b ob q => Heap.get?_push_of_some _ q) (Nat.le_refl _) ?_, rfl, q _ (I4.hok.fresh (Nat.le_refl _))⟩
    exact ⟨Nat.le_trans (stepV_len xs l hc) hz, _, 0, r.picks _, Heap.get?_push_size _ rfl⟩
  exact tail_any (ops := [.ref a, .ref s3.heap.objs.size]) ht.isList.typeIs slot_list_getitem.lookup hg (by with_unfolding_all rfl)
theorem size_any {a b c : Int} (hc : 0 < c) (ha : 0 ≤ a) (hb : b < 2 ^ 60) : 0 ≤ Builtin.Range.rangeSize a b c ∧ Builtin.Range.rangeSize a b c < 2 ^ 60 := by
  unfold Builtin.Range.rangeSize
  simp only [show c > 0 from hc, if_true]
  split
  · have h1 : (b - a - 1) / c ≤ b - a - 1 := Int.ediv_le_self _ (by omega)
    have h2 : 0 ≤ (b - a - 1) / c := Int.ediv_nonneg (by omega) (by omega)
    omega
  · omega
theorem small_any {a b c : Int} (hc : 0 < c) (hc' : c < 2 ^ 60) (ha : 0 ≤ a) (ha' : a < 2 ^ 60) (hb : -(2 ^ 60) ≤ b) (hb' : b < 2 ^ 60) : Builtin.Range.small a b c = true := by
  obtain ⟨h1, h2⟩ := size_any (a := a) (b := b) hc ha hb'
  unfold Builtin.Range.small
  generalize Builtin.Range.rangeSize a b c = z at *
  simp only [Builtin.Range.rangeFitsLong, Bool.and_eq_true, Bool.or_eq_true, decide_eq_true_eq, beq_iff_eq, show c > 0 from hc, if_true]
  omega
def any_n (i j c : Int) : Nat := (Builtin.Range.rangeSize i j c).toNat
def iRngS (ta : TA) : TI := fun σ H R => ta σ H fun vs H1 => ∃ i j c : Int, vs = [.int i, .int j, .int c] ∧ (0 ≤ i ∧ i < 2 ^ 60 ∧ -(2 ^ 60) ≤ j ∧ j < 2 ^ 60 ∧ 0 < c ∧ c < 2 ^ 60) ∧ R (Itr3 i c (any_n i j c)) H1
theorem range_itS {tg : Expr} {pins : List (Addr × Obj)} {σ : St} {H : Hp} {s : Shared} {R : It → Hp → Prop} {E : Value → Shared → Prop} {lo hi c : Int} {t u v : Tok} {tk : Nat} (I : Inv X pins σ H s) (h1 : 0 ≤ lo) (h2 : lo < 2 ^ 60) (h3 : -(2 ^ 60) ≤ hi) (h4 : hi < 2 ^ 60) (h5 : 0 < c) (h6 : c < 2 ^ 60)
    (q : R (Itr3 lo c (any_n lo hi c)) H) : wpAny (model X.prog X.w) X.A (pyIter (.ref s.heap.objs.size)) (PIE X pins σ tg R) E { s with heap := s.heap.push { cls := .type "range", data := .fields #[.int lo t, .int hi u, .int c v] }, toks := tk } := by
  refine wpAny_pyIter_range (IsRange.new ..) (small_any h5 h6 h1 h2 h3 h4) ?_
  have I1 : Inv X pins σ H { s with heap := s.heap.push { cls := .type "range", data := .fields #[.int lo t, .int hi u, .int c v] }, toks := tk } := I.kept fun b o e => Heap.get?_push_of_some _ e
  refine ⟨(s.heap.push { cls := .type "range", data := .fields #[.int lo t, .int hi u, .int c v] }).objs.size, [(s.heap.push { cls := .type "range", data := .fields #[.int lo t, .int hi u, .int c v] }).objs.size], _, _, H, rfl,
    I1.kept (t' := tk) fun b o e => Heap.get?_push_of_some _ e, turn_range3 _ lo c (any_n lo hi c), ?_, fun b hb => ?_, q⟩
  · have e1 : lo + ((0 : Nat) : Int) * c = lo := by simp
    have e2 : ((any_n lo hi c : Nat) : Int) - ((0 : Nat) : Int) = Builtin.Range.rangeSize lo hi c := by
      have := (size_any (a := lo) (b := hi) h5 h1 h4).1
      unfold any_n
      omega
    show IsRangeIter _ _ (lo + ((0 : Nat) : Int) * c) (((any_n lo hi c : Nat) : Int) - ((0 : Nat) : Int)) c
    rw [e1, e2]
    exact Heap.get?_push_size _ rfl
  · have e : b = (s.heap.push { cls := .type "range", data := .fields #[.int lo t, .int hi u, .int c v] }).objs.size := by simpa using hb
    subst e
    exact I1.fpOk (Nat.le_refl _) (I1.hok.fresh (Nat.le_refl _))
theorem pi_rangeS {tg a b c : Expr} {ta : TA} {p pos : Pos} (hg : Gl X "range") (hm : X.mg "range" = none) (ha : PA X [a, b, c] ta) (hs : starEach [a, b, c] X.env = [(false, eval a X.env), (false, eval b X.env), (false, eval c X.env)] := by rfl) (hs2 : starEach [b, c] X.env = [(false, eval b X.env), (false, eval c X.env)] := by rfl) :
    PI X tg (.Call (.Name "range" p) [a, b, c] [] pos) (iRngS ta) := by
  intro pins s σ H R I h
  refine Call_ (ld_blt I hg hm boot_range (PyProof.Rows.callWith_type1 (thn (ha pos pins s σ H _ I h) fun us s1 ⟨vs, H1, I1, r1, q1⟩ => ?_) (by rw [hs, hs2]) (by rw [hs2]; rfl)))
  obtain ⟨i, j, c, e, ⟨q1, q2, q3, q4, q5, q6⟩, q⟩ := q1
  subst e
  cases r1 with
  | cons r rr =>
    cases rr with
    | cons r' rr =>
      cases rr with
      | cons r'' rr =>
        cases rr
        obtain ⟨t, rfl⟩ := r
        obtain ⟨t', rfl⟩ := r'
        obtain ⟨t'', rfl⟩ := r''
        exact call_range_3 (by omega) (range_itS I1 q1 q2 q3 q4 q5 q6 q) (.inl (PyProof.noPylong_of_log2 (Nat.lt_of_lt_of_le (small_log (by omega)) (by decide))))
end
end L2
set_option Elab.async false
set_option linter.all false
set_option maxRecDepth 100000
set_option maxHeartbeats 4000000
namespace L2
open PySem PySem.Spec PyProof.Rows
abbrev ZipO (h : Heap) (z TI TO : Addr) (f0 : Value) (b : Bool) : Prop :=
  h.get? z = some { cls := .type "zip", dict := none, data := .fields #[f0, .bool b, .bool false, .ref TI, .ref TO], slots := #[] }
section
variable {prog : Program} {w : World} {A : Around} {E : Value → Shared → Prop} {s : Shared}
theorem alive_ {a : Addr} {o : Obj} {Q : Option Obj → Shared → Prop} (h : s.heap.get? a = some o) (hk : Q (some o) s) : wpAny (model prog w) A (loadIfAlive a) Q E s := by
  intro Γ p hΓ
  unfold loadIfAlive
  rw [Sem.wp_loadIfAlive, h]
  exact (wpAny_pure (M := model prog w) (A := A) (E := E) hk) Γ p hΓ
theorem held_not_free {z TI TO T : Addr} {b : Bool} {o : Obj} {Q : Bool → Shared → Prop} (hz : ZipO s.heap z TI TO (rawInt T) b) (hT : s.heap.get? T = some o)
    (hQ : ∀ h', ZipO h' z TI TO (rawInt T) true → Heap.SameBut z s.heap h' → Q false { s with heap := h' }) : wpAny (model prog w) A (Builtin.SmallTypes.ownedTupleIsFree (.ref z)) Q E s := by
  unfold Builtin.SmallTypes.ownedTupleIsFree
  refine wpAny_bind (wpAny_field hz rfl (x := rawInt T) rfl ?_)
  show wpAny _ _ (loadIfAlive (Int.toNat (T : Int)) >>= _) _ _ s
  rw [Int.toNat_natCast]
  refine wpAny_bind (alive_ hT ?_)
  show wpAny _ _ (if (false = true) then _ else _) _ _ s
  rw [if_neg Bool.false_ne_true]
  refine wpAny_bind (wpAny_field hz rfl (x := .bool b) rfl ?_)
  cases b with
  | true =>
    rw [if_neg (by decide)]
    exact wpAny_pure (hQ _ hz ⟨rfl, fun _ _ => rfl⟩)
  | false =>
    rw [if_pos (by decide)]
    exact wpAny_bind (wpAny_setField_rec hz (by simp) fun h₁ hz₁ hs₁ => wpAny_pure (hQ h₁ hz₁ hs₁))
theorem zip_next_held {z TI TO i1 i2 l1 l2 T : Addr} {b : Bool} {o : Obj} {k1 k2 : Nat} {xs ys : Array Value} {x y : Value} {Q : Value → Shared → Prop} (D : ZipApart z TI TO i1 i2 l1 l2)
    (hz : ZipO s.heap z TI TO (rawInt T) b) (hT : s.heap.get? T = some o) (hTI : IsPair s.heap TI (.ref i1) (.ref i2))
    (h1 : s.heap.IsListIter i1 l1 k1) (h2 : s.heap.IsListIter i2 l2 k2) (hl1 : s.heap.IsList l1 xs) (hl2 : s.heap.IsList l2 ys) (hx : xs[k1]? = some x) (hy : ys[k2]? = some y)
    (hQ : ∀ h', ZipO h' z TI TO (rawInt T) true → h'.IsListIter i1 l1 (k1 + 1) → h'.IsListIter i2 l2 (k2 + 1) → IsPair h' s.heap.objs.size x y → h'.objs.size = s.heap.objs.size + 1 →
      (∀ c o, c ≠ z → c ≠ i1 → c ≠ i2 → s.heap.get? c = some o → h'.get? c = some o) → (∃ o, h'.get? T = some o) → Q (.ref s.heap.objs.size) { s with heap := h' }) :
    wpAny (model prog w) A (Builtin.«zip.__next__» ⟨[.ref z], []⟩) (fun fin s' => ∃ v, fin = .done (.ret v) ∧ Q v s') E s := by
  show wpAny _ _ (field (.ref z) 2 >>= _) _ _ _
  refine wpAny_bind (wpAny_field hz rfl (x := .bool false) rfl ?_)
  show wpAny _ _ (field (.ref z) 3 >>= _) _ _ _
  refine wpAny_bind (wpAny_field hz rfl (x := .ref TI) rfl ?_)
  refine wpAny_bind (wpAny_seqItems hTI rfl ?_)
  show wpAny _ _ (Builtin.SmallTypes.ownedTupleIsFree (.ref z) >>= _) _ _ _
  refine wpAny_bind (held_not_free hz hT fun h₁ hz₁ hs₁ => ?_)
  simp only [Bool.false_eq_true, if_false]
  refine wpAny_bind ?_
  rw [← Array.forIn_toList]
  simp only [List.forIn_cons, List.forIn_nil]
  have a1 := h1.extBut hs₁.extBut D.i1z
  have a2 := h2.extBut hs₁.extBut D.i2z
  have b1 := hl1.extBut hs₁.extBut D.l1z
  have b2 := hl2.extBut hs₁.extBut D.l2z
  refine wpAny_bind (wpAny_bind (wpAny_holding ?_))
  show wpAny _ _ (Builtin.SmallTypes.nextOf (.ref i1) >>= _) _ _ _
  refine wpAny_bind (wpAny_nextOf_list_item a1 b1 hx fun h₂ c1 hs₂ => wpAny_pure (wpAny_pure ?_))
  refine wpAny_bind (wpAny_bind (wpAny_holding ?_))
  show wpAny _ _ (Builtin.SmallTypes.nextOf (.ref i2) >>= _) _ _ _
  refine wpAny_bind (wpAny_nextOf_list_item (a2.extBut hs₂.extBut D.i12.symm) (b2.extBut hs₂.extBut D.l2i1) hy fun h₃ c2 hs₃ => wpAny_pure (wpAny_pure (wpAny_pure ?_)))
  show wpAny _ _ (newTuple [x, y] >>= fun v => ret v) _ _ _
  refine wpAny_bind (wpAny_newTuple (wpAny_pure ⟨_, rfl, ?_⟩))
  have hsz : h₃.objs.size = s.heap.objs.size := by rw [hs₃.1, hs₂.1, hs₁.1]
  have up : ∀ c o, c ≠ z → c ≠ i1 → c ≠ i2 → s.heap.get? c = some o → h₃.get? c = some o := fun c o c1 c2 c3 e => hs₃.extBut _ _ c3 (hs₂.extBut _ _ c2 (hs₁.extBut _ _ c1 e))
  have hz₃ : ZipO h₃ z TI TO (rawInt T) true := hs₃.extBut _ _ D.i2z.symm (hs₂.extBut _ _ D.i1z.symm hz₁)
  have c1' := c1.extBut hs₃.extBut D.i12
  show Q (.ref h₃.objs.size) _
  rw [hsz]
  have hT₃ : ∃ o, h₃.get? T = some o := by
    by_cases e1 : T = z
    · rw [e1]; exact ⟨_, hz₃⟩
    by_cases e2 : T = i1
    · obtain ⟨o, ho, _⟩ := c1'; rw [e2]; exact ⟨o, ho⟩
    by_cases e3 : T = i2
    · obtain ⟨o, ho, _⟩ := c2; rw [e3]; exact ⟨o, ho⟩
    exact ⟨_, up _ _ e1 e2 e3 hT⟩
  obtain ⟨oT, hoT⟩ := hT₃
  refine hQ _ (Heap.get?_push_of_some _ hz₃) (c1'.at fun o e => Heap.get?_push_of_some _ e) (c2.at fun o e => Heap.get?_push_of_some _ e) ?_ ?_ (fun c o n1 n2 n3 e => Heap.get?_push_of_some _ (up c o n1 n2 n3 e)) ⟨oT, Heap.get?_push_of_some _ hoT⟩
  · have := Heap.get?_push_size h₃ (o := { cls := .type "tuple", data := .seq #[x, y] }) rfl
    rw [hsz] at this
    exact this
  · rw [Heap.size_push, hsz]
theorem zip_end_held {z TI TO i1 i2 l1 l2 T : Addr} {b : Bool} {o : Obj} {k1 : Nat} {xs : Array Value} {Q : Fin → Shared → Prop} (hh : A.handled = none) (D : ZipApart z TI TO i1 i2 l1 l2)
    (hz : ZipO s.heap z TI TO (rawInt T) b) (hT : s.heap.get? T = some o) (hTI : IsPair s.heap TI (.ref i1) (.ref i2))
    (h1 : s.heap.IsListIter i1 l1 k1) (hl1 : s.heap.IsList l1 xs) (hx : xs[k1]? = none)
    (hE : ∀ h' e, (∀ c o, c ≠ z → c ≠ i1 → s.heap.get? c = some o → h'.get? c = some o) → (∃ o, h'.get? e = some o ∧ o.cls = .type "StopIteration") → E (.ref e) { s with heap := h' }) :
    wpAny (model prog w) A (Builtin.«zip.__next__» ⟨[.ref z], []⟩) Q E s := by
  show wpAny _ _ (field (.ref z) 2 >>= _) _ _ _
  refine wpAny_bind (wpAny_field hz rfl (x := .bool false) rfl ?_)
  show wpAny _ _ (field (.ref z) 3 >>= _) _ _ _
  refine wpAny_bind (wpAny_field hz rfl (x := .ref TI) rfl ?_)
  refine wpAny_bind (wpAny_seqItems hTI rfl ?_)
  show wpAny _ _ (Builtin.SmallTypes.ownedTupleIsFree (.ref z) >>= _) _ _ _
  refine wpAny_bind (held_not_free hz hT fun h₁ hz₁ hs₁ => ?_)
  simp only [Bool.false_eq_true, if_false]
  refine wpAny_bind ?_
  rw [← Array.forIn_toList]
  simp only [List.forIn_cons, List.forIn_nil]
  refine wpAny_bind (wpAny_bind (wpAny_holding ?_))
  show wpAny _ _ (Builtin.SmallTypes.nextOf (.ref i1) >>= _) _ _ _
  refine wpAny_bind (wpAny_nextOf_list_end hh (h1.extBut hs₁.extBut D.i1z) (hl1.extBut hs₁.extBut D.l1z) hx fun h₂ e hs₂ he => ?_)
  exact hE h₂ e (fun c o c1 c2 x => hs₂ _ _ c2 (hs₁.extBut _ _ c1 x)) he
structure ZS (h : Heap) (z TI TO i1 i2 l1 l2 : Addr) (xs ys : Array Value) (i : Nat) : Prop where
  zo : (ZipO h z TI TO .none false) ∨ ∃ (T : Addr) (o : Obj) (b : Bool), ZipO h z TI TO (rawInt (T : Nat)) b ∧ h.get? T = some o
  ti : IsPair h TI (.ref i1) (.ref i2)
  to : ∃ a b, IsPair h TO a b
  j1 : h.IsListIter i1 l1 i
  j2 : h.IsListIter i2 l2 i
  q1 : h.IsList l1 xs
  q2 : h.IsList l2 ys
theorem zs_item {z TI TO i1 i2 l1 l2 : Addr} {i : Nat} {xs ys : Array Value} {x y : Value} {Q : Option Value → Shared → Prop} (D : ZipApart z TI TO i1 i2 l1 l2) (Z : ZS s.heap z TI TO i1 i2 l1 l2 xs ys i) (hx : xs[i]? = some x) (hy : ys[i]? = some y)
    (hQ : ∀ h', ZS h' z TI TO i1 i2 l1 l2 xs ys (i + 1) → IsPair h' s.heap.objs.size x y → (∀ c o, c ≠ z → c ≠ TO → c ≠ i1 → c ≠ i2 → s.heap.get? c = some o → h'.get? c = some o) → Q (some (.ref s.heap.objs.size)) { s with heap := h' }) :
    wpAny (model prog w) A (pyNext (.ref z)) Q E s := by
  obtain ⟨zo, ti, ⟨a, b, to⟩, j1, j2, q1, q2⟩ := Z
  rcases zo with hz | ⟨T, o, b', hz, hT⟩
  · refine wpAny_pyNext_zip_item D hz ti to j1 j2 q1 q2 hx hy fun h' e1 e2 e3 e4 e5 e6 e7 => hQ h' ⟨.inr ⟨_, _, _, e1, e5⟩, e7 _ _ D.TIz D.TITO D.TIi1 D.TIi2 ti, ⟨_, _, e2⟩, e3, e4, q1.at fun o e => e7 _ o D.l1z D.l1TO D.l1i1 D.l1i2 e, q2.at fun o e => e7 _ o D.l2z D.l2TO D.l2i1 D.l2i2 e⟩ e5 e7
  · have hTy : s.TypeIs (.ref z) "zip" := ⟨_, hz, rfl⟩
    unfold pyNext
    refine wpAny_bind (wpAny_attempt (wpAny_callSpecial?_slot (name := Str.ofString "__next__") hTy F.slot_zip_next
      (wpAny_call_entry F.slot_zip_next hTy F.entry_zip_next
        (zip_next_held D hz hT ti j1 j2 q1 q2 hx hy fun h' e1 e3 e4 e5 e6 e7 e8 => wpAny_pure (hQ h' ?_ e5 fun c o c1 c2 c3 c4 e => e7 c o c1 c3 c4 e)) (F.args_zip_next_1 _))))
    obtain ⟨o', ho'⟩ := e8
    exact ⟨.inr ⟨_, _, _, e1, ho'⟩, e7 _ _ D.TIz D.TIi1 D.TIi2 ti, ⟨_, _, e7 _ _ D.TOz D.TOi1 D.TOi2 to⟩, e3, e4, q1.at fun o e => e7 _ o D.l1z D.l1i1 D.l1i2 e, q2.at fun o e => e7 _ o D.l2z D.l2i1 D.l2i2 e⟩
theorem zs_end {z TI TO i1 i2 l1 l2 : Addr} {i : Nat} {xs ys : Array Value} {Q : Option Value → Shared → Prop} (hh : A.handled = none) (D : ZipApart z TI TO i1 i2 l1 l2) (Z : ZS s.heap z TI TO i1 i2 l1 l2 xs ys i) (hx : xs[i]? = none)
    (hQ : ∀ h', (∀ c o, c ≠ z → c ≠ TO → c ≠ i1 → c ≠ i2 → s.heap.get? c = some o → h'.get? c = some o) → Q none { s with heap := h' }) : wpAny (model prog w) A (pyNext (.ref z)) Q E s := by
  obtain ⟨zo, ti, ⟨a, b, to⟩, j1, j2, q1, q2⟩ := Z
  rcases zo with hz | ⟨T, o, b', hz, hT⟩
  · exact wpAny_pyNext_zip_end hh D hz ti to j1 j2 q1 q2 (.inl hx) hQ
  · have hTy : s.TypeIs (.ref z) "zip" := ⟨_, hz, rfl⟩
    unfold pyNext
    refine wpAny_bind (wpAny_attempt (wpAny_callSpecial?_slot (name := Str.ofString "__next__") hTy F.slot_zip_next
      (wpAny_call_entry F.slot_zip_next hTy F.entry_zip_next (zip_end_held hh D hz hT ti j1 q1 hx fun h' e hk he => ?_) (F.args_zip_next_1 _))))
    obtain ⟨o, ho, hc⟩ := he
    refine wpAny_bind (wpAny_isInstance (T := "StopIteration") (b := true) ⟨o, ho, hc⟩ isSubtype_stop ?_)
    exact wpAny_pure (hQ _ fun c o c1 _ c3 _ e => hk c o c1 c3 e)
theorem ZS.on {h h' : Heap} {z TI TO i1 i2 l1 l2 : Addr} {xs ys : Array Value} {i : Nat} (Z : ZS h z TI TO i1 i2 l1 l2 xs ys i) (k : ∀ b ∈ [z, TI, TO, i1, i2, l1, l2], ∀ o, h.get? b = some o → h'.get? b = some o) (k2 : ∀ b o, h.get? b = some o → ∃ o', h'.get? b = some o') : ZS h' z TI TO i1 i2 l1 l2 xs ys i := by
  obtain ⟨zo, ti, ⟨a, b, to⟩, j1, j2, q1, q2⟩ := Z
  refine ⟨zo.imp (fun h => k z (by simp) _ h) (fun ⟨T, o, b', hz, hT⟩ => ?_), k TI (by simp) _ ti, ⟨a, b, k TO (by simp) _ to⟩, j1.at fun o e => k i1 (by simp) o e, j2.at fun o e => k i2 (by simp) o e, q1.at fun o e => k l1 (by simp) o e, q2.at fun o e => k l2 (by simp) o e⟩
  obtain ⟨o', ho'⟩ := k2 T o hT
  exact ⟨T, o', b', k z (by simp) _ hz, ho'⟩
end
theorem FpOk.on {X : Cx} {pins : List (Addr × Obj)} {H H' : Hp} {b : Addr} (h : FpOk X pins H b) (e : H' b = none) : FpOk X pins H' b := ⟨e, h.2⟩
def Zp (H : Hp) (xs ys ps : List V) : Prop := ∀ (j : Nat) p x y, ps[j]? = some p → xs[j]? = some x → ys[j]? = some y → ∃ q, p = .ref q ∧ H q = some (.tup [x, y])
theorem zl_loop {X : Cx} {A : Around} {R : Result → Shared → Prop} {pins : List (Addr × Obj)} {σ : St} {z TI TO i1 i2 l1 l2 S : Addr} {xs ys : List V} {us ws : List Value} {res : Value} {H0 : Hp} (hh : A.in1.handled = none) (D : ZipApart z TI TO i1 i2 l1 l2) (hS : S ∉ [z, TI, TO, i1, i2, l1, l2]) (r1 : Vals xs us) (r2 : Vals ys ws) (hl : xs.length = ys.length) (hn : xs.length ≤ 1000) (fS : H0 S = none) :
    ∀ (k i : Nat) (s : Shared) (H : Hp) (ps : List V), xs.length - i = k → i ≤ xs.length → ZS s.heap z TI TO i1 i2 l1 l2 us.toArray ws.toArray i → Inv X pins σ H s → (∀ b ∈ [z, TO, i1, i2], FpOk X pins H b) → Same H0 H → H S = some (.lst ps) → ps.length = i → Zp H xs ys ps →
      (∀ s' H' ps', Inv X pins σ H' s' → Same H0 H' → H' S = some (.lst ps') → ps'.length = xs.length → Zp H' xs ys ps' → R (.ok (.ret res)) s') →
      codeAny (model X.prog X.w) A (.builtin "list.extend.loop" ⟨[.ref S, .ref z, res], []⟩) R s := by
  have sl : sizeLine = 16777216 := sizeLine_eq
  have e1 := r1.length
  have e2 := r2.length
  intro k
  induction k with
  | zero =>
    intro i s H ps hk hi hz I hf sm hSS hps hp hR
    have hin : i = xs.length := by omega
    subst hin
    refine codeAny_builtin F.entry_extend_loop ?_
    rw [Around.under_plainId F.plain_extend_loop _]
    show wpAny _ A.in1 (pyNext (.ref z) >>= _) _ _ s
    refine wpAny_bind (zs_end hh D hz (by simp; omega) fun h' hk' => ?_)
    have J : Inv X pins σ H { s with heap := h' } := I.turnedN (t' := s.toks) (ch := [z, TO, i1, i2]) (fun c o hc q => hk' c o (fun w => hc (by simp [w])) (fun w => hc (by simp [w])) (fun w => hc (by simp [w])) (fun w => hc (by simp [w])) q) hf
    exact wpAny_pure (hR _ H ps J sm hSS hps hp)
  | succ k ih =>
    intro i s H ps hk hi hz I hf sm hSS hps hp hR
    have hlt : i < xs.length := by omega
    obtain ⟨ux, hux, rux⟩ := r1.get (List.getElem?_eq_getElem hlt)
    obtain ⟨uy, huy, ruy⟩ := r2.get (List.getElem?_eq_getElem (show i < ys.length by omega))
    refine codeAny_builtin F.entry_extend_loop ?_
    rw [Around.under_plainId F.plain_extend_loop _]
    show wpAny _ A.in1 (pyNext (.ref z) >>= _) _ _ s
    refine wpAny_bind (zs_item D hz (by simpa using hux) (by simpa using huy) fun h' hz' hT hk' => ?_)
    have hn0 : H s.heap.objs.size = none := I.hok.fresh (Nat.le_refl _)
    have J : Inv X pins σ (upd H s.heap.objs.size (.tup [xs[i], ys[i]])) { s with heap := h' } :=
      I.turnedNew (t' := s.toks) (ch := [z, TO, i1, i2]) (fun c o hc q => hk' c o (fun w => hc (by simp [w])) (fun w => hc (by simp [w])) (fun w => hc (by simp [w])) (fun w => hc (by simp [w])) q) hf (Nat.le_refl _) ⟨by rw [sl]; show 2 ≤ 16777216; decide, [ux, uy], .cons rux (.cons ruy .nil), _, hT, rfl, 0, rfl⟩
    have nS : S ≠ s.heap.objs.size := ne_of_none hSS hn0
    have hS1 : (upd H s.heap.objs.size (.tup [xs[i], ys[i]])) S = some (.lst ps) := by rw [upd_ne nS]; exact hSS
    obtain ⟨_, its, n, rv, hlen, eo⟩ := J.lstM hS1
    show wpAny _ A.in1 (updateSeq S (·.push (.ref s.heap.objs.size)) >>= _) _ _ _
    refine wpAny_bind ?_
    have J2 : Inv X pins σ (upd (upd H s.heap.objs.size (.tup [xs[i], ys[i]])) S (.lst (ps ++ [.ref s.heap.objs.size]))) { s with heap := h'.update S (Obj.mapSeq (·.push (.ref s.heap.objs.size))) } :=
      J.lset (s := { s with heap := h' }) (t' := s.toks) (its := its) (its' := its ++ [.ref s.heap.objs.size]) hS1 eo (by simp) (rv.append (.cons (show RelV (V.ref s.heap.objs.size) (.ref s.heap.objs.size) from rfl) .nil)) (by rw [List.length_append, List.length_singleton]; omega)
    have new : ∀ c ∈ [z, TO, i1, i2], c ≠ s.heap.objs.size := fun c hc q => by
      have : ∃ o, s.heap.get? c = some o := by
        obtain ⟨zo, ti, ⟨a, b, to⟩, ⟨o1, j1, _⟩, ⟨o2, j2, _⟩, _⟩ := hz
        simp only [List.mem_cons, List.not_mem_nil, or_false] at hc
        rcases hc with rfl | rfl | rfl | rfl
        · rcases zo with h | ⟨_, _, _, h, _⟩
          · exact ⟨_, h⟩
          · exact ⟨_, h⟩
        · exact ⟨_, to⟩
        · exact ⟨_, j1⟩
        · exact ⟨_, j2⟩
      obtain ⟨o, ho⟩ := this
      exact absurd (Heap.lt_size ho) (by rw [q]; exact Nat.lt_irrefl _)
    have nSf : ∀ c ∈ [z, TI, TO, i1, i2, l1, l2], c ≠ S := fun c hc q => hS (by rw [← q]; exact hc)
    refine wpAny_updateSeq eo rfl (wpAny_pure ⟨plainId_quiet F.plain_extend_loop _, ih (i + 1) _ _ _ (by omega) hlt (hz'.on (fun b hb o e => (Heap.get?_update_other _ _ (nSf b hb).symm).trans e) fun b o e => ?_) J2 (fun b hb => (hf b hb).on ?_) ((sm.put (sm.free hn0)).put fS) upd_same (by rw [List.length_append, List.length_singleton]; omega) ?_ hR⟩) (by rw [List.size_toArray]; omega) (by rw [Array.size_push, List.size_toArray]; omega)
    · by_cases eb : b = S
      · subst eb
        exact ⟨_, Heap.get?_update_self _ eo rfl⟩
      · exact ⟨o, (Heap.get?_update_other _ _ (Ne.symm eb)).trans e⟩
    · rw [upd_ne (nSf b (by simp at hb ⊢; rcases hb with rfl | rfl | rfl | rfl <;> simp)), upd_ne (new b hb)]
      exact (hf b hb).1
    · intro j p x y h1 h2 h3
      by_cases hj : j < ps.length
      · rw [List.getElem?_append_left hj] at h1
        obtain ⟨q, rfl, hq⟩ := hp j p x y h1 h2 h3
        refine ⟨q, rfl, ?_⟩
        have nq : q ≠ S := fun e => by rw [e, hSS] at hq; cases hq
        rw [upd_ne nq, upd_ne (ne_of_none hq hn0)]
        exact hq
      · rw [List.getElem?_append_right (by omega)] at h1
        have : j = i := by
          by_cases e : j - ps.length = 0
          · omega
          · rw [List.getElem?_eq_none (by simp; omega)] at h1; cases h1
        subst this
        rw [show j - ps.length = 0 by omega] at h1
        cases h1
        rw [List.getElem?_eq_getElem hlt] at h2
        cases h2
        rw [List.getElem?_eq_getElem (by omega)] at h3
        cases h3
        exact ⟨_, rfl, by rw [upd_ne nS.symm]; exact upd_same⟩
theorem zip_apart (n a b : Nat) (h1 : a < n) (h2 : b < n) : ZipApart (n + 4) (n + 2) (n + 3) n (n + 1) a b := by
  constructor <;> exact (show (_ : Nat) ≠ (_ : Nat) by omega)
theorem zip_mem (n a b c : Nat) (h1 : a < n) (h2 : b < n) (h : c ∈ [n + 4, n + 2, n + 3, n, n + 1, a, b]) : c ≠ n + 5 := by
  simp only [List.mem_cons, List.not_mem_nil, or_false] at h
  omega
theorem zip_mem2 (n c : Nat) (h : c ∈ [n + 4, n + 3, n, n + 1]) : n ≤ c ∧ c ≠ n + 5 := by
  simp only [List.mem_cons, List.not_mem_nil, or_false] at h
  omega
theorem zip_no_len : typeLookup (.type "zip") (Str.ofString "__len__") = pure none := by rw [typeLookup_type, builtinLookup_eq_fast]; kernel_rfl
theorem zip_no_hint : typeLookup (.type "zip") (Str.ofString "__length_hint__") = pure none := by rw [typeLookup_type, builtinLookup_eq_fast]; kernel_rfl
section
variable {prog : Program} {w : World} {A : Around} {E : Value → Shared → Prop} {s : Shared} {I : Addr}
theorem hint_zip {Q : Bool → Shared → Prop} (hT : s.TypeIs (.ref I) "zip") (h : Q true s) : wpAny (model prog w) A (Builtin.List.listLengthHint (.ref I)) Q E s := by
  unfold Builtin.List.listLengthHint
  refine wpAny_bind (wpAny_specialOf hT zip_no_len ?_)
  show wpAny _ A (specialOf (Value.ref I) (Str.ofString "__length_hint__") >>= _) _ _ _
  refine wpAny_bind (wpAny_specialOf hT zip_no_hint ?_)
  exact wpAny_pure h
end
section
variable {X : Cx} {e f : Expr} {ta : TA} {p1 p2 pos pos2 : Pos}
def tLZ (ta : TA) : TE := fun σ H Q => ta σ H fun vs H1 => ∃ (a b : Addr) (xs ys : List V), vs = [.ref a, .ref b] ∧ H1 a = some (.lst xs) ∧ H1 b = some (.lst ys) ∧ xs.length = ys.length ∧ xs.length ≤ 1000 ∧
  ∀ H' l ps, Same H1 H' → H1 l = none → H' l = some (.lst ps) → ps.length = xs.length → Zp H' xs ys ps → Q (.ref l) H'
theorem pe_listZip (hc : X.calm = true) (hg1 : Gl X "list") (hm1 : X.mg "list" = none) (hg2 : Gl X "zip") (hm2 : X.mg "zip" = none) (ha : PA X [e, f] ta)
    (he : starEach [Expr.Call (.Name "zip" p2) [e, f] [] pos2] X.env = [(false, eval (.Call (.Name "zip" p2) [e, f] [] pos2) X.env)] := by rfl) (hs : starEach [e, f] X.env = (false, eval e X.env) :: starEach [f] X.env := by rfl)
    (hpl : (backTo pos2 (starEach [f] X.env)).any (·.1) = false := by rfl) :
    PE X (.Call (.Name "list" p1) [.Call (.Name "zip" p2) [e, f] [] pos2] [] pos) (tLZ ta) := by
  intro pins s σ H Q I h
  have sl : sizeLine = 16777216 := sizeLine_eq
  refine wpAny_Call_Name_kw (ld_blt I hg1 hm1 bt_list ?_ (by decide) (by decide))
  refine PyProof.Rows.callWith_type1 (Calls.spliced_cons ?_) he rfl
  refine wpAny_Call_Name_kw (ld_blt I hg2 hm2 bt_zip ?_ (by decide) (by decide))
  refine PyProof.Rows.callWith_type1 (thn (ha pos2 pins s σ H _ I h) fun us s1 ⟨vs, H1, I1, r1, a, b, xs, ys, e1, hl, hl2, hxy, hx, q⟩ => ?_) hs hpl
  subst e1
  obtain ⟨u, v, rfl, ru, rv⟩ := vals2 r1
  cases ru
  cases rv
  obtain ⟨_, its, n, r, hlen, eo⟩ := I1.lstM hl
  obtain ⟨_, its2, m, r2, hlen2, eo2⟩ := I1.lstM hl2
  refine call_zip_2 (xs := its.toArray) (ys := its2.toArray) ⟨_, eo, rfl, _, rfl⟩ ⟨_, eo2, rfl, _, rfl⟩ fun h2 e1 e2 e3 e4 e5 e6 e7 => ?_
  refine Calls.spliced_nil ?_
  have I2 : Inv X pins σ H1 { s1 with heap := h2 } := I1.kept (t' := s1.toks) e7
  have lta : a < s1.heap.objs.size := Heap.lt_size eo
  have ltb : b < s1.heap.objs.size := Heap.lt_size eo2
  have Z2 : ZS h2 (s1.heap.objs.size + 4) (s1.heap.objs.size + 2) (s1.heap.objs.size + 3) s1.heap.objs.size (s1.heap.objs.size + 1) a b its.toArray its2.toArray 0 := ⟨.inl e1, e2, ⟨_, _, e3⟩, e4, e5, ⟨_, e7 _ _ eo, rfl, _, rfl⟩, ⟨_, e7 _ _ eo2, rfl, _, rfl⟩⟩
  have D : ZipApart (s1.heap.objs.size + 4) (s1.heap.objs.size + 2) (s1.heap.objs.size + 3) s1.heap.objs.size (s1.heap.objs.size + 1) a b := zip_apart _ _ _ lta ltb
  have fp0 : ∀ c, s1.heap.objs.size ≤ c → FpOk X pins H1 c := fun c hc' => I1.fpOk hc' (I1.hok.fresh hc')
  obtain ⟨S, hS⟩ : ∃ S, S = h2.objs.size := ⟨_, rfl⟩
  have hS5 : S = s1.heap.objs.size + 5 := by rw [hS, e6]
  refine callType_codes (Q₁ := fun obj s₁ => obj = .ref h2.objs.size ∧ s₁ = { s1 with heap := h2.push { cls := .type "list", data := .seq #[] } }) F.called_list (F.typeCall_list_1 _) F.entry_list_init (code_list_new _ ⟨rfl, rfl⟩) fun obj s₁ h₁ => ?_
  obtain ⟨rfl, rfl⟩ := h₁
  rw [← hS]
  have I3 : Inv X pins σ (upd H1 S (.lst [])) { s1 with heap := h2.push { cls := .type "list", data := .seq #[] } } := by
    have := I2.lnew (t' := s1.toks) (ys := []) (its := []) .nil (Nat.zero_le _)
    rw [hS]
    exact this
  have fS : H1 S = none := I1.hok.fresh (by omega)
  obtain ⟨_, its3, n3, r3, _, hS3⟩ := I3.lstM (l := S) (xs := []) upd_same
  cases r3
  refine ⟨⟨_, hS3, rfl⟩, F.args_list_init_2 _ _, ?_⟩
  show wpAny _ _ (do let old ← Builtin.List.listItems (.ref S); Builtin.List.listUpdate (.ref S) (fun _ => #[]); letGo old.toList.reverse; Builtin.List.listExtendWith (.ref S) (.ref (s1.heap.objs.size + 4)) .none) _ _ _
  refine wpAny_bind ?_; unfold Builtin.List.listItems; refine wpAny_bind (wpAny_seqItems hS3 rfl (wpAny_pure ?_))
  show wpAny _ _ (updateSeq S (fun _ => #[]) >>= fun _ => letGo (#[] : Array Value).toList.reverse >>= fun _ => Builtin.List.listExtendWith (.ref S) (.ref (s1.heap.objs.size + 4)) .none) _ _ _
  refine wpAny_bind (wpAny_updateSeq hS3 rfl ?_)
  refine wpAny_bind (wpAny_letGo ?_)
  have I4 : Inv X pins σ (upd (upd H1 S (.lst [])) S (.lst [])) { s1 with heap := (h2.push { cls := .type "list", data := .seq #[] }).update S (Obj.mapSeq (fun _ => #[])) } :=
    I3.lset (s := { s1 with heap := h2.push { cls := .type "list", data := .seq #[] } }) (t' := s1.toks) (its := []) (its' := []) upd_same hS3 rfl .nil (Nat.zero_le _)
  rw [upd_upd] at I4
  have up : ∀ c o, h2.get? c = some o → ((h2.push { cls := .type "list", data := .seq #[] }).update S (Obj.mapSeq (fun _ => (#[] : Array Value)))).get? c = some o := fun c o hc' => (Heap.get?_update_other _ _ (by rw [hS]; exact Nat.ne_of_gt (Heap.lt_size hc'))).trans (Heap.get?_push_of_some _ hc')
  have Z4 := Z2.on (fun c _ o hc' => up c o hc') (fun c o hc' => ⟨o, up c o hc'⟩)
  have ti : Shared.TypeIs { s1 with heap := (h2.push { cls := .type "list", data := .seq #[] }).update S (Obj.mapSeq (fun _ => (#[] : Array Value))) } (.ref (s1.heap.objs.size + 4)) "zip" := ⟨_, up _ _ e1, rfl⟩
  unfold Builtin.List.listExtendWith
  refine wpAny_bind (wpAny_typeOf ti ?_)
  have g1 : Builtin.List.listSameRef (.ref S) (.ref (s1.heap.objs.size + 4)) = false := by
    have : (S : Nat) ≠ s1.heap.objs.size + 4 := by omega
    simpa [Builtin.List.listSameRef] using this
  have g2 : (Value.type "zip" == Value.type "list") = false := by decide
  have g3 : (Value.type "zip" == Value.type "tuple") = false := by decide
  simp only [g1, g2, g3, Bool.or_false, Bool.false_eq_true, if_false]
  refine wpAny_bind ?_
  have pz : ∀ {A' : Around} {Q' : Value → Shared → Prop} {E' : Value → Shared → Prop} {s' : Shared}, ZipO s'.heap (s1.heap.objs.size + 4) (s1.heap.objs.size + 2) (s1.heap.objs.size + 3) .none false → Q' (.ref (s1.heap.objs.size + 4)) s' → wpAny (model X.prog X.w) A' (pyIter (.ref (s1.heap.objs.size + 4))) Q' E' s' := fun h h' => wpAny_pyIter_zip h h'
  refine pz (up _ _ e1) ?_
  refine wpAny_bind (wpAny_holding (hint_zip ti ?_))
  rw [if_pos (by rfl)]
  refine wpAny_bind (wpAny_rule ?_)
  obtain ⟨_, its4, n4, r4, _, hS4⟩ := I4.lstM (l := S) (xs := []) upd_same
  cases r4
  unfold Builtin.List.listTouch
  refine wpAny_bind (wpAny_bind ?_)
  show wpAny _ _ (updateSeq S (·.push .none)) _ _ _
  refine wpAny_updateSeq hS4 rfl ?_ (by simp) (by simp)
  have I5 := I4.lset (s := { s1 with heap := (h2.push { cls := .type "list", data := .seq #[] }).update S (Obj.mapSeq (fun _ => #[])) }) (t' := s1.toks) (its := []) (its' := [.none]) (f := (·.push .none)) (ys := [.non]) upd_same hS4 rfl (.cons rfl .nil) (by rw [sl]; show 1 ≤ 16777216; decide)
  rw [upd_upd] at I5
  obtain ⟨_, its5, n5, r5, _, hS5'⟩ := I5.lstM (l := S) (xs := [.non]) upd_same
  obtain ⟨u5, rfl, ru5⟩ := r5.one
  cases ru5
  show wpAny _ _ (updateSeq S (·.pop)) _ _ _
  refine wpAny_updateSeq hS5' rfl ?_ (by simp [sl]) (by simp)
  have I6 := I5.lset (s := { s1 with heap := ((h2.push { cls := .type "list", data := .seq #[] }).update S (Obj.mapSeq (fun _ => #[]))).update S (Obj.mapSeq (·.push .none)) }) (t' := s1.toks) (its := [.none]) (its' := []) (f := (·.pop)) (ys := []) upd_same hS5' (by simp) .nil (Nat.zero_le _)
  rw [upd_upd] at I6
  have nzS : ∀ c ∈ [s1.heap.objs.size + 4, s1.heap.objs.size + 2, s1.heap.objs.size + 3, s1.heap.objs.size, s1.heap.objs.size + 1, a, b], c ≠ S := fun c hc' => by
    rw [hS5]
    exact zip_mem _ _ _ _ lta ltb hc'
  have Z6 := (Z4.on (fun c hc' o e => (Heap.get?_update_other _ (Obj.mapSeq (·.push .none)) (nzS c hc').symm).trans e) (fun c o e => by
    by_cases ec : c = S
    · exact ⟨_, by rw [ec]; exact hS5'⟩
    · exact ⟨o, (Heap.get?_update_other _ _ (Ne.symm ec)).trans e⟩)).on (fun c hc' o e => (Heap.get?_update_other _ (Obj.mapSeq (·.pop)) (nzS c hc').symm).trans e) (fun c o e => by
    by_cases ec : c = S
    · exact ⟨_, by rw [ec]; exact Heap.get?_update_self _ hS5' rfl⟩
    · exact ⟨o, (Heap.get?_update_other _ _ (Ne.symm ec)).trans e⟩)
  refine wpAny_pure ⟨plainId_quiet F.plain_extend_loop _, zl_loop (H0 := H1) (by simpa using I1.ok.hd hc) D ?_ r r2 hxy hx fS xs.length 0 _ _ _ rfl (Nat.zero_le _) Z6 I6 (fun c hc' => (fp0 c ?_).on ?_) (Same.new fS) upd_same rfl (fun j p x y h => by cases h) fun s' H' ps' I' sm hS' hps hz => ⟨rfl, ?_⟩⟩
  · exact fun z => nzS _ z rfl
  · exact (zip_mem2 _ _ hc').1
  · rw [upd_ne (by rw [hS5]; exact (zip_mem2 _ _ hc').2)]
    exact I1.hok.fresh (zip_mem2 _ _ hc').1
  · exact ⟨.ref S, H', I', rfl, q H' S ps' sm fS hS' hps hz⟩
end
end L2
set_option Elab.async false
set_option linter.all false
set_option maxRecDepth 100000
namespace L2
open PySem PySem.Spec PyProof.Rows
section
variable {X : Cx}
def rNeR (K : PySem.W.Frag) : R2 := fun x y H Q => ∃ (l b : Addr) (xs : List V), x = .ref l ∧ y = .ref b ∧ SqL K H l xs ∧ SqL K H b xs ∧ (∀ v ∈ xs, ∃ p, v = .ref p) ∧ Q (.bl false) H
theorem vals_refs : ∀ {xs : List V} {us us' : List Value}, (∀ v ∈ xs, ∃ p, v = .ref p) → Vals xs us → Vals xs us' → us = us'
  | [], _, _, _, h1, h2 => by cases h1; cases h2; rfl
  | x :: xs, _, _, h, h1, h2 => by
    cases h1 with
    | cons r1 t1 =>
      cases h2 with
      | cons r2 t2 =>
        obtain ⟨p, rfl⟩ := h x (List.mem_cons_self ..)
        cases r1
        cases r2
        rw [vals_refs (fun v hv => h v (List.mem_cons_of_mem _ hv)) t1 t2]
theorem o_neR (hu : X.A.units + 64 < cLine) : OpR X (compareOp .NotEq) (rNeR X.K) := by
  intro pins s σ H x y v u Q I rx ry h
  obtain ⟨l, b, xs, rfl, rfl, h1, h2, hr, q⟩ := h
  cases rx
  cases ry
  obtain ⟨its, r1, p1, _⟩ := I.list h1
  obtain ⟨its', r2, p2, _⟩ := I.list h2
  have e := vals_refs hr r1 r2
  subst e
  have L := SeqAt.RcNeAt.lists (A := X.A) (e := fun _ => true) p1.isList p2.isList rfl (by omega) (fun j h1 h2 => SeqAt.EqAt.same _)
  refine PySem.W.cmp_ofNotEq (L _ _ _ _ ?_)
  have ea : (List.range its.toArray.size).all (fun _ => true) = true := by simp
  rw [ea]
  exact ⟨.bl false, H, I, rfl, q⟩
end
end L2
set_option Elab.async false
set_option linter.all false
set_option maxRecDepth 100000
set_option maxHeartbeats 4000000
namespace My
open PySem L2 FrM
def top (i : Nat) : Stmt := PySem.Challenge.pw_fewspeak_k23_starts_and_loose_ones_throw.main.body.getD i (.Pass ⟨0, 0, 0, 0⟩)
abbrev s_NoPlan___init__ : Stmt := inClass (top 3) 0
abbrev s_NoThrow___init__ : Stmt := inClass (top 4) 0
abbrev s_greatest_divisor : Stmt := top 6
abbrev s_share : Stmt := top 7
abbrev s_times : Stmt := top 8
abbrev s_is_whole : Stmt := top 10
abbrev s_Told___init__ : Stmt := inClass (top 13) 0
abbrev s_Told_is_told : Stmt := inClass (top 13) 1
abbrev s_Told_kept : Stmt := inClass (top 13) 2
abbrev s_Told_sides : Stmt := inClass (top 13) 3
abbrev s_Told_parts : Stmt := inClass (top 13) 4
abbrev s_Die___init__ : Stmt := inClass (top 14) 0
abbrev s_Die_is_told : Stmt := inClass (top 14) 1
abbrev s_Die_kept : Stmt := inClass (top 14) 2
abbrev s_Die_sides : Stmt := inClass (top 14) 3
abbrev s_Die_parts : Stmt := inClass (top 14) 4
abbrev s_Die_after : Stmt := inClass (top 14) 5
abbrev s_can_be_thrown : Stmt := top 15
abbrev s_drawn : Stmt := top 16
abbrev s_wished : Stmt := top 22
abbrev s_wished_of_some : Stmt := top 23
abbrev s_wished_by : Stmt := top 24
abbrev s_places_of : Stmt := top 25
abbrev s_matrix_by : Stmt := top 26
abbrev s_matrix_row : Stmt := top 27
abbrev s_need_number : Stmt := top 28
abbrev s_Start___init__ : Stmt := inClass (top 30) 0
abbrev s_Start_node : Stmt := inClass (top 30) 1
abbrev s_Start_matrix : Stmt := inClass (top 30) 2
abbrev s_Start_bounds : Stmt := inClass (top 30) 3
abbrev s_Start_text : Stmt := inClass (top 30) 4
abbrev s_start_make : Stmt := top 31
abbrev s_Loose___init__ : Stmt := inClass (top 32) 0
abbrev s_Loose_node : Stmt := inClass (top 32) 1
abbrev s_Loose_matrix : Stmt := inClass (top 32) 2
abbrev s_Loose_bounds : Stmt := inClass (top 32) 3
abbrev s_Loose_text : Stmt := inClass (top 32) 4
abbrev s_is_unsure : Stmt := top 33
abbrev s_loose_node : Stmt := top 34
abbrev s_L_cell : Stmt := top 36
abbrev s_L_mix : Stmt := top 37
abbrev s_L_row : Stmt := top 38
abbrev s_L_whole : Stmt := top 39
abbrev s_L_low : Stmt := top 40
abbrev s_L_times : Stmt := top 41
abbrev s_L_fraction : Stmt := top 42
abbrev s_L_matrix : Stmt := top 43
abbrev s_L_crowd : Stmt := top 44
abbrev s_L_wished : Stmt := top 45
abbrev s_L_thrown : Stmt := top 46
abbrev s_L_loose : Stmt := top 47
abbrev s_L_start : Stmt := top 48
abbrev s_L_both : Stmt := top 49
abbrev s_L_steps : Stmt := top 50
abbrev s_L_right : Stmt := top 51
abbrev s_law : Stmt := top 52
theorem sc_greatest_divisor : FnScope ["one", "other"] ["one", "other"] (defScope s_greatest_divisor) := ⟨rfl, rfl, rfl, by decide +kernel, rfl, by decide +kernel, by decide +kernel⟩
theorem sc_share : FnScope ["top", "bottom", "divisor"] ["top", "bottom"] (defScope s_share) := ⟨rfl, rfl, rfl, by decide +kernel, rfl, by decide +kernel, by decide +kernel⟩
theorem sc_times : FnScope ["one", "other"] ["one", "other"] (defScope s_times) := ⟨rfl, rfl, rfl, by decide +kernel, rfl, by decide +kernel, by decide +kernel⟩
theorem sc_is_whole : FnScope ["thing", "low", "high"] ["thing", "low", "high"] (defScope s_is_whole) := ⟨rfl, rfl, rfl, by decide +kernel, rfl, by decide +kernel, by decide +kernel⟩
theorem sc_Told___init__ : FnScope ["self", "kept"] ["self", "kept"] (defScope s_Told___init__) := ⟨rfl, rfl, rfl, by decide +kernel, rfl, by decide +kernel, by decide +kernel⟩
theorem sc_Told_is_told : FnScope ["self"] ["self"] (defScope s_Told_is_told) := ⟨rfl, rfl, rfl, by decide +kernel, rfl, by decide +kernel, by decide +kernel⟩
theorem sc_Told_kept : FnScope ["self"] ["self"] (defScope s_Told_kept) := ⟨rfl, rfl, rfl, by decide +kernel, rfl, by decide +kernel, by decide +kernel⟩
theorem sc_Told_sides : FnScope ["self"] ["self"] (defScope s_Told_sides) := ⟨rfl, rfl, rfl, by decide +kernel, rfl, by decide +kernel, by decide +kernel⟩
theorem sc_Told_parts : FnScope ["self"] ["self"] (defScope s_Told_parts) := ⟨rfl, rfl, rfl, by decide +kernel, rfl, by decide +kernel, by decide +kernel⟩
theorem sc_Die___init__ : FnScope ["self", "parts"] ["self", "parts"] (defScope s_Die___init__) := ⟨rfl, rfl, rfl, by decide +kernel, rfl, by decide +kernel, by decide +kernel⟩
theorem sc_Die_is_told : FnScope ["self"] ["self"] (defScope s_Die_is_told) := ⟨rfl, rfl, rfl, by decide +kernel, rfl, by decide +kernel, by decide +kernel⟩
theorem sc_Die_kept : FnScope ["self"] ["self"] (defScope s_Die_kept) := ⟨rfl, rfl, rfl, by decide +kernel, rfl, by decide +kernel, by decide +kernel⟩
theorem sc_Die_sides : FnScope ["self"] ["self"] (defScope s_Die_sides) := ⟨rfl, rfl, rfl, by decide +kernel, rfl, by decide +kernel, by decide +kernel⟩
theorem sc_Die_parts : FnScope ["self"] ["self"] (defScope s_Die_parts) := ⟨rfl, rfl, rfl, by decide +kernel, rfl, by decide +kernel, by decide +kernel⟩
theorem sc_Die_after : FnScope ["self", "throw", "number", "last", "many", "make"] ["self", "throw"] (defScope s_Die_after) := ⟨rfl, rfl, rfl, by decide +kernel, rfl, by decide +kernel, by decide +kernel⟩
theorem sc_can_be_thrown : FnScope ["node", "throw"] ["node", "throw"] (defScope s_can_be_thrown) := ⟨rfl, rfl, rfl, by decide +kernel, rfl, by decide +kernel, by decide +kernel⟩
theorem sc_drawn : FnScope ["node", "throws", "here", "place", "throw"] ["node", "throws"] (defScope s_drawn) := ⟨rfl, rfl, rfl, by decide +kernel, rfl, by decide +kernel, by decide +kernel⟩
theorem sc_wished : FnScope ["sizes", "many"] ["sizes", "many"] (defScope s_wished) := ⟨rfl, rfl, rfl, by decide +kernel, rfl, by decide +kernel, by decide +kernel⟩
theorem sc_wished_of_some : FnScope ["sizes", "many", "left", "wanted", "whole", "staying"] ["sizes", "many"] (defScope s_wished_of_some) := ⟨rfl, rfl, rfl, by decide +kernel, rfl, by decide +kernel, by decide +kernel⟩
theorem sc_wished_by : FnScope ["crowd", "many"] ["crowd", "many"] (defScope s_wished_by) := ⟨rfl, rfl, rfl, by decide +kernel, rfl, by decide +kernel, by decide +kernel⟩
theorem sc_places_of : FnScope ["crowd"] ["crowd"] (defScope s_places_of) := ⟨rfl, rfl, rfl, by decide +kernel, rfl, by decide +kernel, by decide +kernel⟩
theorem sc_matrix_by : FnScope ["many", "tell"] ["many", "tell"] (defScope s_matrix_by) := ⟨rfl, rfl, rfl, by decide +kernel, rfl, by decide +kernel, by decide +kernel⟩
theorem sc_matrix_row : FnScope ["one", "many", "tell"] ["one", "many", "tell"] (defScope s_matrix_row) := ⟨rfl, rfl, rfl, by decide +kernel, rfl, by decide +kernel, by decide +kernel⟩
theorem sc_need_number : FnScope ["thing", "low", "high"] ["thing", "low", "high"] (defScope s_need_number) := ⟨rfl, rfl, rfl, by decide +kernel, rfl, by decide +kernel, by decide +kernel⟩
theorem sc_Start___init__ : FnScope ["self", "step"] ["self", "step"] (defScope s_Start___init__) := ⟨rfl, rfl, rfl, by decide +kernel, rfl, by decide +kernel, by decide +kernel⟩
theorem sc_Start_node : FnScope ["self", "crowd", "places", "step"] ["self", "crowd"] (defScope s_Start_node) := ⟨rfl, rfl, rfl, by decide +kernel, rfl, by decide +kernel, by decide +kernel⟩
abbrev le_Start_matrix_1 : Expr := (argE (retE (stAt s_Start_matrix 1)) 1)
def ld_Start_matrix_1 : LamD := lamOf ((("Start.matrix" : Str) ++ ".<locals>.") ++ "<lambda>") le_Start_matrix_1
theorem sc_Start_matrix : FnScope ["self", "crowd", "step"] ["self", "crowd"] (defScope s_Start_matrix) := ⟨rfl, rfl, rfl, by decide +kernel, rfl, by decide +kernel, by decide +kernel⟩
theorem sc_Start_bounds : FnScope ["self", "crowd"] ["self", "crowd"] (defScope s_Start_bounds) := ⟨rfl, rfl, rfl, by decide +kernel, rfl, by decide +kernel, by decide +kernel⟩
theorem sc_Start_text : FnScope ["self", "step"] ["self"] (defScope s_Start_text) := ⟨rfl, rfl, rfl, by decide +kernel, rfl, by decide +kernel, by decide +kernel⟩
abbrev le_start_make_1 : Expr := (retE (stAt s_start_make 0))
def ld_start_make_1 : LamD := lamOf ((("start_make" : Str) ++ ".<locals>.") ++ "<lambda>") le_start_make_1
theorem sc_start_make : FnScope ["places", "step", "first"] ["places", "step", "first"] (defScope s_start_make) := ⟨rfl, rfl, rfl, by decide +kernel, rfl, by decide +kernel, by decide +kernel⟩
theorem sc_Loose___init__ : FnScope ["self", "many"] ["self", "many"] (defScope s_Loose___init__) := ⟨rfl, rfl, rfl, by decide +kernel, rfl, by decide +kernel, by decide +kernel⟩
theorem sc_Loose_node : FnScope ["self", "crowd", "told", "sure"] ["self", "crowd"] (defScope s_Loose_node) := ⟨rfl, rfl, rfl, by decide +kernel, rfl, by decide +kernel, by decide +kernel⟩
abbrev le_Loose_matrix_1 : Expr := (argE (retE (stAt s_Loose_matrix 1)) 1)
def ld_Loose_matrix_1 : LamD := lamOf ((("Loose.matrix" : Str) ++ ".<locals>.") ++ "<lambda>") le_Loose_matrix_1
theorem sc_Loose_matrix : FnScope ["self", "crowd", "told"] ["self", "crowd"] (defScope s_Loose_matrix) := ⟨rfl, rfl, rfl, by decide +kernel, rfl, by decide +kernel, by decide +kernel⟩
theorem sc_Loose_bounds : FnScope ["self", "crowd", "told"] ["self", "crowd"] (defScope s_Loose_bounds) := ⟨rfl, rfl, rfl, by decide +kernel, rfl, by decide +kernel, by decide +kernel⟩
theorem sc_Loose_text : FnScope ["self", "many"] ["self"] (defScope s_Loose_text) := ⟨rfl, rfl, rfl, by decide +kernel, rfl, by decide +kernel, by decide +kernel⟩
theorem sc_is_unsure : FnScope ["chance"] ["chance"] (defScope s_is_unsure) := ⟨rfl, rfl, rfl, by decide +kernel, rfl, by decide +kernel, by decide +kernel⟩
abbrev le_loose_node_1 : Expr := (tupE (lstE (argE (retE (stAt s_loose_node 3)) 0) 0) 1)
def ld_loose_node_1 : LamD := lamOf ((("loose_node" : Str) ++ ".<locals>.") ++ "<lambda>") le_loose_node_1
abbrev le_loose_node_2 : Expr := (tupE (lstE (argE (retE (stAt s_loose_node 3)) 0) 1) 1)
def ld_loose_node_2 : LamD := lamOf ((("loose_node" : Str) ++ ".<locals>.") ++ "<lambda>") le_loose_node_2
theorem sc_loose_node : FnScope ["ahead", "taken", "place", "chance", "rest"] ["ahead", "taken"] (defScope s_loose_node) := ⟨rfl, rfl, rfl, by decide +kernel, rfl, by decide +kernel, by decide +kernel⟩
theorem sc_L_cell : FnScope ["_law_script", "_law_k"] ["_law_script", "_law_k"] (defScope s_L_cell) := ⟨rfl, rfl, rfl, by decide +kernel, rfl, by decide +kernel, by decide +kernel⟩
theorem sc_L_mix : FnScope ["_law_cell_here", "_law_k", "_law_number"] ["_law_cell_here", "_law_k"] (defScope s_L_mix) := ⟨rfl, rfl, rfl, by decide +kernel, rfl, by decide +kernel, by decide +kernel⟩
theorem sc_L_row : FnScope ["_law_cell_here", "_law_bit", "_law_many", "_law_most", "_law_row_here", "_law_k"] ["_law_cell_here", "_law_bit", "_law_many", "_law_most"] (defScope s_L_row) := ⟨rfl, rfl, rfl, by decide +kernel, rfl, by decide +kernel, by decide +kernel⟩
theorem sc_L_whole : FnScope ["_law_found"] ["_law_found"] (defScope s_L_whole) := ⟨rfl, rfl, rfl, by decide +kernel, rfl, by decide +kernel, by decide +kernel⟩
theorem sc_L_low : FnScope ["_law_top", "_law_bottom", "_law_one", "_law_other"] ["_law_top", "_law_bottom"] (defScope s_L_low) := ⟨rfl, rfl, rfl, by decide +kernel, rfl, by decide +kernel, by decide +kernel⟩
theorem sc_L_times : FnScope ["_law_one", "_law_other"] ["_law_one", "_law_other"] (defScope s_L_times) := ⟨rfl, rfl, rfl, by decide +kernel, rfl, by decide +kernel, by decide +kernel⟩
theorem sc_L_fraction : FnScope ["_law_found", "_law_due"] ["_law_found", "_law_due"] (defScope s_L_fraction) := ⟨rfl, rfl, rfl, by decide +kernel, rfl, by decide +kernel, by decide +kernel⟩
theorem sc_L_matrix : FnScope ["_law_found", "_law_due", "_law_row_here", "_law_others", "_law_one", "_law_other"] ["_law_found", "_law_due"] (defScope s_L_matrix) := ⟨rfl, rfl, rfl, by decide +kernel, rfl, by decide +kernel, by decide +kernel⟩
theorem sc_L_crowd : FnScope ["_law_script", "_law_start_here", "_law_most", "_law_many", "_law_bit", "_law_sizes", "_law_left", "_law_places", "_law_pick", "_law_path"] ["_law_script", "_law_start_here", "_law_most"] (defScope s_L_crowd) := ⟨rfl, rfl, rfl, by decide +kernel, rfl, by decide +kernel, by decide +kernel⟩
theorem sc_L_wished : FnScope ["_law_sizes", "_law_many", "_law_sure", "_law_more", "_law_total", "_law_high", "_law_k", "_law_found"] ["_law_sizes", "_law_many"] (defScope s_L_wished) := ⟨rfl, rfl, rfl, by decide +kernel, rfl, by decide +kernel, by decide +kernel⟩
theorem sc_L_thrown : FnScope ["_law_node", "_law_rows", "_law_kept", "_law_sizes", "_law_throw"] ["_law_node", "_law_rows", "_law_kept"] (defScope s_L_thrown) := ⟨rfl, rfl, rfl, by decide +kernel, rfl, by decide +kernel, by decide +kernel⟩
theorem sc_L_loose : FnScope ["_law_places", "_law_shares", "_law_throws", "_law_rows", "_law_kept", "_law_k", "_law_top", "_law_bottom", "_law_throw"] ["_law_places", "_law_shares", "_law_throws"] (defScope s_L_loose) := ⟨rfl, rfl, rfl, by decide +kernel, rfl, by decide +kernel, by decide +kernel⟩
theorem sc_L_start : FnScope ["_law_places", "_law_step", "_law_throw", "_law_kept"] ["_law_places", "_law_step", "_law_throw"] (defScope s_L_start) := ⟨rfl, rfl, rfl, by decide +kernel, rfl, by decide +kernel, by decide +kernel⟩
theorem sc_L_both : FnScope ["_law_shares", "_law_found", "_law_k", "_law_row_here"] ["_law_shares"] (defScope s_L_both) := ⟨rfl, rfl, rfl, by decide +kernel, rfl, by decide +kernel, by decide +kernel⟩
theorem sc_L_steps : FnScope ["_law_every", "_law_step", "_law_found", "_law_k", "_law_row_here", "_law_j"] ["_law_every", "_law_step"] (defScope s_L_steps) := ⟨rfl, rfl, rfl, by decide +kernel, rfl, by decide +kernel, by decide +kernel⟩
theorem sc_L_right : FnScope ["_law_plan", "_law_crowd_here", "_law_rows", "_law_kept", "_law_due", "_law_ends", "_law_handed", "_law_node", "_law_found", "_law_row_here", "_law_others"] ["_law_plan", "_law_crowd_here", "_law_rows", "_law_kept", "_law_due", "_law_ends"] (defScope s_L_right) := ⟨rfl, rfl, rfl, by decide +kernel, rfl, by decide +kernel, by decide +kernel⟩
theorem sc_law : FnScope ["_law_script", "_law_crowd_here", "_law_places", "_law_throws", "_law_step", "_law_rows", "_law_kept", "_law_ends", "_law_many", "_law_shares"] ["_law_script"] (defScope s_law) := ⟨rfl, rfl, rfl, by decide +kernel, rfl, by decide +kernel, by decide +kernel⟩
set_option genInjectivity false in
set_option genSizeOf false in
structure Ad where
  f_greatest_divisor : Addr
  d_greatest_divisor : FuncData
  f_share : Addr
  d_share : FuncData
  f_times : Addr
  d_times : FuncData
  f_is_whole : Addr
  d_is_whole : FuncData
  f_can_be_thrown : Addr
  d_can_be_thrown : FuncData
  f_drawn : Addr
  d_drawn : FuncData
  f_wished : Addr
  d_wished : FuncData
  f_wished_of_some : Addr
  d_wished_of_some : FuncData
  f_wished_by : Addr
  d_wished_by : FuncData
  f_places_of : Addr
  d_places_of : FuncData
  f_matrix_by : Addr
  d_matrix_by : FuncData
  f_matrix_row : Addr
  d_matrix_row : FuncData
  f_need_number : Addr
  d_need_number : FuncData
  f_start_make : Addr
  d_start_make : FuncData
  f_is_unsure : Addr
  d_is_unsure : FuncData
  f_loose_node : Addr
  d_loose_node : FuncData
  f_L_cell : Addr
  d_L_cell : FuncData
  f_L_mix : Addr
  d_L_mix : FuncData
  f_L_row : Addr
  d_L_row : FuncData
  f_L_whole : Addr
  d_L_whole : FuncData
  f_L_low : Addr
  d_L_low : FuncData
  f_L_times : Addr
  d_L_times : FuncData
  f_L_fraction : Addr
  d_L_fraction : FuncData
  f_L_matrix : Addr
  d_L_matrix : FuncData
  f_L_crowd : Addr
  d_L_crowd : FuncData
  f_L_wished : Addr
  d_L_wished : FuncData
  f_L_thrown : Addr
  d_L_thrown : FuncData
  f_L_loose : Addr
  d_L_loose : FuncData
  f_L_start : Addr
  d_L_start : FuncData
  f_L_both : Addr
  d_L_both : FuncData
  f_L_steps : Addr
  d_L_steps : FuncData
  f_L_right : Addr
  d_L_right : FuncData
  f_law : Addr
  d_law : FuncData
  c_SpeakError : Addr
  c_NoPlan : Addr
  i_NoPlan : Addr
  e_NoPlan : FuncData
  c_NoThrow : Addr
  i_NoThrow : Addr
  e_NoThrow : FuncData
  c_Node : Addr
  c_Told : Addr
  i_Told : Addr
  e_Told : FuncData
  c_Die : Addr
  i_Die : Addr
  e_Die : FuncData
  c_Plan : Addr
  c_Start : Addr
  i_Start : Addr
  e_Start : FuncData
  c_Loose : Addr
  i_Loose : Addr
  e_Loose : FuncData
  x_Told_is_told : Addr
  y_Told_is_told : FuncData
  x_Die_is_told : Addr
  y_Die_is_told : FuncData
  x_Told_kept : Addr
  y_Told_kept : FuncData
  x_Die_kept : Addr
  y_Die_kept : FuncData
  x_Told_sides : Addr
  y_Told_sides : FuncData
  x_Die_sides : Addr
  y_Die_sides : FuncData
  x_Told_parts : Addr
  y_Told_parts : FuncData
  x_Die_parts : Addr
  y_Die_parts : FuncData
  x_Die_after : Addr
  y_Die_after : FuncData
  x_Start_node : Addr
  y_Start_node : FuncData
  x_Start_matrix : Addr
  y_Start_matrix : FuncData
  x_Start_bounds : Addr
  y_Start_bounds : FuncData
  x_Start_text : Addr
  y_Start_text : FuncData
  x_Loose_node : Addr
  y_Loose_node : FuncData
  x_Loose_matrix : Addr
  y_Loose_matrix : FuncData
  x_Loose_bounds : Addr
  y_Loose_bounds : FuncData
  x_Loose_text : Addr
  y_Loose_text : FuncData
  k_NOUGHT : Addr
  k_WHOLE : Addr
  lc_Loose_matrix : Addr
  lp_Loose_matrix : Addr
  lc_loose_node : Addr
  lp_loose_node : Addr
  lc_Start_matrix : Addr
  lp_Start_matrix : Addr
  lc_start_make : Addr
  lp_start_make : Addr
abbrev ll_Loose_matrix : List (Pos × Str) := [(lamP le_Loose_matrix_1, ((("Loose.matrix" : Str) ++ ".<locals>.") ++ "<lambda>"))]
theorem tp_Loose_matrix : (ll_Loose_matrix).Pairwise fun x y => ¬ (x.1.line = y.1.line ∧ x.1.col = y.1.col) := by decide +kernel
abbrev ll_loose_node : List (Pos × Str) := [(lamP le_loose_node_1, ((("loose_node" : Str) ++ ".<locals>.") ++ "<lambda>")), (lamP le_loose_node_2, ((("loose_node" : Str) ++ ".<locals>.") ++ "<lambda>"))]
theorem tp_loose_node : (ll_loose_node).Pairwise fun x y => ¬ (x.1.line = y.1.line ∧ x.1.col = y.1.col) := by decide +kernel
abbrev ll_Start_matrix : List (Pos × Str) := [(lamP le_Start_matrix_1, ((("Start.matrix" : Str) ++ ".<locals>.") ++ "<lambda>"))]
theorem tp_Start_matrix : (ll_Start_matrix).Pairwise fun x y => ¬ (x.1.line = y.1.line ∧ x.1.col = y.1.col) := by decide +kernel
abbrev ll_start_make : List (Pos × Str) := [(lamP le_start_make_1, ((("start_make" : Str) ++ ".<locals>.") ++ "<lambda>"))]
theorem tp_start_make : (ll_start_make).Pairwise fun x y => ¬ (x.1.line = y.1.line ∧ x.1.col = y.1.col) := by decide +kernel
def tabs (a : Ad) : Tabs := [(a.lp_Loose_matrix, ll_Loose_matrix), (a.lp_loose_node, ll_loose_node), (a.lp_Start_matrix, ll_Start_matrix), (a.lp_start_make, ll_start_make)]
theorem tb_Loose_matrix (a : Ad) : (a.lp_Loose_matrix, ll_Loose_matrix) ∈ tabs a := (.head _)
theorem tb_loose_node (a : Ad) : (a.lp_loose_node, ll_loose_node) ∈ tabs a := (.tail _ (.head _))
theorem tb_Start_matrix (a : Ad) : (a.lp_Start_matrix, ll_Start_matrix) ∈ tabs a := (.tail _ (.tail _ (.head _)))
theorem tb_start_make (a : Ad) : (a.lp_start_make, ll_start_make) ∈ tabs a := (.tail _ (.tail _ (.tail _ (.head _))))
structure Txt (K : PySem.W.Frag) (mg : Str → Option Value) (a : Ad) : Prop where
  lcd_Loose_matrix : a.y_Loose_matrix.code = .ref a.lc_Loose_matrix
  lch_Loose_matrix : PySem.W.codeHdIn K a.lc_Loose_matrix a.lp_Loose_matrix = true
  lcd_loose_node : a.d_loose_node.code = .ref a.lc_loose_node
  lch_loose_node : PySem.W.codeHdIn K a.lc_loose_node a.lp_loose_node = true
  lcd_Start_matrix : a.y_Start_matrix.code = .ref a.lc_Start_matrix
  lch_Start_matrix : PySem.W.codeHdIn K a.lc_Start_matrix a.lp_Start_matrix = true
  lcd_start_make : a.d_start_make.code = .ref a.lc_start_make
  lch_start_make : PySem.W.codeHdIn K a.lc_start_make a.lp_start_make = true
  tnd : ((tabs a).map (·.1)).Nodup
  F_greatest_divisor : Fun K "greatest_divisor" "greatest_divisor" s_greatest_divisor a.f_greatest_divisor a.d_greatest_divisor
  B_greatest_divisor : Binds K a.d_greatest_divisor ["one", "other"] []
  m_greatest_divisor : mg "greatest_divisor" = some (.ref a.f_greatest_divisor)
  F_share : Fun K "share" "share" s_share a.f_share a.d_share
  B_share : Binds K a.d_share ["top", "bottom"] []
  m_share : mg "share" = some (.ref a.f_share)
  F_times : Fun K "times" "times" s_times a.f_times a.d_times
  B_times : Binds K a.d_times ["one", "other"] []
  m_times : mg "times" = some (.ref a.f_times)
  F_is_whole : Fun K "is_whole" "is_whole" s_is_whole a.f_is_whole a.d_is_whole
  B_is_whole : Binds K a.d_is_whole ["thing", "low", "high"] []
  m_is_whole : mg "is_whole" = some (.ref a.f_is_whole)
  F_can_be_thrown : Fun K "can_be_thrown" "can_be_thrown" s_can_be_thrown a.f_can_be_thrown a.d_can_be_thrown
  B_can_be_thrown : Binds K a.d_can_be_thrown ["node", "throw"] []
  m_can_be_thrown : mg "can_be_thrown" = some (.ref a.f_can_be_thrown)
  F_drawn : Fun K "drawn" "drawn" s_drawn a.f_drawn a.d_drawn
  B_drawn : Binds K a.d_drawn ["node", "throws"] []
  m_drawn : mg "drawn" = some (.ref a.f_drawn)
  F_wished : Fun K "wished" "wished" s_wished a.f_wished a.d_wished
  B_wished : Binds K a.d_wished ["sizes", "many"] []
  m_wished : mg "wished" = some (.ref a.f_wished)
  F_wished_of_some : Fun K "wished_of_some" "wished_of_some" s_wished_of_some a.f_wished_of_some a.d_wished_of_some
  B_wished_of_some : Binds K a.d_wished_of_some ["sizes", "many"] []
  m_wished_of_some : mg "wished_of_some" = some (.ref a.f_wished_of_some)
  F_wished_by : Fun K "wished_by" "wished_by" s_wished_by a.f_wished_by a.d_wished_by
  B_wished_by : Binds K a.d_wished_by ["crowd", "many"] []
  m_wished_by : mg "wished_by" = some (.ref a.f_wished_by)
  F_places_of : Fun K "places_of" "places_of" s_places_of a.f_places_of a.d_places_of
  B_places_of : Binds K a.d_places_of ["crowd"] []
  m_places_of : mg "places_of" = some (.ref a.f_places_of)
  F_matrix_by : Fun K "matrix_by" "matrix_by" s_matrix_by a.f_matrix_by a.d_matrix_by
  B_matrix_by : Binds K a.d_matrix_by ["many", "tell"] []
  m_matrix_by : mg "matrix_by" = some (.ref a.f_matrix_by)
  F_matrix_row : Fun K "matrix_row" "matrix_row" s_matrix_row a.f_matrix_row a.d_matrix_row
  B_matrix_row : Binds K a.d_matrix_row ["one", "many", "tell"] []
  m_matrix_row : mg "matrix_row" = some (.ref a.f_matrix_row)
  F_need_number : Fun K "need_number" "need_number" s_need_number a.f_need_number a.d_need_number
  B_need_number : Binds K a.d_need_number ["thing", "low", "high"] []
  m_need_number : mg "need_number" = some (.ref a.f_need_number)
  F_start_make : Fun K "start_make" "start_make" s_start_make a.f_start_make a.d_start_make
  B_start_make : Binds K a.d_start_make ["places", "step", "first"] []
  m_start_make : mg "start_make" = some (.ref a.f_start_make)
  F_is_unsure : Fun K "is_unsure" "is_unsure" s_is_unsure a.f_is_unsure a.d_is_unsure
  B_is_unsure : Binds K a.d_is_unsure ["chance"] []
  m_is_unsure : mg "is_unsure" = some (.ref a.f_is_unsure)
  F_loose_node : Fun K "loose_node" "loose_node" s_loose_node a.f_loose_node a.d_loose_node
  B_loose_node : Binds K a.d_loose_node ["ahead", "taken"] []
  m_loose_node : mg "loose_node" = some (.ref a.f_loose_node)
  F_L_cell : Fun K "_law_cell" "_law_cell" s_L_cell a.f_L_cell a.d_L_cell
  B_L_cell : Binds K a.d_L_cell ["_law_script", "_law_k"] []
  m_L_cell : mg "_law_cell" = some (.ref a.f_L_cell)
  F_L_mix : Fun K "_law_mix" "_law_mix" s_L_mix a.f_L_mix a.d_L_mix
  B_L_mix : Binds K a.d_L_mix ["_law_cell_here", "_law_k"] []
  m_L_mix : mg "_law_mix" = some (.ref a.f_L_mix)
  F_L_row : Fun K "_law_row" "_law_row" s_L_row a.f_L_row a.d_L_row
  B_L_row : Binds K a.d_L_row ["_law_cell_here", "_law_bit", "_law_many", "_law_most"] []
  m_L_row : mg "_law_row" = some (.ref a.f_L_row)
  F_L_whole : Fun K "_law_whole" "_law_whole" s_L_whole a.f_L_whole a.d_L_whole
  B_L_whole : Binds K a.d_L_whole ["_law_found"] []
  m_L_whole : mg "_law_whole" = some (.ref a.f_L_whole)
  F_L_low : Fun K "_law_low" "_law_low" s_L_low a.f_L_low a.d_L_low
  B_L_low : Binds K a.d_L_low ["_law_top", "_law_bottom"] []
  m_L_low : mg "_law_low" = some (.ref a.f_L_low)
  F_L_times : Fun K "_law_times" "_law_times" s_L_times a.f_L_times a.d_L_times
  B_L_times : Binds K a.d_L_times ["_law_one", "_law_other"] []
  m_L_times : mg "_law_times" = some (.ref a.f_L_times)
  F_L_fraction : Fun K "_law_fraction" "_law_fraction" s_L_fraction a.f_L_fraction a.d_L_fraction
  B_L_fraction : Binds K a.d_L_fraction ["_law_found", "_law_due"] []
  m_L_fraction : mg "_law_fraction" = some (.ref a.f_L_fraction)
  F_L_matrix : Fun K "_law_matrix" "_law_matrix" s_L_matrix a.f_L_matrix a.d_L_matrix
  B_L_matrix : Binds K a.d_L_matrix ["_law_found", "_law_due"] []
  m_L_matrix : mg "_law_matrix" = some (.ref a.f_L_matrix)
  F_L_crowd : Fun K "_law_crowd" "_law_crowd" s_L_crowd a.f_L_crowd a.d_L_crowd
  B_L_crowd : Binds K a.d_L_crowd ["_law_script", "_law_start_here", "_law_most"] []
  m_L_crowd : mg "_law_crowd" = some (.ref a.f_L_crowd)
  F_L_wished : Fun K "_law_wished" "_law_wished" s_L_wished a.f_L_wished a.d_L_wished
  B_L_wished : Binds K a.d_L_wished ["_law_sizes", "_law_many"] []
  m_L_wished : mg "_law_wished" = some (.ref a.f_L_wished)
  F_L_thrown : Fun K "_law_thrown" "_law_thrown" s_L_thrown a.f_L_thrown a.d_L_thrown
  B_L_thrown : Binds K a.d_L_thrown ["_law_node", "_law_rows", "_law_kept"] []
  m_L_thrown : mg "_law_thrown" = some (.ref a.f_L_thrown)
  F_L_loose : Fun K "_law_loose" "_law_loose" s_L_loose a.f_L_loose a.d_L_loose
  B_L_loose : Binds K a.d_L_loose ["_law_places", "_law_shares", "_law_throws"] []
  m_L_loose : mg "_law_loose" = some (.ref a.f_L_loose)
  F_L_start : Fun K "_law_start" "_law_start" s_L_start a.f_L_start a.d_L_start
  B_L_start : Binds K a.d_L_start ["_law_places", "_law_step", "_law_throw"] []
  m_L_start : mg "_law_start" = some (.ref a.f_L_start)
  F_L_both : Fun K "_law_both" "_law_both" s_L_both a.f_L_both a.d_L_both
  B_L_both : Binds K a.d_L_both ["_law_shares"] []
  m_L_both : mg "_law_both" = some (.ref a.f_L_both)
  F_L_steps : Fun K "_law_steps" "_law_steps" s_L_steps a.f_L_steps a.d_L_steps
  B_L_steps : Binds K a.d_L_steps ["_law_every", "_law_step"] []
  m_L_steps : mg "_law_steps" = some (.ref a.f_L_steps)
  F_L_right : Fun K "_law_right" "_law_right" s_L_right a.f_L_right a.d_L_right
  B_L_right : Binds K a.d_L_right ["_law_plan", "_law_crowd_here", "_law_rows", "_law_kept", "_law_due", "_law_ends"] []
  m_L_right : mg "_law_right" = some (.ref a.f_L_right)
  F_law : Fun K "law" "law" s_law a.f_law a.d_law
  B_law : Binds K a.d_law ["_law_script"] []
  m_law : mg "law" = some (.ref a.f_law)
  g_MOST_MANY : ∃ u, mg "MOST_MANY" = some u ∧ RelV (.int 24) u
  g_MOST_STEP : ∃ u, mg "MOST_STEP" = some u ∧ RelV (.int 100) u
  g_NOUGHT : ∃ u, mg "NOUGHT" = some u ∧ RelV (.ref a.k_NOUGHT) u
  t_NOUGHT : tupIn K a.k_NOUGHT [(.int 0), (.int 1)] = true
  g_WHOLE : ∃ u, mg "WHOLE" = some u ∧ RelV (.ref a.k_WHOLE) u
  t_WHOLE : tupIn K a.k_WHOLE [(.int 1), (.int 1)] = true
  mc_SpeakError : mg "SpeakError" = some (.ref a.c_SpeakError)
  g_SpeakError : ∃ u, mg "SpeakError" = some u ∧ RelV (.ref a.c_SpeakError) u
  kc_SpeakError : PySem.W.keepIn K (.ref a.c_SpeakError) = true
  xc_SpeakError : XCls K a.c_SpeakError
  xh_SpeakError : XHd K a.c_SpeakError
  xi_SpeakError : xIn K a.c_SpeakError none = true
  mc_NoPlan : mg "NoPlan" = some (.ref a.c_NoPlan)
  g_NoPlan : ∃ u, mg "NoPlan" = some u ∧ RelV (.ref a.c_NoPlan) u
  kc_NoPlan : PySem.W.keepIn K (.ref a.c_NoPlan) = true
  xc_NoPlan : XCls K a.c_NoPlan
  xh_NoPlan : XHd K a.c_NoPlan
  xi_NoPlan : xIn K a.c_NoPlan (some (.ref a.i_NoPlan)) = true
  fn_NoPlan : PySem.W.isFn K (.ref a.i_NoPlan) = true
  Fi_NoPlan : Fun K "__init__" "NoPlan.__init__" s_NoPlan___init__ a.i_NoPlan a.e_NoPlan
  Bi_NoPlan : Binds K a.e_NoPlan ["self", "place"] []
  sx_NoPlan_place : ∃ cd, XSet K a.c_NoPlan "place" cd
  mc_NoThrow : mg "NoThrow" = some (.ref a.c_NoThrow)
  g_NoThrow : ∃ u, mg "NoThrow" = some u ∧ RelV (.ref a.c_NoThrow) u
  kc_NoThrow : PySem.W.keepIn K (.ref a.c_NoThrow) = true
  xc_NoThrow : XCls K a.c_NoThrow
  xh_NoThrow : XHd K a.c_NoThrow
  xi_NoThrow : xIn K a.c_NoThrow (some (.ref a.i_NoThrow)) = true
  fn_NoThrow : PySem.W.isFn K (.ref a.i_NoThrow) = true
  Fi_NoThrow : Fun K "__init__" "NoThrow.__init__" s_NoThrow___init__ a.i_NoThrow a.e_NoThrow
  Bi_NoThrow : Binds K a.e_NoThrow ["self", "place"] []
  sx_NoThrow_place : ∃ cd, XSet K a.c_NoThrow "place" cd
  mc_Node : mg "Node" = some (.ref a.c_Node)
  g_Node : ∃ u, mg "Node" = some u ∧ RelV (.ref a.c_Node) u
  cl_Node : Cls K a.c_Node
  ty_Node : ∀ H x dx fs, H x = some (.ins a.c_Node dx fs) → TyOf K H (.ref x) (.ref a.c_Node)
  mc_Told : mg "Told" = some (.ref a.c_Told)
  g_Told : ∃ u, mg "Told" = some u ∧ RelV (.ref a.c_Told) u
  cl_Told : Cls K a.c_Told
  ty_Told : ∀ H x dx fs, H x = some (.ins a.c_Told dx fs) → TyOf K H (.ref x) (.ref a.c_Told)
  mk_Told : Mk K a.c_Told a.i_Told
  Fi_Told : Fun K "__init__" "Told.__init__" s_Told___init__ a.i_Told a.e_Told
  Bi_Told : Binds K a.e_Told ["self", "kept"] []
  na_Told_rising : NoAttr K a.c_Told "rising"
  mt_Told_is_told : Meth K a.c_Told "is_told" a.x_Told_is_told
  mt_Told_kept : Meth K a.c_Told "kept" a.x_Told_kept
  mt_Told_sides : Meth K a.c_Told "sides" a.x_Told_sides
  mt_Told_parts : Meth K a.c_Told "parts" a.x_Told_parts
  mc_Die : mg "Die" = some (.ref a.c_Die)
  g_Die : ∃ u, mg "Die" = some u ∧ RelV (.ref a.c_Die) u
  cl_Die : Cls K a.c_Die
  ty_Die : ∀ H x dx fs, H x = some (.ins a.c_Die dx fs) → TyOf K H (.ref x) (.ref a.c_Die)
  mk_Die : Mk K a.c_Die a.i_Die
  Fi_Die : Fun K "__init__" "Die.__init__" s_Die___init__ a.i_Die a.e_Die
  Bi_Die : Binds K a.e_Die ["self", "parts"] []
  na_Die_makes : NoAttr K a.c_Die "makes"
  mt_Die_is_told : Meth K a.c_Die "is_told" a.x_Die_is_told
  mt_Die_kept : Meth K a.c_Die "kept" a.x_Die_kept
  mt_Die_sides : Meth K a.c_Die "sides" a.x_Die_sides
  mt_Die_parts : Meth K a.c_Die "parts" a.x_Die_parts
  mt_Die_after : Meth K a.c_Die "after" a.x_Die_after
  mc_Plan : mg "Plan" = some (.ref a.c_Plan)
  g_Plan : ∃ u, mg "Plan" = some u ∧ RelV (.ref a.c_Plan) u
  cl_Plan : Cls K a.c_Plan
  ty_Plan : ∀ H x dx fs, H x = some (.ins a.c_Plan dx fs) → TyOf K H (.ref x) (.ref a.c_Plan)
  mc_Start : mg "Start" = some (.ref a.c_Start)
  g_Start : ∃ u, mg "Start" = some u ∧ RelV (.ref a.c_Start) u
  cl_Start : Cls K a.c_Start
  ty_Start : ∀ H x dx fs, H x = some (.ins a.c_Start dx fs) → TyOf K H (.ref x) (.ref a.c_Start)
  mk_Start : Mk K a.c_Start a.i_Start
  Fi_Start : Fun K "__init__" "Start.__init__" s_Start___init__ a.i_Start a.e_Start
  Bi_Start : Binds K a.e_Start ["self", "step"] []
  na_Start_step : NoAttr K a.c_Start "step"
  mt_Start_node : Meth K a.c_Start "node" a.x_Start_node
  mt_Start_matrix : Meth K a.c_Start "matrix" a.x_Start_matrix
  mt_Start_bounds : Meth K a.c_Start "bounds" a.x_Start_bounds
  mt_Start_text : Meth K a.c_Start "text" a.x_Start_text
  mc_Loose : mg "Loose" = some (.ref a.c_Loose)
  g_Loose : ∃ u, mg "Loose" = some u ∧ RelV (.ref a.c_Loose) u
  cl_Loose : Cls K a.c_Loose
  ty_Loose : ∀ H x dx fs, H x = some (.ins a.c_Loose dx fs) → TyOf K H (.ref x) (.ref a.c_Loose)
  mk_Loose : Mk K a.c_Loose a.i_Loose
  Fi_Loose : Fun K "__init__" "Loose.__init__" s_Loose___init__ a.i_Loose a.e_Loose
  Bi_Loose : Binds K a.e_Loose ["self", "many"] []
  na_Loose_many : NoAttr K a.c_Loose "many"
  mt_Loose_node : Meth K a.c_Loose "node" a.x_Loose_node
  mt_Loose_matrix : Meth K a.c_Loose "matrix" a.x_Loose_matrix
  mt_Loose_bounds : Meth K a.c_Loose "bounds" a.x_Loose_bounds
  mt_Loose_text : Meth K a.c_Loose "text" a.x_Loose_text
  F_Told_is_told : Fun K "is_told" "Told.is_told" s_Told_is_told a.x_Told_is_told a.y_Told_is_told
  B_Told_is_told : Binds K a.y_Told_is_told ["self"] []
  F_Die_is_told : Fun K "is_told" "Die.is_told" s_Die_is_told a.x_Die_is_told a.y_Die_is_told
  B_Die_is_told : Binds K a.y_Die_is_told ["self"] []
  F_Told_kept : Fun K "kept" "Told.kept" s_Told_kept a.x_Told_kept a.y_Told_kept
  B_Told_kept : Binds K a.y_Told_kept ["self"] []
  F_Die_kept : Fun K "kept" "Die.kept" s_Die_kept a.x_Die_kept a.y_Die_kept
  B_Die_kept : Binds K a.y_Die_kept ["self"] []
  F_Told_sides : Fun K "sides" "Told.sides" s_Told_sides a.x_Told_sides a.y_Told_sides
  B_Told_sides : Binds K a.y_Told_sides ["self"] []
  F_Die_sides : Fun K "sides" "Die.sides" s_Die_sides a.x_Die_sides a.y_Die_sides
  B_Die_sides : Binds K a.y_Die_sides ["self"] []
  F_Told_parts : Fun K "parts" "Told.parts" s_Told_parts a.x_Told_parts a.y_Told_parts
  B_Told_parts : Binds K a.y_Told_parts ["self"] []
  F_Die_parts : Fun K "parts" "Die.parts" s_Die_parts a.x_Die_parts a.y_Die_parts
  B_Die_parts : Binds K a.y_Die_parts ["self"] []
  F_Die_after : Fun K "after" "Die.after" s_Die_after a.x_Die_after a.y_Die_after
  B_Die_after : Binds K a.y_Die_after ["self", "throw"] []
  F_Start_node : Fun K "node" "Start.node" s_Start_node a.x_Start_node a.y_Start_node
  B_Start_node : Binds K a.y_Start_node ["self", "crowd"] []
  F_Start_matrix : Fun K "matrix" "Start.matrix" s_Start_matrix a.x_Start_matrix a.y_Start_matrix
  B_Start_matrix : Binds K a.y_Start_matrix ["self", "crowd"] []
  F_Start_bounds : Fun K "bounds" "Start.bounds" s_Start_bounds a.x_Start_bounds a.y_Start_bounds
  B_Start_bounds : Binds K a.y_Start_bounds ["self", "crowd"] []
  F_Start_text : Fun K "text" "Start.text" s_Start_text a.x_Start_text a.y_Start_text
  B_Start_text : Binds K a.y_Start_text ["self"] []
  F_Loose_node : Fun K "node" "Loose.node" s_Loose_node a.x_Loose_node a.y_Loose_node
  B_Loose_node : Binds K a.y_Loose_node ["self", "crowd"] []
  F_Loose_matrix : Fun K "matrix" "Loose.matrix" s_Loose_matrix a.x_Loose_matrix a.y_Loose_matrix
  B_Loose_matrix : Binds K a.y_Loose_matrix ["self", "crowd"] []
  F_Loose_bounds : Fun K "bounds" "Loose.bounds" s_Loose_bounds a.x_Loose_bounds a.y_Loose_bounds
  B_Loose_bounds : Binds K a.y_Loose_bounds ["self", "crowd"] []
  F_Loose_text : Fun K "text" "Loose.text" s_Loose_text a.x_Loose_text a.y_Loose_text
  B_Loose_text : Binds K a.y_Loose_text ["self"] []
  z_abs : mg "abs" = none
  z_bool : mg "bool" = none
  z_enumerate : mg "enumerate" = none
  z_int : mg "int" = none
  z_isinstance : mg "isinstance" = none
  z_len : mg "len" = none
  z_list : mg "list" = none
  z_range : mg "range" = none
  z_sorted : mg "sorted" = none
  z_str : mg "str" = none
  z_sum : mg "sum" = none
  z_tuple : mg "tuple" = none
  z_zip : mg "zip" = none
  bl : ∀ (s : Shared) (u : Value), BindsTo s a.d_law ⟨[u], []⟩ [("_law_script", u)]
def spLaw (K : PySem.W.Frag) (ts : List Addr) : Sp := fun vs H Q _ => ∃ (p : Addr) (ns : List Int), vs = [.ref p] ∧ SqL K H p (ns.map V.int) ∧ ns.length ≤ 63 ∧ (∀ P ∈ ts, H P = some (.tbl #[])) ∧ ∀ H', Q (.bl true) H'
theorem law_start {K : PySem.W.Frag} {ts : List Addr} {H : Hp} {a : Addr} {ns : List Int} (hl : ns.length ≤ 63) (hT : ∀ P ∈ ts, H P = some (.tbl #[])) (hS : SqL K H a (ns.map V.int)) : spLaw K ts [.ref a] H (fun v _ => v = .bl true) fun _ _ _ => False := ⟨a, ns, rfl, hS, hl, hT, fun _ => rfl⟩
def cellC (ns : List Int) (k : Int) : Int := if k < (ns.length : Int) then ns.getD k.toNat 0 else 7919 * k + 13
def spCell (K : PySem.W.Frag) : Sp := fun vs H Q _ => ∃ (p : Addr) (ns : List Int) (k : Int), vs = [.ref p, .int k] ∧ SqL K H p (ns.map V.int) ∧ ns.length ≤ 63 ∧ 0 ≤ k ∧ k ≤ 1000 ∧ Q (.int (cellC ns k)) H
def spMix : Sp := fun vs H Q _ => ∃ (c k : Int), vs = [.int c, .int k] ∧ 0 ≤ k ∧ k ≤ 1000 ∧ ∀ r : Int, 0 ≤ r → Q (.int r) H
def spRow : Sp := fun vs H Q _ => ∃ (c b n m : Int), vs = [.int c, .int b, .int n, .int m] ∧ 0 ≤ n ∧ n ≤ 25 ∧ 1 ≤ m ∧ m ≤ 1000000000000 ∧ ∀ H' p (ns : List Int), Same H H' → H p = none → H' p = some (.lst (ns.map V.int)) → (ns.length : Int) = n → (∀ x ∈ ns, 0 ≤ x ∧ x < m) → Q (.ref p) H'
def spGcd : Sp := fun vs H Q _ => ∃ (x y : Int), vs = [.int x, .int y] ∧ 0 ≤ x ∧ 0 ≤ y ∧ Q (.int (Int.gcd x y)) H
def Tell (H : Hp) (Q : VK) (T B : Int) : Prop := ∀ H' p, Same H H' → H' p = some (.tup [.int (lowP T B).1, .int (lowP T B).2]) → Q (.ref p) H'
def spLow : Sp := fun vs H Q _ => ∃ (T B : Int), vs = [.int T, .int B] ∧ 0 < B ∧ Bt 3000 T ∧ Bt 3000 B ∧ Tell H Q T B
def spNo : Sp := fun _ _ _ _ => False
def spWhole : Sp := fun vs H Q _ => ∃ (x : Int), vs = [.int x] ∧ Q (.bl true) H
def spFraction (K : PySem.W.Frag) : Sp := fun vs H Q _ => ∃ (p q : Addr) (t b : Int), vs = [.ref p, .ref q] ∧ SqT K H p [.int t, .int b] ∧ SqT K H q [.int t, .int b] ∧ Q (.bl true) H
def PT (K : PySem.W.Frag) (H : Hp) (p : Addr) (f : Int × Int) : Prop := H p = some (.tup [.int f.1, .int f.2]) ∨ tupIn K p [.int f.1, .int f.2] = true
theorem PT.sq {K : PySem.W.Frag} {H : Hp} {p : Addr} {f : Int × Int} (h : PT K H p f) : SqT K H p [.int f.1, .int f.2] := h.elim SqT.of tup_in
def IsF (K : PySem.W.Frag) (H : Hp) (f : Int × Int) (x : V) : Prop := ∃ p, x = .ref p ∧ PT K H p f
theorem IsF.tk {K : PySem.W.Frag} {H H' : Hp} {f : Int × Int} {x : V} (k : TK H H') (h : IsF K H f x) : IsF K H' f x := let ⟨p, e, q⟩ := h; ⟨p, e, q.imp (fun z => k _ _ z) id⟩
abbrev AllF (K : PySem.W.Frag) (H : Hp) : List (Int × Int) → List V → Prop := PySem.Paired (IsF K H)
theorem IsF.same {K : PySem.W.Frag} {H H' : Hp} {f : Int × Int} {x : V} (s : Same H H') (h : IsF K H f x) : IsF K H' f x := h.tk s.tk
theorem AllF.same {K : PySem.W.Frag} {H H' : Hp} (s : Same H H') : ∀ {fs : List (Int × Int)} {xs : List V}, AllF K H fs xs → AllF K H' fs xs
  | _, _, .nil => .nil
  | _, _, .cons r t => .cons (r.same s) (AllF.same s t)
theorem AllF.tk {K : PySem.W.Frag} {H H' : Hp} (k : TK H H') : ∀ {fs : List (Int × Int)} {xs : List V}, AllF K H fs xs → AllF K H' fs xs
  | _, _, .nil => .nil
  | _, _, .cons r t => .cons (r.tk k) (AllF.tk k t)
theorem AllF.get {K : PySem.W.Frag} {H : Hp} : ∀ {fs : List (Int × Int)} {xs : List V} {i : Nat} {x : V}, AllF K H fs xs → xs[i]? = some x → ∃ f, fs[i]? = some f ∧ IsF K H f x
  | _, _, _, _, .nil, h => by cases h
  | _, _, 0, _, .cons r _, h => ⟨_, rfl, by cases h; exact r⟩
  | _, _, i + 1, _, .cons _ t, h => AllF.get (i := i) t h
theorem AllF.snoc {K : PySem.W.Frag} {H : Hp} {f : Int × Int} {x : V} (r : IsF K H f x) : ∀ {fs : List (Int × Int)} {xs : List V}, AllF K H fs xs → AllF K H (fs ++ [f]) (xs ++ [x])
  | _, _, .nil => .cons r .nil
  | _, _, .cons q t => .cons q (AllF.snoc r t)
theorem AllF.len {K : PySem.W.Frag} {H : Hp} {fs : List (Int × Int)} {xs : List V} (h : AllF K H fs xs) : fs.length = xs.length := Paired.length h
theorem abs_gcd (T B : Int) : Int.gcd (if T < 0 then -T else T) B = Int.gcd T B := by
  split
  · exact Int.neg_gcd
  · rfl
theorem px0 {K : PySem.W.Frag} {H : Hp} {p : Addr} {x y : V} {Q : VK} (h : SqT K H p [x, y]) (q : Q x H) : rIx K (.ref p) (.int 0) H Q := .inr (.inl ⟨p, _, _, x, rfl, rfl, h, atI_nat (j := 0) rfl, q⟩)
theorem px1 {K : PySem.W.Frag} {H : Hp} {p : Addr} {x y : V} {Q : VK} (h : SqT K H p [x, y]) (q : Q y H) : rIx K (.ref p) (.int 1) H Q := .inr (.inl ⟨p, _, _, y, rfl, rfl, h, atI_nat (j := 1) rfl, q⟩)
theorem two_le (x y : V) : [x, y].length ≤ sizeLine := by show 2 ≤ sizeLine; decide
structure Szs (z : List Int) : Prop where
  len : z.length ≤ 24
  lo : ∀ x ∈ z, 1 ≤ x
  hi : ∀ x ∈ z, x ≤ 24000000
def spWished (K : PySem.W.Frag) : Sp := fun vs H Q _ => ∃ (l : Addr) (z : List Int) (m : Int), vs = [.ref l, .int m] ∧ H l = some (.lst (z.map V.int)) ∧ Szs z ∧ 0 ≤ m ∧ m ≤ 24 ∧ ∀ H' r xs, Same H H' → H r = none → H' r = some (.lst xs) → AllF K H' (due z m) xs → Q (.ref r) H'
def spSome (K : PySem.W.Frag) : Sp := fun vs H Q _ => ∃ (l : Addr) (z : List Int) (m : Int), vs = [.ref l, .int m] ∧ H l = some (.lst (z.map V.int)) ∧ Szs z ∧ 0 < m ∧ m < z.length ∧ ∀ H' r xs, Same H H' → H r = none → H' r = some (.lst xs) → AllF K H' (due z m) xs → Q (.ref r) H'
def spTimes (K : PySem.W.Frag) : Sp := fun vs H Q _ => ∃ (x y : V) (c e : Int × Int), vs = [x, y] ∧ IsF K H c x ∧ IsF K H e y ∧ 0 < c.2 ∧ 0 < e.2 ∧ Bt 1000 c.1 ∧ Bt 1000 c.2 ∧ Bt 1000 e.1 ∧ Bt 1000 e.2 ∧ Tell H Q (c.1 * e.1) (c.2 * e.2)
def uns (f : Int × Int) : Bool := decide (0 < f.1 ∧ f.1 < f.2)
def spUns (K : PySem.W.Frag) : Sp := fun vs H Q _ => ∃ (x : V) (f : Int × Int), vs = [x] ∧ IsF K H f x ∧ Q (.bl (uns f)) H
section
variable {P : Program} {w : World} {K : PySem.W.Frag} {mg : Str → Option Value} {base : Heap} {a : Ad}
theorem ok_no {k : Nat} {f : Addr} {fd : FuncData} {ps : List Str} : FnOk P w K mg base CX0 k f fd ps spNo := ⟨fun _ _ _ _ h => h.elim, fun _ _ _ _ _ _ _ _ _ _ _ _ _ h => h.elim⟩
theorem ok_cell (T : Txt K mg a) : FnOk P w K mg base CX0 1 a.f_L_cell a.d_L_cell ["_law_script", "_law_k"] (spCell K) := by
  refine T.F_L_cell.ok sc_L_cell (fun vs H Q E h => ?_) (fun cdv A outer s H vs Q E hr h => ?_)
  · obtain ⟨p, ns, k, rfl, _⟩ := h; rfl
  · obtain ⟨p, ns, k, rfl, hS, hl, h0, h1, q⟩ := h
    refine ⟨_, (pss_cons (ps_if (t_cmp o_lt (vr 1) (pe_callB call_lenM rfl T.z_len bt_len (pa_cons (vr 0) pa_nil)) (nomark _)) (pss_one (ps_ret (pe_ix ix_seq (vr 0) (vr 1) (fun _ _ => rfl)))) pss_nil) (pss_one (ps_ret (pe_op o_add (pe_op o_mulB pe_int (vr 1)) pe_int)))), ?_⟩
    refine ⟨ns.map V.int, .inl hS, ?_⟩
    rw [List.length_map]
    unfold cellC at q
    refine ite2 (fun c => ?_) (fun c => ?_)
    · have c' : k < (ns.length : Int) := of_decide_eq_true c
      rw [if_pos c'] at q
      refine .inl ⟨p, _, k, .int (ns.getD k.toNat 0), rfl, rfl, hS, ?_, q⟩
      have e : ((k.toNat : Nat) : Int) = k := by omega
      rw [← e]
      refine atI_nat ?_
      have hk : k.toNat < ns.length := by omega
      rw [e]
      simp [List.getElem?_map, List.getD, hk]
    · have c' : ¬ k < (ns.length : Int) := fun z => c (decide_eq_true z)
      rw [if_neg c'] at q
      exact ⟨clB, q⟩
theorem ok_mix (T : Txt K mg a) : FnOk P w K mg base CX0 1 a.f_L_mix a.d_L_mix ["_law_cell_here", "_law_k"] spMix := by
  refine T.F_L_mix.ok sc_L_mix (fun vs H Q E h => ?_) (fun cdv A outer s H vs Q E hr h => ?_)
  · obtain ⟨c, k, rfl, _⟩ := h; rfl
  · obtain ⟨c, k, rfl, h0, h1, q⟩ := h
    refine ⟨_, (pss_cons (ps_set (i := 2) sc_L_mix.nd rfl (Or.inl rfl) (pe_op o_mod (pe_op o_mulB (pe_op o_add (pe_op o_add (pe_op o_mod (vr 0) pe_int) (pe_op o_mulB pe_int (vr 1))) pe_int) pe_int) pe_int)) (pss_cons (ps_set (i := 2) sc_L_mix.nd rfl (Or.inl rfl) (pe_op o_mod (pe_op o_add (pe_op o_mulB (vr 2) (vr 2)) (pe_op o_mulB pe_int (vr 1))) pe_int)) (pss_one (ps_ret (pe_op o_mod (pe_op o_mulB (vr 2) (pe_op o_add (vr 2) pe_int)) pe_int))))), ?_⟩
    exact ⟨cp, clB, crB, cp, clB (by omega) (by omega), clB, cp, clB (by omega) (by omega), cp, q _ (by omega)⟩
theorem ok_gcd (T : Txt K mg a) : FnOk P w K mg base CX0 1 a.f_greatest_divisor a.d_greatest_divisor ["one", "other"] spGcd := by
  refine T.F_greatest_divisor.ok sc_greatest_divisor (fun vs H Q E h => ?_) (fun cdv A outer s H vs Q E hr h => ?_)
  · obtain ⟨x, y, rfl, _⟩ := h; rfl
  · obtain ⟨x0, y0, rfl, h0, h1, q⟩ := h
    refine ⟨_, (pss_cons (ps_while PassesOwn.never (pt_truth (vr 1) (fun _ => rfl)) (pss_one (ps_par rfl sc_greatest_divisor.nd (i := 0) (j := 1) rfl rfl (by decide) rfl rfl (pa_cons (vr 1) (pa_cons (pe_op o_mod (vr 0) (vr 1)) pa_nil)) rfl))) (pss_one (ps_ret (vr 0)))), ?_⟩
    refine ⟨fun m σ H' => H' = H ∧ ∃ x y : Int, 0 ≤ x ∧ 0 ≤ y ∧ m = y.toNat ∧ Int.gcd x y = Int.gcd x0 y0 ∧ σ = [some (.int x), some (.int y)], ⟨_, rfl, x0, y0, h0, h1, rfl, rfl, rfl⟩, ?_⟩
    rintro m σ H' ⟨rfl, x, y, hx, hy, rfl, hg, rfl⟩
    refine ⟨_, rfl, ?_⟩
    refine ifB (fun c => ?_) (fun c => ?_)
    · have c' : y ≠ 0 := by simpa using c
      refine ⟨fun σ' H'' => H'' = H' ∧ σ' = [some (.int y), some (.int (x % y))], ?_, ?_⟩
      · rintro σ' H'' ⟨rfl, rfl⟩
        exact ⟨(x % y).toNat, by have := Int.emod_lt_of_pos x (show 0 < y by omega); have := Int.emod_nonneg x c'; omega, rfl, y, x % y, hy, Int.emod_nonneg x c', rfl, by rw [gcd_step, hg], rfl⟩
      · exact ⟨cp (by omega), _, _, rfl, rfl, rfl⟩
    · have c' : y = 0 := by simpa using c
      subst c'
      rw [Int.gcd_zero_right] at hg
      have : x = (Int.gcd x0 y0 : Int) := by omega
      rw [← this] at q
      exact q
theorem ok_share (T : Txt K mg a) : FnOk P w K mg base CX0 2 a.f_share a.d_share ["top", "bottom"] spLow := by
  have G_share : FnOk P w K mg base CX0 1 a.f_share a.d_share ["top", "bottom"] spNo := ok_no
  have G_greatest_divisor : FnOk P w K mg base CX0 1 _ _ _ spGcd := ok_gcd T
  refine T.F_share.ok sc_share (fun vs H Q E h => ?_) (fun cdv A outer s H vs Q E hr h => ?_)
  · obtain ⟨x, y, rfl, _⟩ := h; rfl
  · obtain ⟨t, b, rfl, hb, b1, b2, q⟩ := h
    refine ⟨_, (pss_cons (ps_if (t_cmp o_lt (vr 1) pe_int (nomark _)) (pss_one (ps_ret (pe_call G_share hr rfl T.m_share T.F_share.kp T.B_share .nil pass0 (pa_cons (pe_un u_neg (vr 0)) (pa_cons (pe_un u_neg (vr 1)) pa_nil))))) pss_nil) (pss_cons (ps_set (i := 2) sc_share.nd rfl (Or.inl rfl) (pe_call G_greatest_divisor hr rfl T.m_greatest_divisor T.F_greatest_divisor.kp T.B_greatest_divisor .nil pass0 (pa_cons (pe_callB call_abs rfl T.z_abs bt_abs (pa_cons (vr 0) pa_nil)) (pa_cons (vr 1) pa_nil)))) (pss_one (ps_ret (pe_tup (pa_cons (pe_op o_fdivB (vr 0) (vr 2)) (pa_cons (pe_op o_fdivB (vr 1) (vr 2)) pa_nil))))))), ?_⟩
    obtain ⟨l1, l2, l3, l4, l5⟩ := low t b hb
    refine ifC (fun c => absurd c (by omega)) (fun _ => ?_)
    refine ⟨t, rfl, ⟨_, _, rfl, by split <;> omega, by omega, ?_⟩⟩
    rw [abs_gcd]
    have hd : Bt 3000 (Int.gcd t b : Int) := b2.le (by omega)
    refine ⟨cdB l1 hd, cdB l1 hd, two_le _ _, fun p hp => ?_⟩
    exact q _ p (Same.new hp) upd_same
theorem ok_low (T : Txt K mg a) : FnOk P w K mg base CX0 1 a.f_L_low a.d_L_low ["_law_top", "_law_bottom"] spLow := by
  refine T.F_L_low.ok sc_L_low (fun vs H Q E h => ?_) (fun cdv A outer s H vs Q E hr h => ?_)
  · obtain ⟨x, y, rfl, _⟩ := h; rfl
  · obtain ⟨t, b, rfl, hb, b1, b2, q⟩ := h
    refine ⟨_, (pss_cons (ps_set (i := 2) sc_L_low.nd rfl (Or.inl rfl) (pe_callB call_abs rfl T.z_abs bt_abs (pa_cons (vr 0) pa_nil))) (pss_cons (ps_set (i := 3) sc_L_low.nd rfl (Or.inl rfl) (vr 1)) (pss_cons (ps_while PassesOwn.never (t_cmp o_gt (vr 3) pe_int (nomark _)) (pss_one (ps_par rfl sc_L_low.nd (i := 2) (j := 3) rfl rfl (by decide) rfl rfl (pa_cons (vr 3) (pa_cons (pe_op o_mod (vr 2) (vr 3)) pa_nil)) rfl))) (pss_one (ps_ret (pe_tup (pa_cons (pe_op o_fdivB (vr 0) (vr 2)) (pa_cons (pe_op o_fdivB (vr 1) (vr 2)) pa_nil)))))))), ?_⟩
    obtain ⟨l1, l2, l3, l4, l5⟩ := low t b hb
    have hd : Bt 3000 (Int.gcd t b : Int) := b2.le (by omega)
    refine ⟨t, rfl, ?_⟩
    refine ⟨fun m σ H' => H' = H ∧ ∃ x y : Int, 0 ≤ x ∧ 0 ≤ y ∧ m = y.toNat ∧ Int.gcd x y = Int.gcd t b ∧ σ = [some (.int t), some (.int b), some (.int x), some (.int y)], ⟨_, rfl, _, b, by split <;> omega, by omega, rfl, abs_gcd t b, rfl⟩, ?_⟩
    rintro m σ H' ⟨rfl, x, y, hx, hy, rfl, hg, rfl⟩
    refine ifC (fun c => ?_) (fun c => ?_)
    · have c' : y ≠ 0 := by have z : 0 < y := c; omega
      refine ⟨fun σ' H'' => H'' = H' ∧ σ' = [some (.int t), some (.int b), some (.int y), some (.int (x % y))], ?_, ?_⟩
      · rintro σ' H'' ⟨rfl, rfl⟩
        exact ⟨(x % y).toNat, by have := Int.emod_lt_of_pos x (show 0 < y by omega); have := Int.emod_nonneg x c'; omega, rfl, y, x % y, hy, Int.emod_nonneg x c', rfl, by rw [gcd_step, hg], rfl⟩
      · exact ⟨cp (by omega), _, _, rfl, rfl, rfl⟩
    · have c' : y = 0 := by have z : ¬ 0 < y := c; omega
      subst c'
      rw [Int.gcd_zero_right] at hg
      have e : x = (Int.gcd t b : Int) := by omega
      subst e
      refine ⟨cdB l1 hd, cdB l1 hd, two_le _ _, fun p hp => ?_⟩
      exact q _ p (Same.new hp) upd_same
theorem ok_whole (T : Txt K mg a) : FnOk P w K mg base CX0 1 a.f_L_whole a.d_L_whole ["_law_found"] spWhole := by
  refine T.F_L_whole.ok sc_L_whole (fun vs H Q E h => ?_) (fun cdv A outer s H vs Q E hr h => ?_)
  · obtain ⟨x, rfl, _⟩ := h; rfl
  · obtain ⟨x, rfl, q⟩ := h
    refine ⟨_, (pss_one (ps_ret (m_and (pe_callB call_isi rfl T.z_isinstance bt_isinstance (pa_cons (vr 0) (pa_cons (pe_bltn (v := .ty "int") rfl T.z_int bt_int rfl) pa_nil))) (pe_one (m_not (pe_callB call_isi rfl T.z_isinstance bt_isinstance (pa_cons (vr 0) (pa_cons (pe_bltn (v := .ty "bool") rfl T.z_bool bt_bool rfl) pa_nil)))))))), ?_⟩
    exact ⟨_, _, _, true, rfl, rfl, .int x, rfl, ⟨_, _, _, false, rfl, rfl, .int x, rfl, q⟩⟩
theorem dv_pair {H : Hp} {p : Addr} {t b : Int} (h : SqT K H p [.int t, .int b]) : DV K H (.tuple [.int t, .int b]) (.ref p) := by
  rw [DV]
  refine ⟨p, _, rfl, h, ?_⟩
  rw [DVs]
  refine ⟨_, _, rfl, by simp [DV], ?_⟩
  rw [DVs]
  exact ⟨_, _, rfl, by simp [DV], by simp [DVs]⟩
theorem shaped_pair (t b : Int) : SeqAt.shaped (.tuple [.int t, .int b]) = true := rfl
theorem ok_fraction (T : Txt K mg a) : FnOk P w K mg base CX0 2 a.f_L_fraction a.d_L_fraction ["_law_found", "_law_due"] (spFraction K) := by
  have G_L_whole : FnOk P w K mg base CX0 1 _ _ _ spWhole := ok_whole T
  refine T.F_L_fraction.ok sc_L_fraction (fun vs H Q E h => ?_) (fun cdv A outer s H vs Q E hr h => ?_)
  · obtain ⟨p, q, t, b, rfl, _⟩ := h; rfl
  · obtain ⟨p, r, t, b, rfl, hp, hr', q⟩ := h
    refine ⟨_, (pss_cons (ps_if (PW.pt (pw_or (pt_not (t_val (pe_callB call_iss rfl T.z_isinstance bt_isinstance (pa_cons (vr 0) (pa_cons (pe_bltn (v := .ty "tuple") rfl T.z_tuple bt_tuple rfl) pa_nil))))) (pw_or (t_cmp o_ne (pe_callB call_lenM rfl T.z_len bt_len (pa_cons (vr 0) pa_nil)) pe_int (nomark _)) (pw_or (pt_not (t_val (pe_call G_L_whole hr rfl T.m_L_whole T.F_L_whole.kp T.B_L_whole .nil pass0 (pa_cons (pe_ix ix_seq (vr 0) pe_int (fun _ _ => rfl)) pa_nil)))) (pw_or1 (pt_not (t_val (pe_call G_L_whole hr rfl T.m_L_whole T.F_L_whole.kp T.B_L_whole .nil pass0 (pa_cons (pe_ix ix_seq (vr 0) pe_int (fun _ _ => rfl)) pa_nil))))))))) (pss_one (ps_ret pe_bl)) pss_nil) (pss_one (ps_ret (pe_cmpR (o_eqD hr.units) (vr 0) (vr 1) (nomark _))))), ?_⟩
    refine ⟨_, _, _, true, rfl, rfl, .inr ⟨p, _, rfl, rfl, hp⟩, rfl, ?_⟩
    refine ⟨_, .inr hp, ?_⟩
    refine px0 hp ⟨t, rfl, px1 hp ⟨b, rfl, ?_⟩⟩
    refine ⟨.tuple [.int t, .int b], .tuple [.int t, .int b], dv_pair hp, dv_pair hr', shaped_pair t b, shaped_pair t b, ?_⟩
    rw [SeqAt.eqv_refl _ (SeqAt.canLay_of_shaped (shaped_pair t b))]
    exact q
theorem ok_row (T : Txt K mg a) : FnOk P w K mg base CX0 2 a.f_L_row a.d_L_row ["_law_cell_here", "_law_bit", "_law_many", "_law_most"] spRow := by
  have G_L_mix : FnOk P w K mg base CX0 1 _ _ _ spMix := ok_mix T
  refine T.F_L_row.ok sc_L_row (fun vs H Q E h => ?_) (fun cdv A outer s H vs Q E hr h => ?_)
  · obtain ⟨c, b, n, m, rfl, _⟩ := h; rfl
  · obtain ⟨c, b, n, m, rfl, n0, n1, m0, m1, q⟩ := h
    refine ⟨_, (pss_cons (ps_set (i := 4) sc_L_row.nd rfl (Or.inl rfl) (pe_lst pa_nil)) (pss_cons (ps_for PassesOwn.never rfl (pi_range1 rfl T.z_range (pa_cons (vr 2) pa_nil)) (pg_name (i := 5) sc_L_row.nd rfl (Or.inl rfl)) (pss_one (ps_if (t_cmp o_eq (pe_op o_mod (vr 1) pe_int) pe_int (nomark _)) (pss_cons (ps_expr (pe_m.append (vr 4) (pa_cons (pe_op o_mod (vr 0) (vr 3)) pa_nil))) (pss_one (ps_set (i := 0) sc_L_row.nd rfl (Or.inl rfl) (pe_op o_fdivB (vr 0) (vr 3))))) (pss_one (ps_expr (pe_m.append (vr 4) (pa_cons (pe_op o_mod (pe_call G_L_mix hr rfl T.m_L_mix T.F_L_mix.kp T.B_L_mix .nil pass0 (pa_cons (vr 0) (pa_cons (vr 5) pa_nil))) (vr 3)) pa_nil))))))) (pss_one (ps_ret (vr 4))))), ?_⟩
    have sl : sizeLine = 16777216 := sizeLine_eq
    refine ⟨Nat.zero_le _, fun p hp => ?_⟩
    refine ⟨n, rfl, by omega, by omega, ?_⟩
    refine for_range (fun i σ H' => ∃ (c' : Int) (ns : List Int) (x : Option V), H' = upd H p (.lst (ns.map V.int)) ∧ ns.length = i ∧ (∀ y ∈ ns, 0 ≤ y ∧ y < m) ∧ σ = [some (.int c'), some (.int b), some (.int n), some (.int m), some (.ref p), x]) ⟨c, [], none, rfl, rfl, (fun y hy => by cases hy), rfl⟩ ?_ ?_
    · rintro i σ H' hi ⟨c', ns, x, rfl, hl, hb, rfl⟩
      have sn : ∀ v : Int, 0 ≤ v → v < m → ∀ y ∈ ns ++ [v], 0 ≤ y ∧ y < m := fun v h0 h1 y hy => by
        rcases List.mem_append.mp hy with hy | hy
        · exact hb y hy
        · rw [List.mem_singleton.mp hy]; exact ⟨h0, h1⟩
      have em : ∀ v : Int, (ns.map V.int) ++ [V.int v] = (ns ++ [v]).map V.int := fun v => by rw [List.map_append]; rfl
      have lz : (ns.map V.int).length < sizeLine := by rw [List.length_map]; omega
      refine ⟨cp, ifC (fun _ => ?_) (fun _ => ?_)⟩
      · refine ⟨.inl ⟨rfl, _, SqL.of upd_same⟩, ⟨cp (by omega), ⟨p, _, _, rfl, rfl, upd_same, lz, ?_⟩⟩⟩
        refine ⟨cdB (by omega) (show Bt 40 m by unfold Bt; omega), ?_⟩
        rw [upd_upd, em]
        exact ⟨_, _, _, rfl, by rw [List.length_append, hl]; rfl, sn _ (Int.emod_nonneg _ (by omega)) (Int.emod_lt_of_pos _ (by omega)), rfl⟩
      · refine ⟨.inl ⟨rfl, _, SqL.of upd_same⟩, ⟨c', _, rfl, by omega, by omega, fun r r0 => ⟨cp (by omega), ⟨p, _, _, rfl, rfl, upd_same, lz, ?_⟩⟩⟩⟩
        rw [upd_upd, em]
        exact ⟨_, _, _, rfl, by rw [List.length_append, hl]; rfl, sn _ (Int.emod_nonneg _ (by omega)) (Int.emod_lt_of_pos _ (by omega)), rfl⟩
    · rintro σ H' ⟨c', ns, x, rfl, hl, hb, rfl⟩
      exact q _ p ns (Same.new hp) hp upd_same (by omega) hb
theorem ok_times (T : Txt K mg a) : FnOk P w K mg base CX0 3 a.f_times a.d_times ["one", "other"] (spTimes K) := by
  have G_share : FnOk P w K mg base CX0 2 _ _ _ spLow := ok_share T
  refine T.F_times.ok sc_times (fun vs H Q E h => ?_) (fun cdv A outer s H vs Q E hr h => ?_)
  · obtain ⟨x, y, c, e, rfl, _⟩ := h; rfl
  · obtain ⟨x, y, c, e, rfl, ⟨x, rfl, hx⟩, ⟨y, rfl, hy⟩, d1, d2, z1, z2, z3, z4, q⟩ := h
    have hp := hx.sq
    have hr' := hy.sq
    refine ⟨_, (pss_one (ps_ret (pe_call G_share hr rfl T.m_share T.F_share.kp T.B_share .nil pass0 (pa_cons (pe_op o_mulB (pe_ix ix_seq (vr 0) pe_int (fun _ _ => rfl)) (pe_ix ix_seq (vr 1) pe_int (fun _ _ => rfl))) (pa_cons (pe_op o_mulB (pe_ix ix_seq (vr 0) pe_int (fun _ _ => rfl)) (pe_ix ix_seq (vr 1) pe_int (fun _ _ => rfl))) pa_nil))))), ?_⟩
    refine px0 hp (px0 hr' ⟨cmB z1 z3, px1 hp (px1 hr' ⟨cmB z2 z4, ?_⟩)⟩)
    exact ⟨_, _, rfl, Int.mul_pos d1 d2, (z1.mul z3).mono (by decide), (z2.mul z4).mono (by decide), q⟩
theorem ok_L_times (T : Txt K mg a) : FnOk P w K mg base CX0 2 a.f_L_times a.d_L_times ["_law_one", "_law_other"] (spTimes K) := by
  have G_L_low : FnOk P w K mg base CX0 1 _ _ _ spLow := ok_low T
  refine T.F_L_times.ok sc_L_times (fun vs H Q E h => ?_) (fun cdv A outer s H vs Q E hr h => ?_)
  · obtain ⟨x, y, c, e, rfl, _⟩ := h; rfl
  · obtain ⟨x, y, c, e, rfl, ⟨x, rfl, hx⟩, ⟨y, rfl, hy⟩, d1, d2, z1, z2, z3, z4, q⟩ := h
    have hp := hx.sq
    have hr' := hy.sq
    refine ⟨_, (pss_one (ps_ret (pe_call G_L_low hr rfl T.m_L_low T.F_L_low.kp T.B_L_low .nil pass0 (pa_cons (pe_op o_mulB (pe_ix ix_seq (vr 0) pe_int (fun _ _ => rfl)) (pe_ix ix_seq (vr 1) pe_int (fun _ _ => rfl))) (pa_cons (pe_op o_mulB (pe_ix ix_seq (vr 0) pe_int (fun _ _ => rfl)) (pe_ix ix_seq (vr 1) pe_int (fun _ _ => rfl))) pa_nil))))), ?_⟩
    refine px0 hp (px0 hr' ⟨cmB z1 z3, px1 hp (px1 hr' ⟨cmB z2 z4, ?_⟩)⟩)
    exact ⟨_, _, rfl, Int.mul_pos d1 d2, (z1.mul z3).mono (by decide), (z2.mul z4).mono (by decide), q⟩
theorem ok_uns (T : Txt K mg a) : FnOk P w K mg base CX0 1 a.f_is_unsure a.d_is_unsure ["chance"] (spUns K) := by
  refine T.F_is_unsure.ok sc_is_unsure (fun vs H Q E h => ?_) (fun cdv A outer s H vs Q E hr h => ?_)
  · obtain ⟨x, f, rfl, _⟩ := h; rfl
  · obtain ⟨x, f, rfl, ⟨p, rfl, hp⟩, q⟩ := h
    refine ⟨_, (pss_one (ps_ret (m_chain o_lt o_lt pe_int (pe_ix ix_seq (vr 0) pe_int (fun _ _ => rfl)) (pe_ix ix_seq (vr 0) pe_int (fun _ _ => rfl))))), ?_⟩
    refine px0 hp.sq ?_
    refine ifC (fun c => px1 hp.sq ?_) (fun c => ?_)
    · have c : 0 < f.1 := c
      have e : uns f = decide (f.1 < f.2) := by unfold uns; simp [c]
      rw [e] at q
      exact q
    · have c : ¬ 0 < f.1 := c
      have e : uns f = false := by unfold uns; simp [c]
      rw [e] at q
      exact q
end
end My
set_option Elab.async false
set_option linter.all false
set_option maxRecDepth 100000
set_option maxHeartbeats 4000000
namespace My
open PySem L2 FrM
def nV (L : List Nat) : List V := L.map fun (k : Nat) => V.int (k : Int)
theorem nV_get {L : List Nat} {j : Nat} {x : V} (h : (nV L)[j]? = some x) : ∃ k, L[j]? = some k ∧ x = .int (k : Int) := by
  unfold nV at h
  rw [List.getElem?_map] at h
  cases hk : L[j]? with
  | none => rw [hk] at h; cases h
  | some k => rw [hk] at h; cases h; exact ⟨k, rfl, rfl⟩
theorem at_sz {z : List Int} {k : Nat} (hk : k < z.length) : atI (z.map V.int) (k : Int) = some (.int (sz z k)) := atI_nat (by simp [sz, List.getElem?_map, List.getD, hk])
theorem sz_mem {z : List Int} {k : Nat} (hk : k < z.length) : sz z k ∈ z := by
  unfold sz
  rw [List.getD, List.getElem?_eq_getElem hk]
  exact List.getElem_mem hk
theorem flat_n (L : List Nat) : (nV L).all flatV = true := by
  rw [List.all_eq_true]
  intro x hx
  obtain ⟨k, _, rfl⟩ := List.mem_map.mp hx
  rfl
theorem in_n (L : List Nat) (k : Nat) : inV (.int (k : Int)) (nV L) = decide (k ∈ L) := by
  rw [Bool.eq_iff_iff]
  unfold inV nV
  rw [List.any_map, List.any_eq_true, decide_eq_true_eq]
  constructor
  · rintro ⟨j, hj, e⟩
    have : (j : Int) = (k : Int) := by simpa [eqV] using e
    have : j = k := by omega
    rw [← this]; exact hj
  · intro h
    exact ⟨k, h, by simp [eqV]⟩
section
variable {P : Program} {w : World} {K : PySem.W.Frag} {mg : Str → Option Value} {base : Heap} {a : Ad}
theorem ok_some (T : Txt K mg a) : FnOk P w K mg base CX0 3 a.f_wished_of_some a.d_wished_of_some ["sizes", "many"] (spSome K) := by
  have G_share : FnOk P w K mg base CX0 2 _ _ _ spLow := ok_share T
  refine T.F_wished_of_some.ok sc_wished_of_some (fun vs H Q E h => ?_) (fun cdv A outer s H vs Q E hr h => ?_)
  · obtain ⟨l, z, m, rfl, _⟩ := h; rfl
  · obtain ⟨l, z, m, rfl, hl, hz, m0, m1, q⟩ := h
    refine ⟨_, (pss_cons (ps_set (i := 2) sc_wished_of_some.nd rfl (Or.inr rfl) (pe_callTy (call_lstRngN rfl) rfl T.z_list bt_list (pa_cons (pe_callTy call_rng1 rfl T.z_range bt_range (pa_cons (pe_callB call_lenM rfl T.z_len bt_len (pa_cons (vr 0) pa_nil)) pa_nil)) pa_nil))) (pss_cons (ps_set (i := 3) sc_wished_of_some.nd rfl (Or.inr rfl) (vr 1)) (pss_cons (ps_while PassesOwn.never (t_val pe_bl) (pss_cons (ps_set (i := 4) sc_wished_of_some.nd rfl (Or.inr rfl) (pe_callB (call_sumI rfl) rfl T.z_sum bt_sum (pa_cons (pe_comp rfl (N := ["place", "sizes"]) (ix := [none, some 0]) ⟨rfl, rfl, rfl, rfl, ⟨rfl, rfl, rfl, trivial⟩⟩ (pi_any (vr 2)) ⟨fun C s H fp => pg_name (i := 0) (show List.Nodup (["place", "sizes"] : List Str) by decide +kernel) rfl (Or.inl rfl), fun C s H fp => pts_nil, fun C s H fp => (pe_ix (ix_seqK (K := K) rfl) (vr 1) (vr 0) (fun _ _ => rfl))⟩) pa_nil))) (pss_cons (ps_setC rfl (i := 5) sc_wished_of_some.nd rfl rfl (by with_unfolding_all rfl) (N := ["place", "whole", "wanted", "sizes"]) (ix := [none, some 4, some 3, some 0]) ⟨rfl, rfl, rfl, rfl, ⟨rfl, rfl, rfl, ⟨rfl, rfl, rfl, ⟨rfl, rfl, rfl, trivial⟩⟩⟩⟩ (pi_any (vr 2)) ⟨fun C s H fp => pg_name (i := 0) (show List.Nodup (["place", "whole", "wanted", "sizes"] : List Str) by decide +kernel) rfl (Or.inl rfl), fun C s H fp => pts_one (t_cmp o_lt (pe_op o_mulB (pe_ix (ix_seqK (K := K) rfl) (vr 3) (vr 0) (fun _ _ => rfl)) (vr 2)) (vr 1) (nomark _)), fun C s H fp => (vr 0)⟩) (pss_cons (ps_if (t_cmp o_eq (pe_callB call_lenM rfl T.z_len bt_len (pa_cons (vr 5) pa_nil)) (pe_callB call_lenM rfl T.z_len bt_len (pa_cons (vr 2) pa_nil)) (nomark _)) (pss_one ps_break) pss_nil) (pss_cons (ps_aug (i := 3) sc_wished_of_some.nd rfl (Or.inr rfl) (pe_op o_sub (pe_callB call_lenM rfl T.z_len bt_len (pa_cons (vr 2) pa_nil)) (pe_callB call_lenM rfl T.z_len bt_len (pa_cons (vr 5) pa_nil))) ip_sub) (pss_one (ps_set (i := 2) sc_wished_of_some.nd rfl (Or.inr rfl) (vr 5)))))))) (pss_one (ps_ret (pe_comp rfl (N := ["place", "size", "left", "whole", "wanted"]) (ix := [none, none, some 2, some 4, some 3]) ⟨rfl, rfl, rfl, rfl, ⟨rfl, rfl, rfl, ⟨rfl, rfl, rfl, ⟨rfl, rfl, rfl, trivial⟩⟩⟩⟩ (pi_enum rfl T.z_enumerate (pa_cons (vr 0) pa_nil)) ⟨fun C s H fp => (pg_tupK (K := K) (n := 2) rfl rfl (pgs_cons (pg_name (i := 0) (show List.Nodup (["place", "size", "left", "whole", "wanted"] : List Str) by decide +kernel) rfl (Or.inl rfl)) (pgs_cons (pg_name (i := 1) (show List.Nodup (["place", "size", "left", "whole", "wanted"] : List Str) by decide +kernel) rfl (Or.inl rfl)) pgs_nil))), fun C s H fp => pts_nil, fun C s H fp => (pe_ifExp (t_cmp (op_in_seqK (K := K) rfl) (vr 0) (vr 2) (by with_unfolding_all rfl)) (pe_call G_share hr rfl T.m_share T.F_share.kp T.B_share .nil pass0 (pa_cons (pe_op o_mulB (vr 1) (vr 4)) (pa_cons (vr 3) pa_nil))) (pe_gl rfl T.g_WHOLE))⟩)))))), ?_⟩
    have sl : sizeLine = 16777216 := sizeLine_eq
    have zl := hz.len
    have hzs : ∀ k, k < z.length → 1 ≤ sz z k := fun k hk => hz.lo _ (sz_mem hk)
    have hzh : ∀ k, k < z.length → sz z k ≤ 24000000 := fun k hk => hz.hi _ (sz_mem hk)
    refine ⟨_, .inl (SqL.of hl), ⟨_, rfl, fun p hp => ⟨p, z.length, rfl, by omega, by rw [upd_same, List.length_map], fun lf hlf => ?_⟩⟩⟩
    have s1 : Same H (upd (upd H p (.rng 0 ((z.map V.int).length : Int))) lf (.lst (nV (List.range z.length)))) := (Same.new hp).trans (Same.new hlf)
    refine ⟨fun c σ H' => ∃ (lf : Addr) (L : List Nat) (w : Int) (x4 x5 : Option V), c = L.length ∧ Same H H' ∧ H' lf = some (.lst (nV L)) ∧ Rnd z z.length m L w ∧ FrM.fin z L w = FrM.fin z (List.range z.length) m ∧ σ = [some (.ref l), some (.int m), some (.ref lf), some (.int w), x4, x5], ⟨_, lf, List.range z.length, m, none, none, rfl, s1, upd_same, Rnd.start (by omega) (by omega), rfl, rfl⟩, ?_⟩
    rintro c σ H' ⟨lf, L, w, x4, x5, rfl, sm, hlf, R, hf, rfl⟩
    have hl' := sm _ _ hl
    have Ll := R.len
    have wb : -24 ≤ w ∧ w ≤ 24 := by have := R.dif; have := R.lt; omega
    refine ⟨fun σ' H'' => ∃ (lf' : Addr) (x4 x5 : Option V), Same H H'' ∧ H'' lf' = some (.lst (nV (stay z L w))) ∧ (stay z L w).length ≠ L.length ∧ σ' = [some (.ref l), some (.int m), some (.ref lf'), some (.int (w - ((L.length : Int) - ((stay z L w).length : Int)))), x4, x5], ?_, ?_⟩
    · rintro σ' H'' ⟨lf', x4, x5, sm', h', hne, rfl⟩
      have := stay_le z L w
      exact ⟨_, by omega, lf', _, _, x4, x5, rfl, sm', h', R.step hzs, by rw [← hf]; exact (fin_go hne).symm, rfl⟩
    · refine .inl ⟨⟨_, SqL.of hlf⟩, fun D hD => ?_⟩
      refine comp_list (K := K) (a := lf) (xs := nV L) (fun i ys H2 => i ≤ L.length ∧ H2 = upd H' D (.lst ys) ∧ ys = (L.take i).map fun k => V.int (sz z k)) ⟨Nat.zero_le _, rfl, rfl⟩ (fun i ys H2 h => by rw [h.2.1]; exact SqL.of (by rw [upd_ne (ne_of_none hlf hD)]; exact hlf)) (fun i ys H2 h => by rw [h.2.1]; exact upd_same) ?_ ?_
      · rintro i x ys H2 P' hx ⟨hi, rfl, rfl⟩ hP
        obtain ⟨k, hk, rfl⟩ := nV_get hx
        have hlt : i < L.length := (List.getElem?_eq_some_iff.mp hk).1
        have hkz := R.sub k (List.mem_of_getElem? hk)
        refine ⟨⟨rfl, trivial⟩, .inl ⟨l, _, _, _, rfl, rfl, SqL.of (by rw [upd_ne (ne_of_none hl' hD)]; exact hl'), at_sz hkz, upd_same, ?_, hP _ _ ⟨hlt, upd_upd, ?_⟩⟩⟩
        · rw [List.length_map, List.length_take]; omega
        · rw [List.take_add_one, hk, List.map_append]; rfl
      rintro ys H2 ⟨_, rfl, rfl⟩
      have eS : ((L.take (nV L).length).map fun k => V.int (sz z k)) = (L.map (sz z)).map V.int := by
        rw [show (nV L).length = L.length by unfold nV; rw [List.length_map], List.take_of_length_le (Nat.le_refl _), List.map_map]; rfl
      refine ⟨D, L.map (sz z), rfl, SqL.of (by rw [upd_same, eS]), ?_⟩
      rw [eS]
      have sD : Same H' (upd H' D (.lst ((L.map (sz z)).map V.int))) := Same.new hD
      generalize upd H' D (.lst ((L.map (sz z)).map V.int)) = H3 at sD
      have hl3 := sD _ _ hl'
      have hlf3 := sD _ _ hlf
      refine .inl ⟨⟨_, SqL.of hlf3⟩, fun D2 hD2 => ?_⟩
      refine comp_list (K := K) (a := lf) (xs := nV L) (fun i ys H2 => i ≤ L.length ∧ H2 = upd H3 D2 (.lst ys) ∧ ys = nV ((L.take i).filter fun k => decide (sz z k * w < sumL z L))) ⟨Nat.zero_le _, rfl, rfl⟩ (fun i ys H2 h => by rw [h.2.1]; exact SqL.of (by rw [upd_ne (ne_of_none hlf3 hD2)]; exact hlf3)) (fun i ys H2 h => by rw [h.2.1]; exact upd_same) ?_ ?_
      · rintro i x ys H2 P' hx ⟨hi, rfl, rfl⟩ hP
        obtain ⟨k, hk, rfl⟩ := nV_get hx
        have hlt : i < L.length := (List.getElem?_eq_some_iff.mp hk).1
        have hkz := R.sub k (List.mem_of_getElem? hk)
        have et : (L.take (i + 1)).filter (fun k => decide (sz z k * w < sumL z L)) = (L.take i).filter (fun k => decide (sz z k * w < sumL z L)) ++ if sz z k * w < sumL z L then [k] else [] := by
          rw [List.take_add_one, hk, List.filter_append]
          by_cases c : sz z k * w < sumL z L <;> simp [c]
        refine ⟨⟨rfl, rfl, rfl, trivial⟩, .inl ⟨l, _, _, _, rfl, rfl, SqL.of (by rw [upd_ne (ne_of_none hl3 hD2)]; exact hl3), at_sz hkz, crB (by omega) (by omega), ?_⟩⟩
        refine ifC (fun c => ?_) (fun c => ?_)
        · have c' : sz z k * w < sumL z L := c
          rw [if_pos c'] at et
          refine ⟨upd_same, ?_, hP _ _ ⟨hlt, upd_upd, ?_⟩⟩
          · unfold nV
            rw [List.length_map]
            have := List.length_filter_le (fun k => decide (sz z k * w < sumL z L)) (L.take i)
            rw [List.length_take] at this
            omega
          · rw [et]; unfold nV; rw [List.map_append]; rfl
        · have c' : ¬ sz z k * w < sumL z L := c
          rw [if_neg c', List.append_nil] at et
          exact hP _ _ ⟨hlt, rfl, by rw [et]⟩
      rintro ys H2 ⟨_, rfl, rfl⟩
      have eT : nV ((L.take (nV L).length).filter fun k => decide (sz z k * w < sumL z L)) = nV (stay z L w) := by
        rw [show (nV L).length = L.length by unfold nV; rw [List.length_map], List.take_of_length_le (Nat.le_refl _)]; rfl
      rw [eT]
      have sD2 : Same H3 (upd H3 D2 (.lst (nV (stay z L w)))) := Same.new hD2
      have hst : (upd H3 D2 (.lst (nV (stay z L w)))) D2 = some (.lst (nV (stay z L w))) := upd_same
      generalize upd H3 D2 (.lst (nV (stay z L w))) = H4 at sD2 hst
      have hl4 := sD2 _ _ hl3
      have hlf4 := sD2 _ _ hlf3
      have s4 : Same H H4 := sm.trans (sD.trans sD2)
      have len1 : ∀ L : List Nat, (nV L).length = L.length := fun L => by unfold nV; rw [List.length_map]
      refine ⟨_, .inl (SqL.of hst), ⟨_, .inl (SqL.of hlf4), ?_⟩⟩
      rw [len1, len1]
      refine ifC (fun c => ?_) (fun c => ?_)
      · have c' : (stay z L w).length = L.length := by have z : ((stay z L w).length : Int) = (L.length : Int) := c; omega
        have hfin := fin_stop c'
        rw [hf] at hfin
        have hS : 0 < sumL z L := by have := sumL_ge z L fun k hk => hzs k (R.sub k hk); have := R.pos; omega
        have hSb : Bt 40 (sumL z L) := by
          have := sumL_le z 24000000 L fun k hk => hzh k (R.sub k hk)
          unfold Bt
          have e40 : (2 : Nat) ^ 40 = 1099511627776 := by decide
          rw [e40]
          omega
        refine ⟨l, _, rfl, hl4, fun D3 hD3 => ?_⟩
        have hDue : due z m = (List.range z.length).map fun k => if decide (k ∈ L) = true then lowP (sz z k * w) (sumL z L) else (1, 1) := by
          unfold due
          rw [if_neg (by omega), if_neg (by omega), hfin]
        have fD3 : H D3 = none := s4.free hD3
        refine comp_enum (a := l) (xs := z.map V.int) (fun i ys H2 => i ≤ z.length ∧ Same H H2 ∧ Same H4 H2 ∧ H2 D3 = some (.lst ys) ∧ AllF K H2 ((due z m).take i) ys) ⟨Nat.zero_le _, s4.trans (Same.new hD3), Same.new hD3, upd_same, by rw [List.take_zero]; exact .nil⟩ (fun i ys H2 h => h.2.1 _ _ hl) (fun i ys H2 h => h.2.2.2.1) ?_ ?_
        · rintro i x ys H2 p P' hx ⟨hi, t1, t4, hD4, hA⟩ hp hP
          have hlt : i < z.length := by have := (List.getElem?_eq_some_iff.mp hx).1; rw [List.length_map] at this; exact this
          have ex : x = .int (sz z i) := by
            rw [List.getElem?_map, List.getElem?_eq_getElem hlt] at hx
            cases hx
            simp [sz, List.getD, hlt]
          subst ex
          have s2 : Same H2 (upd H2 p (.tup [.int (i : Nat), .int (sz z i)])) := Same.new hp
          refine ⟨p, _, rfl, SqT.of upd_same, rfl, _, _, rfl, _, _, rfl, rfl, ⟨rfl, rfl, rfl, trivial⟩, ?_⟩
          generalize upd H2 p (.tup [.int (i : Nat), .int (sz z i)]) = H5 at s2
          have hD5 := s2 _ _ hD4
          have yl : ys.length = i := by rw [← hA.len, List.length_take, due_len]; omega
          have et : (due z m).take (i + 1) = (due z m).take i ++ [if decide (i ∈ L) = true then lowP (sz z i * w) (sumL z L) else (1, 1)] := by
            rw [List.take_add_one]
            congr 1
            rw [hDue, List.getElem?_map, List.getElem?_range hlt]
            rfl
          refine ⟨lf, _, rfl, .inl (SqL.of ((t4.trans s2) _ _ hlf4)), rfl, flat_n L, ?_⟩
          rw [in_n]
          refine ifB (fun c => ?_) (fun c => ?_)
          · have c' : decide (i ∈ L) = true := c
            rw [if_pos c'] at et
            refine ⟨crB (by omega) (by omega), ⟨_, _, rfl, hS, ((show Bt 30 (sz z i) by have := hzs i hlt; have := hzh i hlt; unfold Bt; omega).mul (show Bt 5 w by unfold Bt; omega)).mono (by decide), hSb.mono (by decide), fun H6 p6 s6 e6 => ?_⟩⟩
            refine ⟨s6 _ _ hD5, by omega, hP _ _ ⟨hlt, ((t1.trans s2).trans s6).put fD3, ?_, upd_same, ?_⟩⟩
            · exact ((t4.trans s2).trans s6).put hD3
            · rw [et]
              have hD6 := s6 _ _ hD5
              exact AllF.snoc ⟨p6, rfl, .inl (TK.lst hD6 _ _ e6)⟩ (hA.tk ((s2.trans s6).tk.trans (TK.lst hD6)))
          · have c' : decide (i ∈ L) = false := c
            rw [if_neg (by rw [c']; exact Bool.false_ne_true)] at et
            refine ⟨hD5, by omega, hP _ _ ⟨hlt, (t1.trans s2).put fD3, (t4.trans s2).put hD3, upd_same, ?_⟩⟩
            rw [et]
            exact AllF.snoc ⟨a.k_WHOLE, rfl, .inr T.t_WHOLE⟩ (hA.tk (s2.tk.trans (TK.lst hD5)))
        · rintro ys H2 ⟨_, t1, t4, hD4, hA⟩
          rw [List.take_of_length_le (by rw [due_len, List.length_map]; exact Nat.le_refl _)] at hA
          exact q H2 D3 ys t1 fD3 hD4 hA
      · have c' : (stay z L w).length ≠ L.length := fun e => c (by show ((stay z L w).length : Int) = (L.length : Int); omega)
        refine ⟨_, rfl, ⟨_, .inl (SqL.of hlf4), ⟨_, .inl (SqL.of hst), ⟨_, _, rfl, rfl, ⟨D2, some (.int (L.map (sz z)).sum), some (.ref D2), s4, hst, c', ?_⟩⟩⟩⟩⟩
        rw [len1, len1]
        rfl
theorem ok_wished (T : Txt K mg a) : FnOk P w K mg base CX0 4 a.f_wished a.d_wished ["sizes", "many"] (spWished K) := by
  have G_wished_of_some : FnOk P w K mg base CX0 3 _ _ _ (spSome K) := ok_some T
  refine T.F_wished.ok sc_wished (fun vs H Q E h => ?_) (fun cdv A outer s H vs Q E hr h => ?_)
  · obtain ⟨l, z, m, rfl, _⟩ := h; rfl
  · obtain ⟨l, z, m, rfl, hl, hz, m0, m1, q⟩ := h
    refine ⟨_, (pss_cons (ps_if (t_cmp o_le (pe_callB call_lenM rfl T.z_len bt_len (pa_cons (vr 0) pa_nil)) (vr 1) (nomark _)) (pss_one (ps_ret (pe_comp rfl (N := ["size"]) (ix := [none]) ⟨rfl, rfl, rfl, rfl, trivial⟩ (pi_any (vr 0)) ⟨fun C s H fp => pg_name (i := 0) (show List.Nodup (["size"] : List Str) by decide +kernel) rfl (Or.inl rfl), fun C s H fp => pts_nil, fun C s H fp => (pe_gl rfl T.g_WHOLE)⟩))) pss_nil) (pss_cons (ps_if (t_cmp o_eq (vr 1) pe_int (nomark _)) (pss_one (ps_ret (pe_comp rfl (N := ["size"]) (ix := [none]) ⟨rfl, rfl, rfl, rfl, trivial⟩ (pi_any (vr 0)) ⟨fun C s H fp => pg_name (i := 0) (show List.Nodup (["size"] : List Str) by decide +kernel) rfl (Or.inl rfl), fun C s H fp => pts_nil, fun C s H fp => (pe_gl rfl T.g_NOUGHT)⟩))) pss_nil) (pss_one (ps_ret (pe_call G_wished_of_some hr rfl T.m_wished_of_some T.F_wished_of_some.kp T.B_wished_of_some .nil pass0 (pa_cons (vr 0) (pa_cons (vr 1) pa_nil))))))), ?_⟩
    have sl : sizeLine = 16777216 := sizeLine_eq
    have zl := hz.len
    refine ⟨_, .inl (SqL.of hl), ?_⟩
    rw [List.length_map]
    refine ifC (fun c => ?_) (fun c => ifC (fun c2 => ?_) (fun c2 => ?_))
    · have c' : (z.length : Int) ≤ m := c
      have hDue : due z m = z.map fun _ => (1, 1) := by unfold due; rw [if_pos c']
      refine .inl ⟨⟨_, SqL.of hl⟩, fun D hD => ?_⟩
      refine comp_list (K := K) (a := l) (xs := z.map V.int) (fun i ys H2 => i ≤ z.length ∧ H2 = upd H D (.lst ys) ∧ AllF K H2 ((due z m).take i) ys) ⟨Nat.zero_le _, rfl, by rw [List.take_zero]; exact .nil⟩ (fun i ys H2 h => by rw [h.2.1]; exact SqL.of (by rw [upd_ne (ne_of_none hl hD)]; exact hl)) (fun i ys H2 h => by rw [h.2.1]; exact upd_same) ?_ ?_
      · rintro i x ys H2 P' hx ⟨hi, rfl, hA⟩ hP
        have hlt : i < z.length := by have := (List.getElem?_eq_some_iff.mp hx).1; rw [List.length_map] at this; exact this
        have yl : ys.length = i := by rw [← hA.len, List.length_take, due_len]; omega
        refine ⟨trivial, upd_same, by omega, hP _ _ ⟨hlt, upd_upd, ?_⟩⟩
        have et : (due z m).take (i + 1) = (due z m).take i ++ [(1, 1)] := by
          rw [List.take_add_one]
          congr 1
          rw [hDue, List.getElem?_map, List.getElem?_eq_getElem hlt]
          rfl
        rw [et]
        exact AllF.snoc ⟨a.k_WHOLE, rfl, .inr T.t_WHOLE⟩ (hA.tk (TK.lst upd_same))
      · rintro ys H2 ⟨_, rfl, hA⟩
        rw [List.take_of_length_le (by rw [due_len, List.length_map]; exact Nat.le_refl _)] at hA
        exact q _ D ys (Same.new hD) hD upd_same hA
    · have c' : ¬ (z.length : Int) ≤ m := c
      have c2' : m = 0 := c2
      have hDue : due z m = z.map fun _ => (0, 1) := by unfold due; rw [if_neg c', if_pos c2']
      refine .inl ⟨⟨_, SqL.of hl⟩, fun D hD => ?_⟩
      refine comp_list (K := K) (a := l) (xs := z.map V.int) (fun i ys H2 => i ≤ z.length ∧ H2 = upd H D (.lst ys) ∧ AllF K H2 ((due z m).take i) ys) ⟨Nat.zero_le _, rfl, by rw [List.take_zero]; exact .nil⟩ (fun i ys H2 h => by rw [h.2.1]; exact SqL.of (by rw [upd_ne (ne_of_none hl hD)]; exact hl)) (fun i ys H2 h => by rw [h.2.1]; exact upd_same) ?_ ?_
      · rintro i x ys H2 P' hx ⟨hi, rfl, hA⟩ hP
        have hlt : i < z.length := by have := (List.getElem?_eq_some_iff.mp hx).1; rw [List.length_map] at this; exact this
        have yl : ys.length = i := by rw [← hA.len, List.length_take, due_len]; omega
        refine ⟨trivial, upd_same, by omega, hP _ _ ⟨hlt, upd_upd, ?_⟩⟩
        have et : (due z m).take (i + 1) = (due z m).take i ++ [(0, 1)] := by
          rw [List.take_add_one]
          congr 1
          rw [hDue, List.getElem?_map, List.getElem?_eq_getElem hlt]
          rfl
        rw [et]
        exact AllF.snoc ⟨a.k_NOUGHT, rfl, .inr T.t_NOUGHT⟩ (hA.tk (TK.lst upd_same))
      · rintro ys H2 ⟨_, rfl, hA⟩
        rw [List.take_of_length_le (by rw [due_len, List.length_map]; exact Nat.le_refl _)] at hA
        exact q _ D ys (Same.new hD) hD upd_same hA
    · have c' : ¬ (z.length : Int) ≤ m := c
      have c2' : ¬ m = 0 := c2
      exact ⟨l, z, m, rfl, hl, hz, by omega, by omega, q⟩
end
def sureV (n : Nat) (L : List Nat) : List V := (List.range n).map fun (k : Nat) => V.bl (decide (k ∉ L))
theorem sure_at {n k : Nat} (L : List Nat) (hk : k < n) : atI (sureV n L) (k : Int) = some (.bl (decide (k ∉ L))) := atI_nat (by unfold sureV; rw [List.getElem?_map, List.getElem?_range hk]; rfl)
theorem left_take {n j : Nat} {L : List Nat} (hj : j < n) : ((List.range n).take (j + 1)).filter (fun k => decide (k ∈ L)) = ((List.range n).take j).filter (fun k => decide (k ∈ L)) ++ if j ∈ L then [j] else [] := by
  rw [List.take_add_one, List.getElem?_range hj, List.filter_append]
  by_cases c : j ∈ L <;> simp [c]
theorem high_take {n j : Nat} {L : List Nat} (p : Nat → Bool) (hj : j < n) : ((List.range n).take (j + 1)).filter (fun k => decide (k ∈ L) && p k) = ((List.range n).take j).filter (fun k => decide (k ∈ L) && p k) ++ if (decide (j ∈ L) && p j) = true then [j] else [] := by
  rw [List.take_add_one, List.getElem?_range hj, List.filter_append]
  by_cases c : (decide (j ∈ L) && p j) = true
  · rw [if_pos c]; simp [c]
  · rw [if_neg c]; simp [c]
theorem sure_at0 {n k : Nat} (L : List Nat) (hk : k < n) : atI (sureV n L) (0 + (k : Int)) = some (.bl (decide (k ∉ L))) := by rw [Int.zero_add]; exact sure_at L hk
theorem at_sz0 {z : List Int} {k : Nat} (hk : k < z.length) : atI (z.map V.int) (0 + (k : Int)) = some (.int (sz z k)) := by rw [Int.zero_add]; exact at_sz hk
def sureS (n : Nat) (L hs : List Nat) : List V := (List.range n).map fun (k : Nat) => V.bl (decide (k ∉ L ∨ k ∈ hs))
theorem sureS_nil (n : Nat) (L : List Nat) : sureS n L [] = sureV n L := by
  unfold sureS sureV
  refine List.map_congr_left fun k hk => ?_
  simp
theorem sureS_len (n : Nat) (L hs : List Nat) : (sureS n L hs).length = n := by unfold sureS; rw [List.length_map, List.length_range]
theorem sureS_set {n k : Nat} (L hs : List Nat) : (sureS n L hs).set k (.bl true) = sureS n L (hs ++ [k]) := by
  refine List.ext_getElem? fun i => ?_
  rw [List.getElem?_set]
  unfold sureS
  rw [List.length_map, List.length_range, List.getElem?_map, List.getElem?_map]
  by_cases hi : i < n
  · rw [List.getElem?_range hi]
    by_cases e : k = i
    · subst e
      rw [if_pos rfl, if_pos hi]
      simp
    · rw [if_neg e]
      have : ¬ i = k := fun z => e z.symm
      simp [this]
  · rw [List.getElem?_eq_none (by rw [List.length_range]; omega)]
    split
    · split
      · omega
      · rfl
    · rfl
theorem sureS_stay {n : Nat} {L : List Nat} (p : Nat → Bool) : sureS n L (L.filter fun k => !p k) = sureV n (L.filter p) := by
  unfold sureS sureV
  refine List.map_congr_left fun k hk => ?_
  congr 1
  rw [decide_eq_decide]
  rw [List.mem_filter, List.mem_filter]
  by_cases h1 : k ∈ L
  · by_cases h2 : p k = true <;> simp [h1, h2]
  · simp [h1]
theorem hi_len (p : Nat → Bool) : ∀ L : List Nat, (L.filter fun k => !p k).length + (L.filter p).length = L.length
  | [] => rfl
  | k :: L => by
    have ih := hi_len p L
    by_cases h : p k = true
    · rw [List.filter_cons_of_neg (by simp [h]), List.filter_cons_of_pos h, List.length_cons, List.length_cons]; omega
    · rw [List.filter_cons_of_pos (by simpa using h), List.filter_cons_of_neg h, List.length_cons, List.length_cons]; omega
theorem dvs_n {K : PySem.W.Frag} {H : Hp} : ∀ (l : List Nat), DVs K H (l.map fun (k : Nat) => PyData.int (k : Int)) (nV l)
  | [] => by simp [DVs, nV]
  | c :: l => by
    show DVs K H (PyData.int (c : Int) :: l.map fun (k : Nat) => PyData.int (k : Int)) (V.int (c : Int) :: nV l)
    rw [DVs]
    exact ⟨_, _, rfl, by simp [DV], dvs_n l⟩
theorem lay_n : ∀ (l : List Nat), PyData.canLayAll0 (l.map fun (k : Nat) => PyData.int (k : Int)) = true ∧ PyData.depthAll (l.map fun (k : Nat) => PyData.int (k : Int)) ≤ 1
  | [] => by simp [PyData.canLayAll0, PyData.depthAll]
  | t :: l => by
    obtain ⟨h1, h2⟩ := lay_n l
    rw [List.map_cons, PyData.canLayAll0, PyData.depthAll, h1, PyData.canLay0]
    refine ⟨rfl, ?_⟩
    simp only [PyData.depth]
    omega
theorem ne_nil_n {K : PySem.W.Frag} {H : Hp} {ns : List Nat} {l r : Addr} {Q : VK} (h1 : H l = some (.lst (nV ns))) (h2 : H r = some (.lst [])) (q : Q (.bl (!ns.isEmpty)) H) : rEqD K true (.ref l) (.ref r) H Q := by
  have hs : SeqAt.shaped (.list (ns.map fun (k : Nat) => PyData.int (k : Int))) = true := by
    obtain ⟨k1, k2⟩ := lay_n ns
    unfold SeqAt.shaped
    rw [PyData.canLay0, k1, Bool.true_and]
    refine decide_eq_true ?_
    simp only [PyData.depth]
    omega
  refine ⟨.list (ns.map fun (k : Nat) => PyData.int (k : Int)), .list [], by rw [DV]; exact ⟨l, _, rfl, SqL.of h1, dvs_n _⟩, by rw [DV]; exact ⟨r, _, rfl, SqL.of h2, by simp [DVs]⟩, hs, by decide +kernel, ?_⟩
  have e : PyData.eqv (.list (ns.map fun (k : Nat) => PyData.int (k : Int))) (.list []) = ns.isEmpty := by
    cases ns with
    | nil => decide +kernel
    | cons n ns => simp [PyData.eqv, PyData.eqvAll]
  rw [e]
  exact q
theorem fil_and {n : Nat} {L : List Nat} (h : L = (List.range n).filter fun k => decide (k ∈ L)) (p : Nat → Bool) : (List.range n).filter (fun k => decide (k ∈ L) && p k) = L.filter p := by
  have e : ((List.range n).filter fun k => decide (k ∈ L)).filter p = L.filter p := by rw [← h]
  rw [← e, List.filter_filter]
  refine List.filter_congr fun k _ => ?_
  rw [Bool.and_comm]
theorem low_nought {x S : Int} (hS : 0 < S) : lowP (x * 0) S = (0, 1) := by
  rw [Int.mul_zero]
  exact (low_eq hS ⟨by decide, by decide, by omega⟩).symm
section
variable {P : Program} {w : World} {K : PySem.W.Frag} {mg : Str → Option Value} {base : Heap} {a : Ad}
theorem ok_Lwished (T : Txt K mg a) : FnOk P w K mg base CX0 2 a.f_L_wished a.d_L_wished ["_law_sizes", "_law_many"] (spWished K) := by
  have G_L_low : FnOk P w K mg base CX0 1 _ _ _ spLow := ok_low T
  refine T.F_L_wished.ok sc_L_wished (fun vs H Q E h => ?_) (fun cdv A outer s H vs Q E hr h => ?_)
  · obtain ⟨l, z, m, rfl, _⟩ := h; rfl
  · obtain ⟨l, z, m, rfl, hl, hz, m0, m1, q⟩ := h
    refine ⟨_, (pss_cons (ps_if (t_cmp o_ge (vr 1) (pe_callB call_lenM rfl T.z_len bt_len (pa_cons (vr 0) pa_nil)) (nomark _)) (pss_one (ps_ret (pe_comp rfl (N := ["_law_size"]) (ix := [none]) ⟨rfl, rfl, rfl, rfl, trivial⟩ (pi_any (vr 0)) ⟨fun C s H fp => pg_name (i := 0) (show List.Nodup (["_law_size"] : List Str) by decide +kernel) rfl (Or.inl rfl), fun C s H fp => pts_nil, fun C s H fp => (pe_tup (pa_cons pe_int (pa_cons pe_int pa_nil)))⟩))) pss_nil) (pss_cons (ps_set (i := 2) sc_L_wished.nd rfl (Or.inr rfl) (pe_comp rfl (N := ["_law_size"]) (ix := [none]) ⟨rfl, rfl, rfl, rfl, trivial⟩ (pi_any (vr 0)) ⟨fun C s H fp => pg_name (i := 0) (show List.Nodup (["_law_size"] : List Str) by decide +kernel) rfl (Or.inl rfl), fun C s H fp => pts_nil, fun C s H fp => pe_bl⟩)) (pss_cons (ps_set (i := 3) sc_L_wished.nd rfl (Or.inl rfl) (pe_cmpR o_gt (vr 1) pe_int (nomark _))) (pss_cons (ps_while PassesOwn.never (t_val (vr 3)) (pss_cons (ps_set (i := 4) sc_L_wished.nd rfl (Or.inr rfl) (pe_callB (call_sumI rfl) rfl T.z_sum bt_sum (pa_cons (pe_comp rfl (N := ["_law_k", "_law_sizes", "_law_sure"]) (ix := [none, some 0, some 2]) ⟨rfl, rfl, rfl, rfl, ⟨rfl, rfl, rfl, ⟨rfl, rfl, rfl, trivial⟩⟩⟩ (pi_range1 rfl T.z_range (pa_cons (pe_callB call_lenM rfl T.z_len bt_len (pa_cons (vr 0) pa_nil)) pa_nil)) ⟨fun C s H fp => pg_name (i := 0) (show List.Nodup (["_law_k", "_law_sizes", "_law_sure"] : List Str) by decide +kernel) rfl (Or.inl rfl), fun C s H fp => pts_one (pt_not (t_val (pe_ix (ix_seqK (K := K) rfl) (vr 2) (vr 0) (fun _ _ => rfl)))), fun C s H fp => (pe_ix (ix_seqK (K := K) rfl) (vr 1) (vr 0) (fun _ _ => rfl))⟩) pa_nil))) (pss_cons (ps_setC rfl (i := 5) sc_L_wished.nd rfl rfl (by with_unfolding_all rfl) (N := ["_law_k", "_law_total", "_law_sure", "_law_many", "_law_sizes"]) (ix := [none, some 4, some 2, some 1, some 0]) ⟨rfl, rfl, rfl, rfl, ⟨rfl, rfl, rfl, ⟨rfl, rfl, rfl, ⟨rfl, rfl, rfl, ⟨rfl, rfl, rfl, trivial⟩⟩⟩⟩⟩ (pi_range1 rfl T.z_range (pa_cons (pe_callB call_lenM rfl T.z_len bt_len (pa_cons (vr 0) pa_nil)) pa_nil)) ⟨fun C s H fp => pg_name (i := 0) (show List.Nodup (["_law_k", "_law_total", "_law_sure", "_law_many", "_law_sizes"] : List Str) by decide +kernel) rfl (Or.inl rfl), fun C s H fp => pts_one (PW.pt (pw_and (pt_not (t_val (pe_ix (ix_seqK (K := K) rfl) (vr 2) (vr 0) (fun _ _ => rfl)))) (pw_and1 (t_cmp o_ge (pe_op o_mulB (pe_ix (ix_seqK (K := K) rfl) (vr 4) (vr 0) (fun _ _ => rfl)) (vr 3)) (vr 1) (nomark _))))), fun C s H fp => (vr 0)⟩) (pss_cons (ps_for PassesOwn.never rfl (pi_any (vr 5)) (pg_name (i := 6) sc_L_wished.nd rfl (Or.inl rfl)) (pss_one (ps_asg pe_bl (pg_sub (vr 2) (vr 6) set_list)))) (pss_cons (ps_set (i := 1) sc_L_wished.nd rfl (Or.inr rfl) (pe_op o_sub (vr 1) (pe_callB call_lenM rfl T.z_len bt_len (pa_cons (vr 5) pa_nil)))) (pss_one (ps_set (i := 3) sc_L_wished.nd rfl (Or.inl rfl) (pe_cmpR (o_neD hr.units) (vr 5) (pe_lst pa_nil) (nomark _))))))))) (pss_cons (ps_set (i := 4) sc_L_wished.nd rfl (Or.inr rfl) (pe_callB (call_sumI rfl) rfl T.z_sum bt_sum (pa_cons (pe_comp rfl (N := ["_law_k", "_law_sizes", "_law_sure"]) (ix := [none, some 0, some 2]) ⟨rfl, rfl, rfl, rfl, ⟨rfl, rfl, rfl, ⟨rfl, rfl, rfl, trivial⟩⟩⟩ (pi_range1 rfl T.z_range (pa_cons (pe_callB call_lenM rfl T.z_len bt_len (pa_cons (vr 0) pa_nil)) pa_nil)) ⟨fun C s H fp => pg_name (i := 0) (show List.Nodup (["_law_k", "_law_sizes", "_law_sure"] : List Str) by decide +kernel) rfl (Or.inl rfl), fun C s H fp => pts_one (pt_not (t_val (pe_ix (ix_seqK (K := K) rfl) (vr 2) (vr 0) (fun _ _ => rfl)))), fun C s H fp => (pe_ix (ix_seqK (K := K) rfl) (vr 1) (vr 0) (fun _ _ => rfl))⟩) pa_nil))) (pss_cons (ps_set (i := 7) sc_L_wished.nd rfl (Or.inl rfl) (pe_lst pa_nil)) (pss_cons (ps_for PassesOwn.never rfl (pi_range1 rfl T.z_range (pa_cons (pe_callB call_lenM rfl T.z_len bt_len (pa_cons (vr 0) pa_nil)) pa_nil)) (pg_name (i := 6) sc_L_wished.nd rfl (Or.inl rfl)) (pss_cons (ps_expr (pe_m.append (vr 7) (pa_cons (pe_tup (pa_cons pe_int (pa_cons pe_int pa_nil))) pa_nil))) (pss_one (ps_if (pt_not (t_val (pe_ix ix_seq (vr 2) (vr 6) (fun _ _ => rfl)))) (pss_one (ps_asg (pe_call G_L_low hr rfl T.m_L_low T.F_L_low.kp T.B_L_low .nil pass0 (pa_cons (pe_op o_mulB (pe_ix ix_seq (vr 0) (vr 6) (fun _ _ => rfl)) (vr 1)) (pa_cons (vr 4) pa_nil))) (pg_sub (vr 7) (vr 6) set_list))) pss_nil)))) (pss_one (ps_ret (vr 7)))))))))), ?_⟩
    have sl : sizeLine = 16777216 := sizeLine_eq
    have zl := hz.len
    have hzs : ∀ k, k < z.length → 1 ≤ sz z k := fun k hk => hz.lo _ (sz_mem hk)
    have hzh : ∀ k, k < z.length → sz z k ≤ 24000000 := fun k hk => hz.hi _ (sz_mem hk)
    refine ⟨_, .inl (SqL.of hl), ?_⟩
    rw [List.length_map]
    refine ifC (fun c => ?_) (fun c => ?_)
    · have c' : (z.length : Int) ≤ m := c
      have hDue : due z m = z.map fun _ => (1, 1) := by unfold due; rw [if_pos c']
      refine .inl ⟨⟨_, SqL.of hl⟩, fun D hD => ?_⟩
      refine comp_list (K := K) (a := l) (xs := z.map V.int) (fun i ys H2 => i ≤ z.length ∧ Same H H2 ∧ H2 D = some (.lst ys) ∧ AllF K H2 ((due z m).take i) ys) ⟨Nat.zero_le _, Same.new hD, upd_same, by rw [List.take_zero]; exact .nil⟩ (fun i ys H2 h => SqL.of (h.2.1 _ _ hl)) (fun i ys H2 h => h.2.2.1) ?_ ?_
      · rintro i x ys H2 P' hx ⟨hi, s2, hD2, hA⟩ hP
        have hlt : i < z.length := by have := (List.getElem?_eq_some_iff.mp hx).1; rw [List.length_map] at this; exact this
        have yl : ys.length = i := by rw [← hA.len, List.length_take, due_len]; omega
        refine ⟨trivial, two_le _ _, fun p hp => ?_⟩
        have s3 := Same.new (o := .tup [.int 1, .int 1]) hp
        have hD3 := s3 _ _ hD2
        refine ⟨hD3, by omega, hP _ _ ⟨hlt, (s2.trans s3).put hD, upd_same, ?_⟩⟩
        have et : (due z m).take (i + 1) = (due z m).take i ++ [(1, 1)] := by
          rw [List.take_add_one]
          congr 1
          rw [hDue, List.getElem?_map, List.getElem?_eq_getElem hlt]
          rfl
        rw [et]
        exact AllF.snoc ⟨p, rfl, .inl (TK.lst hD3 _ _ upd_same)⟩ (hA.tk (s3.tk.trans (TK.lst hD3)))
      · rintro ys H2 ⟨_, s2, hD2, hA⟩
        rw [List.take_of_length_le (by rw [due_len, List.length_map]; exact Nat.le_refl _)] at hA
        exact q _ D ys s2 hD hD2 hA
    have c' : ¬ (z.length : Int) ≤ m := c
    refine .inl ⟨⟨_, SqL.of hl⟩, fun sr hsr => ?_⟩
    refine comp_list (K := K) (a := l) (xs := z.map V.int) (fun i ys H2 => i ≤ z.length ∧ H2 = upd H sr (.lst ys) ∧ ys = ((List.range z.length).take i).map fun _ => V.bl false) ⟨Nat.zero_le _, rfl, rfl⟩ (fun i ys H2 h => by rw [h.2.1]; exact SqL.of (by rw [upd_ne (ne_of_none hl hsr)]; exact hl)) (fun i ys H2 h => by rw [h.2.1]; exact upd_same) ?_ ?_
    · rintro i x ys H2 P' hx ⟨hi, rfl, rfl⟩ hP
      have hlt : i < z.length := by have := (List.getElem?_eq_some_iff.mp hx).1; rw [List.length_map] at this; exact this
      refine ⟨trivial, upd_same, ?_, hP _ _ ⟨hlt, upd_upd, ?_⟩⟩
      · rw [List.length_map, List.length_take, List.length_range]; omega
      · rw [List.take_add_one, List.getElem?_range hlt, List.map_append]; rfl
    rintro ys H2 ⟨_, rfl, rfl⟩
    have e0 : (((List.range z.length).take (z.map V.int).length).map fun _ => V.bl false) = sureV z.length (List.range z.length) := by
      rw [List.length_map, List.take_of_length_le (by rw [List.length_range]; exact Nat.le_refl _)]
      unfold sureV
      refine List.map_congr_left fun k hk => ?_
      rw [decide_eq_false (fun h => h hk)]
    rw [e0]
    have fsr : H sr = none := hsr
    refine ⟨fun c σ H' => ∃ (L : List Nat) (w : Int) (b : Bool) (x4 x5 x6 : Option V), c = 2 * L.length + (if b then 1 else 0) ∧ Same H H' ∧ H' sr = some (.lst (sureV z.length L)) ∧ Rnd z z.length m L w ∧
      (m = 0 → b = false ∧ w = 0 ∧ L = List.range z.length) ∧ (m ≠ 0 → FrM.fin z L w = FrM.fin z (List.range z.length) m) ∧ (m ≠ 0 → b = false → (stay z L w).length = L.length) ∧ σ = [some (.ref l), some (.int w), some (.ref sr), some (.bl b), x4, x5, x6, none],
      ⟨_, List.range z.length, m, decide (0 < m), none, none, none, rfl, Same.new hsr, upd_same, Rnd.start (by omega) (by omega), fun e => ⟨by rw [e]; rfl, e, rfl⟩, fun _ => rfl, fun e1 e2 => absurd (of_decide_eq_false e2) (by omega), rfl⟩, ?_⟩
    rintro c0 σ H' ⟨L, w, b, x4, x5, x6, rfl, sm, hs', R, hm0, hmf, hms, rfl⟩
    have hl' := sm _ _ hl
    have Ll := R.len
    have wb : -24 ≤ w ∧ w ≤ 24 := by have := R.dif; have := R.lt; omega
    have len1 : ∀ L : List Nat, (nV L).length = L.length := fun L => by unfold nV; rw [List.length_map]
    refine ifB (fun hb => ?_) (fun hb => ?_)
    · subst hb
      have hm : m ≠ 0 := fun e => by have := (hm0 e).1; cases this
      refine ⟨fun σ' H'' => ∃ (w' : Int) (b' : Bool) (x4 x5 x6 : Option V), w' = w - ((L.length : Int) - ((stay z L w).length : Int)) ∧ b' = decide ((stay z L w).length ≠ L.length) ∧ Same H H'' ∧ H'' sr = some (.lst (sureV z.length (stay z L w))) ∧ σ' = [some (.ref l), some (.int w'), some (.ref sr), some (.bl b'), x4, x5, x6, none], ?_, ?_⟩
      · rintro σ' H'' ⟨w', b', x4, x5, x6, rfl, rfl, sm', h', rfl⟩
        have sle := stay_le z L w
        by_cases e : (stay z L w).length = L.length
        · have es : stay z L w = L := by
            unfold stay
            rw [List.filter_eq_self]
            exact fun k hk => (List.length_filter_eq_length_iff.mp e) k hk
          have ew : w - ((L.length : Int) - ((stay z L w).length : Int)) = w := by omega
          have eb : decide ((stay z L w).length ≠ L.length) = false := decide_eq_false (fun h => h e)
          rw [ew, eb]
          refine ⟨_, ?_, L, w, false, x4, x5, x6, rfl, sm', by rw [es] at h'; exact h', R, fun z => absurd z hm, hmf, fun _ _ => e, rfl⟩
          simp
        · have eb : decide ((stay z L w).length ≠ L.length) = true := decide_eq_true e
          rw [eb]
          refine ⟨_, ?_, _, _, true, x4, x5, x6, rfl, sm', h', R.step hzs, fun z => absurd z hm, fun z => by rw [← hmf z]; exact (fin_go e).symm, fun _ z => (by cases z), rfl⟩
          simp
          omega
      · refine ⟨_, .inl (SqL.of hl'), _, rfl, by rw [List.length_map]; omega, by rw [List.length_map]; omega, fun D hD => ?_⟩
        refine comp_rng (lo := 0) (n := (z.map V.int).length) (fun j ys H2 => j ≤ z.length ∧ H2 = upd H' D (.lst ys) ∧ ys = ((((List.range z.length).take j).filter fun k => decide (k ∈ L)).map (sz z)).map V.int) ⟨Nat.zero_le _, rfl, rfl⟩ (fun j ys H2 h => by rw [h.2.1]; exact upd_same) ?_ ?_
        · rintro j ys H2 P' hj ⟨hj2, rfl, rfl⟩ hP
          rw [List.length_map] at hj
          have et := left_take (L := L) hj
          refine ⟨⟨rfl, rfl, trivial⟩, .inl ⟨sr, _, _, _, rfl, rfl, SqL.of (by rw [upd_ne (ne_of_none hs' hD)]; exact hs'), sure_at0 L hj, ?_⟩⟩
          refine ifB (fun c => ?_) (fun c => ?_)
          · have c' : j ∈ L := by simpa using c
            rw [if_pos c'] at et
            refine .inl ⟨l, _, _, _, rfl, rfl, SqL.of (by rw [upd_ne (ne_of_none hl' hD)]; exact hl'), at_sz0 hj, upd_same, ?_, hP _ _ ⟨hj, upd_upd, ?_⟩⟩
            · rw [List.length_map, List.length_map]
              have := List.length_filter_le (fun k => decide (k ∈ L)) ((List.range z.length).take j)
              rw [List.length_take] at this
              omega
            · rw [et, List.map_append, List.map_append]; rfl
          · have c' : j ∉ L := by simpa using c
            rw [if_neg c', List.append_nil] at et
            exact hP _ _ ⟨hj, rfl, by rw [et]⟩
        rintro ys H2 ⟨_, rfl, rfl⟩
        have eS : (((List.range z.length).take (z.map V.int).length).filter fun k => decide (k ∈ L)) = L := by
          rw [List.length_map, List.take_of_length_le (by rw [List.length_range]; exact Nat.le_refl _)]
          exact R.fil.symm
        rw [eS]
        refine ⟨D, L.map (sz z), rfl, SqL.of upd_same, ?_⟩
        have sD : Same H' (upd H' D (.lst ((L.map (sz z)).map V.int))) := Same.new hD
        generalize upd H' D (.lst ((L.map (sz z)).map V.int)) = H3 at sD
        have hl3 := sD _ _ hl'
        have hs3 := sD _ _ hs'
        refine ⟨_, .inl (SqL.of hl3), _, rfl, by rw [List.length_map]; omega, by rw [List.length_map]; omega, fun D2 hD2 => ?_⟩
        refine comp_rng (lo := 0) (n := (z.map V.int).length) (fun j ys H2 => j ≤ z.length ∧ H2 = upd H3 D2 (.lst ys) ∧ ys = nV (((List.range z.length).take j).filter fun k => decide (k ∈ L) && !decide (sz z k * w < sumL z L))) ⟨Nat.zero_le _, rfl, rfl⟩ (fun j ys H2 h => by rw [h.2.1]; exact upd_same) ?_ ?_
        · rintro j ys H2 P' hj ⟨hj2, rfl, rfl⟩ hP
          rw [List.length_map] at hj
          have et := high_take (L := L) (fun k => !decide (sz z k * w < sumL z L)) hj
          have hk0 := hzs j hj
          have hk1 := hzh j hj
          refine ⟨⟨rfl, rfl, rfl, rfl, trivial⟩, .inl ⟨sr, _, _, _, rfl, rfl, SqL.of (by rw [upd_ne (ne_of_none hs3 hD2)]; exact hs3), sure_at0 L hj, ?_⟩⟩
          refine ifB (fun c => ?_) (fun c => ?_)
          · have c' : j ∈ L := by simpa using c
            refine .inl ⟨l, _, _, _, rfl, rfl, SqL.of (by rw [upd_ne (ne_of_none hl3 hD2)]; exact hl3), at_sz0 hj, crB (by omega) (by omega), ?_⟩
            refine ifC (fun c2 => ?_) (fun c2 => ?_)
            · have c2' : sumL z L ≤ sz z j * w := c2
              rw [if_pos (by simp [c']; exact c2')] at et
              refine ⟨upd_same, ?_, hP _ _ ⟨hj, upd_upd, ?_⟩⟩
              · rw [len1]
                have := List.length_filter_le (fun k => decide (k ∈ L) && !decide (sz z k * w < sumL z L)) ((List.range z.length).take j)
                rw [List.length_take] at this
                omega
              · rw [et]; unfold nV; rw [List.map_append, Int.zero_add]; rfl
            · have c2' : ¬ sumL z L ≤ sz z j * w := c2
              rw [if_neg (by simp [c']; omega), List.append_nil] at et
              exact hP _ _ ⟨hj, rfl, by rw [et]⟩
          · have c' : j ∉ L := by simpa using c
            rw [if_neg (by simp [c']), List.append_nil] at et
            exact iteF (hP _ _ ⟨hj, rfl, by rw [et]⟩)
        rintro ys H2 ⟨_, rfl, rfl⟩
        obtain ⟨hi, hhi⟩ : ∃ hi, hi = L.filter fun k => !decide (sz z k * w < sumL z L) := ⟨_, rfl⟩
        have eT : nV (((List.range z.length).take (z.map V.int).length).filter fun k => decide (k ∈ L) && !decide (sz z k * w < sumL z L)) = nV hi := by
          rw [List.length_map, List.take_of_length_le (by rw [List.length_range]; exact Nat.le_refl _), hhi]
          congr 1
          exact fil_and R.fil _
        rw [eT]
        have hlen : hi.length + (stay z L w).length = L.length := by rw [hhi]; exact hi_len _ L
        have sD2 : Same H3 (upd H3 D2 (.lst (nV hi))) := Same.new hD2
        have hst : (upd H3 D2 (.lst (nV hi))) D2 = some (.lst (nV hi)) := upd_same
        have nsr : sr ≠ D2 := ne_of_none hs3 hD2
        generalize upd H3 D2 (.lst (nV hi)) = H4 at sD2 hst
        have hs4 := sD2 _ _ hs3
        have s4 : Same H H4 := sm.trans (sD.trans sD2)
        refine .inl ⟨⟨_, SqL.of hst⟩, for_list (K := K) (a := D2) (xs := nV hi) (fun j σ H2 => ∃ x6, H2 = upd H4 sr (.lst (sureS z.length L (hi.take j))) ∧ σ = [some (.ref l), some (.int w), some (.ref sr), some (.bl true), some (.int (L.map (sz z)).sum), some (.ref D2), x6, none]) ⟨x6, by rw [List.take_zero, sureS_nil]; funext b; by_cases e : b = sr; (· rw [e, upd_same]; exact hs4); (· rw [upd_ne e]), rfl⟩ (fun j σ H2 _ h => by obtain ⟨_, rfl, _⟩ := h; exact SqL.of (by rw [upd_ne nsr.symm]; exact hst)) ?_ ?_⟩
        · rintro j x σ H2 hx ⟨x6, rfl, rfl⟩
          obtain ⟨k, hk, rfl⟩ := nV_get hx
          have hkz : k < z.length := by
            have := List.mem_of_getElem? hk
            rw [hhi] at this
            exact R.sub k (List.mem_filter.mp this).1
          refine ⟨sr, _, _, k, rfl, rfl, upd_same, ?_, ?_⟩
          · rw [sureS_len]
            unfold ixN
            rw [if_pos (by omega), if_pos (by omega)]
            simp
          · refine ⟨_, ?_, rfl⟩
            rw [upd_upd, sureS_set, List.take_add_one, hk]
            rfl
        · rintro σ H2 ⟨x6, rfl, rfl⟩
          have hst5 : (upd H4 sr (.lst (sureS z.length L (hi.take (nV hi).length)))) D2 = some (.lst (nV hi)) := by rw [upd_ne nsr.symm]; exact hst
          have e6 : sureS z.length L (hi.take (nV hi).length) = sureV z.length (stay z L w) := by
            rw [len1, List.take_of_length_le (Nat.le_refl _), hhi]
            exact sureS_stay _
          rw [e6] at hst5 ⊢
          refine ⟨_, .inl (SqL.of hst5), Nat.zero_le _, fun p hp => ?_⟩
          have sp := Same.new (o := .lst []) hp
          refine ne_nil_n (sp _ _ hst5) upd_same ?_
          have s5 : Same H (upd H4 sr (.lst (sureV z.length (stay z L w)))) := s4.put fsr
          refine ⟨_, _, _, _, _, ?_, ?_, s5.trans sp, sp _ _ upd_same, rfl⟩
          · rw [len1]; omega
          · rw [Bool.eq_iff_iff, decide_eq_true_eq]
            cases hi with
            | nil => simp at hlen; simp [hlen]
            | cons k hi => simp at hlen; simp; omega
    · subst hb
      have hDue : due z m = (List.range z.length).map fun k => if decide (k ∈ L) = true then lowP (sz z k * w) (sumL z L) else (1, 1) := by
        unfold due
        rw [if_neg c']
        by_cases hm : m = 0
        · obtain ⟨_, hw, hL⟩ := hm0 hm
          rw [if_pos hm, hw, hL]
          refine List.ext_getElem? fun i => ?_
          rw [List.getElem?_map, List.getElem?_map]
          by_cases hi : i < z.length
          · rw [List.getElem?_range hi, List.getElem?_eq_getElem hi]
            show some ((0 : Int), (1 : Int)) = some _
            congr 1
            show ((0 : Int), (1 : Int)) = if decide (i ∈ List.range z.length) = true then lowP (sz z i * 0) (sumL z (List.range z.length)) else (1, 1)
            rw [if_pos (decide_eq_true (List.mem_range.mpr hi))]
            refine (low_nought ?_).symm
            have := sumL_ge z (List.range z.length) fun k hk => hzs k (List.mem_range.mp hk)
            rw [List.length_range] at this
            omega
          · rw [List.getElem?_eq_none (by omega), List.getElem?_eq_none (by rw [List.length_range]; omega)]
            rfl
        · have hfin := fin_stop (hms hm rfl)
          rw [hmf hm] at hfin
          rw [if_neg hm, hfin]
      have hS : 0 < sumL z L := by have := sumL_ge z L fun k hk => hzs k (R.sub k hk); have := R.pos; omega
      have hSb : Bt 40 (sumL z L) := by
        have := sumL_le z 24000000 L fun k hk => hzh k (R.sub k hk)
        unfold Bt
        have e40 : (2 : Nat) ^ 40 = 1099511627776 := by decide
        rw [e40]
        omega
      refine ⟨_, .inl (SqL.of hl'), _, rfl, by rw [List.length_map]; omega, by rw [List.length_map]; omega, fun D hD => ?_⟩
      refine comp_rng (lo := 0) (n := (z.map V.int).length) (fun j ys H2 => j ≤ z.length ∧ H2 = upd H' D (.lst ys) ∧ ys = ((((List.range z.length).take j).filter fun k => decide (k ∈ L)).map (sz z)).map V.int) ⟨Nat.zero_le _, rfl, rfl⟩ (fun j ys H2 h => by rw [h.2.1]; exact upd_same) ?_ ?_
      · rintro j ys H2 P' hj ⟨hj2, rfl, rfl⟩ hP
        rw [List.length_map] at hj
        have et := left_take (L := L) hj
        refine ⟨⟨rfl, rfl, trivial⟩, .inl ⟨sr, _, _, _, rfl, rfl, SqL.of (by rw [upd_ne (ne_of_none hs' hD)]; exact hs'), sure_at0 L hj, ?_⟩⟩
        refine ifB (fun c => ?_) (fun c => ?_)
        · have c' : j ∈ L := by simpa using c
          rw [if_pos c'] at et
          refine .inl ⟨l, _, _, _, rfl, rfl, SqL.of (by rw [upd_ne (ne_of_none hl' hD)]; exact hl'), at_sz0 hj, upd_same, ?_, hP _ _ ⟨hj, upd_upd, ?_⟩⟩
          · rw [List.length_map, List.length_map]
            have := List.length_filter_le (fun k => decide (k ∈ L)) ((List.range z.length).take j)
            rw [List.length_take] at this
            omega
          · rw [et, List.map_append, List.map_append]; rfl
        · have c' : j ∉ L := by simpa using c
          rw [if_neg c', List.append_nil] at et
          exact hP _ _ ⟨hj, rfl, by rw [et]⟩
      rintro ys H2 ⟨_, rfl, rfl⟩
      have eS : (((List.range z.length).take (z.map V.int).length).filter fun k => decide (k ∈ L)) = L := by
        rw [List.length_map, List.take_of_length_le (by rw [List.length_range]; exact Nat.le_refl _)]
        exact R.fil.symm
      rw [eS]
      refine ⟨D, L.map (sz z), rfl, SqL.of upd_same, ?_⟩
      have sD : Same H' (upd H' D (.lst ((L.map (sz z)).map V.int))) := Same.new hD
      generalize upd H' D (.lst ((L.map (sz z)).map V.int)) = H3 at sD
      have hl3 := sD _ _ hl'
      have hs3 := sD _ _ hs'
      refine ⟨Nat.zero_le _, fun fd hfd => ?_⟩
      have s3 : Same H H3 := sm.trans sD
      have ffd : H fd = none := s3.free hfd
      have hs4 := Same.new (o := .lst []) hfd _ _ hs3
      refine ⟨_, .inl (SqL.of (Same.new hfd _ _ hl3)), _, rfl, by rw [List.length_map]; omega, by rw [List.length_map]; omega, ?_⟩
      refine for_range (lo := 0) (n := (z.map V.int).length) (fun i σ H2 => ∃ (ys : List V) (x6 : Option V), i ≤ z.length ∧ Same H H2 ∧ H2 sr = some (.lst (sureV z.length L)) ∧ H2 fd = some (.lst ys) ∧ AllF K H2 ((due z m).take i) ys ∧ σ = [some (.ref l), some (.int w), some (.ref sr), some (.bl false), some (.int (L.map (sz z)).sum), x5, x6, some (.ref fd)]) ⟨[], x6, Nat.zero_le _, s3.trans (Same.new hfd), hs4, upd_same, by rw [List.take_zero]; exact .nil, rfl⟩ ?_ ?_
      · rintro i σ H2 hi ⟨ys, x6, hi2, t1, hs2, hf2, hA, rfl⟩
        rw [List.length_map] at hi
        have hk0 := hzs i hi
        have hk1 := hzh i hi
        have yl : ys.length = i := by rw [← hA.len, List.length_take, due_len]; omega
        refine ⟨.inl ⟨rfl, _, SqL.of hf2⟩, two_le _ _, fun p hp => ?_⟩
        have sp := Same.new (o := .tup [.int 1, .int 1]) hp
        have hf3 := sp _ _ hf2
        refine ⟨fd, _, _, rfl, rfl, hf3, by omega, ?_⟩
        have nsf : sr ≠ fd := fun e => by
          rw [e, hf2] at hs2
          have hfdsr : H3 sr = none := by rw [e]; exact hfd
          rw [hs3] at hfdsr
          cases hfdsr
        have hs5 : (upd (upd H2 p (.tup [.int 1, .int 1])) fd (.lst (ys ++ [.ref p]))) sr = some (.lst (sureV z.length L)) := by rw [upd_ne nsf]; exact sp _ _ hs2
        have t5 : Same H (upd (upd H2 p (.tup [.int 1, .int 1])) fd (.lst (ys ++ [.ref p]))) := (t1.trans sp).put ffd
        have tk5 : TK H2 (upd (upd H2 p (.tup [.int 1, .int 1])) fd (.lst (ys ++ [.ref p]))) := sp.tk.trans (TK.lst hf3)
        have et : (due z m).take (i + 1) = (due z m).take i ++ [if decide (i ∈ L) = true then lowP (sz z i * w) (sumL z L) else (1, 1)] := by
          rw [List.take_add_one]
          congr 1
          rw [hDue, List.getElem?_map, List.getElem?_range hi]
          rfl
        have pt : PT K (upd (upd H2 p (.tup [.int 1, .int 1])) fd (.lst (ys ++ [.ref p]))) p (1, 1) := .inl (TK.lst hf3 _ _ upd_same)
        have hfd5 : (upd (upd H2 p (.tup [.int 1, .int 1])) fd (.lst (ys ++ [.ref p]))) fd = some (.lst (ys ++ [.ref p])) := upd_same
        generalize upd (upd H2 p (.tup [.int 1, .int 1])) fd (.lst (ys ++ [.ref p])) = H5 at hs5 t5 tk5 pt hfd5
        refine .inl ⟨sr, _, _, _, rfl, rfl, SqL.of hs5, sure_at0 L hi, ?_⟩
        refine ifB (fun c => ?_) (fun c => ?_)
        · have c' : i ∈ L := by simpa using c
          rw [if_pos (decide_eq_true c')] at et
          refine .inl ⟨l, _, _, _, rfl, rfl, SqL.of (t5 _ _ hl), at_sz0 hi, crB (by omega) (by omega), ⟨_, _, rfl, hS, ((show Bt 30 (sz z i) by unfold Bt; omega).mul (show Bt 5 w by unfold Bt; omega)).mono (by decide), hSb.mono (by decide), fun H6 p6 s6 e6 => ?_⟩⟩
          have hf6 := s6 _ _ hfd5
          refine ⟨fd, _, _, i, rfl, rfl, hf6, ?_, ?_⟩
          · unfold ixN
            rw [List.length_append, List.length_cons, List.length_nil, if_pos (by omega), if_pos (by omega)]
            simp
          · have eset : (ys ++ [V.ref p]).set i (.ref p6) = ys ++ [.ref p6] := by
              rw [← yl]
              simp
            rw [eset]
            refine ⟨_, _, hi, (t5.trans s6).put ffd, by rw [upd_ne nsf]; exact s6 _ _ hs5, upd_same, ?_, rfl⟩
            rw [et]
            exact AllF.snoc ⟨p6, rfl, .inl (TK.lst hf6 _ _ e6)⟩ (hA.tk ((tk5.trans s6.tk).trans (TK.lst hf6)))
        · have c' : i ∉ L := by simpa using c
          rw [if_neg (by simp [c'])] at et
          refine ⟨_, _, hi, t5, hs5, hfd5, ?_, rfl⟩
          rw [et]
          exact AllF.snoc ⟨p, rfl, pt⟩ (hA.tk tk5)
      · rintro σ H2 ⟨ys, x6, _, t1, hs2, hf2, hA, rfl⟩
        rw [List.take_of_length_le (by rw [due_len, List.length_map]; exact Nat.le_refl _)] at hA
        exact q _ fd ys t1 ffd hf2 hA
end
end My
set_option Elab.async false
set_option linter.all false
set_option maxRecDepth 100000
set_option maxHeartbeats 4000000
namespace My
open PySem L2 FrM
def Srt (ns kept : List Int) : Prop := ns.Perm kept ∧ ns.Pairwise (· ≤ ·)
def IsTold (a : Ad) (H : Hp) (v : V) (kept : List Int) : Prop := ∃ x dx t ns, v = .ref x ∧ H x = some (.ins a.c_Told dx [("rising", .ref t)]) ∧ H t = some (.tup (ns.map V.int)) ∧ Srt ns kept
def IsLam (H : Hp) (d : LamD) (fv : List Str) (v : V) (vals : List V) : Prop := ∃ f c clos, v = .ref f ∧ H f = some (.ext (LamX f d clos c)) ∧ H c = some (.ext (CodeX c d.qual)) ∧ clos.map (·.1) = fv ∧ (clos.map (·.2)).Nodup ∧ CellsAt H clos vals
theorem cells_t {H H' : Hp} (s : SameT H H') : ∀ {clos : List (Str × Addr)} {vals : List V}, CellsAt H clos vals → CellsAt H' clos vals
  | _, _, .nil => .nil
  | _, _, .cons r t => .cons (s.at r) (cells_t s t)
theorem IsLam.t {H H' : Hp} {d : LamD} {fv : List Str} {v : V} {vals : List V} (s : SameT H H') (h : IsLam H d fv v vals) : IsLam H' d fv v vals := by
  obtain ⟨f, c, clos, h1, h2, h3, h4, h5, h6⟩ := h
  exact ⟨f, c, clos, h1, s.at h2, s.at h3, h4, h5, cells_t s h6⟩
theorem IsTold.t {a : Ad} {H H' : Hp} {v : V} {kept : List Int} (s : SameT H H') (h : IsTold a H v kept) : IsTold a H' v kept := by
  obtain ⟨x, dx, t, ns, h1, h2, h3, h4⟩ := h
  exact ⟨x, dx, t, ns, h1, s.at h2, s.at h3, h4⟩
def LstI (H : Hp) (v : V) (ns : List Int) : Prop := ∃ l, v = .ref l ∧ H l = some (.lst (ns.map V.int))
theorem LstI.t {H H' : Hp} {v : V} {ns : List Int} (s : SameT H H') (h : LstI H v ns) : LstI H' v ns := by
  obtain ⟨l, h1, h2⟩ := h
  exact ⟨l, h1, s.at h2⟩
theorem IsF.t {K : PySem.W.Frag} {H H' : Hp} {f : Int × Int} {x : V} (s : SameT H H') (h : IsF K H f x) : IsF K H' f x := let ⟨p, e, q⟩ := h; ⟨p, e, q.imp (fun z => s.at z) id⟩
abbrev Tl := List (Int × (Int × Int))
abbrev fvS : List Str := ["step", "places", "first"]
abbrev fvA : List Str := ["taken", "rest", "place"]
abbrev fvB : List Str := ["taken", "rest"]
def PrAt (K : PySem.W.Frag) (H : Hp) (x : Int × (Int × Int)) (v : V) : Prop := ∃ q y, v = .ref q ∧ H q = some (.tup [.int x.1, y]) ∧ IsF K H x.2 y
theorem PrAt.t {K : PySem.W.Frag} {H H' : Hp} (s : SameT H H') (x : Int × (Int × Int)) (v : V) (h : PrAt K H x v) : PrAt K H' x v := let ⟨q, y, h1, h2, h3⟩ := h; ⟨q, y, h1, s.at h2, h3.t s⟩
theorem paired_imp {α β : Type} {r r' : α → β → Prop} (h : ∀ a b, r a b → r' a b) : ∀ {as : List α} {bs : List β}, Paired r as bs → Paired r' as bs
  | _, _, .nil => .nil
  | _, _, .cons x t => .cons (h _ _ x) (paired_imp h t)
theorem paired_snoc {α β : Type} {r : α → β → Prop} {a : α} {b : β} (h : r a b) : ∀ {as : List α} {bs : List β}, Paired r as bs → Paired r (as ++ [a]) (bs ++ [b])
  | _, _, .nil => .cons h .nil
  | _, _, .cons x t => .cons x (paired_snoc h t)
theorem paired_get {α β : Type} {r : α → β → Prop} : ∀ {as : List α} {bs : List β} {i : Nat} {y : β}, Paired r as bs → bs[i]? = some y → ∃ x, as[i]? = some x ∧ r x y
  | _, _, _, _, .nil, h => by cases h
  | _, _, 0, _, .cons r _, h => ⟨_, rfl, by cases h; exact r⟩
  | _, _, i + 1, _, .cons _ t, h => paired_get (i := i) t h
theorem paired_app {α β : Type} {r : α → β → Prop} {cs : List α} {ds : List β} (h2 : Paired r cs ds) : ∀ {as : List α} {bs : List β}, Paired r as bs → Paired r (as ++ cs) (bs ++ ds)
  | _, _, .nil => h2
  | _, _, .cons x t => .cons x (paired_app h2 t)
theorem notL {H : Hp} {b q : Addr} {o o' : HO} {zs : List V} (hq : H q = some (.lst zs)) (h : H b = some o) (n : ∀ ys, o ≠ .lst ys) : (upd H q o') b = some o := by
  rw [upd_ne (fun z => by rw [z, hq] at h; exact n zs (Option.some.inj h).symm)]; exact h
theorem cells_put {H : Hp} {q : Addr} {zs : List V} {o' : HO} (hq : H q = some (.lst zs)) : ∀ {clos : List (Str × Addr)} {vals : List V}, CellsAt H clos vals → CellsAt (upd H q o') clos vals
  | _, _, .nil => .nil
  | _, _, .cons r t => .cons (notL hq r (fun ys z => nomatch z)) (cells_put hq t)
theorem IsLam.put {H : Hp} {d : LamD} {fv : List Str} {v : V} {vals : List V} {q : Addr} {zs : List V} {o' : HO} (hq : H q = some (.lst zs)) (h : IsLam H d fv v vals) : IsLam (upd H q o') d fv v vals := by
  obtain ⟨f, c, clos, h1, h2, h3, h4, h5, h6⟩ := h
  exact ⟨f, c, clos, h1, notL hq h2 (fun ys z => nomatch z), notL hq h3 (fun ys z => nomatch z), h4, h5, cells_put hq h6⟩
inductive Nd where
  | told (kept : List Int)
  | start (places : List Int) (step : Nat)
  | loose (ahead : Tl) (taken : List Int)
def every (places : List Int) (first step : Nat) : List Int := ((List.range places.length).filter fun k => decide (k % step = first)).filterMap (places[·]?)
def Nd.tell : Nd → Option (List Int)
  | .told k => some k
  | .start _ _ => none
  | .loose [] t => some t
  | .loose (_ :: _) _ => none
def Nd.parts : Nd → List (Int × Nd)
  | .told _ => []
  | .start ps st => (List.range st).map fun f => (1, .told (every ps f st))
  | .loose [] _ => []
  | .loose ((p, c) :: r) t => [(c.1, .loose r (t ++ [p])), (c.2 - c.1, .loose r t)]
def WfL (ahead : Tl) (taken : List Int) : Prop := ahead.length + taken.length ≤ 24 ∧ ∀ x ∈ ahead, uns x.2 = true
def IsMk (K : PySem.W.Frag) (N : Addr → Prop) (H : Hp) (f : V) (S : Nd) : Prop :=
  (∃ lp ps st fi, IsLam H ld_start_make_1 fvS f [.int (st : Nat), .ref lp, .int (fi : Nat)] ∧ N lp ∧ H lp = some (.lst (ps.map V.int)) ∧ ps.length ≤ 24 ∧ fi < st ∧ S = .told (every ps fi st)) ∨
  (∃ lt lr p rest taken xs, IsLam H ld_loose_node_1 fvA f [.ref lt, .ref lr, .int p] ∧ N lt ∧ N lr ∧ H lt = some (.lst (taken.map V.int)) ∧ H lr = some (.lst xs) ∧ Paired (PrAt K H) rest xs ∧ WfL rest (taken ++ [p]) ∧ S = .loose rest (taken ++ [p])) ∨
  (∃ lt lr rest taken xs, IsLam H ld_loose_node_2 fvB f [.ref lt, .ref lr] ∧ N lt ∧ N lr ∧ H lt = some (.lst (taken.map V.int)) ∧ H lr = some (.lst xs) ∧ Paired (PrAt K H) rest xs ∧ WfL rest taken ∧ S = .loose rest taken)
theorem IsMk.t {K : PySem.W.Frag} {N : Addr → Prop} {H H' : Hp} {f : V} {S : Nd} (s : SameT H H') (h : IsMk K N H f S) : IsMk K N H' f S := by
  rcases h with ⟨lp, ps, st, fi, h1, h2, h3, r⟩ | ⟨lt, lr, p, rest, taken, xs, h1, h2, h3, h4, h5, h6, r⟩ | ⟨lt, lr, rest, taken, xs, h1, h2, h3, h4, h5, h6, r⟩
  · exact .inl ⟨lp, ps, st, fi, h1.t s, h2, s.at h3, r⟩
  · exact .inr (.inl ⟨lt, lr, p, rest, taken, xs, h1.t s, h2, h3, s.at h4, s.at h5, paired_imp (PrAt.t s) h6, r⟩)
  · exact .inr (.inr ⟨lt, lr, rest, taken, xs, h1.t s, h2, h3, s.at h4, s.at h5, paired_imp (PrAt.t s) h6, r⟩)
theorem IsMk.w {K : PySem.W.Frag} {N : Addr → Prop} {H : Hp} {f : V} {S : Nd} (h : IsMk K N H f S) : IsMk K (fun _ => True) H f S := by
  rcases h with ⟨lp, ps, st, fi, h1, h2, h3, r⟩ | ⟨lt, lr, p, rest, taken, xs, h1, h2, h3, r⟩ | ⟨lt, lr, rest, taken, xs, h1, h2, h3, r⟩
  · exact .inl ⟨lp, ps, st, fi, h1, trivial, h3, r⟩
  · exact .inr (.inl ⟨lt, lr, p, rest, taken, xs, h1, trivial, trivial, r⟩)
  · exact .inr (.inr ⟨lt, lr, rest, taken, xs, h1, trivial, trivial, r⟩)
theorem PrAt.put {K : PySem.W.Frag} {H : Hp} {q : Addr} {zs : List V} {o' : HO} (hq : H q = some (.lst zs)) (x : Int × (Int × Int)) (v : V) (h : PrAt K H x v) : PrAt K (upd H q o') x v := by
  obtain ⟨p, y, h1, h2, p2, h3, h4⟩ := h
  exact ⟨p, y, h1, notL hq h2 (fun ys z => nomatch z), p2, h3, h4.imp (fun e => notL hq e (fun ys z => nomatch z)) id⟩
theorem IsMk.put {K : PySem.W.Frag} {N : Addr → Prop} {H : Hp} {f : V} {S : Nd} {q : Addr} {zs : List V} {o' : HO} (hq : H q = some (.lst zs)) (n : ¬ N q) (h : IsMk K N H f S) : IsMk K N (upd H q o') f S := by
  have ne : ∀ {b : Addr} {o : HO}, N b → H b = some o → (upd H q o') b = some o := fun {b o} hb e => by rw [upd_ne (show b ≠ q from fun z => n (z ▸ hb))]; exact e
  rcases h with ⟨lp, ps, st, fi, h1, h2, h3, r⟩ | ⟨lt, lr, p, rest, taken, xs, h1, h2, h3, h4, h5, h6, r⟩ | ⟨lt, lr, rest, taken, xs, h1, h2, h3, h4, h5, h6, r⟩
  · exact .inl ⟨lp, ps, st, fi, h1.put hq, h2, ne h2 h3, r⟩
  · exact .inr (.inl ⟨lt, lr, p, rest, taken, xs, h1.put hq, h2, h3, ne h2 h4, ne h3 h5, paired_imp (PrAt.put hq) h6, r⟩)
  · exact .inr (.inr ⟨lt, lr, rest, taken, xs, h1.put hq, h2, h3, ne h2 h4, ne h3 h5, paired_imp (PrAt.put hq) h6, r⟩)
def RowM (K : PySem.W.Frag) (N : Addr → Prop) (H : Hp) (r : Int × Nd) (y : V) : Prop := ∃ q f, y = .ref q ∧ H q = some (.tup [.int r.1, f]) ∧ IsMk K N H f r.2
theorem RowM.t {K : PySem.W.Frag} {N : Addr → Prop} {H H' : Hp} (s : SameT H H') (r : Int × Nd) (y : V) (h : RowM K N H r y) : RowM K N H' r y := let ⟨q, f, h1, h2, h3⟩ := h; ⟨q, f, h1, s.at h2, h3.t s⟩
theorem RowM.w {K : PySem.W.Frag} {N : Addr → Prop} {H : Hp} (r : Int × Nd) (y : V) (h : RowM K N H r y) : RowM K (fun _ => True) H r y := let ⟨q, f, h1, h2, h3⟩ := h; ⟨q, f, h1, h2, h3.w⟩
theorem RowM.put {K : PySem.W.Frag} {N : Addr → Prop} {H : Hp} {q : Addr} {zs : List V} {o' : HO} (hq : H q = some (.lst zs)) (n : ¬ N q) (r : Int × Nd) (y : V) (h : RowM K N H r y) : RowM K N (upd H q o') r y := let ⟨p, f, h1, h2, h3⟩ := h; ⟨p, f, h1, notL hq h2 (fun ys z => nomatch z), h3.put hq n⟩
def IsDie (K : PySem.W.Frag) (N : Addr → Prop) (a : Ad) (H : Hp) (v : V) (ps : List (Int × Nd)) : Prop := ∃ x dx l ys, v = .ref x ∧ H x = some (.ins a.c_Die dx [("makes", .ref l)]) ∧ N l ∧ H l = some (.lst ys) ∧ Paired (RowM K N H) ps ys
def IsNode (K : PySem.W.Frag) (N : Addr → Prop) (a : Ad) (H : Hp) (v : V) (S : Nd) : Prop := (∃ k, S.tell = some k ∧ IsTold a H v k) ∨ (S.tell = none ∧ IsDie K N a H v S.parts)
theorem IsDie.t {K : PySem.W.Frag} {N : Addr → Prop} {a : Ad} {H H' : Hp} {v : V} {ps : List (Int × Nd)} (s : SameT H H') (h : IsDie K N a H v ps) : IsDie K N a H' v ps := let ⟨x, dx, l, ys, h1, h2, h3, h4, h5⟩ := h; ⟨x, dx, l, ys, h1, s.at h2, h3, s.at h4, paired_imp (RowM.t s) h5⟩
theorem IsNode.t {K : PySem.W.Frag} {N : Addr → Prop} {a : Ad} {H H' : Hp} {v : V} {S : Nd} (s : SameT H H') (h : IsNode K N a H v S) : IsNode K N a H' v S := h.imp (fun ⟨k, e, z⟩ => ⟨k, e, z.t s⟩) fun ⟨e, z⟩ => ⟨e, z.t s⟩
theorem IsNode.w {K : PySem.W.Frag} {N : Addr → Prop} {a : Ad} {H : Hp} {v : V} {S : Nd} (h : IsNode K N a H v S) : IsNode K (fun _ => True) a H v S := h.imp id fun ⟨e, x, dx, l, ys, h1, h2, h3, h4, h5⟩ => ⟨e, x, dx, l, ys, h1, h2, trivial, h4, paired_imp RowM.w h5⟩
theorem IsNode.put {K : PySem.W.Frag} {N : Addr → Prop} {a : Ad} {H : Hp} {v : V} {S : Nd} {q : Addr} {zs : List V} {o' : HO} (hq : H q = some (.lst zs)) (n : ¬ N q) (h : IsNode K N a H v S) : IsNode K N a (upd H q o') v S :=
  h.imp (fun ⟨k, e, x', dx, t, ns, h1, h2, h3, h4⟩ => ⟨k, e, x', dx, t, ns, h1, notL hq h2 (fun ys z => nomatch z), notL hq h3 (fun ys z => nomatch z), h4⟩)
    fun ⟨e, x, dx, l, ys, h1, h2, h3, h4, h5⟩ => ⟨e, x, dx, l, ys, h1, notL hq h2 (fun ys z => nomatch z), h3, by rw [upd_ne (show l ≠ q from fun z => n (z ▸ h3))]; exact h4, paired_imp (RowM.put hq n) h5⟩
def spToldI (a : Ad) : Sp := fun vs H Q _ => ∃ (x dx l : Addr) (ns : List Int), vs = [.ref x, .ref l] ∧ H x = some (.ins a.c_Told dx []) ∧ H l = some (.lst (ns.map V.int)) ∧ ns.length < 64 ∧
  ∀ H' t ns', (∀ b o, b ≠ x → H b = some o → H' b = some o) → H' x = some (.ins a.c_Told dx [("rising", .ref t)]) → H' t = some (.tup (ns'.map V.int)) → Srt ns' ns → Q .non H'
def spDieI (a : Ad) : Sp := fun vs H Q _ => ∃ (x dx l : Addr) (xs : List V), vs = [.ref x, .ref l] ∧ H x = some (.ins a.c_Die dx []) ∧ H l = some (.lst xs) ∧
  ∀ H' t, H t = none → (∀ b o, b ≠ x → H b = some o → H' b = some o) → H' x = some (.ins a.c_Die dx [("makes", .ref t)]) → H' t = some (.lst xs) → Q .non H'
def spSM (a : Ad) : Sp := fun vs H Q _ => ∃ (lp : Addr) (st fi : Nat), vs = [.ref lp, .int (st : Nat), .int (fi : Nat)] ∧ TabsOk (tabs a) H ∧ ∀ H' f, SameT H H' → TabsOk (tabs a) H' → IsLam H' ld_start_make_1 fvS f [.int (st : Nat), .ref lp, .int (fi : Nat)] → Q f H'
def spLN (K : PySem.W.Frag) (a : Ad) : Sp := fun vs H Q _ => ∃ (N : Addr → Prop) (la lt : Addr) (ahead : Tl) (taken : List Int) (xs : List V), vs = [.ref la, .ref lt] ∧ (∀ b, H b = none → N b) ∧ N lt ∧ H la = some (.lst xs) ∧ Paired (PrAt K H) ahead xs ∧ H lt = some (.lst (taken.map V.int)) ∧ WfL ahead taken ∧ TabsOk (tabs a) H ∧
  ∀ H' v, SameT H H' → TabsOk (tabs a) H' → IsNode K N a H' v (.loose ahead taken) → Q v H'
section
variable {P : Program} {w : World} {K : PySem.W.Frag} {mg : Str → Option Value} {base : Heap} {a : Ad}
theorem oi_Told (T : Txt K mg a) : FnOk P w K mg base CX0 1 a.i_Told a.e_Told ["self", "kept"] (spToldI a) := by
  refine T.Fi_Told.ok sc_Told___init__ (fun vs H Q E h => ?_) (fun cdv A outer s H vs Q E hr h => ?_)
  · obtain ⟨x, dx, l, ns, rfl, _⟩ := h; rfl
  · obtain ⟨x, dx, l, ns, rfl, hx, hl, hn, q⟩ := h
    refine ⟨_, (pss_one (ps_fld (vr 0) (pe_callTy call_tuple_of rfl T.z_tuple bt_tuple (pa_cons (pe_callB call_sortedI rfl T.z_sorted bt_sorted (pa_cons (vr 1) pa_nil)) pa_nil)) rfl)), ?_⟩
    refine ⟨l, ns, rfl, SqL.of hl, hn, fun p ns' hp hs fp => ?_⟩
    have s1 := Same.new (o := .lst (ns'.map V.int)) fp
    refine ⟨p, _, rfl, .inl ⟨SqL.of upd_same, fun t ft => ?_⟩⟩
    have s2 := Same.new (o := .tup (ns'.map V.int)) ft
    have s12 := s1.trans s2
    have nt : t ≠ x := fun z => by rw [z, s1 _ _ hx] at ft; cases ft
    refine ⟨x, a.c_Told, dx, [], rfl, s12 _ _ hx, T.cl_Told, T.na_Told_rising, (by decide), ?_⟩
    exact q _ t ns' (fun b o n e => by rw [upd_ne n]; exact s12 _ _ e) upd_same (by rw [upd_ne nt]; exact upd_same) ⟨hp, hs⟩
theorem oi_Die (T : Txt K mg a) : FnOk P w K mg base CX0 1 a.i_Die a.e_Die ["self", "parts"] (spDieI a) := by
  refine T.Fi_Die.ok sc_Die___init__ (fun vs H Q E h => ?_) (fun cdv A outer s H vs Q E hr h => ?_)
  · obtain ⟨x, dx, l, xs, rfl, _⟩ := h; rfl
  · obtain ⟨x, dx, l, xs, rfl, hx, hl, q⟩ := h
    refine ⟨_, (pss_one (ps_fld (vr 0) (pe_callTy call_list_of rfl T.z_list bt_list (pa_cons (vr 1) pa_nil)) rfl)), ?_⟩
    refine ⟨l, xs, rfl, .inl (SqL.of hl), fun t ft => ?_⟩
    have s1 := Same.new (o := .lst xs) ft
    have nt : t ≠ x := fun z => by rw [z, hx] at ft; cases ft
    refine ⟨x, a.c_Die, dx, [], rfl, s1 _ _ hx, T.cl_Die, T.na_Die_makes, (by decide), ?_⟩
    exact q _ t ft (fun b o n e => by rw [upd_ne n]; exact s1 _ _ e) upd_same (by rw [upd_ne nt]; exact upd_same)
theorem made {H1 H' : Hp} {x dx : Addr} {o1 o2 : HO} (hx : H1 x = none) (hd : H1 dx = none) (k : ∀ b o, b ≠ x → (upd (upd H1 dx o1) x o2) b = some o → H' b = some o) : Same H1 H' := fun b o e => by
  refine k b o (ne_of_none e hx) ?_
  rw [upd_ne (ne_of_none e hx), upd_ne (ne_of_none e hd)]
  exact e
theorem ok_sm (T : Txt K mg a) (hB : Bm mg base) : FnOk P w K mg base CX0 1 a.f_start_make a.d_start_make ["places", "step", "first"] (spSM a) := by
  refine T.F_start_make.okL T.lcd_start_make sc_start_make (by decide +kernel) (fun vs H Q E h => ?_) (fun A outer s H vs Q E hr h => ?_)
  · obtain ⟨lp, st, fi, rfl, _⟩ := h; rfl
  · obtain ⟨lp, st, fi, rfl, hT, q⟩ := h
    refine ⟨_, (pr_ret (pe_lam (d := ld_start_make_1) rfl T.lch_start_make hB rfl (by with_unfolding_all rfl) rfl (tb_start_make a) (.head _) T.tnd tp_start_make)), ?_⟩
    refine ⟨hT, fun f1 c1 H2 t2 hT2 n1 ef1 ec1 => ?_⟩
    intro H3 s3 hc
    have cP := hc 0 _ _ _ rfl rfl (by with_unfolding_all rfl)
    have cS := hc 1 _ _ _ rfl rfl (by with_unfolding_all rfl)
    have cF := hc 2 _ _ _ rfl rfl (by with_unfolding_all rfl)
    exact q _ _ (t2.trans s3.t) (hT2.same s3) ⟨f1, c1, _, rfl, s3 _ _ ef1, s3 _ _ ec1, rfl, by simp, .cons cS (.cons cP (.cons cF .nil))⟩
theorem ok_ln (T : Txt K mg a) (hB : Bm mg base) : FnOk P w K mg base CX0 3 a.f_loose_node a.d_loose_node ["ahead", "taken"] (spLN K a) := by
  have G_Told : FnOk P w K mg base CX0 1 _ _ _ (spToldI a) := oi_Told T
  have G_Die : FnOk P w K mg base CX0 1 _ _ _ (spDieI a) := oi_Die T
  refine T.F_loose_node.okL T.lcd_loose_node sc_loose_node (by decide +kernel) (fun vs H Q E h => ?_) (fun A outer s H vs Q E hr h => ?_)
  · obtain ⟨N, la, lt, ahead, taken, xs, rfl, _⟩ := h; rfl
  · obtain ⟨N, la, lt, ahead, taken, xs, rfl, hN, nT, ha, hP, ht, hwf, hT, q⟩ := h
    have small : sizeLine = 16777216 := sizeLine_eq
    refine ⟨_, (pr_cons (ps_if (pt_not (pt_truth (vr 0) (fun _ => rfl))) (pss_one (ps_ret (pe_make T.mk_Told G_Told hr rfl T.mc_Told T.Bi_Told .nil pass0 (pa_cons (vr 1) pa_nil)))) pss_nil) (pr_cons (ps_asg (pe_ix ix_seq (vr 0) pe_int (fun _ _ => rfl)) (pg_tup rfl (pgs_cons (pg_name (i := 2) sc_loose_node.nd rfl (Or.inr rfl)) (pgs_cons (pg_name (i := 3) sc_loose_node.nd rfl (Or.inl rfl)) pgs_nil)))) (pr_cons (ps_set (i := 4) sc_loose_node.nd rfl (Or.inr rfl) (pe_slice sl_any (vr 0) (po_some pe_int) po_none)) (pr_ret (pe_make T.mk_Die G_Die hr rfl T.mc_Die T.Bi_Die .nil pass0 (pa_cons (pe_lst (pa_cons (pe_tup (pa_cons (pe_ix ix_seq (vr 3) pe_int (fun _ _ => rfl)) (pa_cons (pe_lam (d := ld_loose_node_1) rfl T.lch_loose_node hB rfl (by with_unfolding_all rfl) rfl (tb_loose_node a) (.head _) T.tnd tp_loose_node) pa_nil))) (pa_cons (pe_tup (pa_cons (pe_op o_sub (pe_ix ix_seq (vr 3) pe_int (fun _ _ => rfl)) (pe_ix ix_seq (vr 3) pe_int (fun _ _ => rfl))) (pa_cons (pe_lam (d := ld_loose_node_2) rfl T.lch_loose_node hB rfl (by with_unfolding_all rfl) rfl (tb_loose_node a) (.tail _ (.head _)) T.tnd tp_loose_node) pa_nil))) pa_nil))) pa_nil)))))), ?_⟩
    cases hP with
    | nil =>
      refine ⟨_, .inl ⟨_, SqL.of ha, rfl⟩, ?_⟩
      intro x dx hx hdx hne
      have s0 : Same H (upd (upd H dx (.own x)) x (.ins a.c_Told dx [])) := fun b o e => by rw [upd_ne (ne_of_none e hx), upd_ne (ne_of_none e hdx)]; exact e
      have := hwf.1
      refine ⟨x, dx, lt, taken, rfl, upd_same, s0 _ _ ht, by simp at this; omega, fun H' t ns' k h1 h2 h3 => ⟨rfl, ?_⟩⟩
      have sm := made hx hdx k
      exact q _ _ sm.t (hT.same sm) (.inl ⟨_, rfl, x, dx, t, ns', rfl, h1, h2, h3⟩)
    | @cons r1 v1 rest xs1 g1 hP1 =>
      obtain ⟨p, c⟩ := r1
      obtain ⟨q0, y, rfl, hq0, hc⟩ := g1
      refine ⟨_, .inl ⟨_, SqL.of ha, rfl⟩, ?_⟩
      refine .inl ⟨la, _, _, _, rfl, rfl, SqL.of ha, atI_cons 0 rfl rfl, q0, _, rfl, SqT.of hq0, rfl, _, _, rfl, _, _, rfl, rfl, ?_⟩
      refine ⟨_, rfl, .inl ⟨_, SqL.of ha, fun lr fr => ?_⟩⟩
      have er : cutV (.ref q0 :: xs1) (some 1) none = xs1 := cutV_drop _ 1
      rw [er]
      have s1 := Same.new (o := .lst xs1) fr
      have hlr : (upd H lr (.lst xs1)) lr = some (.lst xs1) := upd_same
      generalize upd H lr (.lst xs1) = H1 at s1 hlr
      obtain ⟨pc, rfl, hpc⟩ := id hc
      have pcat : ∀ {H' : Hp}, SameT H H' → PT K H' pc c := fun s => by obtain ⟨_, z, h⟩ := hc.t s; cases z; exact h
      refine px0 (pcat s1.t).sq ?_
      refine ⟨hT.same s1, fun f1 c1 H2 t2 hT2 n1 ef1 ec1 => ?_⟩
      refine ⟨(by decide : 2 ≤ sizeLine), fun p1 hp1 => ?_⟩
      have s3 := Same.new (o := .tup [.int c.1, .ref f1]) hp1
      have ep1 : (upd H2 p1 (.tup [.int c.1, .ref f1])) p1 = some (.tup [.int c.1, .ref f1]) := upd_same
      generalize upd H2 p1 (.tup [.int c.1, .ref f1]) = H3 at s3 ep1
      have t3 := s1.t.trans (t2.trans s3.t)
      refine px1 (pcat t3).sq (px0 (pcat t3).sq ?_)
      refine ⟨hT2.same s3, fun f2 c2 H4 t4 hT4 n2 ef2 ec2 => ?_⟩
      refine ⟨(by decide : 2 ≤ sizeLine), fun p2 hp2 => ?_⟩
      have s5 := Same.new (o := .tup [.int (c.2 - c.1), .ref f2]) hp2
      have ep2 : (upd H4 p2 (.tup [.int (c.2 - c.1), .ref f2])) p2 = some (.tup [.int (c.2 - c.1), .ref f2]) := upd_same
      generalize upd H4 p2 (.tup [.int (c.2 - c.1), .ref f2]) = H5 at s5 ep2
      refine ⟨(by decide : 2 ≤ sizeLine), fun l0 hl0 => ?_⟩
      have s6 := Same.new (o := .lst [.ref p1, .ref p2]) hl0
      have el0 : (upd H5 l0 (.lst [.ref p1, .ref p2])) l0 = some (.lst [.ref p1, .ref p2]) := upd_same
      generalize upd H5 l0 (.lst [.ref p1, .ref p2]) = H6 at s6 el0
      intro x dx hx hdx hne
      have s0 : Same H6 (upd (upd H6 dx (.own x)) x (.ins a.c_Die dx [])) := fun b o e => by rw [upd_ne (ne_of_none e hx), upd_ne (ne_of_none e hdx)]; exact e
      refine ⟨x, dx, l0, _, rfl, upd_same, s0 _ _ el0, fun H7 l gl k g1 g2 => ⟨rfl, fun H8 s8 hc' => ?_⟩⟩
      have s7 := made hx hdx k
      have s68 := s7.trans s8
      have s58 := s6.trans s68
      have t48 := s5.trans s58
      have t38 := t4.trans t48.t
      have t28 := s3.t.trans t38
      have t18 := t2.trans t28
      have t08 := s1.t.trans t18
      have cT := hc' 1 _ _ _ rfl rfl (by with_unfolding_all rfl)
      have cP := hc' 2 _ _ _ rfl rfl (by with_unfolding_all rfl)
      have cR := hc' 4 _ _ _ rfl rfl (by with_unfolding_all rfl)
      have nl : N l := hN _ ((s1.t.trans (t2.trans (s3.t.trans (t4.trans (s5.trans s6).t)))).free (s0.free gl))
      have hw1 := hwf.1
      have hw2 := hwf.2
      have P8 := paired_imp (PrAt.t t08) hP1
      refine q _ _ t08 (hT4.same t48) (.inr ⟨rfl, x, dx, l, _, rfl, s8 _ _ g1, nl, s8 _ _ g2, .cons ⟨p1, .ref f1, rfl, t38.at ep1, .inr (.inl ⟨lt, lr, p, rest, taken, xs1, ?_, nT, hN _ fr, t08.at ht, t18.at hlr, P8, ⟨?_, fun z hz => hw2 z (List.mem_cons_of_mem _ hz)⟩, rfl⟩)⟩ (.cons ⟨p2, .ref f2, rfl, s58 _ _ ep2, .inr (.inr ⟨lt, lr, rest, taken, xs1, ?_, nT, hN _ fr, t08.at ht, t18.at hlr, P8, ⟨?_, fun z hz => hw2 z (List.mem_cons_of_mem _ hz)⟩, rfl⟩)⟩ .nil)⟩)
      · exact ⟨f1, c1, _, rfl, t28.at ef1, t28.at ec1, rfl, by simp, .cons cT (.cons cR (.cons cP .nil))⟩
      · rw [List.length_append, List.length_singleton]; rw [List.length_cons] at hw1; omega
      · exact ⟨f2, c2, _, rfl, t48 _ _ ef2, t48 _ _ ec2, rfl, by simp, .cons cT (.cons cR .nil)⟩
      · rw [List.length_cons] at hw1; omega
end
end My
set_option Elab.async false
set_option linter.all false
set_option maxRecDepth 100000
set_option maxHeartbeats 4000000
namespace My
open PySem L2 FrM
theorem TabsOk.untrs {tabs : Tabs} {H : Hp} {clos : List (Str × Addr)} {vals : List V} (hT : TabsOk tabs H) (ca : CellsAt H clos vals) : TabsOk tabs (untrs H (clos.map (·.2))) := fun q hq => by
  obtain ⟨ps, e1, e2, e3⟩ := hT q hq
  exact ⟨ps, untrs_of ca e1 (fun v z => nomatch z), e2, fun l hl => (e3 l hl).imp id fun ⟨c, x, y⟩ => ⟨c, x, untrs_of ca y fun v => code_ne_cell⟩⟩
theorem back {H H' H3 : Hp} {clos : List (Str × Addr)} (s : SameT (untrs H (clos.map (·.2))) H') (s3 : Same H' H3) (hc : ∀ p ∈ clos, H3 p.2 = H p.2) : SameT H H3 := fun b o e => by
  by_cases hb : b ∈ clos.map (·.2)
  · obtain ⟨p, hp, rfl⟩ := List.mem_map.mp hb
    rw [hc p hp, e]
    exact ⟨fun _ => rfl, o, rfl⟩
  · exact (s.trans s3.t) b o (by rw [untrs_out hb]; exact e)
theorem PrAt.un {K : PySem.W.Frag} {H : Hp} {clos : List (Str × Addr)} {vals : List V} (ca : CellsAt H clos vals) (x : Int × (Int × Int)) (v : V) (h : PrAt K H x v) : PrAt K (untrs H (clos.map (·.2))) x v := by
  obtain ⟨p, y, h1, h2, p2, h3, h4⟩ := h
  exact ⟨p, y, h1, untrs_of ca h2 (fun v z => nomatch z), p2, h3, h4.imp (fun e => untrs_of ca e (fun v z => nomatch z)) id⟩
def cnt (n a c : Nat) : Nat := (n - a + c - 1) / c
theorem cnt_le {n a c : Nat} (hc : 0 < c) (h : n ≤ a) : cnt n a c = 0 := by
  unfold cnt
  rw [show n - a = 0 by omega]
  exact Nat.div_eq_of_lt (by omega)
theorem div_of {x c k : Nat} (hc : 0 < c) (h1 : c * k ≤ x) (h2 : x < c * k + c) : x / c = k := by
  rw [Nat.div_eq_iff hc]
  rw [Nat.mul_comm k c]
  omega
theorem cnt_hit {n a c : Nat} (hc : 0 < c) (ha : a < c) (h : n % c = a) : cnt (n + 1) a c = cnt n a c + 1 ∧ n = a + c * cnt n a c := by
  have e := Nat.div_add_mod n c
  rw [h] at e
  have k1 : cnt n a c = n / c := by
    unfold cnt
    exact div_of hc (by omega) (by omega)
  have k2 : cnt (n + 1) a c = n / c + 1 := by
    unfold cnt
    refine div_of hc ?_ ?_ <;> rw [Nat.mul_add] <;> omega
  rw [k2, k1]
  omega
theorem cnt_miss {n a c : Nat} (hc : 0 < c) (ha : a < c) (h : n % c ≠ a) : cnt (n + 1) a c = cnt n a c := by
  have e := Nat.div_add_mod n c
  have l := Nat.mod_lt n hc
  rcases Nat.lt_or_ge a (n % c) with g | g
  · have k1 : cnt n a c = n / c + 1 := by
      unfold cnt
      refine div_of hc ?_ ?_ <;> rw [Nat.mul_add] <;> omega
    have k2 : cnt (n + 1) a c = n / c + 1 := by
      unfold cnt
      refine div_of hc ?_ ?_ <;> rw [Nat.mul_add] <;> omega
    rw [k1, k2]
  · by_cases z : n / c = 0
    · rw [z, Nat.mul_zero] at e
      rw [cnt_le hc (show n + 1 ≤ a by omega), cnt_le hc (show n ≤ a by omega)]
    · obtain ⟨m, hm⟩ : ∃ m, n / c = m + 1 := Nat.exists_eq_succ_of_ne_zero z
      rw [hm, Nat.mul_add] at e
      have k1 : cnt n a c = m + 1 := by
        unfold cnt
        refine div_of hc ?_ ?_ <;> rw [Nat.mul_add] <;> omega
      have k2 : cnt (n + 1) a c = m + 1 := by
        unfold cnt
        refine div_of hc ?_ ?_ <;> rw [Nat.mul_add] <;> omega
      rw [k1, k2]
theorem range_every {a c : Nat} (hc : 0 < c) (ha : a < c) : ∀ n, (List.range n).filter (fun k => decide (k % c = a)) = (List.range (cnt n a c)).map fun k => a + c * k
  | 0 => by rw [cnt_le hc (Nat.zero_le _)]; rfl
  | n + 1 => by
    rw [List.range_succ, List.filter_append, range_every hc ha n]
    by_cases h : n % c = a
    · obtain ⟨h1, h2⟩ := cnt_hit hc ha h
      rw [h1, List.range_succ, List.map_append]
      congr 1
      simp [h]
      exact h2
    · rw [cnt_miss hc ha h]
      simp [h]
theorem slice_every {n a c : Nat} (hc : 0 < c) (ha : a < c) : sliceRange (sliceBounds (some (a : Int)) none (some (c : Int)) n).1 (sliceBounds (some (a : Int)) none (some (c : Int)) n).2.1 (sliceBounds (some (a : Int)) none (some (c : Int)) n).2.2 = (List.range n).filter fun k => decide (k % c = a) := by
  rw [range_every hc ha n]
  have cp : (c : Int) > 0 := by omega
  have e1 : (sliceBounds (some (a : Int)) none (some (c : Int)) n).1 = ((min a n : Nat) : Int) := by
    unfold sliceBounds
    simp only [Option.getD_some, cp, if_true]
    rw [if_neg (by omega)]
    omega
  have e2 : (sliceBounds (some (a : Int)) none (some (c : Int)) n).2.1 = (n : Int) := by
    unfold sliceBounds
    simp only [Option.getD_some, cp, if_true]
  have e3 : (sliceBounds (some (a : Int)) none (some (c : Int)) n).2.2 = (c : Int) := rfl
  rw [e1, e2, e3]
  unfold sliceRange
  simp only [cp, if_true]
  by_cases h : a < n
  · rw [if_pos (by omega), show min a n = a by omega]
    have : (((n : Int) - (a : Int) + (c : Int) - 1) / (c : Int)).toNat = cnt n a c := by
      unfold cnt
      rw [show (n : Int) - (a : Int) + (c : Int) - 1 = ((n - a + c - 1 : Nat) : Int) by omega, ← Int.natCast_ediv, Int.toNat_natCast]
    rw [this]
    refine List.map_congr_left fun k _ => ?_
    rw [show (a : Int) + (c : Int) * (k : Int) = ((a + c * k : Nat) : Int) by push_cast; rfl, Int.toNat_natCast]
  · rw [if_neg (by omega), cnt_le hc (by omega)]
    rfl
theorem step_every {ps : List Int} {a c : Nat} (hc : 0 < c) (ha : a < c) : stepV (ps.map V.int) (some (a : Int)) (c : Int) = (every ps a c).map V.int := by
  unfold stepV every
  rw [List.length_map, slice_every hc ha, List.map_filterMap]
  congr 1
  funext k
  rw [List.getElem?_map]
theorem every_len (ps : List Int) (a c : Nat) : (every ps a c).length ≤ ps.length := by
  unfold every
  refine Nat.le_trans (List.length_filterMap_le _ _) (Nat.le_trans (List.length_filter_le _ _) ?_)
  rw [List.length_range]
  exact Nat.le_refl _
def spLS (a : Ad) : List V → Sp := fun vals vs H Q _ => ∃ (lp : Addr) (ps : List Int) (st fi : Nat), vals = [.int (st : Nat), .ref lp, .int (fi : Nat)] ∧ vs = [] ∧ H lp = some (.lst (ps.map V.int)) ∧ ps.length ≤ 24 ∧ fi < st ∧ TabsOk (tabs a) H ∧
  ∀ H' v, SameT H H' → TabsOk (tabs a) H' → IsTold a H' v (every ps fi st) → Q v H'
def spLA (K : PySem.W.Frag) (a : Ad) : List V → Sp := fun vals vs H Q _ => ∃ (lt lr : Addr) (p : Int) (rest : Tl) (taken : List Int) (xs : List V), vals = [.ref lt, .ref lr, .int p] ∧ vs = [] ∧ H lt = some (.lst (taken.map V.int)) ∧ H lr = some (.lst xs) ∧ Paired (PrAt K H) rest xs ∧ WfL rest (taken ++ [p]) ∧ TabsOk (tabs a) H ∧
  ∀ H' v, SameT H H' → TabsOk (tabs a) H' → IsNode K (fun _ => True) a H' v (.loose rest (taken ++ [p])) → Q v H'
def spLB (K : PySem.W.Frag) (a : Ad) : List V → Sp := fun vals vs H Q _ => ∃ (lt lr : Addr) (rest : Tl) (taken : List Int) (xs : List V), vals = [.ref lt, .ref lr] ∧ vs = [] ∧ H lt = some (.lst (taken.map V.int)) ∧ H lr = some (.lst xs) ∧ Paired (PrAt K H) rest xs ∧ WfL rest taken ∧ TabsOk (tabs a) H ∧
  ∀ H' v, SameT H H' → TabsOk (tabs a) H' → IsNode K (fun _ => True) a H' v (.loose rest taken) → Q v H'
theorem lsS : LamScope ld_start_make_1 fvS [] := ⟨rfl, rfl, rfl, by decide +kernel, by decide +kernel, by decide +kernel, by decide +kernel, by decide +kernel⟩
theorem lsA : LamScope ld_loose_node_1 fvA [] := ⟨rfl, rfl, rfl, by decide +kernel, by decide +kernel, by decide +kernel, by decide +kernel, by decide +kernel⟩
theorem lsB : LamScope ld_loose_node_2 fvB [] := ⟨rfl, rfl, rfl, by decide +kernel, by decide +kernel, by decide +kernel, by decide +kernel, by decide +kernel⟩
def tot (ps : List (Int × Nd)) : Int := (ps.map (·.1)).sum
def pick : List (Int × Nd) → Int → Option Nd
  | [], _ => none
  | (m, t) :: r, k => if k < m then some t else pick r (k - m)
theorem pick_at : ∀ (ps : List (Int × Nd)) (k : Nat) (t m : Int) (u : Nd), (∀ p ∈ ps, 0 ≤ p.1) → ps[k]? = some (m, u) → tot (ps.take k) ≤ t → t < tot (ps.take (k + 1)) → pick ps t = some u
  | [], k, t, m, u, _, h, _, _ => by simp at h
  | (m0, u0) :: r, 0, t, m, u, hp, h, h0, h1 => by
    simp at h
    obtain ⟨rfl, rfl⟩ := h
    unfold pick
    rw [if_pos (by simpa [tot] using h1)]
  | (m0, u0) :: r, k + 1, t, m, u, hp, h, h0, h1 => by
    have e1 : tot (((m0, u0) :: r).take (k + 1)) = m0 + tot (r.take k) := by simp [tot]
    have e2 : tot (((m0, u0) :: r).take (k + 1 + 1)) = m0 + tot (r.take (k + 1)) := by simp [tot]
    have nn : ∀ (l : List (Int × Nd)), (∀ p ∈ l, 0 ≤ p.1) → 0 ≤ tot l := fun l => by
      induction l with
      | nil => intro _; simp [tot]
      | cons x l ih =>
        intro h
        have a := h x (List.mem_cons_self ..)
        have b := ih fun p hp => h p (List.mem_cons_of_mem _ hp)
        have : tot (x :: l) = x.1 + tot l := by simp [tot]
        omega
    have n1 := nn (r.take k) fun p h => hp p (List.mem_cons_of_mem _ (List.mem_of_mem_take h))
    unfold pick
    rw [if_neg (by omega)]
    exact pick_at r k (t - m0) m u (fun p h => hp p (List.mem_cons_of_mem _ h)) (by simpa using h) (by omega) (by omega)
theorem tot_succ {ps : List (Int × Nd)} {k : Nat} {m : Int} {u : Nd} (h : ps[k]? = some (m, u)) : tot (ps.take (k + 1)) = tot (ps.take k) + m := by
  rw [List.take_add_one, h]
  simp [tot]
def spIsW : Sp := fun vs H Q _ => ∃ (i lo hi : Int), vs = [.int i, .int lo, .int hi] ∧ Q (.bl (decide (lo ≤ i ∧ i ≤ hi))) H
def spV (u : V) : Sp := fun vs H Q _ => ∃ v, vs = [v] ∧ Q u H
def spTK (a : Ad) : Sp := fun vs H Q _ => ∃ x dx t, vs = [.ref x] ∧ H x = some (.ins a.c_Told dx [("rising", .ref t)]) ∧ Q (.ref t) H
def spTP : Sp := fun vs H Q _ => ∃ v, vs = [v] ∧ ∀ p, H p = none → Q (.ref p) (upd H p (.lst []))
def DieP (K : PySem.W.Frag) (a : Ad) (H : Hp) (v : V) (ps : List (Int × Nd)) : Prop := IsDie K (fun _ => True) a H v ps ∧ (∀ p ∈ ps, 1 ≤ p.1) ∧ 1 ≤ ps.length ∧ ps.length ≤ 100
theorem DieP.t {K : PySem.W.Frag} {a : Ad} {H H' : Hp} {v : V} {ps : List (Int × Nd)} (s : SameT H H') (h : DieP K a H v ps) : DieP K a H' v ps := ⟨h.1.t s, h.2⟩
def spDS (K : PySem.W.Frag) (a : Ad) : Sp := fun vs H Q _ => ∃ v ps, vs = [v] ∧ DieP K a H v ps ∧ ∀ H', Same H H' → Q (.int (tot ps)) H'
def spCan (K : PySem.W.Frag) (a : Ad) : Sp := fun vs H Q _ => ∃ v ps, ∃ t : Int, vs = [v, .int t] ∧ DieP K a H v ps ∧ 0 ≤ t ∧ t < tot ps ∧ ∀ H', Same H H' → Q (.bl true) H'
def PartR (H : Hp) (r : Int × Nd) (y : V) : Prop := ∃ q n, y = .ref q ∧ H q = some (.tup [.int r.1, n])
def spDP (K : PySem.W.Frag) (a : Ad) : Sp := fun vs H Q _ => ∃ v ps, vs = [v] ∧ DieP K a H v ps ∧ TabsOk (tabs a) H ∧ ∀ H' r ys, SameT H H' → TabsOk (tabs a) H' → H r = none → H' r = some (.lst ys) → Paired (PartR H') ps ys → Q (.ref r) H'
def spDA (K : PySem.W.Frag) (a : Ad) : Sp := fun vs H Q _ => ∃ v ps S, ∃ t : Int, vs = [v, .int t] ∧ DieP K a H v ps ∧ 0 ≤ t ∧ t < tot ps ∧ pick ps t = some S ∧ TabsOk (tabs a) H ∧
  ∀ H' v', SameT H H' → TabsOk (tabs a) H' → IsNode K (fun _ => True) a H' v' S → Q v' H'
section
variable {P : Program} {w : World} {K : PySem.W.Frag} {mg : Str → Option Value} {base : Heap} {a : Ad}
theorem ok_lS (T : Txt K mg a) (hB : Bm mg base) : LamOk P w K mg base 4 ld_start_make_1 fvS [] (spLS a) := by
  have G_Told : FnOk P w K mg base CX0 2 _ _ _ (spToldI a) := (oi_Told T).mono (by decide)
  refine lam_of lsS (fun pm ctv clos c us hl => match us, hl with | [], _ => rfl) (fun vals vs H Q E h => ?_) (fun A outer s H f c clos vals vs Q E hr hfv ca h => ?_)
  · obtain ⟨lp, ps, st, fi, rfl, rfl, _⟩ := h; rfl
  · obtain ⟨lp, ps, st, fi, rfl, rfl, hp, hl, hf, hT, q⟩ := h
    have small : sizeLine = 16777216 := sizeLine_eq
    refine ⟨_, (pe_make T.mk_Told G_Told hr rfl T.mc_Told T.Bi_Told .nil pass0 (pa_cons (pe_sliceS (vr 1) (po_some (vr 2)) (po_some (vr 0))) pa_nil)), ?_⟩
    have hp' := untrs_of ca hp fun v z => nomatch z
    have hT' := TabsOk.untrs hT ca
    refine ⟨_, rfl, _, rfl, lp, _, _, rfl, SqL.of hp', rfl, by omega, fun l fl => ?_⟩
    rw [step_every (by omega) hf]
    have s1 := Same.new (o := .lst ((every ps fi st).map V.int)) fl
    have h1 := upd_same (H := untrs H (clos.map (·.2))) (a := l) (o := .lst ((every ps fi st).map V.int))
    generalize upd (untrs H (clos.map (·.2))) l (.lst ((every ps fi st).map V.int)) = H1 at s1 h1
    intro x dx hx hdx hne
    have s0 : Same H1 (upd (upd H1 dx (.own x)) x (.ins a.c_Told dx [])) := fun b o e => by rw [upd_ne (ne_of_none e hx), upd_ne (ne_of_none e hdx)]; exact e
    refine ⟨x, dx, l, every ps fi st, rfl, upd_same, s0 _ _ h1, by have := every_len ps fi st; omega, fun H' t ns' k g1 g2 g3 => ⟨rfl, fun H3 s3 hc => ?_⟩⟩
    have sm := s1.trans (made hx hdx k)
    exact q _ _ (back sm.t s3 hc) ((hT'.same sm).same s3) ⟨x, dx, t, ns', rfl, s3 _ _ g1, s3 _ _ g2, g3⟩
theorem ok_lA (T : Txt K mg a) (hB : Bm mg base) : LamOk P w K mg base 4 ld_loose_node_1 fvA [] (spLA K a) := by
  have G_loose_node : FnOk P w K mg base CX0 3 _ _ _ (spLN K a) := ok_ln T hB
  refine lam_of lsA (fun pm ctv clos c us hl => match us, hl with | [], _ => rfl) (fun vals vs H Q E h => ?_) (fun A outer s H f c clos vals vs Q E hr hfv ca h => ?_)
  · obtain ⟨lt, lr, p, rest, taken, xs, rfl, rfl, _⟩ := h; rfl
  · obtain ⟨lt, lr, p, rest, taken, xs, rfl, rfl, ht, hl, hP, hw, hT, q⟩ := h
    have small : sizeLine = 16777216 := sizeLine_eq
    refine ⟨_, (pe_call G_loose_node hr rfl T.m_loose_node T.F_loose_node.kp T.B_loose_node .nil pass0 (pa_cons (vr 1) (pa_cons (pe_op op_cat (vr 0) (pe_lst (pa_cons (vr 2) pa_nil))) pa_nil))), ?_⟩
    have ht' := untrs_of ca ht fun v z => nomatch z
    have hr2 := untrs_of ca hl fun v z => nomatch z
    have hT' := TabsOk.untrs hT ca
    refine ⟨(show 1 ≤ sizeLine by decide), fun l1 f1 => ?_⟩
    have s1 := Same.new (o := .lst [.int p]) f1
    have h1 := upd_same (H := untrs H (clos.map (·.2))) (a := l1) (o := .lst [.int p])
    generalize upd (untrs H (clos.map (·.2))) l1 (.lst [.int p]) = H1 at s1 h1
    have hw1 := hw.1
    rw [List.length_append, List.length_singleton] at hw1
    refine ⟨lt, l1, _, _, rfl, rfl, s1 _ _ ht', h1, (by rw [List.length_map]; show taken.length + 1 ≤ sizeLine; omega), fun l2 f2 => ?_⟩
    have em : taken.map V.int ++ [V.int p] = (taken ++ [p]).map V.int := by rw [List.map_append]; rfl
    rw [em]
    have s2 := Same.new (o := .lst ((taken ++ [p]).map V.int)) f2
    have s12 := s1.trans s2
    refine ⟨fun _ => True, lr, l2, rest, taken ++ [p], xs, rfl, fun _ _ => trivial, trivial, s12 _ _ hr2, paired_imp (fun x v h => PrAt.t s12.t _ _ (PrAt.un ca x v h)) hP, upd_same, hw, hT'.same s12, fun H' v t' hT3 few => fun H3 s3 hc => ?_⟩
    exact q _ _ (back (s12.t.trans t') s3 hc) (hT3.same s3) (few.t s3.t)
theorem ok_lB (T : Txt K mg a) (hB : Bm mg base) : LamOk P w K mg base 4 ld_loose_node_2 fvB [] (spLB K a) := by
  have G_loose_node : FnOk P w K mg base CX0 3 _ _ _ (spLN K a) := ok_ln T hB
  refine lam_of lsB (fun pm ctv clos c us hl => match us, hl with | [], _ => rfl) (fun vals vs H Q E h => ?_) (fun A outer s H f c clos vals vs Q E hr hfv ca h => ?_)
  · obtain ⟨lt, lr, rest, taken, xs, rfl, rfl, _⟩ := h; rfl
  · obtain ⟨lt, lr, rest, taken, xs, rfl, rfl, ht, hl, hP, hw, hT, q⟩ := h
    refine ⟨_, (pe_call G_loose_node hr rfl T.m_loose_node T.F_loose_node.kp T.B_loose_node .nil pass0 (pa_cons (vr 1) (pa_cons (vr 0) pa_nil))), ?_⟩
    have ht' := untrs_of ca ht fun v z => nomatch z
    have hr2 := untrs_of ca hl fun v z => nomatch z
    refine ⟨fun _ => True, lr, lt, rest, taken, xs, rfl, fun _ _ => trivial, trivial, hr2, paired_imp (PrAt.un ca) hP, ht', hw, TabsOk.untrs hT ca, fun H' v t' hT3 few => fun H3 s3 hc => ?_⟩
    exact q _ _ (back t' s3 hc) (hT3.same s3) (few.t s3.t)
theorem ok_isw (T : Txt K mg a) : FnOk P w K mg base CX0 1 a.f_is_whole a.d_is_whole ["thing", "low", "high"] spIsW := by
  refine T.F_is_whole.ok sc_is_whole (fun vs H Q E h => ?_) (fun cdv A outer s H vs Q E hr h => ?_)
  · obtain ⟨i, lo, hi, rfl, _⟩ := h; rfl
  · obtain ⟨i, lo, hi, rfl, q⟩ := h
    refine ⟨_, (pss_one (ps_ret (m_and (pe_callB call_isi rfl T.z_isinstance bt_isinstance (pa_cons (vr 0) (pa_cons (pe_bltn (v := .ty "int") rfl T.z_int bt_int rfl) pa_nil))) (m_and (m_not (pe_callB call_isi rfl T.z_isinstance bt_isinstance (pa_cons (vr 0) (pa_cons (pe_bltn (v := .ty "bool") rfl T.z_bool bt_bool rfl) pa_nil)))) (pe_one (m_chain o_le o_le (vr 1) (vr 0) (vr 2))))))), ?_⟩
    refine ⟨_, _, _, true, rfl, rfl, .int i, rfl, ?_⟩
    refine ⟨_, _, _, false, rfl, rfl, .int i, rfl, ?_⟩
    exact and_if (Q := fun v => Q v H) q
theorem ok_tt (T : Txt K mg a) : FnOk P w K mg base CX0 1 a.x_Told_is_told a.y_Told_is_told ["self"] (spV (.bl true)) := by
  refine T.F_Told_is_told.ok sc_Told_is_told (fun vs H Q E h => ?_) (fun cdv A outer s H vs Q E hr h => ?_)
  · obtain ⟨v, rfl, _⟩ := h; rfl
  · obtain ⟨v, rfl, q⟩ := h
    exact ⟨_, (pss_one (ps_ret pe_bl)), q⟩
theorem ok_ts (T : Txt K mg a) : FnOk P w K mg base CX0 1 a.x_Told_sides a.y_Told_sides ["self"] (spV (.int 0)) := by
  refine T.F_Told_sides.ok sc_Told_sides (fun vs H Q E h => ?_) (fun cdv A outer s H vs Q E hr h => ?_)
  · obtain ⟨v, rfl, _⟩ := h; rfl
  · obtain ⟨v, rfl, q⟩ := h
    exact ⟨_, (pss_one (ps_ret pe_int)), q⟩
theorem ok_tk (T : Txt K mg a) : FnOk P w K mg base CX0 1 a.x_Told_kept a.y_Told_kept ["self"] (spTK a) := by
  refine T.F_Told_kept.ok sc_Told_kept (fun vs H Q E h => ?_) (fun cdv A outer s H vs Q E hr h => ?_)
  · obtain ⟨x, dx, t, rfl, _⟩ := h; rfl
  · obtain ⟨x, dx, t, rfl, hx, q⟩ := h
    exact ⟨_, (pss_one (ps_ret (pe_fld (vr 0) rfl))), x, _, dx, _, _, rfl, hx, T.cl_Told, T.na_Told_rising, rfl, q⟩
theorem ok_tp (T : Txt K mg a) : FnOk P w K mg base CX0 1 a.x_Told_parts a.y_Told_parts ["self"] spTP := by
  refine T.F_Told_parts.ok sc_Told_parts (fun vs H Q E h => ?_) (fun cdv A outer s H vs Q E hr h => ?_)
  · obtain ⟨v, rfl, _⟩ := h; rfl
  · obtain ⟨v, rfl, q⟩ := h
    exact ⟨_, (pss_one (ps_ret (pe_lst pa_nil))), Nat.zero_le _, q⟩
theorem ok_dt (T : Txt K mg a) : FnOk P w K mg base CX0 1 a.x_Die_is_told a.y_Die_is_told ["self"] (spV (.bl false)) := by
  refine T.F_Die_is_told.ok sc_Die_is_told (fun vs H Q E h => ?_) (fun cdv A outer s H vs Q E hr h => ?_)
  · obtain ⟨v, rfl, _⟩ := h; rfl
  · obtain ⟨v, rfl, q⟩ := h
    exact ⟨_, (pss_one (ps_ret pe_bl)), q⟩
theorem ok_dk (T : Txt K mg a) : FnOk P w K mg base CX0 1 a.x_Die_kept a.y_Die_kept ["self"] (spV .non) := by
  refine T.F_Die_kept.ok sc_Die_kept (fun vs H Q E h => ?_) (fun cdv A outer s H vs Q E hr h => ?_)
  · obtain ⟨v, rfl, _⟩ := h; rfl
  · obtain ⟨v, rfl, q⟩ := h
    exact ⟨_, (pss_one (ps_ret pe_non)), q⟩
theorem ok_ds (T : Txt K mg a) : FnOk P w K mg base CX0 1 a.x_Die_sides a.y_Die_sides ["self"] (spDS K a) := by
  refine T.F_Die_sides.ok sc_Die_sides (fun vs H Q E h => ?_) (fun cdv A outer s H vs Q E hr h => ?_)
  · obtain ⟨v, ps, rfl, _⟩ := h; rfl
  · obtain ⟨v, ps, rfl, ⟨⟨x, dx, l, ys, rfl, hx, _, hl, hP⟩, hpos, hl1, hl2⟩, q⟩ := h
    have small : sizeLine = 16777216 := sizeLine_eq
    refine ⟨_, (pss_one (ps_ret (pe_callB (call_sumI rfl) rfl T.z_sum bt_sum (pa_cons (pe_comp rfl (N := ["many", "make"]) (ix := [none, none]) ⟨rfl, rfl, rfl, rfl, trivial⟩ (pi_any (pe_fld (vr 0) rfl)) ⟨fun C s H fp => (pg_tupK (K := K) (n := 2) rfl rfl (pgs_cons (pg_name (i := 0) (show List.Nodup (["many", "make"] : List Str) by decide +kernel) rfl (Or.inl rfl)) (pgs_cons (pg_name (i := 1) (show List.Nodup (["many", "make"] : List Str) by decide +kernel) rfl (Or.inl rfl)) pgs_nil))), fun C s H fp => pts_nil, fun C s H fp => (vr 0)⟩) pa_nil)))), ?_⟩
    refine ⟨x, _, dx, _, _, rfl, hx, T.cl_Die, T.na_Die_makes, rfl, .inl ⟨⟨_, SqL.of hl⟩, fun D hD => ?_⟩⟩
    refine comp_list (K := K) (a := l) (xs := ys) (fun i zs H' => Same H H' ∧ H' D = some (.lst zs) ∧ i ≤ ps.length ∧ zs = ((ps.take i).map (·.1)).map V.int) ⟨Same.new hD, upd_same, Nat.zero_le _, rfl⟩ (fun i ys H' h => SqL.of (h.1 _ _ hl)) (fun i ys H' h => h.2.1) ?_ ?_
    · rintro i y zs H' P' hy ⟨s1, hD1, hi, rfl⟩ hP'
      obtain ⟨⟨many, t⟩, hpt, q1, f, rfl, hq1, _⟩ := paired_get hP hy
      have ilt : i < ps.length := (List.getElem?_eq_some_iff.mp hpt).1
      refine ⟨q1, _, rfl, SqT.of (s1 _ _ hq1), rfl, _, _, rfl, _, _, rfl, rfl, trivial, hD1, by rw [List.length_map, List.length_map, List.length_take]; omega, hP' _ _ ⟨s1.put hD, upd_same, ilt, ?_⟩⟩
      rw [List.take_add_one, hpt]
      simp
    · rintro zs H' ⟨s1, hD1, _, rfl⟩
      rw [show ys.length = ps.length from hP.length.symm, List.take_length] at hD1
      exact ⟨D, _, rfl, SqL.of hD1, q _ s1⟩
theorem ok_can (T : Txt K mg a) : FnOk P w K mg base CX0 2 a.f_can_be_thrown a.d_can_be_thrown ["node", "throw"] (spCan K a) := by
  have G_is_whole : FnOk P w K mg base CX0 1 _ _ _ spIsW := ok_isw T
  have G_Told_sides : FnOk P w K mg base CX0 1 _ _ _ (spV (.int 0)) := ok_ts T
  have G_Die_sides : FnOk P w K mg base CX0 1 _ _ _ (spDS K a) := ok_ds T
  refine T.F_can_be_thrown.ok sc_can_be_thrown (fun vs H Q E h => ?_) (fun cdv A outer s H vs Q E hr h => ?_)
  · obtain ⟨v, ps, t, rfl, _⟩ := h; rfl
  · obtain ⟨v, ps, t, rfl, hd, t0, t1, q⟩ := h
    obtain ⟨⟨x, dx, l, ys, rfl, hx, _⟩, _⟩ := id hd
    refine ⟨_, (pss_one (ps_ret (pe_call G_is_whole hr rfl T.m_is_whole T.F_is_whole.kp T.B_is_whole .nil pass0 (pa_cons (vr 1) (pa_cons pe_int (pa_cons (pe_op o_sub (PE.or (pe_meth0 (vr 0) T.cl_Told T.mt_Told_sides G_Told_sides hr T.B_Told_sides .nil pass0) (pe_meth0 (vr 0) T.cl_Die T.mt_Die_sides G_Die_sides hr T.B_Die_sides .nil pass0)) pe_int) pa_nil)))))), ?_⟩
    refine .inr ⟨x, dx, _, rfl, hx, rfl, _, ps, rfl, hd, fun H' s1 => ?_⟩
    refine ⟨t, 0, tot ps - 1, rfl, ?_⟩
    rw [decide_eq_true (show 0 ≤ t ∧ t ≤ tot ps - 1 by omega)]
    exact q _ s1
end
end My
set_option Elab.async false
set_option linter.all false
set_option maxRecDepth 100000
set_option maxHeartbeats 4000000
namespace My
open PySem L2 FrM
theorem mk_call {K : PySem.W.Frag} {N : Addr → Prop} {a : Ad} {H : Hp} {f : V} {S : Nd} {Q : VK} (h : IsMk K N H f S) (hT : TabsOk (tabs a) H) (q : ∀ H2 v2, SameT H H2 → TabsOk (tabs a) H2 → IsNode K (fun _ => True) a H2 v2 S → Q v2 H2) :
    rLam ld_start_make_1 fvS (spLS a) f [] H Q ∨ rLam ld_loose_node_1 fvA (spLA K a) f [] H Q ∨ rLam ld_loose_node_2 fvB (spLB K a) f [] H Q := by
  rcases h with ⟨lp, ps, st, fi, ⟨f', c, clos, e0, e1, e2, e3, e4, e5⟩, h2, h3, h4, h5, rfl⟩ | ⟨lt, lr, p, rest, taken, xs, ⟨f', c, clos, e0, e1, e2, e3, e4, e5⟩, h2, h3, h4, h5, h6, h7, rfl⟩ | ⟨lt, lr, rest, taken, xs, ⟨f', c, clos, e0, e1, e2, e3, e4, e5⟩, h2, h3, h4, h5, h6, h7, rfl⟩
  · exact .inl ⟨f', c, clos, _, e0, e1, e2, e3, e4, e5, lp, ps, st, fi, rfl, rfl, h3, h4, h5, hT, fun H' v s t z => q H' v s t (.inl ⟨_, rfl, z⟩)⟩
  · exact .inr (.inl ⟨f', c, clos, _, e0, e1, e2, e3, e4, e5, lt, lr, p, rest, taken, xs, rfl, rfl, h4, h5, h6, h7, hT, q⟩)
  · exact .inr (.inr ⟨f', c, clos, _, e0, e1, e2, e3, e4, e5, lt, lr, rest, taken, xs, rfl, rfl, h4, h5, h6, h7, hT, q⟩)
theorem PartR.t {H H' : Hp} (s : SameT H H') (r : Int × Nd) (y : V) (h : PartR H r y) : PartR H' r y := let ⟨q, n, h1, h2⟩ := h; ⟨q, n, h1, s.at h2⟩
theorem PartR.put {H : Hp} {D : Addr} {zs : List V} {o' : HO} (hD : H D = some (.lst zs)) (r : Int × Nd) (y : V) (h : PartR H r y) : PartR (upd H D o') r y := let ⟨q, n, h1, h2⟩ := h; ⟨q, n, h1, notL hD h2 (fun ys z => nomatch z)⟩
theorem paired_take {α β : Type} {r : α → β → Prop} {as : List α} {x : α} {i : Nat} {ys : List β} {y : β} (h : Paired r (as.take i) ys) (e : as[i]? = some x) (q : r x y) : Paired r (as.take (i + 1)) (ys ++ [y]) := by
  rw [List.take_add_one, e]
  exact paired_snoc q h
section
variable {P : Program} {w : World} {K : PySem.W.Frag} {mg : Str → Option Value} {base : Heap} {a : Ad}
theorem ok_dp (T : Txt K mg a) (hB : Bm mg base) : FnOk P w K mg base CX0 5 a.x_Die_parts a.y_Die_parts ["self"] (spDP K a) := by
  have L_st : LamOk P w K mg base 4 ld_start_make_1 fvS [] (spLS a) := ok_lS T hB
  have L_lo1 : LamOk P w K mg base 4 ld_loose_node_1 fvA [] (spLA K a) := ok_lA T hB
  have L_lo2 : LamOk P w K mg base 4 ld_loose_node_2 fvB [] (spLB K a) := ok_lB T hB
  refine T.F_Die_parts.ok sc_Die_parts (fun vs H Q E h => ?_) (fun cdv A outer s H vs Q E hr h => ?_)
  · obtain ⟨v, ps, rfl, _⟩ := h; rfl
  · obtain ⟨v, ps, rfl, ⟨⟨x, dx, l, ys, rfl, hx, _, hl, hP⟩, hpos, hl1, hl2⟩, hT, q⟩ := h
    have small : sizeLine = 16777216 := sizeLine_eq
    refine ⟨_, (pss_one (ps_ret (pe_comp rfl (N := ["many", "make"]) (ix := [none, none]) ⟨rfl, rfl, rfl, rfl, trivial⟩ (pi_any (pe_fld (vr 0) rfl)) ⟨fun C s H fp => (pg_tupK (K := K) (n := 2) rfl rfl (pgs_cons (pg_name (i := 0) (show List.Nodup (["many", "make"] : List Str) by decide +kernel) rfl (Or.inl rfl)) (pgs_cons (pg_name (i := 1) (show List.Nodup (["many", "make"] : List Str) by decide +kernel) rfl (Or.inl rfl)) pgs_nil))), fun C s H fp => pts_nil, fun C s H fp => (pe_tup (pa_cons (vr 0) (pa_cons (PE.or (pe_callL0 (vr 1) L_st hr) (PE.or (pe_callL0 (vr 1) L_lo1 hr) (pe_callL0 (vr 1) L_lo2 hr))) pa_nil)))⟩))), ?_⟩
    refine ⟨x, _, dx, _, _, rfl, hx, T.cl_Die, T.na_Die_makes, rfl, .inl ⟨⟨_, SqL.of hl⟩, fun D hD => ?_⟩⟩
    have hTD : TabsOk (tabs a) (upd H D (.lst [])) := hT.same (Same.new hD)
    have ext : ∀ {H' : Hp}, TabsOk (tabs a) H' → ∀ {ys : List V} {ys' : List V}, H' D = some (.lst ys) → TabsOk (tabs a) (upd H' D (.lst ys')) := fun hT' ys ys' e => hT'.put (fun ps z => by rw [e] at z; cases z) fun φ z => by rw [e] at z; cases z
    refine comp_list (K := K) (a := l) (xs := ys) (fun i zs H' => SameT H H' ∧ TabsOk (tabs a) H' ∧ H' D = some (.lst zs) ∧ i ≤ ps.length ∧ Paired (PartR H') (ps.take i) zs) ⟨(Same.new hD).t, hTD, upd_same, Nat.zero_le _, .nil⟩ (fun i zs H' h => SqL.of (h.1.at hl)) (fun i zs H' h => h.2.2.1) ?_ ?_
    · rintro i y zs H' P' hy ⟨t1, hT1, hD1, hi, hc⟩ hP'
      obtain ⟨⟨many, S⟩, hpt, q1, f, rfl, hq1, hmk⟩ := paired_get hP hy
      have ilt : i < ps.length := (List.getElem?_eq_some_iff.mp hpt).1
      refine ⟨q1, _, rfl, SqT.of (t1.at hq1), rfl, _, _, rfl, _, _, rfl, rfl, trivial, ?_⟩
      refine mk_call (hmk.t t1) hT1 fun H2 v2 t2 hT2 nd => ?_
      refine ⟨(show 2 ≤ sizeLine by decide), fun p1 hp1 => ?_⟩
      have s3 := Same.new (o := .tup [.int many, v2]) hp1
      have hD3 := s3 _ _ (t2.at hD1)
      have n1 : p1 ≠ D := fun z => by rw [z, t2.at hD1] at hp1; cases hp1
      have zl : zs.length ≤ 100 := by rw [← hc.length, List.length_take]; omega
      exact ⟨hD3, by omega, hP' _ _ ⟨((t1.trans t2).trans s3.t).put hD, ext (hT2.same s3) hD3, upd_same, ilt, paired_take (paired_imp (fun r y h => PartR.put hD3 _ _ (PartR.t (t2.trans s3.t) _ _ h)) hc) hpt ⟨p1, v2, rfl, by rw [upd_ne n1]; exact upd_same⟩⟩⟩
    · rintro zs H' ⟨t1, hT1, hD1, hi, hc⟩
      rw [show ys.length = ps.length from hP.length.symm, List.take_length] at hc
      exact q _ D zs t1 hT1 hD hD1 hc
theorem ok_da (T : Txt K mg a) (hB : Bm mg base) : FnOk P w K mg base CX0 5 a.x_Die_after a.y_Die_after ["self", "throw"] (spDA K a) := by
  have L_st : LamOk P w K mg base 4 ld_start_make_1 fvS [] (spLS a) := ok_lS T hB
  have L_lo1 : LamOk P w K mg base 4 ld_loose_node_1 fvA [] (spLA K a) := ok_lA T hB
  have L_lo2 : LamOk P w K mg base 4 ld_loose_node_2 fvB [] (spLB K a) := ok_lB T hB
  have G_can_be_thrown : FnOk P w K mg base CX0 4 _ _ _ (spCan K a) := (ok_can T).mono (by decide)
  refine T.F_Die_after.ok sc_Die_after (fun vs H Q E h => ?_) (fun cdv A outer s H vs Q E hr h => ?_)
  · obtain ⟨v, ps, S, t, rfl, _⟩ := h; rfl
  · obtain ⟨v, ps, S, t, rfl, hd, t0, t1, hpk, hT, q⟩ := h
    refine ⟨_, (pss_cons (ps_if (pt_not (t_val (pe_call G_can_be_thrown hr rfl T.m_can_be_thrown T.F_can_be_thrown.kp T.B_can_be_thrown .nil pass0 (pa_cons (vr 0) (pa_cons (vr 1) pa_nil))))) (pss_one ps_never) pss_nil) (pss_cons (ps_set (i := 2) sc_Die_after.nd rfl (Or.inl rfl) pe_int) (pss_cons (ps_set (i := 3) sc_Die_after.nd rfl (Or.inl rfl) (pe_op o_sub (pe_ix ix_seq (pe_ix ix_seq (pe_fld (vr 0) rfl) pe_int (fun _ _ => rfl)) pe_int (fun _ _ => rfl)) pe_int)) (pss_cons (ps_while PassesOwn.never (t_cmp o_lt (vr 3) (vr 1) (nomark _)) (pss_cons (ps_aug (i := 2) sc_Die_after.nd rfl (Or.inl rfl) pe_int ip_add) (pss_one (ps_aug (i := 3) sc_Die_after.nd rfl (Or.inl rfl) (pe_ix ix_seq (pe_ix ix_seq (pe_fld (vr 0) rfl) (vr 2) (fun _ _ => rfl)) pe_int (fun _ _ => rfl)) ip_add)))) (pss_cons (ps_asg (pe_ix ix_seq (pe_fld (vr 0) rfl) (vr 2) (fun _ _ => rfl)) (pg_tup rfl (pgs_cons (pg_name (i := 4) sc_Die_after.nd rfl (Or.inl rfl)) (pgs_cons (pg_name (i := 5) sc_Die_after.nd rfl (Or.inl rfl)) pgs_nil)))) (pss_one (ps_ret (PE.or (pe_callL0 (vr 5) L_st hr) (PE.or (pe_callL0 (vr 5) L_lo1 hr) (pe_callL0 (vr 5) L_lo2 hr)))))))))), ?_⟩
    refine ⟨v, ps, t, rfl, hd, t0, t1, fun H1 s1 => ?_⟩
    have hd1 := hd.t s1.t
    have hT1 := hT.same s1
    obtain ⟨⟨x, dx, l, ys, rfl, hx, _, hl, hP⟩, hpos, hl1, hl2⟩ := id hd1
    have yl : ys.length = ps.length := hP.length.symm
    have row : ∀ k : Nat, k < ps.length → ∃ q1 f many u, ys[k]? = some (.ref q1) ∧ ps[k]? = some (many, u) ∧ H1 q1 = some (.tup [.int many, f]) ∧ IsMk K (fun _ => True) H1 f u := fun k hk => by
      have hk' : k < ys.length := by omega
      have e : ys[k]? = some ys[k] := List.getElem?_eq_getElem hk'
      obtain ⟨⟨many, u⟩, hpt, q1, f, e2, hq1, h3⟩ := paired_get hP e
      exact ⟨q1, f, many, u, by rw [e, e2], hpt, hq1, h3⟩
    obtain ⟨qz, fz, mz, uz, yz, pz, hz, _⟩ := row 0 (by omega)
    refine ⟨x, _, dx, _, _, rfl, hx, T.cl_Die, T.na_Die_makes, rfl, .inl ⟨l, _, _, _, rfl, rfl, SqL.of hl, atI_cons 0 rfl yz, .inr (.inl ⟨qz, _, _, _, rfl, rfl, SqT.of hz, atI_cons 0 rfl rfl, ?_⟩)⟩⟩
    have tz : tot (ps.take 1) = mz := by rw [tot_succ pz]; simp [tot]
    refine ⟨fun k σ H' => H' = H1 ∧ ∃ (number : Nat) (last : Int) (x4 x5 : Option V), σ = [some (.ref x), some (.int t), some (.int (number : Nat)), some (.int last), x4, x5] ∧ number < ps.length ∧ last = tot (ps.take (number + 1)) - 1 ∧ tot (ps.take number) ≤ t ∧ k = ps.length - number, ⟨_, rfl, 0, _, _, _, rfl, by omega, by rw [tz], by simpa [tot] using t0, rfl⟩, ?_⟩
    rintro k σ H' ⟨rfl, number, last, x4, x5, rfl, hn, hlast, hlow, rfl⟩
    refine ifC (fun c => ?_) fun c => ?_
    · have c : last < t := c
      have hn1 : number + 1 < ps.length := by
        rcases Nat.lt_or_ge (number + 1) ps.length with h | h
        · exact h
        · rw [List.take_of_length_le h] at hlast; omega
      obtain ⟨q1, f, many, u, hy, hpt, hq, _⟩ := row (number + 1) hn1
      refine ⟨fun σ' H'' => H'' = H' ∧ σ' = [some (.ref x), some (.int t), some (.int ((number + 1 : Nat) : Int)), some (.int (last + many)), x4, x5], ?_, ?_⟩
      · rintro σ' H'' ⟨rfl, rfl⟩
        exact ⟨_, by omega, rfl, number + 1, _, _, _, rfl, hn1, by rw [tot_succ hpt]; omega, by omega, rfl⟩
      · refine ⟨_, rfl, _, _, rfl, rfl, _, rfl, ?_⟩
        exact ⟨x, _, dx, _, _, rfl, hx, T.cl_Die, T.na_Die_makes, rfl, .inl ⟨l, _, _, _, rfl, rfl, SqL.of hl, atI_cons (number + 1) (by show (number : Int) + 1 = ((number + 1 : Nat) : Int); omega) hy, .inr (.inl ⟨q1, _, _, _, rfl, rfl, SqT.of hq, atI_cons 0 rfl rfl, _, _, rfl, rfl, rfl, by rw [show ((number + 1 : Nat) : Int) = (number : Int) + 1 by omega]; rfl⟩)⟩⟩
    · have c : ¬ last < t := c
      obtain ⟨q1, f, many, u, hy, hpt, hq, hf⟩ := row number hn
      have eu := pick_at ps number t many u (fun p hp => by have := hpos p hp; omega) hpt hlow (by omega)
      rw [hpk] at eu
      cases eu
      refine ⟨x, _, dx, _, _, rfl, hx, T.cl_Die, T.na_Die_makes, rfl, .inl ⟨l, _, _, _, rfl, rfl, SqL.of hl, atI_cons number (by omega) hy, q1, _, rfl, SqT.of hq, rfl, _, _, rfl, _, _, rfl, rfl, ?_⟩⟩
      exact mk_call hf hT1 fun H2 v2 t2 hT2 nd => q _ _ (s1.t.trans t2) hT2 nd
end
def Good : Nd → List (List Int × Int) → List Int → Prop
  | S, [], kept => S.tell = some kept
  | S, (sz, t) :: r, kept => S.tell = none ∧ S.parts.map (·.1) = sz ∧ (∀ p ∈ S.parts, 1 ≤ p.1) ∧ 1 ≤ S.parts.length ∧ S.parts.length ≤ 100 ∧ 0 ≤ t ∧ t < tot S.parts ∧ ∃ S', pick S.parts t = some S' ∧ Good S' r kept
theorem srt_uniq {l₁ l₂ k : List Int} (a : Srt l₁ k) (b : Srt l₂ k) : l₁ = l₂ := List.Perm.eq_of_pairwise (fun x y _ _ h h' => Int.le_antisymm h h') a.2 b.2 (a.1.trans b.1.symm)
structure At (K : PySem.W.Frag) (a : Ad) (H : Hp) (v : V) (rows : List (List Int × Int)) (kept : List Int) : Prop where
  ex : ∃ S, IsNode K (fun _ => True) a H v S ∧ Good S rows kept
theorem At.t {K : PySem.W.Frag} {a : Ad} {H H' : Hp} {v : V} {rows : List (List Int × Int)} {kept : List Int} (s : SameT H H') (h : At K a H v rows kept) : At K a H' v rows kept :=
  let ⟨S, h1, h2⟩ := h.ex; ⟨S, h1.t s, h2⟩
theorem At.nil {K : PySem.W.Frag} {a : Ad} {H : Hp} {v : V} {kept : List Int} (h : At K a H v [] kept) : IsTold a H v kept := by
  obtain ⟨S, h1, h2⟩ := h.ex
  have h2 : S.tell = some kept := h2
  rcases h1 with ⟨k, e, z⟩ | ⟨e, _⟩
  · rw [h2] at e; cases e; exact z
  · rw [h2] at e; cases e
theorem At.cons {K : PySem.W.Frag} {a : Ad} {H : Hp} {v : V} {sz : List Int} {t : Int} {rows : List (List Int × Int)} {kept : List Int} (h : At K a H v ((sz, t) :: rows) kept) : ∃ ps S', DieP K a H v ps ∧ ps.map (·.1) = sz ∧ 0 ≤ t ∧ t < tot ps ∧ pick ps t = some S' ∧ ∀ H' v', IsNode K (fun _ => True) a H' v' S' → At K a H' v' rows kept := by
  obtain ⟨S, h1, g1, g2, g3, g4, g5, g6, g7, S', g8, g9⟩ := h.ex
  refine ⟨S.parts, S', ⟨?_, g3, g4, g5⟩, g2, g6, g7, g8, fun H' v' z => ⟨S', z, g9⟩⟩
  rcases h1 with ⟨k, e, z⟩ | ⟨_, z⟩
  · rw [g1] at e; cases e
  · exact z
def spDrawn (K : PySem.W.Frag) (a : Ad) : Sp := fun vs H Q _ => ∃ v l rows kept, vs = [v, .ref l] ∧ At K a H v rows kept ∧ H l = some (.lst ((rows.map (·.2)).map V.int)) ∧ TabsOk (tabs a) H ∧
  ∀ H' t ns, SameT H H' → TabsOk (tabs a) H' → H' t = some (.tup (ns.map V.int)) → Srt ns kept → Q (.ref t) H'
section
variable {P : Program} {w : World} {K : PySem.W.Frag} {mg : Str → Option Value} {base : Heap} {a : Ad}
theorem ok_drawn (T : Txt K mg a) (hB : Bm mg base) : FnOk P w K mg base CX0 6 a.f_drawn a.d_drawn ["node", "throws"] (spDrawn K a) := by
  have G_can_be_thrown : FnOk P w K mg base CX0 5 _ _ _ (spCan K a) := (ok_can T).mono (by decide)
  have G_Die_after : FnOk P w K mg base CX0 5 _ _ _ (spDA K a) := ok_da T hB
  have G_Told_is_told : FnOk P w K mg base CX0 5 _ _ _ (spV (.bl true)) := (ok_tt T).mono (by decide)
  have G_Die_is_told : FnOk P w K mg base CX0 5 _ _ _ (spV (.bl false)) := (ok_dt T).mono (by decide)
  have G_Told_kept : FnOk P w K mg base CX0 5 _ _ _ (spTK a) := (ok_tk T).mono (by decide)
  have G_Die_kept : FnOk P w K mg base CX0 5 _ _ _ (spV .non) := (ok_dk T).mono (by decide)
  refine T.F_drawn.ok sc_drawn (fun vs H Q E h => ?_) (fun cdv A outer s H vs Q E hr h => ?_)
  · obtain ⟨v, l, rows, kept, rfl, _⟩ := h; rfl
  · obtain ⟨v, l, rows, kept, rfl, hat, hl, hT, q⟩ := h
    refine ⟨_, (pss_cons (ps_set (i := 2) sc_drawn.nd rfl (Or.inl rfl) (vr 0)) (pss_cons (ps_for PassesOwn.never rfl (pi_enum rfl T.z_enumerate (pa_cons (vr 1) pa_nil)) (pg_tup rfl (pgs_cons (pg_name (i := 3) sc_drawn.nd rfl (Or.inl rfl)) (pgs_cons (pg_name (i := 4) sc_drawn.nd rfl (Or.inl rfl)) pgs_nil))) (pss_cons (ps_if (pt_not (t_val (pe_call G_can_be_thrown hr rfl T.m_can_be_thrown T.F_can_be_thrown.kp T.B_can_be_thrown .nil pass0 (pa_cons (vr 2) (pa_cons (vr 4) pa_nil))))) (pss_one ps_never) pss_nil) (pss_one (ps_set (i := 2) sc_drawn.nd rfl (Or.inl rfl) (pe_meth (vr 2) T.cl_Die T.mt_Die_after G_Die_after hr T.B_Die_after .nil pass0 (pa_cons (vr 4) pa_nil)))))) (pss_cons (ps_if (pt_not (t_val (PE.or (pe_meth0 (vr 2) T.cl_Told T.mt_Told_is_told G_Told_is_told hr T.B_Told_is_told .nil pass0) (pe_meth0 (vr 2) T.cl_Die T.mt_Die_is_told G_Die_is_told hr T.B_Die_is_told .nil pass0)))) (pss_one ps_never) pss_nil) (pss_one (ps_ret (PE.or (pe_meth0 (vr 2) T.cl_Told T.mt_Told_kept G_Told_kept hr T.B_Told_kept .nil pass0) (pe_meth0 (vr 2) T.cl_Die T.mt_Die_kept G_Die_kept hr T.B_Die_kept .nil pass0))))))), ?_⟩
    refine ⟨l, _, rfl, hl, for_enum (a := l) (xs := (rows.map (·.2)).map V.int) (fun i σ H' => SameT H H' ∧ TabsOk (tabs a) H' ∧ ∃ (here : V) (x3 x4 : Option V), σ = [some v, some (.ref l), some here, x3, x4] ∧ At K a H' here (rows.drop i) kept) ⟨SameT.refl, hT, v, none, none, rfl, hat⟩ (fun i σ H' h => h.1.at hl) ?_ ?_⟩
    · rintro i x σ H' p hx ⟨t1, hT1, here, x3, x4, rfl, hat1⟩ hp
      rw [List.getElem?_map, List.getElem?_map] at hx
      cases hri : rows[i]? with
      | none => rw [hri] at hx; cases hx
      | some r =>
        obtain ⟨sz, t⟩ := r
        rw [hri] at hx
        cases hx
        have hdr : rows.drop i = (sz, t) :: rows.drop (i + 1) := by
          obtain ⟨hi, e⟩ := List.getElem?_eq_some_iff.mp hri
          rw [List.drop_eq_getElem_cons hi, e]
        rw [hdr] at hat1
        have s2 : Same H' (upd H' p (.tup [.int (i : Nat), .int t])) := Same.new hp
        obtain ⟨ps, S', hd, _, t0, t1', hpk, nxt⟩ := (hat1.t s2.t).cons
        refine ⟨p, _, rfl, SqT.of upd_same, rfl, _, _, rfl, _, _, rfl, rfl, ?_⟩
        refine ⟨here, ps, t, rfl, hd, t0, t1', fun H2 s3 => ?_⟩
        have hd2 := hd.t s3.t
        obtain ⟨⟨x, dx, l', ys', rfl, hx', _⟩, _⟩ := id hd2
        refine ⟨x, dx, _, rfl, hx', rfl, _, ps, S', t, rfl, hd2, t0, t1', hpk, (hT1.same s2).same s3, fun H3 v' t4 hT4 few => ?_⟩
        exact ⟨t1.trans (s2.t.trans (s3.t.trans t4)), hT4, v', _, _, rfl, nxt _ _ few⟩
    · rintro σ H' ⟨t1, hT1, here, x3, x4, rfl, hat1⟩
      rw [List.length_map, List.length_map, List.drop_length] at hat1
      obtain ⟨x, dx, t, ns, rfl, hx, ht, hs⟩ := hat1.nil
      refine .inl ⟨x, dx, _, rfl, hx, rfl, _, rfl, ?_⟩
      exact .inl ⟨x, dx, _, rfl, hx, rfl, x, dx, t, rfl, hx, q _ t ns t1 hT1 ht hs⟩
end
end My
set_option Elab.async false
set_option linter.all false
set_option maxRecDepth 100000
set_option maxHeartbeats 4000000
namespace My
open PySem L2 FrM
def RowAt (H : Hp) (r : List Int × Int) (x : V) : Prop := ∃ p ls, x = .ref p ∧ H p = some (.tup [.ref ls, .int r.2]) ∧ H ls = some (.lst (r.1.map V.int))
abbrev RowsAt (H : Hp) : List (List Int × Int) → List V → Prop := Paired (RowAt H)
theorem RowsAt.t {H H' : Hp} (s : SameT H H') {rs : List (List Int × Int)} {xs : List V} (h : RowsAt H rs xs) : RowsAt H' rs xs := paired_imp (fun r x ⟨p, ls, h1, h2, h3⟩ => ⟨p, ls, h1, s.at h2, s.at h3⟩) h
def spThrown (K : PySem.W.Frag) (a : Ad) : Sp := fun vs H Q _ => ∃ v l kt rows xs kept ks, vs = [v, .ref l, .ref kt] ∧ At K a H v rows kept ∧ H l = some (.lst xs) ∧ RowsAt H rows xs ∧ H kt = some (.tup (ks.map V.int)) ∧ Srt ks kept ∧ TabsOk (tabs a) H ∧
  ∀ H', SameT H H' → TabsOk (tabs a) H' → Q (.bl true) H'
section
variable {P : Program} {w : World} {K : PySem.W.Frag} {mg : Str → Option Value} {base : Heap} {a : Ad}
theorem dvs_int {H : Hp} : ∀ (l : List Int), DVs K H (l.map PyData.int) (l.map V.int)
  | [] => by simp [DVs]
  | c :: l => by
    rw [List.map_cons, List.map_cons, DVs]
    exact ⟨_, _, rfl, by simp [DV], dvs_int l⟩
theorem lay_ints : ∀ (l : List Int), PyData.canLayAll0 (l.map PyData.int) = true ∧ PyData.depthAll (l.map PyData.int) ≤ 1
  | [] => by simp [PyData.canLayAll0, PyData.depthAll]
  | t :: l => by
    obtain ⟨h1, h2⟩ := lay_ints l
    rw [List.map_cons, PyData.canLayAll0, PyData.depthAll, h1, PyData.canLay0]
    refine ⟨rfl, ?_⟩
    simp only [PyData.depth]
    omega
theorem ne_ints {H : Hp} {ns : List Int} {l r : Addr} {Q : VK} (h1 : H l = some (.lst (ns.map V.int))) (h2 : H r = some (.lst (ns.map V.int))) (q : Q (.bl false) H) : rEqD K true (.ref l) (.ref r) H Q := by
  have hs : SeqAt.shaped (.list (ns.map PyData.int)) = true := by
    obtain ⟨k1, k2⟩ := lay_ints ns
    unfold SeqAt.shaped
    rw [PyData.canLay0, k1, Bool.true_and]
    refine decide_eq_true ?_
    simp only [PyData.depth]
    omega
  refine ⟨.list (ns.map PyData.int), .list (ns.map PyData.int), by rw [DV]; exact ⟨l, _, rfl, SqL.of h1, dvs_int _⟩, by rw [DV]; exact ⟨r, _, rfl, SqL.of h2, dvs_int _⟩, hs, hs, ?_⟩
  rw [SeqAt.eqv_refl _ (SeqAt.canLay_of_shaped hs)]
  exact q
theorem eq_tups {H : Hp} {ns : List Int} {l r : Addr} {Q : VK} (h1 : H l = some (.tup (ns.map V.int))) (h2 : H r = some (.tup (ns.map V.int))) (q : Q (.bl true) H) : rEqD K false (.ref l) (.ref r) H Q := by
  have hsh : SeqAt.shaped (.tuple (ns.map PyData.int)) = true := by
    obtain ⟨k1, k2⟩ := lay_ints ns
    unfold SeqAt.shaped
    rw [PyData.canLay0, k1, Bool.true_and]
    refine decide_eq_true ?_
    simp only [PyData.depth]
    omega
  refine ⟨.tuple (ns.map PyData.int), .tuple (ns.map PyData.int), ?_, ?_, hsh, hsh, ?_⟩
  · rw [DV]; exact ⟨l, _, rfl, SqT.of h1, dvs_int ns⟩
  · rw [DV]; exact ⟨r, _, rfl, SqT.of h2, dvs_int ns⟩
  rw [SeqAt.eqv_refl _ (SeqAt.canLay_of_shaped hsh)]
  exact q
theorem eq_nils {H : Hp} {l r : Addr} {Q : VK} (h1 : H l = some (.lst [])) (h2 : H r = some (.lst [])) (q : Q (.bl true) H) : rEqD K false (.ref l) (.ref r) H Q := by
  refine ⟨.list [], .list [], ?_, ?_, by decide +kernel, by decide +kernel, ?_⟩
  · rw [DV]; exact ⟨l, _, rfl, SqL.of h1, by simp [DVs]⟩
  · rw [DV]; exact ⟨r, _, rfl, SqL.of h2, by simp [DVs]⟩
  have : PyData.eqv (.list []) (.list []) = true := by decide +kernel
  rw [this]
  exact q
theorem ok_thrown (T : Txt K mg a) (hB : Bm mg base) : FnOk P w K mg base CX0 6 a.f_L_thrown a.d_L_thrown ["_law_node", "_law_rows", "_law_kept"] (spThrown K a) := by
  have G_Die_after : FnOk P w K mg base CX0 5 _ _ _ (spDA K a) := ok_da T hB
  have G_Told_is_told : FnOk P w K mg base CX0 5 _ _ _ (spV (.bl true)) := (ok_tt T).mono (by decide)
  have G_Die_is_told : FnOk P w K mg base CX0 5 _ _ _ (spV (.bl false)) := (ok_dt T).mono (by decide)
  have G_Told_kept : FnOk P w K mg base CX0 5 _ _ _ (spTK a) := (ok_tk T).mono (by decide)
  have G_Die_kept : FnOk P w K mg base CX0 5 _ _ _ (spV .non) := (ok_dk T).mono (by decide)
  have G_Told_sides : FnOk P w K mg base CX0 5 _ _ _ (spV (.int 0)) := (ok_ts T).mono (by decide)
  have G_Die_sides : FnOk P w K mg base CX0 5 _ _ _ (spDS K a) := (ok_ds T).mono (by decide)
  have G_Told_parts : FnOk P w K mg base CX0 5 _ _ _ spTP := (ok_tp T).mono (by decide)
  have G_Die_parts : FnOk P w K mg base CX0 5 _ _ _ (spDP K a) := ok_dp T hB
  refine T.F_L_thrown.ok sc_L_thrown (fun vs H Q E h => ?_) (fun cdv A outer s H vs Q E hr h => ?_)
  · obtain ⟨v, l, kt, rows, xs, kept, ks, rfl, _⟩ := h; rfl
  · obtain ⟨v, l, kt, rows, xs, kept, ks, rfl, hat, hl, hrs, hk, hks, hT, q⟩ := h
    have small : sizeLine = 16777216 := sizeLine_eq
    refine ⟨_, (pss_cons (ps_for PassesOwn.never rfl (pi_any (vr 1)) (pg_tup rfl (pgs_cons (pg_name (i := 3) sc_L_thrown.nd rfl (Or.inl rfl)) (pgs_cons (pg_name (i := 4) sc_L_thrown.nd rfl (Or.inl rfl)) pgs_nil))) (pss_cons (ps_if (PW.pt (pw_or (t_val (PE.or (pe_meth0 (vr 0) T.cl_Told T.mt_Told_is_told G_Told_is_told hr T.B_Told_is_told .nil pass0) (pe_meth0 (vr 0) T.cl_Die T.mt_Die_is_told G_Die_is_told hr T.B_Die_is_told .nil pass0))) (pw_or (t_cmp o_isnot (PE.or (pe_meth0 (vr 0) T.cl_Told T.mt_Told_kept G_Told_kept hr T.B_Told_kept .nil pass0) (pe_meth0 (vr 0) T.cl_Die T.mt_Die_kept G_Die_kept hr T.B_Die_kept .nil pass0)) pe_non (nomark _)) (pw_or1 (t_cmp o_ne (PE.or (pe_meth0 (vr 0) T.cl_Told T.mt_Told_sides G_Told_sides hr T.B_Told_sides .nil pass0) (pe_meth0 (vr 0) T.cl_Die T.mt_Die_sides G_Die_sides hr T.B_Die_sides .nil pass0)) (pe_callB (call_sumI rfl) rfl T.z_sum bt_sum (pa_cons (vr 3) pa_nil)) (nomark _)))))) (pss_one (ps_ret pe_bl)) pss_nil) (pss_cons (ps_if (t_cmp (o_neD hr.units) (pe_comp rfl (N := ["_law_many", "_law_part"]) (ix := [none, none]) ⟨rfl, rfl, rfl, rfl, trivial⟩ (pi_any (PE.or (pe_meth0 (vr 0) T.cl_Told T.mt_Told_parts G_Told_parts hr T.B_Told_parts .nil pass0) (pe_meth0 (vr 0) T.cl_Die T.mt_Die_parts G_Die_parts hr T.B_Die_parts .nil pass0))) ⟨fun C s H fp => (pg_tupK (K := K) (n := 2) rfl rfl (pgs_cons (pg_name (i := 0) (show List.Nodup (["_law_many", "_law_part"] : List Str) by decide +kernel) rfl (Or.inl rfl)) (pgs_cons (pg_name (i := 1) (show List.Nodup (["_law_many", "_law_part"] : List Str) by decide +kernel) rfl (Or.inl rfl)) pgs_nil))), fun C s H fp => pts_nil, fun C s H fp => (vr 0)⟩) (vr 3) (nomark _)) (pss_one (ps_ret pe_bl)) pss_nil) (pss_one (ps_set (i := 0) sc_L_thrown.nd rfl (Or.inl rfl) (pe_meth (vr 0) T.cl_Die T.mt_Die_after G_Die_after hr T.B_Die_after .nil pass0 (pa_cons (vr 4) pa_nil))))))) (pss_one (ps_ret (m_and (PE.or (pe_meth0 (vr 0) T.cl_Told T.mt_Told_is_told G_Told_is_told hr T.B_Told_is_told .nil pass0) (pe_meth0 (vr 0) T.cl_Die T.mt_Die_is_told G_Die_is_told hr T.B_Die_is_told .nil pass0)) (m_and (pe_cmpR (o_eqD hr.units) (PE.or (pe_meth0 (vr 0) T.cl_Told T.mt_Told_kept G_Told_kept hr T.B_Told_kept .nil pass0) (pe_meth0 (vr 0) T.cl_Die T.mt_Die_kept G_Die_kept hr T.B_Die_kept .nil pass0)) (vr 2) (nomark _)) (m_and (pe_cmpR o_eq (PE.or (pe_meth0 (vr 0) T.cl_Told T.mt_Told_sides G_Told_sides hr T.B_Told_sides .nil pass0) (pe_meth0 (vr 0) T.cl_Die T.mt_Die_sides G_Die_sides hr T.B_Die_sides .nil pass0)) pe_int (nomark _)) (pe_one (pe_cmpR (o_eqD hr.units) (PE.or (pe_meth0 (vr 0) T.cl_Told T.mt_Told_parts G_Told_parts hr T.B_Told_parts .nil pass0) (pe_meth0 (vr 0) T.cl_Die T.mt_Die_parts G_Die_parts hr T.B_Die_parts .nil pass0)) (pe_lst pa_nil) (nomark _))))))))), ?_⟩
    refine .inl ⟨⟨_, SqL.of hl⟩, for_list (K := K) (a := l) (xs := xs) (fun i σ H' => SameT H H' ∧ TabsOk (tabs a) H' ∧ ∃ (here : V) (x3 x4 : Option V), σ = [some here, some (.ref l), some (.ref kt), x3, x4] ∧ At K a H' here (rows.drop i) kept) ⟨SameT.refl, hT, v, none, none, rfl, hat⟩ (fun i σ H' _ h => SqL.of (h.1.at hl)) ?_ ?_⟩
    · rintro i y σ H' hy ⟨t1, hT1, here, x3, x4, rfl, hat1⟩
      obtain ⟨⟨sz, t⟩, hri, p, ls, rfl, hp, hls⟩ := paired_get (RowsAt.t t1 hrs) hy
      have hdr : rows.drop i = (sz, t) :: rows.drop (i + 1) := by
        obtain ⟨hi, e⟩ := List.getElem?_eq_some_iff.mp hri
        rw [List.drop_eq_getElem_cons hi, e]
      rw [hdr] at hat1
      obtain ⟨ps, S', hd, esz, t0, t1', hpk, nxt⟩ := hat1.cons
      obtain ⟨⟨x, dx, l', ys', rfl, hx, _⟩, _⟩ := id hd
      have hpl := hd.2.2.2
      refine ⟨p, _, rfl, SqT.of hp, rfl, _, _, rfl, _, _, rfl, rfl, ?_⟩
      refine .inr ⟨x, dx, _, rfl, hx, rfl, _, rfl, ?_⟩
      refine .inr ⟨x, dx, _, rfl, hx, rfl, _, rfl, ?_⟩
      refine .inr ⟨x, dx, _, rfl, hx, rfl, _, ps, rfl, hd, fun H2 s2 => ?_⟩
      refine ⟨ls, sz, rfl, SqL.of (s2 _ _ hls), ?_⟩
      have esum : sz.sum = tot ps := by rw [← esz]; rfl
      rw [esum]
      refine iteNS rfl ?_
      have hd2 := hd.t s2.t
      refine .inr ⟨x, dx, _, rfl, s2 _ _ hx, rfl, _, ps, rfl, hd2, hT1.same s2, fun H3 r ys t3 hT3 hr0 hr3 hP3 => ?_⟩
      refine .inl ⟨⟨_, SqL.of hr3⟩, fun D hD => ?_⟩
      refine comp_list (K := K) (a := r) (xs := ys) (fun i zs H' => Same H3 H' ∧ H' D = some (.lst zs) ∧ i ≤ ps.length ∧ zs = ((ps.take i).map (·.1)).map V.int) ⟨Same.new hD, upd_same, Nat.zero_le _, rfl⟩ (fun i ys H' h => SqL.of (h.1 _ _ hr3)) (fun i ys H' h => h.2.1) ?_ ?_
      · rintro i y zs H4 P' hy ⟨s4, hD4, hi, rfl⟩ hP
        obtain ⟨⟨many, u⟩, hpt, q1, n, rfl, hq1⟩ := paired_get hP3 hy
        have ilt : i < ps.length := (List.getElem?_eq_some_iff.mp hpt).1
        refine ⟨q1, _, rfl, SqT.of (s4 _ _ hq1), rfl, _, _, rfl, _, _, rfl, rfl, trivial, hD4, by rw [List.length_map, List.length_map, List.length_take]; omega, hP _ _ ⟨s4.put hD, upd_same, ilt, ?_⟩⟩
        rw [List.take_add_one, hpt]
        simp
      · rintro zs H4 ⟨s4, hD4, _, rfl⟩
        rw [show ys.length = ps.length from hP3.length.symm, List.take_length, esz] at hD4
        have t24 := s2.t.trans (t3.trans s4.t)
        refine ne_ints (ns := sz) hD4 (t24.at hls) ?_
        have hd4 := hd.t t24
        refine ⟨x, dx, _, rfl, t24.at hx, rfl, _, ps, S', t, rfl, hd4, t0, t1', hpk, hT3.same s4, fun H5 v' t5 hT5 few => ?_⟩
        exact ⟨t1.trans (t24.trans t5), hT5, v', _, _, rfl, nxt _ _ few⟩
    · rintro σ H' ⟨t1, hT1, here, x3, x4, rfl, hat1⟩
      rw [← Paired.length hrs, List.drop_length] at hat1
      obtain ⟨x, dx, t, ns, rfl, hx, ht, hs⟩ := hat1.nil
      have : ns = ks := srt_uniq hs hks
      subst this
      refine .inl ⟨x, dx, _, rfl, hx, rfl, _, rfl, ?_⟩
      refine .inl ⟨x, dx, _, rfl, hx, rfl, x, dx, t, rfl, hx, ?_⟩
      refine eq_tups ht (t1.at hk) ?_
      refine .inl ⟨x, dx, _, rfl, hx, rfl, _, rfl, ?_⟩
      refine .inl ⟨x, dx, _, rfl, hx, rfl, _, rfl, fun p1 g1 => ?_⟩
      have s1 := Same.new (o := .lst []) g1
      refine ⟨Nat.zero_le _, fun p2 g2 => ?_⟩
      have s2 := Same.new (o := .lst []) g2
      exact eq_nils (s2 _ _ upd_same) upd_same (q _ (t1.trans (s1.t.trans s2.t)) (hT1.same (s1.trans s2)))
end
end My
set_option linter.all false
namespace FrM
theorem sumL_split (z : List Int) (p : Nat → Bool) : ∀ l : List Nat, sumL z l = sumL z (l.filter p) + sumL z (l.filter fun k => !p k) ∧ l.length = (l.filter p).length + (l.filter fun k => !p k).length
  | [] => by simp [sumL]
  | a :: l => by
    obtain ⟨h1, h2⟩ := sumL_split z p l
    have e : ∀ r : List Nat, sumL z (a :: r) = sz z a + sumL z r := fun r => by unfold sumL; rw [List.map_cons, List.sum_cons]
    cases h : p a with
    | true =>
      rw [List.filter_cons_of_pos (by exact h), List.filter_cons_of_neg (by simp [h]), e, e, List.length_cons, List.length_cons]
      lia
    | false =>
      rw [List.filter_cons_of_neg (by simp [h]), List.filter_cons_of_pos (by simp [h]), e, e, List.length_cons, List.length_cons]
      lia
theorem step_pos {z : List Int} {l : List Nat} {w : Int} (hz : ∀ k ∈ l, 1 ≤ sz z k) (hw : w < l.length) (w0 : 0 < w) : 0 < w - ((l.length : Int) - ((stay z l w).length : Int)) := by
  have hp := stay_pos hz hw (by lia)
  obtain ⟨h1, h2⟩ := sumL_split z (fun k => decide (sz z k * w < sumL z l)) l
  have hs : l.filter (fun k => decide (sz z k * w < sumL z l)) = stay z l w := rfl
  rw [hs] at h1 h2
  have h3 := sumL_ge z (stay z l w) fun k hk => hz k (List.mem_filter.mp hk).1
  have h4 := sum_ge_mul z w (sumL z l) (l.filter fun k => !decide (sz z k * w < sumL z l)) fun k hk => by
    have := (List.mem_filter.mp hk).2
    simpa using this
  generalize (l.filter fun k => !decide (sz z k * w < sumL z l)) = hi at *
  have h5 : sumL z hi ≤ sumL z l - 1 := by lia
  have h6 : sumL z hi * w ≤ (sumL z l - 1) * w := Int.mul_le_mul_of_nonneg_right h5 (by lia)
  rw [Int.sub_mul, Int.one_mul] at h6
  have h7 : (hi.length : Int) * sumL z l < w * sumL z l := by rw [Int.mul_comm w]; lia
  have h8 := sumL_ge z l hz
  have h9 := Int.lt_of_mul_lt_mul_right h7 (by lia)
  lia
theorem fin_pos {z : List Int} {n : Nat} {m : Int} (hz : ∀ k, k < n → 1 ≤ sz z k) : ∀ (c : Nat) (l : List Nat) (w : Int), l.length ≤ c → Rnd z n m l w → 0 < w → 0 < (fin z l w).2 ∧ ∀ k ∈ (fin z l w).1, sz z k * (fin z l w).2 < sumL z (fin z l w).1
  | 0, l, w, hc, h, _ => absurd h.pos (by lia)
  | c + 1, l, w, hc, h, w0 => by
    by_cases e : (stay z l w).length = l.length
    · rw [fin_stop e]
      refine ⟨w0, fun k hk => ?_⟩
      have := List.length_filter_eq_length_iff.mp e k hk
      simpa using this
    · rw [fin_go e]
      have := stay_le z l w
      exact fin_pos hz c _ _ (by lia) (h.step hz) (step_pos (fun k hk => hz k (h.sub k hk)) h.lt w0)
structure FrOk (f : Int × Int) : Prop where
  pos : 0 < f.2
  lo : 0 ≤ f.1
  hi : f.1 ≤ f.2
  bd : f.2 ≤ 576000000
  ends : ¬ (0 < f.1 ∧ f.1 < f.2) → f = (1, 1) ∨ f = (0, 1)
theorem low_ok {T B : Int} (h0 : 0 < T) (h1 : T < B) (h2 : B ≤ 576000000) : FrOk (lowP T B) := by
  have h := lowP_low (t := T) (b := B) (by lia)
  generalize lowP T B = f at h
  obtain ⟨t, b⟩ := f
  have hb : 0 < b := h.pos
  have hd : b ≤ B := (low_bd (by lia) h).1
  have e : t * B = T * b := h.eq
  have p1 : 0 < T * b := Int.mul_pos h0 hb
  have t0 : 0 < t := by
    rcases Int.lt_or_le 0 t with g | g
    · exact g
    · exact absurd (Int.mul_nonpos_of_nonpos_of_nonneg g (show 0 ≤ B by lia)) (by lia)
  have t1 : t < b := by
    have p2 : T * b < B * b := Int.mul_lt_mul_of_pos_right h1 hb
    rw [← e, Int.mul_comm B b] at p2
    exact Int.lt_of_mul_lt_mul_right p2 (by lia)
  exact ⟨hb, by show 0 ≤ t; lia, by show t ≤ b; lia, by show b ≤ 576000000; lia, fun g => absurd ⟨t0, t1⟩ g⟩
theorem due_ok {z : List Int} {m : Int} (hz : ∀ k, k < z.length → 1 ≤ sz z k) (hh : ∀ k, k < z.length → sz z k ≤ 24000000) (hl : z.length ≤ 24) (hm : 0 ≤ m) : ∀ f ∈ due z m, FrOk f := by
  have one : FrOk (1, 1) := ⟨by decide, by decide, by decide, by decide, fun _ => .inl rfl⟩
  have nil : FrOk (0, 1) := ⟨by decide, by decide, by decide, by decide, fun _ => .inr rfl⟩
  intro f hf
  unfold due at hf
  by_cases h1 : (z.length : Int) ≤ m
  · rw [if_pos h1] at hf
    obtain ⟨_, _, rfl⟩ := List.mem_map.mp hf
    exact one
  · rw [if_neg h1] at hf
    by_cases h2 : m = 0
    · rw [if_pos h2] at hf
      obtain ⟨_, _, rfl⟩ := List.mem_map.mp hf
      exact nil
    · rw [if_neg h2] at hf
      obtain ⟨k, hk, rfl⟩ := List.mem_map.mp hf
      have S := Rnd.start (z := z) (n := z.length) (m := m) (by lia) (by lia)
      have R := Rnd.fin hz _ _ _ (Nat.le_refl _) S
      obtain ⟨w0, hall⟩ := fin_pos hz _ _ _ (Nat.le_refl _) S (by lia)
      by_cases hd : decide (k ∈ (FrM.fin z (List.range z.length) m).1) = true
      · rw [if_pos hd]
        have hk' := of_decide_eq_true hd
        have h3 := sumL_le z 24000000 _ fun k hk => hh k (R.sub k hk)
        have h4 := R.len
        have h5 := hz k (R.sub k hk')
        exact low_ok (Int.mul_pos (by lia) w0) (hall k hk') (by lia)
      · rw [if_neg hd]
        exact one
end FrM
set_option Elab.async false
set_option linter.all false
set_option maxRecDepth 100000
set_option maxHeartbeats 4000000
namespace My
open PySem L2 FrM
def stS (places : List Int) (st : Nat) : Nd := if st = 1 ∨ places = [] then .told places else .start places st
def spLStart : Sp := fun vs H Q _ => ∃ (lp : Addr) (places : List Int) (st : Nat) (th : Int), vs = [.ref lp, .int (st : Nat), .int th] ∧ H lp = some (.lst (places.map V.int)) ∧ places.length ≤ 24 ∧ 1 ≤ st ∧ st ≤ 100 ∧
  ∀ H' p R kt xs rows kept ks, Same H H' → H' p = some (.tup [.ref R, .ref kt]) → H' R = some (.lst xs) → RowsAt H' rows xs → xs.length ≤ 24 → H' kt = some (.tup (ks.map V.int)) → Srt ks kept → Good (stS places st) rows kept → Q (.ref p) H'
theorem ones_at {g : Nat → Nd} {st k : Nat} (h : k < st) : ((List.range st).map fun f => ((1 : Int), g f))[k]? = some (1, g k) := by
  rw [List.getElem?_map, List.getElem?_range h]
  rfl
theorem tot_ones {g : Nat → Nd} {st : Nat} : ∀ k, k ≤ st → tot (((List.range st).map fun f => ((1 : Int), g f)).take k) = (k : Int)
  | 0, _ => by simp [tot]
  | k + 1, h => by
    rw [tot_succ (ones_at (by omega)), tot_ones k (by omega)]
    omega
theorem good_start {places : List Int} {st : Nat} {t : Int} (h1 : ¬ st = 1) (h2 : places ≠ []) (hs : 1 ≤ st) (hs' : st ≤ 100) (t0 : 0 ≤ t) (t1 : t < (st : Int)) : Good (stS places st) [(List.replicate st 1, t)] (every places t.toNat st) := by
  unfold stS
  rw [if_neg (by simp [h1, h2])]
  have hp : (Nd.start places st).parts = (List.range st).map fun f => ((1 : Int), Nd.told (every places f st)) := rfl
  have htot : tot (Nd.start places st).parts = (st : Int) := by
    have := tot_ones (g := fun f => Nd.told (every places f st)) (st := st) st (Nat.le_refl _)
    rw [List.take_of_length_le (by rw [List.length_map, List.length_range]; exact Nat.le_refl _)] at this
    exact this
  refine ⟨rfl, ?_, ?_, ?_, ?_, t0, by rw [htot]; exact t1, .told (every places t.toNat st), ?_, rfl⟩
  · rw [hp, List.map_map]
    refine List.ext_getElem (by simp) fun i h1 h2 => by simp
  · rw [hp]
    intro p hp'
    obtain ⟨f, _, rfl⟩ := List.mem_map.mp hp'
    exact Int.le_refl _
  · rw [hp, List.length_map, List.length_range]; exact hs
  · rw [hp, List.length_map, List.length_range]; exact hs'
  · rw [hp]
    refine pick_at _ t.toNat t 1 _ (fun p hp' => ?_) (ones_at (by omega)) ?_ ?_
    · obtain ⟨f, _, rfl⟩ := List.mem_map.mp hp'
      exact (by decide : (0 : Int) ≤ 1)
    · rw [tot_ones _ (by omega)]; omega
    · rw [tot_ones _ (by omega)]; omega
theorem good_told {places : List Int} {st : Nat} (h : st = 1 ∨ places = []) : Good (stS places st) [] places := by
  unfold stS
  rw [if_pos h]
  rfl
theorem every_take {places : List Int} {st fi j : Nat} (hj : j < places.length) : ((((List.range places.length).take (j + 1)).filter fun k => decide (k % st = fi)).filterMap (places[·]?)) = ((((List.range places.length).take j).filter fun k => decide (k % st = fi)).filterMap (places[·]?)) ++ (if j % st = fi then [places[j]] else []) := by
  rw [List.take_add_one, List.getElem?_range hj, List.filter_append, List.filterMap_append]
  congr 1
  by_cases h : j % st = fi <;> simp [h, hj]
def lR : Tl → List Int → List (List Int × Int)
  | x :: L, t :: ts => (if uns x.2 = true then [([x.2.1, x.2.2 - x.2.1], t % x.2.2)] else []) ++ lR L ts
  | _, _ => []
def lK : Tl → List Int → List Int
  | x :: L, t :: ts => (if t % x.2.2 < x.2.1 then [x.1] else []) ++ lK L ts
  | _, _ => []
def lO : Tl → List Int → List Int
  | x :: L, t :: ts => (if uns x.2 = true ∧ t % x.2.2 < x.2.1 then [x.1] else []) ++ lO L ts
  | _, _ => []
def sureL (L : Tl) : List Int := (L.filter fun x => decide (x.2 = (1, 1))).map (·.1)
def openL (L : Tl) : Tl := L.filter fun x => uns x.2
theorem lR_snoc {x : Int × (Int × Int)} {t : Int} : ∀ {L : Tl} {ts : List Int}, L.length = ts.length → lR (L ++ [x]) (ts ++ [t]) = lR L ts ++ if uns x.2 = true then [([x.2.1, x.2.2 - x.2.1], t % x.2.2)] else []
  | [], [], _ => by simp [lR]
  | [], _ :: _, h => by cases h
  | _ :: _, [], h => by cases h
  | y :: L, u :: ts, h => by
    show _ ++ lR (L ++ [x]) (ts ++ [t]) = (_ ++ lR L ts) ++ _
    rw [lR_snoc (by simpa using h), List.append_assoc]
theorem lK_snoc {x : Int × (Int × Int)} {t : Int} : ∀ {L : Tl} {ts : List Int}, L.length = ts.length → lK (L ++ [x]) (ts ++ [t]) = lK L ts ++ if t % x.2.2 < x.2.1 then [x.1] else []
  | [], [], _ => by simp [lK]
  | [], _ :: _, h => by cases h
  | _ :: _, [], h => by cases h
  | y :: L, u :: ts, h => by
    show _ ++ lK (L ++ [x]) (ts ++ [t]) = (_ ++ lK L ts) ++ _
    rw [lK_snoc (by simpa using h), List.append_assoc]
theorem good_loose : ∀ (L : Tl) (ts : List Int) (taken : List Int), L.length = ts.length → Good (.loose (openL L) taken) (lR L ts) (taken ++ lO L ts)
  | [], [], taken, _ => by
    show some taken = some (taken ++ [])
    rw [List.append_nil]
  | [], _ :: _, _, h => by cases h
  | _ :: _, [], _, h => by cases h
  | (p, c) :: L, t :: ts, taken, h => by
    have hl : L.length = ts.length := by simpa using h
    by_cases hu : uns c = true
    · have e1 : openL ((p, c) :: L) = (p, c) :: openL L := List.filter_cons_of_pos hu
      have e2 : lR ((p, c) :: L) (t :: ts) = ([c.1, c.2 - c.1], t % c.2) :: lR L ts := by
        show (if uns c = true then _ else _) ++ _ = _
        rw [if_pos hu]; rfl
      rw [e1, e2]
      have hc : 0 < c.1 ∧ c.1 < c.2 := of_decide_eq_true hu
      have htot : tot (Nd.loose ((p, c) :: openL L) taken).parts = c.2 := by
        show ([c.1, c.2 - c.1] : List Int).sum = c.2
        simp only [List.sum_cons, List.sum_nil]
        omega
      have t0 : 0 ≤ t % c.2 := Int.emod_nonneg _ (by omega)
      have t1 : t % c.2 < c.2 := Int.emod_lt_of_pos _ (by omega)
      refine ⟨rfl, rfl, ?_, (by show 1 ≤ 2; decide), (by show 2 ≤ 100; decide), t0, by rw [htot]; exact t1, ?_⟩
      · intro q hq
        have hq : q ∈ [(c.1, Nd.loose (openL L) (taken ++ [p])), (c.2 - c.1, Nd.loose (openL L) taken)] := hq
        simp only [List.mem_cons, List.not_mem_nil, or_false] at hq
        rcases hq with rfl | rfl
        · show 1 ≤ c.1; omega
        · show 1 ≤ c.2 - c.1; omega
      · by_cases hk : t % c.2 < c.1
        · refine ⟨.loose (openL L) (taken ++ [p]), ?_, ?_⟩
          · show (if t % c.2 < c.1 then _ else _) = _
            rw [if_pos hk]
          · have := good_loose L ts (taken ++ [p]) hl
            rw [List.append_assoc] at this
            have e3 : lO ((p, c) :: L) (t :: ts) = [p] ++ lO L ts := by
              show (if uns c = true ∧ t % c.2 < c.1 then _ else _) ++ _ = _
              rw [if_pos ⟨hu, hk⟩]
            rw [e3]
            exact this
        · refine ⟨.loose (openL L) taken, ?_, ?_⟩
          · show (if t % c.2 < c.1 then _ else (if t % c.2 - c.1 < c.2 - c.1 then _ else _)) = _
            rw [if_neg hk, if_pos (by omega)]
          · have e3 : lO ((p, c) :: L) (t :: ts) = lO L ts := by
              show (if uns c = true ∧ t % c.2 < c.1 then _ else _) ++ _ = _
              rw [if_neg (fun z => hk z.2)]; rfl
            rw [e3]
            exact good_loose L ts taken hl
    · have e1 : openL ((p, c) :: L) = openL L := List.filter_cons_of_neg hu
      have e2 : lR ((p, c) :: L) (t :: ts) = lR L ts := by
        show (if uns c = true then _ else _) ++ _ = _
        rw [if_neg hu]; rfl
      have e3 : lO ((p, c) :: L) (t :: ts) = lO L ts := by
        show (if uns c = true ∧ t % c.2 < c.1 then _ else _) ++ _ = _
        rw [if_neg (fun z => hu z.1)]; rfl
      rw [e1, e2, e3]
      exact good_loose L ts taken hl
theorem loose_perm : ∀ (L : Tl) (ts : List Int), L.length = ts.length → (∀ x ∈ L, FrOk x.2) → (lK L ts).Perm (sureL L ++ lO L ts)
  | [], [], _, _ => .nil
  | [], _ :: _, h, _ => by cases h
  | _ :: _, [], h, _ => by cases h
  | (p, c) :: L, t :: ts, h, hf => by
    have ih := loose_perm L ts (by simpa using h) fun x hx => hf x (List.mem_cons_of_mem _ hx)
    have eK : lK ((p, c) :: L) (t :: ts) = (if t % c.2 < c.1 then [p] else []) ++ lK L ts := rfl
    have eO : lO ((p, c) :: L) (t :: ts) = (if uns c = true ∧ t % c.2 < c.1 then [p] else []) ++ lO L ts := rfl
    by_cases hu : uns c = true
    · have hc : 0 < c.1 ∧ c.1 < c.2 := of_decide_eq_true hu
      have eS : sureL ((p, c) :: L) = sureL L := by
        unfold sureL
        rw [List.filter_cons_of_neg]
        intro z
        have z : c = (1, 1) := of_decide_eq_true z
        rw [z] at hc
        simp at hc
      rw [eK, eO, eS]
      by_cases hk : t % c.2 < c.1
      · rw [if_pos hk, if_pos ⟨hu, hk⟩]
        exact (List.Perm.cons p ih).trans List.perm_middle.symm
      · rw [if_neg hk, if_neg (fun z => hk z.2)]
        exact ih
    · have hno : ¬ (0 < c.1 ∧ c.1 < c.2) := fun z => hu (decide_eq_true z)
      rw [eK, eO, if_neg (fun z : uns c = true ∧ _ => hu z.1)]
      rcases (hf (p, c) (List.mem_cons_self ..)).ends hno with z | z
      · have z : c = (1, 1) := z
        subst z
        have eS : sureL ((p, (1, 1)) :: L) = p :: sureL L := by
          unfold sureL
          rw [List.filter_cons_of_pos (by simp)]
          rfl
        rw [eS, if_pos (by show t % 1 < 1; omega)]
        exact List.Perm.cons p ih
      · have z : c = (0, 1) := z
        subst z
        have eS : sureL ((p, (0, 1)) :: L) = sureL L := by
          unfold sureL
          rw [List.filter_cons_of_neg (by simp)]
        rw [eS, if_neg (by show ¬ t % 1 < 0; omega)]
        exact ih
theorem lK_len : ∀ (L : Tl) (ts : List Int), (lK L ts).length ≤ L.length
  | [], _ => Nat.zero_le _
  | _ :: _, [] => Nat.zero_le _
  | x :: L, t :: ts => by
    show (_ ++ lK L ts).length ≤ _
    have := lK_len L ts
    rw [List.length_append, List.length_cons]
    split <;> simp <;> omega
theorem lR_len : ∀ (L : Tl) (ts : List Int), (lR L ts).length ≤ L.length
  | [], _ => Nat.zero_le _
  | _ :: _, [] => Nat.zero_le _
  | x :: L, t :: ts => by
    show (_ ++ lR L ts).length ≤ _
    have := lR_len L ts
    rw [List.length_append, List.length_cons]
    split <;> simp <;> omega
def RowN (R kl : Addr) (H : Hp) (r : List Int × Int) (x : V) : Prop := ∃ p ls, x = .ref p ∧ ls ≠ R ∧ ls ≠ kl ∧ H p = some (.tup [.ref ls, .int r.2]) ∧ H ls = some (.lst (r.1.map V.int))
abbrev RowsN (R kl : Addr) (H : Hp) : List (List Int × Int) → List V → Prop := Paired (RowN R kl H)
theorem RowsN.same {R kl : Addr} {H H' : Hp} (s : Same H H') {rs : List (List Int × Int)} {xs : List V} (h : RowsN R kl H rs xs) : RowsN R kl H' rs xs := paired_imp (fun r x ⟨p, ls, h1, n1, n2, h2, h3⟩ => ⟨p, ls, h1, n1, n2, s _ _ h2, s _ _ h3⟩) h
theorem RowsN.putR {R kl : Addr} {H : Hp} {xs' : List V} {o : HO} (hR : H R = some (.lst xs')) {rs : List (List Int × Int)} {xs : List V} (h : RowsN R kl H rs xs) : RowsN R kl (upd H R o) rs xs := paired_imp (fun r x ⟨p, ls, h1, n1, n2, h2, h3⟩ => ⟨p, ls, h1, n1, n2, notL hR h2 (fun ys z => nomatch z), by rw [upd_ne n1]; exact h3⟩) h
theorem RowsN.putK {R kl : Addr} {H : Hp} {xs' : List V} {o : HO} (hK : H kl = some (.lst xs')) {rs : List (List Int × Int)} {xs : List V} (h : RowsN R kl H rs xs) : RowsN R kl (upd H kl o) rs xs := paired_imp (fun r x ⟨p, ls, h1, n1, n2, h2, h3⟩ => ⟨p, ls, h1, n1, n2, notL hK h2 (fun ys z => nomatch z), by rw [upd_ne n2]; exact h3⟩) h
theorem RowsN.rows {R kl : Addr} {H : Hp} {rs : List (List Int × Int)} {xs : List V} (h : RowsN R kl H rs xs) : RowsAt H rs xs := paired_imp (fun r x ⟨p, ls, h1, _, _, h2, h3⟩ => ⟨p, ls, h1, h2, h3⟩) h
def spLLoose (K : PySem.W.Frag) : Sp := fun vs H Q _ => ∃ (lp ls lt : Addr) (L : Tl) (xs : List V) (throws : List Int), vs = [.ref lp, .ref ls, .ref lt] ∧ H lp = some (.lst ((L.map (·.1)).map V.int)) ∧ H ls = some (.lst xs) ∧ AllF K H (L.map (·.2)) xs ∧ H lt = some (.lst (throws.map V.int)) ∧ L.length ≤ 24 ∧ throws.length = 25 ∧ (∀ x ∈ L, FrOk x.2) ∧
  ∀ H' p R kt xs rows kept ks, Same H H' → H' p = some (.tup [.ref R, .ref kt]) → H' R = some (.lst xs) → RowsAt H' rows xs → xs.length ≤ 24 → H' kt = some (.tup (ks.map V.int)) → Srt ks kept → Good (.loose (openL L) (sureL L)) rows kept → Q (.ref p) H'
section
variable {P : Program} {w : World} {K : PySem.W.Frag} {mg : Str → Option Value} {base : Heap} {a : Ad}
theorem ok_lstart (T : Txt K mg a) : FnOk P w K mg base CX0 1 a.f_L_start a.d_L_start ["_law_places", "_law_step", "_law_throw"] spLStart := by
  refine T.F_L_start.ok sc_L_start (fun vs H Q E h => ?_) (fun cdv A outer s H vs Q E hr h => ?_)
  · obtain ⟨lp, places, st, th, rfl, _⟩ := h; rfl
  · obtain ⟨lp, places, st, th, rfl, hp, hpl, hs1, hs2, q⟩ := h
    have small : sizeLine = 16777216 := sizeLine_eq
    refine ⟨_, (pss_cons (ps_if (PW.pt (pw_or (t_cmp o_eq (vr 1) pe_int (nomark _)) (pw_or1 (t_cmp (o_eqD hr.units) (vr 0) (pe_lst pa_nil) (nomark _))))) (pss_one (ps_ret (pe_tup (pa_cons (pe_lst pa_nil) (pa_cons (pe_callTy call_tuple_of rfl T.z_tuple bt_tuple (pa_cons (pe_callB call_sortedI rfl T.z_sorted bt_sorted (pa_cons (vr 0) pa_nil)) pa_nil)) pa_nil))))) pss_nil) (pss_cons (ps_setC rfl (i := 3) sc_L_start.nd rfl rfl (by with_unfolding_all rfl) (N := ["_law_k", "_law_places", "_law_step", "_law_throw"]) (ix := [none, some 0, some 1, some 2]) ⟨rfl, rfl, rfl, rfl, ⟨rfl, rfl, rfl, ⟨rfl, rfl, rfl, ⟨rfl, rfl, rfl, trivial⟩⟩⟩⟩ (pi_range1 rfl T.z_range (pa_cons (pe_callB call_lenM rfl T.z_len bt_len (pa_cons (vr 0) pa_nil)) pa_nil)) ⟨fun C s H fp => pg_name (i := 0) (show List.Nodup (["_law_k", "_law_places", "_law_step", "_law_throw"] : List Str) by decide +kernel) rfl (Or.inl rfl), fun C s H fp => pts_one (t_cmp o_eq (pe_op o_mod (vr 0) (vr 2)) (pe_op o_mod (vr 3) (vr 2)) (nomark _)), fun C s H fp => (pe_ix (ix_seqK (K := K) rfl) (vr 1) (vr 0) (fun _ _ => rfl))⟩) (pss_one (ps_ret (pe_tup (pa_cons (pe_lst (pa_cons (pe_tup (pa_cons (pe_comp rfl (N := ["_law_side"]) (ix := [none]) ⟨rfl, rfl, rfl, rfl, trivial⟩ (pi_range1 rfl T.z_range (pa_cons (vr 1) pa_nil)) ⟨fun C s H fp => pg_name (i := 0) (show List.Nodup (["_law_side"] : List Str) by decide +kernel) rfl (Or.inl rfl), fun C s H fp => pts_nil, fun C s H fp => pe_int⟩) (pa_cons (pe_op o_mod (vr 2) (vr 1)) pa_nil))) pa_nil)) (pa_cons (pe_callTy call_tuple_of rfl T.z_tuple bt_tuple (pa_cons (pe_callB call_sortedI rfl T.z_sorted bt_sorted (pa_cons (vr 3) pa_nil)) pa_nil)) pa_nil))))))), ?_⟩
    refine ifC (fun c => ?_) fun c => ?_
    · have GT : st = 1 ∨ places = [] := .inl (by omega)
      have s1 := Same.refl H
      refine ⟨Nat.zero_le _, fun R fR => ?_⟩
      have sR := Same.new (o := .lst []) fR
      refine ⟨lp, places, rfl, SqL.of ((s1.trans sR) _ _ hp), by omega, fun p ns hpm hs fp => ?_⟩
      have s2 := Same.new (o := .lst (ns.map V.int)) fp
      refine ⟨p, _, rfl, .inl ⟨SqL.of upd_same, fun kt fkt => ?_⟩⟩
      have s3 := Same.new (o := .tup (ns.map V.int)) fkt
      refine ⟨two_le _ _, fun pr fpr => ?_⟩
      have s4 := Same.new (o := .tup [.ref R, .ref kt]) fpr
      exact q _ pr R kt [] [] places ns (s1.trans (sR.trans (s2.trans (s3.trans s4)))) upd_same ((s2.trans (s3.trans s4)) _ _ upd_same) .nil (Nat.zero_le _) (s4 _ _ upd_same) ⟨hpm, hs⟩ (good_told GT)
    have c1 : ¬ st = 1 := by omega
    refine ⟨Nat.zero_le _, fun p0 f0 => ?_⟩
    have s1 := Same.new (o := .lst []) f0
    have hl0 : (upd H p0 (.lst [])) p0 = some (.lst []) := upd_same
    generalize upd H p0 (.lst []) = H1 at s1 hl0
    have hsd : SeqAt.shaped (.list (places.map PyData.int)) = true := by
      obtain ⟨k1, k2⟩ := lay_ints places
      unfold SeqAt.shaped
      rw [PyData.canLay0, k1, Bool.true_and]
      refine decide_eq_true ?_
      simp only [PyData.depth]
      omega
    refine ⟨.list (places.map PyData.int), .list [], by rw [DV]; exact ⟨lp, _, rfl, SqL.of (s1 _ _ hp), dvs_int _⟩, by rw [DV]; exact ⟨p0, _, rfl, SqL.of hl0, by simp [DVs]⟩, hsd, by decide +kernel, ?_⟩
    by_cases hne : places = []
    · have GT : st = 1 ∨ places = [] := .inr hne
      have ev : PyData.eqv (.list (places.map PyData.int)) (.list []) = true := by rw [hne]; decide +kernel
      rw [show (if false = true then !PyData.eqv (.list (places.map PyData.int)) (.list []) else PyData.eqv (.list (places.map PyData.int)) (.list [])) = true from ev]
      refine ⟨Nat.zero_le _, fun R fR => ?_⟩
      have sR := Same.new (o := .lst []) fR
      refine ⟨lp, places, rfl, SqL.of ((s1.trans sR) _ _ hp), by omega, fun p ns hpm hs fp => ?_⟩
      have s2 := Same.new (o := .lst (ns.map V.int)) fp
      refine ⟨p, _, rfl, .inl ⟨SqL.of upd_same, fun kt fkt => ?_⟩⟩
      have s3 := Same.new (o := .tup (ns.map V.int)) fkt
      refine ⟨two_le _ _, fun pr fpr => ?_⟩
      have s4 := Same.new (o := .tup [.ref R, .ref kt]) fpr
      exact q _ pr R kt [] [] places ns (s1.trans (sR.trans (s2.trans (s3.trans s4)))) upd_same ((s2.trans (s3.trans s4)) _ _ upd_same) .nil (Nat.zero_le _) (s4 _ _ upd_same) ⟨hpm, hs⟩ (good_told GT)
    have ev : PyData.eqv (.list (places.map PyData.int)) (.list []) = false := by
      cases places with
      | nil => exact absurd rfl hne
      | cons x r => simp [PyData.eqv, PyData.eqvAll]
    rw [show (if false = true then !PyData.eqv (.list (places.map PyData.int)) (.list []) else PyData.eqv (.list (places.map PyData.int)) (.list [])) = false from ev]
    have pos : (0 : Int) < (st : Int) := by omega
    obtain ⟨t, ht⟩ : ∃ t, t = th % (st : Int) := ⟨_, rfl⟩
    have t0 : 0 ≤ t := by rw [ht]; exact Int.emod_nonneg _ (by omega)
    have t1 : t < (st : Int) := by rw [ht]; exact Int.emod_lt_of_pos _ pos
    have hp1 := s1 _ _ hp
    refine ⟨_, .inl (SqL.of hp1), ?_⟩
    rw [List.length_map]
    refine ⟨(places.length : Int), rfl, by omega, by omega, fun D hD => ?_⟩
    refine comp_rng (lo := 0) (n := places.length) (fun j ys H2 => j ≤ places.length ∧ Same H1 H2 ∧ H2 D = some (.lst ys) ∧ ys = ((((List.range places.length).take j).filter fun k => decide (k % st = t.toNat)).filterMap (places[·]?)).map V.int) ⟨Nat.zero_le _, Same.new hD, upd_same, rfl⟩ (fun j ys H2 h => h.2.2.1) ?_ ?_
    · rintro j ys H2 P' hj ⟨_, s2, hD2, rfl⟩ hP
      have et := every_take (st := st) (fi := t.toNat) hj
      have lenb : ((((List.range places.length).take j).filter fun k => decide (k % st = t.toNat)).filterMap (places[·]?)).length ≤ 24 := by
        refine Nat.le_trans (List.length_filterMap_le _ _) (Nat.le_trans (List.length_filter_le _ _) ?_)
        rw [List.length_take, List.length_range]; omega
      refine ⟨⟨rfl, rfl, rfl, trivial⟩, cp pos, cp pos, ?_⟩
      refine ifC (fun c => ?_) fun c => ?_
      · have c' : j % st = t.toNat := by
          have c : (0 + (j : Int)) % (st : Int) = th % (st : Int) := c
          rw [Int.zero_add, ← ht] at c
          omega
        rw [if_pos c'] at et
        refine .inl ⟨lp, _, _, .int places[j], rfl, rfl, SqL.of (s2 _ _ hp1), atI_cons j (by omega) (by rw [List.getElem?_map, List.getElem?_eq_getElem hj]; rfl), hD2, by rw [List.length_map]; omega, hP _ _ ⟨hj, s2.put hD, upd_same, ?_⟩⟩
        rw [et, List.map_append]; rfl
      · have c' : ¬ j % st = t.toNat := fun z => c (by
          show (0 + (j : Int)) % (st : Int) = th % (st : Int)
          rw [Int.zero_add, ← ht]
          omega)
        rw [if_neg c', List.append_nil] at et
        exact hP _ _ ⟨hj, s2, hD2, by rw [et]⟩
    · rintro ys H2 ⟨_, s2, hD2, rfl⟩
      rw [List.take_of_length_le (by rw [List.length_range]; exact Nat.le_refl _)] at hD2
      have hD2 : H2 D = some (.lst ((every places t.toNat st).map V.int)) := hD2
      refine ⟨(st : Int), rfl, by omega, by omega, fun D2 hD3 => ?_⟩
      refine comp_rng (lo := 0) (n := st) (fun j ys H3 => j ≤ st ∧ Same H2 H3 ∧ H3 D2 = some (.lst ys) ∧ ys = (List.replicate j (1 : Int)).map V.int) ⟨Nat.zero_le _, Same.new hD3, upd_same, rfl⟩ (fun j ys H2 h => h.2.2.1) ?_ ?_
      · rintro j ys H3 P' hj ⟨_, s3, hD4, rfl⟩ hP
        refine ⟨trivial, hD4, by rw [List.length_map, List.length_replicate]; omega, hP _ _ ⟨hj, s3.put hD3, upd_same, ?_⟩⟩
        rw [List.replicate_succ', List.map_append]; rfl
      · rintro ys H3 ⟨_, s3, hD4, rfl⟩
        refine ⟨cp pos, two_le _ _, fun p1 f1 => ?_⟩
        dsimp only
        rw [← ht]
        have s4 := Same.new (o := .tup [.ref D2, .int t]) f1
        refine ⟨(show 1 ≤ sizeLine by decide), fun R fR => ?_⟩
        have s5 := Same.new (o := .lst [.ref p1]) fR
        have hel := every_len places t.toNat st
        refine ⟨D, every places t.toNat st, rfl, SqL.of ((s3.trans (s4.trans s5)) _ _ hD2), by omega, fun p ns hpm hs fp => ?_⟩
        have s6 := Same.new (o := .lst (ns.map V.int)) fp
        refine ⟨p, _, rfl, .inl ⟨SqL.of upd_same, fun kt fkt => ?_⟩⟩
        have s7 := Same.new (o := .tup (ns.map V.int)) fkt
        refine ⟨two_le _ _, fun pr fpr => ?_⟩
        have s8 := Same.new (o := .tup [.ref R, .ref kt]) fpr
        have s68 := s6.trans (s7.trans s8)
        have s58 := s5.trans s68
        exact q _ pr R kt _ [(List.replicate st 1, t)] (every places t.toNat st) ns (s1.trans (s2.trans (s3.trans (s4.trans s58)))) upd_same (s68 _ _ upd_same) (.cons ⟨p1, D2, rfl, s58 _ _ upd_same, (s4.trans s58) _ _ hD4⟩ .nil) (by show 1 ≤ 24; decide) (s8 _ _ upd_same) ⟨hpm, hs⟩ (good_start c1 hne hs1 hs2 t0 t1)
theorem ok_lloose (T : Txt K mg a) : FnOk P w K mg base CX0 1 a.f_L_loose a.d_L_loose ["_law_places", "_law_shares", "_law_throws"] (spLLoose K) := by
  refine T.F_L_loose.ok sc_L_loose (fun vs H Q E h => ?_) (fun cdv A outer s H vs Q E hr h => ?_)
  · obtain ⟨lp, ls, lt, L, xs, throws, rfl, _⟩ := h; rfl
  · obtain ⟨lp, ls, lt, L, xs, throws, rfl, hp, hsh, hF, ht, hL, hth, hok, q⟩ := h
    have small : sizeLine = 16777216 := sizeLine_eq
    refine ⟨_, (pss_cons (ps_set (i := 3) sc_L_loose.nd rfl (Or.inl rfl) (pe_lst pa_nil)) (pss_cons (ps_set (i := 4) sc_L_loose.nd rfl (Or.inl rfl) (pe_lst pa_nil)) (pss_cons (ps_for PassesOwn.never rfl (pi_range1 rfl T.z_range (pa_cons (pe_callB call_lenM rfl T.z_len bt_len (pa_cons (vr 0) pa_nil)) pa_nil)) (pg_name (i := 5) sc_L_loose.nd rfl (Or.inl rfl)) (pss_cons (ps_asg (pe_ix ix_seq (vr 1) (vr 5) (fun _ _ => rfl)) (pg_tup rfl (pgs_cons (pg_name (i := 6) sc_L_loose.nd rfl (Or.inl rfl)) (pgs_cons (pg_name (i := 7) sc_L_loose.nd rfl (Or.inl rfl)) pgs_nil)))) (pss_cons (ps_set (i := 8) sc_L_loose.nd rfl (Or.inl rfl) (pe_op o_mod (pe_ix ix_seq (vr 2) (vr 5) (fun _ _ => rfl)) (vr 7))) (pss_consM (ps_if (t_chain o_lt o_lt pe_int (vr 6) (vr 7)) (pss_one (ps_expr (pe_m.append (vr 3) (pa_cons (pe_tup (pa_cons (pe_lst (pa_cons (vr 6) (pa_cons (pe_op o_sub (vr 7) (vr 6)) pa_nil))) (pa_cons (vr 8) pa_nil))) pa_nil)))) pss_nil) (pss_one (ps_if (t_cmp o_lt (vr 8) (vr 6) (nomark _)) (pss_one (ps_expr (pe_m.append (vr 4) (pa_cons (pe_ix ix_seq (vr 0) (vr 5) (fun _ _ => rfl)) pa_nil)))) pss_nil)))))) (pss_one (ps_ret (pe_tup (pa_cons (vr 3) (pa_cons (pe_callTy call_tuple_of rfl T.z_tuple bt_tuple (pa_cons (pe_callB call_sortedI rfl T.z_sorted bt_sorted (pa_cons (vr 4) pa_nil)) pa_nil)) pa_nil)))))))), ?_⟩
    refine ⟨Nat.zero_le _, fun R fR => ?_⟩
    have sR := Same.new (o := .lst []) fR
    refine ⟨Nat.zero_le _, fun kl fk => ?_⟩
    have sk := Same.new (o := .lst []) fk
    have nRk : R ≠ kl := ne_of_none upd_same fk
    have fkH : H kl = none := sR.free fk
    have s0 := sR.trans sk
    have hR0 : (upd (upd H R (.lst [])) kl (.lst [])) R = some (.lst []) := sk _ _ upd_same
    have hk0 : (upd (upd H R (.lst [])) kl (.lst [])) kl = some (.lst []) := upd_same
    generalize upd (upd H R (.lst [])) kl (.lst []) = H0 at s0 hR0 hk0
    refine ⟨_, .inl (SqL.of (s0 _ _ hp)), ?_⟩
    rw [List.length_map, List.length_map]
    refine ⟨(L.length : Int), rfl, by omega, by omega, for_range (lo := 0) (n := L.length) (fun i σ H' => i ≤ L.length ∧ Same H H' ∧ ∃ (xr : List V) (x5 x6 x7 x8 : Option V), σ = [some (.ref lp), some (.ref ls), some (.ref lt), some (.ref R), some (.ref kl), x5, x6, x7, x8] ∧ H' R = some (.lst xr) ∧ RowsN R kl H' (lR (L.take i) (throws.take i)) xr ∧ H' kl = some (.lst ((lK (L.take i) (throws.take i)).map V.int)))
      ⟨Nat.zero_le _, s0, [], none, none, none, none, rfl, hR0, .nil, hk0⟩ ?_ ?_⟩
    · rintro i σ H' hi ⟨_, s1, xr, x5, x6, x7, x8, rfl, hR, hrs, hk⟩
      have hit : i < throws.length := by omega
      have exi : L.take (i + 1) = L.take i ++ [L[i]] := by rw [List.take_add_one, List.getElem?_eq_getElem hi]; rfl
      have eti : throws.take (i + 1) = throws.take i ++ [throws[i]] := by rw [List.take_add_one, List.getElem?_eq_getElem hit]; rfl
      have lt2 : (L.take i).length = (throws.take i).length := by rw [List.length_take, List.length_take]; omega
      have rS := lR_snoc (x := L[i]) (t := throws[i]) lt2
      have kS := lK_snoc (x := L[i]) (t := throws[i]) lt2
      rw [← exi, ← eti] at rS kS
      have o := hok L[i] (List.getElem_mem hi)
      obtain ⟨⟨p, c⟩, hx⟩ : ∃ y, L[i] = y := ⟨_, rfl⟩
      rw [hx] at rS kS o
      have xl : xr.length ≤ 24 := by rw [← hrs.length]; have := lR_len (L.take i) (throws.take i); rw [List.length_take] at this; omega
      have kl24 : (lK (L.take i) (throws.take i)).length ≤ 24 := by have := lK_len (L.take i) (throws.take i); rw [List.length_take] at this; omega
      have hfl : xs.length = L.length := by rw [← hF.len, List.length_map]
      obtain ⟨f, hf, pc, epc, hpc⟩ := (hF.same s1).get (List.getElem?_eq_getElem (show i < xs.length by omega))
      rw [List.getElem?_map, List.getElem?_eq_getElem hi, hx] at hf
      cases hf
      have pc2 : 0 < c.2 := o.pos
      refine .inl ⟨ls, _, _, .ref pc, rfl, rfl, SqL.of (s1 _ _ hsh), atI_cons i (by omega) (by rw [List.getElem?_eq_getElem (show i < xs.length by omega), epc]), pc, _, rfl, hpc.sq, rfl, _, _, rfl, _, _, rfl, rfl, ?_⟩
      refine .inl ⟨lt, _, _, .int throws[i], rfl, rfl, SqL.of (s1 _ _ ht), atI_cons i (by omega) (by rw [List.getElem?_map, List.getElem?_eq_getElem hit]; rfl), cp pc2, ?_⟩
      refine ⟨fun σ' H3 => Same H H3 ∧ ∃ xr', σ' = [some (.ref lp), some (.ref ls), some (.ref lt), some (.ref R), some (.ref kl), some (.int (0 + (i : Int))), some (.int c.1), some (.int c.2), some (.int (throws[i] % c.2))] ∧ H3 R = some (.lst xr') ∧ RowsN R kl H3 (lR (L.take (i + 1)) (throws.take (i + 1))) xr' ∧ H3 kl = some (.lst ((lK (L.take i) (throws.take i)).map V.int)), ?_, ?_⟩
      · have no : uns c = false → Same H H' ∧ ∃ xr', [some (V.ref lp), some (.ref ls), some (.ref lt), some (.ref R), some (.ref kl), some (.int (0 + (i : Int))), some (.int c.1), some (.int c.2), some (.int (throws[i] % c.2))] = [some (.ref lp), some (.ref ls), some (.ref lt), some (.ref R), some (.ref kl), some (.int (0 + (i : Int))), some (.int c.1), some (.int c.2), some (.int (throws[i] % c.2))] ∧ H' R = some (.lst xr') ∧ RowsN R kl H' (lR (L.take (i + 1)) (throws.take (i + 1))) xr' ∧ H' kl = some (.lst ((lK (L.take i) (throws.take i)).map V.int)) := fun hu => by
          refine ⟨s1, xr, rfl, hR, ?_, hk⟩
          rw [rS, if_neg (by rw [hu]; decide), List.append_nil]
          exact hrs
        refine ifC (fun c1 => ifC (fun c2 => ?_) fun c2 => no ?_) fun c1 => no ?_
        · have hu : uns c = true := decide_eq_true ⟨c1, c2⟩
          refine ⟨.inl ⟨rfl, _, SqL.of hR⟩, two_le _ _, fun l1 f1 => ?_⟩
          have u1 := Same.new (o := .lst [.int c.1, .int (c.2 - c.1)]) f1
          have n1 : l1 ≠ R := fun z => by rw [z, hR] at f1; cases f1
          have n2 : l1 ≠ kl := fun z => by rw [z, hk] at f1; cases f1
          refine ⟨two_le _ _, fun p1 g1 => ?_⟩
          have u2 := Same.new (o := .tup [.ref l1, .int (throws[i] % c.2)]) g1
          have u12 := u1.trans u2
          have hR2 := u12 _ _ hR
          have hk2 := u12 _ _ hk
          refine ⟨R, xr, _, rfl, rfl, hR2, by omega, ?_⟩
          refine ⟨(s1.trans u12).put fR, xr ++ [.ref p1], rfl, upd_same, ?_, by rw [upd_ne nRk.symm]; exact hk2⟩
          rw [rS, if_pos hu]
          exact RowsN.putR hR2 (paired_snoc ⟨p1, l1, rfl, n1, n2, upd_same, u2 _ _ upd_same⟩ (hrs.same u12))
        · exact decide_eq_false fun z => c2 z.2
        · exact decide_eq_false fun z => c1 z.1
      · rintro σ' H3 ⟨s3, xr', rfl, hR3, hrs3, hk3⟩
        refine ifC (fun c1 => ?_) fun c1 => ?_
        · have c1 : throws[i] % c.2 < c.1 := c1
          refine ⟨.inl ⟨rfl, _, SqL.of hk3⟩, .inl ⟨lp, _, _, .int p, rfl, rfl, SqL.of (s3 _ _ hp), atI_cons i (by omega) (by rw [List.getElem?_map, List.getElem?_map, List.getElem?_eq_getElem hi, hx]; rfl), kl, _, _, rfl, rfl, hk3, by rw [List.length_map]; omega, ?_⟩⟩
          refine ⟨hi, s3.put fkH, xr', _, _, _, _, rfl, by rw [upd_ne nRk]; exact hR3, RowsN.putK hk3 hrs3, ?_⟩
          rw [upd_same, kS, if_pos c1, List.map_append]; rfl
        · have c1 : ¬ throws[i] % c.2 < c.1 := c1
          exact ⟨hi, s3, xr', _, _, _, _, rfl, hR3, hrs3, by rw [kS, if_neg c1, List.append_nil]; exact hk3⟩
    · rintro σ H' ⟨_, s1, xr, x5, x6, x7, x8, rfl, hR, hrs, hk⟩
      rw [List.take_of_length_le (Nat.le_refl _)] at hrs hk
      have tl : L.length = (throws.take L.length).length := by rw [List.length_take]; omega
      have kl24 := lK_len L (throws.take L.length)
      refine ⟨kl, _, rfl, SqL.of hk, by omega, fun p ns hpm hs fp => ?_⟩
      have s2 := Same.new (o := .lst (ns.map V.int)) fp
      refine ⟨p, _, rfl, .inl ⟨SqL.of upd_same, fun kt fkt => ?_⟩⟩
      have s3 := Same.new (o := .tup (ns.map V.int)) fkt
      refine ⟨two_le _ _, fun pr fpr => ?_⟩
      have s4 := Same.new (o := .tup [.ref R, .ref kt]) fpr
      have s24 := s2.trans (s3.trans s4)
      have xl : xr.length ≤ 24 := by rw [← hrs.length]; have := lR_len L (throws.take L.length); omega
      exact q _ pr R kt xr _ _ ns (s1.trans s24) upd_same (s24 _ _ hR) (RowsAt.t s24.t hrs.rows) xl (s4 _ _ upd_same) ⟨hpm.trans (loose_perm L _ tl hok), hs⟩ (good_loose L _ _ tl)
end
end My
set_option Elab.async false
set_option linter.all false
set_option maxRecDepth 100000
set_option maxHeartbeats 4000000
namespace My
open PySem L2 FrM
abbrev Mb := Int × Int × List Str
def MbAt (H : Hp) (m : Mb) (x : V) : Prop := ∃ q pt, x = .ref q ∧ H q = some (.tup [.int m.1, .int m.2.1, .ref pt]) ∧ H pt = some (.tup (m.2.2.map V.str))
abbrev CrAt (H : Hp) : List Mb → List V → Prop := Paired (MbAt H)
theorem CrAt.tk {H H' : Hp} (k : TK H H') : ∀ {ms : List Mb} {xs : List V}, CrAt H ms xs → CrAt H' ms xs
  | _, _, .nil => .nil
  | _, _, .cons ⟨q, pt, h1, h2, h3⟩ t => .cons ⟨q, pt, h1, k _ _ h2, k _ _ h3⟩ (CrAt.tk k t)
theorem SameT.tk {H H' : Hp} (s : SameT H H') : TK H H' := fun a xs h => s.at h
theorem CrAt.get {H : Hp} : ∀ {ms : List Mb} {xs : List V} {i : Nat} {x : V}, CrAt H ms xs → xs[i]? = some x → ∃ r, ms[i]? = some r ∧ MbAt H r x
  | _, _, _, _, .nil, h => by cases h
  | _, _, 0, _, .cons r _, h => ⟨_, rfl, by cases h; exact r⟩
  | _, _, i + 1, _, .cons _ t, h => CrAt.get (i := i) t h
theorem CrAt.len {H : Hp} {ms : List Mb} {xs : List V} (h : CrAt H ms xs) : ms.length = xs.length := Paired.length h
def plc (ms : List Mb) : List Int := ms.map (·.1)
def spPlaces : Sp := fun vs H Q _ => ∃ (l : Addr) (xs : List V) (ms : List Mb), vs = [.ref l] ∧ H l = some (.lst xs) ∧ CrAt H ms xs ∧ ms.length ≤ 24 ∧ ∀ H' r, Same H H' → H r = none → H' r = some (.lst ((plc ms).map V.int)) → Q (.ref r) H'
def spNeedN : Sp := fun vs H Q _ => ∃ (i lo hi : Int), vs = [.int i, .int lo, .int hi] ∧ lo ≤ i ∧ i ≤ hi ∧ Q .non H
theorem slen {i : Int} (h0 : 0 ≤ i) (h1 : i ≤ 100) : ((toString i : String) : Str).length ≤ 14 := by
  have h := codes_len (k := 12) (n := i) (by omega)
  rw [← toStr_codes] at h
  simpa [Str.length] using h
theorem slog {i : Int} (h0 : 0 ≤ i) (h1 : i ≤ 100) : i.natAbs.log2 < 1920 := small_log (by omega)
theorem emp (x : Str) : (Str.empty ++ x : Str) = x := by
  refine PyProof.Rows.ext_toList ?_
  show ((#[] : Array Nat) ++ x.cps).toList = x.cps.toList
  simp
def pD (fs : List (Int × Int)) : List PyData := fs.map fun f => .tuple [.int f.1, .int f.2]
def szs (ms : List Mb) : List Int := ms.map (·.2.1)
def spWBy (K : PySem.W.Frag) : Sp := fun vs H Q _ => ∃ (l : Addr) (xs : List V) (ms : List Mb) (m : Int), vs = [.ref l, .int m] ∧ H l = some (.lst xs) ∧ CrAt H ms xs ∧ Szs (szs ms) ∧ 0 ≤ m ∧ m ≤ 24 ∧ ∀ H' r ys, Same H H' → H r = none → H' r = some (.lst ys) → AllF K H' (due (szs ms) m) ys → Q (.ref r) H'
def IsStart (a : Ad) (H : Hp) (v : V) (m : Nat) : Prop := ∃ x dx, v = .ref x ∧ H x = some (.ins a.c_Start dx [("step", .int (m : Nat))])
def IsLoose (a : Ad) (H : Hp) (v : V) (m : Nat) : Prop := ∃ x dx, v = .ref x ∧ H x = some (.ins a.c_Loose dx [("many", .int (m : Nat))])
theorem IsStart.t {a : Ad} {H H' : Hp} {v : V} {m : Nat} (s : SameT H H') (h : IsStart a H v m) : IsStart a H' v m := let ⟨x, dx, h1, h2⟩ := h; ⟨x, dx, h1, s.at h2⟩
theorem IsLoose.t {a : Ad} {H H' : Hp} {v : V} {m : Nat} (s : SameT H H') (h : IsLoose a H v m) : IsLoose a H' v m := let ⟨x, dx, h1, h2⟩ := h; ⟨x, dx, h1, s.at h2⟩
def spStartI (a : Ad) : Sp := fun vs H Q _ => ∃ (x dx : Addr) (m : Nat), vs = [.ref x, .int (m : Nat)] ∧ H x = some (.ins a.c_Start dx []) ∧ 1 ≤ m ∧ m ≤ 100 ∧ Q .non (upd H x (.ins a.c_Start dx [("step", .int (m : Nat))]))
def spLooseI (a : Ad) : Sp := fun vs H Q _ => ∃ (x dx : Addr) (m : Nat), vs = [.ref x, .int (m : Nat)] ∧ H x = some (.ins a.c_Loose dx []) ∧ m ≤ 24 ∧ Q .non (upd H x (.ins a.c_Loose dx [("many", .int (m : Nat))]))
def lsL (ms : List Mb) (m : Nat) : Tl := (plc ms).zip (due (szs ms) (m : Nat))
def lsN (ms : List Mb) (m : Nat) : Nd := .loose (openL (lsL ms m)) (sureL (lsL ms m))
def spSNode (K : PySem.W.Frag) (a : Ad) : Sp := fun vs H Q _ => ∃ (N : Addr → Prop) (v : V) (m : Nat) (l : Addr) (xs : List V) (ms : List Mb), vs = [v, .ref l] ∧ (∀ b, H b = none → N b) ∧ IsStart a H v m ∧ H l = some (.lst xs) ∧ CrAt H ms xs ∧ ms.length ≤ 24 ∧ 1 ≤ m ∧ m ≤ 100 ∧ TabsOk (tabs a) H ∧
  ∀ H' v', SameT H H' → TabsOk (tabs a) H' → IsNode K N a H' v' (stS (plc ms) m) → Q v' H'
def spLNode (K : PySem.W.Frag) (a : Ad) : Sp := fun vs H Q _ => ∃ (N : Addr → Prop) (v : V) (m : Nat) (l : Addr) (xs : List V) (ms : List Mb), vs = [v, .ref l] ∧ (∀ b, H b = none → N b) ∧ IsLoose a H v m ∧ H l = some (.lst xs) ∧ CrAt H ms xs ∧ Szs (szs ms) ∧ m ≤ 24 ∧ TabsOk (tabs a) H ∧
  ∀ H' v', SameT H H' → TabsOk (tabs a) H' → IsNode K N a H' v' (lsN ms m) → Q v' H'
def spSBo (a : Ad) : Sp := fun vs H Q _ => ∃ (v : V) (m : Nat) (l : Addr) (xs : List V), vs = [v, .ref l] ∧ IsStart a H v m ∧ 1 ≤ m ∧ m ≤ 100 ∧ H l = some (.lst xs) ∧ xs.length ≤ 24 ∧
  ∀ H' p, SameT H H' → (∀ {tb : Tabs}, TabsOk tb H → TabsOk tb H') → H' p = some (.tup [.int ((xs.length : Int) / (m : Int)), .int (((xs.length : Int) + (m : Int) - 1) / (m : Int))]) → Q (.ref p) H'
def cF (fs : List (Int × Int)) (t b : Int) : Int := (((pD fs).countP fun z => PyData.eqv z (.tuple [.int t, .int b]) : Nat) : Int)
def spLBo (a : Ad) : Sp := fun vs H Q _ => ∃ (v : V) (m : Nat) (l : Addr) (xs : List V) (ms : List Mb), vs = [v, .ref l] ∧ IsLoose a H v m ∧ m ≤ 24 ∧ H l = some (.lst xs) ∧ CrAt H ms xs ∧ Szs (szs ms) ∧
  ∀ H' p, SameT H H' → (∀ {tb : Tabs}, TabsOk tb H → TabsOk tb H') → H' p = some (.tup [.int (cF (due (szs ms) (m : Nat)) 1 1), .int (((due (szs ms) (m : Nat)).length : Int) - cF (due (szs ms) (m : Nat)) 0 1)]) → Q (.ref p) H'
def spTextS (a : Ad) : Sp := fun vs H Q _ => ∃ (v : V) (m : Nat), vs = [v] ∧ IsStart a H v m ∧ m ≤ 100 ∧ Q (.str (("start " : Str) ++ (toString (m : Int) : String))) H
def spTextL (a : Ad) : Sp := fun vs H Q _ => ∃ (v : V) (m : Nat), vs = [v] ∧ IsLoose a H v m ∧ m ≤ 24 ∧ Q (.str (("loose " : Str) ++ (toString (m : Int) : String))) H
def SRow (H : Hp) (r : Addr) (st f : Nat) (y : V) : Prop := ∃ q fv, y = .ref q ∧ H q = some (.tup [.int 1, fv]) ∧ IsLam H ld_start_make_1 fvS fv [.int (st : Nat), .ref r, .int (f : Nat)]
theorem SRow.t {H H' : Hp} {r : Addr} {st : Nat} (s : SameT H H') (f : Nat) (y : V) (h : SRow H r st f y) : SRow H' r st f y := let ⟨q, fv, h1, h2, h3⟩ := h; ⟨q, fv, h1, s.at h2, h3.t s⟩
theorem SRow.put {H : Hp} {r D : Addr} {st : Nat} {zs : List V} {o' : HO} (hD : H D = some (.lst zs)) (f : Nat) (y : V) (h : SRow H r st f y) : SRow (upd H D o') r st f y := let ⟨q, fv, h1, h2, h3⟩ := h; ⟨q, fv, h1, notL hD h2 (fun ys z => nomatch z), h3.put hD⟩
theorem paired_map {α β γ : Type} {r : γ → β → Prop} {g : α → γ} : ∀ {as : List α} {bs : List β}, Paired (fun a b => r (g a) b) as bs → Paired r (as.map g) bs
  | _, _, .nil => .nil
  | _, _, .cons x t => .cons x (paired_map t)
theorem zp_pairs {K : PySem.W.Frag} {H : Hp} : ∀ {ps : List Int} {fs : List (Int × Int)} {ys zs : List V}, ps.length = fs.length → zs.length = ps.length → AllF K H fs ys → Zp H (ps.map V.int) ys zs → Paired (PrAt K H) (ps.zip fs) zs
  | [], [], _, [], _, _, _, _ => .nil
  | [], [], _, _ :: _, _, h, _, _ => by cases h
  | [], _ :: _, _, _, h, _, _, _ => by cases h
  | _ :: _, [], _, _, h, _, _, _ => by cases h
  | _ :: _, _ :: _, _, [], _, h, _, _ => by cases h
  | p :: ps, f :: fs, y :: ys, z :: zs, h1, h2, .cons hf t, hz => by
    obtain ⟨q, e, hq⟩ := hz 0 z (.int p) y rfl rfl rfl
    exact .cons ⟨q, y, e, hq, hf⟩ (zp_pairs (by simpa using h1) (by simpa using h2) t fun j a b c h3 h4 h5 => hz (j + 1) a b c h3 h4 h5)
theorem wf_open : ∀ L : Tl, (openL L).length + (sureL L).length ≤ L.length
  | [] => Nat.le_refl _
  | (p, c) :: L => by
    have ih := wf_open L
    unfold openL sureL at *
    by_cases hu : uns c = true
    · have hc : 0 < c.1 ∧ c.1 < c.2 := of_decide_eq_true hu
      have hn : ¬ decide (c = (1, 1)) = true := fun z => by
        rw [of_decide_eq_true z] at hc
        simp at hc
      rw [List.filter_cons_of_pos (by exact hu), List.filter_cons_of_neg (by exact hn), List.length_cons, List.length_cons]
      omega
    · rw [List.filter_cons_of_neg (by exact hu)]
      by_cases h1 : decide (c = (1, 1)) = true
      · rw [List.filter_cons_of_pos (by exact h1), List.map_cons, List.length_cons, List.length_cons]
        omega
      · rw [List.filter_cons_of_neg (by exact h1), List.length_cons]
        omega
theorem lsL_len (ms : List Mb) (m : Nat) : (lsL ms m).length = ms.length := by
  unfold lsL
  rw [List.length_zip, due_len]
  unfold plc szs
  rw [List.length_map, List.length_map]
  exact Nat.min_self _
theorem made2 {H : Hp} {x dx : Addr} {o1 o2 : HO} (hx : H x = none) (hd : H dx = none) : Same H (upd (upd H dx o1) x o2) := fun b o e => by rw [upd_ne (ne_of_none e hx), upd_ne (ne_of_none e hd)]; exact e
section
variable {P : Program} {w : World} {K : PySem.W.Frag} {mg : Str → Option Value} {base : Heap} {a : Ad}
theorem ok_places (T : Txt K mg a) : FnOk P w K mg base CX0 1 a.f_places_of a.d_places_of ["crowd"] spPlaces := by
  refine T.F_places_of.ok sc_places_of (fun vs H Q E h => ?_) (fun cdv A outer s H vs Q E hr h => ?_)
  · obtain ⟨l, xs, ms, rfl, _⟩ := h; rfl
  · obtain ⟨l, xs, ms, rfl, hl, hc, hlen, q⟩ := h
    have small : sizeLine = 16777216 := sizeLine_eq
    have hcl := hc.len
    refine ⟨_, (pss_one (ps_ret (pe_comp rfl (N := ["member"]) (ix := [none]) ⟨rfl, rfl, rfl, rfl, trivial⟩ (pi_any (vr 0)) ⟨fun C s H fp => pg_name (i := 0) (show List.Nodup (["member"] : List Str) by decide +kernel) rfl (Or.inl rfl), fun C s H fp => pts_nil, fun C s H fp => (pe_ix (ix_seqK (K := K) rfl) (vr 0) pe_int (fun _ _ => rfl))⟩))), ?_⟩
    refine .inl ⟨⟨_, SqL.of hl⟩, fun D hD => ?_⟩
    refine comp_list (K := K) (a := l) (xs := xs) (fun i ys H' => i ≤ xs.length ∧ Same H H' ∧ H' D = some (.lst ys) ∧ ys = (plc (ms.take i)).map V.int) ⟨Nat.zero_le _, Same.new hD, upd_same, rfl⟩ (fun i ys H' h => SqL.of (h.2.1 _ _ hl)) (fun i ys H' h => h.2.2.1) ?_ ?_
    · rintro i x ys H' P' hx ⟨hi, s1, hD1, rfl⟩ hP
      obtain ⟨m, hm, q1, pt, rfl, g1, g2⟩ := (hc.tk s1.tk).get hx
      have hlt : i < xs.length := (List.getElem?_eq_some_iff.mp hx).1
      refine ⟨trivial, .inr (.inl ⟨q1, _, _, _, rfl, rfl, SqT.of g1, atI_cons 0 rfl rfl, hD1, ?_, hP _ _ ⟨hlt, s1.put hD, upd_same, ?_⟩⟩)⟩
      · unfold plc; rw [List.length_map, List.length_map, List.length_take]; omega
      · unfold plc; rw [List.take_add_one, hm, List.map_append, List.map_append]; rfl
    · rintro ys H' ⟨_, s1, hD1, rfl⟩
      rw [← hcl, List.take_of_length_le (Nat.le_refl _)] at hD1
      exact q _ D s1 hD hD1
theorem ok_needn (T : Txt K mg a) : FnOk P w K mg base CX0 2 a.f_need_number a.d_need_number ["thing", "low", "high"] spNeedN := by
  have G_is_whole : FnOk P w K mg base CX0 1 _ _ _ spIsW := ok_isw T
  refine T.F_need_number.ok sc_need_number (fun vs H Q E h => ?_) (fun cdv A outer s H vs Q E hr h => ?_)
  · obtain ⟨i, lo, hi, rfl, _⟩ := h; rfl
  · obtain ⟨i, lo, hi, rfl, h1, h2, q⟩ := h
    refine ⟨_, (pss_one (ps_if (pt_not (t_val (pe_call G_is_whole hr rfl T.m_is_whole T.F_is_whole.kp T.B_is_whole .nil pass0 (pa_cons (vr 0) (pa_cons (vr 1) (pa_cons (vr 2) pa_nil)))))) (pss_one ps_never) pss_nil)), ?_⟩
    refine ⟨i, lo, hi, rfl, ?_⟩
    rw [decide_eq_true (And.intro h1 h2)]
    exact q
theorem dvs_f {H : Hp} : ∀ {fs : List (Int × Int)} {xs : List V}, AllF K H fs xs → DVs K H (pD fs) xs
  | _, _, .nil => by simp [DVs, pD]
  | _, _, .cons ⟨p, e, r⟩ t => by
    unfold pD
    rw [List.map_cons, DVs]
    exact ⟨_, _, rfl, by rw [e]; exact dv_pair r.sq, dvs_f t⟩
theorem lay_f : ∀ (fs : List (Int × Int)), PyData.canLayAll0 (pD fs) = true ∧ PyData.depthAll (pD fs) ≤ 3
  | [] => by simp [PyData.canLayAll0, PyData.depthAll, pD]
  | t :: l => by
    obtain ⟨h1, h2⟩ := lay_f l
    unfold pD at *
    rw [List.map_cons, PyData.canLayAll0, PyData.depthAll, h1]
    refine ⟨by simp [PyData.canLay0, PyData.canLayAll0], ?_⟩
    simp only [PyData.depth, PyData.depthAll]
    omega
theorem eqv_pair (a b c d : Int) : PyData.eqv (.tuple [.int a, .int b]) (.tuple [.int c, .int d]) = decide ((a, b) = (c, d)) := by
  simp [PyData.eqv, PyData.eqvAll]
  rfl
theorem ok_wby (T : Txt K mg a) : FnOk P w K mg base CX0 5 a.f_wished_by a.d_wished_by ["crowd", "many"] (spWBy K) := by
  have G_wished : FnOk P w K mg base CX0 4 _ _ _ (spWished K) := ok_wished T
  refine T.F_wished_by.ok sc_wished_by (fun vs H Q E h => ?_) (fun cdv A outer s H vs Q E hr h => ?_)
  · obtain ⟨l, xs, ms, m, rfl, _⟩ := h; rfl
  · obtain ⟨l, xs, ms, m, rfl, hl, hc, hz, m0, m1, q⟩ := h
    have small : sizeLine = 16777216 := sizeLine_eq
    have hcl := hc.len
    have hlen : ms.length ≤ 24 := by have := hz.len; unfold szs at this; rw [List.length_map] at this; exact this
    refine ⟨_, (pss_one (ps_ret (pe_call G_wished hr rfl T.m_wished T.F_wished.kp T.B_wished .nil pass0 (pa_cons (pe_comp rfl (N := ["member"]) (ix := [none]) ⟨rfl, rfl, rfl, rfl, trivial⟩ (pi_any (vr 0)) ⟨fun C s H fp => pg_name (i := 0) (show List.Nodup (["member"] : List Str) by decide +kernel) rfl (Or.inl rfl), fun C s H fp => pts_nil, fun C s H fp => (pe_ix (ix_seqK (K := K) rfl) (vr 0) pe_int (fun _ _ => rfl))⟩) (pa_cons (vr 1) pa_nil))))), ?_⟩
    refine .inl ⟨⟨_, SqL.of hl⟩, fun D hD => ?_⟩
    refine comp_list (K := K) (a := l) (xs := xs) (fun i ys H' => i ≤ xs.length ∧ Same H H' ∧ H' D = some (.lst ys) ∧ ys = (szs (ms.take i)).map V.int) ⟨Nat.zero_le _, Same.new hD, upd_same, rfl⟩ (fun i ys H' h => SqL.of (h.2.1 _ _ hl)) (fun i ys H' h => h.2.2.1) ?_ ?_
    · rintro i x ys H' P' hx ⟨hi, s1, hD1, rfl⟩ hP
      obtain ⟨mm, hm, q1, pt, rfl, g1, g2⟩ := (hc.tk s1.tk).get hx
      have hlt : i < xs.length := (List.getElem?_eq_some_iff.mp hx).1
      refine ⟨trivial, .inr (.inl ⟨q1, _, _, _, rfl, rfl, SqT.of g1, atI_cons 1 rfl rfl, hD1, ?_, hP _ _ ⟨hlt, s1.put hD, upd_same, ?_⟩⟩)⟩
      · unfold szs; rw [List.length_map, List.length_map, List.length_take]; omega
      · unfold szs; rw [List.take_add_one, hm, List.map_append, List.map_append]; rfl
    · rintro ys H' ⟨_, s1, hD1, rfl⟩
      rw [← hcl, List.take_of_length_le (Nat.le_refl _)] at hD1
      exact ⟨D, szs ms, m, rfl, hD1, hz, m0, m1, fun H2 r ys s2 hr0 hr hA => q H2 r ys (s1.trans s2) (s1.free hr0) hr hA⟩
theorem oi_Start (T : Txt K mg a) : FnOk P w K mg base CX0 3 a.i_Start a.e_Start ["self", "step"] (spStartI a) := by
  have G_need_number : FnOk P w K mg base CX0 2 _ _ _ spNeedN := ok_needn T
  refine T.Fi_Start.ok sc_Start___init__ (fun vs H Q E h => ?_) (fun cdv A outer s H vs Q E hr h => ?_)
  · obtain ⟨x, dx, m, rfl, _⟩ := h; rfl
  · obtain ⟨x, dx, m, rfl, hx, hm, hm2, q⟩ := h
    refine ⟨_, (pss_cons (ps_expr (pe_call G_need_number hr rfl T.m_need_number T.F_need_number.kp T.B_need_number .nil pass0 (pa_cons (vr 1) (pa_cons pe_int (pa_cons (pe_gl rfl T.g_MOST_STEP) pa_nil))))) (pss_one (ps_fld (vr 0) (vr 1) rfl))), ?_⟩
    refine ⟨_, 1, 100, rfl, by omega, by omega, ?_⟩
    exact ⟨x, a.c_Start, dx, [], rfl, hx, T.cl_Start, T.na_Start_step, (by decide), q⟩
theorem oi_Loose (T : Txt K mg a) : FnOk P w K mg base CX0 3 a.i_Loose a.e_Loose ["self", "many"] (spLooseI a) := by
  have G_need_number : FnOk P w K mg base CX0 2 _ _ _ spNeedN := ok_needn T
  refine T.Fi_Loose.ok sc_Loose___init__ (fun vs H Q E h => ?_) (fun cdv A outer s H vs Q E hr h => ?_)
  · obtain ⟨x, dx, m, rfl, _⟩ := h; rfl
  · obtain ⟨x, dx, m, rfl, hx, hm, q⟩ := h
    refine ⟨_, (pss_cons (ps_expr (pe_call G_need_number hr rfl T.m_need_number T.F_need_number.kp T.B_need_number .nil pass0 (pa_cons (vr 1) (pa_cons pe_int (pa_cons (pe_gl rfl T.g_MOST_MANY) pa_nil))))) (pss_one (ps_fld (vr 0) (vr 1) rfl))), ?_⟩
    refine ⟨_, 0, 24, rfl, by omega, by omega, ?_⟩
    exact ⟨x, a.c_Loose, dx, [], rfl, hx, T.cl_Loose, T.na_Loose_many, (by decide), q⟩
theorem ok_snode (T : Txt K mg a) (hB : Bm mg base) : FnOk P w K mg base CX0 3 a.x_Start_node a.y_Start_node ["self", "crowd"] (spSNode K a) := by
  have G_Told : FnOk P w K mg base CX0 1 _ _ _ (spToldI a) := oi_Told T
  have G_Die : FnOk P w K mg base CX0 1 _ _ _ (spDieI a) := oi_Die T
  have G_places_of : FnOk P w K mg base CX0 2 _ _ _ spPlaces := (ok_places T).mono (by decide)
  have G_start_make : FnOk P w K mg base CX0 2 _ _ _ (spSM a) := (ok_sm T hB).mono (by decide)
  refine T.F_Start_node.ok sc_Start_node (fun vs H Q E h => ?_) (fun cdv A outer s H vs Q E hr h => ?_)
  · obtain ⟨N, v, m, l, xs, ms, rfl, _⟩ := h; rfl
  · obtain ⟨N, v, m, l, xs, ms, rfl, hN, ⟨x, dx, rfl, hx⟩, hl, hc, hlen, m1, m2, hT, q⟩ := h
    have small : sizeLine = 16777216 := sizeLine_eq
    have hpl : (plc ms).length ≤ 24 := by unfold plc; rw [List.length_map]; exact hlen
    refine ⟨_, (pss_cons (ps_set (i := 2) sc_Start_node.nd rfl (Or.inr rfl) (pe_call G_places_of hr rfl T.m_places_of T.F_places_of.kp T.B_places_of .nil pass0 (pa_cons (vr 1) pa_nil))) (pss_cons (ps_set (i := 3) sc_Start_node.nd rfl (Or.inr rfl) (pe_fld (vr 0) rfl)) (pss_cons (ps_if (PW.pt (pw_or (t_cmp o_eq (vr 3) pe_int (nomark _)) (pw_or1 (pt_not (pt_truth (vr 2) (fun _ => rfl)))))) (pss_one (ps_ret (pe_make T.mk_Told G_Told hr rfl T.mc_Told T.Bi_Told .nil pass0 (pa_cons (vr 2) pa_nil)))) pss_nil) (pss_one (ps_ret (pe_make T.mk_Die G_Die hr rfl T.mc_Die T.Bi_Die .nil pass0 (pa_cons (pe_comp rfl (N := ["first", "places", "step"]) (ix := [none, some 2, some 3]) ⟨rfl, rfl, rfl, rfl, ⟨rfl, rfl, rfl, ⟨rfl, rfl, rfl, trivial⟩⟩⟩ (pi_range1 rfl T.z_range (pa_cons (vr 3) pa_nil)) ⟨fun C s H fp => pg_name (i := 0) (show List.Nodup (["first", "places", "step"] : List Str) by decide +kernel) rfl (Or.inl rfl), fun C s H fp => pts_nil, fun C s H fp => (pe_tup (pa_cons pe_int (pa_cons (pe_call G_start_make hr rfl T.m_start_make T.F_start_make.kp T.B_start_make .nil pass0 (pa_cons (vr 1) (pa_cons (vr 2) (pa_cons (vr 0) pa_nil)))) pa_nil)))⟩) pa_nil))))))), ?_⟩
    refine ⟨l, xs, ms, rfl, hl, hc, hlen, fun H1 r s1 hr0 hr1 => ?_⟩
    refine ⟨x, _, dx, _, _, rfl, s1 _ _ hx, T.cl_Start, T.na_Start_step, rfl, ?_⟩
    have hT1 := hT.same s1
    generalize plc ms = places at hr1 q hpl
    refine ifC (fun c => ?_) fun c => ?_
    · have hst : m = 1 ∨ places = [] := .inl (by omega)
      intro x' dx' hx' hdx' hne
      refine ⟨x', dx', r, places, rfl, upd_same, made2 hx' hdx' _ _ hr1, by omega, fun H' t ns' k h1 h2 h3 => ⟨rfl, ?_⟩⟩
      have sm := s1.trans (made hx' hdx' k)
      refine q _ _ sm.t (hT.same sm) (.inl ⟨places, ?_, x', dx', t, ns', rfl, h1, h2, h3⟩)
      unfold stS; rw [if_pos hst]; rfl
    have c1 : ¬ m = 1 := by omega
    cases hpe : places with
    | nil =>
      rw [hpe] at hr1 q
      refine ⟨_, .inl ⟨_, SqL.of hr1, rfl⟩, ?_⟩
      intro x' dx' hx' hdx' hne
      refine ⟨x', dx', r, [], rfl, upd_same, made2 hx' hdx' _ _ hr1, by decide, fun H' t ns' k h1 h2 h3 => ⟨rfl, ?_⟩⟩
      have sm := s1.trans (made hx' hdx' k)
      refine q _ _ sm.t (hT.same sm) (.inl ⟨[], ?_, x', dx', t, ns', rfl, h1, h2, h3⟩)
      unfold stS; rw [if_pos (.inr rfl)]; rfl
    | cons p0 pr =>
      have hne : places ≠ [] := by rw [hpe]; simp
      refine ⟨_, .inl ⟨_, SqL.of (by rw [hpe] at hr1; exact hr1), rfl⟩, ?_⟩
      refine ⟨(m : Int), rfl, by omega, by omega, fun D hD => ?_⟩
      have hTD : TabsOk (tabs a) (upd H1 D (.lst [])) := hT1.same (Same.new hD)
      have ext : ∀ {H' : Hp}, TabsOk (tabs a) H' → ∀ {ys : List V} {ys' : List V}, H' D = some (.lst ys) → TabsOk (tabs a) (upd H' D (.lst ys')) := fun hT' ys ys' e => hT'.put (fun ps z => by rw [e] at z; cases z) fun φ z => by rw [e] at z; cases z
      refine comp_rng (lo := 0) (n := m) (fun j ys H' => j ≤ m ∧ SameT H1 H' ∧ TabsOk (tabs a) H' ∧ H' D = some (.lst ys) ∧ Paired (SRow H' r m) (List.range j) ys) ⟨Nat.zero_le _, (Same.new hD).t, hTD, upd_same, .nil⟩ (fun j ys H' h => h.2.2.2.1) ?_ ?_
      · rintro j ys H' P' hj ⟨_, t1, hT', hD1, hP⟩ hP'
        have yl : ys.length = j := by rw [← hP.length, List.length_range]
        refine ⟨⟨rfl, rfl, trivial⟩, r, m, j, ?_, hT', fun H2 f t2 hT2 hf => ?_⟩
        · show [V.ref r, V.int (m : Int), V.int (0 + (j : Int))] = _
          rw [Int.zero_add]
        refine ⟨two_le _ _, fun p1 fp1 => ?_⟩
        have s3 := Same.new (o := .tup [.int 1, f]) fp1
        have hD2 := t2.at hD1
        have hD3 := s3 _ _ hD2
        have n1 : p1 ≠ D := fun z => by rw [z, hD2] at fp1; cases fp1
        refine ⟨hD3, by omega, hP' _ _ ⟨hj, ((t1.trans t2).trans s3.t).put hD, ext (hT2.same s3) hD3, upd_same, ?_⟩⟩
        rw [List.range_succ]
        exact paired_snoc (SRow.put hD3 _ _ ⟨p1, f, rfl, upd_same, hf.t s3.t⟩) (paired_imp (fun f y h => SRow.put hD3 _ _ (SRow.t (t2.trans s3.t) _ _ h)) hP)
      · rintro ys H' ⟨_, t1, hT', hD1, hP⟩
        intro x' dx' hx' hdx' hne'
        refine ⟨x', dx', D, ys, rfl, upd_same, made2 hx' hdx' _ _ hD1, fun H2 l' gl k g1 g2 => ⟨rfl, ?_⟩⟩
        have s2 := made hx' hdx' k
        have t02 := s1.t.trans (t1.trans s2.t)
        have hr2 := (t1.trans s2.t).at hr1
        refine q _ _ t02 (hT'.same s2) ?_
        have est : stS places m = .start places m := by unfold stS; rw [if_neg (by simp [c1, hne])]
        rw [est]
        refine .inr ⟨rfl, x', dx', l', ys, rfl, g1, hN _ ((s1.t.trans t1).free ((made2 hx' hdx').free gl)), g2, ?_⟩
        have hP2 : ∀ {js : List Nat}, (∀ j ∈ js, j < m) → ∀ {zs : List V}, Paired (SRow H2 r m) js zs → Paired (fun (f : Nat) z => RowM K N H2 ((1 : Int), Nd.told (every places f m)) z) js zs := fun {js} => by
          induction js with
          | nil => intro _ zs h; cases h; exact .nil
          | cons j js ih =>
            intro hj zs h
            cases h with
            | cons h1 h2 =>
              obtain ⟨q', fv, e1, e2, e3⟩ := h1
              exact .cons ⟨q', fv, e1, e2, .inl ⟨r, places, m, j, e3, hN _ hr0, hr2, hpl, hj j (List.mem_cons_self ..), rfl⟩⟩ (ih (fun j hj' => hj j (List.mem_cons_of_mem _ hj')) h2)
        exact paired_map (hP2 (fun j hj => List.mem_range.mp hj) (paired_imp (SRow.t s2.t) hP))
theorem ok_lnode (T : Txt K mg a) (hB : Bm mg base) : FnOk P w K mg base CX0 6 a.x_Loose_node a.y_Loose_node ["self", "crowd"] (spLNode K a) := by
  have G_places_of : FnOk P w K mg base CX0 5 _ _ _ spPlaces := (ok_places T).mono (by decide)
  have G_wished_by : FnOk P w K mg base CX0 5 _ _ _ (spWBy K) := ok_wby T
  have G_is_unsure : FnOk P w K mg base CX0 5 _ _ _ (spUns K) := (ok_uns T).mono (by decide)
  have G_loose_node : FnOk P w K mg base CX0 5 _ _ _ (spLN K a) := (ok_ln T hB).mono (by decide)
  refine T.F_Loose_node.ok sc_Loose_node (fun vs H Q E h => ?_) (fun cdv A outer s H vs Q E hr h => ?_)
  · obtain ⟨N, v, m, l, xs, ms, rfl, _⟩ := h; rfl
  · obtain ⟨N, v, m, l, xs, ms, rfl, hN, ⟨x, dx, rfl, hx⟩, hl, hc, hz, m2, hT, q⟩ := h
    have small : sizeLine = 16777216 := sizeLine_eq
    have hlen : ms.length ≤ 24 := by have := hz.len; unfold szs at this; rw [List.length_map] at this; exact this
    refine ⟨_, (pss_cons (ps_set (i := 2) sc_Loose_node.nd rfl (Or.inl rfl) (pe_listZip rfl rfl T.z_list rfl T.z_zip (pa_cons (pe_call G_places_of hr rfl T.m_places_of T.F_places_of.kp T.B_places_of .nil pass0 (pa_cons (vr 1) pa_nil)) (pa_cons (pe_call G_wished_by hr rfl T.m_wished_by T.F_wished_by.kp T.B_wished_by .nil pass0 (pa_cons (vr 1) (pa_cons (pe_fld (vr 0) rfl) pa_nil))) pa_nil)))) (pss_cons (ps_setC rfl (i := 3) sc_Loose_node.nd rfl rfl (by with_unfolding_all rfl) (N := ["place", "chance"]) (ix := [none, none]) ⟨rfl, rfl, rfl, rfl, trivial⟩ (pi_any (vr 2)) ⟨fun C s H fp => (pg_tupK (K := K) (n := 2) rfl rfl (pgs_cons (pg_name (i := 0) (show List.Nodup (["place", "chance"] : List Str) by decide +kernel) rfl (Or.inl rfl)) (pgs_cons (pg_name (i := 1) (show List.Nodup (["place", "chance"] : List Str) by decide +kernel) rfl (Or.inl rfl)) pgs_nil))), fun C s H fp => pts_one (t_cmp (o_eqDK (K := K) rfl hr.units) (vr 1) (pe_gl rfl T.g_WHOLE) (nomark _)), fun C s H fp => (vr 0)⟩) (pss_one (ps_ret (pe_call G_loose_node hr rfl T.m_loose_node T.F_loose_node.kp T.B_loose_node .nil pass0 (pa_cons (pe_comp rfl (N := ["place", "chance"]) (ix := [none, none]) ⟨rfl, rfl, rfl, rfl, trivial⟩ (pi_any (vr 2)) ⟨fun C s H fp => (pg_tupK (K := K) (n := 2) rfl rfl (pgs_cons (pg_name (i := 0) (show List.Nodup (["place", "chance"] : List Str) by decide +kernel) rfl (Or.inl rfl)) (pgs_cons (pg_name (i := 1) (show List.Nodup (["place", "chance"] : List Str) by decide +kernel) rfl (Or.inl rfl)) pgs_nil))), fun C s H fp => pts_one (t_val (pe_call G_is_unsure hr rfl T.m_is_unsure T.F_is_unsure.kp T.B_is_unsure .nil pass0 (pa_cons (vr 1) pa_nil))), fun C s H fp => (pe_tup (pa_cons (vr 0) (pa_cons (vr 1) pa_nil)))⟩) (pa_cons (vr 3) pa_nil))))))), ?_⟩
    refine ⟨l, xs, ms, rfl, hl, hc, hlen, fun H1 r s1 hr0 hr1 => ?_⟩
    refine ⟨x, _, dx, _, _, rfl, s1 _ _ hx, T.cl_Loose, T.na_Loose_many, rfl, ?_⟩
    refine ⟨l, xs, ms, (m : Nat), rfl, s1 _ _ hl, hc.tk s1.tk, hz, by omega, by omega, fun H2 w' ys s2 hw0 hw hF => ?_⟩
    have yl : ys.length = ms.length := by rw [← hF.len, due_len]; unfold szs; rw [List.length_map]
    have pl : (plc ms).length = ms.length := by unfold plc; rw [List.length_map]
    refine ⟨r, w', _, _, rfl, s2 _ _ hr1, hw, by rw [List.length_map]; omega, by rw [List.length_map]; omega, fun H3 lt ps s3 ht0 hlt hpsl hzp => ?_⟩
    rw [List.length_map] at hpsl
    have hP : Paired (PrAt K H3) (lsL ms m) ps := zp_pairs (by rw [pl, due_len]; unfold szs; rw [List.length_map]) hpsl (hF.same s3) hzp
    obtain ⟨tl, etl⟩ : ∃ tl, tl = lsL ms m := ⟨_, rfl⟩
    have tlen : tl.length ≤ 24 := by rw [etl, lsL_len]; exact hlen
    have hwf : WfL (openL tl) (sureL tl) := ⟨by have := wf_open tl; omega, fun x hx => (List.mem_filter.mp hx).2⟩
    have q' : ∀ H' v', SameT H H' → TabsOk (tabs a) H' → IsNode K N a H' v' (.loose (openL tl) (sureL tl)) → Q v' H' := by rw [etl]; exact q
    rw [← etl] at hP
    have s03 := s1.trans (s2.trans s3)
    refine .inl ⟨⟨_, SqL.of hlt⟩, fun D hD => ?_⟩
    refine comp_list (K := K) (a := lt) (xs := ps) (fun i zs H' => Same H3 H' ∧ H' D = some (.lst zs) ∧ i ≤ tl.length ∧ zs = (((tl.take i).filter fun x => decide (x.2 = (1, 1))).map (·.1)).map V.int) ⟨Same.new hD, upd_same, Nat.zero_le _, rfl⟩ (fun i ys H' h => SqL.of (h.1 _ _ hlt)) (fun i ys H' h => h.2.1) ?_ ?_
    · rintro i y zs H' P' hy ⟨s1, hD1, hi, rfl⟩ hP'
      obtain ⟨⟨p, c⟩, hpt, q1, yc, rfl, hq1, hc⟩ := paired_get hP hy
      have ilt : i < tl.length := (List.getElem?_eq_some_iff.mp hpt).1
      refine ⟨q1, _, rfl, SqT.of (s1 _ _ hq1), rfl, _, _, rfl, _, _, rfl, rfl, ?_⟩
      obtain ⟨pc, rfl, hpc⟩ := hc.same s1
      refine ⟨trivial, .tuple [.int c.1, .int c.2], .tuple [.int 1, .int 1], dv_pair hpc.sq, dv_pair (tup_in T.t_WHOLE), shaped_pair _ _, shaped_pair _ _, ?_⟩
      rw [eqv_pair]
      refine ifC (fun hh => ?_) fun hh => ?_
      · have hw : decide (c = (1, 1)) = true := decide_eq_true (show c = (1, 1) from hh)
        refine ⟨hD1, ?_, hP' _ _ ⟨s1.put hD, upd_same, ilt, ?_⟩⟩
        · rw [List.length_map, List.length_map]
          have := List.length_filter_le (fun x : Int × (Int × Int) => decide (x.2 = (1, 1))) (tl.take i)
          rw [List.length_take] at *
          omega
        · rw [List.take_add_one, hpt, List.filter_append, List.map_append, List.map_append]
          congr 1
          show _ = (([(p, c)].filter fun x : Int × (Int × Int) => decide (x.2 = (1, 1))).map (·.1)).map V.int
          rw [List.filter_cons_of_pos (by exact hw)]
          rfl
      · have hw : ¬ decide (c = (1, 1)) = true := fun z => hh (of_decide_eq_true z)
        refine hP' _ _ ⟨s1, hD1, ilt, ?_⟩
        rw [List.take_add_one, hpt, List.filter_append]
        show _ = (((_ ++ [(p, c)].filter fun x : Int × (Int × Int) => decide (x.2 = (1, 1)))).map (·.1)).map V.int
        rw [List.filter_cons_of_neg (by exact hw)]
        simp
    · rintro zs H' ⟨s4, hD1, _, rfl⟩
      rw [show ps.length = tl.length from hP.length.symm, List.take_length] at hD1
      have hD1 : H' D = some (.lst ((sureL tl).map V.int)) := hD1
      refine .inl ⟨⟨_, SqL.of (s4 _ _ hlt)⟩, fun D2 hD2 => ?_⟩
      refine comp_list (K := K) (a := lt) (xs := ps) (fun i zs H2 => Same H' H2 ∧ H2 D2 = some (.lst zs) ∧ i ≤ tl.length ∧ Paired (PrAt K H2) ((tl.take i).filter fun x => uns x.2) zs) ⟨Same.new hD2, upd_same, Nat.zero_le _, .nil⟩ (fun i ys H2 h => SqL.of (h.1 _ _ (s4 _ _ hlt))) (fun i ys H2 h => h.2.1) ?_ ?_
      · rintro i y zs H2 P' hy ⟨s5, hD3, hi, hzs⟩ hP'
        obtain ⟨⟨p, c⟩, hpt, q1, yc, rfl, hq1, hc⟩ := paired_get hP hy
        have ilt : i < tl.length := (List.getElem?_eq_some_iff.mp hpt).1
        have s45 := s4.trans s5
        refine ⟨q1, _, rfl, SqT.of (s45 _ _ hq1), rfl, _, _, rfl, _, _, rfl, rfl, trivial, ?_⟩
        refine ⟨yc, c, rfl, hc.same s45, ?_⟩
        have zl : zs.length ≤ 24 := by
          rw [← hzs.length]
          have := List.length_filter_le (fun x : Int × (Int × Int) => uns x.2) (tl.take i)
          rw [List.length_take] at *
          omega
        refine ifB (fun hu => ?_) fun hu => ?_
        · refine ⟨two_le _ _, fun q3 f3 => ?_⟩
          have s6 := Same.new (o := .tup [.int p, yc]) f3
          have hD4 := s6 _ _ hD3
          refine ⟨hD4, by omega, hP' _ _ ⟨(s5.trans s6).put hD2, upd_same, ilt, ?_⟩⟩
          rw [List.take_add_one, hpt, List.filter_append]
          refine paired_app ?_ (paired_imp (fun x v h => PrAt.put hD4 _ _ (h.t s6.t)) hzs)
          show Paired _ ([(p, c)].filter fun x : Int × (Int × Int) => uns x.2) _
          rw [List.filter_cons_of_pos (by exact hu)]
          exact .cons (PrAt.put hD4 _ _ ⟨q3, yc, rfl, upd_same, hc.same (s45.trans s6)⟩) .nil
        · refine hP' _ _ ⟨s5, hD3, ilt, ?_⟩
          rw [List.take_add_one, hpt, List.filter_append]
          show Paired _ (_ ++ [(p, c)].filter fun x : Int × (Int × Int) => uns x.2) _
          rw [List.filter_cons_of_neg (by rw [hu]; decide)]
          simpa using hzs
      · rintro zs H2 ⟨s5, hD3, _, hzs⟩
        rw [show ps.length = tl.length from hP.length.symm, List.take_length] at hzs
        have s05 := s03.trans (s4.trans s5)
        exact ⟨N, D2, D, openL tl, sureL tl, zs, rfl, fun b hb => hN b (s05.free hb), hN _ (s03.free hD), hD3, hzs, s5 _ _ hD1, hwf, hT.same s05, fun H4 v' t4 hT4 nd => q' _ _ (s05.t.trans t4) hT4 nd⟩
theorem ok_sbo (T : Txt K mg a) : FnOk P w K mg base CX0 1 a.x_Start_bounds a.y_Start_bounds ["self", "crowd"] (spSBo a) := by
  refine T.F_Start_bounds.ok sc_Start_bounds (fun vs H Q E h => ?_) (fun cdv A outer s H vs Q E hr h => ?_)
  · obtain ⟨v, m, l, xs, rfl, _⟩ := h; rfl
  · obtain ⟨v, m, l, xs, rfl, ⟨x, dx, rfl, hx⟩, m1, m2, hl, hlen, q⟩ := h
    refine ⟨_, (pss_one (ps_ret (pe_tup (pa_cons (pe_op o_fdivB (pe_callB call_lenM rfl T.z_len bt_len (pa_cons (vr 1) pa_nil)) (pe_fld (vr 0) rfl)) (pa_cons (pe_op o_fdivB (pe_op o_sub (pe_op o_add (pe_callB call_lenM rfl T.z_len bt_len (pa_cons (vr 1) pa_nil)) (pe_fld (vr 0) rfl)) pe_int) (pe_fld (vr 0) rfl)) pa_nil))))), ?_⟩
    have b1 : Bt 3000 (m : Int) := (show Bt 10 (m : Int) by unfold Bt; omega).mono (by decide)
    refine ⟨_, .inl (SqL.of hl), ⟨x, _, dx, _, _, rfl, hx, T.cl_Start, T.na_Start_step, rfl, cdB (by omega) b1, ?_⟩⟩
    refine ⟨_, .inl (SqL.of hl), ⟨x, _, dx, _, _, rfl, hx, T.cl_Start, T.na_Start_step, rfl, ⟨x, _, dx, _, _, rfl, hx, T.cl_Start, T.na_Start_step, rfl, cdB (by omega) b1, ?_⟩⟩⟩
    refine ⟨two_le _ _, fun p fp => ?_⟩
    have s1 := Same.new (o := .tup [.int ((xs.length : Int) / (m : Int)), .int (((xs.length : Int) + (m : Int) - 1) / (m : Int))]) fp
    exact q _ p s1.t (fun h => h.same s1) upd_same
theorem cnt_dv {H : Hp} {l k : Addr} {xs : List V} {fs : List (Int × Int)} {t b : Int} {Q : VK} (hl : H l = some (.lst xs)) (hF : AllF K H fs xs) (hk : SqT K H k [.int t, .int b]) (q : Q (.int (cF fs t b)) H) : rCount K (.ref l) [.ref k] H Q :=
  ⟨l, xs, pD fs, .ref k, .tuple [.int t, .int b], rfl, rfl, hl, dvs_f hF, dv_pair hk, (lay_f fs).1, by simp [PyData.canLay0, PyData.canLayAll0], by simp [PyData.depth, PyData.depthAll], q⟩
theorem ok_lbo (T : Txt K mg a) : FnOk P w K mg base CX0 6 a.x_Loose_bounds a.y_Loose_bounds ["self", "crowd"] (spLBo a) := by
  have G_wished_by : FnOk P w K mg base CX0 5 _ _ _ (spWBy K) := ok_wby T
  refine T.F_Loose_bounds.ok sc_Loose_bounds (fun vs H Q E h => ?_) (fun cdv A outer s H vs Q E hr h => ?_)
  · obtain ⟨v, m, l, xs, ms, rfl, _⟩ := h; rfl
  · obtain ⟨v, m, l, xs, ms, rfl, ⟨x, dx, rfl, hx⟩, m2, hl, hc, hz, q⟩ := h
    refine ⟨_, (pss_cons (ps_set (i := 2) sc_Loose_bounds.nd rfl (Or.inl rfl) (pe_call G_wished_by hr rfl T.m_wished_by T.F_wished_by.kp T.B_wished_by .nil pass0 (pa_cons (vr 1) (pa_cons (pe_fld (vr 0) rfl) pa_nil)))) (pss_one (ps_ret (pe_tup (pa_cons (pe_m.count hr.units (vr 2) (pa_cons (pe_gl rfl T.g_WHOLE) pa_nil)) (pa_cons (pe_op o_sub (pe_callB call_lenM rfl T.z_len bt_len (pa_cons (vr 2) pa_nil)) (pe_m.count hr.units (vr 2) (pa_cons (pe_gl rfl T.g_NOUGHT) pa_nil))) pa_nil)))))), ?_⟩
    refine ⟨x, _, dx, _, _, rfl, hx, T.cl_Loose, T.na_Loose_many, rfl, ?_⟩
    refine ⟨l, xs, ms, (m : Nat), rfl, hl, hc, hz, by omega, by omega, fun H2 w' ys s2 hw0 hw hF => ?_⟩
    have yl : ys.length = (due (szs ms) (m : Nat)).length := hF.len.symm
    refine ⟨.inl ⟨rfl, _, SqL.of hw⟩, cnt_dv hw hF (tup_in T.t_WHOLE) ?_⟩
    refine ⟨_, .inl (SqL.of hw), ⟨.inl ⟨rfl, _, SqL.of hw⟩, cnt_dv hw hF (tup_in T.t_NOUGHT) ?_⟩⟩
    rw [yl]
    refine ⟨two_le _ _, fun p fp => ?_⟩
    have s3 := Same.new (o := .tup [.int (cF (due (szs ms) (m : Nat)) 1 1), .int (((due (szs ms) (m : Nat)).length : Int) - cF (due (szs ms) (m : Nat)) 0 1)]) fp
    have s23 := s2.trans s3
    exact q _ p s23.t (fun h => h.same s23) upd_same
theorem ok_tStart (T : Txt K mg a) : FnOk P w K mg base CX0 1 a.x_Start_text a.y_Start_text ["self"] (spTextS a) := by
  refine T.F_Start_text.ok sc_Start_text (fun vs H Q E h => ?_) (fun cdv A outer s H vs Q E hr h => ?_)
  · obtain ⟨v, m, rfl, _⟩ := h; rfl
  · obtain ⟨v, m, rfl, ⟨x, dx, rfl, hx⟩, hm, q⟩ := h
    refine ⟨_, (pss_cons (ps_set (i := 1) sc_Start_text.nd rfl (Or.inl rfl) (pe_fld (vr 0) rfl)) (pss_one (ps_ret (pe_fstr (pj_cons pe_str (pj_cons (pe_fmt (vr 1)) pj_nil)))))), ?_⟩
    have h0 : (0 : Int) ≤ (m : Int) := by omega
    have h1 : (m : Int) ≤ 100 := by omega
    have hl := slen h0 h1
    have sl : sizeLine = 16777216 := sizeLine_eq
    have e1 : ((Str.empty ++ ("start " : Str) : Str)).length ≤ 8 := by decide +kernel
    have e2 : ((Str.empty ++ ("start " : Str)) ++ ((toString (m : Int) : String) : Str) : Str).length ≤ sizeLine := by rw [strLen_append]; omega
    refine ⟨x, _, dx, _, _, rfl, hx, T.cl_Start, T.na_Start_step, rfl, ?_⟩
    refine ⟨by omega, slog h0 h1, e2, e2, ?_⟩
    rw [emp]
    exact q
theorem ok_tLoose (T : Txt K mg a) : FnOk P w K mg base CX0 1 a.x_Loose_text a.y_Loose_text ["self"] (spTextL a) := by
  refine T.F_Loose_text.ok sc_Loose_text (fun vs H Q E h => ?_) (fun cdv A outer s H vs Q E hr h => ?_)
  · obtain ⟨v, m, rfl, _⟩ := h; rfl
  · obtain ⟨v, m, rfl, ⟨x, dx, rfl, hx⟩, hm, q⟩ := h
    refine ⟨_, (pss_cons (ps_set (i := 1) sc_Loose_text.nd rfl (Or.inl rfl) (pe_fld (vr 0) rfl)) (pss_one (ps_ret (pe_fstr (pj_cons pe_str (pj_cons (pe_fmt (vr 1)) pj_nil)))))), ?_⟩
    have h0 : (0 : Int) ≤ (m : Int) := by omega
    have h1 : (m : Int) ≤ 100 := by omega
    have hl := slen h0 h1
    have sl : sizeLine = 16777216 := sizeLine_eq
    have e1 : ((Str.empty ++ ("loose " : Str) : Str)).length ≤ 8 := by decide +kernel
    have e2 : ((Str.empty ++ ("loose " : Str)) ++ ((toString (m : Int) : String) : Str) : Str).length ≤ sizeLine := by rw [strLen_append]; omega
    refine ⟨x, _, dx, _, _, rfl, hx, T.cl_Loose, T.na_Loose_many, rfl, ?_⟩
    refine ⟨by omega, slog h0 h1, e2, e2, ?_⟩
    rw [emp]
    exact q
end
end My
set_option Elab.async false
set_option linter.all false
set_option maxRecDepth 100000
set_option maxHeartbeats 4000000
namespace My
open PySem L2 FrM
abbrev fvMs : List Str := ["step"]
abbrev fvMl : List Str := ["told"]
def eS (st : Nat) (i j : Nat) : Int × Int := if i % st = j % st then (1, (st : Int)) else (0, 1)
def fAt (fs : List (Int × Int)) (i : Nat) : Int × Int := fs.getD i (0, 1)
def eL (fs : List (Int × Int)) (i j : Nat) : Int × Int := if i = j then fAt fs i else lowP ((fAt fs i).1 * (fAt fs j).1) ((fAt fs i).2 * (fAt fs j).2)
def rowG (n : Nat) (e : Nat → Nat → Int × Int) (i : Nat) : List (Int × Int) := (List.range n).map (e i)
def matG (n : Nat) (e : Nat → Nat → Int × Int) : List (List (Int × Int)) := (List.range n).map (rowG n e)
theorem mod_same {i j st : Nat} (h : 0 < st) : ((i : Int) - (j : Int)) % (st : Int) = 0 ↔ i % st = j % st := by
  rw [← Int.emod_emod_of_dvd _ (Int.dvd_refl _)]
  constructor
  · intro z
    have := Int.emod_emod_of_dvd ((i : Int) - (j : Int)) (Int.dvd_refl (st : Int))
    have e : (i : Int) % (st : Int) = (j : Int) % (st : Int) := by
      rw [this] at z
      exact Int.emod_eq_emod_iff_emod_sub_eq_zero.mpr z
    omega
  · intro z
    have e : (i : Int) % (st : Int) = (j : Int) % (st : Int) := by
      have h1 : ((i % st : Nat) : Int) = ((j % st : Nat) : Int) := by rw [z]
      rw [Int.natCast_emod, Int.natCast_emod] at h1
      exact h1
    rw [Int.emod_emod_of_dvd _ (Int.dvd_refl _)]
    exact Int.emod_eq_emod_iff_emod_sub_eq_zero.mp e
theorem low_one {st : Nat} (h : 0 < st) : lowP 1 (st : Int) = (1, (st : Int)) := by
  unfold lowP
  rw [show Int.gcd 1 (st : Int) = 1 by simp]
  simp
theorem at_f {K : PySem.W.Frag} {H : Hp} {fs : List (Int × Int)} {ys : List V} {i : Nat} (h : AllF K H fs ys) (hi : i < fs.length) : ∃ y, ys[i]? = some y ∧ IsF K H (fAt fs i) y := by
  have hl := h.len
  obtain ⟨f, hf, q⟩ := h.get (List.getElem?_eq_getElem (show i < ys.length by omega))
  refine ⟨_, List.getElem?_eq_getElem (show i < ys.length by omega), ?_⟩
  unfold fAt
  rw [List.getD, hf]
  exact q
theorem ok_f {fs : List (Int × Int)} (h : ∀ f ∈ fs, FrOk f) {i : Nat} (hi : i < fs.length) : FrOk (fAt fs i) := by
  unfold fAt
  rw [List.getD, List.getElem?_eq_getElem hi]
  exact h _ (List.getElem_mem hi)
theorem bt_f {f : Int × Int} (h : FrOk f) : Bt 1000 f.1 ∧ Bt 1000 f.2 := by
  have := h.pos; have := h.lo; have := h.hi; have := h.bd
  exact ⟨(show Bt 40 f.1 by unfold Bt; omega).mono (by decide), (show Bt 40 f.2 by unfold Bt; omega).mono (by decide)⟩
theorem IsF.un {K : PySem.W.Frag} {H : Hp} {clos : List (Str × Addr)} {vals : List V} (ca : CellsAt H clos vals) (x : Int × Int) (v : V) (h : IsF K H x v) : IsF K (untrs H (clos.map (·.2))) x v := let ⟨p2, h3, h4⟩ := h; ⟨p2, h3, h4.imp (fun e => untrs_of ca e (fun v z => nomatch z)) id⟩
def IsTell (K : PySem.W.Frag) (H : Hp) (v : V) (n : Nat) (e : Nat → Nat → Int × Int) : Prop :=
  (∃ st : Nat, IsLam H ld_Start_matrix_1 fvMs v [.int (st : Nat)] ∧ 1 ≤ st ∧ st ≤ 100 ∧ e = eS st) ∨
  (∃ w ys fs, IsLam H ld_Loose_matrix_1 fvMl v [.ref w] ∧ H w = some (.lst ys) ∧ AllF K H fs ys ∧ fs.length = n ∧ (∀ f ∈ fs, FrOk f) ∧ e = eL fs)
theorem IsTell.t {K : PySem.W.Frag} {H H' : Hp} {v : V} {n : Nat} {e : Nat → Nat → Int × Int} (s : Same H H') (h : IsTell K H v n e) : IsTell K H' v n e :=
  h.imp (fun ⟨st, h1, r⟩ => ⟨st, h1.t s.t, r⟩) fun ⟨w, ys, fs, h1, h2, h3, r⟩ => ⟨w, ys, fs, h1.t s.t, s _ _ h2, h3.same s, r⟩
def spMs (K : PySem.W.Frag) : List V → Sp := fun vals vs H Q _ => ∃ (st i j : Nat), vals = [.int (st : Nat)] ∧ vs = [.int (i : Nat), .int (j : Nat)] ∧ 1 ≤ st ∧ st ≤ 100 ∧ ∀ H' z, Same H H' → IsF K H' (eS st i j) z → Q z H'
def spMl (K : PySem.W.Frag) : List V → Sp := fun vals vs H Q _ => ∃ (w : Addr) (ys : List V) (fs : List (Int × Int)) (i j : Nat), vals = [.ref w] ∧ vs = [.int (i : Nat), .int (j : Nat)] ∧ H w = some (.lst ys) ∧ AllF K H fs ys ∧ (∀ f ∈ fs, FrOk f) ∧ i < fs.length ∧ j < fs.length ∧ ∀ H' z, Same H H' → IsF K H' (eL fs i j) z → Q z H'
theorem lsMs : LamScope ld_Start_matrix_1 fvMs ["one", "other"] := ⟨rfl, rfl, rfl, by decide +kernel, by decide +kernel, by decide +kernel, by decide +kernel, by decide +kernel⟩
theorem lsMl : LamScope ld_Loose_matrix_1 fvMl ["one", "other"] := ⟨rfl, rfl, rfl, by decide +kernel, by decide +kernel, by decide +kernel, by decide +kernel, by decide +kernel⟩
theorem backS {H H' H3 : Hp} {clos : List (Str × Addr)} (s : Same (untrs H (clos.map (·.2))) H') (s3 : Same H' H3) (hc : ∀ p ∈ clos, H3 p.2 = H p.2) : Same H H3 := fun b o e => by
  by_cases hb : b ∈ clos.map (·.2)
  · obtain ⟨p, hp, rfl⟩ := List.mem_map.mp hb
    rw [hc p hp, e]
  · exact (s.trans s3) b o (by rw [untrs_out hb]; exact e)
def MRow (K : PySem.W.Frag) (D : Addr) (H : Hp) (fs : List (Int × Int)) (x : V) : Prop := ∃ q ys, x = .ref q ∧ q ≠ D ∧ H q = some (.lst ys) ∧ AllF K H fs ys
abbrev MatAt (K : PySem.W.Frag) (D : Addr) (H : Hp) : List (List (Int × Int)) → List V → Prop := Paired (MRow K D H)
theorem MRow.same {K : PySem.W.Frag} {D : Addr} {H H' : Hp} {fs : List (Int × Int)} {x : V} (s : SameT H H') (h : MRow K D H fs x) : MRow K D H' fs x :=
  let ⟨q, ys, h1, h2, h3, h4⟩ := h; ⟨q, ys, h1, h2, s.at h3, h4.tk (SameT.tk s)⟩
theorem MatAt.same {K : PySem.W.Frag} {D : Addr} {H H' : Hp} (s : SameT H H') : ∀ {fss : List (List (Int × Int))} {xs : List V}, MatAt K D H fss xs → MatAt K D H' fss xs
  | _, _, .nil => .nil
  | _, _, .cons r t => .cons (r.same s) (MatAt.same s t)
theorem MRow.put {K : PySem.W.Frag} {D : Addr} {H : Hp} {fs : List (Int × Int)} {x : V} {zs zs' : List V} (hD : H D = some (.lst zs)) (h : MRow K D H fs x) : MRow K D (upd H D (.lst zs')) fs x :=
  let ⟨q, ys, h1, h2, h3, h4⟩ := h; ⟨q, ys, h1, h2, by rw [upd_ne h2]; exact h3, h4.tk (TK.lst hD)⟩
theorem MatAt.put {K : PySem.W.Frag} {D : Addr} {H : Hp} {zs zs' : List V} (hD : H D = some (.lst zs)) : ∀ {fss : List (List (Int × Int))} {xs : List V}, MatAt K D H fss xs → MatAt K D (upd H D (.lst zs')) fss xs
  | _, _, .nil => .nil
  | _, _, .cons r t => .cons (r.put hD) (MatAt.put hD t)
theorem MatAt.snoc {K : PySem.W.Frag} {D : Addr} {H : Hp} {fs : List (Int × Int)} {x : V} (h : MRow K D H fs x) : ∀ {fss : List (List (Int × Int))} {xs : List V}, MatAt K D H fss xs → MatAt K D H (fss ++ [fs]) (xs ++ [x])
  | _, _, .nil => .cons h .nil
  | _, _, .cons a b => .cons a (MatAt.snoc h b)
theorem MatAt.get {K : PySem.W.Frag} {D : Addr} {H : Hp} : ∀ {fss : List (List (Int × Int))} {xs : List V} {i : Nat} {x : V}, MatAt K D H fss xs → xs[i]? = some x → ∃ r, fss[i]? = some r ∧ MRow K D H r x
  | _, _, _, _, .nil, h => by cases h
  | _, _, 0, _, .cons r _, h => ⟨_, rfl, by cases h; exact r⟩
  | _, _, i + 1, _, .cons _ t, h => MatAt.get (i := i) t h
theorem MatAt.len {K : PySem.W.Frag} {D : Addr} {H : Hp} {fss : List (List (Int × Int))} {xs : List V} (h : MatAt K D H fss xs) : fss.length = xs.length := Paired.length h
def spMRow (K : PySem.W.Frag) : Sp := fun vs H Q _ => ∃ (n i : Nat) (e : Nat → Nat → Int × Int) (v : V), vs = [.int (i : Nat), .int (n : Nat), v] ∧ n ≤ 24 ∧ i < n ∧ IsTell K H v n e ∧
  ∀ H' r ys, Same H H' → H r = none → H' r = some (.lst ys) → AllF K H' (rowG n e i) ys → Q (.ref r) H'
def spMBy (K : PySem.W.Frag) : Sp := fun vs H Q _ => ∃ (n : Nat) (e : Nat → Nat → Int × Int) (v : V), vs = [.int (n : Nat), v] ∧ n ≤ 24 ∧ IsTell K H v n e ∧
  ∀ H' r xs, Same H H' → H r = none → H' r = some (.lst xs) → MatAt K r H' (matG n e) xs → xs.Nodup → (∀ q, V.ref q ∈ xs → H q = none) → Q (.ref r) H'
def spSMat (K : PySem.W.Frag) (a : Ad) : Sp := fun vs H Q _ => ∃ (v : V) (m : Nat) (l : Addr) (zs : List V), vs = [v, .ref l] ∧ IsStart a H v m ∧ 1 ≤ m ∧ m ≤ 100 ∧ H l = some (.lst zs) ∧ zs.length ≤ 24 ∧ TabsOk (tabs a) H ∧
  ∀ H' r xs, SameT H H' → TabsOk (tabs a) H' → H r = none → H' r = some (.lst xs) → MatAt K r H' (matG zs.length (eS m)) xs → xs.Nodup → (∀ q, V.ref q ∈ xs → H q = none) → Q (.ref r) H'
def spLMx (K : PySem.W.Frag) (a : Ad) : Sp := fun vs H Q _ => ∃ (v : V) (m : Nat) (l : Addr) (zs : List V) (ms : List Mb), vs = [v, .ref l] ∧ IsLoose a H v m ∧ m ≤ 24 ∧ H l = some (.lst zs) ∧ CrAt H ms zs ∧ Szs (szs ms) ∧ TabsOk (tabs a) H ∧
  ∀ H' r xs, SameT H H' → TabsOk (tabs a) H' → H r = none → H' r = some (.lst xs) → MatAt K r H' (matG ms.length (eL (due (szs ms) (m : Nat)))) xs → xs.Nodup → (∀ q, V.ref q ∈ xs → H q = none) → Q (.ref r) H'
theorem due_okS {z : List Int} {m : Nat} (h : Szs z) : ∀ f ∈ due z (m : Nat), FrOk f := due_ok (fun k hk => h.lo _ (sz_mem hk)) (fun k hk => h.hi _ (sz_mem hk)) h.len (by omega)
section
variable {P : Program} {w : World} {K : PySem.W.Frag} {mg : Str → Option Value} {base : Heap} {a : Ad}
theorem ok_ms (T : Txt K mg a) : LamOk P w K mg base 4 ld_Start_matrix_1 fvMs ["one", "other"] (spMs K) := by
  have G_share : FnOk P w K mg base CX0 3 _ _ _ spLow := (ok_share T).mono (by decide)
  refine lam_of lsMs (fun pm ctv clos c us hl => match us, hl with | [_, _], _ => rfl) (fun vals vs H Q E h => ?_) (fun A outer s H f c clos vals vs Q E hr hfv ca h => ?_)
  · obtain ⟨st, i, j, rfl, rfl, _⟩ := h; rfl
  · obtain ⟨st, i, j, rfl, rfl, h1, h2, q⟩ := h
    refine ⟨_, (pe_ifExp (t_cmp o_eq (pe_op o_mod (pe_op o_sub (vr 0) (vr 1)) (vr 2)) pe_int (nomark _)) (pe_call G_share hr rfl T.m_share T.F_share.kp T.B_share .nil pass0 (pa_cons pe_int (pa_cons (vr 2) pa_nil))) (pe_gl rfl T.g_NOUGHT)), ?_⟩
    have pos : (0 : Int) < (st : Int) := by omega
    refine ⟨cp pos, ?_⟩
    refine ifC (fun c => ?_) fun c => ?_
    · have e : i % st = j % st := (mod_same (by omega)).mp c
      have ee : eS st i j = lowP 1 (st : Int) := by unfold eS; rw [if_pos e, low_one (by omega)]
      rw [ee] at q
      exact ⟨1, (st : Int), rfl, pos, (show Bt 1 (1 : Int) by unfold Bt; decide).mono (by decide), (show Bt 10 (st : Int) by unfold Bt; omega).mono (by decide), fun H' p s1 hp => fun H3 s3 hc => q _ _ (backS s1 s3 hc) ⟨p, rfl, .inl (s3 _ _ hp)⟩⟩
    · have e : ¬ i % st = j % st := fun z => c ((mod_same (by omega)).mpr z)
      have ee : eS st i j = (0, 1) := by unfold eS; rw [if_neg e]
      rw [ee] at q
      exact fun H3 s3 hc => q _ _ (backS (Same.refl _) s3 hc) ⟨a.k_NOUGHT, rfl, .inr T.t_NOUGHT⟩
theorem ok_ml (T : Txt K mg a) : LamOk P w K mg base 4 ld_Loose_matrix_1 fvMl ["one", "other"] (spMl K) := by
  have G_times : FnOk P w K mg base CX0 3 _ _ _ (spTimes K) := ok_times T
  refine lam_of lsMl (fun pm ctv clos c us hl => match us, hl with | [_, _], _ => rfl) (fun vals vs H Q E h => ?_) (fun A outer s H f c clos vals vs Q E hr hfv ca h => ?_)
  · obtain ⟨w', ys, fs, i, j, rfl, rfl, _⟩ := h; rfl
  · obtain ⟨w', ys, fs, i, j, rfl, rfl, hw, hF, hok, hi, hj, q⟩ := h
    refine ⟨_, (pe_ifExp (t_cmp o_eq (vr 0) (vr 1) (nomark _)) (pe_ix ix_seq (vr 2) (vr 0) (fun _ _ => rfl)) (pe_call G_times hr rfl T.m_times T.F_times.kp T.B_times .nil pass0 (pa_cons (pe_ix ix_seq (vr 2) (vr 0) (fun _ _ => rfl)) (pa_cons (pe_ix ix_seq (vr 2) (vr 1) (fun _ _ => rfl)) pa_nil)))), ?_⟩
    have hw' := untrs_of ca hw fun v z => nomatch z
    obtain ⟨yi, ei, fi⟩ := at_f hF hi
    obtain ⟨yj, ej, fj⟩ := at_f hF hj
    have oi := ok_f hok hi
    have oj := ok_f hok hj
    refine ifC (fun c => ?_) fun c => ?_
    · have e : i = j := by have c : (i : Int) = (j : Int) := c; omega
      have ee : eL fs i j = fAt fs i := by unfold eL; rw [if_pos e]
      rw [ee] at q
      refine .inl ⟨w', _, _, yi, rfl, rfl, SqL.of hw', atI_cons i rfl ei, ?_⟩
      exact fun H3 s3 hc => q _ _ (backS (Same.refl _) s3 hc) ((IsF.un ca _ _ fi).same s3)
    · have e : ¬ i = j := fun z => c (by show (i : Int) = (j : Int); rw [z])
      have ee : eL fs i j = lowP ((fAt fs i).1 * (fAt fs j).1) ((fAt fs i).2 * (fAt fs j).2) := by unfold eL; rw [if_neg e]
      rw [ee] at q
      refine .inl ⟨w', _, _, yi, rfl, rfl, SqL.of hw', atI_cons i rfl ei, .inl ⟨w', _, _, yj, rfl, rfl, SqL.of hw', atI_cons j rfl ej, ?_⟩⟩
      exact ⟨yi, yj, _, _, rfl, IsF.un ca _ _ fi, IsF.un ca _ _ fj, oi.pos, oj.pos, (bt_f oi).1, (bt_f oi).2, (bt_f oj).1, (bt_f oj).2, fun H' p s1 hp => fun H3 s3 hc => q _ _ (backS s1 s3 hc) ⟨p, rfl, .inl (s3 _ _ hp)⟩⟩
theorem ok_mrow (T : Txt K mg a) : FnOk P w K mg base CX0 5 a.f_matrix_row a.d_matrix_row ["one", "many", "tell"] (spMRow K) := by
  have L_ms : LamOk P w K mg base 4 ld_Start_matrix_1 fvMs ["one", "other"] (spMs K) := ok_ms T
  have L_ml : LamOk P w K mg base 4 ld_Loose_matrix_1 fvMl ["one", "other"] (spMl K) := ok_ml T
  refine T.F_matrix_row.ok sc_matrix_row (fun vs H Q E h => ?_) (fun cdv A outer s H vs Q E hr h => ?_)
  · obtain ⟨n, i, e, v, rfl, _⟩ := h; rfl
  · obtain ⟨n, i, e, v, rfl, hn, hi, hL, q⟩ := h
    have small : sizeLine = 16777216 := sizeLine_eq
    refine ⟨_, (pss_one (ps_ret (pe_comp rfl (N := ["other", "tell", "one"]) (ix := [none, some 2, some 0]) ⟨rfl, rfl, rfl, rfl, ⟨rfl, rfl, rfl, ⟨rfl, rfl, rfl, trivial⟩⟩⟩ (pi_range1 rfl T.z_range (pa_cons (vr 1) pa_nil)) ⟨fun C s H fp => pg_name (i := 0) (show List.Nodup (["other", "tell", "one"] : List Str) by decide +kernel) rfl (Or.inl rfl), fun C s H fp => pts_nil, fun C s H fp => (PE.or (pe_callL (vr 1) L_ms hr (pa_cons (vr 2) (pa_cons (vr 0) pa_nil))) (pe_callL (vr 1) L_ml hr (pa_cons (vr 2) (pa_cons (vr 0) pa_nil))))⟩))), ?_⟩
    refine ⟨(n : Int), rfl, by omega, by omega, fun D hD => ?_⟩
    refine comp_rng (lo := 0) (n := n) (fun j ys H' => j ≤ n ∧ Same H H' ∧ H' D = some (.lst ys) ∧ AllF K H' ((List.range j).map (e i)) ys) ⟨Nat.zero_le _, Same.new hD, upd_same, .nil⟩ (fun j ys H' h => h.2.2.1) ?_ ?_
    · rintro j ys H' P' hj ⟨_, s1, hD1, hF⟩ hP
      have hyl : ys.length = j := by rw [← hF.len, List.length_map, List.length_range]
      have fin : ∀ H2 z, Same H' H2 → IsF K H2 (e i j) z → H2 D = some (.lst ys) ∧ ys.length < sizeLine ∧ P' (ys ++ [z]) (upd H2 D (.lst (ys ++ [z]))) := fun H2 z s2 hz => by
        have hD2 := s2 _ _ hD1
        refine ⟨hD2, by omega, hP _ _ ⟨hj, (s1.trans s2).put hD, upd_same, ?_⟩⟩
        rw [List.range_succ, List.map_append]
        exact AllF.snoc (hz.tk (TK.lst hD2)) ((hF.same s2).tk (TK.lst hD2))
      have ej : [V.int (i : Int), V.int (0 + (j : Int))] = [V.int (i : Int), V.int (j : Int)] := by rw [Int.zero_add]
      refine ⟨⟨rfl, rfl, trivial⟩, ?_⟩
      rcases hL.t s1 with ⟨st, ⟨f, c, clos, rfl, e1, e2, e3, e4, e5⟩, h1, h2, rfl⟩ | ⟨w', ys', fs, ⟨f, c, clos, rfl, e1, e2, e3, e4, e5⟩, h1, h2, h3, h4, rfl⟩
      · exact .inl ⟨⟨f, _, _, _, rfl, e1⟩, fun f' d' cl' c' _ z => z, f, c, clos, _, rfl, e1, e2, e3, e4, e5, st, i, j, rfl, ej, h1, h2, fin⟩
      · exact .inr ⟨⟨f, _, _, _, rfl, e1⟩, fun f' d' cl' c' _ z => z, f, c, clos, _, rfl, e1, e2, e3, e4, e5, w', ys', fs, i, j, rfl, ej, h1, h2, h4, by omega, by omega, fin⟩
    · rintro ys H' ⟨_, s1, hD1, hF⟩
      exact q _ D ys s1 hD hD1 hF
theorem ok_mby (T : Txt K mg a) : FnOk P w K mg base CX0 6 a.f_matrix_by a.d_matrix_by ["many", "tell"] (spMBy K) := by
  have G_matrix_row : FnOk P w K mg base CX0 5 _ _ _ (spMRow K) := ok_mrow T
  refine T.F_matrix_by.ok sc_matrix_by (fun vs H Q E h => ?_) (fun cdv A outer s H vs Q E hr h => ?_)
  · obtain ⟨n, e, v, rfl, _⟩ := h; rfl
  · obtain ⟨n, e, v, rfl, hn, hL, q⟩ := h
    have small : sizeLine = 16777216 := sizeLine_eq
    refine ⟨_, (pss_one (ps_ret (pe_comp rfl (N := ["one", "many", "tell"]) (ix := [none, some 0, some 1]) ⟨rfl, rfl, rfl, rfl, ⟨rfl, rfl, rfl, ⟨rfl, rfl, rfl, trivial⟩⟩⟩ (pi_range1 rfl T.z_range (pa_cons (vr 0) pa_nil)) ⟨fun C s H fp => pg_name (i := 0) (show List.Nodup (["one", "many", "tell"] : List Str) by decide +kernel) rfl (Or.inl rfl), fun C s H fp => pts_nil, fun C s H fp => (pe_call G_matrix_row hr rfl T.m_matrix_row T.F_matrix_row.kp T.B_matrix_row .nil pass0 (pa_cons (vr 0) (pa_cons (vr 1) (pa_cons (vr 2) pa_nil))))⟩))), ?_⟩
    refine ⟨(n : Int), rfl, by omega, by omega, fun D hD => ?_⟩
    refine comp_rng (lo := 0) (n := n) (fun j ys H' => j ≤ n ∧ Same H H' ∧ H' D = some (.lst ys) ∧ MatAt K D H' ((List.range j).map (rowG n e)) ys ∧ ys.Nodup ∧ ∀ q, V.ref q ∈ ys → H q = none) ⟨Nat.zero_le _, Same.new hD, upd_same, .nil, List.nodup_nil, fun q hq => by cases hq⟩ (fun j ys H' h => h.2.2.1) ?_ ?_
    · rintro j ys H' P' hj ⟨_, s1, hD1, hM, hnd, hnew⟩ hP
      have hyl : ys.length = j := by rw [← hM.len, List.length_map, List.length_range]
      refine ⟨⟨rfl, rfl, trivial⟩, n, j, e, v, ?_, hn, hj, hL.t s1, fun H2 r ys2 s2 hr0 hr2 hF => ?_⟩
      · show [V.int (0 + (j : Int)), V.int (n : Int), v] = _
        rw [Int.zero_add]
      have hD2 := s2 _ _ hD1
      have nr : r ≠ D := fun z => by rw [z, hD1] at hr0; cases hr0
      refine ⟨hD2, by omega, hP _ _ ⟨hj, (s1.trans s2).put hD, upd_same, ?_, ?_, fun q hq => ?_⟩⟩
      · rw [List.range_succ, List.map_append]
        exact MatAt.snoc ⟨r, ys2, rfl, nr, by rw [upd_ne nr]; exact hr2, hF.tk (TK.lst hD2)⟩ (MatAt.put hD2 (MatAt.same s2.t hM))
      · rw [List.nodup_append]
        refine ⟨hnd, by simp, fun x hx y hy z => ?_⟩
        rw [List.mem_singleton] at hy
        subst hy
        subst z
        obtain ⟨i, hi⟩ := List.getElem?_of_mem hx
        obtain ⟨_, _, q1, _, e, _, h3, _⟩ := hM.get hi
        cases e
        rw [h3] at hr0
        cases hr0
      · rcases List.mem_append.mp hq with z | z
        · exact hnew q z
        · cases List.mem_singleton.mp z
          exact s1.free hr0
    · rintro ys H' ⟨_, s1, hD1, hM, hnd, hnew⟩
      exact q _ D ys s1 hD hD1 hM hnd hnew
theorem ok_smat (T : Txt K mg a) (hB : Bm mg base) : FnOk P w K mg base CX0 7 a.x_Start_matrix a.y_Start_matrix ["self", "crowd"] (spSMat K a) := by
  have G_matrix_by : FnOk P w K mg base CX0 6 _ _ _ (spMBy K) := ok_mby T
  refine T.F_Start_matrix.okL T.lcd_Start_matrix sc_Start_matrix (by decide +kernel) (fun vs H Q E h => ?_) (fun A outer s H vs Q E hr h => ?_)
  · obtain ⟨v, m, l, zs, rfl, _⟩ := h; rfl
  · obtain ⟨v, m, l, zs, rfl, ⟨x, dx, rfl, hx⟩, m1, m2, hl, hz, hT, q⟩ := h
    refine ⟨_, (pr_cons (ps_set (i := 2) sc_Start_matrix.nd rfl (Or.inr rfl) (pe_fld (vr 0) rfl)) (pr_retC sc_Start_matrix.nd (by decide +kernel) G_matrix_by hr rfl T.m_matrix_by T.F_matrix_by.kp T.B_matrix_by .nil (pa_cons (pe_callB call_lenM rfl T.z_len bt_len (pa_cons (vr 1) pa_nil)) (pa_cons (pe_lam (d := ld_Start_matrix_1) rfl T.lch_Start_matrix hB rfl (by with_unfolding_all rfl) rfl (tb_Start_matrix a) (.head _) T.tnd tp_Start_matrix) pa_nil)))), ?_⟩
    refine ⟨x, _, dx, _, _, rfl, hx, T.cl_Start, T.na_Start_step, rfl, ?_⟩
    refine ⟨_, .inl (SqL.of hl), ?_⟩
    refine ⟨hT, fun f c H1 t1 hT1 hf0 ef ec => ?_⟩
    intro H3 s3 hc
    have cS := hc 2 _ _ _ rfl rfl (by with_unfolding_all rfl)
    have t13 := t1.trans s3.t
    refine ⟨zs.length, eS m, .ref f, rfl, hz, .inl ⟨m, ⟨f, c, _, rfl, s3 _ _ ef, s3 _ _ ec, rfl, by simp, .cons cS .nil⟩, m1, m2, rfl⟩, fun H' r xs s4 hr0 hr1 hM hnd hnew => ?_⟩
    exact q _ r xs (t13.trans s4.t) ((hT1.same s3).same s4) (t13.free hr0) hr1 hM hnd fun q hq => t13.free (hnew q hq)
theorem ok_lmx (T : Txt K mg a) (hB : Bm mg base) : FnOk P w K mg base CX0 7 a.x_Loose_matrix a.y_Loose_matrix ["self", "crowd"] (spLMx K a) := by
  have G_matrix_by : FnOk P w K mg base CX0 6 _ _ _ (spMBy K) := ok_mby T
  have G_wished_by : FnOk P w K mg base CX0 6 _ _ _ (spWBy K) := (ok_wby T).mono (by decide)
  refine T.F_Loose_matrix.okL T.lcd_Loose_matrix sc_Loose_matrix (by decide +kernel) (fun vs H Q E h => ?_) (fun A outer s H vs Q E hr h => ?_)
  · obtain ⟨v, m, l, zs, ms, rfl, _⟩ := h; rfl
  · obtain ⟨v, m, l, zs, ms, rfl, ⟨x, dx, rfl, hx⟩, m2, hl, hC, hz, hT, q⟩ := h
    have hlen : ms.length ≤ 24 := by have := hz.len; unfold szs at this; rw [List.length_map] at this; exact this
    have dl : (due (szs ms) (m : Nat)).length = ms.length := by rw [due_len]; unfold szs; rw [List.length_map]
    refine ⟨_, (pr_cons (ps_set (i := 2) sc_Loose_matrix.nd rfl (Or.inr rfl) (pe_call G_wished_by hr rfl T.m_wished_by T.F_wished_by.kp T.B_wished_by .nil pass0 (pa_cons (vr 1) (pa_cons (pe_fld (vr 0) rfl) pa_nil)))) (pr_retC sc_Loose_matrix.nd (by decide +kernel) G_matrix_by hr rfl T.m_matrix_by T.F_matrix_by.kp T.B_matrix_by .nil (pa_cons (pe_callB call_lenM rfl T.z_len bt_len (pa_cons (vr 2) pa_nil)) (pa_cons (pe_lam (d := ld_Loose_matrix_1) rfl T.lch_Loose_matrix hB rfl (by with_unfolding_all rfl) rfl (tb_Loose_matrix a) (.head _) T.tnd tp_Loose_matrix) pa_nil)))), ?_⟩
    refine ⟨x, _, dx, _, _, rfl, hx, T.cl_Loose, T.na_Loose_many, rfl, ?_⟩
    refine ⟨l, zs, ms, (m : Nat), rfl, hl, hC, hz, by omega, by omega, fun H2 w' ys s2 hw0 hw hF => ?_⟩
    have yl : ys.length = ms.length := by rw [← hF.len, dl]
    refine ⟨_, .inl (SqL.of hw), ?_⟩
    refine ⟨hT.same s2, fun f c H1 t1 hT1 hf0 ef ec => ?_⟩
    intro H3 s3 hc
    have cS := hc 2 _ _ _ rfl rfl (by with_unfolding_all rfl)
    have t13 := t1.trans s3.t
    have t03 := s2.t.trans t13
    refine ⟨ms.length, eL (due (szs ms) (m : Nat)), .ref f, ?_, hlen, .inr ⟨w', ys, _, ⟨f, c, _, rfl, s3 _ _ ef, s3 _ _ ec, rfl, by simp, .cons cS .nil⟩, t13.at hw, hF.tk (SameT.tk t13), dl, due_okS hz, rfl⟩, fun H' r xs s4 hr0 hr1 hM hnd hnew => ?_⟩
    · show [V.int (ys.length : Int), V.ref f] = _
      rw [yl]
    exact q _ r xs (t03.trans s4.t) ((hT1.same s3).same s4) (t03.free hr0) hr1 hM hnd fun q hq => t03.free (hnew q hq)
end
end My
set_option Elab.async false
set_option linter.all false
set_option maxRecDepth 100000
set_option maxHeartbeats 4000000
namespace My
open PySem L2 FrM
def spLMat (K : PySem.W.Frag) : Sp := fun vs H Q _ => ∃ (r d : Addr) (xs ys : List V) (fss : List (List (Int × Int))), vs = [.ref r, .ref d] ∧ H r = some (.lst xs) ∧ H d = some (.lst ys) ∧ MatAt K r H fss xs ∧ MatAt K d H fss ys ∧ ∀ H', Same H H' → Q (.bl true) H'
def Pt (ms : List Mb) : Prop := Szs (szs ms)
def spCrowd (K : PySem.W.Frag) : Sp := fun vs H Q _ => ∃ (p : Addr) (ns : List Int), vs = [.ref p, .int 0, .int 24] ∧ SqL K H p (ns.map V.int) ∧ ns.length ≤ 63 ∧ ∀ H' r ms xs, Same H H' → H r = none → H' r = some (.lst xs) → CrAt H' ms xs → Pt ms → Q (.ref r) H'
theorem AllF.set {K : PySem.W.Frag} {H : Hp} {f : Int × Int} {x : V} (h : IsF K H f x) : ∀ {fs : List (Int × Int)} {xs : List V} (i : Nat), AllF K H fs xs → AllF K H (fs.set i f) (xs.set i x)
  | _, _, _, .nil => .nil
  | _, _, 0, .cons _ t => .cons h t
  | _, _, i + 1, .cons a t => .cons a (AllF.set h i t)
theorem Pt.len {ms : List Mb} (h : Pt ms) : ms.length ≤ 24 := by have := Szs.len h; unfold szs at this; rw [List.length_map] at this; exact this
def spBoth (K : PySem.W.Frag) : Sp := fun vs H Q _ => ∃ (l : Addr) (xs : List V) (fs : List (Int × Int)), vs = [.ref l] ∧ H l = some (.lst xs) ∧ AllF K H fs xs ∧ fs.length ≤ 24 ∧ (∀ f ∈ fs, FrOk f) ∧ ∀ H' r xs, Same H H' → H r = none → H' r = some (.lst xs) → MatAt K r H' (matG fs.length (eL fs)) xs → (∀ q, V.ref q ∈ xs → H q = none) → Q (.ref r) H'
def spSteps (K : PySem.W.Frag) : Sp := fun vs H Q _ => ∃ (n st : Nat), vs = [.int (n : Nat), .int (st : Nat)] ∧ n ≤ 24 ∧ 1 ≤ st ∧ st ≤ 100 ∧ ∀ H' r xs, Same H H' → H r = none → H' r = some (.lst xs) → MatAt K r H' (matG n (eS st)) xs → (∀ q, V.ref q ∈ xs → H q = none) → Q (.ref r) H'
theorem both_set {fs : List (Int × Int)} {i : Nat} (hi : i < fs.length) : ((List.range fs.length).map fun j => lowP ((fAt fs i).1 * (fAt fs j).1) ((fAt fs i).2 * (fAt fs j).2)).set i (fAt fs i) = rowG fs.length (eL fs) i := by
  unfold rowG
  apply List.ext_getElem
  · simp
  · intro j h1 h2
    rw [List.getElem_set, List.getElem_map, List.getElem_map, List.getElem_range]
    unfold eL
    by_cases e : i = j
    · rw [if_pos e]
    · rw [if_neg e]
def rowP (n st : Nat) (p : Nat → Bool) : List (Int × Int) := (List.range n).map fun j => if p j = true then (1, (st : Int)) else (0, 1)
theorem rowP_set {n st k : Nat} {p p' : Nat → Bool} (h1 : p' k = true) (h2 : ∀ j, j ≠ k → p' j = p j) : (rowP n st p).set k (1, (st : Int)) = rowP n st p' := by
  unfold rowP
  apply List.ext_getElem
  · simp
  · intro j g1 g2
    rw [List.getElem_set, List.getElem_map, List.getElem_map, List.getElem_range]
    by_cases e : k = j
    · rw [if_pos e, ← e, h1]; rfl
    · rw [if_neg e, h2 j (fun z => e z.symm)]
def stepP (lo st i : Nat) (j : Nat) : Bool := decide (j % st = lo % st ∧ lo ≤ j ∧ j < lo + i * st)
theorem stepP_succ {lo st i : Nat} (hs : 0 < st) : stepP lo st (i + 1) (lo + i * st) = true ∧ ∀ j, j ≠ lo + i * st → stepP lo st (i + 1) j = stepP lo st i j := by
  have e1 : (i + 1) * st = i * st + st := by rw [Nat.add_mul, Nat.one_mul]
  constructor
  · refine decide_eq_true ⟨by rw [Nat.add_mul_mod_self_right], by omega, by omega⟩
  · intro j hj
    unfold stepP
    refine decide_eq_decide.mpr ⟨fun ⟨h1, h2, h3⟩ => ⟨h1, h2, ?_⟩, fun ⟨h1, h2, h3⟩ => ⟨h1, h2, by omega⟩⟩
    rcases Nat.lt_or_ge j (lo + i * st) with g | g
    · exact g
    · exfalso
      obtain ⟨d, hd⟩ : ∃ d, j = lo + i * st + d := ⟨j - (lo + i * st), by omega⟩
      have d0 : 0 < d := by omega
      have d1 : d < st := by omega
      have em : (lo + i * st + d) % st = (lo + d) % st := by rw [show lo + i * st + d = lo + d + i * st by omega, Nat.add_mul_mod_self_right]
      rw [hd, em] at h1
      have h4 : (lo + d) % st = lo % st := h1
      have h5 := Nat.sub_mod_eq_zero_of_mod_eq h4
      rw [show lo + d - lo = d by omega, Nat.mod_eq_of_lt d1] at h5
      omega
theorem any_nat {lo n st : Nat} (hs : 0 < st) : lo + (any_n (lo : Int) (n : Int) (st : Int)) * st ≥ n ∧ ∀ i, i < any_n (lo : Int) (n : Int) (st : Int) → lo + i * st < n := by
  have hp : (st : Int) > 0 := by omega
  by_cases h : lo < n
  · have e : any_n (lo : Int) (n : Int) (st : Int) = (n - lo - 1) / st + 1 := by
      unfold any_n Builtin.Range.rangeSize
      simp only [hp, if_true]
      rw [if_pos (by omega)]
      have : (n : Int) - (lo : Int) - 1 = ((n - lo - 1 : Nat) : Int) := by omega
      rw [this, ← Int.natCast_ediv]
      generalize (n - lo - 1) / st = z
      omega
    rw [e]
    have dm := Nat.div_add_mod (n - lo - 1) st
    have ml := Nat.mod_lt (n - lo - 1) hs
    constructor
    · rw [Nat.add_mul, Nat.one_mul, Nat.mul_comm ((n - lo - 1) / st) st]
      omega
    · intro i hi
      have : i * st ≤ ((n - lo - 1) / st) * st := Nat.mul_le_mul_right _ (by omega)
      rw [Nat.mul_comm ((n - lo - 1) / st) st] at this
      omega
  · have e : any_n (lo : Int) (n : Int) (st : Int) = 0 := by
      unfold any_n Builtin.Range.rangeSize
      simp only [hp, if_true]
      rw [if_neg (by omega)]
      rfl
    rw [e]
    exact ⟨by omega, fun i hi => absurd hi (by omega)⟩
theorem row_steps {n st k : Nat} (hs : 0 < st) {m : Nat} (hm : k % st + m * st ≥ n) : rowP n st (stepP (k % st) st m) = rowG n (eS st) k := by
  unfold rowP rowG
  refine List.map_congr_left fun j hj => ?_
  have hj : j < n := List.mem_range.mp hj
  unfold eS stepP
  have hk : k % st < st := Nat.mod_lt _ hs
  by_cases e : k % st = j % st
  · rw [if_pos e, if_pos]
    refine decide_eq_true ⟨by rw [Nat.mod_mod]; exact e.symm, ?_, by omega⟩
    rw [e]; exact Nat.mod_le _ _
  · rw [if_neg e, if_neg]
    intro z
    have z := (of_decide_eq_true z).1
    rw [Nat.mod_mod] at z
    exact e z.symm
section
variable {P : Program} {w : World} {K : PySem.W.Frag} {mg : Str → Option Value} {base : Heap} {a : Ad}
theorem ok_lmat (T : Txt K mg a) : FnOk P w K mg base CX0 3 a.f_L_matrix a.d_L_matrix ["_law_found", "_law_due"] (spLMat K) := by
  have G_L_fraction : FnOk P w K mg base CX0 2 _ _ _ (spFraction K) := ok_fraction T
  refine T.F_L_matrix.ok sc_L_matrix (fun vs H Q E h => ?_) (fun cdv A outer s H vs Q E hr h => ?_)
  · obtain ⟨r, d, xs, ys, fss, rfl, _⟩ := h; rfl
  · obtain ⟨r, d, xs, ys, fss, rfl, hl, hr', fx, fy, q⟩ := h
    refine ⟨_, (pss_cons (ps_if (PW.pt (pw_or (pt_not (t_val (pe_callB call_isi rfl T.z_isinstance bt_isinstance (pa_cons (vr 0) (pa_cons (pe_bltn (v := .ty "list") rfl T.z_list bt_list rfl) pa_nil))))) (pw_or1 (t_cmp o_ne (pe_callB call_lenM rfl T.z_len bt_len (pa_cons (vr 0) pa_nil)) (pe_callB call_lenM rfl T.z_len bt_len (pa_cons (vr 1) pa_nil)) (nomark _))))) (pss_one (ps_ret pe_bl)) pss_nil) (pss_cons (ps_for PassesOwn.never rfl (pi_zip rfl T.z_zip (pa_cons (vr 0) (pa_cons (vr 1) pa_nil))) (pg_tup rfl (pgs_cons (pg_name (i := 2) sc_L_matrix.nd rfl (Or.inl rfl)) (pgs_cons (pg_name (i := 3) sc_L_matrix.nd rfl (Or.inl rfl)) pgs_nil))) (pss_cons (ps_if (PW.pt (pw_or (pt_not (t_val (pe_callB call_isi rfl T.z_isinstance bt_isinstance (pa_cons (vr 2) (pa_cons (pe_bltn (v := .ty "list") rfl T.z_list bt_list rfl) pa_nil))))) (pw_or1 (t_cmp o_ne (pe_callB call_lenM rfl T.z_len bt_len (pa_cons (vr 2) pa_nil)) (pe_callB call_lenM rfl T.z_len bt_len (pa_cons (vr 3) pa_nil)) (nomark _))))) (pss_one (ps_ret pe_bl)) pss_nil) (pss_one (ps_for PassesOwn.never rfl (pi_zip rfl T.z_zip (pa_cons (vr 2) (pa_cons (vr 3) pa_nil))) (pg_tup rfl (pgs_cons (pg_name (i := 4) sc_L_matrix.nd rfl (Or.inl rfl)) (pgs_cons (pg_name (i := 5) sc_L_matrix.nd rfl (Or.inl rfl)) pgs_nil))) (pss_one (ps_if (pt_not (t_val (pe_call G_L_fraction hr rfl T.m_L_fraction T.F_L_fraction.kp T.B_L_fraction .nil pass0 (pa_cons (vr 4) (pa_cons (vr 5) pa_nil))))) (pss_one (ps_ret pe_bl)) pss_nil)))))) (pss_one (ps_ret pe_bl)))), ?_⟩
    have e1 := fx.len
    have e2 := fy.len
    refine ⟨_, _, _, true, rfl, rfl, .lst hl, rfl, ?_⟩
    refine ⟨_, .inl (SqL.of hl), ⟨_, .inl (SqL.of hr'), ?_⟩⟩
    refine iteNS (by rw [← e1, ← e2]) ?_
    refine ⟨r, d, xs, ys, rfl, hl, hr', for_zip (a := r) (b := d) (xs := xs) (ys := ys) (by rw [← e1, ← e2]) (fun i σ H' => Same H H' ∧ ∃ (x2 x3 x4 x5 : Option V), σ = [some (.ref r), some (.ref d), x2, x3, x4, x5]) ⟨Same.refl H, none, none, none, none, rfl⟩ (fun i σ H' h => ⟨h.1 _ _ hl, h.1 _ _ hr'⟩) ?_ ?_⟩
    · rintro i x y σ H' p hxi hyi ⟨s1, x2, x3, x4, x5, rfl⟩ hp
      have s2 : Same H (upd H' p (.tup [x, y])) := s1.trans (Same.new hp)
      obtain ⟨fs, hu1, q1, zs, rfl, _, g1, hF⟩ := fx.get hxi
      obtain ⟨fs', hu2, q2, zs', rfl, _, g2, hF'⟩ := fy.get hyi
      rw [hu1] at hu2
      cases hu2
      refine ⟨p, _, rfl, SqT.of upd_same, rfl, _, _, rfl, _, _, rfl, rfl, ?_⟩
      generalize upd H' p (.tup [.ref q1, .ref q2]) = H2 at s2
      have k1 := s2 _ _ g1
      have k2 := s2 _ _ g2
      have l1 := hF.len
      have l2 := hF'.len
      refine ⟨_, _, _, true, rfl, rfl, .lst k1, rfl, ?_⟩
      refine ⟨_, .inl (SqL.of k1), ⟨_, .inl (SqL.of k2), ?_⟩⟩
      refine iteNS (by rw [← l1, ← l2]) ?_
      refine ⟨q1, q2, zs, zs', rfl, k1, k2, for_zip (a := q1) (b := q2) (xs := zs) (ys := zs') (by rw [← l1, ← l2]) (fun i σ H' => Same H H' ∧ ∃ (x4 x5 : Option V), σ = [some (.ref r), some (.ref d), some (.ref q1), some (.ref q2), x4, x5]) ⟨s2, _, _, rfl⟩ (fun i σ H' h => ⟨h.1 _ _ g1, h.1 _ _ g2⟩) ?_ ?_⟩
      · rintro i x y σ H' p hxi hyi ⟨s1, x4, x5, rfl⟩ hp
        have s2 : Same H (upd H' p (.tup [x, y])) := s1.trans (Same.new hp)
        obtain ⟨u, hu1, hU⟩ := hF.get hxi
        obtain ⟨u', hu2, hU'⟩ := hF'.get hyi
        rw [hu1] at hu2
        cases hu2
        obtain ⟨a1, rfl, h1⟩ := hU.same s2
        obtain ⟨a2, rfl, h2⟩ := hU'.same s2
        refine ⟨p, _, rfl, SqT.of upd_same, rfl, _, _, rfl, _, _, rfl, rfl, ?_⟩
        exact ⟨a1, a2, u.1, u.2, rfl, h1.sq, h2.sq, ⟨s2, _, _, rfl⟩⟩
      · rintro σ H' ⟨s1, x4, x5, rfl⟩
        exact ⟨s1, _, _, _, _, rfl⟩
    · rintro σ H' ⟨s1, x2, x3, x4, x5, rfl⟩
      exact q _ s1
theorem ok_crowd (T : Txt K mg a) : FnOk P w K mg base CX0 3 a.f_L_crowd a.d_L_crowd ["_law_script", "_law_start_here", "_law_most"] (spCrowd K) := by
  have G_L_cell : FnOk P w K mg base CX0 2 _ _ _ (spCell K) := (ok_cell T).mono (by decide)
  have G_L_row : FnOk P w K mg base CX0 2 _ _ _ spRow := ok_row T
  refine T.F_L_crowd.ok sc_L_crowd (fun vs H Q E h => ?_) (fun cdv A outer s H vs Q E hr h => ?_)
  · obtain ⟨p, ns, rfl, _⟩ := h; rfl
  · obtain ⟨p, ns, rfl, hS, hlen, q⟩ := h
    have small : sizeLine = 16777216 := sizeLine_eq
    refine ⟨_, (pss_cons (ps_set (i := 3) sc_L_crowd.nd rfl (Or.inl rfl) (pe_op o_mod (pe_call G_L_cell hr rfl T.m_L_cell T.F_L_cell.kp T.B_L_cell .nil pass0 (pa_cons (vr 0) (pa_cons (vr 1) pa_nil))) (pe_op o_add (vr 2) pe_int))) (pss_cons (ps_set (i := 4) sc_L_crowd.nd rfl (Or.inl rfl) (pe_call G_L_cell hr rfl T.m_L_cell T.F_L_cell.kp T.B_L_cell .nil pass0 (pa_cons (vr 0) (pa_cons (pe_op o_add (vr 1) pe_int) pa_nil)))) (pss_cons (ps_set (i := 5) sc_L_crowd.nd rfl (Or.inr rfl) (pe_call G_L_row hr rfl T.m_L_row T.F_L_row.kp T.B_L_row .nil pass0 (pa_cons (pe_call G_L_cell hr rfl T.m_L_cell T.F_L_cell.kp T.B_L_cell .nil pass0 (pa_cons (vr 0) (pa_cons (pe_op o_add (vr 1) pe_int) pa_nil))) (pa_cons (vr 4) (pa_cons (vr 3) (pa_cons (pe_ix ix_seq (pe_lst (pa_cons pe_int (pa_cons pe_int (pa_cons pe_int pa_nil)))) (pe_op o_mod (pe_op o_fdivB (vr 4) pe_int) pe_int) (fun _ _ => rfl)) pa_nil)))))) (pss_cons (ps_set (i := 6) sc_L_crowd.nd rfl (Or.inl rfl) (pe_callTy (call_lstRng rfl) rfl T.z_list bt_list (pa_cons (pe_callTy call_rng1 rfl T.z_range bt_range (pa_cons pe_int pa_nil)) pa_nil))) (pss_cons (ps_set (i := 7) sc_L_crowd.nd rfl (Or.inr rfl) (pe_lst pa_nil)) (pss_cons (ps_for PassesOwn.never rfl (pi_any (pe_call G_L_row hr rfl T.m_L_row T.F_L_row.kp T.B_L_row .nil pass0 (pa_cons (pe_call G_L_cell hr rfl T.m_L_cell T.F_L_cell.kp T.B_L_cell .nil pass0 (pa_cons (vr 0) (pa_cons (pe_op o_add (vr 1) pe_int) pa_nil))) (pa_cons (pe_op o_fdivB (vr 4) pe_int) (pa_cons (vr 3) (pa_cons pe_int pa_nil)))))) (pg_name (i := 8) sc_L_crowd.nd rfl (Or.inl rfl)) (pss_one (ps_expr (pe_m.append (vr 7) (pa_cons (pe_m.popAt (vr 6) (pa_cons (pe_op o_mod (vr 8) (pe_callB call_lenM rfl T.z_len bt_len (pa_cons (vr 6) pa_nil))) pa_nil)) pa_nil))))) (pss_cons (ps_set (i := 7) sc_L_crowd.nd rfl (Or.inr rfl) (pe_callB call_sortedI rfl T.z_sorted bt_sorted (pa_cons (vr 7) pa_nil))) (pss_cons (ps_set (i := 9) sc_L_crowd.nd rfl (Or.inr rfl) (pe_callTy call_tuple_of rfl T.z_tuple bt_tuple (pa_cons (pe_slice sl_any (pe_lst (pa_cons pe_str (pa_cons pe_str (pa_cons pe_str pa_nil)))) po_none (po_some (pe_op o_mod (pe_op o_fdivB (vr 4) pe_int) pe_int))) pa_nil))) (pss_one (ps_ret (pe_comp rfl (N := ["_law_k", "_law_path", "_law_places", "_law_sizes"]) (ix := [none, some 9, some 7, some 5]) ⟨rfl, rfl, rfl, rfl, ⟨rfl, rfl, rfl, ⟨rfl, rfl, rfl, ⟨rfl, rfl, rfl, trivial⟩⟩⟩⟩ (pi_range1 rfl T.z_range (pa_cons (vr 3) pa_nil)) ⟨fun C s H fp => pg_name (i := 0) (show List.Nodup (["_law_k", "_law_path", "_law_places", "_law_sizes"] : List Str) by decide +kernel) rfl (Or.inl rfl), fun C s H fp => pts_nil, fun C s H fp => (pe_tup (pa_cons (pe_ix (ix_seqK (K := K) rfl) (vr 2) (vr 0) (fun _ _ => rfl)) (pa_cons (pe_op o_add pe_int (pe_ix (ix_seqK (K := K) rfl) (vr 3) (vr 0) (fun _ _ => rfl))) (pa_cons (vr 1) pa_nil))))⟩))))))))))), ?_⟩
    refine ⟨p, ns, 0, rfl, hS, hlen, by decide, by decide, cp, ?_⟩
    have n0 : 0 ≤ (cellC ns 0 % 25) := by omega
    have n1 : (cellC ns 0 % 25) ≤ 24 := by omega
    refine ⟨p, ns, 1, rfl, hS, hlen, by decide, by decide, ?_⟩
    refine ⟨p, ns, 2, rfl, hS, hlen, by decide, by decide, (by decide : 3 ≤ sizeLine), fun p1 hp1 => ⟨cdB (by decide) (show Bt 2 2 by unfold Bt; decide), cp, ?_⟩⟩
    have s1 := Same.new (o := .lst [.int 9, .int 1000, .int 24000000]) hp1
    obtain ⟨m, hm, m0, m1⟩ : ∃ m : Int, atI [V.int 9, V.int 1000, V.int 24000000] ((cellC ns 1) / 2 % 3) = some (.int m) ∧ 1 ≤ m ∧ m ≤ 24000000 := by
      have h3 : (cellC ns 1) / 2 % 3 = ((0 : Nat) : Int) ∨ (cellC ns 1) / 2 % 3 = ((1 : Nat) : Int) ∨ (cellC ns 1) / 2 % 3 = ((2 : Nat) : Int) := by omega
      rcases h3 with e | e | e <;> rw [e]
      · exact ⟨9, atI_nat rfl, by decide, by decide⟩
      · exact ⟨1000, atI_nat rfl, by decide, by decide⟩
      · exact ⟨24000000, atI_nat rfl, by decide, by decide⟩
    refine .inl ⟨p1, _, _, .int m, rfl, rfl, SqL.of upd_same, hm, ⟨_, _, _, _, rfl, n0, by omega, m0, by omega, fun H2 ls sizes s2 _ hls hl2 hb2 => ?_⟩⟩
    have s02 := s1.trans s2
    refine ⟨24, rfl, fun pr hpr => ?_⟩
    have s3 : Same H2 (upd H2 pr (.rng 0 24)) := Same.new hpr
    refine ⟨pr, rfl, upd_same, fun pl hpl => ?_⟩
    have s03 := s02.trans s3
    have hls3 := s3 _ _ hls
    generalize upd H2 pr (.rng 0 24) = H3 at s3 hpl s03 hls3
    have hplH : H pl = none := s03.free hpl
    have s4 := Same.new (o := .lst ((List.range 24).map fun (i : Nat) => V.int (i : Int))) hpl
    have hpl4 : (upd H3 pl (.lst ((List.range 24).map fun (i : Nat) => V.int (i : Int)))) pl = some (.lst ((List.range 24).map fun (i : Nat) => V.int (i : Int))) := upd_same
    generalize upd H3 pl (.lst ((List.range 24).map fun (i : Nat) => V.int (i : Int))) = H4 at s4 hpl4
    refine ⟨Nat.zero_le _, fun r hr0 => ?_⟩
    have s5 := Same.new (o := .lst []) hr0
    have s05 := (s03.trans s4).trans s5
    have nrp : r ≠ pl := fun z => by rw [z, hpl4] at hr0; cases hr0
    have hrH : H r = none := (s03.trans s4).free hr0
    have nls1 : ls ≠ pl := ne_of_none hls3 hpl
    have nls2 : ls ≠ r := ne_of_none (s4 _ _ hls3) hr0
    have hr5 : (upd H4 r (.lst [])) r = some (.lst []) := upd_same
    have hpl5 := s5 _ _ hpl4
    have hls5 := (s4.trans s5) _ _ hls3
    generalize upd H4 r (.lst []) = H5 at s5 s05 hr5 hpl5 hls5
    refine ⟨p, ns, 3, rfl, s05.seq hS, hlen, by decide, by decide, cdB (by decide) (show Bt 3 6 by unfold Bt; decide), ?_⟩
    refine ⟨_, _, _, _, rfl, n0, by omega, by decide, by decide, fun H6 lp picks s6 hlp0 hlp hl6 hb6 => ?_⟩
    obtain ⟨many, hmany⟩ : ∃ x : Int, x = cellC ns 0 % 25 := ⟨_, rfl⟩
    have n0 : 0 ≤ many := by omega
    have n1 : many ≤ 24 := by omega
    have hl2 : (sizes.length : Int) = many := by omega
    have hl6 : (picks.length : Int) = many := by omega
    have s06 := s05.trans s6
    have nlp1 : lp ≠ pl := fun z => by rw [z, hpl5] at hlp0; cases hlp0
    have nlp2 : lp ≠ r := fun z => by rw [z, hr5] at hlp0; cases hlp0
    refine .inl ⟨⟨_, SqL.of hlp⟩, for_list (K := K) (a := lp) (xs := picks.map V.int) (fun i σ H' => ∃ (ys : List V) (zs : List Int) (x8 : Option V), σ = [some (.ref p), some (.int 0), some (.int 24), some (.int many), some (.int (cellC ns 1)), some (.ref ls), some (.ref pl), some (.ref r), x8, none] ∧ Same H H' ∧ H' lp = some (.lst (picks.map V.int)) ∧ H' ls = some (.lst (sizes.map V.int)) ∧ H' pl = some (.lst ys) ∧ ys.length = 24 - i ∧ (∀ y ∈ ys, ∃ n : Int, y = .int n) ∧ H' r = some (.lst (zs.map V.int)) ∧ zs.length = i)
      ⟨_, [], none, by rw [hmany]; rfl, s06, hlp, s6 _ _ hls5, s6 _ _ hpl5, by rw [List.length_map, List.length_range], (fun y hy => by obtain ⟨j, _, e⟩ := List.mem_map.mp hy; exact ⟨_, e.symm⟩), s6 _ _ hr5, rfl⟩ (fun i σ H' _ h => by obtain ⟨_, _, _, _, _, z, _⟩ := h; exact SqL.of z) ?_ ?_⟩
    · rintro i x σ H' hx ⟨ys, zs, x8, rfl, sH, hlp', hls', hpl', hyl, hint, hr', hzl⟩
      have hi : i < picks.length := by have := (List.getElem?_eq_some_iff.mp hx).1; rw [List.length_map] at this; exact this
      rw [List.getElem?_map, List.getElem?_eq_getElem hi] at hx
      cases hx
      have hi24 : i < 24 := by omega
      refine ⟨.inl ⟨rfl, _, SqL.of hr'⟩, .inl ⟨rfl, _, SqL.of hpl'⟩, ys, .inl (SqL.of hpl'), cp (by omega), ?_⟩
      obtain ⟨ix, hix⟩ : ∃ x : Int, x = picks[i] % (ys.length : Int) := ⟨_, rfl⟩
      have i0 : 0 ≤ ix := by rw [hix]; exact Int.emod_nonneg _ (by omega)
      have i1 : ix < ys.length := by rw [hix]; exact Int.emod_lt_of_pos _ (by omega)
      have hk : ix.toNat < ys.length := by omega
      have hN : ixN ys.length ix = some ix.toNat := by
        unfold ixN
        rw [if_pos i0, if_pos i1]
      obtain ⟨n, hn⟩ := hint ys[ix.toNat] (List.getElem_mem hk)
      refine ⟨pl, ys, ix, ix.toNat, ys[ix.toNat], rfl, by rw [hix], hpl', by omega, by omega, (ixN_seq hN).1, List.getElem?_eq_getElem hk, ?_⟩
      rw [hn]
      have hr2 : (upd H' pl (.lst (ys.eraseIdx ix.toNat))) r = some (.lst (zs.map V.int)) := by rw [upd_ne nrp]; exact hr'
      refine ⟨r, _, _, rfl, rfl, hr2, by rw [List.length_map]; omega, ?_⟩
      refine ⟨ys.eraseIdx ix.toNat, zs ++ [n], _, rfl, (sH.put hplH).put hrH, ?_, ?_, ?_, ?_, fun y hy => hint y (List.mem_of_mem_eraseIdx hy), ?_, ?_⟩
      · rw [upd_ne nlp2, upd_ne nlp1]; exact hlp'
      · rw [upd_ne nls2, upd_ne nls1]; exact hls'
      · rw [upd_ne nrp.symm]; exact upd_same
      · rw [List.length_eraseIdx_of_lt hk, hyl]; omega
      · rw [upd_same, List.map_append]; rfl
      · rw [List.length_append, hzl]; rfl
    · rintro σ H' ⟨ys, zs, x8, rfl, sH, hlp', hls', hpl', hyl, hint, hr', hzl⟩
      rw [List.length_map] at hzl
      have hzm : (zs.length : Int) = many := by omega
      refine ⟨r, zs, rfl, SqL.of hr', by omega, fun q1 ps hp hs f1 => ?_⟩
      have t1 := Same.new (o := .lst (ps.map V.int)) f1
      have hps : ps.length = zs.length := hp.length_eq
      refine ⟨(show 3 ≤ sizeLine by decide), fun q2 f2 => ?_⟩
      have t2 := t1.trans (Same.new (o := .lst [.str "ab", .str "abc", .str "b"]) f2)
      refine ⟨cdB (by decide) (show Bt 4 12 by unfold Bt; decide), cp, _, rfl, .inl ⟨_, SqL.of upd_same, fun q3 f3 => ?_⟩⟩
      obtain ⟨kk, hkk, hk4⟩ : ∃ kk : Nat, cellC ns 1 / 12 % 4 = (kk : Int) ∧ kk < 4 := ⟨(cellC ns 1 / 12 % 4).toNat, by omega, by omega⟩
      obtain ⟨pa, hpa⟩ : ∃ pa : List Str, pa = (["ab", "abc", "b"] : List Str).take kk := ⟨_, rfl⟩
      have ecut : cutV [V.str "ab", V.str "abc", V.str "b"] none (some (cellC ns 1 / 12 % 4)) = pa.map V.str := by
        rw [hkk, hpa, List.map_take]
        match kk, hk4 with
        | 0, _ => rfl
        | 1, _ => rfl
        | 2, _ => rfl
        | 3, _ => rfl
      have t3 := t2.trans (Same.new (o := .lst (cutV [V.str "ab", V.str "abc", V.str "b"] none (some (cellC ns 1 / 12 % 4)))) f3)
      refine ⟨q3, _, rfl, .inl ⟨SqL.of upd_same, fun pt fpt => ?_⟩⟩
      have n4 := Same.new (o := .tup (cutV [V.str "ab", V.str "abc", V.str "b"] none (some (cellC ns 1 / 12 % 4)))) fpt
      have t4 := t3.trans n4
      have hq1 := ((Same.new (o := .lst [.str "ab", .str "abc", .str "b"]) f2).trans ((Same.new (o := .lst (cutV [V.str "ab", V.str "abc", V.str "b"] none (some (cellC ns 1 / 12 % 4)))) f3).trans n4)) _ _ (upd_same (a := q1) (o := .lst (ps.map V.int)))
      have hpt : ∀ H7 : Hp, Same (upd (upd (upd (upd H' q1 (.lst (ps.map V.int))) q2 (.lst [.str "ab", .str "abc", .str "b"])) q3 (.lst (cutV [V.str "ab", V.str "abc", V.str "b"] none (some (cellC ns 1 / 12 % 4))))) pt (.tup (cutV [V.str "ab", V.str "abc", V.str "b"] none (some (cellC ns 1 / 12 % 4))))) H7 → H7 pt = some (.tup (pa.map V.str)) := fun H7 s7 => by rw [← ecut]; exact s7 _ _ upd_same
      have hls4 := t4 _ _ hls'
      have hpt' := hpt _ (Same.refl _)
      clear hpt
      refine ⟨many, rfl, by omega, by omega, ?_⟩
      generalize upd (upd (upd (upd H' q1 (.lst (ps.map V.int))) q2 (.lst [.str "ab", .str "abc", .str "b"])) q3 (.lst (cutV [V.str "ab", V.str "abc", V.str "b"] none (some (cellC ns 1 / 12 % 4))))) pt (.tup (cutV [V.str "ab", V.str "abc", V.str "b"] none (some (cellC ns 1 / 12 % 4)))) = H7 at t4 hq1 hpt' hls4 n4
      intro D hD
      have hmn : (many.toNat : Int) = many := by omega
      refine comp_rng (lo := 0) (n := many.toNat) (fun j ys H2 => j ≤ many.toNat ∧ Same H7 H2 ∧ H2 D = some (.lst ys) ∧ CrAt H2 ((List.range j).map fun (k : Nat) => ((ps.getD k 0, 1 + sizes.getD k 0, pa) : Mb)) ys) ⟨Nat.zero_le _, Same.new hD, upd_same, .nil⟩ (fun j ys H2 h => h.2.2.1) ?_ ?_
      · rintro j ys H2 P' hj ⟨_, u1, hD2, hC⟩ hP
        have hyl : ys.length = j := by rw [← hC.len, List.length_map, List.length_range]
        have hjp : j < ps.length := by omega
        have hjs : j < sizes.length := by omega
        refine ⟨⟨rfl, rfl, rfl, trivial⟩, .inl ⟨q1, _, _, .int (ps.getD j 0), rfl, rfl, SqL.of (u1 _ _ hq1), atI_cons j (by omega) (by simp [List.getElem?_map, List.getD, hjp]), .inl ⟨ls, _, _, .int (sizes.getD j 0), rfl, rfl, SqL.of (u1 _ _ hls4), atI_cons j (by omega) (by simp [List.getElem?_map, List.getD, hjs]), ?_⟩⟩⟩
        refine ⟨(show 3 ≤ sizeLine by decide), fun q4 f4 => ?_⟩
        have n5 := Same.new (o := .tup [.int (ps.getD j 0), .int (1 + sizes.getD j 0), .ref pt]) f4
        have hD3 := n5 _ _ hD2
        refine ⟨hD3, by omega, hP _ _ ⟨hj, (u1.trans n5).put hD, upd_same, ?_⟩⟩
        have k5 : TK H2 (upd (upd H2 q4 (.tup [.int (ps.getD j 0), .int (1 + sizes.getD j 0), .ref pt])) D (.lst (ys ++ [.ref q4]))) := n5.tk.trans (TK.lst hD3)
        rw [List.range_succ, List.map_append]
        exact paired_snoc ⟨q4, pt, rfl, TK.lst hD3 _ _ upd_same, k5 _ _ (u1 _ _ hpt')⟩ (hC.tk k5)
      · rintro ys H2 ⟨_, u1, hD2, hC⟩
        refine q _ D _ ys (sH.trans (t4.trans u1)) ((sH.trans t4).free hD) hD2 hC ?_
        unfold Pt szs
        rw [List.map_map]
        have szl : ((List.range many.toNat).map ((fun x : Mb => x.2.1) ∘ fun (k : Nat) => ((ps.getD k 0, 1 + sizes.getD k 0, pa) : Mb))).length ≤ 24 := by rw [List.length_map, List.length_range]; omega
        have szb : ∀ z ∈ (List.range many.toNat).map ((fun x : Mb => x.2.1) ∘ fun (k : Nat) => ((ps.getD k 0, 1 + sizes.getD k 0, pa) : Mb)), 1 ≤ z ∧ z ≤ 24000000 := fun z hz => by
          obtain ⟨k, hk, rfl⟩ := List.mem_map.mp hz
          have hk := List.mem_range.mp hk
          have hks : k < sizes.length := by omega
          have := hb2 (sizes.getD k 0) (by rw [List.getD, List.getElem?_eq_getElem hks]; exact List.getElem_mem hks)
          show 1 ≤ 1 + sizes.getD k 0 ∧ 1 + sizes.getD k 0 ≤ 24000000
          omega
        exact ⟨szl, fun z hz => (szb z hz).1, fun z hz => (szb z hz).2⟩
theorem ok_both (T : Txt K mg a) : FnOk P w K mg base CX0 3 a.f_L_both a.d_L_both ["_law_shares"] (spBoth K) := by
  have G_L_times : FnOk P w K mg base CX0 2 _ _ _ (spTimes K) := ok_L_times T
  refine T.F_L_both.ok sc_L_both (fun vs H Q E h => ?_) (fun cdv A outer s H vs Q E hr h => ?_)
  · obtain ⟨l, xs, fs, rfl, _⟩ := h; rfl
  · obtain ⟨l, xs, fs, rfl, hl, hF, hn, hok, q⟩ := h
    have small : sizeLine = 16777216 := sizeLine_eq
    have hfl : xs.length = fs.length := hF.len.symm
    refine ⟨_, (pss_cons (ps_set (i := 1) sc_L_both.nd rfl (Or.inl rfl) (pe_lst pa_nil)) (pss_cons (ps_for PassesOwn.never rfl (pi_range1 rfl T.z_range (pa_cons (pe_callB call_lenM rfl T.z_len bt_len (pa_cons (vr 0) pa_nil)) pa_nil)) (pg_name (i := 2) sc_L_both.nd rfl (Or.inr rfl)) (pss_cons (ps_setC rfl (i := 3) sc_L_both.nd rfl rfl (by with_unfolding_all rfl) (N := ["_law_other", "_law_shares", "_law_k"]) (ix := [none, some 0, some 2]) ⟨rfl, rfl, rfl, rfl, ⟨rfl, rfl, rfl, ⟨rfl, rfl, rfl, trivial⟩⟩⟩ (pi_any (vr 0)) ⟨fun C s H fp => pg_name (i := 0) (show List.Nodup (["_law_other", "_law_shares", "_law_k"] : List Str) by decide +kernel) rfl (Or.inl rfl), fun C s H fp => pts_nil, fun C s H fp => (pe_call G_L_times hr rfl T.m_L_times T.F_L_times.kp T.B_L_times .nil pass0 (pa_cons (pe_ix (ix_seqK (K := K) rfl) (vr 1) (vr 2) (fun _ _ => rfl)) (pa_cons (vr 0) pa_nil)))⟩) (pss_cons (ps_asg (pe_ix ix_seq (vr 0) (vr 2) (fun _ _ => rfl)) (pg_sub (vr 3) (vr 2) set_list)) (pss_one (ps_expr (pe_m.append (vr 1) (pa_cons (vr 3) pa_nil))))))) (pss_one (ps_ret (vr 1))))), ?_⟩
    refine ⟨Nat.zero_le _, fun r hr0 => ?_⟩
    have sr := Same.new (o := .lst []) hr0
    refine ⟨_, .inl (SqL.of (sr _ _ hl)), ?_⟩
    rw [hfl]
    refine ⟨(fs.length : Int), rfl, by omega, by omega, for_range (lo := 0) (n := fs.length) (fun i σ H' => i ≤ fs.length ∧ Same H H' ∧ ∃ (ys : List V) (x2 x3 : Option V), σ = [some (.ref l), some (.ref r), x2, x3] ∧ H' r = some (.lst ys) ∧ MatAt K r H' ((List.range i).map (rowG fs.length (eL fs))) ys ∧ ∀ q, V.ref q ∈ ys → H q = none)
      ⟨Nat.zero_le _, sr, [], none, none, rfl, upd_same, .nil, fun q hq => by cases hq⟩ ?_ ?_⟩
    · rintro i σ H' hi ⟨_, s1, ys, x2, x3, rfl, hr1, hM, hnew⟩
      have hyl : ys.length = i := by rw [← hM.len, List.length_map, List.length_range]
      have hl1 := s1 _ _ hl
      obtain ⟨yi, eyi, fyi⟩ := at_f (hF.same s1) hi
      have oi := ok_f hok hi
      refine .inl ⟨⟨_, SqL.of hl1⟩, fun D hD => ?_⟩
      refine comp_list (K := K) (a := l) (xs := xs) (fun j zs H2 => j ≤ xs.length ∧ Same H' H2 ∧ H2 D = some (.lst zs) ∧ AllF K H2 ((List.range j).map fun j => lowP ((fAt fs i).1 * (fAt fs j).1) ((fAt fs i).2 * (fAt fs j).2)) zs) ⟨Nat.zero_le _, Same.new hD, upd_same, .nil⟩ (fun j zs H2 h => SqL.of (h.2.1 _ _ hl1)) (fun j zs H2 h => h.2.2.1) ?_ ?_
      · rintro j y zs H2 P' hy ⟨_, s2, hD2, hZ⟩ hP
        have hj : j < fs.length := by have := (List.getElem?_eq_some_iff.mp hy).1; omega
        obtain ⟨yj, eyj, fyj⟩ := at_f (hF.same (s1.trans s2)) hj
        rw [eyj] at hy
        cases hy
        have oj := ok_f hok hj
        have zl : zs.length = j := by rw [← hZ.len, List.length_map, List.length_range]
        refine ⟨⟨rfl, rfl, trivial⟩, .inl ⟨l, _, _, yi, rfl, rfl, SqL.of ((s1.trans s2) _ _ hl), atI_cons i (by omega) eyi, yi, _, _, _, rfl, fyi.same s2, fyj, oi.pos, oj.pos, (bt_f oi).1, (bt_f oi).2, (bt_f oj).1, (bt_f oj).2, fun H3 p s3 hp => ?_⟩⟩
        have hD3 := s3 _ _ hD2
        have np : p ≠ D := fun z => by rw [z, hD3] at hp; cases hp
        refine ⟨hD3, by omega, hP _ _ ⟨by omega, (s2.trans s3).put hD, upd_same, ?_⟩⟩
        rw [List.range_succ, List.map_append]
        exact AllF.snoc ⟨p, rfl, .inl (by rw [upd_ne np]; exact hp)⟩ ((hZ.same s3).tk (TK.lst hD3))
      · rintro zs H2 ⟨_, s2, hD2, hZ⟩
        rw [hfl] at hZ
        have zl : zs.length = fs.length := by rw [← hZ.len, List.length_map, List.length_range]
        have nD : D ≠ r := fun z => by rw [z, hr1] at hD; cases hD
        refine .inl ⟨l, _, _, yi, rfl, rfl, SqL.of (s2 _ _ hl1), atI_cons i (by omega) eyi, ?_⟩
        refine ⟨D, zs, _, i, rfl, rfl, hD2, ?_, ?_⟩
        · rw [zl]
          unfold ixN
          rw [if_pos (by omega), if_pos (by omega), Int.zero_add]
          rfl
        have hF3 : AllF K (upd H2 D (.lst (zs.set i yi))) (rowG fs.length (eL fs) i) (zs.set i yi) := by
          rw [← both_set hi]
          exact AllF.set ((fyi.same s2).tk (TK.lst hD2)) i (hZ.tk (TK.lst hD2))
        have s4 : Same H' (upd H2 D (.lst (zs.set i yi))) := s2.put hD
        have hr4 := s4 _ _ hr1
        have hD4 : (upd H2 D (.lst (zs.set i yi))) D = some (.lst (zs.set i yi)) := upd_same
        generalize upd H2 D (.lst (zs.set i yi)) = H4 at hF3 s4 hr4 hD4
        refine ⟨.inl ⟨rfl, _, SqL.of hr4⟩, r, ys, _, rfl, rfl, hr4, by omega, ?_⟩
        refine ⟨hi, (s1.trans s4).put hr0, ys ++ [.ref D], _, _, rfl, upd_same, ?_, fun q hq => ?_⟩
        · rw [List.range_succ, List.map_append]
          exact MatAt.snoc ⟨D, _, rfl, nD, by rw [upd_ne nD]; exact hD4, hF3.tk (TK.lst hr4)⟩ (MatAt.put hr4 (MatAt.same s4.t hM))
        · rcases List.mem_append.mp hq with z | z
          · exact hnew q z
          · cases List.mem_singleton.mp z
            exact s1.free hD
    · rintro σ H' ⟨_, s1, ys, x2, x3, rfl, hr1, hM, hnew⟩
      exact q _ r ys s1 hr0 hr1 hM hnew
theorem ok_steps (T : Txt K mg a) : FnOk P w K mg base CX0 1 a.f_L_steps a.d_L_steps ["_law_every", "_law_step"] (spSteps K) := by
  refine T.F_L_steps.ok sc_L_steps (fun vs H Q E h => ?_) (fun cdv A outer s H vs Q E hr h => ?_)
  · obtain ⟨n, st, rfl, _⟩ := h; rfl
  · obtain ⟨n, st, rfl, hn, hs1, hs2, q⟩ := h
    have small : sizeLine = 16777216 := sizeLine_eq
    have pos : (0 : Int) < (st : Int) := by omega
    refine ⟨_, (pss_cons (ps_set (i := 2) sc_L_steps.nd rfl (Or.inl rfl) (pe_lst pa_nil)) (pss_cons (ps_for PassesOwn.never rfl (pi_range1 rfl T.z_range (pa_cons (vr 0) pa_nil)) (pg_name (i := 3) sc_L_steps.nd rfl (Or.inl rfl)) (pss_cons (ps_setC rfl (i := 4) sc_L_steps.nd rfl rfl (by with_unfolding_all rfl) (N := ["_law_j"]) (ix := [none]) ⟨rfl, rfl, rfl, rfl, trivial⟩ (pi_range1 rfl T.z_range (pa_cons (vr 0) pa_nil)) ⟨fun C s H fp => pg_name (i := 0) (show List.Nodup (["_law_j"] : List Str) by decide +kernel) rfl (Or.inl rfl), fun C s H fp => pts_nil, fun C s H fp => (pe_tup (pa_cons pe_int (pa_cons pe_int pa_nil)))⟩) (pss_cons (ps_for PassesOwn.never rfl (pi_rangeS rfl T.z_range (pa_cons (pe_op o_mod (vr 3) (vr 1)) (pa_cons (vr 0) (pa_cons (vr 1) pa_nil)))) (pg_name (i := 5) sc_L_steps.nd rfl (Or.inl rfl)) (pss_one (ps_asg (pe_tup (pa_cons pe_int (pa_cons (vr 1) pa_nil))) (pg_sub (vr 4) (vr 5) set_list)))) (pss_one (ps_expr (pe_m.append (vr 2) (pa_cons (vr 4) pa_nil))))))) (pss_one (ps_ret (vr 2))))), ?_⟩
    refine ⟨Nat.zero_le _, fun r hr0 => ?_⟩
    have sr := Same.new (o := .lst []) hr0
    refine ⟨(n : Int), rfl, by omega, by omega, for_range (lo := 0) (n := n) (fun i σ H' => i ≤ n ∧ Same H H' ∧ ∃ (ys : List V) (x3 x4 x5 : Option V), σ = [some (.int (n : Nat)), some (.int (st : Nat)), some (.ref r), x3, x4, x5] ∧ H' r = some (.lst ys) ∧ MatAt K r H' ((List.range i).map (rowG n (eS st))) ys ∧ ∀ q, V.ref q ∈ ys → H q = none)
      ⟨Nat.zero_le _, sr, [], none, none, none, rfl, upd_same, .nil, fun q hq => by cases hq⟩ ?_ ?_⟩
    · rintro i σ H' hi ⟨_, s1, ys, x3, x4, x5, rfl, hr1, hM, hnew⟩
      have hyl : ys.length = i := by rw [← hM.len, List.length_map, List.length_range]
      refine ⟨(n : Int), rfl, by omega, by omega, fun D hD => ?_⟩
      have nD : D ≠ r := fun z => by rw [z, hr1] at hD; cases hD
      refine comp_rng (lo := 0) (n := n) (fun j zs H2 => j ≤ n ∧ Same H' H2 ∧ H2 D = some (.lst zs) ∧ AllF K H2 (List.replicate j (0, 1)) zs) ⟨Nat.zero_le _, Same.new hD, upd_same, .nil⟩ (fun j zs H2 h => h.2.2.1) ?_ ?_
      · rintro j zs H2 P' hj ⟨_, s2, hD2, hZ⟩ hP
        have zl : zs.length = j := by rw [← hZ.len, List.length_replicate]
        refine ⟨trivial, two_le _ _, fun p fp => ?_⟩
        have s3 := Same.new (o := .tup [.int 0, .int 1]) fp
        have hD3 := s3 _ _ hD2
        have np : p ≠ D := fun z => by rw [z, hD2] at fp; cases fp
        refine ⟨hD3, by omega, hP _ _ ⟨hj, (s2.trans s3).put hD, upd_same, ?_⟩⟩
        rw [List.replicate_succ']
        exact AllF.snoc ⟨p, rfl, .inl (by rw [upd_ne np]; exact upd_same)⟩ ((hZ.same s3).tk (TK.lst hD3))
      · rintro zs H2 ⟨_, s2, hD2, hZ⟩
        have zl : zs.length = n := by rw [← hZ.len, List.length_replicate]
        obtain ⟨lo, hlo⟩ : ∃ lo : Nat, lo = i % st := ⟨_, rfl⟩
        have elo : (0 + (i : Int)) % (st : Int) = (lo : Int) := by rw [Int.zero_add, hlo, Int.natCast_emod]
        have llt : lo < st := by rw [hlo]; exact Nat.mod_lt _ (by omega)
        obtain ⟨anyA, anyB⟩ := any_nat (lo := lo) (n := n) (st := st) (by omega)
        have row0 : List.replicate n ((0 : Int), (1 : Int)) = rowP n st (stepP lo st 0) := by
          unfold rowP
          apply List.ext_getElem
          · simp
          · intro j g1 g2
            rw [List.getElem_replicate, List.getElem_map, List.getElem_range, if_neg]
            intro z
            have := (of_decide_eq_true z).2
            omega
        rw [row0] at hZ
        refine ⟨cp pos, ?_⟩
        refine ⟨(lo : Int), (n : Int), (st : Int), ?_, ⟨by omega, by omega, by omega, by omega, by omega, by omega⟩, ?_⟩
        · show [V.int ((0 + (i : Int)) % (st : Int)), V.int (n : Int), V.int (st : Int)] = _
          rw [elo]
        refine for_range3 (lo := (lo : Int)) (c := (st : Int)) (n := any_n (lo : Int) (n : Int) (st : Int)) (fun k σ H3 => Same H' H3 ∧ ∃ (zs' : List V) (x5 : Option V), σ = [some (.int (n : Nat)), some (.int (st : Nat)), some (.ref r), some (.int (0 + (i : Int))), some (.ref D), x5] ∧ H3 D = some (.lst zs') ∧ AllF K H3 (rowP n st (stepP lo st k)) zs') ⟨s2, zs, x5, rfl, hD2, hZ⟩ ?_ ?_
        · rintro k σ H3 hk ⟨s3, zs', x5', rfl, hD3, hZ3⟩
          have hkn := anyB k hk
          have zl3 : zs'.length = n := by rw [← hZ3.len]; unfold rowP; rw [List.length_map, List.length_range]
          refine ⟨two_le _ _, fun p fp => ?_⟩
          have s4 := Same.new (o := .tup [.int 1, .int (st : Int)]) fp
          have hD4 := s4 _ _ hD3
          have np : p ≠ D := fun z => by rw [z, hD3] at fp; cases fp
          have eix : (lo : Int) + (k : Int) * (st : Int) = ((lo + k * st : Nat) : Int) := by push_cast; rfl
          refine ⟨D, zs', _, lo + k * st, rfl, rfl, hD4, ?_, ?_⟩
          · rw [zl3, eix]
            unfold ixN
            rw [if_pos (by omega), if_pos (by omega)]
            rfl
          obtain ⟨p1, p2⟩ := stepP_succ (lo := lo) (st := st) (i := k) (by omega)
          refine ⟨(s3.trans s4).put hD, _, _, rfl, upd_same, ?_⟩
          rw [← rowP_set p1 p2]
          exact AllF.set ⟨p, rfl, .inl (by rw [upd_ne np]; exact upd_same)⟩ _ ((hZ3.same s4).tk (TK.lst hD4))
        · rintro σ H3 ⟨s3, zs', x5', rfl, hD3, hZ3⟩
          have hF3 : AllF K H3 (rowG n (eS st) i) zs' := by
            rw [← row_steps (k := i) (by omega) (m := any_n (lo : Int) (n : Int) (st : Int)) (by rw [← hlo]; exact anyA), ← hlo]
            exact hZ3
          have hr4 := s3 _ _ hr1
          refine ⟨.inl ⟨rfl, _, SqL.of hr4⟩, r, ys, _, rfl, rfl, hr4, by omega, ?_⟩
          refine ⟨hi, (s1.trans s3).put hr0, ys ++ [.ref D], _, _, _, rfl, upd_same, ?_, fun q hq => ?_⟩
          · rw [List.range_succ, List.map_append]
            exact MatAt.snoc ⟨D, _, rfl, nD, by rw [upd_ne nD]; exact hD3, hF3.tk (TK.lst hr4)⟩ (MatAt.put hr4 (MatAt.same s3.t hM))
          · rcases List.mem_append.mp hq with z | z
            · exact hnew q z
            · cases List.mem_singleton.mp z
              exact s1.free hD
    · rintro σ H' ⟨_, s1, ys, x3, x4, x5, rfl, hr1, hM, hnew⟩
      exact q _ r ys s1 hr0 hr1 hM hnew
end
end My
set_option Elab.async false
set_option linter.all false
set_option maxRecDepth 100000
set_option maxHeartbeats 4000000
namespace My
open PySem L2 FrM
theorem tabs_new {a : Ad} {ts : List Addr} {H : Hp} (hts : ∀ q ∈ tabs a, q.1 ∈ ts) (h : ∀ P ∈ ts, H P = some (.tbl #[])) : TabsOk (tabs a) H := fun q hq => ⟨#[], h _ (hts q hq), trivial, fun _ _ => .inl rfl⟩
theorem tabs_lst {tabs : Tabs} {H : Hp} {q : Addr} {zs zs' : List V} (hq : H q = some (.lst zs)) (hT : TabsOk tabs H) : TabsOk tabs (upd H q (.lst zs')) := hT.put (fun ps z => by rw [hq] at z; cases z) (fun φ z => by rw [hq] at z; cases z)
theorem MatAt.keep {K : PySem.W.Frag} {D : Addr} {H H' : Hp} (k : TK H H') : ∀ {fss : List (List (Int × Int))} {xs : List V}, (∀ q zs, V.ref q ∈ xs → H q = some (.lst zs) → H' q = some (.lst zs)) → MatAt K D H fss xs → MatAt K D H' fss xs
  | _, _, _, .nil => .nil
  | _, _, h, .cons ⟨q, ys, e, n, g, f⟩ t => .cons ⟨q, ys, e, n, h _ _ (by rw [e]; exact List.mem_cons_self ..) g, f.tk k⟩ (MatAt.keep k (fun q zs m => h q zs (List.mem_cons_of_mem _ m)) t)
theorem MatAt.mem {K : PySem.W.Frag} {D : Addr} {H : Hp} : ∀ {fss : List (List (Int × Int))} {xs : List V} {q : Addr}, MatAt K D H fss xs → V.ref q ∈ xs → q ≠ D ∧ ∃ ys, H q = some (.lst ys)
  | _, _, _, .nil, h => by cases h
  | _, _, _, .cons ⟨q, ys, e, n, g, f⟩ t, h => by
    rcases List.mem_cons.mp h with z | z
    · rw [← z] at e
      cases e
      exact ⟨n, ys, g⟩
    · exact MatAt.mem t z
theorem CrAt.refs {H : Hp} : ∀ {ms : List Mb} {xs : List V}, CrAt H ms xs → ∀ v ∈ xs, ∃ p, v = V.ref p
  | _, _, .nil, v, h => by cases h
  | _, _, .cons ⟨q, pt, e, _⟩ t, v, h => by
    rcases List.mem_cons.mp h with z | z
    · exact ⟨q, z.trans e⟩
    · exact CrAt.refs t v z
theorem nodup_take : ∀ {xs : List V} {i : Nat} {x : V}, xs.Nodup → xs[i]? = some x → x ∉ xs.take i
  | [], _, _, _, h => by cases h
  | _ :: _, 0, _, _, _ => by simp
  | y :: xs, i + 1, x, hn, h => by
    rw [List.nodup_cons] at hn
    rw [List.take_succ_cons]
    intro z
    rcases List.mem_cons.mp z with e | e
    · rw [← e] at hn
      exact hn.1 (List.mem_of_getElem? h)
    · exact nodup_take hn.2 h e
def IsPl (a : Ad) (H : Hp) (v : V) (ms : List Mb) (S : Nd) (e : Nat → Nat → Int × Int) (b1 b2 : Int) : Prop :=
  (∃ m : Nat, IsStart a H v m ∧ 1 ≤ m ∧ m ≤ 100 ∧ S = stS (plc ms) m ∧ e = eS m ∧ b1 = (ms.length : Int) / (m : Int) ∧ b2 = ((ms.length : Int) + (m : Int) - 1) / (m : Int)) ∨
  (∃ m : Nat, IsLoose a H v m ∧ m ≤ 24 ∧ S = lsN ms m ∧ e = eL (due (szs ms) (m : Nat)) ∧ b1 = cF (due (szs ms) (m : Nat)) 1 1 ∧ b2 = ((due (szs ms) (m : Nat)).length : Int) - cF (due (szs ms) (m : Nat)) 0 1)
theorem IsPl.t {a : Ad} {H H' : Hp} {v : V} {ms : List Mb} {S : Nd} {e : Nat → Nat → Int × Int} {b1 b2 : Int} (s : SameT H H') (h : IsPl a H v ms S e b1 b2) : IsPl a H' v ms S e b1 b2 := h.imp (fun ⟨m, h, r⟩ => ⟨m, h.t s, r⟩) fun ⟨m, h, r⟩ => ⟨m, h.t s, r⟩
def mC (C : Addr) (m : Str) (sp : Sp) (v : V) (l : Addr) (H : Hp) (Q : VK) : Prop := ∃ x dx fs, v = .ref x ∧ H x = some (.ins C dx fs) ∧ fs.lookup m = none ∧ sp (v :: ([.ref l] ++ [])) H Q E0
theorem meth_at {C : Addr} {m : Str} {sp : Sp} {σ : St} {i j : Nat} {v : V} {l : Addr} {H : Hp} {Q : VK} (h1 : ∀ Q' : VK, tV i σ H Q' = Q' v H) (h2 : ∀ Q' : VK, tV j σ H Q' = Q' (.ref l) H) (h : mC C m sp v l H Q) : tMeth C m sp [] E0 (tV i) (tCons (tV j) tNil) σ H Q := by
  unfold tMeth
  rw [h1]
  obtain ⟨x, dx, fs, e1, e2, e3, e4⟩ := h
  refine ⟨x, dx, fs, e1, e2, e3, ?_⟩
  unfold tCons tNil
  rw [h2]
  exact e4
section
variable {K : PySem.W.Frag} {a : Ad} {H : Hp} {v : V} {ms : List Mb} {S : Nd} {e : Nat → Nat → Int × Int} {b1 b2 : Int} {l : Addr} {xs : List V} {Q : VK}
theorem node_call (N : Addr → Prop) (hp : IsPl a H v ms S e b1 b2) (hN : ∀ b, H b = none → N b) (hl : H l = some (.lst xs)) (hC : CrAt H ms xs) (hz : Szs (szs ms)) (hlen : ms.length ≤ 24) (hT : TabsOk (tabs a) H) (q : ∀ H' v', SameT H H' → TabsOk (tabs a) H' → IsNode K N a H' v' S → Q v' H') :
    mC a.c_Start "node" (spSNode K a) v l H Q ∨ mC a.c_Loose "node" (spLNode K a) v l H Q := by
  rcases hp with ⟨m, ⟨x, dx, rfl, hx⟩, h1, h2, rfl, _⟩ | ⟨m, ⟨x, dx, rfl, hx⟩, h1, rfl, _⟩
  · exact .inl ⟨x, dx, _, rfl, hx, rfl, N, _, m, l, xs, ms, rfl, hN, ⟨x, dx, rfl, hx⟩, hl, hC, hlen, h1, h2, hT, q⟩
  · exact .inr ⟨x, dx, _, rfl, hx, rfl, N, _, m, l, xs, ms, rfl, hN, ⟨x, dx, rfl, hx⟩, hl, hC, hz, h1, hT, q⟩
theorem matrix_call (hp : IsPl a H v ms S e b1 b2) (hl : H l = some (.lst xs)) (hC : CrAt H ms xs) (hz : Szs (szs ms)) (hlen : ms.length ≤ 24) (hT : TabsOk (tabs a) H) (q : ∀ H' r ys, SameT H H' → TabsOk (tabs a) H' → H r = none → H' r = some (.lst ys) → MatAt K r H' (matG ms.length e) ys → ys.Nodup → (∀ q, V.ref q ∈ ys → H q = none) → Q (.ref r) H') :
    mC a.c_Start "matrix" (spSMat K a) v l H Q ∨ mC a.c_Loose "matrix" (spLMx K a) v l H Q := by
  have hcl := hC.len
  rcases hp with ⟨m, ⟨x, dx, rfl, hx⟩, h1, h2, _, rfl, _⟩ | ⟨m, ⟨x, dx, rfl, hx⟩, h1, _, rfl, _⟩
  · exact .inl ⟨x, dx, _, rfl, hx, rfl, _, m, l, xs, rfl, ⟨x, dx, rfl, hx⟩, h1, h2, hl, by omega, hT, fun H' r ys s1 s2 s3 s4 s5 s6 s7 => q H' r ys s1 s2 s3 s4 (by rw [hcl]; exact s5) s6 s7⟩
  · exact .inr ⟨x, dx, _, rfl, hx, rfl, _, m, l, xs, ms, rfl, ⟨x, dx, rfl, hx⟩, h1, hl, hC, hz, hT, q⟩
theorem bounds_call (hp : IsPl a H v ms S e b1 b2) (hl : H l = some (.lst xs)) (hC : CrAt H ms xs) (hz : Szs (szs ms)) (hlen : ms.length ≤ 24) (hT : TabsOk (tabs a) H) (q : ∀ H' p, SameT H H' → TabsOk (tabs a) H' → H' p = some (.tup [.int b1, .int b2]) → Q (.ref p) H') :
    mC a.c_Start "bounds" (spSBo a) v l H Q ∨ mC a.c_Loose "bounds" (spLBo a) v l H Q := by
  have hcl := hC.len
  rcases hp with ⟨m, ⟨x, dx, rfl, hx⟩, h1, h2, _, _, rfl, rfl⟩ | ⟨m, ⟨x, dx, rfl, hx⟩, h1, _, _, rfl, rfl⟩
  · exact .inl ⟨x, dx, _, rfl, hx, rfl, _, m, l, xs, rfl, ⟨x, dx, rfl, hx⟩, h1, h2, hl, by omega, fun H' p s1 s2 s3 => q H' p s1 (s2 hT) (by rw [hcl]; exact s3)⟩
  · exact .inr ⟨x, dx, _, rfl, hx, rfl, _, m, l, xs, ms, rfl, ⟨x, dx, rfl, hx⟩, h1, hl, hC, hz, fun H' p s1 s2 s3 => q H' p s1 (s2 hT) s3⟩
end
theorem SameT.upd {H H' : Hp} {b : Addr} {o : HO} (s : SameT H H') : SameT (L2.upd H b o) (L2.upd H' b o) := fun c u h => by
  by_cases e : c = b
  · subst e
    rw [upd_same] at h
    cases h
    exact ⟨fun _ => upd_same, _, upd_same⟩
  · rw [upd_ne e] at h
    rw [upd_ne e]
    exact s c u h
def spRight (K : PySem.W.Frag) (a : Ad) : Sp := fun vs H Q _ => ∃ (v : V) (r R kt d en : Addr) (ms : List Mb) (xs xsR ys : List V) (rows : List (List Int × Int)) (kept ks : List Int) (S : Nd) (e : Nat → Nat → Int × Int) (b1 b2 : Int), vs = [v, .ref r, .ref R, .ref kt, .ref d, .ref en] ∧ IsPl a H v ms S e b1 b2 ∧ H r = some (.lst xs) ∧ CrAt H ms xs ∧ Szs (szs ms) ∧
  H R = some (.lst xsR) ∧ RowsAt H rows xsR ∧ xsR.length ≤ 24 ∧ H kt = some (.tup (ks.map V.int)) ∧ Srt ks kept ∧ Good S rows kept ∧ H d = some (.lst ys) ∧ MatAt K d H (matG ms.length e) ys ∧ H en = some (.tup [.int b1, .int b2]) ∧ TabsOk (tabs a) H ∧ ∀ H', SameT H H' → TabsOk (tabs a) H' → Q (.bl true) H'
section
variable {P : Program} {w : World} {K : PySem.W.Frag} {mg : Str → Option Value} {base : Heap} {a : Ad}
theorem ne_fr {H : Hp} {fs : List (Int × Int)} {l r : Addr} {xs ys : List V} {Q : VK} (h1 : H l = some (.lst xs)) (h2 : H r = some (.lst ys)) (f1 : AllF K H fs xs) (f2 : AllF K H fs ys) (q : Q (.bl false) H) : rEqD K true (.ref l) (.ref r) H Q := by
  have hs : SeqAt.shaped (.list (pD fs)) = true := by
    obtain ⟨k1, k2⟩ := lay_f fs
    unfold SeqAt.shaped
    rw [PyData.canLay0, k1, Bool.true_and]
    refine decide_eq_true ?_
    simp only [PyData.depth]
    omega
  refine ⟨.list (pD fs), .list (pD fs), by rw [DV]; exact ⟨l, _, rfl, SqL.of h1, dvs_f f1⟩, by rw [DV]; exact ⟨r, _, rfl, SqL.of h2, dvs_f f2⟩, hs, hs, ?_⟩
  rw [SeqAt.eqv_refl _ (SeqAt.canLay_of_shaped hs)]
  exact q
theorem ne_tups {H : Hp} {ns : List Int} {l r : Addr} {Q : VK} (h1 : H l = some (.tup (ns.map V.int))) (h2 : H r = some (.tup (ns.map V.int))) (q : Q (.bl false) H) : rEqD K true (.ref l) (.ref r) H Q := by
  have hsh : SeqAt.shaped (.tuple (ns.map PyData.int)) = true := by
    obtain ⟨k1, k2⟩ := lay_ints ns
    unfold SeqAt.shaped
    rw [PyData.canLay0, k1, Bool.true_and]
    refine decide_eq_true ?_
    simp only [PyData.depth]
    omega
  refine ⟨.tuple (ns.map PyData.int), .tuple (ns.map PyData.int), ?_, ?_, hsh, hsh, ?_⟩
  · rw [DV]; exact ⟨l, _, rfl, SqT.of h1, dvs_int ns⟩
  · rw [DV]; exact ⟨r, _, rfl, SqT.of h2, dvs_int ns⟩
  rw [SeqAt.eqv_refl _ (SeqAt.canLay_of_shaped hsh)]
  exact q
theorem ok_right (T : Txt K mg a) (hB : Bm mg base) : FnOk P w K mg base CX0 8 a.f_L_right a.d_L_right ["_law_plan", "_law_crowd_here", "_law_rows", "_law_kept", "_law_due", "_law_ends"] (spRight K a) := by
  have G_Start_node : FnOk P w K mg base CX0 7 _ _ _ (spSNode K a) := (ok_snode T hB).mono (by decide)
  have G_Loose_node : FnOk P w K mg base CX0 7 _ _ _ (spLNode K a) := (ok_lnode T hB).mono (by decide)
  have G_Start_matrix : FnOk P w K mg base CX0 7 _ _ _ (spSMat K a) := ok_smat T hB
  have G_Loose_matrix : FnOk P w K mg base CX0 7 _ _ _ (spLMx K a) := ok_lmx T hB
  have G_Start_bounds : FnOk P w K mg base CX0 7 _ _ _ (spSBo a) := (ok_sbo T).mono (by decide)
  have G_Loose_bounds : FnOk P w K mg base CX0 7 _ _ _ (spLBo a) := (ok_lbo T).mono (by decide)
  have G_L_matrix : FnOk P w K mg base CX0 7 _ _ _ (spLMat K) := (ok_lmat T).mono (by decide)
  have G_L_thrown : FnOk P w K mg base CX0 7 _ _ _ (spThrown K a) := (ok_thrown T hB).mono (by decide)
  have G_drawn : FnOk P w K mg base CX0 7 _ _ _ (spDrawn K a) := (ok_drawn T hB).mono (by decide)
  refine T.F_L_right.ok sc_L_right (fun vs H Q E h => ?_) (fun cdv A outer s H vs Q E hr h => ?_)
  · obtain ⟨v, r, R, kt, d, en, ms, xs, xsR, ys, rows, kept, ks, S, e, b1, b2, rfl, _⟩ := h; rfl
  · obtain ⟨v, r, R, kt, d, en, ms, xs, xsR, ys, rows, kept, ks, S, e, b1, b2, rfl, hpl, hr3, hC, hz, hR, hRs, hRl, hkt, hks, hG, hd, hD, hen, hT, q⟩ := h
    have small : sizeLine = 16777216 := sizeLine_eq
    have hlen : ms.length ≤ 24 := Pt.len hz
    have hcl := hC.len
    refine ⟨_, (pss_cons (ps_set (i := 6) sc_L_right.nd rfl (Or.inl rfl) (pe_callTy call_list_of rfl T.z_list bt_list (pa_cons (vr 1) pa_nil))) (pss_cons (ps_set (i := 7) sc_L_right.nd rfl (Or.inl rfl) (PE.or (pe_meth (vr 0) T.cl_Start T.mt_Start_node G_Start_node hr T.B_Start_node .nil pass0 (pa_cons (vr 6) pa_nil)) (pe_meth (vr 0) T.cl_Loose T.mt_Loose_node G_Loose_node hr T.B_Loose_node .nil pass0 (pa_cons (vr 6) pa_nil)))) (pss_cons (ps_set (i := 8) sc_L_right.nd rfl (Or.inl rfl) (PE.or (pe_meth (vr 0) T.cl_Start T.mt_Start_matrix G_Start_matrix hr T.B_Start_matrix .nil pass0 (pa_cons (vr 6) pa_nil)) (pe_meth (vr 0) T.cl_Loose T.mt_Loose_matrix G_Loose_matrix hr T.B_Loose_matrix .nil pass0 (pa_cons (vr 6) pa_nil)))) (pss_cons (ps_if (PW.pt (pw_or (pt_not (t_val (pe_call G_L_matrix hr rfl T.m_L_matrix T.F_L_matrix.kp T.B_L_matrix .nil pass0 (pa_cons (vr 8) (pa_cons (vr 4) pa_nil))))) (pw_or (t_cmp (o_neD hr.units) (PE.or (pe_meth (vr 0) T.cl_Start T.mt_Start_bounds G_Start_bounds hr T.B_Start_bounds .nil pass0 (pa_cons (vr 6) pa_nil)) (pe_meth (vr 0) T.cl_Loose T.mt_Loose_bounds G_Loose_bounds hr T.B_Loose_bounds .nil pass0 (pa_cons (vr 6) pa_nil))) (vr 5) (nomark _)) (pw_or1 (t_cmp (o_neR hr.units) (vr 6) (vr 1) (nomark _)))))) (pss_one (ps_ret pe_bl)) pss_nil) (pss_cons (ps_expr (pe_m.clear (vr 6))) (pss_cons (ps_for PassesOwn.never rfl (pi_zip rfl T.z_zip (pa_cons (vr 8) (pa_cons (vr 4) pa_nil))) (pg_tup rfl (pgs_cons (pg_name (i := 9) sc_L_right.nd rfl (Or.inl rfl)) (pgs_cons (pg_name (i := 10) sc_L_right.nd rfl (Or.inl rfl)) pgs_nil))) (pss_cons (ps_if (t_cmp (o_neD hr.units) (vr 9) (vr 10) (nomark _)) (pss_one (ps_ret pe_bl)) pss_nil) (pss_one (ps_expr (pe_m.clear (vr 9)))))) (pss_cons (ps_if (pt_not (t_val (pe_call G_L_matrix hr rfl T.m_L_matrix T.F_L_matrix.kp T.B_L_matrix .nil pass0 (pa_cons (PE.or (pe_meth (vr 0) T.cl_Start T.mt_Start_matrix G_Start_matrix hr T.B_Start_matrix .nil pass0 (pa_cons (vr 1) pa_nil)) (pe_meth (vr 0) T.cl_Loose T.mt_Loose_matrix G_Loose_matrix hr T.B_Loose_matrix .nil pass0 (pa_cons (vr 1) pa_nil))) (pa_cons (vr 4) pa_nil))))) (pss_one (ps_ret pe_bl)) pss_nil) (pss_cons (ps_if (pt_not (t_val (pe_call G_L_thrown hr rfl T.m_L_thrown T.F_L_thrown.kp T.B_L_thrown .nil pass0 (pa_cons (vr 7) (pa_cons (vr 2) (pa_cons (vr 3) pa_nil)))))) (pss_one (ps_ret pe_bl)) pss_nil) (pss_one (ps_ret (m_and (pe_cmpR (o_eqD hr.units) (pe_call G_drawn hr rfl T.m_drawn T.F_drawn.kp T.B_drawn .nil pass0 (pa_cons (PE.or (pe_meth (vr 0) T.cl_Start T.mt_Start_node G_Start_node hr T.B_Start_node .nil pass0 (pa_cons (vr 1) pa_nil)) (pe_meth (vr 0) T.cl_Loose T.mt_Loose_node G_Loose_node hr T.B_Loose_node .nil pass0 (pa_cons (vr 1) pa_nil))) (pa_cons (pe_comp rfl (N := ["_law_sizes", "_law_throw"]) (ix := [none, none]) ⟨rfl, rfl, rfl, rfl, trivial⟩ (pi_any (vr 2)) ⟨fun C s H fp => (pg_tupK (K := K) (n := 2) rfl rfl (pgs_cons (pg_name (i := 0) (show List.Nodup (["_law_sizes", "_law_throw"] : List Str) by decide +kernel) rfl (Or.inl rfl)) (pgs_cons (pg_name (i := 1) (show List.Nodup (["_law_sizes", "_law_throw"] : List Str) by decide +kernel) rfl (Or.inl rfl)) pgs_nil))), fun C s H fp => pts_nil, fun C s H fp => (vr 1)⟩) pa_nil))) (vr 3) (nomark _)) (pe_one (pe_call G_L_thrown hr rfl T.m_L_thrown T.F_L_thrown.kp T.B_L_thrown .nil pass0 (pa_cons (vr 7) (pa_cons (vr 2) (pa_cons (vr 3) pa_nil)))))))))))))))), ?_⟩
    refine ⟨r, xs, rfl, .inl (SqL.of hr3), fun lh flh => ?_⟩
    have s5 := Same.new (o := .lst xs) flh
    have hlh := upd_same (H := H) (a := lh) (o := .lst xs)
    generalize upd H lh (.lst xs) = H4 at s5 hlh
    have hT4 := hT.same s5
    refine Or.imp (meth_at (fun _ => rfl) (fun _ => rfl)) (meth_at (fun _ => rfl) (fun _ => rfl)) ?_
    refine node_call (K := K) (fun b => b ≠ lh) (hpl.t s5.t) (fun b hb z => by rw [z, hlh] at hb; cases hb) hlh (hC.tk s5.tk) hz hlen hT4 fun H6 nd t6 hT6 n6 => ?_
    have hlh6 := t6.at hlh
    have t06 := s5.t.trans t6
    refine Or.imp (meth_at (fun _ => rfl) (fun _ => rfl)) (meth_at (fun _ => rfl) (fun _ => rfl)) ?_
    refine matrix_call (K := K) (hpl.t t06) hlh6 (hC.tk (SameT.tk t06)) hz hlen hT6 fun H7 fr xf t7 hT7 hfr0 hfr hM hnd hnew => ?_
    have t07 := t06.trans t7
    have hlh7 := t7.at hlh6
    refine ⟨fr, d, xf, ys, _, rfl, hfr, t07.at hd, hM, hD.same t07, fun H9 s9 => ?_⟩
    have t09 := t07.trans s9.t
    refine Or.imp (meth_at (fun _ => rfl) (fun _ => rfl)) (meth_at (fun _ => rfl) (fun _ => rfl)) ?_
    refine bounds_call (hpl.t t09) (s9 _ _ hlh7) (hC.tk (SameT.tk t09)) hz hlen (hT7.same s9) fun H10 pb t10 hT10 hpb => ?_
    have t0 := t09.trans t10
    refine ne_tups (ns := [b1, b2]) hpb (t0.at hen) ?_
    have t710 := s9.t.trans t10
    have hlh10 := t710.at hlh7
    refine ⟨lh, r, xs, rfl, rfl, SqL.of hlh10, SqL.of (t0.at hr3), hC.refs, ?_⟩
    refine ⟨.inl ⟨rfl, _, SqL.of hlh10⟩, ⟨lh, _, rfl, rfl, hlh10, ?_⟩⟩
    have n6' := (n6.put (o' := .lst []) hlh6 (fun z => z rfl)).w
    have t611 : SameT (upd H6 lh (.lst [])) (upd H10 lh (.lst [])) := SameT.upd (t7.trans t710)
    have t711 : SameT (upd H7 lh (.lst [])) (upd H10 lh (.lst [])) := SameT.upd t710
    have t06' : SameT H (upd H6 lh (.lst [])) := t06.put flh
    have n7 : ∀ {b : Addr}, H6 b = none → b ≠ lh := fun hb z => by rw [z, hlh6] at hb; cases hb
    have hfr7' : (upd H7 lh (.lst [])) fr = some (.lst xf) := by rw [upd_ne (n7 hfr0)]; exact hfr
    have hM7' : MatAt K fr (upd H7 lh (.lst [])) (matG ms.length e) xf := hM.keep (TK.lst hlh7) (fun q zs hq h => by rw [upd_ne (n7 (hnew q hq))]; exact h)
    have hT11 := tabs_lst (zs' := []) hlh10 hT10
    have hfr11 := t711.at hfr7'
    have hM11 := hM7'.same t711
    have lh6' : (upd H6 lh (.lst [])) lh = some (.lst []) := upd_same
    have n66 : ∀ {b : Addr} {o : HO}, (upd H6 lh (.lst [])) b = some o → V.ref b ∉ xf := fun {b o} eb z => by
      have := hnew _ z
      rw [upd_ne (n7 this), this] at eb
      cases eb
    generalize upd H10 lh (.lst []) = H11 at t611 t711 hT11 hfr11 hM11
    generalize upd H6 lh (.lst []) = H6' at n6' t611 t06' n66 lh6'
    have t011 := t06'.trans t611
    have hd11 := t011.at hd
    have hD11 := hD.same t011
    have nfr : V.ref fr ∉ xf := fun z => (hM11.mem z).1 rfl
    have nH : ∀ {b : Addr} {o : HO}, H b = some o → V.ref b ∉ xf := fun {b o} eb => by
      obtain ⟨o', h'⟩ := (t06' b o eb).2
      exact n66 h'
    refine ⟨fr, d, xf, ys, rfl, hfr11, hd11, for_zip (a := fr) (b := d) (xs := xf) (ys := ys) (by rw [← hM11.len, ← hD11.len]) (fun i σ H' => (∀ b o, V.ref b ∉ xf.take i → H11 b = some o → H' b = some o) ∧ TabsOk (tabs a) H' ∧ ∃ x11 x12, σ = [some v, some (.ref r), some (.ref R), some (.ref kt), some (.ref d), some (.ref en), some (.ref lh), some nd, some (.ref fr), x11, x12]) ⟨fun b o _ e => e, hT11, none, none, rfl⟩ (fun i σ H' h => ⟨h.1 _ _ (fun z => nfr (List.mem_of_mem_take z)) hfr11, h.1 _ _ (fun z => nH hd (List.mem_of_mem_take z)) hd11⟩) ?_ ?_⟩
    · rintro i v1 v2 σ H' pp hxi hyi ⟨k1, hT', x11, x12, rfl⟩ hpp
      obtain ⟨fs, hu1, q1, zs, rfl, nq1, g1, hF1⟩ := hM11.get hxi
      obtain ⟨fs', hu2, q2, zs', rfl, nq2, g2, hF2⟩ := hD11.get hyi
      rw [hu1] at hu2
      cases hu2
      have n1 : V.ref q1 ∉ xf.take i := nodup_take hnd hxi
      have n2 : V.ref q2 ∉ xf := by
        obtain ⟨_, ws, e'⟩ := hD.mem (List.mem_of_getElem? hyi)
        exact nH e'
      have tk1 : TK H11 H' := fun b us e => k1 _ _ (fun z => by
        obtain ⟨_, ws, e'⟩ := hM11.mem (List.mem_of_mem_take z)
        rw [e] at e'; cases e') e
      have sn := Same.new (o := .tup [.ref q1, .ref q2]) hpp
      have tk2 := tk1.trans sn.tk
      have c1 := sn _ _ (k1 _ _ n1 g1)
      have c2 := sn _ _ (k1 _ _ (fun z => n2 (List.mem_of_mem_take z)) g2)
      have hT2 := hT'.same sn
      refine ⟨pp, _, rfl, SqT.of upd_same, rfl, _, _, rfl, _, _, rfl, rfl, ?_⟩
      refine ne_fr c1 c2 (hF1.tk tk2) (hF2.tk tk2) ?_
      refine ⟨.inl ⟨rfl, _, SqL.of c1⟩, ⟨q1, _, rfl, rfl, c1, ?_⟩⟩
      refine ⟨fun b o nb e => ?_, tabs_lst c1 hT2, _, _, rfl⟩
      rw [List.take_add_one, hxi] at nb
      have nb1 : V.ref b ∉ xf.take i := fun z => nb (List.mem_append_left _ z)
      have nb2 : b ≠ q1 := fun z => nb (List.mem_append_right _ (by rw [z]; exact List.mem_singleton.mpr rfl))
      rw [upd_ne nb2]
      exact sn _ _ (k1 _ _ nb1 e)
    rintro σ H12 ⟨k12, hT12, x11, x12, rfl⟩
    rw [List.take_of_length_le (Nat.le_refl _)] at k12
    have t612 : SameT H6' H12 := fun b o eb => ⟨fun n => k12 _ _ (n66 eb) (t611.at eb n), let ⟨o', e'⟩ := (t611 b o eb).2; ⟨o', k12 _ _ (n66 eb) e'⟩⟩
    have n12 := n6'.t t612
    have t012 := t06'.trans t612
    refine Or.imp (meth_at (fun _ => rfl) (fun _ => rfl)) (meth_at (fun _ => rfl) (fun _ => rfl)) ?_
    refine matrix_call (K := K) (hpl.t t012) (t012.at hr3) (hC.tk (SameT.tk t012)) hz hlen hT12 fun H13 fr2 xf2 t13 hT13 _ hfr2 hM2 _ _ => ?_
    have t013 := t012.trans t13
    refine ⟨fr2, d, xf2, ys, _, rfl, hfr2, t013.at hd, hM2, hD.same t013, fun H14 s14 => ?_⟩
    have t1214 := t13.trans s14.t
    have t014 := t012.trans t1214
    refine ⟨nd, R, kt, rows, xsR, kept, ks, rfl, ⟨S, n12.t t1214, hG⟩, t014.at hR, RowsAt.t t014 hRs, t014.at hkt, hks, hT13.same s14, fun H15 t15 hT15 => ?_⟩
    have t1215 := t1214.trans t15
    have t015 := t012.trans t1215
    refine Or.imp (meth_at (fun _ => rfl) (fun _ => rfl)) (meth_at (fun _ => rfl) (fun _ => rfl)) ?_
    refine node_call (K := K) (fun _ => True) (hpl.t t015) (fun _ _ => trivial) (t015.at hr3) (hC.tk (SameT.tk t015)) hz hlen hT15 fun H16 nd2 t16 hT16 n16 => ?_
    have t1216 := t1215.trans t16
    have t016 := t012.trans t1216
    have hR16 := t016.at hR
    have hRs16 := RowsAt.t t016 hRs
    refine .inl ⟨⟨_, SqL.of hR16⟩, fun D2 hD2 => ?_⟩
    refine comp_list (K := K) (a := R) (xs := xsR) (fun i zs H' => Same H16 H' ∧ H' D2 = some (.lst zs) ∧ i ≤ rows.length ∧ zs = ((rows.map (·.2)).map V.int).take i) ⟨Same.new hD2, upd_same, Nat.zero_le _, rfl⟩ (fun i zs H' h => SqL.of (h.1 _ _ hR16)) (fun i zs H' h => h.2.1) ?_ ?_
    · rintro i y zs H' P' hy ⟨s13', hD13', hi, rfl⟩ hP'
      obtain ⟨⟨sz, t⟩, hri, pr, lsz, rfl, hpr, hlsz⟩ := paired_get hRs16 hy
      have ilt : i < rows.length := (List.getElem?_eq_some_iff.mp hri).1
      have rl := Paired.length hRs16
      refine ⟨pr, _, rfl, SqT.of (s13' _ _ hpr), rfl, _, _, rfl, _, _, rfl, rfl, trivial, hD13', ?_, hP' _ _ ⟨s13'.put hD2, upd_same, ilt, ?_⟩⟩
      · rw [List.length_take]; omega
      · rw [List.take_add_one, List.getElem?_map, List.getElem?_map, hri]; rfl
    rintro zs H17 ⟨s17, hD17, _, rfl⟩
    rw [← Paired.length hRs16, List.take_of_length_le (by rw [List.length_map, List.length_map]; exact Nat.le_refl _)] at hD17
    have t1217 := t1216.trans s17.t
    refine ⟨nd2, D2, rows, kept, rfl, ⟨S, n16.t s17.t, hG⟩, hD17, hT16.same s17, fun H18 kt2 ks2 t18 hT18 hkt2 hks2 => ?_⟩
    have : ks2 = ks := srt_uniq hks2 hks
    subst this
    have t1218 := t1217.trans t18
    have t018 := t012.trans t1218
    refine eq_tups hkt2 (t018.at hkt) ?_
    exact ⟨nd, R, kt, rows, xsR, kept, _, rfl, ⟨S, n12.t t1218, hG⟩, t018.at hR, RowsAt.t t018 hRs, t018.at hkt, hks, hT18, fun H20 t20 hT20 => q _ (t018.trans t20) hT20⟩
end
end My
set_option Elab.async false
set_option linter.all false
set_option maxRecDepth 100000
set_option maxHeartbeats 4000000
namespace My
open PySem L2 FrM
theorem SameT.seq {K : PySem.W.Frag} {H H' : Hp} {b : Addr} {xs : List V} (e : SameT H H') (h : SqL K H b xs) : SqL K H' b xs := by
  rcases h with (h | ⟨o, h⟩) | h
  · exact .inl (.inl (e.at h))
  · exact .inl (.inr ⟨o, e.at h⟩)
  · exact .inr h
section
variable {P : Program} {w : World} {K : PySem.W.Frag} {mg : Str → Option Value} {base : Heap} {a : Ad}
abbrev lawK : Nat := 9
theorem ok_law {ts : List Addr} (T : Txt K mg a) (hB : Bm mg base) (hts : ∀ q ∈ tabs a, q.1 ∈ ts) : FnOk P w K mg base CX0 lawK a.f_law a.d_law ["_law_script"] (spLaw K ts) := by
  have G_L_cell : FnOk P w K mg base CX0 8 _ _ _ (spCell K) := (ok_cell T).mono (by decide)
  have G_L_crowd : FnOk P w K mg base CX0 8 _ _ _ (spCrowd K) := (ok_crowd T).mono (by decide)
  have G_L_row : FnOk P w K mg base CX0 8 _ _ _ spRow := (ok_row T).mono (by decide)
  have G_L_start : FnOk P w K mg base CX0 8 _ _ _ spLStart := (ok_lstart T).mono (by decide)
  have G_L_loose : FnOk P w K mg base CX0 8 _ _ _ (spLLoose K) := (ok_lloose T).mono (by decide)
  have G_L_steps : FnOk P w K mg base CX0 8 _ _ _ (spSteps K) := (ok_steps T).mono (by decide)
  have G_L_both : FnOk P w K mg base CX0 8 _ _ _ (spBoth K) := (ok_both T).mono (by decide)
  have G_L_wished : FnOk P w K mg base CX0 8 _ _ _ (spWished K) := (ok_Lwished T).mono (by decide)
  have G_L_right : FnOk P w K mg base CX0 8 _ _ _ (spRight K a) := ok_right T hB
  have G_Start : FnOk P w K mg base CX0 7 _ _ _ (spStartI a) := (oi_Start T).mono (by decide)
  have G_Loose : FnOk P w K mg base CX0 7 _ _ _ (spLooseI a) := (oi_Loose T).mono (by decide)
  have G_Start_text : FnOk P w K mg base CX0 8 _ _ _ (spTextS a) := (ok_tStart T).mono (by decide)
  have G_Loose_text : FnOk P w K mg base CX0 8 _ _ _ (spTextL a) := (ok_tLoose T).mono (by decide)
  refine T.F_law.ok sc_law (fun vs H Q E h => ?_) (fun cdv A outer s H vs Q E hr h => ?_)
  · obtain ⟨p, ns, rfl, _⟩ := h; rfl
  · obtain ⟨p, ns, rfl, hS, hlen, hT0, q⟩ := h
    have small : sizeLine = 16777216 := sizeLine_eq
    have hT := tabs_new hts hT0
    refine ⟨_, (pss_cons (ps_set (i := 1) sc_law.nd rfl (Or.inl rfl) (pe_call G_L_crowd hr rfl T.m_L_crowd T.F_L_crowd.kp T.B_L_crowd .nil pass0 (pa_cons (vr 0) (pa_cons pe_int (pa_cons pe_int pa_nil))))) (pss_cons (ps_setC rfl (i := 2) sc_law.nd rfl rfl (by with_unfolding_all rfl) (N := ["_law_row_here"]) (ix := [none]) ⟨rfl, rfl, rfl, rfl, trivial⟩ (pi_any (vr 1)) ⟨fun C s H fp => pg_name (i := 0) (show List.Nodup (["_law_row_here"] : List Str) by decide +kernel) rfl (Or.inl rfl), fun C s H fp => pts_nil, fun C s H fp => (pe_ix (ix_seqK (K := K) rfl) (vr 0) pe_int (fun _ _ => rfl))⟩) (pss_cons (ps_set (i := 3) sc_law.nd rfl (Or.inl rfl) (pe_call G_L_row hr rfl T.m_L_row T.F_L_row.kp T.B_L_row .nil pass0 (pa_cons (pe_call G_L_cell hr rfl T.m_L_cell T.F_L_cell.kp T.B_L_cell .nil pass0 (pa_cons (vr 0) (pa_cons pe_int pa_nil))) (pa_cons (pe_call G_L_cell hr rfl T.m_L_cell T.F_L_cell.kp T.B_L_cell .nil pass0 (pa_cons (vr 0) (pa_cons pe_int pa_nil))) (pa_cons pe_int (pa_cons (pe_op o_pow pe_int pe_int) pa_nil)))))) (pss_cons (ps_set (i := 4) sc_law.nd rfl (Or.inl rfl) (pe_op o_add pe_int (pe_op o_mod (pe_op o_fdivB (pe_call G_L_cell hr rfl T.m_L_cell T.F_L_cell.kp T.B_L_cell .nil pass0 (pa_cons (vr 0) (pa_cons pe_int pa_nil))) pe_int) (pe_ix ix_seq (pe_lst (pa_cons pe_int (pa_cons pe_int pa_nil))) (pe_op o_mod (pe_call G_L_cell hr rfl T.m_L_cell T.F_L_cell.kp T.B_L_cell .nil pass0 (pa_cons (vr 0) (pa_cons pe_int pa_nil))) pe_int) (fun _ _ => rfl))))) (pss_cons (ps_asg (pe_call G_L_start hr rfl T.m_L_start T.F_L_start.kp T.B_L_start .nil pass0 (pa_cons (vr 2) (pa_cons (vr 4) (pa_cons (pe_ix ix_seq (vr 3) pe_int (fun _ _ => rfl)) pa_nil)))) (pg_tup rfl (pgs_cons (pg_name (i := 5) sc_law.nd rfl (Or.inl rfl)) (pgs_cons (pg_name (i := 6) sc_law.nd rfl (Or.inl rfl)) pgs_nil)))) (pss_cons (ps_set (i := 7) sc_law.nd rfl (Or.inl rfl) (pe_tup (pa_cons (pe_op o_fdivB (pe_callB call_lenM rfl T.z_len bt_len (pa_cons (vr 1) pa_nil)) (vr 4)) (pa_cons (pe_op o_fdivB (pe_op o_sub (pe_op o_add (pe_callB call_lenM rfl T.z_len bt_len (pa_cons (vr 1) pa_nil)) (vr 4)) pe_int) (vr 4)) pa_nil)))) (pss_cons (ps_if (pt_not (t_val (pe_call G_L_right hr rfl T.m_L_right T.F_L_right.kp T.B_L_right .nil pass0 (pa_consQ (pe_make T.mk_Start G_Start hr rfl T.mc_Start T.Bi_Start .nil pass0 (pa_cons (vr 4) pa_nil)) (pa_consQ (vr 1) (pa_consQ (vr 5) (pa_consQ (vr 6) (pa_consQ (pe_call G_L_steps hr rfl T.m_L_steps T.F_L_steps.kp T.B_L_steps .nil pass0 (pa_cons (pe_callB call_lenM rfl T.z_len bt_len (pa_cons (vr 1) pa_nil)) (pa_cons (vr 4) pa_nil))) (pa_consQ (vr 7) pa_nil))))))))) (pss_one (ps_ret pe_bl)) pss_nil) (pss_cons (ps_set (i := 8) sc_law.nd rfl (Or.inl rfl) (pe_op o_mod (pe_call G_L_cell hr rfl T.m_L_cell T.F_L_cell.kp T.B_L_cell .nil pass0 (pa_cons (vr 0) (pa_cons pe_int pa_nil))) pe_int)) (pss_cons (ps_set (i := 9) sc_law.nd rfl (Or.inl rfl) (pe_call G_L_wished hr rfl T.m_L_wished T.F_L_wished.kp T.B_L_wished .nil pass0 (pa_cons (pe_comp rfl (N := ["_law_row_here"]) (ix := [none]) ⟨rfl, rfl, rfl, rfl, trivial⟩ (pi_any (vr 1)) ⟨fun C s H fp => pg_name (i := 0) (show List.Nodup (["_law_row_here"] : List Str) by decide +kernel) rfl (Or.inl rfl), fun C s H fp => pts_nil, fun C s H fp => (pe_ix (ix_seqK (K := K) rfl) (vr 0) pe_int (fun _ _ => rfl))⟩) (pa_cons (vr 8) pa_nil)))) (pss_cons (ps_asg (pe_call G_L_loose hr rfl T.m_L_loose T.F_L_loose.kp T.B_L_loose .nil pass0 (pa_cons (vr 2) (pa_cons (vr 9) (pa_cons (vr 3) pa_nil)))) (pg_tup rfl (pgs_cons (pg_name (i := 5) sc_law.nd rfl (Or.inl rfl)) (pgs_cons (pg_name (i := 6) sc_law.nd rfl (Or.inl rfl)) pgs_nil)))) (pss_cons (ps_set (i := 7) sc_law.nd rfl (Or.inl rfl) (pe_tup (pa_cons (pe_m.count hr.units (vr 9) (pa_cons (pe_tup (pa_cons pe_int (pa_cons pe_int pa_nil))) pa_nil)) (pa_cons (pe_op o_sub (pe_callB call_lenM rfl T.z_len bt_len (pa_cons (vr 9) pa_nil)) (pe_m.count hr.units (vr 9) (pa_cons (pe_tup (pa_cons pe_int (pa_cons pe_int pa_nil))) pa_nil))) pa_nil)))) (pss_cons (ps_if (pt_not (t_val (pe_call G_L_right hr rfl T.m_L_right T.F_L_right.kp T.B_L_right .nil pass0 (pa_consQ (pe_make T.mk_Loose G_Loose hr rfl T.mc_Loose T.Bi_Loose .nil pass0 (pa_cons (vr 8) pa_nil)) (pa_consQ (vr 1) (pa_consQ (vr 5) (pa_consQ (vr 6) (pa_consQ (pe_call G_L_both hr rfl T.m_L_both T.F_L_both.kp T.B_L_both .nil pass0 (pa_cons (vr 9) pa_nil)) (pa_consQ (vr 7) pa_nil))))))))) (pss_one (ps_ret pe_bl)) pss_nil) (pss_cons (ps_if (t_cmp (o_neD hr.units) (pe_tup (pa_cons (pe_fld (pe_make T.mk_Start G_Start hr rfl T.mc_Start T.Bi_Start .nil pass0 (pa_cons (vr 4) pa_nil)) rfl) (pa_cons (pe_fld (pe_make T.mk_Loose G_Loose hr rfl T.mc_Loose T.Bi_Loose .nil pass0 (pa_cons (vr 8) pa_nil)) rfl) pa_nil))) (pe_tup (pa_cons (vr 4) (pa_cons (vr 8) pa_nil))) (nomark _)) (pss_one (ps_ret pe_bl)) pss_nil) (pss_one (ps_ret (m_and (pe_cmpR o_eq (PE.or (pe_meth0 (pe_make T.mk_Start G_Start hr rfl T.mc_Start T.Bi_Start .nil pass0 (pa_cons (vr 4) pa_nil)) T.cl_Start T.mt_Start_text G_Start_text hr T.B_Start_text .nil pass0) (pe_meth0 (pe_make T.mk_Start G_Start hr rfl T.mc_Start T.Bi_Start .nil pass0 (pa_cons (vr 4) pa_nil)) T.cl_Loose T.mt_Loose_text G_Loose_text hr T.B_Loose_text .nil pass0)) (pe_op o_add pe_str (pe_callTy call_strI rfl T.z_str bt_str (pa_cons (vr 4) pa_nil))) (nomark _)) (pe_one (pe_cmpR o_eq (PE.or (pe_meth0 (pe_make T.mk_Loose G_Loose hr rfl T.mc_Loose T.Bi_Loose .nil pass0 (pa_cons (vr 8) pa_nil)) T.cl_Start T.mt_Start_text G_Start_text hr T.B_Start_text .nil pass0) (pe_meth0 (pe_make T.mk_Loose G_Loose hr rfl T.mc_Loose T.Bi_Loose .nil pass0 (pa_cons (vr 8) pa_nil)) T.cl_Loose T.mt_Loose_text G_Loose_text hr T.B_Loose_text .nil pass0)) (pe_op o_add pe_str (pe_callTy call_strI rfl T.z_str bt_str (pa_cons (vr 8) pa_nil))) (nomark _))))))))))))))))))), ?_⟩
    refine ⟨p, ns, rfl, hS, hlen, fun H1 r ms xs s1 hr0 hr1 hC hP => ?_⟩
    have hcl := hC.len
    have hms : ms.length ≤ 24 := Pt.len hP
    have hx24 : xs.length ≤ 24 := by omega
    have hz : Szs (szs ms) := hP
    refine .inl ⟨⟨_, SqL.of hr1⟩, fun D hD => ?_⟩
    refine comp_list (K := K) (a := r) (xs := xs) (fun i ys H' => i ≤ xs.length ∧ Same H1 H' ∧ H' D = some (.lst ys) ∧ ys = (plc (ms.take i)).map V.int) ⟨Nat.zero_le _, Same.new hD, upd_same, rfl⟩ (fun i ys H' h => SqL.of (h.2.1 _ _ hr1)) (fun i ys H' h => h.2.2.1) ?_ ?_
    · rintro i x ys H' P' hx ⟨hi, s3, hD1, rfl⟩ hP'
      obtain ⟨m', hm', q1, pt, rfl, g1, g2⟩ := ((hC).tk s3.tk).get hx
      have hlt : i < xs.length := (List.getElem?_eq_some_iff.mp hx).1
      refine ⟨trivial, .inr (.inl ⟨q1, _, _, _, rfl, rfl, SqT.of g1, atI_cons 0 rfl rfl, hD1, ?_, hP' _ _ ⟨hlt, s3.put hD, upd_same, ?_⟩⟩)⟩
      · unfold plc; rw [List.length_map, List.length_map, List.length_take]; omega
      · unfold plc; rw [List.take_add_one, hm', List.map_append, List.map_append]; rfl
    rintro ys H2 ⟨_, s2, hD1, rfl⟩
    rw [← hcl, List.take_of_length_le (Nat.le_refl _)] at hD1
    have hpl : (plc ms).length = ms.length := by unfold plc; rw [List.length_map]
    have s12 := s1.trans s2
    refine ⟨p, ns, 5, rfl, s12.seq hS, hlen, by decide, by decide, ?_⟩
    refine ⟨p, ns, 6, rfl, s12.seq hS, hlen, by decide, by decide, cw, ?_⟩
    have e12 : (10 : Int) ^ (12 : Int).toNat = 1000000000000 := by decide +kernel
    dsimp only
    rw [e12]
    refine ⟨_, _, 25, 1000000000000, rfl, by decide, by decide, by decide, by decide, fun H3 lt throws s3 hlt0 hlt htl _ => ?_⟩
    have htl : throws.length = 25 := by omega
    have s13 := s12.trans s3
    refine ⟨p, ns, 7, rfl, s13.seq hS, hlen, by decide, by decide, cdB (by decide) (show Bt 40 2 by unfold Bt; decide), two_le _ _, fun p1 hp1 => ?_⟩
    have s4 := Same.new (o := .lst [.int 100, .int 6]) hp1
    have hl4 := upd_same (H := H3) (a := p1) (o := .lst [.int 100, .int 6])
    generalize upd H3 p1 (.lst [.int 100, .int 6]) = H4 at s4 hl4
    have s14 := s13.trans s4
    refine ⟨p, ns, 7, rfl, s14.seq hS, hlen, by decide, by decide, cp, ?_⟩
    obtain ⟨mm, hmm, mm0, mm1⟩ : ∃ m : Int, atI [V.int 100, V.int 6] (cellC ns 7 % 2) = some (.int m) ∧ 1 ≤ m ∧ m ≤ 100 := by
      have h3 : cellC ns 7 % 2 = ((0 : Nat) : Int) ∨ cellC ns 7 % 2 = ((1 : Nat) : Int) := by omega
      rcases h3 with e | e <;> rw [e]
      · exact ⟨100, atI_nat rfl, by decide, by decide⟩
      · exact ⟨6, atI_nat rfl, by decide, by decide⟩
    refine .inl ⟨p1, _, _, .int mm, rfl, rfl, SqL.of hl4, hmm, cp (by omega), ?_⟩
    have u0 : 0 ≤ cellC ns 7 / 2 % mm := Int.emod_nonneg _ (by omega)
    have u1 : cellC ns 7 / 2 % mm < mm := Int.emod_lt_of_pos _ (by omega)
    obtain ⟨st, hst⟩ : ∃ st : Nat, 1 + cellC ns 7 / 2 % mm = (st : Int) := ⟨(1 + cellC ns 7 / 2 % mm).toNat, by omega⟩
    have st1 : 1 ≤ st := by omega
    have st2 : st ≤ 100 := by omega
    dsimp only [rAddM]
    rw [hst]
    have hlt4 := s4 _ _ hlt
    have hD4 := (s3.trans s4) _ _ hD1
    have ht24 : 24 < throws.length := by omega
    refine .inl ⟨lt, _, _, .int throws[24], rfl, rfl, SqL.of hlt4, atI_cons 24 rfl (by rw [List.getElem?_map, List.getElem?_eq_getElem ht24]; rfl), ?_⟩
    refine ⟨D, plc ms, st, throws[24], rfl, hD4, by omega, st1, st2, fun H5 p5 R kt xsR rows kept ks s5 hp5 hR hRs hRl hkt hks hG => ?_⟩
    refine ⟨p5, _, rfl, SqT.of hp5, rfl, _, _, rfl, _, _, rfl, rfl, ?_⟩
    have s25 := s2.trans ((s3.trans s4).trans s5)
    have hr5 := s25 _ _ hr1
    have b1 : Bt 3000 (st : Int) := (show Bt 10 (st : Int) by unfold Bt; omega).mono (by decide)
    refine ⟨_, .inl (SqL.of hr5), cdB (by omega) b1, _, .inl (SqL.of hr5), cdB (by omega) b1, two_le _ _, fun en fen => ?_⟩
    rw [← hcl]
    have s6 := Same.new (o := .tup [.int ((ms.length : Int) / (st : Int)), .int (((ms.length : Int) + (st : Int) - 1) / (st : Int))]) fen
    have hen := upd_same (H := H5) (a := en) (o := .tup [.int ((ms.length : Int) / (st : Int)), .int (((ms.length : Int) + (st : Int) - 1) / (st : Int))])
    generalize upd H5 en (.tup [.int ((ms.length : Int) / (st : Int)), .int (((ms.length : Int) + (st : Int) - 1) / (st : Int))]) = H6 at s6 hen
    have s26 := s25.trans s6
    intro x dx hx hdx hne
    refine ⟨x, dx, st, rfl, upd_same, st1, st2, ⟨rfl, ?_⟩⟩
    rw [upd_upd]
    have s7 : Same H6 (upd (upd H6 dx (.own x)) x (.ins a.c_Start dx [("step", .int (st : Nat))])) := made2 hx hdx
    have hx7 := upd_same (H := upd H6 dx (.own x)) (a := x) (o := .ins a.c_Start dx [("step", .int (st : Nat))])
    generalize upd (upd H6 dx (.own x)) x (.ins a.c_Start dx [("step", .int (st : Nat))]) = H7 at s7 hx7
    have s27 := s26.trans s7
    refine ⟨_, .inl (SqL.of (s27 _ _ hr1)), ?_⟩
    refine ⟨ms.length, st, ?_, hms, st1, st2, fun H8 d dys s8 hd0 hd hMd _ => ?_⟩
    · rw [hcl]; rfl
    have s28 := s27.trans s8
    have s58 := s6.trans (s7.trans s8)
    have s18 := s1.trans s28
    refine ⟨.ref x, r, R, kt, d, en, ms, xs, xsR, dys, rows, kept, ks, stS (plc ms) st, eS st, _, _, rfl, .inl ⟨st, ⟨x, dx, rfl, s8 _ _ hx7⟩, st1, st2, rfl, rfl, rfl, rfl⟩, s28 _ _ hr1, hC.tk s28.tk, hz, s58 _ _ hR, RowsAt.t s58.t hRs, hRl, s58 _ _ hkt, hks, hG, hd, hMd, (s7.trans s8) _ _ hen, hT.same s18, fun H9 t9 hT9 => ?_⟩
    have t29 := s28.t.trans t9
    have t09 := s1.t.trans t29
    refine ⟨p, ns, 4, rfl, SameT.seq t09 hS, hlen, by decide, by decide, cp, ?_⟩
    obtain ⟨m, hm, hm24⟩ : ∃ m : Nat, cellC ns 4 % 25 = (m : Int) ∧ m ≤ 24 := ⟨(cellC ns 4 % 25).toNat, by omega, by omega⟩
    show gName 8 (V.int (cellC ns 4 % 25)) _ H9 _
    rw [hm]
    have hr9 := t29.at hr1
    have hC9 := hC.tk (SameT.tk t29)
    refine .inl ⟨⟨_, SqL.of hr9⟩, fun D2 hD2 => ?_⟩
    refine comp_list (K := K) (a := r) (xs := xs) (fun i ys H' => i ≤ xs.length ∧ Same H9 H' ∧ H' D2 = some (.lst ys) ∧ ys = (szs (ms.take i)).map V.int) ⟨Nat.zero_le _, Same.new hD2, upd_same, rfl⟩ (fun i ys H' h => SqL.of (h.2.1 _ _ hr9)) (fun i ys H' h => h.2.2.1) ?_ ?_
    · rintro i x ys H' P' hx ⟨hi, s3, hD1, rfl⟩ hP'
      obtain ⟨m', hm', q1, pt, rfl, g1, g2⟩ := ((hC9).tk s3.tk).get hx
      have hlt : i < xs.length := (List.getElem?_eq_some_iff.mp hx).1
      refine ⟨trivial, .inr (.inl ⟨q1, _, _, _, rfl, rfl, SqT.of g1, atI_cons 1 rfl rfl, hD1, ?_, hP' _ _ ⟨hlt, s3.put hD2, upd_same, ?_⟩⟩)⟩
      · unfold szs; rw [List.length_map, List.length_map, List.length_take]; omega
      · unfold szs; rw [List.take_add_one, hm', List.map_append, List.map_append]; rfl
    rintro ys2 H10 ⟨_, s10, hD10, rfl⟩
    rw [← hcl, List.take_of_length_le (Nat.le_refl _)] at hD10
    refine ⟨D2, szs ms, (m : Nat), rfl, hD10, hz, by omega, by omega, fun H11 w' ys s11 hw0 hw hF => ?_⟩
    have t11 := s10.trans s11
    have t211 := t29.trans t11.t
    have dl : (due (szs ms) (m : Nat)).length = ms.length := by rw [due_len]; unfold szs; rw [List.length_map]
    have hok := due_okS (m := m) hz
    have elL1 : (lsL ms m).map (·.1) = plc ms := by
      unfold lsL
      exact List.map_fst_zip (by rw [hpl, dl]; exact Nat.le_refl _)
    have elL2 : (lsL ms m).map (·.2) = due (szs ms) (m : Nat) := by
      unfold lsL
      exact List.map_snd_zip (by rw [hpl, dl]; exact Nat.le_refl _)
    have hD11 : H11 D = some (.lst (((lsL ms m).map (·.1)).map V.int)) := by rw [elL1]; exact ((((s3.trans s4).trans s5).trans s58).t.trans (t9.trans t11.t)).at hD1
    have hlt11 : H11 lt = some (.lst (throws.map V.int)) := (((s4.trans s5).trans s58).t.trans (t9.trans t11.t)).at hlt
    refine ⟨D, w', lt, lsL ms m, ys, throws, rfl, hD11, hw, by rw [elL2]; exact hF, hlt11, by rw [lsL_len]; exact hms, htl, fun z hzm => hok z.2 ?_, fun H12 p12 R2 kt2 xsR2 rows2 kept2 ks2 s12' hp12 hR2 hRs2 hRl2 hkt2 hks2 hG2 => ?_⟩
    · rw [← elL2]; exact List.mem_map.mpr ⟨z, hzm, rfl⟩
    refine ⟨p12, _, rfl, SqT.of hp12, rfl, _, _, rfl, _, _, rfl, rfl, ?_⟩
    have hw12 := s12' _ _ hw
    have hF12 := hF.same s12'
    refine ⟨.inl ⟨rfl, _, SqL.of hw12⟩, two_le _ _, fun c1 fc1 => ?_⟩
    have v1 := Same.new (o := .tup [.int 1, .int 1]) fc1
    refine cnt_dv (v1 _ _ hw12) (hF12.same v1) (SqT.of upd_same) ?_
    refine ⟨_, .inl (SqL.of (v1 _ _ hw12)), ⟨.inl ⟨rfl, _, SqL.of (v1 _ _ hw12)⟩, two_le _ _, fun c2 fc2 => ?_⟩⟩
    have v2 := Same.new (o := .tup [.int 0, .int 1]) fc2
    have v12 := v1.trans v2
    refine cnt_dv (v12 _ _ hw12) (hF12.same v12) (SqT.of upd_same) ?_
    have yl : ys.length = (due (szs ms) (m : Nat)).length := hF.len.symm
    rw [yl]
    refine ⟨two_le _ _, fun en2 fen2 => ?_⟩
    have v3 := Same.new (o := .tup [.int (cF (due (szs ms) (m : Nat)) 1 1), .int (((due (szs ms) (m : Nat)).length : Int) - cF (due (szs ms) (m : Nat)) 0 1)]) fen2
    have hen2 := upd_same (H := upd (upd H12 c1 (.tup [.int 1, .int 1])) c2 (.tup [.int 0, .int 1])) (a := en2) (o := .tup [.int (cF (due (szs ms) (m : Nat)) 1 1), .int (((due (szs ms) (m : Nat)).length : Int) - cF (due (szs ms) (m : Nat)) 0 1)])
    have v13 := v12.trans v3
    generalize upd (upd (upd H12 c1 (.tup [.int 1, .int 1])) c2 (.tup [.int 0, .int 1])) en2 (.tup [.int (cF (due (szs ms) (m : Nat)) 1 1), .int (((due (szs ms) (m : Nat)).length : Int) - cF (due (szs ms) (m : Nat)) 0 1)]) = H13 at v3 hen2 v13
    intro x2 dx2 hx2 hdx2 hne2
    refine ⟨x2, dx2, m, rfl, upd_same, hm24, ⟨rfl, ?_⟩⟩
    rw [upd_upd]
    have s14' : Same H13 (upd (upd H13 dx2 (.own x2)) x2 (.ins a.c_Loose dx2 [("many", .int (m : Nat))])) := made2 hx2 hdx2
    have hx14 := upd_same (H := upd H13 dx2 (.own x2)) (a := x2) (o := .ins a.c_Loose dx2 [("many", .int (m : Nat))])
    generalize upd (upd H13 dx2 (.own x2)) x2 (.ins a.c_Loose dx2 [("many", .int (m : Nat))]) = H14 at s14' hx14
    have v14 := v13.trans s14'
    refine ⟨w', ys, due (szs ms) (m : Nat), rfl, v14 _ _ hw12, hF12.same v14, by omega, hok, fun H15 d2 dys2 s15 hd20 hd2 hMd2 _ => ?_⟩
    have v15 := v14.trans s15
    have t215 := t211.trans (s12'.trans v15).t
    refine ⟨.ref x2, r, R2, kt2, d2, en2, ms, xs, xsR2, dys2, rows2, kept2, ks2, lsN ms m, eL (due (szs ms) (m : Nat)), _, _, rfl, .inr ⟨m, ⟨x2, dx2, rfl, s15 _ _ hx14⟩, hm24, rfl, rfl, rfl, rfl⟩, t215.at hr1, hC.tk (SameT.tk t215), hz, v15 _ _ hR2, RowsAt.t v15.t hRs2, hRl2, v15 _ _ hkt2, hks2, hG2, hd2, by rw [← dl]; exact hMd2, (s14'.trans s15) _ _ hen2, (hT9.same t11).same (s12'.trans v15), fun H16 t16 hT16 => ?_⟩
    intro x3 dx3 hx3 hdx3 hne3
    refine ⟨x3, dx3, st, rfl, upd_same, st1, st2, ⟨rfl, ?_⟩⟩
    rw [upd_upd]
    have hx17 := upd_same (H := upd H16 dx3 (.own x3)) (a := x3) (o := .ins a.c_Start dx3 [("step", .int (st : Nat))])
    generalize upd (upd H16 dx3 (.own x3)) x3 (.ins a.c_Start dx3 [("step", .int (st : Nat))]) = H17 at hx17
    refine ⟨x3, _, dx3, _, _, rfl, hx17, T.cl_Start, T.na_Start_step, rfl, ?_⟩
    intro x4 dx4 hx4 hdx4 hne4
    refine ⟨x4, dx4, m, rfl, upd_same, hm24, ⟨rfl, ?_⟩⟩
    rw [upd_upd]
    have hx18 := upd_same (H := upd H17 dx4 (.own x4)) (a := x4) (o := .ins a.c_Loose dx4 [("many", .int (m : Nat))])
    generalize upd (upd H17 dx4 (.own x4)) x4 (.ins a.c_Loose dx4 [("many", .int (m : Nat))]) = H18 at hx18
    refine ⟨x4, _, dx4, _, _, rfl, hx18, T.cl_Loose, T.na_Loose_many, rfl, ?_⟩
    refine ⟨two_le _ _, fun y1 f1 => ⟨two_le _ _, fun y2 f2 => ?_⟩⟩
    have w2 := Same.new (o := .tup [.int (st : Int), .int (m : Int)]) f2
    refine ne_tups (ns := [(st : Int), (m : Int)]) (w2 _ _ upd_same) upd_same ?_
    generalize upd (upd H18 y1 (.tup [.int (st : Int), .int (m : Int)])) y2 (.tup [.int (st : Int), .int (m : Int)]) = H19
    have g0 : (0 : Int) ≤ (st : Int) := by omega
    have g1 : (st : Int) ≤ 100 := by omega
    have g2 : (0 : Int) ≤ (m : Int) := by omega
    have g3 : (m : Int) ≤ 100 := by omega
    have l1 := slen g0 g1
    have l2 := slen g2 g3
    have k1 : (("start " : Str)).length ≤ 8 := by decide +kernel
    have k2 : (("loose " : Str)).length ≤ 8 := by decide +kernel
    refine .inl ?_
    intro x5 dx5 hx5 hdx5 hne5
    refine ⟨x5, dx5, st, rfl, upd_same, st1, st2, ⟨rfl, ?_⟩⟩
    rw [upd_upd]
    have hx20 := upd_same (H := upd H19 dx5 (.own x5)) (a := x5) (o := .ins a.c_Start dx5 [("step", .int (st : Nat))])
    generalize upd (upd H19 dx5 (.own x5)) x5 (.ins a.c_Start dx5 [("step", .int (st : Nat))]) = H20 at hx20
    refine ⟨x5, dx5, _, rfl, hx20, rfl, _, st, rfl, ⟨x5, dx5, rfl, hx20⟩, st2, ?_⟩
    refine ⟨slog g0 g1, by omega, ?_⟩
    refine ifP rfl ?_
    refine .inr ?_
    intro x6 dx6 hx6 hdx6 hne6
    refine ⟨x6, dx6, m, rfl, upd_same, hm24, ⟨rfl, ?_⟩⟩
    rw [upd_upd]
    have hx21 := upd_same (H := upd H20 dx6 (.own x6)) (a := x6) (o := .ins a.c_Loose dx6 [("many", .int (m : Nat))])
    generalize upd (upd H20 dx6 (.own x6)) x6 (.ins a.c_Loose dx6 [("many", .int (m : Nat))]) = H21 at hx21
    refine ⟨x6, dx6, _, rfl, hx21, rfl, _, m, rfl, ⟨x6, dx6, rfl, hx21⟩, hm24, ?_⟩
    refine ⟨slog g2 g3, by omega, ?_⟩
    have fin1 : ∀ z : Str, Q (.bl (decide (z = z))) H21 := fun z => by rw [decide_eq_true rfl]; exact q _
    have fin2 : ∀ z : Str, Q (.bl (z == z)) H21 := fun z => by rw [beq_self_eq_true]; exact q _
    first
      | exact fin1 _
      | exact fin2 _
      | exact q _
end
end My
set_option Elab.async false
set_option linter.all false
set_option maxRecDepth 100000
set_option maxHeartbeats 4000000
namespace My
open PySem L2
theorem us0 {α : Type} : ∀ {us : List α}, us.length = 0 → us = []
  | [], _ => rfl
theorem us1 {α : Type} : ∀ {us : List α}, us.length = 1 → ∃ a0, us = [a0]
  | [_], _ => ⟨_, rfl⟩
theorem us2 {α : Type} : ∀ {us : List α}, us.length = 2 → ∃ a0 a1, us = [a0, a1]
  | [_, _], _ => ⟨_, _, rfl⟩
theorem us3 {α : Type} : ∀ {us : List α}, us.length = 3 → ∃ a0 a1 a2, us = [a0, a1, a2]
  | [_, _, _], _ => ⟨_, _, _, rfl⟩
theorem us4 {α : Type} : ∀ {us : List α}, us.length = 4 → ∃ a0 a1 a2 a3, us = [a0, a1, a2, a3]
  | [_, _, _, _], _ => ⟨_, _, _, _, rfl⟩
theorem us5 {α : Type} : ∀ {us : List α}, us.length = 5 → ∃ a0 a1 a2 a3 a4, us = [a0, a1, a2, a3, a4]
  | [_, _, _, _, _], _ => ⟨_, _, _, _, _, rfl⟩
theorem us6 {α : Type} : ∀ {us : List α}, us.length = 6 → ∃ a0 a1 a2 a3 a4 a5, us = [a0, a1, a2, a3, a4, a5]
  | [_, _, _, _, _, _], _ => ⟨_, _, _, _, _, _, rfl⟩
theorem us7 {α : Type} : ∀ {us : List α}, us.length = 7 → ∃ a0 a1 a2 a3 a4 a5 a6, us = [a0, a1, a2, a3, a4, a5, a6]
  | [_, _, _, _, _, _, _], _ => ⟨_, _, _, _, _, _, _, rfl⟩
theorem txt_mk {K : PySem.W.Frag} {h : Heap} {mg : Str → Option Value} {f0 : Addr} {od0 an0 : Option Addr} {sl0 : Array (Option Value)} {oc0 kV0 dc0 pm0 cd0 ct0 : Value} {f1 : Addr} {od1 an1 : Option Addr} {sl1 : Array (Option Value)} {oc1 kV1 dc1 pm1 cd1 ct1 : Value} {f2 : Addr} {od2 an2 : Option Addr} {sl2 : Array (Option Value)} {oc2 kV2 dc2 pm2 cd2 ct2 : Value} {f3 : Addr} {od3 an3 : Option Addr} {sl3 : Array (Option Value)} {oc3 kV3 dc3 pm3 cd3 ct3 : Value} {f4 : Addr} {od4 an4 : Option Addr} {sl4 : Array (Option Value)} {oc4 kV4 dc4 pm4 cd4 ct4 : Value} {f5 : Addr} {od5 an5 : Option Addr} {sl5 : Array (Option Value)} {oc5 kV5 dc5 pm5 cd5 ct5 : Value} {f6 : Addr} {od6 an6 : Option Addr} {sl6 : Array (Option Value)} {oc6 kV6 dc6 pm6 cd6 ct6 : Value} {f7 : Addr} {od7 an7 : Option Addr} {sl7 : Array (Option Value)} {oc7 kV7 dc7 pm7 cd7 ct7 : Value} {f8 : Addr} {od8 an8 : Option Addr} {sl8 : Array (Option Value)} {oc8 kV8 dc8 pm8 cd8 ct8 : Value} {f9 : Addr} {od9 an9 : Option Addr} {sl9 : Array (Option Value)} {oc9 kV9 dc9 pm9 cd9 ct9 : Value} {f10 : Addr} {od10 an10 : Option Addr} {sl10 : Array (Option Value)} {oc10 kV10 dc10 pm10 cd10 ct10 : Value} {f11 : Addr} {od11 an11 : Option Addr} {sl11 : Array (Option Value)} {oc11 kV11 dc11 pm11 cd11 ct11 : Value} {f12 : Addr} {od12 an12 : Option Addr} {sl12 : Array (Option Value)} {oc12 kV12 dc12 pm12 cd12 ct12 : Value} {f13 : Addr} {od13 an13 : Option Addr} {sl13 : Array (Option Value)} {oc13 kV13 dc13 pm13 cd13 ct13 : Value} {f14 : Addr} {od14 an14 : Option Addr} {sl14 : Array (Option Value)} {oc14 kV14 dc14 pm14 cd14 ct14 : Value} {f15 : Addr} {od15 an15 : Option Addr} {sl15 : Array (Option Value)} {oc15 kV15 dc15 pm15 cd15 ct15 : Value} {f16 : Addr} {od16 an16 : Option Addr} {sl16 : Array (Option Value)} {oc16 kV16 dc16 pm16 cd16 ct16 : Value} {f17 : Addr} {od17 an17 : Option Addr} {sl17 : Array (Option Value)} {oc17 kV17 dc17 pm17 cd17 ct17 : Value} {f18 : Addr} {od18 an18 : Option Addr} {sl18 : Array (Option Value)} {oc18 kV18 dc18 pm18 cd18 ct18 : Value} {f19 : Addr} {od19 an19 : Option Addr} {sl19 : Array (Option Value)} {oc19 kV19 dc19 pm19 cd19 ct19 : Value} {f20 : Addr} {od20 an20 : Option Addr} {sl20 : Array (Option Value)} {oc20 kV20 dc20 pm20 cd20 ct20 : Value} {f21 : Addr} {od21 an21 : Option Addr} {sl21 : Array (Option Value)} {oc21 kV21 dc21 pm21 cd21 ct21 : Value} {f22 : Addr} {od22 an22 : Option Addr} {sl22 : Array (Option Value)} {oc22 kV22 dc22 pm22 cd22 ct22 : Value} {f23 : Addr} {od23 an23 : Option Addr} {sl23 : Array (Option Value)} {oc23 kV23 dc23 pm23 cd23 ct23 : Value} {f24 : Addr} {od24 an24 : Option Addr} {sl24 : Array (Option Value)} {oc24 kV24 dc24 pm24 cd24 ct24 : Value} {f25 : Addr} {od25 an25 : Option Addr} {sl25 : Array (Option Value)} {oc25 kV25 dc25 pm25 cd25 ct25 : Value} {f26 : Addr} {od26 an26 : Option Addr} {sl26 : Array (Option Value)} {oc26 kV26 dc26 pm26 cd26 ct26 : Value} {f27 : Addr} {od27 an27 : Option Addr} {sl27 : Array (Option Value)} {oc27 kV27 dc27 pm27 cd27 ct27 : Value} {f28 : Addr} {od28 an28 : Option Addr} {sl28 : Array (Option Value)} {oc28 kV28 dc28 pm28 cd28 ct28 : Value} {f29 : Addr} {od29 an29 : Option Addr} {sl29 : Array (Option Value)} {oc29 kV29 dc29 pm29 cd29 ct29 : Value} {f30 : Addr} {od30 an30 : Option Addr} {sl30 : Array (Option Value)} {oc30 kV30 dc30 pm30 cd30 ct30 : Value} {f31 : Addr} {od31 an31 : Option Addr} {sl31 : Array (Option Value)} {oc31 kV31 dc31 pm31 cd31 ct31 : Value} {f32 : Addr} {od32 an32 : Option Addr} {sl32 : Array (Option Value)} {oc32 kV32 dc32 pm32 cd32 ct32 : Value} {k_NOUGHT : Addr} {k_WHOLE : Addr} {u0 : Value} {u1 : Value} {c_SpeakError : Addr} {c_NoPlan : Addr} {i_NoPlan : Addr} {od_b an_b : Option Addr} {sl_b : Array (Option Value)} {oc_b kV_b dc_b pm_b cd_b ct_b : Value} {c_NoThrow : Addr} {i_NoThrow : Addr} {od_c an_c : Option Addr} {sl_c : Array (Option Value)} {oc_c kV_c dc_c pm_c cd_c ct_c : Value} {c_Node : Addr} {c_Told : Addr} {i_Told : Addr} {od_12 an_12 : Option Addr} {sl_12 : Array (Option Value)} {oc_12 kV_12 dc_12 pm_12 cd_12 ct_12 : Value} {c_Die : Addr} {i_Die : Addr} {od_0 an_0 : Option Addr} {sl_0 : Array (Option Value)} {oc_0 kV_0 dc_0 pm_0 cd_0 ct_0 : Value} {c_Plan : Addr} {c_Start : Addr} {i_Start : Addr} {od_d an_d : Option Addr} {sl_d : Array (Option Value)} {oc_d kV_d dc_d pm_d cd_d ct_d : Value} {c_Loose : Addr} {i_Loose : Addr} {od_6 an_6 : Option Addr} {sl_6 : Array (Option Value)} {oc_6 kV_6 dc_6 pm_6 cd_6 ct_6 : Value} {x_Told_is_told : Addr} {od_13 an_13 : Option Addr} {sl_13 : Array (Option Value)} {oc_13 kV_13 dc_13 pm_13 cd_13 ct_13 : Value} {x_Die_is_told : Addr} {od_2 an_2 : Option Addr} {sl_2 : Array (Option Value)} {oc_2 kV_2 dc_2 pm_2 cd_2 ct_2 : Value} {x_Told_kept : Addr} {od_14 an_14 : Option Addr} {sl_14 : Array (Option Value)} {oc_14 kV_14 dc_14 pm_14 cd_14 ct_14 : Value} {x_Die_kept : Addr} {od_3 an_3 : Option Addr} {sl_3 : Array (Option Value)} {oc_3 kV_3 dc_3 pm_3 cd_3 ct_3 : Value} {x_Told_sides : Addr} {od_16 an_16 : Option Addr} {sl_16 : Array (Option Value)} {oc_16 kV_16 dc_16 pm_16 cd_16 ct_16 : Value} {x_Die_sides : Addr} {od_5 an_5 : Option Addr} {sl_5 : Array (Option Value)} {oc_5 kV_5 dc_5 pm_5 cd_5 ct_5 : Value} {x_Told_parts : Addr} {od_15 an_15 : Option Addr} {sl_15 : Array (Option Value)} {oc_15 kV_15 dc_15 pm_15 cd_15 ct_15 : Value} {x_Die_parts : Addr} {od_4 an_4 : Option Addr} {sl_4 : Array (Option Value)} {oc_4 kV_4 dc_4 pm_4 cd_4 ct_4 : Value} {x_Die_after : Addr} {od_1 an_1 : Option Addr} {sl_1 : Array (Option Value)} {oc_1 kV_1 dc_1 pm_1 cd_1 ct_1 : Value} {x_Start_node : Addr} {od_10 an_10 : Option Addr} {sl_10 : Array (Option Value)} {oc_10 kV_10 dc_10 pm_10 cd_10 ct_10 : Value} {x_Start_matrix : Addr} {od_f an_f : Option Addr} {sl_f : Array (Option Value)} {oc_f kV_f dc_f pm_f cd_f ct_f : Value} {x_Start_bounds : Addr} {od_e an_e : Option Addr} {sl_e : Array (Option Value)} {oc_e kV_e dc_e pm_e cd_e ct_e : Value} {x_Start_text : Addr} {od_11 an_11 : Option Addr} {sl_11 : Array (Option Value)} {oc_11 kV_11 dc_11 pm_11 cd_11 ct_11 : Value} {x_Loose_node : Addr} {od_9 an_9 : Option Addr} {sl_9 : Array (Option Value)} {oc_9 kV_9 dc_9 pm_9 cd_9 ct_9 : Value} {x_Loose_matrix : Addr} {od_8 an_8 : Option Addr} {sl_8 : Array (Option Value)} {oc_8 kV_8 dc_8 pm_8 cd_8 ct_8 : Value} {x_Loose_bounds : Addr} {od_7 an_7 : Option Addr} {sl_7 : Array (Option Value)} {oc_7 kV_7 dc_7 pm_7 cd_7 ct_7 : Value} {x_Loose_text : Addr} {od_a an_a : Option Addr} {sl_a : Array (Option Value)} {oc_a kV_a dc_a pm_a cd_a ct_a : Value} {lc_Loose_matrix lp_Loose_matrix : Addr} {lo_8 : Value} {lod_8 : Option Addr} {lvs_8 : Array Value} {lsl_8 : Array (Option Value)} {lc_loose_node lp_loose_node : Addr} {lo_17 : Value} {lod_17 : Option Addr} {lvs_17 : Array Value} {lsl_17 : Array (Option Value)} {lc_Start_matrix lp_Start_matrix : Addr} {lo_f : Value} {lod_f : Option Addr} {lvs_f : Array Value} {lsl_f : Array (Option Value)} {lc_start_make lp_start_make : Addr} {lo_18 : Value} {lod_18 : Option Addr} {lvs_18 : Array Value} {lsl_18 : Array (Option Value)} (X : K.In h) (G : h.Ns mainGlobals mg)
    (a0 : PySem.W.nsIn K mainGlobals "greatest_divisor" = some (some (.ref f0))) (l0 : K.lookup f0 = some ⟨oc0, od0, .func (PySem.W.fnOf "greatest_divisor" "greatest_divisor" (defArgs s_greatest_divisor) (defBody s_greatest_divisor) (defScope s_greatest_divisor) .none kV0 dc0 pm0 an0 cd0 ct0), sl0⟩) (c0 : PySem.W.codeIn K cd0 "greatest_divisor" = true) (k0 : PySem.W.keepIn K (.ref f0) = true)
    (a1 : PySem.W.nsIn K mainGlobals "share" = some (some (.ref f1))) (l1 : K.lookup f1 = some ⟨oc1, od1, .func (PySem.W.fnOf "share" "share" (defArgs s_share) (defBody s_share) (defScope s_share) .none kV1 dc1 pm1 an1 cd1 ct1), sl1⟩) (c1 : PySem.W.codeIn K cd1 "share" = true) (k1 : PySem.W.keepIn K (.ref f1) = true)
    (a2 : PySem.W.nsIn K mainGlobals "times" = some (some (.ref f2))) (l2 : K.lookup f2 = some ⟨oc2, od2, .func (PySem.W.fnOf "times" "times" (defArgs s_times) (defBody s_times) (defScope s_times) .none kV2 dc2 pm2 an2 cd2 ct2), sl2⟩) (c2 : PySem.W.codeIn K cd2 "times" = true) (k2 : PySem.W.keepIn K (.ref f2) = true)
    (a3 : PySem.W.nsIn K mainGlobals "is_whole" = some (some (.ref f3))) (l3 : K.lookup f3 = some ⟨oc3, od3, .func (PySem.W.fnOf "is_whole" "is_whole" (defArgs s_is_whole) (defBody s_is_whole) (defScope s_is_whole) .none kV3 dc3 pm3 an3 cd3 ct3), sl3⟩) (c3 : PySem.W.codeIn K cd3 "is_whole" = true) (k3 : PySem.W.keepIn K (.ref f3) = true)
    (a4 : PySem.W.nsIn K mainGlobals "can_be_thrown" = some (some (.ref f4))) (l4 : K.lookup f4 = some ⟨oc4, od4, .func (PySem.W.fnOf "can_be_thrown" "can_be_thrown" (defArgs s_can_be_thrown) (defBody s_can_be_thrown) (defScope s_can_be_thrown) .none kV4 dc4 pm4 an4 cd4 ct4), sl4⟩) (c4 : PySem.W.codeIn K cd4 "can_be_thrown" = true) (k4 : PySem.W.keepIn K (.ref f4) = true)
    (a5 : PySem.W.nsIn K mainGlobals "drawn" = some (some (.ref f5))) (l5 : K.lookup f5 = some ⟨oc5, od5, .func (PySem.W.fnOf "drawn" "drawn" (defArgs s_drawn) (defBody s_drawn) (defScope s_drawn) .none kV5 dc5 pm5 an5 cd5 ct5), sl5⟩) (c5 : PySem.W.codeIn K cd5 "drawn" = true) (k5 : PySem.W.keepIn K (.ref f5) = true)
    (a6 : PySem.W.nsIn K mainGlobals "wished" = some (some (.ref f6))) (l6 : K.lookup f6 = some ⟨oc6, od6, .func (PySem.W.fnOf "wished" "wished" (defArgs s_wished) (defBody s_wished) (defScope s_wished) .none kV6 dc6 pm6 an6 cd6 ct6), sl6⟩) (c6 : PySem.W.codeIn K cd6 "wished" = true) (k6 : PySem.W.keepIn K (.ref f6) = true)
    (a7 : PySem.W.nsIn K mainGlobals "wished_of_some" = some (some (.ref f7))) (l7 : K.lookup f7 = some ⟨oc7, od7, .func (PySem.W.fnOf "wished_of_some" "wished_of_some" (defArgs s_wished_of_some) (defBody s_wished_of_some) (defScope s_wished_of_some) .none kV7 dc7 pm7 an7 cd7 ct7), sl7⟩) (c7 : PySem.W.codeIn K cd7 "wished_of_some" = true) (k7 : PySem.W.keepIn K (.ref f7) = true)
    (a8 : PySem.W.nsIn K mainGlobals "wished_by" = some (some (.ref f8))) (l8 : K.lookup f8 = some ⟨oc8, od8, .func (PySem.W.fnOf "wished_by" "wished_by" (defArgs s_wished_by) (defBody s_wished_by) (defScope s_wished_by) .none kV8 dc8 pm8 an8 cd8 ct8), sl8⟩) (c8 : PySem.W.codeIn K cd8 "wished_by" = true) (k8 : PySem.W.keepIn K (.ref f8) = true)
    (a9 : PySem.W.nsIn K mainGlobals "places_of" = some (some (.ref f9))) (l9 : K.lookup f9 = some ⟨oc9, od9, .func (PySem.W.fnOf "places_of" "places_of" (defArgs s_places_of) (defBody s_places_of) (defScope s_places_of) .none kV9 dc9 pm9 an9 cd9 ct9), sl9⟩) (c9 : PySem.W.codeIn K cd9 "places_of" = true) (k9 : PySem.W.keepIn K (.ref f9) = true)
    (a10 : PySem.W.nsIn K mainGlobals "matrix_by" = some (some (.ref f10))) (l10 : K.lookup f10 = some ⟨oc10, od10, .func (PySem.W.fnOf "matrix_by" "matrix_by" (defArgs s_matrix_by) (defBody s_matrix_by) (defScope s_matrix_by) .none kV10 dc10 pm10 an10 cd10 ct10), sl10⟩) (c10 : PySem.W.codeIn K cd10 "matrix_by" = true) (k10 : PySem.W.keepIn K (.ref f10) = true)
    (a11 : PySem.W.nsIn K mainGlobals "matrix_row" = some (some (.ref f11))) (l11 : K.lookup f11 = some ⟨oc11, od11, .func (PySem.W.fnOf "matrix_row" "matrix_row" (defArgs s_matrix_row) (defBody s_matrix_row) (defScope s_matrix_row) .none kV11 dc11 pm11 an11 cd11 ct11), sl11⟩) (c11 : PySem.W.codeIn K cd11 "matrix_row" = true) (k11 : PySem.W.keepIn K (.ref f11) = true)
    (a12 : PySem.W.nsIn K mainGlobals "need_number" = some (some (.ref f12))) (l12 : K.lookup f12 = some ⟨oc12, od12, .func (PySem.W.fnOf "need_number" "need_number" (defArgs s_need_number) (defBody s_need_number) (defScope s_need_number) .none kV12 dc12 pm12 an12 cd12 ct12), sl12⟩) (c12 : PySem.W.codeIn K cd12 "need_number" = true) (k12 : PySem.W.keepIn K (.ref f12) = true)
    (a13 : PySem.W.nsIn K mainGlobals "start_make" = some (some (.ref f13))) (l13 : K.lookup f13 = some ⟨oc13, od13, .func (PySem.W.fnOf "start_make" "start_make" (defArgs s_start_make) (defBody s_start_make) (defScope s_start_make) .none kV13 dc13 pm13 an13 cd13 ct13), sl13⟩) (c13 : PySem.W.codeIn K cd13 "start_make" = true) (k13 : PySem.W.keepIn K (.ref f13) = true)
    (a14 : PySem.W.nsIn K mainGlobals "is_unsure" = some (some (.ref f14))) (l14 : K.lookup f14 = some ⟨oc14, od14, .func (PySem.W.fnOf "is_unsure" "is_unsure" (defArgs s_is_unsure) (defBody s_is_unsure) (defScope s_is_unsure) .none kV14 dc14 pm14 an14 cd14 ct14), sl14⟩) (c14 : PySem.W.codeIn K cd14 "is_unsure" = true) (k14 : PySem.W.keepIn K (.ref f14) = true)
    (a15 : PySem.W.nsIn K mainGlobals "loose_node" = some (some (.ref f15))) (l15 : K.lookup f15 = some ⟨oc15, od15, .func (PySem.W.fnOf "loose_node" "loose_node" (defArgs s_loose_node) (defBody s_loose_node) (defScope s_loose_node) .none kV15 dc15 pm15 an15 cd15 ct15), sl15⟩) (c15 : PySem.W.codeIn K cd15 "loose_node" = true) (k15 : PySem.W.keepIn K (.ref f15) = true)
    (a16 : PySem.W.nsIn K mainGlobals "_law_cell" = some (some (.ref f16))) (l16 : K.lookup f16 = some ⟨oc16, od16, .func (PySem.W.fnOf "_law_cell" "_law_cell" (defArgs s_L_cell) (defBody s_L_cell) (defScope s_L_cell) .none kV16 dc16 pm16 an16 cd16 ct16), sl16⟩) (c16 : PySem.W.codeIn K cd16 "_law_cell" = true) (k16 : PySem.W.keepIn K (.ref f16) = true)
    (a17 : PySem.W.nsIn K mainGlobals "_law_mix" = some (some (.ref f17))) (l17 : K.lookup f17 = some ⟨oc17, od17, .func (PySem.W.fnOf "_law_mix" "_law_mix" (defArgs s_L_mix) (defBody s_L_mix) (defScope s_L_mix) .none kV17 dc17 pm17 an17 cd17 ct17), sl17⟩) (c17 : PySem.W.codeIn K cd17 "_law_mix" = true) (k17 : PySem.W.keepIn K (.ref f17) = true)
    (a18 : PySem.W.nsIn K mainGlobals "_law_row" = some (some (.ref f18))) (l18 : K.lookup f18 = some ⟨oc18, od18, .func (PySem.W.fnOf "_law_row" "_law_row" (defArgs s_L_row) (defBody s_L_row) (defScope s_L_row) .none kV18 dc18 pm18 an18 cd18 ct18), sl18⟩) (c18 : PySem.W.codeIn K cd18 "_law_row" = true) (k18 : PySem.W.keepIn K (.ref f18) = true)
    (a19 : PySem.W.nsIn K mainGlobals "_law_whole" = some (some (.ref f19))) (l19 : K.lookup f19 = some ⟨oc19, od19, .func (PySem.W.fnOf "_law_whole" "_law_whole" (defArgs s_L_whole) (defBody s_L_whole) (defScope s_L_whole) .none kV19 dc19 pm19 an19 cd19 ct19), sl19⟩) (c19 : PySem.W.codeIn K cd19 "_law_whole" = true) (k19 : PySem.W.keepIn K (.ref f19) = true)
    (a20 : PySem.W.nsIn K mainGlobals "_law_low" = some (some (.ref f20))) (l20 : K.lookup f20 = some ⟨oc20, od20, .func (PySem.W.fnOf "_law_low" "_law_low" (defArgs s_L_low) (defBody s_L_low) (defScope s_L_low) .none kV20 dc20 pm20 an20 cd20 ct20), sl20⟩) (c20 : PySem.W.codeIn K cd20 "_law_low" = true) (k20 : PySem.W.keepIn K (.ref f20) = true)
    (a21 : PySem.W.nsIn K mainGlobals "_law_times" = some (some (.ref f21))) (l21 : K.lookup f21 = some ⟨oc21, od21, .func (PySem.W.fnOf "_law_times" "_law_times" (defArgs s_L_times) (defBody s_L_times) (defScope s_L_times) .none kV21 dc21 pm21 an21 cd21 ct21), sl21⟩) (c21 : PySem.W.codeIn K cd21 "_law_times" = true) (k21 : PySem.W.keepIn K (.ref f21) = true)
    (a22 : PySem.W.nsIn K mainGlobals "_law_fraction" = some (some (.ref f22))) (l22 : K.lookup f22 = some ⟨oc22, od22, .func (PySem.W.fnOf "_law_fraction" "_law_fraction" (defArgs s_L_fraction) (defBody s_L_fraction) (defScope s_L_fraction) .none kV22 dc22 pm22 an22 cd22 ct22), sl22⟩) (c22 : PySem.W.codeIn K cd22 "_law_fraction" = true) (k22 : PySem.W.keepIn K (.ref f22) = true)
    (a23 : PySem.W.nsIn K mainGlobals "_law_matrix" = some (some (.ref f23))) (l23 : K.lookup f23 = some ⟨oc23, od23, .func (PySem.W.fnOf "_law_matrix" "_law_matrix" (defArgs s_L_matrix) (defBody s_L_matrix) (defScope s_L_matrix) .none kV23 dc23 pm23 an23 cd23 ct23), sl23⟩) (c23 : PySem.W.codeIn K cd23 "_law_matrix" = true) (k23 : PySem.W.keepIn K (.ref f23) = true)
    (a24 : PySem.W.nsIn K mainGlobals "_law_crowd" = some (some (.ref f24))) (l24 : K.lookup f24 = some ⟨oc24, od24, .func (PySem.W.fnOf "_law_crowd" "_law_crowd" (defArgs s_L_crowd) (defBody s_L_crowd) (defScope s_L_crowd) .none kV24 dc24 pm24 an24 cd24 ct24), sl24⟩) (c24 : PySem.W.codeIn K cd24 "_law_crowd" = true) (k24 : PySem.W.keepIn K (.ref f24) = true)
    (a25 : PySem.W.nsIn K mainGlobals "_law_wished" = some (some (.ref f25))) (l25 : K.lookup f25 = some ⟨oc25, od25, .func (PySem.W.fnOf "_law_wished" "_law_wished" (defArgs s_L_wished) (defBody s_L_wished) (defScope s_L_wished) .none kV25 dc25 pm25 an25 cd25 ct25), sl25⟩) (c25 : PySem.W.codeIn K cd25 "_law_wished" = true) (k25 : PySem.W.keepIn K (.ref f25) = true)
    (a26 : PySem.W.nsIn K mainGlobals "_law_thrown" = some (some (.ref f26))) (l26 : K.lookup f26 = some ⟨oc26, od26, .func (PySem.W.fnOf "_law_thrown" "_law_thrown" (defArgs s_L_thrown) (defBody s_L_thrown) (defScope s_L_thrown) .none kV26 dc26 pm26 an26 cd26 ct26), sl26⟩) (c26 : PySem.W.codeIn K cd26 "_law_thrown" = true) (k26 : PySem.W.keepIn K (.ref f26) = true)
    (a27 : PySem.W.nsIn K mainGlobals "_law_loose" = some (some (.ref f27))) (l27 : K.lookup f27 = some ⟨oc27, od27, .func (PySem.W.fnOf "_law_loose" "_law_loose" (defArgs s_L_loose) (defBody s_L_loose) (defScope s_L_loose) .none kV27 dc27 pm27 an27 cd27 ct27), sl27⟩) (c27 : PySem.W.codeIn K cd27 "_law_loose" = true) (k27 : PySem.W.keepIn K (.ref f27) = true)
    (a28 : PySem.W.nsIn K mainGlobals "_law_start" = some (some (.ref f28))) (l28 : K.lookup f28 = some ⟨oc28, od28, .func (PySem.W.fnOf "_law_start" "_law_start" (defArgs s_L_start) (defBody s_L_start) (defScope s_L_start) .none kV28 dc28 pm28 an28 cd28 ct28), sl28⟩) (c28 : PySem.W.codeIn K cd28 "_law_start" = true) (k28 : PySem.W.keepIn K (.ref f28) = true)
    (a29 : PySem.W.nsIn K mainGlobals "_law_both" = some (some (.ref f29))) (l29 : K.lookup f29 = some ⟨oc29, od29, .func (PySem.W.fnOf "_law_both" "_law_both" (defArgs s_L_both) (defBody s_L_both) (defScope s_L_both) .none kV29 dc29 pm29 an29 cd29 ct29), sl29⟩) (c29 : PySem.W.codeIn K cd29 "_law_both" = true) (k29 : PySem.W.keepIn K (.ref f29) = true)
    (a30 : PySem.W.nsIn K mainGlobals "_law_steps" = some (some (.ref f30))) (l30 : K.lookup f30 = some ⟨oc30, od30, .func (PySem.W.fnOf "_law_steps" "_law_steps" (defArgs s_L_steps) (defBody s_L_steps) (defScope s_L_steps) .none kV30 dc30 pm30 an30 cd30 ct30), sl30⟩) (c30 : PySem.W.codeIn K cd30 "_law_steps" = true) (k30 : PySem.W.keepIn K (.ref f30) = true)
    (a31 : PySem.W.nsIn K mainGlobals "_law_right" = some (some (.ref f31))) (l31 : K.lookup f31 = some ⟨oc31, od31, .func (PySem.W.fnOf "_law_right" "_law_right" (defArgs s_L_right) (defBody s_L_right) (defScope s_L_right) .none kV31 dc31 pm31 an31 cd31 ct31), sl31⟩) (c31 : PySem.W.codeIn K cd31 "_law_right" = true) (k31 : PySem.W.keepIn K (.ref f31) = true)
    (a32 : PySem.W.nsIn K mainGlobals "law" = some (some (.ref f32))) (l32 : K.lookup f32 = some ⟨oc32, od32, .func (PySem.W.fnOf "law" "law" (defArgs s_law) (defBody s_law) (defScope s_law) .none kV32 dc32 pm32 an32 cd32 ct32), sl32⟩) (c32 : PySem.W.codeIn K cd32 "law" = true) (k32 : PySem.W.keepIn K (.ref f32) = true)
    (b_NOUGHT : PySem.W.nsIn K mainGlobals "NOUGHT" = some (some (.ref k_NOUGHT))) (bt_NOUGHT : tupIn K k_NOUGHT [(.int 0), (.int 1)] = true)
    (b_WHOLE : PySem.W.nsIn K mainGlobals "WHOLE" = some (some (.ref k_WHOLE))) (bt_WHOLE : tupIn K k_WHOLE [(.int 1), (.int 1)] = true)
    (b0 : PySem.W.nsIn K mainGlobals "MOST_MANY" = some (some u0))
    (b1 : PySem.W.nsIn K mainGlobals "MOST_STEP" = some (some u1))
    (ca_SpeakError : PySem.W.nsIn K mainGlobals "SpeakError" = some (some (.ref c_SpeakError))) (cb_SpeakError : PySem.W.keepIn K (.ref c_SpeakError) = true) (cc_SpeakError : xcIn K c_SpeakError = true)
    (cx_SpeakError : xIn K c_SpeakError none = true)
    (ca_NoPlan : PySem.W.nsIn K mainGlobals "NoPlan" = some (some (.ref c_NoPlan))) (cb_NoPlan : PySem.W.keepIn K (.ref c_NoPlan) = true) (cc_NoPlan : xcIn K c_NoPlan = true)
    (cf_NoPlan : PySem.W.findIn K (.ref c_NoPlan) "__init__" = some (some (.ref i_NoPlan))) (cx_NoPlan : xIn K c_NoPlan (some (.ref i_NoPlan)) = true) (cg_NoPlan : PySem.W.isFn K (.ref i_NoPlan) = true)
    (cl_NoPlan : K.lookup i_NoPlan = some ⟨oc_b, od_b, .func (PySem.W.fnOf "__init__" "NoPlan.__init__" (defArgs s_NoPlan___init__) (defBody s_NoPlan___init__) (defScope s_NoPlan___init__) .none kV_b dc_b pm_b an_b cd_b ct_b), sl_b⟩) (co_NoPlan : PySem.W.codeIn K cd_b "NoPlan.__init__" = true) (ck_NoPlan : PySem.W.keepIn K (.ref i_NoPlan) = true)
    (cs_NoPlan_place : xsIn K c_NoPlan "place" = true)
    (ca_NoThrow : PySem.W.nsIn K mainGlobals "NoThrow" = some (some (.ref c_NoThrow))) (cb_NoThrow : PySem.W.keepIn K (.ref c_NoThrow) = true) (cc_NoThrow : xcIn K c_NoThrow = true)
    (cf_NoThrow : PySem.W.findIn K (.ref c_NoThrow) "__init__" = some (some (.ref i_NoThrow))) (cx_NoThrow : xIn K c_NoThrow (some (.ref i_NoThrow)) = true) (cg_NoThrow : PySem.W.isFn K (.ref i_NoThrow) = true)
    (cl_NoThrow : K.lookup i_NoThrow = some ⟨oc_c, od_c, .func (PySem.W.fnOf "__init__" "NoThrow.__init__" (defArgs s_NoThrow___init__) (defBody s_NoThrow___init__) (defScope s_NoThrow___init__) .none kV_c dc_c pm_c an_c cd_c ct_c), sl_c⟩) (co_NoThrow : PySem.W.codeIn K cd_c "NoThrow.__init__" = true) (ck_NoThrow : PySem.W.keepIn K (.ref i_NoThrow) = true)
    (cs_NoThrow_place : xsIn K c_NoThrow "place" = true)
    (ca_Node : PySem.W.nsIn K mainGlobals "Node" = some (some (.ref c_Node))) (pa_Node : PySem.W.plainGet K c_Node Str.empty = true) (pb_Node : PySem.W.hasDictIn K c_Node = true) (pc_Node : PySem.W.plainOver K c_Node = true)
    (pd_Node : PySem.W.findIn K (.ref c_Node) "__setattr__" = some (some (.builtin "object.__setattr__"))) (pe_Node : PySem.W.findIn K (.ref c_Node) "__class__" = some (some (.builtin "object.__class__"))) (pf_Node : PySem.W.specialIn K (.builtin "object.__class__") "__get__" = some (some (.builtin "getset_descriptor.__get__"))) (pg_Node : PySem.W.takesIn K (.builtin "object.__class__") = some true) (ph_Node : PySem.W.mroIn K c_Node (.type "object") = some true)
    (ca_Told : PySem.W.nsIn K mainGlobals "Told" = some (some (.ref c_Told))) (pa_Told : PySem.W.plainGet K c_Told Str.empty = true) (pb_Told : PySem.W.hasDictIn K c_Told = true) (pc_Told : PySem.W.plainOver K c_Told = true)
    (pd_Told : PySem.W.findIn K (.ref c_Told) "__setattr__" = some (some (.builtin "object.__setattr__"))) (pe_Told : PySem.W.findIn K (.ref c_Told) "__class__" = some (some (.builtin "object.__class__"))) (pf_Told : PySem.W.specialIn K (.builtin "object.__class__") "__get__" = some (some (.builtin "getset_descriptor.__get__"))) (pg_Told : PySem.W.takesIn K (.builtin "object.__class__") = some true) (ph_Told : PySem.W.mroIn K c_Told (.type "object") = some true)
    (qa_Told : PySem.W.makesIn K c_Told = true) (qb_Told : PySem.W.findIn K (.ref c_Told) "__init__" = some (some (.ref i_Told))) (qc_Told : PySem.W.isFn K (.ref i_Told) = true) (qd_Told : PySem.W.keepIn K (.ref c_Told) = true)
    (qn_Told_rising : PySem.W.findIn K (.ref c_Told) "rising" = some none)
    (cl_Told : K.lookup i_Told = some ⟨oc_12, od_12, .func (PySem.W.fnOf "__init__" "Told.__init__" (defArgs s_Told___init__) (defBody s_Told___init__) (defScope s_Told___init__) .none kV_12 dc_12 pm_12 an_12 cd_12 ct_12), sl_12⟩) (co_Told : PySem.W.codeIn K cd_12 "Told.__init__" = true) (ck_Told : PySem.W.keepIn K (.ref i_Told) = true)
    (ca_Die : PySem.W.nsIn K mainGlobals "Die" = some (some (.ref c_Die))) (pa_Die : PySem.W.plainGet K c_Die Str.empty = true) (pb_Die : PySem.W.hasDictIn K c_Die = true) (pc_Die : PySem.W.plainOver K c_Die = true)
    (pd_Die : PySem.W.findIn K (.ref c_Die) "__setattr__" = some (some (.builtin "object.__setattr__"))) (pe_Die : PySem.W.findIn K (.ref c_Die) "__class__" = some (some (.builtin "object.__class__"))) (pf_Die : PySem.W.specialIn K (.builtin "object.__class__") "__get__" = some (some (.builtin "getset_descriptor.__get__"))) (pg_Die : PySem.W.takesIn K (.builtin "object.__class__") = some true) (ph_Die : PySem.W.mroIn K c_Die (.type "object") = some true)
    (qa_Die : PySem.W.makesIn K c_Die = true) (qb_Die : PySem.W.findIn K (.ref c_Die) "__init__" = some (some (.ref i_Die))) (qc_Die : PySem.W.isFn K (.ref i_Die) = true) (qd_Die : PySem.W.keepIn K (.ref c_Die) = true)
    (qn_Die_makes : PySem.W.findIn K (.ref c_Die) "makes" = some none)
    (cl_Die : K.lookup i_Die = some ⟨oc_0, od_0, .func (PySem.W.fnOf "__init__" "Die.__init__" (defArgs s_Die___init__) (defBody s_Die___init__) (defScope s_Die___init__) .none kV_0 dc_0 pm_0 an_0 cd_0 ct_0), sl_0⟩) (co_Die : PySem.W.codeIn K cd_0 "Die.__init__" = true) (ck_Die : PySem.W.keepIn K (.ref i_Die) = true)
    (ca_Plan : PySem.W.nsIn K mainGlobals "Plan" = some (some (.ref c_Plan))) (pa_Plan : PySem.W.plainGet K c_Plan Str.empty = true) (pb_Plan : PySem.W.hasDictIn K c_Plan = true) (pc_Plan : PySem.W.plainOver K c_Plan = true)
    (pd_Plan : PySem.W.findIn K (.ref c_Plan) "__setattr__" = some (some (.builtin "object.__setattr__"))) (pe_Plan : PySem.W.findIn K (.ref c_Plan) "__class__" = some (some (.builtin "object.__class__"))) (pf_Plan : PySem.W.specialIn K (.builtin "object.__class__") "__get__" = some (some (.builtin "getset_descriptor.__get__"))) (pg_Plan : PySem.W.takesIn K (.builtin "object.__class__") = some true) (ph_Plan : PySem.W.mroIn K c_Plan (.type "object") = some true)
    (ca_Start : PySem.W.nsIn K mainGlobals "Start" = some (some (.ref c_Start))) (pa_Start : PySem.W.plainGet K c_Start Str.empty = true) (pb_Start : PySem.W.hasDictIn K c_Start = true) (pc_Start : PySem.W.plainOver K c_Start = true)
    (pd_Start : PySem.W.findIn K (.ref c_Start) "__setattr__" = some (some (.builtin "object.__setattr__"))) (pe_Start : PySem.W.findIn K (.ref c_Start) "__class__" = some (some (.builtin "object.__class__"))) (pf_Start : PySem.W.specialIn K (.builtin "object.__class__") "__get__" = some (some (.builtin "getset_descriptor.__get__"))) (pg_Start : PySem.W.takesIn K (.builtin "object.__class__") = some true) (ph_Start : PySem.W.mroIn K c_Start (.type "object") = some true)
    (qa_Start : PySem.W.makesIn K c_Start = true) (qb_Start : PySem.W.findIn K (.ref c_Start) "__init__" = some (some (.ref i_Start))) (qc_Start : PySem.W.isFn K (.ref i_Start) = true) (qd_Start : PySem.W.keepIn K (.ref c_Start) = true)
    (qn_Start_step : PySem.W.findIn K (.ref c_Start) "step" = some none)
    (cl_Start : K.lookup i_Start = some ⟨oc_d, od_d, .func (PySem.W.fnOf "__init__" "Start.__init__" (defArgs s_Start___init__) (defBody s_Start___init__) (defScope s_Start___init__) .none kV_d dc_d pm_d an_d cd_d ct_d), sl_d⟩) (co_Start : PySem.W.codeIn K cd_d "Start.__init__" = true) (ck_Start : PySem.W.keepIn K (.ref i_Start) = true)
    (ca_Loose : PySem.W.nsIn K mainGlobals "Loose" = some (some (.ref c_Loose))) (pa_Loose : PySem.W.plainGet K c_Loose Str.empty = true) (pb_Loose : PySem.W.hasDictIn K c_Loose = true) (pc_Loose : PySem.W.plainOver K c_Loose = true)
    (pd_Loose : PySem.W.findIn K (.ref c_Loose) "__setattr__" = some (some (.builtin "object.__setattr__"))) (pe_Loose : PySem.W.findIn K (.ref c_Loose) "__class__" = some (some (.builtin "object.__class__"))) (pf_Loose : PySem.W.specialIn K (.builtin "object.__class__") "__get__" = some (some (.builtin "getset_descriptor.__get__"))) (pg_Loose : PySem.W.takesIn K (.builtin "object.__class__") = some true) (ph_Loose : PySem.W.mroIn K c_Loose (.type "object") = some true)
    (qa_Loose : PySem.W.makesIn K c_Loose = true) (qb_Loose : PySem.W.findIn K (.ref c_Loose) "__init__" = some (some (.ref i_Loose))) (qc_Loose : PySem.W.isFn K (.ref i_Loose) = true) (qd_Loose : PySem.W.keepIn K (.ref c_Loose) = true)
    (qn_Loose_many : PySem.W.findIn K (.ref c_Loose) "many" = some none)
    (cl_Loose : K.lookup i_Loose = some ⟨oc_6, od_6, .func (PySem.W.fnOf "__init__" "Loose.__init__" (defArgs s_Loose___init__) (defBody s_Loose___init__) (defScope s_Loose___init__) .none kV_6 dc_6 pm_6 an_6 cd_6 ct_6), sl_6⟩) (co_Loose : PySem.W.codeIn K cd_6 "Loose.__init__" = true) (ck_Loose : PySem.W.keepIn K (.ref i_Loose) = true)
    (mf_13 : PySem.W.findIn K (.ref c_Told) "is_told" = some (some (.ref x_Told_is_told)))
    (ml_13 : K.lookup x_Told_is_told = some ⟨oc_13, od_13, .func (PySem.W.fnOf "is_told" "Told.is_told" (defArgs s_Told_is_told) (defBody s_Told_is_told) (defScope s_Told_is_told) .none kV_13 dc_13 pm_13 an_13 cd_13 ct_13), sl_13⟩) (mo_13 : PySem.W.codeIn K cd_13 "Told.is_told" = true) (mk_13 : PySem.W.keepIn K (.ref x_Told_is_told) = true) (mi_13 : PySem.W.isFn K (.ref x_Told_is_told) = true)
    (mf_2 : PySem.W.findIn K (.ref c_Die) "is_told" = some (some (.ref x_Die_is_told)))
    (ml_2 : K.lookup x_Die_is_told = some ⟨oc_2, od_2, .func (PySem.W.fnOf "is_told" "Die.is_told" (defArgs s_Die_is_told) (defBody s_Die_is_told) (defScope s_Die_is_told) .none kV_2 dc_2 pm_2 an_2 cd_2 ct_2), sl_2⟩) (mo_2 : PySem.W.codeIn K cd_2 "Die.is_told" = true) (mk_2 : PySem.W.keepIn K (.ref x_Die_is_told) = true) (mi_2 : PySem.W.isFn K (.ref x_Die_is_told) = true)
    (mf_14 : PySem.W.findIn K (.ref c_Told) "kept" = some (some (.ref x_Told_kept)))
    (ml_14 : K.lookup x_Told_kept = some ⟨oc_14, od_14, .func (PySem.W.fnOf "kept" "Told.kept" (defArgs s_Told_kept) (defBody s_Told_kept) (defScope s_Told_kept) .none kV_14 dc_14 pm_14 an_14 cd_14 ct_14), sl_14⟩) (mo_14 : PySem.W.codeIn K cd_14 "Told.kept" = true) (mk_14 : PySem.W.keepIn K (.ref x_Told_kept) = true) (mi_14 : PySem.W.isFn K (.ref x_Told_kept) = true)
    (mf_3 : PySem.W.findIn K (.ref c_Die) "kept" = some (some (.ref x_Die_kept)))
    (ml_3 : K.lookup x_Die_kept = some ⟨oc_3, od_3, .func (PySem.W.fnOf "kept" "Die.kept" (defArgs s_Die_kept) (defBody s_Die_kept) (defScope s_Die_kept) .none kV_3 dc_3 pm_3 an_3 cd_3 ct_3), sl_3⟩) (mo_3 : PySem.W.codeIn K cd_3 "Die.kept" = true) (mk_3 : PySem.W.keepIn K (.ref x_Die_kept) = true) (mi_3 : PySem.W.isFn K (.ref x_Die_kept) = true)
    (mf_16 : PySem.W.findIn K (.ref c_Told) "sides" = some (some (.ref x_Told_sides)))
    (ml_16 : K.lookup x_Told_sides = some ⟨oc_16, od_16, .func (PySem.W.fnOf "sides" "Told.sides" (defArgs s_Told_sides) (defBody s_Told_sides) (defScope s_Told_sides) .none kV_16 dc_16 pm_16 an_16 cd_16 ct_16), sl_16⟩) (mo_16 : PySem.W.codeIn K cd_16 "Told.sides" = true) (mk_16 : PySem.W.keepIn K (.ref x_Told_sides) = true) (mi_16 : PySem.W.isFn K (.ref x_Told_sides) = true)
    (mf_5 : PySem.W.findIn K (.ref c_Die) "sides" = some (some (.ref x_Die_sides)))
    (ml_5 : K.lookup x_Die_sides = some ⟨oc_5, od_5, .func (PySem.W.fnOf "sides" "Die.sides" (defArgs s_Die_sides) (defBody s_Die_sides) (defScope s_Die_sides) .none kV_5 dc_5 pm_5 an_5 cd_5 ct_5), sl_5⟩) (mo_5 : PySem.W.codeIn K cd_5 "Die.sides" = true) (mk_5 : PySem.W.keepIn K (.ref x_Die_sides) = true) (mi_5 : PySem.W.isFn K (.ref x_Die_sides) = true)
    (mf_15 : PySem.W.findIn K (.ref c_Told) "parts" = some (some (.ref x_Told_parts)))
    (ml_15 : K.lookup x_Told_parts = some ⟨oc_15, od_15, .func (PySem.W.fnOf "parts" "Told.parts" (defArgs s_Told_parts) (defBody s_Told_parts) (defScope s_Told_parts) .none kV_15 dc_15 pm_15 an_15 cd_15 ct_15), sl_15⟩) (mo_15 : PySem.W.codeIn K cd_15 "Told.parts" = true) (mk_15 : PySem.W.keepIn K (.ref x_Told_parts) = true) (mi_15 : PySem.W.isFn K (.ref x_Told_parts) = true)
    (mf_4 : PySem.W.findIn K (.ref c_Die) "parts" = some (some (.ref x_Die_parts)))
    (ml_4 : K.lookup x_Die_parts = some ⟨oc_4, od_4, .func (PySem.W.fnOf "parts" "Die.parts" (defArgs s_Die_parts) (defBody s_Die_parts) (defScope s_Die_parts) .none kV_4 dc_4 pm_4 an_4 cd_4 ct_4), sl_4⟩) (mo_4 : PySem.W.codeIn K cd_4 "Die.parts" = true) (mk_4 : PySem.W.keepIn K (.ref x_Die_parts) = true) (mi_4 : PySem.W.isFn K (.ref x_Die_parts) = true)
    (mf_1 : PySem.W.findIn K (.ref c_Die) "after" = some (some (.ref x_Die_after)))
    (ml_1 : K.lookup x_Die_after = some ⟨oc_1, od_1, .func (PySem.W.fnOf "after" "Die.after" (defArgs s_Die_after) (defBody s_Die_after) (defScope s_Die_after) .none kV_1 dc_1 pm_1 an_1 cd_1 ct_1), sl_1⟩) (mo_1 : PySem.W.codeIn K cd_1 "Die.after" = true) (mk_1 : PySem.W.keepIn K (.ref x_Die_after) = true) (mi_1 : PySem.W.isFn K (.ref x_Die_after) = true)
    (mf_10 : PySem.W.findIn K (.ref c_Start) "node" = some (some (.ref x_Start_node)))
    (ml_10 : K.lookup x_Start_node = some ⟨oc_10, od_10, .func (PySem.W.fnOf "node" "Start.node" (defArgs s_Start_node) (defBody s_Start_node) (defScope s_Start_node) .none kV_10 dc_10 pm_10 an_10 cd_10 ct_10), sl_10⟩) (mo_10 : PySem.W.codeIn K cd_10 "Start.node" = true) (mk_10 : PySem.W.keepIn K (.ref x_Start_node) = true) (mi_10 : PySem.W.isFn K (.ref x_Start_node) = true)
    (mf_f : PySem.W.findIn K (.ref c_Start) "matrix" = some (some (.ref x_Start_matrix)))
    (ml_f : K.lookup x_Start_matrix = some ⟨oc_f, od_f, .func (PySem.W.fnOf "matrix" "Start.matrix" (defArgs s_Start_matrix) (defBody s_Start_matrix) (defScope s_Start_matrix) .none kV_f dc_f pm_f an_f cd_f ct_f), sl_f⟩) (mo_f : PySem.W.codeIn K cd_f "Start.matrix" = true) (mk_f : PySem.W.keepIn K (.ref x_Start_matrix) = true) (mi_f : PySem.W.isFn K (.ref x_Start_matrix) = true)
    (mf_e : PySem.W.findIn K (.ref c_Start) "bounds" = some (some (.ref x_Start_bounds)))
    (ml_e : K.lookup x_Start_bounds = some ⟨oc_e, od_e, .func (PySem.W.fnOf "bounds" "Start.bounds" (defArgs s_Start_bounds) (defBody s_Start_bounds) (defScope s_Start_bounds) .none kV_e dc_e pm_e an_e cd_e ct_e), sl_e⟩) (mo_e : PySem.W.codeIn K cd_e "Start.bounds" = true) (mk_e : PySem.W.keepIn K (.ref x_Start_bounds) = true) (mi_e : PySem.W.isFn K (.ref x_Start_bounds) = true)
    (mf_11 : PySem.W.findIn K (.ref c_Start) "text" = some (some (.ref x_Start_text)))
    (ml_11 : K.lookup x_Start_text = some ⟨oc_11, od_11, .func (PySem.W.fnOf "text" "Start.text" (defArgs s_Start_text) (defBody s_Start_text) (defScope s_Start_text) .none kV_11 dc_11 pm_11 an_11 cd_11 ct_11), sl_11⟩) (mo_11 : PySem.W.codeIn K cd_11 "Start.text" = true) (mk_11 : PySem.W.keepIn K (.ref x_Start_text) = true) (mi_11 : PySem.W.isFn K (.ref x_Start_text) = true)
    (mf_9 : PySem.W.findIn K (.ref c_Loose) "node" = some (some (.ref x_Loose_node)))
    (ml_9 : K.lookup x_Loose_node = some ⟨oc_9, od_9, .func (PySem.W.fnOf "node" "Loose.node" (defArgs s_Loose_node) (defBody s_Loose_node) (defScope s_Loose_node) .none kV_9 dc_9 pm_9 an_9 cd_9 ct_9), sl_9⟩) (mo_9 : PySem.W.codeIn K cd_9 "Loose.node" = true) (mk_9 : PySem.W.keepIn K (.ref x_Loose_node) = true) (mi_9 : PySem.W.isFn K (.ref x_Loose_node) = true)
    (mf_8 : PySem.W.findIn K (.ref c_Loose) "matrix" = some (some (.ref x_Loose_matrix)))
    (ml_8 : K.lookup x_Loose_matrix = some ⟨oc_8, od_8, .func (PySem.W.fnOf "matrix" "Loose.matrix" (defArgs s_Loose_matrix) (defBody s_Loose_matrix) (defScope s_Loose_matrix) .none kV_8 dc_8 pm_8 an_8 cd_8 ct_8), sl_8⟩) (mo_8 : PySem.W.codeIn K cd_8 "Loose.matrix" = true) (mk_8 : PySem.W.keepIn K (.ref x_Loose_matrix) = true) (mi_8 : PySem.W.isFn K (.ref x_Loose_matrix) = true)
    (mf_7 : PySem.W.findIn K (.ref c_Loose) "bounds" = some (some (.ref x_Loose_bounds)))
    (ml_7 : K.lookup x_Loose_bounds = some ⟨oc_7, od_7, .func (PySem.W.fnOf "bounds" "Loose.bounds" (defArgs s_Loose_bounds) (defBody s_Loose_bounds) (defScope s_Loose_bounds) .none kV_7 dc_7 pm_7 an_7 cd_7 ct_7), sl_7⟩) (mo_7 : PySem.W.codeIn K cd_7 "Loose.bounds" = true) (mk_7 : PySem.W.keepIn K (.ref x_Loose_bounds) = true) (mi_7 : PySem.W.isFn K (.ref x_Loose_bounds) = true)
    (mf_a : PySem.W.findIn K (.ref c_Loose) "text" = some (some (.ref x_Loose_text)))
    (ml_a : K.lookup x_Loose_text = some ⟨oc_a, od_a, .func (PySem.W.fnOf "text" "Loose.text" (defArgs s_Loose_text) (defBody s_Loose_text) (defScope s_Loose_text) .none kV_a dc_a pm_a an_a cd_a ct_a), sl_a⟩) (mo_a : PySem.W.codeIn K cd_a "Loose.text" = true) (mk_a : PySem.W.keepIn K (.ref x_Loose_text) = true) (mi_a : PySem.W.isFn K (.ref x_Loose_text) = true)
    (lca_8 : cd_8 = .ref lc_Loose_matrix) (lct_8 : K.lookup lc_Loose_matrix = some ⟨lo_8, lod_8, .fields lvs_8, lsl_8⟩) (lcq_8 : lvs_8[11]? = some (.ref lp_Loose_matrix)) (lch_Loose_matrix : PySem.W.codeHdIn K lc_Loose_matrix lp_Loose_matrix = true)
    (lca_17 : cd15 = .ref lc_loose_node) (lct_17 : K.lookup lc_loose_node = some ⟨lo_17, lod_17, .fields lvs_17, lsl_17⟩) (lcq_17 : lvs_17[11]? = some (.ref lp_loose_node)) (lch_loose_node : PySem.W.codeHdIn K lc_loose_node lp_loose_node = true)
    (lca_f : cd_f = .ref lc_Start_matrix) (lct_f : K.lookup lc_Start_matrix = some ⟨lo_f, lod_f, .fields lvs_f, lsl_f⟩) (lcq_f : lvs_f[11]? = some (.ref lp_Start_matrix)) (lch_Start_matrix : PySem.W.codeHdIn K lc_Start_matrix lp_Start_matrix = true)
    (lca_18 : cd13 = .ref lc_start_make) (lct_18 : K.lookup lc_start_make = some ⟨lo_18, lod_18, .fields lvs_18, lsl_18⟩) (lcq_18 : lvs_18[11]? = some (.ref lp_start_make)) (lch_start_make : PySem.W.codeHdIn K lc_start_make lp_start_make = true)
    (ltnd : ([lp_Loose_matrix, lp_loose_node, lp_Start_matrix, lp_start_make] : List Addr).Nodup)
    (z0 : PySem.W.nsIn K mainGlobals "abs" = some none)
    (z1 : PySem.W.nsIn K mainGlobals "bool" = some none)
    (z2 : PySem.W.nsIn K mainGlobals "enumerate" = some none)
    (z3 : PySem.W.nsIn K mainGlobals "int" = some none)
    (z4 : PySem.W.nsIn K mainGlobals "isinstance" = some none)
    (z5 : PySem.W.nsIn K mainGlobals "len" = some none)
    (z6 : PySem.W.nsIn K mainGlobals "list" = some none)
    (z7 : PySem.W.nsIn K mainGlobals "range" = some none)
    (z8 : PySem.W.nsIn K mainGlobals "sorted" = some none)
    (z9 : PySem.W.nsIn K mainGlobals "str" = some none)
    (z10 : PySem.W.nsIn K mainGlobals "sum" = some none)
    (z11 : PySem.W.nsIn K mainGlobals "tuple" = some none)
    (z12 : PySem.W.nsIn K mainGlobals "zip" = some none) (r0 : RelV (.int 24) u0) (r1 : RelV (.int 100) u1) : ∃ a : Ad, Txt K mg a ∧ (tabs a).map (·.1) = [lp_Loose_matrix, lp_loose_node, lp_Start_matrix, lp_start_make] := by
  refine ⟨{ f_greatest_divisor := f0, d_greatest_divisor := PySem.W.fnOf "greatest_divisor" "greatest_divisor" (defArgs s_greatest_divisor) (defBody s_greatest_divisor) (defScope s_greatest_divisor) .none kV0 dc0 pm0 an0 cd0 ct0, f_share := f1, d_share := PySem.W.fnOf "share" "share" (defArgs s_share) (defBody s_share) (defScope s_share) .none kV1 dc1 pm1 an1 cd1 ct1, f_times := f2, d_times := PySem.W.fnOf "times" "times" (defArgs s_times) (defBody s_times) (defScope s_times) .none kV2 dc2 pm2 an2 cd2 ct2, f_is_whole := f3, d_is_whole := PySem.W.fnOf "is_whole" "is_whole" (defArgs s_is_whole) (defBody s_is_whole) (defScope s_is_whole) .none kV3 dc3 pm3 an3 cd3 ct3, f_can_be_thrown := f4, d_can_be_thrown := PySem.W.fnOf "can_be_thrown" "can_be_thrown" (defArgs s_can_be_thrown) (defBody s_can_be_thrown) (defScope s_can_be_thrown) .none kV4 dc4 pm4 an4 cd4 ct4, f_drawn := f5, d_drawn := PySem.W.fnOf "drawn" "drawn" (defArgs s_drawn) (defBody s_drawn) (defScope s_drawn) .none kV5 dc5 pm5 an5 cd5 ct5, f_wished := f6, d_wished := PySem.W.fnOf "wished" "wished" (defArgs s_wished) (defBody s_wished) (defScope s_wished) .none kV6 dc6 pm6 an6 cd6 ct6, f_wished_of_some := f7, d_wished_of_some := PySem.W.fnOf "wished_of_some" "wished_of_some" (defArgs s_wished_of_some) (defBody s_wished_of_some) (defScope s_wished_of_some) .none kV7 dc7 pm7 an7 cd7 ct7, f_wished_by := f8, d_wished_by := PySem.W.fnOf "wished_by" "wished_by" (defArgs s_wished_by) (defBody s_wished_by) (defScope s_wished_by) .none kV8 dc8 pm8 an8 cd8 ct8, f_places_of := f9, d_places_of := PySem.W.fnOf "places_of" "places_of" (defArgs s_places_of) (defBody s_places_of) (defScope s_places_of) .none kV9 dc9 pm9 an9 cd9 ct9, f_matrix_by := f10, d_matrix_by := PySem.W.fnOf "matrix_by" "matrix_by" (defArgs s_matrix_by) (defBody s_matrix_by) (defScope s_matrix_by) .none kV10 dc10 pm10 an10 cd10 ct10, f_matrix_row := f11, d_matrix_row := PySem.W.fnOf "matrix_row" "matrix_row" (defArgs s_matrix_row) (defBody s_matrix_row) (defScope s_matrix_row) .none kV11 dc11 pm11 an11 cd11 ct11, f_need_number := f12, d_need_number := PySem.W.fnOf "need_number" "need_number" (defArgs s_need_number) (defBody s_need_number) (defScope s_need_number) .none kV12 dc12 pm12 an12 cd12 ct12, f_start_make := f13, d_start_make := PySem.W.fnOf "start_make" "start_make" (defArgs s_start_make) (defBody s_start_make) (defScope s_start_make) .none kV13 dc13 pm13 an13 cd13 ct13, f_is_unsure := f14, d_is_unsure := PySem.W.fnOf "is_unsure" "is_unsure" (defArgs s_is_unsure) (defBody s_is_unsure) (defScope s_is_unsure) .none kV14 dc14 pm14 an14 cd14 ct14, f_loose_node := f15, d_loose_node := PySem.W.fnOf "loose_node" "loose_node" (defArgs s_loose_node) (defBody s_loose_node) (defScope s_loose_node) .none kV15 dc15 pm15 an15 cd15 ct15, f_L_cell := f16, d_L_cell := PySem.W.fnOf "_law_cell" "_law_cell" (defArgs s_L_cell) (defBody s_L_cell) (defScope s_L_cell) .none kV16 dc16 pm16 an16 cd16 ct16, f_L_mix := f17, d_L_mix := PySem.W.fnOf "_law_mix" "_law_mix" (defArgs s_L_mix) (defBody s_L_mix) (defScope s_L_mix) .none kV17 dc17 pm17 an17 cd17 ct17, f_L_row := f18, d_L_row := PySem.W.fnOf "_law_row" "_law_row" (defArgs s_L_row) (defBody s_L_row) (defScope s_L_row) .none kV18 dc18 pm18 an18 cd18 ct18, f_L_whole := f19, d_L_whole := PySem.W.fnOf "_law_whole" "_law_whole" (defArgs s_L_whole) (defBody s_L_whole) (defScope s_L_whole) .none kV19 dc19 pm19 an19 cd19 ct19, f_L_low := f20, d_L_low := PySem.W.fnOf "_law_low" "_law_low" (defArgs s_L_low) (defBody s_L_low) (defScope s_L_low) .none kV20 dc20 pm20 an20 cd20 ct20, f_L_times := f21, d_L_times := PySem.W.fnOf "_law_times" "_law_times" (defArgs s_L_times) (defBody s_L_times) (defScope s_L_times) .none kV21 dc21 pm21 an21 cd21 ct21, f_L_fraction := f22, d_L_fraction := PySem.W.fnOf "_law_fraction" "_law_fraction" (defArgs s_L_fraction) (defBody s_L_fraction) (defScope s_L_fraction) .none kV22 dc22 pm22 an22 cd22 ct22, f_L_matrix := f23, d_L_matrix := PySem.W.fnOf "_law_matrix" "_law_matrix" (defArgs s_L_matrix) (defBody s_L_matrix) (defScope s_L_matrix) .none kV23 dc23 pm23 an23 cd23 ct23, f_L_crowd := f24, d_L_crowd := PySem.W.fnOf "_law_crowd" "_law_crowd" (defArgs s_L_crowd) (defBody s_L_crowd) (defScope s_L_crowd) .none kV24 dc24 pm24 an24 cd24 ct24, f_L_wished := f25, d_L_wished := PySem.W.fnOf "_law_wished" "_law_wished" (defArgs s_L_wished) (defBody s_L_wished) (defScope s_L_wished) .none kV25 dc25 pm25 an25 cd25 ct25, f_L_thrown := f26, d_L_thrown := PySem.W.fnOf "_law_thrown" "_law_thrown" (defArgs s_L_thrown) (defBody s_L_thrown) (defScope s_L_thrown) .none kV26 dc26 pm26 an26 cd26 ct26, f_L_loose := f27, d_L_loose := PySem.W.fnOf "_law_loose" "_law_loose" (defArgs s_L_loose) (defBody s_L_loose) (defScope s_L_loose) .none kV27 dc27 pm27 an27 cd27 ct27, f_L_start := f28, d_L_start := PySem.W.fnOf "_law_start" "_law_start" (defArgs s_L_start) (defBody s_L_start) (defScope s_L_start) .none kV28 dc28 pm28 an28 cd28 ct28, f_L_both := f29, d_L_both := PySem.W.fnOf "_law_both" "_law_both" (defArgs s_L_both) (defBody s_L_both) (defScope s_L_both) .none kV29 dc29 pm29 an29 cd29 ct29, f_L_steps := f30, d_L_steps := PySem.W.fnOf "_law_steps" "_law_steps" (defArgs s_L_steps) (defBody s_L_steps) (defScope s_L_steps) .none kV30 dc30 pm30 an30 cd30 ct30, f_L_right := f31, d_L_right := PySem.W.fnOf "_law_right" "_law_right" (defArgs s_L_right) (defBody s_L_right) (defScope s_L_right) .none kV31 dc31 pm31 an31 cd31 ct31, f_law := f32, d_law := PySem.W.fnOf "law" "law" (defArgs s_law) (defBody s_law) (defScope s_law) .none kV32 dc32 pm32 an32 cd32 ct32, c_SpeakError := c_SpeakError, c_NoPlan := c_NoPlan, i_NoPlan := i_NoPlan, e_NoPlan := PySem.W.fnOf "__init__" "NoPlan.__init__" (defArgs s_NoPlan___init__) (defBody s_NoPlan___init__) (defScope s_NoPlan___init__) .none kV_b dc_b pm_b an_b cd_b ct_b, c_NoThrow := c_NoThrow, i_NoThrow := i_NoThrow, e_NoThrow := PySem.W.fnOf "__init__" "NoThrow.__init__" (defArgs s_NoThrow___init__) (defBody s_NoThrow___init__) (defScope s_NoThrow___init__) .none kV_c dc_c pm_c an_c cd_c ct_c, c_Node := c_Node, c_Told := c_Told, i_Told := i_Told, e_Told := PySem.W.fnOf "__init__" "Told.__init__" (defArgs s_Told___init__) (defBody s_Told___init__) (defScope s_Told___init__) .none kV_12 dc_12 pm_12 an_12 cd_12 ct_12, c_Die := c_Die, i_Die := i_Die, e_Die := PySem.W.fnOf "__init__" "Die.__init__" (defArgs s_Die___init__) (defBody s_Die___init__) (defScope s_Die___init__) .none kV_0 dc_0 pm_0 an_0 cd_0 ct_0, c_Plan := c_Plan, c_Start := c_Start, i_Start := i_Start, e_Start := PySem.W.fnOf "__init__" "Start.__init__" (defArgs s_Start___init__) (defBody s_Start___init__) (defScope s_Start___init__) .none kV_d dc_d pm_d an_d cd_d ct_d, c_Loose := c_Loose, i_Loose := i_Loose, e_Loose := PySem.W.fnOf "__init__" "Loose.__init__" (defArgs s_Loose___init__) (defBody s_Loose___init__) (defScope s_Loose___init__) .none kV_6 dc_6 pm_6 an_6 cd_6 ct_6, x_Told_is_told := x_Told_is_told, y_Told_is_told := PySem.W.fnOf "is_told" "Told.is_told" (defArgs s_Told_is_told) (defBody s_Told_is_told) (defScope s_Told_is_told) .none kV_13 dc_13 pm_13 an_13 cd_13 ct_13, x_Die_is_told := x_Die_is_told, y_Die_is_told := PySem.W.fnOf "is_told" "Die.is_told" (defArgs s_Die_is_told) (defBody s_Die_is_told) (defScope s_Die_is_told) .none kV_2 dc_2 pm_2 an_2 cd_2 ct_2, x_Told_kept := x_Told_kept, y_Told_kept := PySem.W.fnOf "kept" "Told.kept" (defArgs s_Told_kept) (defBody s_Told_kept) (defScope s_Told_kept) .none kV_14 dc_14 pm_14 an_14 cd_14 ct_14, x_Die_kept := x_Die_kept, y_Die_kept := PySem.W.fnOf "kept" "Die.kept" (defArgs s_Die_kept) (defBody s_Die_kept) (defScope s_Die_kept) .none kV_3 dc_3 pm_3 an_3 cd_3 ct_3, x_Told_sides := x_Told_sides, y_Told_sides := PySem.W.fnOf "sides" "Told.sides" (defArgs s_Told_sides) (defBody s_Told_sides) (defScope s_Told_sides) .none kV_16 dc_16 pm_16 an_16 cd_16 ct_16, x_Die_sides := x_Die_sides, y_Die_sides := PySem.W.fnOf "sides" "Die.sides" (defArgs s_Die_sides) (defBody s_Die_sides) (defScope s_Die_sides) .none kV_5 dc_5 pm_5 an_5 cd_5 ct_5, x_Told_parts := x_Told_parts, y_Told_parts := PySem.W.fnOf "parts" "Told.parts" (defArgs s_Told_parts) (defBody s_Told_parts) (defScope s_Told_parts) .none kV_15 dc_15 pm_15 an_15 cd_15 ct_15, x_Die_parts := x_Die_parts, y_Die_parts := PySem.W.fnOf "parts" "Die.parts" (defArgs s_Die_parts) (defBody s_Die_parts) (defScope s_Die_parts) .none kV_4 dc_4 pm_4 an_4 cd_4 ct_4, x_Die_after := x_Die_after, y_Die_after := PySem.W.fnOf "after" "Die.after" (defArgs s_Die_after) (defBody s_Die_after) (defScope s_Die_after) .none kV_1 dc_1 pm_1 an_1 cd_1 ct_1, x_Start_node := x_Start_node, y_Start_node := PySem.W.fnOf "node" "Start.node" (defArgs s_Start_node) (defBody s_Start_node) (defScope s_Start_node) .none kV_10 dc_10 pm_10 an_10 cd_10 ct_10, x_Start_matrix := x_Start_matrix, y_Start_matrix := PySem.W.fnOf "matrix" "Start.matrix" (defArgs s_Start_matrix) (defBody s_Start_matrix) (defScope s_Start_matrix) .none kV_f dc_f pm_f an_f cd_f ct_f, x_Start_bounds := x_Start_bounds, y_Start_bounds := PySem.W.fnOf "bounds" "Start.bounds" (defArgs s_Start_bounds) (defBody s_Start_bounds) (defScope s_Start_bounds) .none kV_e dc_e pm_e an_e cd_e ct_e, x_Start_text := x_Start_text, y_Start_text := PySem.W.fnOf "text" "Start.text" (defArgs s_Start_text) (defBody s_Start_text) (defScope s_Start_text) .none kV_11 dc_11 pm_11 an_11 cd_11 ct_11, x_Loose_node := x_Loose_node, y_Loose_node := PySem.W.fnOf "node" "Loose.node" (defArgs s_Loose_node) (defBody s_Loose_node) (defScope s_Loose_node) .none kV_9 dc_9 pm_9 an_9 cd_9 ct_9, x_Loose_matrix := x_Loose_matrix, y_Loose_matrix := PySem.W.fnOf "matrix" "Loose.matrix" (defArgs s_Loose_matrix) (defBody s_Loose_matrix) (defScope s_Loose_matrix) .none kV_8 dc_8 pm_8 an_8 cd_8 ct_8, x_Loose_bounds := x_Loose_bounds, y_Loose_bounds := PySem.W.fnOf "bounds" "Loose.bounds" (defArgs s_Loose_bounds) (defBody s_Loose_bounds) (defScope s_Loose_bounds) .none kV_7 dc_7 pm_7 an_7 cd_7 ct_7, x_Loose_text := x_Loose_text, y_Loose_text := PySem.W.fnOf "text" "Loose.text" (defArgs s_Loose_text) (defBody s_Loose_text) (defScope s_Loose_text) .none kV_a dc_a pm_a an_a cd_a ct_a, k_NOUGHT := k_NOUGHT, k_WHOLE := k_WHOLE, lc_Loose_matrix := lc_Loose_matrix, lp_Loose_matrix := lp_Loose_matrix, lc_loose_node := lc_loose_node, lp_loose_node := lp_loose_node, lc_Start_matrix := lc_Start_matrix, lp_Start_matrix := lp_Start_matrix, lc_start_make := lc_start_make, lp_start_make := lp_start_make }, ?_, rfl⟩
  exact {
    lcd_Loose_matrix := lca_8
    lch_Loose_matrix := lch_Loose_matrix
    lcd_loose_node := lca_17
    lch_loose_node := lch_loose_node
    lcd_Start_matrix := lca_f
    lch_Start_matrix := lch_Start_matrix
    lcd_start_make := lca_18
    lch_start_make := lch_start_make
    tnd := ltnd
    F_greatest_divisor := fun_mk (st := s_greatest_divisor) l0 c0 k0
    B_greatest_divisor := (fun_mk (st := s_greatest_divisor) l0 c0 k0).binds (ps := ["one", "other"]) fun _ _ _ _ _ _ us hl => (by obtain ⟨_, _, rfl⟩ := us2 hl; rfl)
    m_greatest_divisor := PySem.W.mg_of X G a0
    F_share := fun_mk (st := s_share) l1 c1 k1
    B_share := (fun_mk (st := s_share) l1 c1 k1).binds (ps := ["top", "bottom"]) fun _ _ _ _ _ _ us hl => (by obtain ⟨_, _, rfl⟩ := us2 hl; rfl)
    m_share := PySem.W.mg_of X G a1
    F_times := fun_mk (st := s_times) l2 c2 k2
    B_times := (fun_mk (st := s_times) l2 c2 k2).binds (ps := ["one", "other"]) fun _ _ _ _ _ _ us hl => (by obtain ⟨_, _, rfl⟩ := us2 hl; rfl)
    m_times := PySem.W.mg_of X G a2
    F_is_whole := fun_mk (st := s_is_whole) l3 c3 k3
    B_is_whole := (fun_mk (st := s_is_whole) l3 c3 k3).binds (ps := ["thing", "low", "high"]) fun _ _ _ _ _ _ us hl => (by obtain ⟨_, _, _, rfl⟩ := us3 hl; rfl)
    m_is_whole := PySem.W.mg_of X G a3
    F_can_be_thrown := fun_mk (st := s_can_be_thrown) l4 c4 k4
    B_can_be_thrown := (fun_mk (st := s_can_be_thrown) l4 c4 k4).binds (ps := ["node", "throw"]) fun _ _ _ _ _ _ us hl => (by obtain ⟨_, _, rfl⟩ := us2 hl; rfl)
    m_can_be_thrown := PySem.W.mg_of X G a4
    F_drawn := fun_mk (st := s_drawn) l5 c5 k5
    B_drawn := (fun_mk (st := s_drawn) l5 c5 k5).binds (ps := ["node", "throws"]) fun _ _ _ _ _ _ us hl => (by obtain ⟨_, _, rfl⟩ := us2 hl; rfl)
    m_drawn := PySem.W.mg_of X G a5
    F_wished := fun_mk (st := s_wished) l6 c6 k6
    B_wished := (fun_mk (st := s_wished) l6 c6 k6).binds (ps := ["sizes", "many"]) fun _ _ _ _ _ _ us hl => (by obtain ⟨_, _, rfl⟩ := us2 hl; rfl)
    m_wished := PySem.W.mg_of X G a6
    F_wished_of_some := fun_mk (st := s_wished_of_some) l7 c7 k7
    B_wished_of_some := (fun_mk (st := s_wished_of_some) l7 c7 k7).binds (ps := ["sizes", "many"]) fun _ _ _ _ _ _ us hl => (by obtain ⟨_, _, rfl⟩ := us2 hl; rfl)
    m_wished_of_some := PySem.W.mg_of X G a7
    F_wished_by := fun_mk (st := s_wished_by) l8 c8 k8
    B_wished_by := (fun_mk (st := s_wished_by) l8 c8 k8).binds (ps := ["crowd", "many"]) fun _ _ _ _ _ _ us hl => (by obtain ⟨_, _, rfl⟩ := us2 hl; rfl)
    m_wished_by := PySem.W.mg_of X G a8
    F_places_of := fun_mk (st := s_places_of) l9 c9 k9
    B_places_of := (fun_mk (st := s_places_of) l9 c9 k9).binds (ps := ["crowd"]) fun _ _ _ _ _ _ us hl => (by obtain ⟨_, rfl⟩ := us1 hl; rfl)
    m_places_of := PySem.W.mg_of X G a9
    F_matrix_by := fun_mk (st := s_matrix_by) l10 c10 k10
    B_matrix_by := (fun_mk (st := s_matrix_by) l10 c10 k10).binds (ps := ["many", "tell"]) fun _ _ _ _ _ _ us hl => (by obtain ⟨_, _, rfl⟩ := us2 hl; rfl)
    m_matrix_by := PySem.W.mg_of X G a10
    F_matrix_row := fun_mk (st := s_matrix_row) l11 c11 k11
    B_matrix_row := (fun_mk (st := s_matrix_row) l11 c11 k11).binds (ps := ["one", "many", "tell"]) fun _ _ _ _ _ _ us hl => (by obtain ⟨_, _, _, rfl⟩ := us3 hl; rfl)
    m_matrix_row := PySem.W.mg_of X G a11
    F_need_number := fun_mk (st := s_need_number) l12 c12 k12
    B_need_number := (fun_mk (st := s_need_number) l12 c12 k12).binds (ps := ["thing", "low", "high"]) fun _ _ _ _ _ _ us hl => (by obtain ⟨_, _, _, rfl⟩ := us3 hl; rfl)
    m_need_number := PySem.W.mg_of X G a12
    F_start_make := fun_mk (st := s_start_make) l13 c13 k13
    B_start_make := (fun_mk (st := s_start_make) l13 c13 k13).binds (ps := ["places", "step", "first"]) fun _ _ _ _ _ _ us hl => (by obtain ⟨_, _, _, rfl⟩ := us3 hl; rfl)
    m_start_make := PySem.W.mg_of X G a13
    F_is_unsure := fun_mk (st := s_is_unsure) l14 c14 k14
    B_is_unsure := (fun_mk (st := s_is_unsure) l14 c14 k14).binds (ps := ["chance"]) fun _ _ _ _ _ _ us hl => (by obtain ⟨_, rfl⟩ := us1 hl; rfl)
    m_is_unsure := PySem.W.mg_of X G a14
    F_loose_node := fun_mk (st := s_loose_node) l15 c15 k15
    B_loose_node := (fun_mk (st := s_loose_node) l15 c15 k15).binds (ps := ["ahead", "taken"]) fun _ _ _ _ _ _ us hl => (by obtain ⟨_, _, rfl⟩ := us2 hl; rfl)
    m_loose_node := PySem.W.mg_of X G a15
    F_L_cell := fun_mk (st := s_L_cell) l16 c16 k16
    B_L_cell := (fun_mk (st := s_L_cell) l16 c16 k16).binds (ps := ["_law_script", "_law_k"]) fun _ _ _ _ _ _ us hl => (by obtain ⟨_, _, rfl⟩ := us2 hl; rfl)
    m_L_cell := PySem.W.mg_of X G a16
    F_L_mix := fun_mk (st := s_L_mix) l17 c17 k17
    B_L_mix := (fun_mk (st := s_L_mix) l17 c17 k17).binds (ps := ["_law_cell_here", "_law_k"]) fun _ _ _ _ _ _ us hl => (by obtain ⟨_, _, rfl⟩ := us2 hl; rfl)
    m_L_mix := PySem.W.mg_of X G a17
    F_L_row := fun_mk (st := s_L_row) l18 c18 k18
    B_L_row := (fun_mk (st := s_L_row) l18 c18 k18).binds (ps := ["_law_cell_here", "_law_bit", "_law_many", "_law_most"]) fun _ _ _ _ _ _ us hl => (by obtain ⟨_, _, _, _, rfl⟩ := us4 hl; rfl)
    m_L_row := PySem.W.mg_of X G a18
    F_L_whole := fun_mk (st := s_L_whole) l19 c19 k19
    B_L_whole := (fun_mk (st := s_L_whole) l19 c19 k19).binds (ps := ["_law_found"]) fun _ _ _ _ _ _ us hl => (by obtain ⟨_, rfl⟩ := us1 hl; rfl)
    m_L_whole := PySem.W.mg_of X G a19
    F_L_low := fun_mk (st := s_L_low) l20 c20 k20
    B_L_low := (fun_mk (st := s_L_low) l20 c20 k20).binds (ps := ["_law_top", "_law_bottom"]) fun _ _ _ _ _ _ us hl => (by obtain ⟨_, _, rfl⟩ := us2 hl; rfl)
    m_L_low := PySem.W.mg_of X G a20
    F_L_times := fun_mk (st := s_L_times) l21 c21 k21
    B_L_times := (fun_mk (st := s_L_times) l21 c21 k21).binds (ps := ["_law_one", "_law_other"]) fun _ _ _ _ _ _ us hl => (by obtain ⟨_, _, rfl⟩ := us2 hl; rfl)
    m_L_times := PySem.W.mg_of X G a21
    F_L_fraction := fun_mk (st := s_L_fraction) l22 c22 k22
    B_L_fraction := (fun_mk (st := s_L_fraction) l22 c22 k22).binds (ps := ["_law_found", "_law_due"]) fun _ _ _ _ _ _ us hl => (by obtain ⟨_, _, rfl⟩ := us2 hl; rfl)
    m_L_fraction := PySem.W.mg_of X G a22
    F_L_matrix := fun_mk (st := s_L_matrix) l23 c23 k23
    B_L_matrix := (fun_mk (st := s_L_matrix) l23 c23 k23).binds (ps := ["_law_found", "_law_due"]) fun _ _ _ _ _ _ us hl => (by obtain ⟨_, _, rfl⟩ := us2 hl; rfl)
    m_L_matrix := PySem.W.mg_of X G a23
    F_L_crowd := fun_mk (st := s_L_crowd) l24 c24 k24
    B_L_crowd := (fun_mk (st := s_L_crowd) l24 c24 k24).binds (ps := ["_law_script", "_law_start_here", "_law_most"]) fun _ _ _ _ _ _ us hl => (by obtain ⟨_, _, _, rfl⟩ := us3 hl; rfl)
    m_L_crowd := PySem.W.mg_of X G a24
    F_L_wished := fun_mk (st := s_L_wished) l25 c25 k25
    B_L_wished := (fun_mk (st := s_L_wished) l25 c25 k25).binds (ps := ["_law_sizes", "_law_many"]) fun _ _ _ _ _ _ us hl => (by obtain ⟨_, _, rfl⟩ := us2 hl; rfl)
    m_L_wished := PySem.W.mg_of X G a25
    F_L_thrown := fun_mk (st := s_L_thrown) l26 c26 k26
    B_L_thrown := (fun_mk (st := s_L_thrown) l26 c26 k26).binds (ps := ["_law_node", "_law_rows", "_law_kept"]) fun _ _ _ _ _ _ us hl => (by obtain ⟨_, _, _, rfl⟩ := us3 hl; rfl)
    m_L_thrown := PySem.W.mg_of X G a26
    F_L_loose := fun_mk (st := s_L_loose) l27 c27 k27
    B_L_loose := (fun_mk (st := s_L_loose) l27 c27 k27).binds (ps := ["_law_places", "_law_shares", "_law_throws"]) fun _ _ _ _ _ _ us hl => (by obtain ⟨_, _, _, rfl⟩ := us3 hl; rfl)
    m_L_loose := PySem.W.mg_of X G a27
    F_L_start := fun_mk (st := s_L_start) l28 c28 k28
    B_L_start := (fun_mk (st := s_L_start) l28 c28 k28).binds (ps := ["_law_places", "_law_step", "_law_throw"]) fun _ _ _ _ _ _ us hl => (by obtain ⟨_, _, _, rfl⟩ := us3 hl; rfl)
    m_L_start := PySem.W.mg_of X G a28
    F_L_both := fun_mk (st := s_L_both) l29 c29 k29
    B_L_both := (fun_mk (st := s_L_both) l29 c29 k29).binds (ps := ["_law_shares"]) fun _ _ _ _ _ _ us hl => (by obtain ⟨_, rfl⟩ := us1 hl; rfl)
    m_L_both := PySem.W.mg_of X G a29
    F_L_steps := fun_mk (st := s_L_steps) l30 c30 k30
    B_L_steps := (fun_mk (st := s_L_steps) l30 c30 k30).binds (ps := ["_law_every", "_law_step"]) fun _ _ _ _ _ _ us hl => (by obtain ⟨_, _, rfl⟩ := us2 hl; rfl)
    m_L_steps := PySem.W.mg_of X G a30
    F_L_right := fun_mk (st := s_L_right) l31 c31 k31
    B_L_right := (fun_mk (st := s_L_right) l31 c31 k31).binds (ps := ["_law_plan", "_law_crowd_here", "_law_rows", "_law_kept", "_law_due", "_law_ends"]) fun _ _ _ _ _ _ us hl => (by obtain ⟨_, _, _, _, _, _, rfl⟩ := us6 hl; rfl)
    m_L_right := PySem.W.mg_of X G a31
    F_law := fun_mk (st := s_law) l32 c32 k32
    B_law := (fun_mk (st := s_law) l32 c32 k32).binds (ps := ["_law_script"]) fun _ _ _ _ _ _ us hl => (by obtain ⟨_, rfl⟩ := us1 hl; rfl)
    m_law := PySem.W.mg_of X G a32
    g_NOUGHT := ⟨_, PySem.W.mg_of X G b_NOUGHT, rfl⟩
    t_NOUGHT := bt_NOUGHT
    g_WHOLE := ⟨_, PySem.W.mg_of X G b_WHOLE, rfl⟩
    t_WHOLE := bt_WHOLE
    F_Told_is_told := fun_mk (st := s_Told_is_told) ml_13 mo_13 mk_13
    B_Told_is_told := (fun_mk (st := s_Told_is_told) ml_13 mo_13 mk_13).binds (ps := ["self"]) fun _ _ _ _ _ _ us hl => (by obtain ⟨_, rfl⟩ := us1 hl; rfl)
    F_Die_is_told := fun_mk (st := s_Die_is_told) ml_2 mo_2 mk_2
    B_Die_is_told := (fun_mk (st := s_Die_is_told) ml_2 mo_2 mk_2).binds (ps := ["self"]) fun _ _ _ _ _ _ us hl => (by obtain ⟨_, rfl⟩ := us1 hl; rfl)
    F_Told_kept := fun_mk (st := s_Told_kept) ml_14 mo_14 mk_14
    B_Told_kept := (fun_mk (st := s_Told_kept) ml_14 mo_14 mk_14).binds (ps := ["self"]) fun _ _ _ _ _ _ us hl => (by obtain ⟨_, rfl⟩ := us1 hl; rfl)
    F_Die_kept := fun_mk (st := s_Die_kept) ml_3 mo_3 mk_3
    B_Die_kept := (fun_mk (st := s_Die_kept) ml_3 mo_3 mk_3).binds (ps := ["self"]) fun _ _ _ _ _ _ us hl => (by obtain ⟨_, rfl⟩ := us1 hl; rfl)
    F_Told_sides := fun_mk (st := s_Told_sides) ml_16 mo_16 mk_16
    B_Told_sides := (fun_mk (st := s_Told_sides) ml_16 mo_16 mk_16).binds (ps := ["self"]) fun _ _ _ _ _ _ us hl => (by obtain ⟨_, rfl⟩ := us1 hl; rfl)
    F_Die_sides := fun_mk (st := s_Die_sides) ml_5 mo_5 mk_5
    B_Die_sides := (fun_mk (st := s_Die_sides) ml_5 mo_5 mk_5).binds (ps := ["self"]) fun _ _ _ _ _ _ us hl => (by obtain ⟨_, rfl⟩ := us1 hl; rfl)
    F_Told_parts := fun_mk (st := s_Told_parts) ml_15 mo_15 mk_15
    B_Told_parts := (fun_mk (st := s_Told_parts) ml_15 mo_15 mk_15).binds (ps := ["self"]) fun _ _ _ _ _ _ us hl => (by obtain ⟨_, rfl⟩ := us1 hl; rfl)
    F_Die_parts := fun_mk (st := s_Die_parts) ml_4 mo_4 mk_4
    B_Die_parts := (fun_mk (st := s_Die_parts) ml_4 mo_4 mk_4).binds (ps := ["self"]) fun _ _ _ _ _ _ us hl => (by obtain ⟨_, rfl⟩ := us1 hl; rfl)
    F_Die_after := fun_mk (st := s_Die_after) ml_1 mo_1 mk_1
    B_Die_after := (fun_mk (st := s_Die_after) ml_1 mo_1 mk_1).binds (ps := ["self", "throw"]) fun _ _ _ _ _ _ us hl => (by obtain ⟨_, _, rfl⟩ := us2 hl; rfl)
    F_Start_node := fun_mk (st := s_Start_node) ml_10 mo_10 mk_10
    B_Start_node := (fun_mk (st := s_Start_node) ml_10 mo_10 mk_10).binds (ps := ["self", "crowd"]) fun _ _ _ _ _ _ us hl => (by obtain ⟨_, _, rfl⟩ := us2 hl; rfl)
    F_Start_matrix := fun_mk (st := s_Start_matrix) ml_f mo_f mk_f
    B_Start_matrix := (fun_mk (st := s_Start_matrix) ml_f mo_f mk_f).binds (ps := ["self", "crowd"]) fun _ _ _ _ _ _ us hl => (by obtain ⟨_, _, rfl⟩ := us2 hl; rfl)
    F_Start_bounds := fun_mk (st := s_Start_bounds) ml_e mo_e mk_e
    B_Start_bounds := (fun_mk (st := s_Start_bounds) ml_e mo_e mk_e).binds (ps := ["self", "crowd"]) fun _ _ _ _ _ _ us hl => (by obtain ⟨_, _, rfl⟩ := us2 hl; rfl)
    F_Start_text := fun_mk (st := s_Start_text) ml_11 mo_11 mk_11
    B_Start_text := (fun_mk (st := s_Start_text) ml_11 mo_11 mk_11).binds (ps := ["self"]) fun _ _ _ _ _ _ us hl => (by obtain ⟨_, rfl⟩ := us1 hl; rfl)
    F_Loose_node := fun_mk (st := s_Loose_node) ml_9 mo_9 mk_9
    B_Loose_node := (fun_mk (st := s_Loose_node) ml_9 mo_9 mk_9).binds (ps := ["self", "crowd"]) fun _ _ _ _ _ _ us hl => (by obtain ⟨_, _, rfl⟩ := us2 hl; rfl)
    F_Loose_matrix := fun_mk (st := s_Loose_matrix) ml_8 mo_8 mk_8
    B_Loose_matrix := (fun_mk (st := s_Loose_matrix) ml_8 mo_8 mk_8).binds (ps := ["self", "crowd"]) fun _ _ _ _ _ _ us hl => (by obtain ⟨_, _, rfl⟩ := us2 hl; rfl)
    F_Loose_bounds := fun_mk (st := s_Loose_bounds) ml_7 mo_7 mk_7
    B_Loose_bounds := (fun_mk (st := s_Loose_bounds) ml_7 mo_7 mk_7).binds (ps := ["self", "crowd"]) fun _ _ _ _ _ _ us hl => (by obtain ⟨_, _, rfl⟩ := us2 hl; rfl)
    F_Loose_text := fun_mk (st := s_Loose_text) ml_a mo_a mk_a
    B_Loose_text := (fun_mk (st := s_Loose_text) ml_a mo_a mk_a).binds (ps := ["self"]) fun _ _ _ _ _ _ us hl => (by obtain ⟨_, rfl⟩ := us1 hl; rfl)
    mt_Told_is_told := ⟨mf_13, mi_13, mk_13⟩
    mt_Die_is_told := ⟨mf_2, mi_2, mk_2⟩
    mt_Told_kept := ⟨mf_14, mi_14, mk_14⟩
    mt_Die_kept := ⟨mf_3, mi_3, mk_3⟩
    mt_Told_sides := ⟨mf_16, mi_16, mk_16⟩
    mt_Die_sides := ⟨mf_5, mi_5, mk_5⟩
    mt_Told_parts := ⟨mf_15, mi_15, mk_15⟩
    mt_Die_parts := ⟨mf_4, mi_4, mk_4⟩
    mt_Die_after := ⟨mf_1, mi_1, mk_1⟩
    mt_Start_node := ⟨mf_10, mi_10, mk_10⟩
    mt_Start_matrix := ⟨mf_f, mi_f, mk_f⟩
    mt_Start_bounds := ⟨mf_e, mi_e, mk_e⟩
    mt_Start_text := ⟨mf_11, mi_11, mk_11⟩
    mt_Loose_node := ⟨mf_9, mi_9, mk_9⟩
    mt_Loose_matrix := ⟨mf_8, mi_8, mk_8⟩
    mt_Loose_bounds := ⟨mf_7, mi_7, mk_7⟩
    mt_Loose_text := ⟨mf_a, mi_a, mk_a⟩
    mc_Node := PySem.W.mg_of X G ca_Node
    g_Node := ⟨_, PySem.W.mg_of X G ca_Node, rfl⟩
    cl_Node := ⟨pa_Node, pb_Node, pc_Node, pd_Node⟩
    ty_Node := fun H x dx fs e => .ins e ⟨pa_Node, pb_Node, pc_Node, pd_Node⟩ pe_Node pf_Node pg_Node ph_Node
    mc_Told := PySem.W.mg_of X G ca_Told
    g_Told := ⟨_, PySem.W.mg_of X G ca_Told, rfl⟩
    cl_Told := ⟨pa_Told, pb_Told, pc_Told, pd_Told⟩
    ty_Told := fun H x dx fs e => .ins e ⟨pa_Told, pb_Told, pc_Told, pd_Told⟩ pe_Told pf_Told pg_Told ph_Told
    mk_Told := ⟨qa_Told, qb_Told, qc_Told, qd_Told⟩
    na_Told_rising := qn_Told_rising
    Fi_Told := fun_mk (st := s_Told___init__) cl_Told co_Told ck_Told
    Bi_Told := (fun_mk (st := s_Told___init__) cl_Told co_Told ck_Told).binds (ps := ["self", "kept"]) fun _ _ _ _ _ _ us hl => (by obtain ⟨_, _, rfl⟩ := us2 hl; rfl)
    mc_Die := PySem.W.mg_of X G ca_Die
    g_Die := ⟨_, PySem.W.mg_of X G ca_Die, rfl⟩
    cl_Die := ⟨pa_Die, pb_Die, pc_Die, pd_Die⟩
    ty_Die := fun H x dx fs e => .ins e ⟨pa_Die, pb_Die, pc_Die, pd_Die⟩ pe_Die pf_Die pg_Die ph_Die
    mk_Die := ⟨qa_Die, qb_Die, qc_Die, qd_Die⟩
    na_Die_makes := qn_Die_makes
    Fi_Die := fun_mk (st := s_Die___init__) cl_Die co_Die ck_Die
    Bi_Die := (fun_mk (st := s_Die___init__) cl_Die co_Die ck_Die).binds (ps := ["self", "parts"]) fun _ _ _ _ _ _ us hl => (by obtain ⟨_, _, rfl⟩ := us2 hl; rfl)
    mc_Plan := PySem.W.mg_of X G ca_Plan
    g_Plan := ⟨_, PySem.W.mg_of X G ca_Plan, rfl⟩
    cl_Plan := ⟨pa_Plan, pb_Plan, pc_Plan, pd_Plan⟩
    ty_Plan := fun H x dx fs e => .ins e ⟨pa_Plan, pb_Plan, pc_Plan, pd_Plan⟩ pe_Plan pf_Plan pg_Plan ph_Plan
    mc_Start := PySem.W.mg_of X G ca_Start
    g_Start := ⟨_, PySem.W.mg_of X G ca_Start, rfl⟩
    cl_Start := ⟨pa_Start, pb_Start, pc_Start, pd_Start⟩
    ty_Start := fun H x dx fs e => .ins e ⟨pa_Start, pb_Start, pc_Start, pd_Start⟩ pe_Start pf_Start pg_Start ph_Start
    mk_Start := ⟨qa_Start, qb_Start, qc_Start, qd_Start⟩
    na_Start_step := qn_Start_step
    Fi_Start := fun_mk (st := s_Start___init__) cl_Start co_Start ck_Start
    Bi_Start := (fun_mk (st := s_Start___init__) cl_Start co_Start ck_Start).binds (ps := ["self", "step"]) fun _ _ _ _ _ _ us hl => (by obtain ⟨_, _, rfl⟩ := us2 hl; rfl)
    mc_Loose := PySem.W.mg_of X G ca_Loose
    g_Loose := ⟨_, PySem.W.mg_of X G ca_Loose, rfl⟩
    cl_Loose := ⟨pa_Loose, pb_Loose, pc_Loose, pd_Loose⟩
    ty_Loose := fun H x dx fs e => .ins e ⟨pa_Loose, pb_Loose, pc_Loose, pd_Loose⟩ pe_Loose pf_Loose pg_Loose ph_Loose
    mk_Loose := ⟨qa_Loose, qb_Loose, qc_Loose, qd_Loose⟩
    na_Loose_many := qn_Loose_many
    Fi_Loose := fun_mk (st := s_Loose___init__) cl_Loose co_Loose ck_Loose
    Bi_Loose := (fun_mk (st := s_Loose___init__) cl_Loose co_Loose ck_Loose).binds (ps := ["self", "many"]) fun _ _ _ _ _ _ us hl => (by obtain ⟨_, _, rfl⟩ := us2 hl; rfl)
    g_MOST_MANY := ⟨u0, PySem.W.mg_of X G b0, r0⟩
    g_MOST_STEP := ⟨u1, PySem.W.mg_of X G b1, r1⟩
    mc_SpeakError := PySem.W.mg_of X G ca_SpeakError
    g_SpeakError := ⟨_, PySem.W.mg_of X G ca_SpeakError, rfl⟩
    kc_SpeakError := cb_SpeakError
    xc_SpeakError := xc_of cc_SpeakError
    xh_SpeakError := xh_of cc_SpeakError
    xi_SpeakError := cx_SpeakError
    mc_NoPlan := PySem.W.mg_of X G ca_NoPlan
    g_NoPlan := ⟨_, PySem.W.mg_of X G ca_NoPlan, rfl⟩
    kc_NoPlan := cb_NoPlan
    xc_NoPlan := xc_of cc_NoPlan
    xh_NoPlan := xh_of cc_NoPlan
    xi_NoPlan := cx_NoPlan
    fn_NoPlan := cg_NoPlan
    Fi_NoPlan := fun_mk (st := s_NoPlan___init__) cl_NoPlan co_NoPlan ck_NoPlan
    Bi_NoPlan := (fun_mk (st := s_NoPlan___init__) cl_NoPlan co_NoPlan ck_NoPlan).binds (ps := ["self", "place"]) fun _ _ _ _ _ _ us hl => (by obtain ⟨_, _, rfl⟩ := us2 hl; rfl)
    sx_NoPlan_place := xs_of cs_NoPlan_place
    mc_NoThrow := PySem.W.mg_of X G ca_NoThrow
    g_NoThrow := ⟨_, PySem.W.mg_of X G ca_NoThrow, rfl⟩
    kc_NoThrow := cb_NoThrow
    xc_NoThrow := xc_of cc_NoThrow
    xh_NoThrow := xh_of cc_NoThrow
    xi_NoThrow := cx_NoThrow
    fn_NoThrow := cg_NoThrow
    Fi_NoThrow := fun_mk (st := s_NoThrow___init__) cl_NoThrow co_NoThrow ck_NoThrow
    Bi_NoThrow := (fun_mk (st := s_NoThrow___init__) cl_NoThrow co_NoThrow ck_NoThrow).binds (ps := ["self", "place"]) fun _ _ _ _ _ _ us hl => (by obtain ⟨_, _, rfl⟩ := us2 hl; rfl)
    sx_NoThrow_place := xs_of cs_NoThrow_place
    z_abs := PySem.W.mg_none_of X G z0
    z_bool := PySem.W.mg_none_of X G z1
    z_enumerate := PySem.W.mg_none_of X G z2
    z_int := PySem.W.mg_none_of X G z3
    z_isinstance := PySem.W.mg_none_of X G z4
    z_len := PySem.W.mg_none_of X G z5
    z_list := PySem.W.mg_none_of X G z6
    z_range := PySem.W.mg_none_of X G z7
    z_sorted := PySem.W.mg_none_of X G z8
    z_str := PySem.W.mg_none_of X G z9
    z_sum := PySem.W.mg_none_of X G z10
    z_tuple := PySem.W.mg_none_of X G z11
    z_zip := PySem.W.mg_none_of X G z12
    bl := fun s u => .of_eq rfl }
end My
open PySem PySem.W PyProof.Rows
def PySem.W.Fast.tw14443412861015664130 : Nat := 0
def PySem.W.Fast.tw8433347550385818466 : Nat := 0
def PySem.W.Fast.tw11539147004043757315 : Nat := 0
def PySem.W.Fast.tw9755786972771674404 : Nat := 0
def PySem.W.Fast.tw7808667996852542020 : Nat := 0
def PySem.W.Fast.tw4692438392484086793 : Nat := 0
def PySem.W.Fast.tw14895394569501852041 : Nat := 0
def PySem.W.Fast.tw13575592653674133130 : Nat := 0
def PySem.W.Fast.tw6823809471740435186 : Nat := 0
def PySem.W.Fast.tw6003821307439250867 : Nat := 0
def PySem.W.Fast.tw14026728762282261748 : Nat := 0
def PySem.W.Fast.tw14443687654621690485 : Nat := 0
def PySem.W.Fast.tw14804954006800838646 : Nat := 0
def PySem.W.Fast.tw7036354035106397210 : Nat := 0
def PySem.W.Fast.tw8016792137155712796 : Nat := 0
def PySem.W.Fast.tw17079864427154921244 : Nat := 0
def PySem.W.Fast.tw17921268889350326590 : Nat := 0
set_option maxRecDepth 100000 in
set_option maxHeartbeats 0 in
theorem PySem.Challenge.cw_fewspeak_k23_starts_and_loose_ones_throw_holds : PySem.Challenge.rw_fewspeak_k23_starts_and_loose_ones_throw.Holds := by
  w_on; o_law; k_head; (case hw => w_witness2)
  k_fill
  refine L2.walk_ofT (l := PySem.Challenge.rw_fewspeak_k23_starts_and_loose_ones_throw) (n := 63) (k := My.lawK) (x := "_law_script") (CX := L2.CX0) (sp := My.spLaw) rfl (by decide) rfl ⟨rfl, by decide, by decide⟩ (fun w h Y => ⟨PySem.W.km_in_of Y, PySem.W.km_tabs_of Y⟩) ?F ?S ?C
  case F =>
    intro ts' hts w mg fa h KX G hmg
    have T : ∃ a, My.Txt (L2.KOf KX) mg a ∧ (My.tabs a).map (·.1) = ts' := by
      rw [hts]
      dsimp only [L2.KOf]
      refine' My.txt_mk KX G ?a0 ?l0 ?c0 ?k0 ?a1 ?l1 ?c1 ?k1 ?a2 ?l2 ?c2 ?k2 ?a3 ?l3 ?c3 ?k3 ?a4 ?l4 ?c4 ?k4 ?a5 ?l5 ?c5 ?k5 ?a6 ?l6 ?c6 ?k6 ?a7 ?l7 ?c7 ?k7 ?a8 ?l8 ?c8 ?k8 ?a9 ?l9 ?c9 ?k9 ?a10 ?l10 ?c10 ?k10 ?a11 ?l11 ?c11 ?k11 ?a12 ?l12 ?c12 ?k12 ?a13 ?l13 ?c13 ?k13 ?a14 ?l14 ?c14 ?k14 ?a15 ?l15 ?c15 ?k15 ?a16 ?l16 ?c16 ?k16 ?a17 ?l17 ?c17 ?k17 ?a18 ?l18 ?c18 ?k18 ?a19 ?l19 ?c19 ?k19 ?a20 ?l20 ?c20 ?k20 ?a21 ?l21 ?c21 ?k21 ?a22 ?l22 ?c22 ?k22 ?a23 ?l23 ?c23 ?k23 ?a24 ?l24 ?c24 ?k24 ?a25 ?l25 ?c25 ?k25 ?a26 ?l26 ?c26 ?k26 ?a27 ?l27 ?c27 ?k27 ?a28 ?l28 ?c28 ?k28 ?a29 ?l29 ?c29 ?k29 ?a30 ?l30 ?c30 ?k30 ?a31 ?l31 ?c31 ?k31 ?a32 ?l32 ?c32 ?k32 ?b_NOUGHT ?bt_NOUGHT ?b_WHOLE ?bt_WHOLE ?b0 ?b1 ?ca_SpeakError ?cb_SpeakError ?cc_SpeakError ?cx_SpeakError ?ca_NoPlan ?cb_NoPlan ?cc_NoPlan ?cf_NoPlan ?cx_NoPlan ?cg_NoPlan ?cl_NoPlan ?co_NoPlan ?ck_NoPlan ?cs_NoPlan_place ?ca_NoThrow ?cb_NoThrow ?cc_NoThrow ?cf_NoThrow ?cx_NoThrow ?cg_NoThrow ?cl_NoThrow ?co_NoThrow ?ck_NoThrow ?cs_NoThrow_place ?ca_Node ?pa_Node ?pb_Node ?pc_Node ?pd_Node ?pe_Node ?pf_Node ?pg_Node ?ph_Node ?ca_Told ?pa_Told ?pb_Told ?pc_Told ?pd_Told ?pe_Told ?pf_Told ?pg_Told ?ph_Told ?qa_Told ?qb_Told ?qc_Told ?qd_Told ?qn_Told_rising ?cl_Told ?co_Told ?ck_Told ?ca_Die ?pa_Die ?pb_Die ?pc_Die ?pd_Die ?pe_Die ?pf_Die ?pg_Die ?ph_Die ?qa_Die ?qb_Die ?qc_Die ?qd_Die ?qn_Die_makes ?cl_Die ?co_Die ?ck_Die ?ca_Plan ?pa_Plan ?pb_Plan ?pc_Plan ?pd_Plan ?pe_Plan ?pf_Plan ?pg_Plan ?ph_Plan ?ca_Start ?pa_Start ?pb_Start ?pc_Start ?pd_Start ?pe_Start ?pf_Start ?pg_Start ?ph_Start ?qa_Start ?qb_Start ?qc_Start ?qd_Start ?qn_Start_step ?cl_Start ?co_Start ?ck_Start ?ca_Loose ?pa_Loose ?pb_Loose ?pc_Loose ?pd_Loose ?pe_Loose ?pf_Loose ?pg_Loose ?ph_Loose ?qa_Loose ?qb_Loose ?qc_Loose ?qd_Loose ?qn_Loose_many ?cl_Loose ?co_Loose ?ck_Loose ?mf_13 ?ml_13 ?mo_13 ?mk_13 ?mi_13 ?mf_2 ?ml_2 ?mo_2 ?mk_2 ?mi_2 ?mf_14 ?ml_14 ?mo_14 ?mk_14 ?mi_14 ?mf_3 ?ml_3 ?mo_3 ?mk_3 ?mi_3 ?mf_16 ?ml_16 ?mo_16 ?mk_16 ?mi_16 ?mf_5 ?ml_5 ?mo_5 ?mk_5 ?mi_5 ?mf_15 ?ml_15 ?mo_15 ?mk_15 ?mi_15 ?mf_4 ?ml_4 ?mo_4 ?mk_4 ?mi_4 ?mf_1 ?ml_1 ?mo_1 ?mk_1 ?mi_1 ?mf_10 ?ml_10 ?mo_10 ?mk_10 ?mi_10 ?mf_f ?ml_f ?mo_f ?mk_f ?mi_f ?mf_e ?ml_e ?mo_e ?mk_e ?mi_e ?mf_11 ?ml_11 ?mo_11 ?mk_11 ?mi_11 ?mf_9 ?ml_9 ?mo_9 ?mk_9 ?mi_9 ?mf_8 ?ml_8 ?mo_8 ?mk_8 ?mi_8 ?mf_7 ?ml_7 ?mo_7 ?mk_7 ?mi_7 ?mf_a ?ml_a ?mo_a ?mk_a ?mi_a ?lca_8 ?lct_8 ?lcq_8 ?lch_Loose_matrix ?lca_17 ?lct_17 ?lcq_17 ?lch_loose_node ?lca_f ?lct_f ?lcq_f ?lch_Start_matrix ?lca_18 ?lct_18 ?lcq_18 ?lch_start_make ?ltnd ?z0 ?z1 ?z2 ?z3 ?z4 ?z5 ?z6 ?z7 ?z8 ?z9 ?z10 ?z11 ?z12 ?r0 ?r1
      (case a0 => k_is)
      (case l0 => k_is)
      (case c0 => k_is)
      (case k0 => k_is)
      (case a1 => k_is)
      (case l1 => k_is)
      (case c1 => k_is)
      (case k1 => k_is)
      (case a2 => k_is)
      (case l2 => k_is)
      (case c2 => k_is)
      (case k2 => k_is)
      (case a3 => k_is)
      (case l3 => k_is)
      (case c3 => k_is)
      (case k3 => k_is)
      (case a4 => k_is)
      (case l4 => k_is)
      (case c4 => k_is)
      (case k4 => k_is)
      (case a5 => k_is)
      (case l5 => k_is)
      (case c5 => k_is)
      (case k5 => k_is)
      (case a6 => k_is)
      (case l6 => k_is)
      (case c6 => k_is)
      (case k6 => k_is)
      (case a7 => k_is)
      (case l7 => k_is)
      (case c7 => k_is)
      (case k7 => k_is)
      (case a8 => k_is)
      (case l8 => k_is)
      (case c8 => k_is)
      (case k8 => k_is)
      (case a9 => k_is)
      (case l9 => k_is)
      (case c9 => k_is)
      (case k9 => k_is)
      (case a10 => k_is)
      (case l10 => k_is)
      (case c10 => k_is)
      (case k10 => k_is)
      (case a11 => k_is)
      (case l11 => k_is)
      (case c11 => k_is)
      (case k11 => k_is)
      (case a12 => k_is)
      (case l12 => k_is)
      (case c12 => k_is)
      (case k12 => k_is)
      (case a13 => k_is)
      (case l13 => k_is)
      (case c13 => k_is)
      (case k13 => k_is)
      (case a14 => k_is)
      (case l14 => k_is)
      (case c14 => k_is)
      (case k14 => k_is)
      (case a15 => k_is)
      (case l15 => k_is)
      (case c15 => k_is)
      (case k15 => k_is)
      (case a16 => k_is)
      (case l16 => k_is)
      (case c16 => k_is)
      (case k16 => k_is)
      (case a17 => k_is)
      (case l17 => k_is)
      (case c17 => k_is)
      (case k17 => k_is)
      (case a18 => k_is)
      (case l18 => k_is)
      (case c18 => k_is)
      (case k18 => k_is)
      (case a19 => k_is)
      (case l19 => k_is)
      (case c19 => k_is)
      (case k19 => k_is)
      (case a20 => k_is)
      (case l20 => k_is)
      (case c20 => k_is)
      (case k20 => k_is)
      (case a21 => k_is)
      (case l21 => k_is)
      (case c21 => k_is)
      (case k21 => k_is)
      (case a22 => k_is)
      (case l22 => k_is)
      (case c22 => k_is)
      (case k22 => k_is)
      (case a23 => k_is)
      (case l23 => k_is)
      (case c23 => k_is)
      (case k23 => k_is)
      (case a24 => k_is)
      (case l24 => k_is)
      (case c24 => k_is)
      (case k24 => k_is)
      (case a25 => k_is)
      (case l25 => k_is)
      (case c25 => k_is)
      (case k25 => k_is)
      (case a26 => k_is)
      (case l26 => k_is)
      (case c26 => k_is)
      (case k26 => k_is)
      (case a27 => k_is)
      (case l27 => k_is)
      (case c27 => k_is)
      (case k27 => k_is)
      (case a28 => k_is)
      (case l28 => k_is)
      (case c28 => k_is)
      (case k28 => k_is)
      (case a29 => k_is)
      (case l29 => k_is)
      (case c29 => k_is)
      (case k29 => k_is)
      (case a30 => k_is)
      (case l30 => k_is)
      (case c30 => k_is)
      (case k30 => k_is)
      (case a31 => k_is)
      (case l31 => k_is)
      (case c31 => k_is)
      (case k31 => k_is)
      (case a32 => k_is)
      (case l32 => k_is)
      (case c32 => k_is)
      (case k32 => k_is)
      (case b_NOUGHT => k_is)
      (case bt_NOUGHT => kernel_rfl)
      (case b_WHOLE => k_is)
      (case bt_WHOLE => kernel_rfl)
      (case b0 => k_is)
      (case b1 => k_is)
      (case ca_SpeakError => k_is)
      (case cb_SpeakError => k_is)
      (case cc_SpeakError => kernel_rfl)
      (case cx_SpeakError => kernel_rfl)
      (case ca_NoPlan => k_is)
      (case cb_NoPlan => k_is)
      (case cc_NoPlan => kernel_rfl)
      (case cf_NoPlan => k_is)
      (case cx_NoPlan => kernel_rfl)
      (case cg_NoPlan => k_is)
      (case cl_NoPlan => k_is)
      (case co_NoPlan => k_is)
      (case ck_NoPlan => k_is)
      (case cs_NoPlan_place => kernel_rfl)
      (case ca_NoThrow => k_is)
      (case cb_NoThrow => k_is)
      (case cc_NoThrow => kernel_rfl)
      (case cf_NoThrow => k_is)
      (case cx_NoThrow => kernel_rfl)
      (case cg_NoThrow => k_is)
      (case cl_NoThrow => k_is)
      (case co_NoThrow => k_is)
      (case ck_NoThrow => k_is)
      (case cs_NoThrow_place => kernel_rfl)
      (case ca_Node => k_is)
      (case pa_Node => (first | k_is | kernel_rfl))
      (case pb_Node => (first | k_is | kernel_rfl))
      (case pc_Node => (first | k_is | kernel_rfl))
      (case pd_Node => (first | k_is | kernel_rfl))
      (case pe_Node => (first | k_is | kernel_rfl))
      (case pf_Node => (first | k_is | kernel_rfl))
      (case pg_Node => (first | k_is | kernel_rfl))
      (case ph_Node => (first | k_is | kernel_rfl))
      (case ca_Told => k_is)
      (case pa_Told => (first | k_is | kernel_rfl))
      (case pb_Told => (first | k_is | kernel_rfl))
      (case pc_Told => (first | k_is | kernel_rfl))
      (case pd_Told => (first | k_is | kernel_rfl))
      (case pe_Told => (first | k_is | kernel_rfl))
      (case pf_Told => (first | k_is | kernel_rfl))
      (case pg_Told => (first | k_is | kernel_rfl))
      (case ph_Told => (first | k_is | kernel_rfl))
      (case qa_Told => (first | k_is | kernel_rfl))
      (case qb_Told => (first | k_is | kernel_rfl))
      (case qc_Told => (first | k_is | kernel_rfl))
      (case qd_Told => (first | k_is | kernel_rfl))
      (case qn_Told_rising => (first | k_is | kernel_rfl))
      (case cl_Told => k_is)
      (case co_Told => k_is)
      (case ck_Told => k_is)
      (case ca_Die => k_is)
      (case pa_Die => (first | k_is | kernel_rfl))
      (case pb_Die => (first | k_is | kernel_rfl))
      (case pc_Die => (first | k_is | kernel_rfl))
      (case pd_Die => (first | k_is | kernel_rfl))
      (case pe_Die => (first | k_is | kernel_rfl))
      (case pf_Die => (first | k_is | kernel_rfl))
      (case pg_Die => (first | k_is | kernel_rfl))
      (case ph_Die => (first | k_is | kernel_rfl))
      (case qa_Die => (first | k_is | kernel_rfl))
      (case qb_Die => (first | k_is | kernel_rfl))
      (case qc_Die => (first | k_is | kernel_rfl))
      (case qd_Die => (first | k_is | kernel_rfl))
      (case qn_Die_makes => (first | k_is | kernel_rfl))
      (case cl_Die => k_is)
      (case co_Die => k_is)
      (case ck_Die => k_is)
      (case ca_Plan => k_is)
      (case pa_Plan => (first | k_is | kernel_rfl))
      (case pb_Plan => (first | k_is | kernel_rfl))
      (case pc_Plan => (first | k_is | kernel_rfl))
      (case pd_Plan => (first | k_is | kernel_rfl))
      (case pe_Plan => (first | k_is | kernel_rfl))
      (case pf_Plan => (first | k_is | kernel_rfl))
      (case pg_Plan => (first | k_is | kernel_rfl))
      (case ph_Plan => (first | k_is | kernel_rfl))
      (case ca_Start => k_is)
      (case pa_Start => (first | k_is | kernel_rfl))
      (case pb_Start => (first | k_is | kernel_rfl))
      (case pc_Start => (first | k_is | kernel_rfl))
      (case pd_Start => (first | k_is | kernel_rfl))
      (case pe_Start => (first | k_is | kernel_rfl))
      (case pf_Start => (first | k_is | kernel_rfl))
      (case pg_Start => (first | k_is | kernel_rfl))
      (case ph_Start => (first | k_is | kernel_rfl))
      (case qa_Start => (first | k_is | kernel_rfl))
      (case qb_Start => (first | k_is | kernel_rfl))
      (case qc_Start => (first | k_is | kernel_rfl))
      (case qd_Start => (first | k_is | kernel_rfl))
      (case qn_Start_step => (first | k_is | kernel_rfl))
      (case cl_Start => k_is)
      (case co_Start => k_is)
      (case ck_Start => k_is)
      (case ca_Loose => k_is)
      (case pa_Loose => (first | k_is | kernel_rfl))
      (case pb_Loose => (first | k_is | kernel_rfl))
      (case pc_Loose => (first | k_is | kernel_rfl))
      (case pd_Loose => (first | k_is | kernel_rfl))
      (case pe_Loose => (first | k_is | kernel_rfl))
      (case pf_Loose => (first | k_is | kernel_rfl))
      (case pg_Loose => (first | k_is | kernel_rfl))
      (case ph_Loose => (first | k_is | kernel_rfl))
      (case qa_Loose => (first | k_is | kernel_rfl))
      (case qb_Loose => (first | k_is | kernel_rfl))
      (case qc_Loose => (first | k_is | kernel_rfl))
      (case qd_Loose => (first | k_is | kernel_rfl))
      (case qn_Loose_many => (first | k_is | kernel_rfl))
      (case cl_Loose => k_is)
      (case co_Loose => k_is)
      (case ck_Loose => k_is)
      (case mf_13 => (first | k_is | kernel_rfl))
      (case ml_13 => k_is)
      (case mo_13 => k_is)
      (case mk_13 => k_is)
      (case mi_13 => (first | k_is | kernel_rfl))
      (case mf_2 => (first | k_is | kernel_rfl))
      (case ml_2 => k_is)
      (case mo_2 => k_is)
      (case mk_2 => k_is)
      (case mi_2 => (first | k_is | kernel_rfl))
      (case mf_14 => (first | k_is | kernel_rfl))
      (case ml_14 => k_is)
      (case mo_14 => k_is)
      (case mk_14 => k_is)
      (case mi_14 => (first | k_is | kernel_rfl))
      (case mf_3 => (first | k_is | kernel_rfl))
      (case ml_3 => k_is)
      (case mo_3 => k_is)
      (case mk_3 => k_is)
      (case mi_3 => (first | k_is | kernel_rfl))
      (case mf_16 => (first | k_is | kernel_rfl))
      (case ml_16 => k_is)
      (case mo_16 => k_is)
      (case mk_16 => k_is)
      (case mi_16 => (first | k_is | kernel_rfl))
      (case mf_5 => (first | k_is | kernel_rfl))
      (case ml_5 => k_is)
      (case mo_5 => k_is)
      (case mk_5 => k_is)
      (case mi_5 => (first | k_is | kernel_rfl))
      (case mf_15 => (first | k_is | kernel_rfl))
      (case ml_15 => k_is)
      (case mo_15 => k_is)
      (case mk_15 => k_is)
      (case mi_15 => (first | k_is | kernel_rfl))
      (case mf_4 => (first | k_is | kernel_rfl))
      (case ml_4 => k_is)
      (case mo_4 => k_is)
      (case mk_4 => k_is)
      (case mi_4 => (first | k_is | kernel_rfl))
      (case mf_1 => (first | k_is | kernel_rfl))
      (case ml_1 => k_is)
      (case mo_1 => k_is)
      (case mk_1 => k_is)
      (case mi_1 => (first | k_is | kernel_rfl))
      (case mf_10 => (first | k_is | kernel_rfl))
      (case ml_10 => k_is)
      (case mo_10 => k_is)
      (case mk_10 => k_is)
      (case mi_10 => (first | k_is | kernel_rfl))
      (case mf_f => (first | k_is | kernel_rfl))
      (case ml_f => k_is)
      (case mo_f => k_is)
      (case mk_f => k_is)
      (case mi_f => (first | k_is | kernel_rfl))
      (case mf_e => (first | k_is | kernel_rfl))
      (case ml_e => k_is)
      (case mo_e => k_is)
      (case mk_e => k_is)
      (case mi_e => (first | k_is | kernel_rfl))
      (case mf_11 => (first | k_is | kernel_rfl))
      (case ml_11 => k_is)
      (case mo_11 => k_is)
      (case mk_11 => k_is)
      (case mi_11 => (first | k_is | kernel_rfl))
      (case mf_9 => (first | k_is | kernel_rfl))
      (case ml_9 => k_is)
      (case mo_9 => k_is)
      (case mk_9 => k_is)
      (case mi_9 => (first | k_is | kernel_rfl))
      (case mf_8 => (first | k_is | kernel_rfl))
      (case ml_8 => k_is)
      (case mo_8 => k_is)
      (case mk_8 => k_is)
      (case mi_8 => (first | k_is | kernel_rfl))
      (case mf_7 => (first | k_is | kernel_rfl))
      (case ml_7 => k_is)
      (case mo_7 => k_is)
      (case mk_7 => k_is)
      (case mi_7 => (first | k_is | kernel_rfl))
      (case mf_a => (first | k_is | kernel_rfl))
      (case ml_a => k_is)
      (case mo_a => k_is)
      (case mk_a => k_is)
      (case mi_a => (first | k_is | kernel_rfl))
      (case lca_8 => exact rfl)
      (case lct_8 => k_is)
      (case lcq_8 => exact rfl)
      (case lch_Loose_matrix => kernel_rfl)
      (case lca_17 => exact rfl)
      (case lct_17 => k_is)
      (case lcq_17 => exact rfl)
      (case lch_loose_node => kernel_rfl)
      (case lca_f => exact rfl)
      (case lct_f => k_is)
      (case lcq_f => exact rfl)
      (case lch_Start_matrix => kernel_rfl)
      (case lca_18 => exact rfl)
      (case lct_18 => k_is)
      (case lcq_18 => exact rfl)
      (case lch_start_make => kernel_rfl)
      (case ltnd => decide)
      (case z0 => k_is)
      (case z1 => k_is)
      (case z2 => k_is)
      (case z3 => k_is)
      (case z4 => k_is)
      (case z5 => k_is)
      (case z6 => k_is)
      (case z7 => k_is)
      (case z8 => k_is)
      (case z9 => k_is)
      (case z10 => k_is)
      (case z11 => k_is)
      (case z12 => k_is)
      (case r0 => first | exact rfl | exact ⟨_, rfl⟩)
      (case r1 => first | exact rfl | exact ⟨_, rfl⟩)
    obtain ⟨a, T, e1⟩ := T
    have e1 := e1.trans hts
    have e0 := hmg.symm.trans T.m_law
    cases e0
    refine' ⟨a.d_law, ?b, ?t, ?u, fun base kb nb hB => My.ok_law T hB ?v⟩
    case b => exact T.bl
    case t =>
      intro P hP
      have hP := e1.symm ▸ hP
      simp only [My.tabs, List.map_cons, List.map_nil, List.mem_cons, List.not_mem_nil, or_false] at hP
      rcases hP with rfl | rfl | rfl | rfl
      · exact ⟨_, T.lch_Loose_matrix⟩
      · exact ⟨_, T.lch_loose_node⟩
      · exact ⟨_, T.lch_Start_matrix⟩
      · exact ⟨_, T.lch_start_make⟩
    case u =>
      intro P hP
      simp only [List.mem_cons, List.not_mem_nil, or_false] at hP
      rcases hP with rfl | rfl | rfl | rfl <;> kernel_rfl
    case v =>
      intro q hq
      rw [← e1]
      exact List.mem_map_of_mem hq
  case S => exact fun K H a ns hl hO hS => My.law_start hl hO hS
  case C => exact fun H s e s' z => z
