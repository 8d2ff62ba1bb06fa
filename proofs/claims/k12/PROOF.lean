import PyProof.Rows.All
import Wide.All
import OpenK.AllK
import Wide.FinOn
import Lean
import PyProof.EqAt
import PyProof.EqKinds
import PyProof.TupleCall
import PySem.Challenge.RW_fewspeak_k12_dice_walked
set_option Elab.async false
set_option linter.all false
set_option maxRecDepth 100000
namespace L2
open PySem PySem.Spec PyProof.Rows
abbrev Key := Sum Int Str
def keyIs : Key → Value → Bool
  | .inl k, v => Value.isInt k v
  | .inr x, v => Value.isStrOf x v
def keyH (w : World) : Key → Int
  | .inl k => hashInt k
  | .inr x => hashStr w x
theorem keyIs_shape : ∀ {k : Key} {v : Value}, keyIs k v = true → (∃ i t, k = Sum.inl i ∧ v = Value.int i t) ∨ (∃ x t, k = Sum.inr x ∧ v = Value.str x t)
  | .inl i, v, h => by
    obtain ⟨t, e⟩ := Value.isInt_shape (k := i) (v := v) h
    exact .inl ⟨i, t, rfl, e⟩
  | .inr x, v, h => by
    obtain ⟨t, e⟩ := Value.isStrOf_shape (x := x) (v := v) h
    exact .inr ⟨x, t, rfl, e⟩
theorem key_ll (a b : Int) : decide ((Sum.inl a : Key) = Sum.inl b) = (a == b) := by
  by_cases e : a = b
  · subst e; simp
  · have h : ¬ (Sum.inl a : Key) = Sum.inl b := fun q => e (Sum.inl.inj q)
    rw [decide_eq_false h]
    exact (beq_eq_false_iff_ne.mpr e).symm
theorem key_rr (a b : Str) : decide ((Sum.inr a : Key) = Sum.inr b) = decide (a = b) := by
  by_cases e : a = b
  · subst e; simp
  · have h : ¬ (Sum.inr a : Key) = Sum.inr b := fun q => e (Sum.inr.inj q)
    rw [decide_eq_false h, decide_eq_false e]
theorem key_lr (a : Int) (b : Str) : decide ((Sum.inl a : Key) = Sum.inr b) = false := decide_eq_false (fun q => nomatch q)
theorem key_rl (a : Str) (b : Int) : decide ((Sum.inr a : Key) = Sum.inl b) = false := decide_eq_false (fun q => nomatch q)
def mixKind (prog : Program) (w : World) : PySem.KeyKind prog w Key where
  is := keyIs
  hash := keyH w
  inj := fun v a b ha hb => by
    rcases keyIs_shape ha with ⟨i, t, rfl, rfl⟩ | ⟨x, t, rfl, rfl⟩
    · rcases keyIs_shape hb with ⟨j, u, rfl, e⟩ | ⟨y, u, rfl, e⟩
      · injection e with e1 _; rw [e1]
      · exact nomatch e
    · rcases keyIs_shape hb with ⟨j, u, rfl, e⟩ | ⟨y, u, rfl, e⟩
      · exact nomatch e
      · injection e with e1 _; rw [e1]
  byValue := fun k v h => by
    rcases keyIs_shape h with ⟨i, t, rfl, rfl⟩ | ⟨x, t, rfl, rfl⟩ <;> rfl
  pyHash := fun hv h => by
    rcases keyIs_shape hv with ⟨i, t, rfl, rfl⟩ | ⟨x, t, rfl, rfl⟩
    · exact wpAny_pyHash_int h
    · exact wpAny_pyHash_str h
  eqBool := fun hu hv h => by
    rcases keyIs_shape hu with ⟨i, t, rfl, rfl⟩ | ⟨x, t, rfl, rfl⟩
    · rcases keyIs_shape hv with ⟨j, u, rfl, rfl⟩ | ⟨y, u, rfl, rfl⟩
      · rw [key_ll] at h; exact wpAny_eqBool_int h
      · rw [key_lr] at h; exact SeqAt.EqAt.int_str i t y u _ _ _ _ h
    · rcases keyIs_shape hv with ⟨j, u, rfl, rfl⟩ | ⟨y, u, rfl, rfl⟩
      · rw [key_rl] at h; exact SeqAt.EqAt.str_int x t j u _ _ _ _ h
      · rw [key_rr] at h; exact wpAny_eqBool_str h
  «strs» := fun k x t v h => by
    rcases keyIs_shape h with ⟨i, u, rfl, e⟩ | ⟨y, u, rfl, e⟩
    · exact nomatch e
    · injection e with e1 _
      subst e1
      cases v <;> rfl
end L2
namespace L2
open PySem PySem.Spec PyProof.Rows
inductive V where
  | non | bl (b : Bool) | int (i : Int) | str (x : Str) | byt (b : Array UInt8) | flt (b : UInt64) | ref (a : Addr) | ty (n : String)
  deriving DecidableEq
def RelV : V → Value → Prop
  | .non, u => u = Value.none
  | .bl b, u => u = Value.bool b
  | .int i, u => ∃ t, u = Value.int i t
  | .str x, u => ∃ t, u = Value.str x t
  | .byt b, u => ∃ t, u = Value.bytes b t
  | .flt b, u => ∃ t, u = Value.float b t
  | .ref a, u => u = Value.ref a
  | .ty n, u => u = Value.type n
abbrev Vals : List V → List Value → Prop := Paired RelV
theorem Vals.length {xs : List V} {us : List Value} (r : Vals xs us) : xs.length = us.length := Paired.length r
theorem Vals.get : ∀ {xs : List V} {us : List Value} {i : Nat} {x : V}, Vals xs us → xs[i]? = some x → ∃ u, us[i]? = some u ∧ RelV x u
  | _, _, _, _, .nil, e => by simp at e
  | _, _, 0, _, .cons r _, e => by simp at e; subst e; exact ⟨_, rfl, r⟩
  | _, _, i + 1, x, .cons _ t, e => by
    obtain ⟨u, h1, h2⟩ := Vals.get (i := i) (x := x) t (by simpa using e)
    exact ⟨u, by simpa using h1, h2⟩
theorem Vals.set {x : V} {u : Value} (r : RelV x u) : ∀ {xs : List V} {us : List Value} (i : Nat), Vals xs us → Vals (xs.set i x) (us.set i u)
  | _, _, _, .nil => .nil
  | _, _, 0, .cons _ t => .cons r t
  | _, _, i + 1, .cons q t => .cons q (Vals.set r i t)
theorem Vals.append : ∀ {xs ys : List V} {us ws : List Value}, Vals xs us → Vals ys ws → Vals (xs ++ ys) (us ++ ws)
  | _, _, _, _, .nil, s => s
  | _, _, _, _, .cons r t, s => .cons r (Vals.append t s)
theorem Vals.take : ∀ {xs : List V} {us : List Value} (n : Nat), Vals xs us → Vals (xs.take n) (us.take n)
  | _, _, 0, _ => .nil
  | _, _, _ + 1, .nil => .nil
  | _, _, n + 1, .cons r t => .cons r (Vals.take n t)
theorem Vals.drop : ∀ {xs : List V} {us : List Value} (n : Nat), Vals xs us → Vals (xs.drop n) (us.drop n)
  | _, _, 0, r => r
  | _, _, _ + 1, .nil => .nil
  | _, _, n + 1, .cons _ t => Vals.drop n t
def RelO : Option V → Option Value → Prop
  | some v, some u => RelV v u
  | none, none => True
  | _, _ => False
def KV {κ : Type} : List (κ × V) → List (κ × Value) → Prop := Paired fun (p : κ × V) (q : κ × Value) => p.1 = q.1 ∧ RelV p.2 q.2
def kV : Key → V
  | .inl i => .int i
  | .inr x => .str x
inductive HO where
  | lst (xs : List V)
  | tup (xs : List V)
  | dK (kvs : List (Key × V)) | dT (kvs : List (List Key × V))
  | set (S : Int → Bool) (n : Nat)
  | ins (C dx : Addr) (fs : List (Str × V))
  | own (x : Addr)
  | xd (fs : List (Str × V))
  | met (f x : Addr)
  | rng (lo hi : Int)
  | frz (o : Obj) (u : HO)
  | tbl (ps : Array Value)
  | ext (φ : Heap → Prop)
abbrev Hp := Addr → Option HO
def upd (H : Hp) (a : Addr) (o : HO) : Hp := fun b => if b = a then some o else H b
theorem upd_same {H : Hp} {a : Addr} {o : HO} : upd H a o a = some o := by unfold upd; rw [if_pos rfl]
theorem upd_ne {H : Hp} {a b : Addr} {o : HO} (h : b ≠ a) : upd H a o b = H b := by unfold upd; rw [if_neg h]
theorem ne_of_none {H : Hp} {a b : Addr} {o : HO} (h : H a = some o) (h' : H b = none) : a ≠ b := by
  intro e; subst e; rw [h] at h'; cases h'
section
variable (P : Program) (w : World)
def ObjOk (H : Hp) (h : Heap) (a : Addr) : HO → Prop
  | .lst xs => xs.length ≤ sizeLine ∧ ∃ (its : List Value) (n : Nat), Vals xs its ∧ h.get? a = some { cls := .type "list", data := .seq its.toArray n }
  | .tup xs => xs.length ≤ sizeLine ∧ ∃ its : List Value, Vals xs its ∧ IsTup h a its.toArray
  | .dK kvs => kvs.length ≤ sizeLine ∧ (a == sysModules) = false ∧ ∃ vs, KV kvs vs ∧ h.DictOf (mixKind P w) a vs
  | .dT kvs => kvs.length ≤ sizeLine ∧ (a == sysModules) = false ∧ ∃ xs : List (List Key × Addr × Value),
      Paired (fun (p : List Key × V) (q : List Key × Addr × Value) => p.1 = q.1 ∧ H q.2.1 = some (.tup (p.1.map kV)) ∧ RelV p.2 q.2.2) kvs xs ∧
      ∃ o es ep, h.get? a = some o ∧ o.ExactDict ∧ o.data = .dict es ep ∧ es.toList = xs.map (entryOfKey (tupleKind (mixKind P w))) ∧ (xs.map (·.1)).Nodup
  | .set S n => h.SetOf (intKind P w) a S n
  | .ins C dx fs => H dx = some (.own a) ∧ fs.length ≤ 1000 ∧ dx ≠ a ∧ h.get? a = some (PySem.W.instObj C dx) ∧
      ∃ mA, h.Ns1 dx mA ∧ (∀ f, RelO (fs.lookup f) (mA f)) ∧ PySem.Within mA (fs.map (·.1))
  | .own _ => ∃ o, h.get? a = some o
  | .xd fs => ∃ mA, h.Ns1 a mA ∧ ∀ f, RelO (fs.lookup f) (mA f)
  | .rng lo hi => ∃ t u v, h.get? a = some { cls := .type "range", data := .fields #[.int lo t, .int hi u, .int 1 v] }
  | .frz o u => h.get? a = some o ∧ ObjOk H h a u
  | .tbl ps => h.get? a = some { cls := .none, data := .fields ps }
  | .met f x => h.get? a = some (PySem.W.methodObj (.ref f) (.ref x))
  | .ext φ => φ h ∧ (∃ o, h.get? a = some o) ∧ ∀ h1 h2 : Heap, φ h1 → (∀ o, h1.get? a = some o → h2.get? a = some o) → φ h2
def HOk (H : Hp) (h : Heap) : Prop := ∀ a o, H a = some o → ObjOk P w H h a o
end
section
variable {P : Program} {w : World} {H H' : Hp} {h h' : Heap} {a : Addr} {o : HO}
theorem ObjOk.lt (x : ObjOk P w H h a o) : a < h.objs.size := by
  cases o with
  | lst xs => obtain ⟨_, _, _, _, e⟩ := x; exact Heap.lt_size e
  | tup xs => obtain ⟨_, _, _, p⟩ := x; exact p.lt
  | dK kvs => obtain ⟨_, _, _, _, o, _, _, e, _⟩ := x; exact Heap.lt_size e
  | dT kvs => obtain ⟨_, _, _, _, o, _, _, e, _⟩ := x; exact Heap.lt_size e
  | set S n => obtain ⟨o, _, _, _, e, _⟩ := x; exact Heap.lt_size e
  | ins C dx fs => obtain ⟨_, _, _, e, _⟩ := x; exact Heap.lt_size e
  | own y => obtain ⟨_, e⟩ := x; exact Heap.lt_size e
  | xd fs => obtain ⟨_, ⟨_, _, _, e, _⟩, _⟩ := x; exact Heap.lt_size e
  | rng lo hi => obtain ⟨_, _, _, e⟩ := x; exact Heap.lt_size e
  | frz ob u => obtain ⟨e, _⟩ := x; exact Heap.lt_size e
  | tbl ps => exact Heap.lt_size (show h.get? a = some _ from x)
  | met f y => exact Heap.lt_size (show h.get? a = some _ from x)
  | ext φ => obtain ⟨_, ⟨_, e⟩, _⟩ := x; exact Heap.lt_size e
theorem Paired.mapP {α β : Type} {F G : α → β → Prop} : ∀ {l₁ : List α} {l₂ : List β}, Paired F l₁ l₂ → (∀ a b, F a b → G a b) → Paired G l₁ l₂
  | _, _, .nil, _ => .nil
  | _, _, .cons r t, f => .cons (f _ _ r) (Paired.mapP t f)
theorem ObjOk.stay (x : ObjOk P w H h a o) (k : ∀ b u, (b = a ∨ H b = some (.own a)) → h.get? b = some u → h'.get? b = some u)
    (ho : ∀ b, H b = some (.own a) → H' b = some (.own a)) (ht : ∀ b xs, H b = some (.tup xs) → H' b = some (.tup xs)) : ObjOk P w H' h' a o := by
  induction o with
  | lst xs => obtain ⟨z, its, n, r, e⟩ := x; exact ⟨z, its, n, r, k _ _ (.inl rfl) e⟩
  | tup xs => obtain ⟨z, its, r, ob, e, c⟩ := x; exact ⟨z, its, r, ob, k _ _ (.inl rfl) e, c⟩
  | dK kvs => obtain ⟨z, y, vs, r, ob, es, ep, e, c⟩ := x; exact ⟨z, y, vs, r, ob, es, ep, k _ _ (.inl rfl) e, c⟩
  | dT kvs =>
    obtain ⟨z, y, xs, r, ob, es, ep, e, c⟩ := x
    exact ⟨z, y, xs, Paired.mapP r fun p q z => ⟨z.1, ht _ _ z.2.1, z.2.2⟩, ob, es, ep, k _ _ (.inl rfl) e, c⟩
  | set S n => obtain ⟨ob, es, ep, t, e, c⟩ := x; exact ⟨ob, es, ep, t, k _ _ (.inl rfl) e, c⟩
  | ins C dx fs =>
    obtain ⟨d, z, ne, e, mA, ⟨od, es, ep, e2, c⟩, r⟩ := x
    exact ⟨ho _ d, z, ne, k _ _ (.inl rfl) e, mA, ⟨od, es, ep, k _ _ (.inr d) e2, c⟩, r⟩
  | own y => obtain ⟨ob, e⟩ := x; exact ⟨ob, k _ _ (.inl rfl) e⟩
  | xd fs => obtain ⟨mA, ⟨od, es, ep, e, c⟩, r⟩ := x; exact ⟨mA, ⟨od, es, ep, k _ _ (.inl rfl) e, c⟩, r⟩
  | rng lo hi => obtain ⟨t, u, v, e⟩ := x; exact ⟨t, u, v, k _ _ (.inl rfl) e⟩
  | frz ob u ih => obtain ⟨e, q⟩ := x; exact ⟨k _ _ (.inl rfl) e, ih q⟩
  | tbl ps =>
    have e : h.get? a = some { cls := .none, data := .fields ps } := x
    show h'.get? a = some { cls := .none, data := .fields ps }
    exact k a _ (.inl rfl) e
  | met f y =>
    have e : h.get? a = some (PySem.W.methodObj (.ref f) (.ref y)) := x
    show h'.get? a = some (PySem.W.methodObj (.ref f) (.ref y))
    exact k a _ (.inl rfl) e
  | ext φ => obtain ⟨p, ⟨o, e⟩, st⟩ := x; exact ⟨st _ _ p fun o q => k _ _ (.inl rfl) q, ⟨o, k _ _ (.inl rfl) e⟩, st⟩
theorem HOk.lt (x : HOk P w H h) (e : H a = some o) : a < h.objs.size := (x a o e).lt
theorem HOk.fresh (x : HOk P w H h) (e : h.objs.size ≤ a) : H a = none := by
  cases q : H a with
  | none => rfl
  | some u => exact absurd (Nat.lt_of_lt_of_le (x.lt q) e) (Nat.lt_irrefl _)
theorem HOk.kept (x : HOk P w H h) (k : ∀ b u, h.get? b = some u → h'.get? b = some u) : HOk P w H h' := fun a o e =>
  (x a o e).stay (fun b u _ q => k b u q) (fun _ q => q) fun _ _ q => q
theorem HOk.laid (x : HOk P w H h) (k : ∀ b u, h.get? b = some u → h'.get? b = some u) (hp : h.objs.size ≤ a) (new : ObjOk P w (upd H a o) h' a o) : HOk P w (upd H a o) h' := fun b u e => by
  have hn := x.fresh hp
  by_cases hb : b = a
  · subst hb; rw [upd_same] at e; cases e; exact new
  · rw [upd_ne hb] at e
    exact (x b u e).stay (fun c v _ q => k c v q) (fun c q => by rw [upd_ne (ne_of_none q hn)]; exact q) fun c xs q => by rw [upd_ne (ne_of_none q hn)]; exact q
end
def Rd (H : Hp) (a : Addr) (u : HO) : Prop := H a = some u ∨ ∃ o, H a = some (.frz o u)
theorem Rd.ok {P : Program} {w : World} {H : Hp} {h : Heap} {a : Addr} {u : HO} (r : Rd H a u) (x : HOk P w H h) : ObjOk P w H h a u := by
  rcases r with r | ⟨o, r⟩
  · exact x a u r
  · obtain ⟨_, q⟩ := x a _ r
    exact q
def Mut : Option HO → Prop
  | some (.lst _) => True
  | some (.dK _) => True
  | some (.dT _) => True
  | some (.set _ _) => True
  | some (.ins _ _ _) => True
  | some (.ext _) => True
  | _ => False
section
variable {P : Program} {w : World} {H : Hp} {h h' : Heap} {x e : Addr} {o' : HO}
theorem HOk.write (ok : HOk P w H h) (mu : Mut (H x)) (he : e = x ∨ H e = some (.own x)) (k : ∀ b u, b ≠ e → h.get? b = some u → h'.get? b = some u) (heo : ∃ u, h'.get? e = some u)
    (new : ObjOk P w (upd H x o') h' x o') : HOk P w (upd H x o') h' := fun b u q => by
  have nown : ∀ c y, H c = some (.own y) → c ≠ x := fun c y r z => by subst z; rw [r] at mu; exact mu
  have ntup : ∀ c xs, H c = some (.tup xs) → c ≠ x := fun c xs r z => by subst z; rw [r] at mu; exact mu
  by_cases hb : b = x
  · subst hb; rw [upd_same] at q; cases q; exact new
  · rw [upd_ne hb] at q
    by_cases hbe : b = e
    · have q' : H b = some (.own x) := by
        rcases he with z | z
        · exact absurd (hbe.trans z) hb
        · rw [hbe]; exact z
      rw [q] at q'; cases q'
      obtain ⟨v, hv⟩ := heo
      exact ⟨v, by rw [hbe]; exact hv⟩
    · refine (ok b u q).stay (fun c v hc r => k c v ?_ r) (fun c r => by rw [upd_ne (nown c b r)]; exact r) fun c xs r => by rw [upd_ne (ntup c xs r)]; exact r
      rcases hc with rfl | hc
      · exact hbe
      · rintro rfl
        rcases he with z | z
        · exact nown c b hc z
        · rw [hc] at z; cases z; exact hb rfl
end
structure Un (fs ex : List Addr) (H H' : Hp) (h h' : Heap) : Prop where
  keep : ∀ b o, h.get? b = some o → H b = none → b ∉ fs → b ∉ ex → h'.get? b = some o
  slot : ∀ b o, h.get? b = some o → H b = none → b ∈ fs → b ∉ ex → ∃ sl, h'.get? b = some { o with slots := sl }
  free : ∀ b o, h.get? b = some o → H b = none → b ∉ ex → H' b = none
  there : ∀ b o, h.get? b = some o → b ∉ ex → ∃ o', h'.get? b = some o'
  tups : ∀ b xs, H b = some (.tup xs) → H' b = some (.tup xs)
  frzs : ∀ b o u, H b = some (.frz o u) → H' b = some (.frz o u)
  tbls : ∀ b ps, H b = some (.tbl ps) → ∃ more, H' b = some (.tbl (ps ++ more))
section
variable {fs fs' ex ex' : List Addr} {H H1 H2 : Hp} {h h1 h2 h' : Heap} {a x e : Addr} {o : HO}
theorem Un.any (u : Un fs ex H H1 h h1) {b : Addr} {ob : Obj} (q : h.get? b = some ob) (n : H b = none) (hx : b ∉ ex) : ∃ sl, h1.get? b = some { ob with slots := sl } := by
  by_cases hb : b ∈ fs
  · exact u.slot b ob q n hb hx
  · exact ⟨ob.slots, u.keep b ob q n hb hx⟩
theorem Un.trans (a : Un fs ex H H1 h h1) (b : Un fs ex H1 H2 h1 h2) : Un fs ex H H2 h h2 where
  keep := fun c ob q n hc hx => b.keep c ob (a.keep c ob q n hc hx) (a.free c ob q n hx) hc hx
  slot := fun c ob q n hc hx => by
    obtain ⟨sl, e1⟩ := a.slot c ob q n hc hx
    obtain ⟨sl', e2⟩ := b.slot c _ e1 (a.free c ob q n hx) hc hx
    exact ⟨sl', e2⟩
  free := fun c ob q n hx => by
    obtain ⟨o', e1⟩ := a.there c ob q hx
    exact b.free c o' e1 (a.free c ob q n hx) hx
  there := fun c ob q hx => by
    obtain ⟨o', e1⟩ := a.there c ob q hx
    exact b.there c o' e1 hx
  tups := fun c xs q => b.tups c xs (a.tups c xs q)
  frzs := fun c ob xs q => b.frzs c ob xs (a.frzs c ob xs q)
  tbls := fun c ps q => by
    obtain ⟨m1, e1⟩ := a.tbls c ps q
    obtain ⟨m2, e2⟩ := b.tbls c _ e1
    exact ⟨m1 ++ m2, by rw [e2, Array.append_assoc]⟩
theorem Un.kept (k : ∀ b u, h.get? b = some u → h'.get? b = some u) : Un fs ex H H h h' :=
  ⟨fun b ob q _ _ _ => k b ob q, fun b ob q _ _ _ => ⟨ob.slots, k b ob q⟩, fun _ _ _ n _ => n, fun b ob q _ => ⟨ob, k b ob q⟩, fun _ _ q => q, fun _ _ _ q => q, fun _ ps q => ⟨#[], by rw [q]; simp⟩⟩
theorem Un.refl : Un fs ex H H h h := Un.kept fun _ _ q => q
theorem Un.laid (k : ∀ b u, h.get? b = some u → h'.get? b = some u) (hp : h.objs.size ≤ a) (hn : H a = none) : Un fs ex H (upd H a o) h h' where
  keep := fun b u q _ _ _ => k b u q
  slot := fun b u q _ _ _ => ⟨u.slots, k b u q⟩
  free := fun b u q n _ => by rw [upd_ne (Nat.ne_of_lt (Nat.lt_of_lt_of_le (Heap.lt_size q) hp))]; exact n
  there := fun b u q _ => ⟨u, k b u q⟩
  tups := fun b xs q => by rw [upd_ne (ne_of_none q hn)]; exact q
  frzs := fun b u xs q => by rw [upd_ne (ne_of_none q hn)]; exact q
  tbls := fun b ps q => ⟨#[], by rw [upd_ne (ne_of_none q hn), q]; simp⟩
theorem Un.write (mu : Mut (H x)) (he : e = x ∨ H e = some (.own x)) (k : ∀ b u, b ≠ e → h.get? b = some u → h'.get? b = some u) (heo : ∃ u, h'.get? e = some u) : Un fs ex H (upd H x o) h h' := by
  have hx : ∀ b, H b = none → b ≠ x := fun b n z => by subst z; rw [n] at mu; exact mu
  have hb : ∀ b, H b = none → b ≠ e := fun b n z => by
    subst z
    rcases he with r | r
    · exact hx b n r
    · rw [n] at r; cases r
  have hm : ∀ b u, H b = some u → ¬ Mut (some u) → b ≠ x := fun b u q nm z => by subst z; rw [q] at mu; exact nm mu
  refine ⟨fun b u q n _ _ => k b u (hb b n) q, fun b u q n _ _ => ⟨u.slots, k b u (hb b n) q⟩, fun b u q n _ => by rw [upd_ne (hx b n)]; exact n, fun b u q _ => ?_,
    fun b xs q => by rw [upd_ne (hm b _ q fun z => z)]; exact q, fun b u xs q => by rw [upd_ne (hm b _ q fun z => z)]; exact q, fun b ps q => ⟨#[], by rw [upd_ne (hm b _ q fun z => z), q]; simp⟩⟩
  by_cases hbe : b = e
  · subst hbe; exact heo
  · exact ⟨u, k b u hbe q⟩
end
def trk (h : Heap) (H : Hp) : List Addr := (List.range h.objs.size).filter fun a => (H a).isSome
def hidT (h : Heap) (H : Hp) : Heap := PySem.W.hideAll h (trk h H)
theorem hidT_size (h : Heap) (H : Hp) : (hidT h H).objs.size = h.objs.size := PySem.W.hideAll_size _ _
theorem hidT_get {h : Heap} {H : Hp} {b : Addr} {o : Obj} (e : h.get? b = some o) (n : H b = none) : (hidT h H).get? b = some o :=
  PySem.W.hideAll_get _ e fun hm => by
    have q : (H b).isSome = true := (List.mem_filter.mp hm).2
    rw [n] at q; simp at q
theorem of_hidT {h : Heap} {H : Hp} {b : Addr} {o : Obj} (e : (hidT h H).get? b = some o) : h.get? b = some o ∧ H b = none := by
  have e' : h.get? b = some o := PySem.W.of_hideAll (trk h H) e
  refine ⟨e', ?_⟩
  cases q : H b with
  | none => rfl
  | some x =>
    have hm : b ∈ trk h H := List.mem_filter.mpr ⟨List.mem_range.mpr (Heap.lt_size e'), by simp [q]⟩
    have z : (hidT h H).get? b = none := PySem.W.hideAll_none (trk h H) hm
    rw [z] at e; cases e
def allNews (g h : Heap) (L : Addr) : List (Addr × Obj) := (List.range h.objs.size).filterMap fun a => if a = L ∨ (g.get? a).isSome = true then none else (h.get? a).map fun o => (a, o)
def rest (g h : Heap) (L d : Addr) : List (Addr × Obj) := (allNews g h L).filter fun p => decide (p.1 ≠ d)
end L2
namespace L2
open PySem PySem.Spec PyProof.Rows
structure Mod (K : PySem.W.Frag) (mg : Str → Option Value) (base : Heap) : Prop where
  kin : K.In base
  glob : base.Ns mainGlobals mg
  blt : ∃ mb, base.Ns builtinsNs mb ∧ ∀ x : Str, x ≠ "__name__" → mb x = bootBuiltins x
  nolimit : base.NoLimit
/-- the context: a def's body (or a comprehension's block) running. base: fixed through the whole law; s₀, H₀: the entry; outer: the frames whose slots others may change (a def's callers); stack: all frames that run;
   ex: iterators that were made ahead of the entry and are walked here (a comprehension's); fn: the names whose cells were made at the entry (a def: all; a comprehension's block: its own); calm: not within an except suite; pn: pins that every state bears; xe: what is wanted of an exception that leaves the code -/
structure Cx where
  prog : Program
  w : World
  K : PySem.W.Frag
  mg : Str → Option Value
  base : Heap
  A : Around
  N : List Str
  s₀ : Shared
  H₀ : Hp
  env : Env
  outer : List Env
  stack : List Env
  ex : List Addr
  fn : Str → Bool
  calm : Bool
  pn : List (Addr × Obj)
  xe : Value → Shared → Prop
def frs (l : List Env) : List Addr := l.filterMap (·.frame)
abbrev Cx.fs (X : Cx) : List Addr := frs X.outer
def Vis (sc : Scope) (x : Str) : Prop := sc.names.lookup x = some .local ∨ sc.names.lookup x = some .cell ∨ sc.names.lookup x = some .free
def Loc (sc : Scope) (x : Str) : Prop := sc.names.lookup x = some .local ∨ sc.names.lookup x = some .cell
def Look (env : Env) (h : Heap) (m : Str → Option Value) (x : Str) (u : Value) : Prop :=
  (env.kindOf x = some .local ∧ m x = some u) ∨ ((env.kindOf x = some .cell ∨ env.kindOf x = some .free) ∧ ∃ c, env.cells.lookup x = some c ∧ h.IsCell c (some u))
structure Cx.Ok (X : Cx) : Prop where
  mod : Mod X.K X.mg X.base
  kind : X.env.scope.kind = .function
  glob : X.env.globals = mainGlobals
  blt : X.env.builtins = builtinsNs
  above : X.s₀.heap.objs.size ≤ X.env.locals
  inj : ∀ x y c, X.env.cells.lookup x = some c → X.env.cells.lookup y = some c → x = y
  has : ∀ x, (X.env.kindOf x = some .cell ∨ X.env.kindOf x = some .free) → ∃ c, X.env.cells.lookup x = some c
  cab : ∀ x c, X.fn x = true → X.env.cells.lookup x = some c → X.s₀.heap.objs.size ≤ c
  hd : X.calm = true → X.A.handled = none
  frames : X.A.frames = some X.stack
  stk : X.stack = X.outer ∨ (X.stack = X.env :: X.outer ∧ X.env.frame = some X.env.locals)
  exf : ∀ b ∈ X.ex, b ≠ X.env.locals ∧ ∀ x c, X.env.cells.lookup x = some c → c ≠ b
  bs : ∀ b o, X.base.get? b = some o → X.s₀.heap.get? b = some o ∧ X.H₀ b = none
  bsz : X.base.objs.size ≤ X.s₀.heap.objs.size
  noex : ∀ b o, X.base.get? b = some o → b ∉ X.ex
  exfs : ∀ b ∈ X.ex, b ∉ X.fs
  funs : X.s₀.heap.FunFrames X.base X.outer
  frf : ∀ b ∈ X.fs, X.H₀ b = none
structure Inv (X : Cx) (pins : List (Addr × Obj)) (σ : List (Option V)) (H : Hp) (s : Shared) : Prop where
  ok : X.Ok
  os : s.os = X.s₀.os
  bare : AllBare s.gens
  base : Un X.fs X.ex X.H₀ H X.s₀.heap s.heap
  loc : ∃ m, s.heap.Ns X.env.locals m ∧ ∀ (i : Nat) (x : Str) (v : V), X.N[i]? = some x → σ[i]? = some (some v) → Vis X.env.scope x → ∃ u, RelV v u ∧ Look X.env s.heap m x u
  cell : ∀ x c, X.env.cells.lookup x = some c → ∃ v, s.heap.IsCell c v
  free : H X.env.locals = none
  freeC : ∀ x c, X.env.cells.lookup x = some c → H c = none
  pin : ∀ p ∈ X.pn ++ pins, s.heap.get? p.1 = some p.2 ∧ H p.1 = none ∧ p.1 ≠ X.env.locals ∧ p.1 ∉ X.fs ∧ ∀ v, p.2.data ≠ .cell v
  hok : HOk X.prog X.w H s.heap
  len : σ.length = X.N.length
section
variable {X : Cx} {pins : List (Addr × Obj)} {σ : List (Option V)} {H H' : Hp} {s : Shared} {h' : Heap}
theorem Cx.Ok.nofr (ok : X.Ok) {b : Addr} {o : Obj} (e : X.base.get? b = some o) : b ∉ X.fs := fun hb => by
  have := (ok.funs.mem hb).1
  rw [e] at this; cases this
theorem Inv.bs (I : Inv X pins σ H s) : ∀ b o, X.base.get? b = some o → s.heap.get? b = some o ∧ H b = none := fun b o e =>
  ⟨I.base.keep b o (I.ok.bs b o e).1 (I.ok.bs b o e).2 (I.ok.nofr e) (I.ok.noex b o e), I.base.free b o (I.ok.bs b o e).1 (I.ok.bs b o e).2 (I.ok.noex b o e)⟩
theorem Inv.bk (I : Inv X pins σ H s) : ∀ b o, X.base.get? b = some o → s.heap.get? b = some o := fun b o e => (I.bs b o e).1
theorem Inv.mod (I : Inv X pins σ H s) : Mod X.K X.mg X.base := I.ok.mod
theorem Inv.kIn (I : Inv X pins σ H s) : X.K.In s.heap := I.ok.mod.kin.keeps I.bk
theorem Inv.lt (I : Inv X pins σ H s) : X.env.locals < s.heap.objs.size := let ⟨_, hn, _⟩ := I.loc; hn.lt
theorem Inv.sz (I : Inv X pins σ H s) : X.s₀.heap.objs.size ≤ s.heap.objs.size := Nat.le_trans I.ok.above (Nat.le_of_lt I.lt)
theorem Inv.nofs (I : Inv X pins σ H s) {a : Addr} (h : s.heap.objs.size ≤ a) : a ∉ X.fs := fun hb => by
  obtain ⟨_, o, ho, _⟩ := I.ok.funs.mem hb
  exact absurd (Nat.lt_of_lt_of_le (Heap.lt_size ho) (Nat.le_trans I.sz h)) (Nat.lt_irrefl _)
theorem Inv.cne (I : Inv X pins σ H s) : ∀ x c, X.env.cells.lookup x = some c → c ≠ X.env.locals := fun x c e z => by
  obtain ⟨v, o, ho, hd⟩ := I.cell x c e
  obtain ⟨m, ⟨o', es, ep, ho', hd', _⟩, _⟩ := I.loc
  rw [z, ho'] at ho; cases ho; rw [hd'] at hd; cases hd
theorem Inv.funs (I : Inv X pins σ H s) : s.heap.FunFrames X.base X.outer := by
  have all : ∀ (l : List Env), (∀ b ∈ frs l, b ∈ X.fs) → X.s₀.heap.FunFrames X.base l → s.heap.FunFrames X.base l := by
    intro l
    induction l with
    | nil => intro _ _; trivial
    | cons env r ih =>
      intro hs hl
      obtain ⟨hk, ⟨L, o, hf, hn, ho, hd⟩, hr⟩ := hl
      have hL : L ∈ X.fs := hs L (by unfold frs; rw [List.filterMap_cons, hf]; exact List.mem_cons_self)
      obtain ⟨sl, e⟩ := I.base.slot L o ho (I.ok.frf L hL) hL fun z => I.ok.exfs L z hL
      exact ⟨hk, ⟨L, _, hf, hn, e, hd⟩, ih (fun b hb => hs b (by unfold frs; rw [List.filterMap_cons, hf]; exact List.mem_cons_of_mem _ hb)) hr⟩
  exact all X.outer (fun _ hb => hb) I.ok.funs
theorem Inv.stack (I : Inv X pins σ H s) : s.heap.FunFrames X.base X.stack := by
  rcases I.ok.stk with e | ⟨e, hf⟩
  · rw [e]; exact I.funs
  · rw [e]
    obtain ⟨m, hn, _⟩ := I.loc
    refine .cons (by rw [I.ok.kind]; decide) hf hn ?_ I.funs
    exact Heap.get?_none_of_le (Nat.le_trans I.ok.bsz I.ok.above)
theorem Inv.stkSub (I : Inv X pins σ H s) : ∀ b ∈ frs X.stack, b ∈ X.env.locals :: X.fs := fun b hb => by
  rcases I.ok.stk with e | ⟨e, hf⟩
  · rw [e] at hb; exact List.mem_cons_of_mem _ hb
  · rw [e] at hb
    unfold frs at hb
    rw [List.filterMap_cons, hf] at hb
    exact hb
theorem Inv.stkFree (I : Inv X pins σ H s) : ∀ b ∈ frs X.stack, H b = none := fun b hb => by
  rcases List.mem_cons.mp (I.stkSub b hb) with e | hb
  · rw [e]; exact I.free
  · obtain ⟨_, o, ho, _⟩ := I.ok.funs.mem hb
    exact I.base.free b o ho (I.ok.frf b hb) fun z => I.ok.exfs b z hb
theorem Inv.step {g' : Array GenState} {t' : Nat} {d' : Drawn} {ch : List Addr} (I : Inv X pins σ H s)
    (hch : ∀ b ∈ ch, (b ∈ X.ex ∨ X.s₀.heap.objs.size ≤ b) ∧ b ≠ X.env.locals ∧ (∀ x c, X.env.cells.lookup x = some c → c ≠ b) ∧ ∀ p ∈ X.pn ++ pins, p.1 ≠ b)
    (keep : ∀ b o, b ≠ X.env.locals → b ∉ X.fs → b ∉ ch → s.heap.get? b = some o → H b = none → h'.get? b = some o)
    (slot : ∀ b o, b ≠ X.env.locals → b ∈ X.fs → b ∉ ch → s.heap.get? b = some o → H b = none → ∃ sl, h'.get? b = some { o with slots := sl }) (free : ∀ b o, b ∉ ch → s.heap.get? b = some o → H b = none → H' b = none)
    (there : ∀ b o, b ∉ ch → s.heap.get? b = some o → ∃ o', h'.get? b = some o')
    (tups : ∀ b xs, H b = some (.tup xs) → H' b = some (.tup xs)) (frzs : ∀ b o u, H b = some (.frz o u) → H' b = some (.frz o u)) (tbls : ∀ b ps, H b = some (.tbl ps) → ∃ more, H' b = some (.tbl (ps ++ more)))
    (ns : ∀ m, s.heap.Ns X.env.locals m → h'.Ns X.env.locals m) (hok : HOk X.prog X.w H' h') (hg : AllBare g') :
    Inv X pins σ H' { s with heap := h', gens := g', drawn := d', toks := t' } := by
  have neL : ∀ b o, X.s₀.heap.get? b = some o → b ≠ X.env.locals := fun b o e => Nat.ne_of_lt (Nat.lt_of_lt_of_le (Heap.lt_size e) I.ok.above)
  have neC : ∀ b o, X.s₀.heap.get? b = some o → b ∉ X.ex → b ∉ ch := fun b o e hx hb => by
    rcases (hch b hb).1 with z | z
    · exact hx z
    · exact absurd (Nat.lt_of_lt_of_le (Heap.lt_size e) z) (Nat.lt_irrefl _)
  have cellK : ∀ x c, X.env.cells.lookup x = some c → ∀ v, s.heap.IsCell c v → h'.IsCell c v := fun x c e v ⟨o, ho, hd⟩ => by
    have nch : c ∉ ch := fun z => (hch c z).2.2.1 x c e rfl
    by_cases hc : c ∈ X.fs
    · obtain ⟨sl, q⟩ := slot c o (I.cne x c e) hc nch ho (I.freeC x c e)
      exact ⟨_, q, hd⟩
    · exact ⟨o, keep c o (I.cne x c e) hc nch ho (I.freeC x c e), hd⟩
  refine ⟨I.ok, I.os, hg, ⟨fun b o e n hb hx => ?_, fun b o e n hb hx => ?_, fun b o e n hx => ?_, fun b o e hx => ?_, fun b xs e => tups b xs (I.base.tups b xs e), fun b o xs e => frzs b o xs (I.base.frzs b o xs e), fun b ps e => ?_⟩, ?_, fun x c e => ?_, ?_, fun x c e => ?_, fun p hp => ?_, hok, I.len⟩
  · exact keep b o (neL b o e) hb (neC b o e hx) (I.base.keep b o e n hb hx) (I.base.free b o e n hx)
  · obtain ⟨sl, e1⟩ := I.base.slot b o e n hb hx
    obtain ⟨sl', e2⟩ := slot b _ (neL b o e) hb (neC b o e hx) e1 (I.base.free b o e n hx)
    exact ⟨sl', e2⟩
  · obtain ⟨o', e1⟩ := I.base.there b o e hx
    exact free b o' (neC b o e hx) e1 (I.base.free b o e n hx)
  · obtain ⟨o', e1⟩ := I.base.there b o e hx
    exact there b o' (neC b o e hx) e1
  · obtain ⟨m1, e1⟩ := I.base.tbls b ps e
    obtain ⟨m2, e2⟩ := tbls b _ e1
    exact ⟨m1 ++ m2, by rw [e2, Array.append_assoc]⟩
  · obtain ⟨m, hn, hl⟩ := I.loc
    refine ⟨m, ns m hn, fun i x v e1 e2 e3 => ?_⟩
    obtain ⟨u, r, l⟩ := hl i x v e1 e2 e3
    refine ⟨u, r, ?_⟩
    rcases l with l | ⟨k, c, e, z⟩
    · exact .inl l
    · exact .inr ⟨k, c, e, cellK x c e _ z⟩
  · obtain ⟨v, z⟩ := I.cell x c e
    exact ⟨v, cellK x c e v z⟩
  · obtain ⟨m, ⟨o, _, _, ho, _⟩, _⟩ := I.loc
    exact free _ o (fun z => (hch _ z).2.1 rfl) ho I.free
  · obtain ⟨v, o, ho, hd⟩ := I.cell x c e
    exact free c o (fun z => (hch c z).2.2.1 x c e rfl) ho (I.freeC x c e)
  · obtain ⟨e, n, ne, nf, d⟩ := I.pin p hp
    have nch : p.1 ∉ ch := fun z => (hch p.1 z).2.2.2 p hp rfl
    exact ⟨keep p.1 p.2 ne nf nch e n, free p.1 p.2 nch e n, ne, nf, d⟩
theorem Inv.un {t' : Nat} (I : Inv X pins σ H s) (u : Un X.fs [] H H' s.heap h') (hok : HOk X.prog X.w H' h') : Inv X pins σ H' { s with heap := h', toks := t' } := by
  obtain ⟨m, ⟨o, es, ep, ho, r⟩, _⟩ := id I.loc
  obtain ⟨sl, hL⟩ := u.any ho I.free (by simp)
  exact I.step (g' := s.gens) (d' := s.drawn) (ch := []) (fun _ z => nomatch z) (fun b o _ hb _ e n => u.keep b o e n hb (by simp)) (fun b o _ hb _ e n => u.slot b o e n hb (by simp)) (fun b o _ e n => u.free b o e n (by simp)) (fun b o _ e => u.there b o e (by simp)) u.tups u.frzs u.tbls (fun m' hm => by
    obtain ⟨o', es', ep', ho', r'⟩ := hm
    rw [ho] at ho'; cases ho'
    exact ⟨_, es', ep', hL, r'⟩) hok I.bare
theorem Inv.call {g' : Array GenState} {t' : Nat} {d' : Drawn} {ch : List Addr} (I : Inv X pins σ H s) (u : Un (frs X.stack) ch H H' s.heap h') (hok : HOk X.prog X.w H' h') (hg : AllBare g')
    (hch : ∀ b ∈ ch, (b ∈ X.ex ∨ X.s₀.heap.objs.size ≤ b) ∧ b ≠ X.env.locals ∧ (∀ x c, X.env.cells.lookup x = some c → c ≠ b) ∧ ∀ p ∈ X.pn ++ pins, p.1 ≠ b) :
    Inv X pins σ H' { s with heap := h', gens := g', drawn := d', toks := t' } := by
  obtain ⟨m, ⟨o, es, ep, ho, r⟩, _⟩ := id I.loc
  obtain ⟨sl, hL⟩ := u.any ho I.free fun z => (hch _ z).2.1 rfl
  exact I.step (ch := ch) hch (fun b o hL hb hc e n => u.keep b o e n (fun z => (List.mem_cons.mp (I.stkSub b z)).elim hL hb) hc) (fun b o _ _ hc e n => u.any e n hc) (fun b o hc e n => u.free b o e n hc) (fun b o hc e => u.there b o e hc) u.tups u.frzs u.tbls (fun m' hm => by
    obtain ⟨o', es', ep', ho', r'⟩ := hm
    rw [ho] at ho'; cases ho'
    exact ⟨_, es', ep', hL, r'⟩) hok hg
theorem Inv.turned {t' : Nat} {it : Addr} (I : Inv X pins σ H s) (k : ∀ b o, b ≠ it → s.heap.get? b = some o → h'.get? b = some o) (hn : H it = none) (hL : it ≠ X.env.locals)
    (h1 : it ∈ X.ex ∨ X.s₀.heap.objs.size ≤ it) (h2 : ∀ x c, X.env.cells.lookup x = some c → c ≠ it) (h3 : ∀ p ∈ X.pn ++ pins, p.1 ≠ it) : Inv X pins σ H { s with heap := h', toks := t' } := by
  have nit : ∀ b u, H b = some u → b ≠ it := fun b u e z => by rw [z, hn] at e; cases e
  refine I.step (g' := s.gens) (d' := s.drawn) (ch := [it]) (fun b hb => ?_) (fun b o _ _ hc e _ => k b o (fun z => hc (by simp [z])) e) (fun b o _ _ hc e _ => ⟨o.slots, k b o (fun z => hc (by simp [z])) e⟩) (fun _ _ _ _ n => n)
    (fun b o hc e => ⟨o, k b o (fun z => hc (by simp [z])) e⟩) (fun _ _ e => e) (fun _ _ _ e => e) (fun b ps e => ⟨#[], by rw [e]; simp⟩) (fun m hm => ?_) (fun b u e => ?_) I.bare
  · have e : b = it := by simpa using hb
    subst e
    exact ⟨h1, hL, h2, h3⟩
  · obtain ⟨o, es, ep, ho, r⟩ := hm
    exact ⟨o, es, ep, k _ o (Ne.symm hL) ho, r⟩
  · refine (I.hok b u e).stay (fun c v hc q => k c v ?_ q) (fun _ q => q) fun _ _ q => q
    rcases hc with z | z
    · rw [z]; exact nit b u e
    · exact nit c _ z
theorem Inv.tok (I : Inv X pins σ H s) (t : Nat) : Inv X pins σ H { s with toks := t } := I.un (h' := s.heap) (t' := t) Un.refl I.hok
theorem Inv.kept {t' : Nat} (I : Inv X pins σ H s) (k : ∀ b u, s.heap.get? b = some u → h'.get? b = some u) : Inv X pins σ H { s with heap := h', toks := t' } := I.un (Un.kept k) (I.hok.kept k)
theorem Inv.laid {a : Addr} {o : HO} {t' : Nat} (I : Inv X pins σ H s) (k : ∀ b u, s.heap.get? b = some u → h'.get? b = some u) (hp : s.heap.objs.size ≤ a) (new : ObjOk X.prog X.w (upd H a o) h' a o) :
    Inv X pins σ (upd H a o) { s with heap := h', toks := t' } := I.un (Un.laid k hp (I.hok.fresh hp)) (I.hok.laid k hp new)
theorem Inv.write {x e : Addr} {o : HO} {t' : Nat} (I : Inv X pins σ H s) (mu : Mut (H x)) (he : e = x ∨ H e = some (.own x)) (k : ∀ b u, b ≠ e → s.heap.get? b = some u → h'.get? b = some u) (heo : ∃ u, h'.get? e = some u)
    (new : ObjOk X.prog X.w (upd H x o) h' x o) : Inv X pins σ (upd H x o) { s with heap := h', toks := t' } := I.un (Un.write mu he k heo) (I.hok.write mu he k heo new)
theorem Inv.weak {σ' : List (Option V)} (I : Inv X pins σ H s) (hl : σ'.length = σ.length) (w : ∀ (i : Nat) v, σ'[i]? = some (some v) → σ[i]? = some (some v)) : Inv X pins σ' H s :=
  ⟨I.ok, I.os, I.bare, I.base, let ⟨m, hn, hl'⟩ := I.loc; ⟨m, hn, fun i x v e1 e2 e3 => hl' i x v e1 (w i v e2) e3⟩, I.cell, I.free, I.freeC, I.pin, I.hok, hl.trans I.len⟩
theorem Inv.pins_of {pins' : List (Addr × Obj)} (I : Inv X pins σ H s) (h : ∀ p ∈ pins', s.heap.get? p.1 = some p.2 ∧ H p.1 = none ∧ p.1 ≠ X.env.locals ∧ p.1 ∉ X.fs ∧ ∀ v, p.2.data ≠ .cell v) : Inv X pins' σ H s :=
  ⟨I.ok, I.os, I.bare, I.base, I.loc, I.cell, I.free, I.freeC, fun p hp => (List.mem_append.mp hp).elim (fun z => I.pin p (List.mem_append_left _ z)) (h p), I.hok, I.len⟩
theorem nodup_ix {N : List Str} (hN : N.Nodup) {i j : Nat} {x : Str} (a : N[i]? = some x) (b : N[j]? = some x) : i = j := by
  obtain ⟨h1, e1⟩ := List.getElem?_eq_some_iff.mp a
  obtain ⟨h2, e2⟩ := List.getElem?_eq_some_iff.mp b
  exact (List.getElem_inj hN).mp (e1.trans e2.symm)
theorem store_ok2 {M : Model} {A : Around} {E : Value → Shared → Prop} {i : Nat} {x : Str} {v : V} {u : Value} {Q : Unit → Shared → Prop} (I : Inv X pins σ H s) (hN : X.N.Nodup) (hi : X.N[i]? = some x) (hx : Loc X.env.scope x) (r : RelV v u)
    (h : ∀ s', Inv X pins (σ.set i (some v)) H s' → (∃ a, Heap.SameBut a s.heap s'.heap ∧ (a = X.env.locals ∨ X.env.cells.lookup x = some a)) → Q () s') (hf : X.fn x = true ∨ X.env.scope.names.lookup x = some .local := by first | exact .inl rfl | exact .inr rfl | assumption) : wpAny M A (storeName X.env x u) Q E s := by
  obtain ⟨m, hn, hl⟩ := id I.loc
  have hcls : (X.env.scope.kind == .class || (X.env.scope.kind == .module && X.env.locals != X.env.globals)) = false := by rw [I.ok.kind]; rfl
  have hiσ : i < σ.length := by rw [I.len]; exact (List.getElem?_eq_some_iff.mp hi).1
  have cne := I.cne
  have tracked : ∀ {a : Addr} {h' : Heap}, (∃ o, s.heap.get? a = some o ∧ H a = none) → Heap.SameBut a s.heap h' → HOk X.prog X.w H h' := fun {a h'} ha hs b ob e => by
    obtain ⟨_, _, hfree⟩ := ha
    refine (I.hok b ob e).stay (fun c w' hc q => (hs.2 c ?_).trans q) (fun _ q => q) fun _ _ q => q
    rintro rfl
    rcases hc with rfl | hc
    · rw [hfree] at e; cases e
    · rw [hfree] at hc; cases hc
  rcases hx with hk | hk
  · refine wpAny_storeName_local hk hn (fun h' hn' hs => ?_) hcls
    obtain ⟨oL, _, _, hoL, _⟩ := id hn
    refine h _ ⟨I.ok, I.os, I.bare, ⟨fun b o e n hb hx => ?_, fun b o e n hb hx => ?_, I.base.free, fun b o e hx => ?_, I.base.tups, I.base.frzs, I.base.tbls⟩, ⟨_, hn', fun j y v' e1 e2 e3 => ?_⟩, fun y c e => ?_, I.free, I.freeC, fun p hp => ?_, tracked ⟨oL, hoL, I.free⟩ hs, by simpa using I.len⟩ ⟨_, hs, .inl rfl⟩
    · exact (hs.2 b (Nat.ne_of_lt (Nat.lt_of_lt_of_le (Heap.lt_size e) I.ok.above))).trans (I.base.keep b o e n hb hx)
    · obtain ⟨sl, e1⟩ := I.base.slot b o e n hb hx
      exact ⟨sl, (hs.2 b (Nat.ne_of_lt (Nat.lt_of_lt_of_le (Heap.lt_size e) I.ok.above))).trans e1⟩
    · obtain ⟨o', e1⟩ := I.base.there b o e hx
      exact ⟨o', (hs.2 b (Nat.ne_of_lt (Nat.lt_of_lt_of_le (Heap.lt_size e) I.ok.above))).trans e1⟩
    · by_cases hj : j = i
      · subst hj
        rw [hi] at e1; cases e1
        rw [List.getElem?_set_self hiσ] at e2
        cases e2
        exact ⟨u, r, .inl ⟨hk, by simp⟩⟩
      · rw [List.getElem?_set_ne (Ne.symm hj)] at e2
        obtain ⟨u', r', q⟩ := hl j y v' e1 e2 e3
        refine ⟨u', r', ?_⟩
        rcases q with ⟨k, e⟩ | ⟨k, c, e, z⟩
        · refine .inl ⟨k, ?_⟩
          have : y ≠ x := fun e => hj (nodup_ix hN e1 (e ▸ hi))
          simp [this, e]
        · exact .inr ⟨k, c, e, z.sameBut hs (cne y c e)⟩
    · obtain ⟨w', z⟩ := I.cell y c e
      exact ⟨w', z.sameBut hs (cne y c e)⟩
    · obtain ⟨e, n, ne, nf, d⟩ := I.pin p hp
      exact ⟨(hs.2 p.1 ne).trans e, n, ne, nf, d⟩
  · have hfn : X.fn x = true := by
      rcases hf with z | z
      · exact z
      · rw [z] at hk; cases hk
    obtain ⟨c, hc⟩ := I.ok.has x (.inl hk)
    obtain ⟨w', z⟩ := I.cell x c hc
    refine wpAny_storeName_cell I.ok.kind hk hc z (fun h' hc' hs => ?_)
    obtain ⟨oc, hoc, hocd⟩ := id z
    refine h { s with heap := h' } ⟨I.ok, I.os, I.bare, ⟨fun b o e n hb hx => ?_, fun b o e n hb hx => ?_, I.base.free, fun b o e hx => ?_, I.base.tups, I.base.frzs, I.base.tbls⟩, ⟨m, hn.sameBut hs (Ne.symm (cne x c hc)), fun j y v' e1 e2 e3 => ?_⟩, fun y c' e => ?_, I.free, I.freeC, fun p hp => ?_, tracked ⟨oc, hoc, I.freeC x c hc⟩ hs, by simpa using I.len⟩ ⟨c, hs, .inr hc⟩
    · exact (hs.2 b (Nat.ne_of_lt (Nat.lt_of_lt_of_le (Heap.lt_size e) (I.ok.cab x c hfn hc)))).trans (I.base.keep b o e n hb hx)
    · obtain ⟨sl, e1⟩ := I.base.slot b o e n hb hx
      exact ⟨sl, (hs.2 b (Nat.ne_of_lt (Nat.lt_of_lt_of_le (Heap.lt_size e) (I.ok.cab x c hfn hc)))).trans e1⟩
    · obtain ⟨o', e1⟩ := I.base.there b o e hx
      exact ⟨o', (hs.2 b (Nat.ne_of_lt (Nat.lt_of_lt_of_le (Heap.lt_size e) (I.ok.cab x c hfn hc)))).trans e1⟩
    · by_cases hj : j = i
      · subst hj
        rw [hi] at e1; cases e1
        rw [List.getElem?_set_self hiσ] at e2
        cases e2
        exact ⟨u, r, .inr ⟨.inl hk, c, hc, hc'⟩⟩
      · rw [List.getElem?_set_ne (Ne.symm hj)] at e2
        obtain ⟨u', r', q⟩ := hl j y v' e1 e2 e3
        refine ⟨u', r', ?_⟩
        rcases q with q | ⟨k, c', e, z'⟩
        · exact .inl q
        · refine .inr ⟨k, c', e, z'.sameBut hs ?_⟩
          rintro rfl
          exact hj (nodup_ix hN e1 (I.ok.inj _ _ _ e hc ▸ hi))
    · by_cases hcc : c' = c
      · subst hcc; exact ⟨_, hc'⟩
      · obtain ⟨w2, z2⟩ := I.cell y c' e
        exact ⟨w2, z2.sameBut hs hcc⟩
    · obtain ⟨e, n, ne, nf, d⟩ := I.pin p hp
      refine ⟨(hs.2 p.1 ?_).trans e, n, ne, nf, d⟩
      intro q
      rw [q, hoc] at e
      have q' : oc = p.2 := Option.some.inj e
      exact d w' (by rw [← q']; exact hocd)
theorem store_ok {M : Model} {A : Around} {E : Value → Shared → Prop} {i : Nat} {x : Str} {v : V} {u : Value} {Q : Unit → Shared → Prop} (I : Inv X pins σ H s) (hN : X.N.Nodup) (hi : X.N[i]? = some x) (hx : Loc X.env.scope x) (r : RelV v u)
    (h : ∀ s', Inv X pins (σ.set i (some v)) H s' → Q () s') (hf : X.fn x = true ∨ X.env.scope.names.lookup x = some .local := by first | exact .inl rfl | exact .inr rfl | assumption) : wpAny M A (storeName X.env x u) Q E s :=
  store_ok2 I hN hi hx r (fun s' I' _ => h s' I') hf
theorem Inv.call' {s' : Shared} {ch : List Addr} (I : Inv X pins σ H s) (ho : s'.os = s.os) (u : Un (frs X.stack) ch H H' s.heap s'.heap) (hok : HOk X.prog X.w H' s'.heap) (hg : AllBare s'.gens)
    (hch : ∀ b ∈ ch, (b ∈ X.ex ∨ X.s₀.heap.objs.size ≤ b) ∧ b ≠ X.env.locals ∧ (∀ x c, X.env.cells.lookup x = some c → c ≠ b) ∧ ∀ p ∈ X.pn ++ pins, p.1 ≠ b) : Inv X pins σ H' s' := by
  obtain ⟨h', g', d', t', o'⟩ := s'
  have e : o' = s.os := ho
  subst e
  exact I.call (g' := g') (t' := t') (d' := d') u hok hg hch
end
abbrev XK := Value → Option Addr → Hp → Prop
abbrev St := List (Option V)
abbrev VK := V → Hp → Prop
abbrev TE := St → Hp → VK → Prop
abbrev TT := St → Hp → (Bool → Hp → Prop) → Prop
abbrev TA := St → Hp → (List V → Hp → Prop) → Prop
structure Ends where
  nx : St → Hp → Prop
  rt : VK
  bk : St → Hp → Prop := fun _ _ => False
  ct : St → Hp → Prop := fun _ _ => False
abbrev TS := Ends → St → Hp → Prop
def EP (X : Cx) (pins : List (Addr × Obj)) (σ : St) (Q : VK) (u : Value) (s' : Shared) : Prop := ∃ v H', Inv X pins σ H' s' ∧ RelV v u ∧ Q v H'
def TP (X : Cx) (pins : List (Addr × Obj)) (σ : St) (Q : Bool → Hp → Prop) (b : Bool) (s' : Shared) : Prop := ∃ H', Inv X pins σ H' s' ∧ Q b H'
def AP (X : Cx) (pins : List (Addr × Obj)) (σ : St) (Q : List V → Hp → Prop) (us : List Value) (s' : Shared) : Prop := ∃ vs H', Inv X pins σ H' s' ∧ Vals vs us ∧ Q vs H'
def SP (X : Cx) (pins : List (Addr × Obj)) (D : Ends) (f : Flow) (s' : Shared) : Prop :=
  match f with
  | .next => ∃ σ' H', Inv X pins σ' H' s' ∧ D.nx σ' H'
  | .brk => ∃ σ' H', Inv X pins σ' H' s' ∧ D.bk σ' H'
  | .cont => ∃ σ' H', Inv X pins σ' H' s' ∧ D.ct σ' H'
  | .ret u => ∃ v σ' H', Inv X pins σ' H' s' ∧ RelV v u ∧ D.rt v H'
def PE (X : Cx) (e : Expr) (t : TE) : Prop :=
  ∀ (pins : List (Addr × Obj)) (s : Shared) (σ : St) (H : Hp) (Q : VK), Inv X pins σ H s → t σ H Q → wpAny (model X.prog X.w) X.A (eval e X.env) (EP X pins σ Q) X.xe s
def PT (X : Cx) (e : Expr) (t : TT) : Prop :=
  ∀ (pins : List (Addr × Obj)) (s : Shared) (σ : St) (H : Hp) (Q : Bool → Hp → Prop), Inv X pins σ H s → t σ H Q → wpAny (model X.prog X.w) X.A (isTrue e X.env (eval e X.env)) (TP X pins σ Q) X.xe s
def PW (X : Cx) (e : Expr) (t : TT) : Prop :=
  ∀ (whole : Sem Value) (pins : List (Addr × Obj)) (s : Shared) (σ : St) (H : Hp) (Q : Bool → Hp → Prop), Inv X pins σ H s → t σ H Q → wpAny (model X.prog X.w) X.A (isTrue e X.env whole) (TP X pins σ Q) X.xe s
theorem PW.pt {X : Cx} {e : Expr} {t : TT} (h : PW X e t) : PT X e t := h _
def PA (X : Cx) (es : List Expr) (t : TA) : Prop :=
  ∀ (pos : Pos) (pins : List (Addr × Obj)) (s : Shared) (σ : St) (H : Hp) (Q : List V → Hp → Prop), Inv X pins σ H s → t σ H Q → wpAny (model X.prog X.w) X.A (spliced (backTo pos (starEach es X.env))) (AP X pins σ Q) X.xe s
def PS (X : Cx) (st : Stmt) (t : TS) : Prop :=
  ∀ (pins : List (Addr × Obj)) (s : Shared) (σ : St) (H : Hp) (D : Ends), Inv X pins σ H s → t D σ H → wpAny (model X.prog X.w) X.A (exec st X.env) (SP X pins D) X.xe s
def PSs (X : Cx) (st : List Stmt) (t : TS) : Prop :=
  ∀ (pins : List (Addr × Obj)) (s : Shared) (σ : St) (H : Hp) (D : Ends), Inv X pins σ H s → t D σ H → wpAny (model X.prog X.w) X.A (execs st X.env) (SP X pins D) X.xe s
theorem thn {α : Type} {t : Sem α} {Q Q' : α → Shared → Prop} {M : Model} {A : Around} {E : Value → Shared → Prop} {s : Shared} (h : wpAny M A t Q E s) (hQ : ∀ a s, Q a s → Q' a s) : wpAny M A t Q' E s := wpAny_mono h hQ fun _ _ x => x
end L2
namespace L2
open PySem PySem.Spec PyProof.Rows
section
variable {X : Cx}
def tVar (i : Nat) : TE := fun σ H Q => ∃ v, σ[i]? = some (some v) ∧ Q v H
def tC (v : V) : TE := fun _ H Q => Q v H
theorem pe_var {i : Nat} {x : Str} {pos : Pos} (hN : X.N[i]? = some x) (hv : Vis X.env.scope x) (hd : (x == ("__debug__" : Str)) = false := by decide) (hcd : (x == ("__classdict__" : Str)) = false := by decide) : PE X (.Name x pos) (tVar i) := by
  intro pins s σ H Q I h
  obtain ⟨v, e, h⟩ := h
  obtain ⟨m, hn, hl⟩ := I.loc
  obtain ⟨u, r, l⟩ := hl i x v hN e hv
  have fin : EP X pins σ Q u s := ⟨v, H, I, r, h⟩
  rcases l with ⟨hk, hm⟩ | ⟨hk, c, hc, hcell⟩
  · exact wpAny_Name (wpAny_loadName_local I.ok.kind hk hn hm fin) hd
  · rcases hk with hk | hk
    · exact wpAny_Name (wpAny_loadName_cell I.ok.kind hk hc hcell fin) hd
    · exact wpAny_Name (wpAny_loadName_free I.ok.kind hk hc hcell fin hcd) hd
theorem pe_int {i j pos} : PE X (.Constant (.int i) j pos) (tC (.int i)) := fun _ _ _ H _ I h => wpAny_Constant_int ⟨.int i, H, I.tok _, ⟨_, rfl⟩, h⟩
theorem pe_bl {b j pos} : PE X (.Constant (.bool b) j pos) (tC (.bl b)) := fun _ _ _ H _ I h => Constant_bool ⟨.bl b, H, I, rfl, h⟩
theorem pe_non {j pos} : PE X (.Constant .none j pos) (tC .non) := fun _ _ _ H _ I h => Constant_none ⟨.non, H, I, rfl, h⟩
theorem pe_str {x j pos} : PE X (.Constant (.str x) j pos) (tC (.str x)) := fun _ _ _ H _ I h => Calls.Constant_str ⟨.str x, H, I.tok _, ⟨_, rfl⟩, h⟩
def Gl (X : Cx) (x : Str) : Prop := X.env.kindOf x = some .globalImplicit
theorem ld_glob {E : Value → Shared → Prop} {pins : List (Addr × Obj)} {s : Shared} {σ : St} {H : Hp} {x : Str} {u : Value} {pos : Pos} {Q : Value → Shared → Prop} (I : Inv X pins σ H s) (hg : Gl X x) (hm : X.mg x = some u) (h : Q u s)
    (hd : (x == ("__debug__" : Str)) = false := by decide) : wpAny (model X.prog X.w) X.A (eval (.Name x pos) X.env) Q E s :=
  Calls.Name_function_global I.ok.kind hg (Calls.loadGlobal_global (by rw [I.ok.glob]; exact I.mod.glob.keeps I.bk) hm h) hd
theorem ld_blt {E : Value → Shared → Prop} {pins : List (Addr × Obj)} {s : Shared} {σ : St} {H : Hp} {x : Str} {u : Value} {pos : Pos} {Q : Value → Shared → Prop} (I : Inv X pins σ H s) (hg : Gl X x) (hm : X.mg x = none) (hv : bootBuiltins x = some u) (h : Q u s)
    (hn : x ≠ "__name__" := by decide) (hd : (x == ("__debug__" : Str)) = false := by decide) : wpAny (model X.prog X.w) X.A (eval (.Name x pos) X.env) Q E s := by
  obtain ⟨mb, h1, h2⟩ := I.mod.blt
  exact Calls.Name_function_global I.ok.kind hg (Calls.loadGlobal_builtin (by rw [I.ok.glob]; exact I.mod.glob.keeps I.bk) hm (by rw [I.ok.blt]; exact h1.keeps I.bk) ((h2 x hn).trans hv) h) hd
theorem pe_glob {x : Str} {v : V} {u : Value} {pos : Pos} (hg : Gl X x) (hm : X.mg x = some u) (r : RelV v u) (hd : (x == ("__debug__" : Str)) = false := by decide) : PE X (.Name x pos) (tC v) :=
  fun _ _ _ H _ I h => ld_glob I hg hm ⟨v, H, I, r, h⟩ hd
theorem pe_bltn {x : Str} {v : V} {u : Value} {pos : Pos} (hg : Gl X x) (hm : X.mg x = none) (hv : bootBuiltins x = some u) (r : RelV v u) (hn : x ≠ "__name__" := by decide) (hd : (x == ("__debug__" : Str)) = false := by decide) : PE X (.Name x pos) (tC v) :=
  fun _ _ _ H _ I h => ld_blt I hg hm hv ⟨v, H, I, r, h⟩ hn hd
def t2I (ta tb : TE) (k : Int → Int → Hp → Prop) : St → Hp → Prop := fun σ H => ta σ H fun x H1 => tb σ H1 fun y H2 => ∃ i j, x = .int i ∧ y = .int j ∧ k i j H2
def tAdd (ta tb : TE) : TE := fun σ H Q => t2I ta tb (fun i j H2 => Q (.int (i + j)) H2) σ H
def tSub (ta tb : TE) : TE := fun σ H Q => t2I ta tb (fun i j H2 => Q (.int (i - j)) H2) σ H
def tMul (ta tb : TE) : TE := fun σ H Q => t2I ta tb (fun i j H2 => (-(2 ^ 64) < i ∧ i < 2 ^ 64) ∧ Q (.int (i * j)) H2) σ H
variable {a b : Expr} {ta tb : TE} {pos : Pos}
def PC (X : Cx) (op : CmpOp) (a b : Expr) (t : TE) : Prop :=
  ∀ (pins : List (Addr × Obj)) (s : Shared) (σ : St) (H : Hp) (Q : VK), Inv X pins σ H s → t σ H Q →
    wpAny (model X.prog X.w) X.A (eval a X.env) (fun v s₁ => wpAny (model X.prog X.w) X.A (eval b X.env) (fun u s₂ => wpAny (model X.prog X.w) X.A (compareOp op v u) (EP X pins σ Q) X.xe s₂) X.xe s₁) X.xe s
def tCmp (p : Int → Int → Bool) (ta tb : TE) : TE := fun σ H Q => t2I ta tb (fun i j H2 => Q (.bl (p i j)) H2) σ H
abbrev tLt : TE → TE → TE := tCmp fun i j => decide (i < j)
abbrev tLe : TE → TE → TE := tCmp fun i j => decide (i ≤ j)
abbrev tGt : TE → TE → TE := tCmp fun i j => decide (j < i)
abbrev tGe : TE → TE → TE := tCmp fun i j => decide (j ≤ i)
abbrev tEqI : TE → TE → TE := tCmp fun i j => decide (i = j)
abbrev tNeI : TE → TE → TE := tCmp fun i j => !decide (i = j)
def tIsN (ta : TE) : TE := fun σ H Q => ta σ H fun x H1 => Q (.bl (decide (x = .non))) H1
def tNotN (ta : TE) : TE := fun σ H Q => ta σ H fun x H1 => Q (.bl (!decide (x = .non))) H1
def tB (t : TE) : TT := fun σ H Q => t σ H fun x H1 => ∃ c, x = .bl c ∧ Q c H1
variable {tA tB' : TT} {rest : List Expr}
def tAnd (t u : TT) : TT := fun σ H Q => t σ H fun c H1 => if c = true then u σ H1 Q else Q false H1
def tOr (t u : TT) : TT := fun σ H Q => t σ H fun c H1 => if c = true then Q true H1 else u σ H1 Q
def tNot (t : TT) : TT := fun σ H Q => t σ H fun c H1 => Q (!c) H1
theorem pw_and1 (ha : PT X a tA) : PW X (.BoolOp .And [a] pos) tA := by
  intro wh pins s σ H Q I h
  refine isTrue_and (thn (ha pins s σ H Q I h) fun c s1 e => ?_)
  cases c with
  | true => exact isTrue_and_nil e
  | false => exact e
theorem pw_or1 (ha : PT X a tA) : PW X (.BoolOp .Or [a] pos) tA := by
  intro wh pins s σ H Q I h
  refine isTrue_or (thn (ha pins s σ H Q I h) fun c s1 e => ?_)
  cases c with
  | false => exact isTrue_or_nil e
  | true => exact e
theorem pw_and (ha : PT X a tA) (hb : PW X (.BoolOp .And (b :: rest) pos) tB') : PW X (.BoolOp .And (a :: b :: rest) pos) (tAnd tA tB') := by
  intro wh pins s σ H Q I h
  refine isTrue_and (thn (ha pins s σ H _ I h) fun c s1 ⟨H1, I1, q1⟩ => ?_)
  cases c with
  | true => exact hb wh pins s1 σ H1 Q I1 q1
  | false => exact ⟨H1, I1, q1⟩
theorem pw_or (ha : PT X a tA) (hb : PW X (.BoolOp .Or (b :: rest) pos) tB') : PW X (.BoolOp .Or (a :: b :: rest) pos) (tOr tA tB') := by
  intro wh pins s σ H Q I h
  refine isTrue_or (thn (ha pins s σ H _ I h) fun c s1 ⟨H1, I1, q1⟩ => ?_)
  cases c with
  | true => exact ⟨H1, I1, q1⟩
  | false => exact hb wh pins s1 σ H1 Q I1 q1
theorem pt_not (ha : PT X a tA) : PT X (.UnaryOp .Not a pos) (tNot tA) := by
  intro pins s σ H Q I h
  exact isTrue_not (ha pins s σ H (fun c H1 => Q (!c) H1) I h)
def tAndV (ta tb : TE) : TE := fun σ H Q => ta σ H fun x H1 => ∃ c, x = .bl c ∧ if c = true then tb σ H1 Q else Q (.bl false) H1
def tOrV (ta tb : TE) : TE := fun σ H Q => ta σ H fun x H1 => ∃ c, x = .bl c ∧ if c = true then Q (.bl true) H1 else tb σ H1 Q
def tNotV (ta : TE) : TE := fun σ H Q => ta σ H fun x H1 => ∃ c, x = .bl c ∧ Q (.bl (!c)) H1
theorem pe_one {op} {t : TE} (h : PE X a t) : PE X (.BoolOp op [a] pos) t := fun pins s σ H Q I hw => BoolOp_one (h pins s σ H Q I hw)
def tIf (t : TT) (ta tb : TE) : TE := fun σ H Q => t σ H fun c H1 => if c = true then ta σ H1 Q else tb σ H1 Q
end
end L2
namespace L2
open PySem PySem.Spec PyProof.Rows
def SqL (K : PySem.W.Frag) (H : Hp) (a : Addr) (xs : List V) : Prop :=
  Rd H a (.lst xs) ∨
    ∃ (o : Obj) (its : Array Value) (n : Nat), K.lookup a = some o ∧ o.cls = .type "list" ∧ o.dict = none ∧ o.data = .seq its n ∧ its.size ≤ sizeLine ∧ Vals xs its.toList
def SqT (K : PySem.W.Frag) (H : Hp) (a : Addr) (xs : List V) : Prop :=
  Rd H a (.tup xs) ∨
    ∃ (o : Obj) (its : Array Value) (n : Nat), K.lookup a = some o ∧ o.cls = .type "tuple" ∧ o.data = .seq its n ∧ its.size ≤ sizeLine ∧ Vals xs its.toList
def absV : Value → Option V
  | .none => some .non
  | .bool b => some (.bl b)
  | .int i _ => some (.int i)
  | .str x _ => some (.str x)
  | .bytes b _ => some (.byt b)
  | .float b _ => some (.flt b)
  | .ref a => some (.ref a)
  | .type n => some (.ty n)
  | _ => none
theorem RelV.abs {x : V} {u : Value} (r : RelV x u) : absV u = some x := by
  cases x with
  | non => cases r; rfl
  | bl _ => cases r; rfl
  | int _ => obtain ⟨t, rfl⟩ := r; rfl
  | str _ => obtain ⟨t, rfl⟩ := r; rfl
  | byt _ => obtain ⟨t, rfl⟩ := r; rfl
  | flt _ => obtain ⟨t, rfl⟩ := r; rfl
  | ref _ => cases r; rfl
  | ty _ => cases r; rfl
theorem RelV.inj {x y : V} {u : Value} (r : RelV x u) (q : RelV y u) : x = y := Option.some.inj (r.abs.symm.trans q.abs)
theorem Vals.inj : ∀ {xs ys : List V} {us : List Value}, Vals xs us → Vals ys us → xs = ys
  | _, _, _, .nil, .nil => rfl
  | _, _, _, .cons r t, .cons r' t' => by rw [r.inj r', Vals.inj t t']
section
variable {X : Cx} {pins : List (Addr × Obj)} {σ : St} {H : Hp} {s : Shared} {a : Addr} {xs ys : List V}
theorem SqL.of {K : PySem.W.Frag} (h : H a = some (.lst xs)) : SqL K H a xs := .inl (.inl h)
theorem SqT.of {K : PySem.W.Frag} (h : H a = some (.tup xs)) : SqT K H a xs := .inl (.inl h)
theorem Inv.list (I : Inv X pins σ H s) (h : SqL X.K H a xs) : ∃ its : List Value, Vals xs its ∧ PlainL s.heap a its.toArray ∧ xs.length ≤ sizeLine := by
  rcases h with h | ⟨o, its, n, hk, hc, hd, hs, hz, r⟩
  · obtain ⟨z, its, n, r, e⟩ := h.ok I.hok
    exact ⟨its, r, ⟨_, n, e, rfl, rfl, rfl⟩, z⟩
  · refine ⟨its.toList, r, ⟨o, n, I.kIn a o hk, hc, hd, by simpa using hs⟩, ?_⟩
    have e := r.length
    simp only [Array.length_toList] at e
    omega
theorem Inv.tuple (I : Inv X pins σ H s) (h : SqT X.K H a xs) : ∃ its : List Value, Vals xs its ∧ IsTup s.heap a its.toArray ∧ xs.length ≤ sizeLine := by
  rcases h with h | ⟨o, its, n, hk, hc, hs, hz, r⟩
  · obtain ⟨z, its, r, p⟩ := h.ok I.hok
    exact ⟨its, r, p, z⟩
  · refine ⟨its.toList, r, ⟨o, I.kIn a o hk, hc, n, by simpa using hs⟩, ?_⟩
    have e := r.length
    simp only [Array.length_toList] at e
    omega
theorem Inv.list_inj (I : Inv X pins σ H s) (h : SqL X.K H a xs) (h' : SqL X.K H a ys) : xs = ys := by
  obtain ⟨its, r, ⟨o, n, e, _, _, d⟩, _⟩ := I.list h
  obtain ⟨its', r', ⟨o', n', e', _, _, d'⟩, _⟩ := I.list h'
  rw [e] at e'; cases e'
  rw [d] at d'
  injection d' with d1 _
  have : its = its' := by simpa using congrArg Array.toList d1
  subst this
  exact r.inj r'
theorem Inv.tuple_inj (I : Inv X pins σ H s) (h : SqT X.K H a xs) (h' : SqT X.K H a ys) : xs = ys := by
  obtain ⟨its, r, ⟨o, e, _, n, d⟩, _⟩ := I.tuple h
  obtain ⟨its', r', ⟨o', e', _, n', d'⟩, _⟩ := I.tuple h'
  rw [e] at e'; cases e'
  rw [d] at d'
  injection d' with d1 _
  have : its = its' := by simpa using congrArg Array.toList d1
  subst this
  exact r.inj r'
end
abbrev Cx.wish (X : Cx) (E : Value → Shared → Prop) : Cx := { X with xe := E }
abbrev Cx.nox (X : Cx) : Cx := X.wish fun _ _ => False
theorem Cx.Ok.wish {X : Cx} (ok : X.Ok) (E : Value → Shared → Prop) : (X.wish E).Ok :=
  ⟨ok.mod, ok.kind, ok.glob, ok.blt, ok.above, ok.inj, ok.has, ok.cab, ok.hd, ok.frames, ok.stk, ok.exf, ok.bs, ok.bsz, ok.noex, ok.exfs, ok.funs, ok.frf⟩
theorem Cx.Ok.unwish {X : Cx} {E : Value → Shared → Prop} (ok : (X.wish E).Ok) : X.Ok :=
  ⟨ok.mod, ok.kind, ok.glob, ok.blt, ok.above, ok.inj, ok.has, ok.cab, ok.hd, ok.frames, ok.stk, ok.exf, ok.bs, ok.bsz, ok.noex, ok.exfs, ok.funs, ok.frf⟩
section
variable {X : Cx} {pins : List (Addr × Obj)} {σ : St} {H : Hp} {s : Shared} {E : Value → Shared → Prop}
theorem Inv.wish (I : Inv X pins σ H s) (E : Value → Shared → Prop) : Inv (X.wish E) pins σ H s := ⟨I.ok.wish E, I.os, I.bare, I.base, I.loc, I.cell, I.free, I.freeC, I.pin, I.hok, I.len⟩
theorem Inv.unwish (I : Inv (X.wish E) pins σ H s) : Inv X pins σ H s := ⟨I.ok.unwish, I.os, I.bare, I.base, I.loc, I.cell, I.free, I.freeC, I.pin, I.hok, I.len⟩
theorem SP.unwish {D : Ends} {f : Flow} {s' : Shared} (h : SP (X.wish E) pins D f s') : SP X pins D f s' := by
  cases f with
  | next => obtain ⟨σ', H', I, q⟩ := h; exact ⟨σ', H', I.unwish, q⟩
  | brk => obtain ⟨σ', H', I, q⟩ := h; exact ⟨σ', H', I.unwish, q⟩
  | cont => obtain ⟨σ', H', I, q⟩ := h; exact ⟨σ', H', I.unwish, q⟩
  | ret u => obtain ⟨v, σ', H', I, r, q⟩ := h; exact ⟨v, σ', H', I.unwish, r, q⟩
theorem PSs.nox {st : List Stmt} {t : TS} (h : PSs X.nox st t) : PSs X st t := fun pins s σ H D I hw =>
  wpAny_mono (h pins s σ H D (I.wish _) hw) (fun _ _ q => q.unwish) fun _ _ z => False.elim z
end
section
variable {X : Cx} {st : Stmt} {rest : List Stmt} {t u : TS} {e : Expr} {te : TE} {pos : Pos}
def tNext : TS := fun D σ H => D.nx σ H
def tSeq (t u : TS) : TS := fun D σ H => t { D with nx := u D } σ H
theorem pss_nil : PSs X [] tNext := fun _ _ σ H _ I h => wpAny_execs_nil ⟨σ, H, I, h⟩
theorem pss_cons (h1 : PS X st t) (h2 : PSs X rest u) : PSs X (st :: rest) (tSeq t u) := by
  intro pins s σ H D I h
  refine wpAny_execs_cons (thn (h1 pins s σ H { D with nx := u D } I h) fun f s1 q => ?_)
  cases f with
  | next =>
    obtain ⟨σ', H', I', q⟩ := q
    exact h2 pins s1 σ' H' D I' q
  | ret v => exact q
  | brk => exact q
  | cont => exact q
theorem pss_one (h1 : PS X st t) : PSs X [st] t := by
  intro pins s σ H D I h
  refine wpAny_execs_cons (thn (h1 pins s σ H D I h) fun f s1 q => ?_)
  cases f with
  | next => exact wpAny_execs_nil q
  | ret v => exact q
  | brk => exact q
  | cont => exact q
def tBreak : TS := fun D σ H => D.bk σ H
def tCont : TS := fun D σ H => D.ct σ H
theorem ps_break : PS X (.Break pos) tBreak := fun _ _ σ H _ I h => wpAny_Break ⟨σ, H, I, h⟩
theorem Inv.quiet {pins : List (Addr × Obj)} {σ : St} {H : Hp} {s : Shared} (I : Inv X pins σ H s) : interactive X.env = false := by simp [interactive, I.ok.kind]
def tDrop (te : TE) : TS := fun D σ H => te σ H fun _ H1 => D.nx σ H1
theorem ps_expr (he : PE X e te) (hs : swapsWith e none pos.line X.env = pure false := by rfl) : PS X (.Expr e pos) (tDrop te) := by
  intro pins s σ H D I h
  exact wpAny_Expr_any (thn (he pins s σ H _ I h) fun v s1 ⟨x, H1, I1, r1, q1⟩ => ⟨σ, H1, I1, q1⟩) I.quiet hs
def tRet (te : TE) : TS := fun D σ H => te σ H D.rt
theorem ps_ret (he : PE X e te) : PS X (.Return (some e) pos) (tRet te) := by
  intro pins s σ H D I h
  exact wpAny_Return_some (thn (he pins s σ H _ I h) fun v s1 ⟨x, H1, I1, r1, q1⟩ => ⟨x, σ, H1, I1, r1, q1⟩)
def tRetN : TS := fun D _ H => D.rt .non H
def tIfS (c : TT) (t u : TS) : TS := fun D σ H => c σ H fun b H1 => if b = true then t D σ H1 else u D σ H1
theorem ps_if {c : Expr} {a b : List Stmt} {tc : TT} (hc : PT X c tc) (ha : PSs X a t) (hb : PSs X b u) : PS X (.If c a b pos) (tIfS tc t u) := by
  intro pins s σ H D I h
  refine wpAny_If (thn (hc pins s σ H _ I h) fun d s1 ⟨H1, I1, q1⟩ => ?_)
  cases d with
  | true => exact ha pins s1 σ H1 D I1 q1
  | false => exact hb pins s1 σ H1 D I1 q1
def tNever : TS := fun _ _ _ => False
end
abbrev TG := V → St → Hp → (St → Hp → Prop) → Prop
abbrev TGs := List V → St → Hp → (St → Hp → Prop) → Prop
def PG (X : Cx) (target : Expr) (t : TG) : Prop :=
  ∀ (pins : List (Addr × Obj)) (s : Shared) (σ : St) (H : Hp) (v : V) (u : Value) (Q : St → Hp → Prop), Inv X pins σ H s → RelV v u → t v σ H Q →
    wpAny (model X.prog X.w) X.A (assign target X.env u) (fun _ s' => ∃ σ' H', Inv X pins σ' H' s' ∧ Q σ' H') X.xe s
def PGs (X : Cx) (ts : List Expr) (t : TGs) : Prop :=
  ∀ (pins : List (Addr × Obj)) (s : Shared) (σ : St) (H : Hp) (vs : List V) (us : List Value) (Q : St → Hp → Prop), Inv X pins σ H s → Vals vs us → t vs σ H Q →
    wpAny (model X.prog X.w) X.A (assignInOrder ((assignEach ts X.env).map (·.2)) us) (fun _ s' => ∃ σ' H', Inv X pins σ' H' s' ∧ Q σ' H') X.xe s
abbrev TSet := V → V → V → Hp → (Hp → Prop) → Prop
def PSet (X : Cx) (t : TSet) : Prop :=
  ∀ (pins : List (Addr × Obj)) (s : Shared) (σ : St) (H : Hp) (o i v : V) (ov iv u : Value) (Q : Hp → Prop), Inv X pins σ H s → RelV o ov → RelV i iv → RelV v u → t o i v H Q →
    wpAny (model X.prog X.w) X.A (setItem ov iv u) (fun _ s' => ∃ H', Inv X pins σ H' s' ∧ Q H') X.xe s
abbrev TIp := V → V → Hp → VK → Prop
def PIp (X : Cx) (op : Operator) (t : TIp) : Prop :=
  ∀ (pins : List (Addr × Obj)) (s : Shared) (σ : St) (H : Hp) (x y : V) (v u : Value) (Q : VK), Inv X pins σ H s → RelV x v → RelV y u → t x y H Q →
    wpAny (model X.prog X.w) X.A (inplaceOp op v u) (EP X pins σ Q) X.xe s
section
variable {X : Cx} {pos : Pos}
def gName (i : Nat) : TG := fun v σ H Q => Q (σ.set i (some v)) H
theorem pg_name {i : Nat} {x : Str} (hN : X.N.Nodup) (hi : X.N[i]? = some x) (hx : Loc X.env.scope x) (hf : X.fn x = true ∨ X.env.scope.names.lookup x = some .local := by first | exact .inl rfl | exact .inr rfl | assumption) : PG X (.Name x pos) (gName i) := by
  intro pins s σ H v u Q I r h
  exact wpAny_assign_Name (store_ok I hN hi hx r (fun s' I' => ⟨_, H, I', h⟩) hf)
def gNil : TGs := fun vs σ H Q => vs = [] ∧ Q σ H
inductive gCons (t : TG) (u : TGs) (vs : List V) (σ : St) (H : Hp) (Q : St → Hp → Prop) : Prop
  | mk (v : V) (r : List V) (h0 : vs = v :: r) (h1 : t v σ H fun σ' H' => u r σ' H' Q) : gCons t u vs σ H Q
theorem pgs_nil : PGs X [] gNil := by
  intro pins s σ H vs us Q I r h
  obtain ⟨e, h⟩ := h
  subst e
  cases r
  exact assignInOrder_nil ⟨σ, H, I, h⟩
theorem pgs_cons {e : Expr} {es : List Expr} {t : TG} {u : TGs} (h1 : PG X e t) (h2 : PGs X es u)
    (hs : (assignEach (e :: es) X.env).map (·.2) = assign e X.env :: (assignEach es X.env).map (·.2) := by rfl) : PGs X (e :: es) (gCons t u) := by
  intro pins s σ H vs us Q I r h
  obtain ⟨v, vr, e1, h⟩ := h
  subst e1
  cases r with
  | cons r rr =>
    rw [hs]
    refine assignInOrder_cons (thn (h1 pins s σ H _ _ _ I r h) fun _ s1 ⟨σ1, H1, I1, q1⟩ => ?_)
    exact h2 pins s1 σ1 H1 _ _ Q I1 rr q1
inductive gTup (K : PySem.W.Frag) (n : Nat) (t : TGs) (v : V) (σ : St) (H : Hp) (Q : St → Hp → Prop) : Prop
  | mk (a : Addr) (xs : List V) (h0 : v = .ref a) (h1 : SqT K H a xs) (h2 : xs.length = n) (h3 : t xs σ H Q) : gTup K n t v σ H Q
theorem pg_tup {es : List Expr} {k : Nat} {t : TGs} {n : Nat} (hc : X.calm = true) (h : PGs X es t)
    (hn : (assignEach es X.env).length = n := by rfl) (hst : (assignEach es X.env).findIdx? (·.1) = none := by rfl) : PG X (.Tuple es k pos) (gTup X.K n t) := by
  intro pins s σ H v u Q I r hw
  obtain ⟨a, xs, e1, hq, hl, hw⟩ := hw
  subst e1
  cases r
  obtain ⟨its, rv, ht, hz⟩ := I.tuple hq
  refine assign_Tuple_tuple (I.ok.hd hc) ht (by simp [hn, ← hl, rv.length]) hst fun h' hx => ?_
  have I1 : Inv X pins σ H { s with heap := h' } := I.kept (t' := s.toks) fun b o e => hx b o (Nat.ne_of_lt (Heap.lt_size e)) e
  exact h pins _ σ H xs _ Q I1 (by simpa using rv) hw
def gSub (to ti : TE) (t : TSet) : TG := fun v σ H Q => to σ H fun o H1 => ti σ H1 fun i H2 => t o i v H2 fun H3 => Q σ H3
theorem pg_sub {o i : Expr} {to ti : TE} {t : TSet} (ho : PE X o to) (hi : PE X i ti) (hs : PSet X t)
    (ha : ∀ v, assign (.Subscript o i pos) X.env v = (do
      let ov ← holding [v] (eval o X.env)
      let iv ← holding [v, ov] (eval i X.env)
      standAt pos
      holding [v, ov, iv] (setItem ov iv v)
      release [v, ov, iv] []) := by intro _; rfl) : PG X (.Subscript o i pos) (gSub to ti t) := by
  intro pins s σ H v u Q I r h
  rw [ha]
  refine wpAny_bind (wpAny_holding (thn (ho pins s σ H _ I h) fun ov s1 ⟨x, H1, I1, r1, q1⟩ => ?_))
  refine wpAny_bind (wpAny_holding (thn (hi pins s1 σ H1 _ I1 q1) fun iv s2 ⟨y, H2, I2, r2, q2⟩ => ?_))
  refine wpAny_bind (wpAny_standAt (wpAny_bind (wpAny_holding (thn (hs pins s2 σ H2 x y v ov iv u _ I2 r1 r2 r q2) fun _ s3 ⟨H3, I3, q3⟩ => ?_))))
  exact wpAny_release ⟨σ, H3, I3, q3⟩
def tAsg (te : TE) (g : TG) : TS := fun D σ H => te σ H fun x H1 => g x σ H1 D.nx
theorem ps_asg {tg e : Expr} {te : TE} {g : TG} (he : PE X e te) (hg : PG X tg g) (hs : swapsWithSole [tg] e pos.line X.env = pure false := by rfl) (hw : swappedStores [tg] e X.env = pure none := by rfl)
    (h1 : (assignEach [tg] X.env).map (·.2) = [assign tg X.env] := by rfl) : PS X (.Assign [tg] e pos) (tAsg te g) := by
  intro pins s σ H D I h
  refine wpAny_Assign_stores (thn (he pins s σ H _ I h) fun v s1 ⟨x, H1, I1, r1, q1⟩ => ?_) hs hw
  rw [h1]
  exact thn (hg pins s1 σ H1 x v _ I1 r1 q1) fun _ s2 q => q
theorem ps_set {i : Nat} {x : Str} {e : Expr} {te : TE} {pos' : Pos} (hN : X.N.Nodup) (hi : X.N[i]? = some x) (hx : Loc X.env.scope x) (he : PE X e te) (hs : swapsWith e (some (.Name x pos')) pos.line X.env = pure false := by rfl) (hf : X.fn x = true ∨ X.env.scope.names.lookup x = some .local := by first | exact .inl rfl | exact .inr rfl | assumption) :
    PS X (.Assign [.Name x pos'] e pos) (tAsg te (gName i)) := by
  intro pins s σ H D I h
  refine wpAny_Assign_Name (thn (he pins s σ H _ I h) fun v s1 ⟨y, H1, I1, r1, q1⟩ => ?_) hs
  exact store_ok I1 hN hi hx r1 (fun s2 I2 => ⟨_, H1, I2, q1⟩) hf
def tPar (i j : Nat) (ta : TA) : TS := fun D σ H => ta σ H fun vs H1 => ∃ v w, vs = [v, w] ∧ D.nx ((σ.set i (some v)).set j (some w)) H1
def tAug (i : Nat) (te : TE) (ti : TIp) : TS := fun D σ H => ∃ x, σ[i]? = some (some x) ∧ te σ H fun y H1 => ti x y H1 fun z H2 => D.nx (σ.set i (some z)) H2
theorem ps_aug {i : Nat} {x : Str} {e : Expr} {te : TE} {op : Operator} {ti : TIp} {pos' : Pos} (hN : X.N.Nodup) (hi : X.N[i]? = some x) (hx : Loc X.env.scope x) (he : PE X e te) (ho : PIp X op ti) (hf : X.fn x = true ∨ X.env.scope.names.lookup x = some .local := by first | exact .inl rfl | exact .inr rfl | assumption) :
    PS X (.AugAssign (.Name x pos') op e pos) (tAug i te ti) := by
  intro pins s σ H D I h
  obtain ⟨v, e1, h⟩ := h
  obtain ⟨m, hn, hl⟩ := I.loc
  have vis : Vis X.env.scope x := by rcases hx with k | k; exact .inl k; exact .inr (.inl k)
  obtain ⟨u, r, l⟩ := hl i x v hi e1 vis
  refine wpAny_AugAssign_Name ?_
  have go : wpAny (model X.prog X.w) X.A (eval e X.env) (fun w s₂ => wpAny (model X.prog X.w) X.A (inplaceOp op u w) (fun r s₃ => wpAny (model X.prog X.w) X.A (storeName X.env x r) (fun _ => SP X pins D .next) X.xe s₃) X.xe s₂) X.xe s := by
    refine thn (he pins s σ H _ I h) fun w s1 ⟨y, H1, I1, r1, q1⟩ => ?_
    refine thn (ho pins s1 σ H1 v y u w _ I1 r r1 q1) fun z s2 ⟨zv, H2, I2, r2, q2⟩ => ?_
    exact store_ok I2 hN hi hx r2 (fun s3 I3 => ⟨_, H2, I3, q2⟩) hf
  rcases l with ⟨hk, hm⟩ | ⟨hk, c, hc, hcell⟩
  · exact wpAny_loadName_local I.ok.kind hk hn hm go
  · rcases hk with hk | hk
    · exact wpAny_loadName_cell I.ok.kind hk hc hcell go
    · rcases hx with k | k
      · have : X.env.scope.names.lookup x = some .free := hk
        rw [k] at this; cases this
      · have : X.env.scope.names.lookup x = some .free := hk
        rw [k] at this; cases this
def tAugS (to ti te : TE) (tget : V → V → Hp → VK → Prop) (tip : TIp) (tset : TSet) : TS := fun D σ H => to σ H fun o H1 => ti σ H1 fun i H2 => tget o i H2 fun x H3 => te σ H3 fun y H4 => tip x y H4 fun z H5 => tset o i z H5 fun H6 => D.nx σ H6
def PGet (X : Cx) (t : V → V → Hp → VK → Prop) : Prop :=
  ∀ (pins : List (Addr × Obj)) (s : Shared) (σ : St) (H : Hp) (o i : V) (ov iv : Value) (Q : VK), Inv X pins σ H s → RelV o ov → RelV i iv → t o i H Q →
    wpAny (model X.prog X.w) X.A (getItem ov iv) (EP X pins σ Q) X.xe s
def ipI (f : Int → Int → Int) : TIp := fun x y H Q => ∃ i j, x = .int i ∧ y = .int j ∧ Q (.int (f i j)) H
theorem ip_add : PIp X .Add (ipI fun i j => i + j) := by
  intro pins s σ H x y v u Q I r1 r2 h
  obtain ⟨i, j, e1, e2, q⟩ := h
  subst e1; subst e2
  obtain ⟨t, rfl⟩ := r1
  obtain ⟨t', rfl⟩ := r2
  exact iadd_int ⟨.int _, H, I.tok _, ⟨_, rfl⟩, q⟩
end
section
variable {X : Cx} {pos : Pos}
def tWhile (c : TT) (tb : TS) : TS := fun D σ H => ∃ W : Nat → St → Hp → Prop, (∃ m, W m σ H) ∧ ∀ m σ H, W m σ H →
  c σ H fun b H1 => if b = true then ∃ N : St → Hp → Prop, (∀ σ' H', N σ' H' → ∃ m', m' < m ∧ W m' σ' H') ∧ tb { D with nx := N, ct := N, bk := D.nx } σ H1 else D.nx σ H1
theorem ps_while {c : Expr} {body : List Stmt} {tc : TT} {tb : TS} (hp : PassesOwn (model X.prog X.w) X.A X.env X.xe) (hc : PT X c tc) (hb : PSs X body tb) : PS X (.While c body [] pos) (tWhile tc tb) := by
  intro pins s σ H D I h
  obtain ⟨W, ⟨m0, w0⟩, turn⟩ := h
  refine wpAny_While (codeAny_whileLoop (fun n s' => ∃ σ' H', Inv X pins σ' H' s' ∧ W n σ' H') ?_ m0 ⟨σ, H, I, w0⟩)
  rintro n s1 ⟨σ1, H1, I1, w1⟩
  refine wpAny_passesOwn hp (thn (hc pins s1 σ1 H1 _ I1 (turn n σ1 H1 w1)) fun b s2 ⟨H2, I2, q2⟩ => ?_)
  cases b with
  | true =>
    obtain ⟨N, hN, q2⟩ := q2
    rw [if_pos rfl]
    refine wpAny_passesOwn hp (thn (hb pins s2 σ1 H2 _ I2 q2) fun f s3 q3 => ?_)
    cases f with
    | next =>
      obtain ⟨σ3, H3, I3, n3⟩ := q3
      obtain ⟨m', hm, w3⟩ := hN σ3 H3 n3
      exact ⟨m', hm, σ3, H3, I3, w3⟩
    | cont =>
      obtain ⟨σ3, H3, I3, n3⟩ := q3
      obtain ⟨m', hm, w3⟩ := hN σ3 H3 n3
      exact ⟨m', hm, σ3, H3, I3, w3⟩
    | brk => exact q3
    | ret v => exact q3
  | false =>
    rw [if_neg Bool.false_ne_true]
    exact wpAny_execs_nil ⟨σ1, H2, I2, q2⟩
end
structure It where
  go : Nat → Hp → Prop
  yld : Nat → Hp → V → Hp → Prop
  stop : Nat → Hp → Prop
def FpOk (X : Cx) (pins : List (Addr × Obj)) (H : Hp) (b : Addr) : Prop :=
  H b = none ∧ b ≠ X.env.locals ∧ b ∉ X.fs ∧ (b ∈ X.ex ∨ X.s₀.heap.objs.size ≤ b) ∧ (∀ x c, X.env.cells.lookup x = some c → c ≠ b) ∧ ∀ p ∈ X.pn ++ pins, p.1 ≠ b
theorem Inv.fpOk {X : Cx} {pins : List (Addr × Obj)} {σ : St} {H H' : Hp} {s : Shared} {b : Addr} (I : Inv X pins σ H s) (hb : s.heap.objs.size ≤ b) (hn : H' b = none) : FpOk X pins H' b := by
  refine ⟨hn, Nat.ne_of_gt (Nat.lt_of_lt_of_le I.lt hb), I.nofs hb, .inr (Nat.le_trans I.sz hb), fun x c e z => ?_, fun p hp z => ?_⟩
  · obtain ⟨v, q⟩ := I.cell x c e
    exact absurd (Nat.lt_of_lt_of_le q.lt (by rw [z]; exact hb)) (Nat.lt_irrefl _)
  · exact absurd (Nat.lt_of_lt_of_le (Heap.lt_size (I.pin p hp).1) (by rw [z]; exact hb)) (Nat.lt_irrefl _)
structure Turn (P : Program) (w : World) (K : PySem.W.Frag) (tg : Expr) (J : It) (fp : List Addr) (it : Addr) (tn : Nat → Heap → Prop) : Prop where
  mem : it ∈ fp
  obj : ∀ i h, tn i h → ∀ b ∈ fp, ∃ o, h.get? b = some o ∧ ∀ v, o.data ≠ .cell v
  keep : ∀ i h h', tn i h → (∀ b ∈ fp, ∀ o, h.get? b = some o → h'.get? b = some o) → tn i h'
  item : ∀ (X : Cx), X.prog = P → X.w = w → X.K = K → X.calm = true → ∀ (i : Nat) (pins : List (Addr × Obj)) (s : Shared) (σ : St) (H : Hp) (E : Value → Shared → Prop), Inv X pins σ H s → (∀ b ∈ fp, FpOk X pins H b) → tn i s.heap → J.go i H →
    wpAny (model P w) X.A (pyNext (.ref it)) (fun r s1 => ∃ u, r = some u ∧
      wpAny (model P w) X.A (letOwnedTupleGo tg (.ref it) u) (fun _ s2 => ∃ x H', Inv X pins σ H' s2 ∧ RelV x u ∧ J.yld i H x H' ∧ tn (i + 1) s2.heap ∧ ∀ b ∈ fp, H' b = none) E s1) E s
  done : ∀ (X : Cx), X.prog = P → X.w = w → X.K = K → X.calm = true → ∀ (i : Nat) (pins : List (Addr × Obj)) (s : Shared) (σ : St) (H : Hp) (E : Value → Shared → Prop), Inv X pins σ H s → (∀ b ∈ fp, FpOk X pins H b) → tn i s.heap → J.stop i H →
    wpAny (model P w) X.A (pyNext (.ref it)) (fun r s1 => r = none ∧ Inv X pins σ H s1) E s
  self : ∀ (A : Around) (i : Nat) (s : Shared) (Q : Value → Shared → Prop) (E : Value → Shared → Prop), tn i s.heap → Q (.ref it) s → wpAny (model P w) A (pyIter (.ref it)) Q E s
abbrev TI := St → Hp → (It → Hp → Prop) → Prop
def PIE (X : Cx) (pins : List (Addr × Obj)) (σ : St) (tg : Expr) (R : It → Hp → Prop) (itv : Value) (s2 : Shared) : Prop :=
  ∃ (it : Addr) (fp : List Addr) (tn : Nat → Heap → Prop) (J : It) (H' : Hp), itv = .ref it ∧ Inv X pins σ H' s2 ∧ Turn X.prog X.w X.K tg J fp it tn ∧ tn 0 s2.heap ∧ (∀ b ∈ fp, FpOk X pins H' b) ∧ R J H'
def PI (X : Cx) (tg iter : Expr) (wi : TI) : Prop :=
  ∀ (pins : List (Addr × Obj)) (s : Shared) (σ : St) (H : Hp) (R : It → Hp → Prop), Inv X pins σ H s → wi σ H R →
    wpAny (model X.prog X.w) X.A (eval iter X.env) (fun v s1 => wpAny (model X.prog X.w) X.A (pyIter v) (PIE X pins σ tg R) X.xe s1) X.xe s
theorem go_of {M : Model} {A : Around} {E : Value → Shared → Prop} {s : Shared} {tg : Expr} {it : Addr} {u : Value} {o : Obj} {n : String} {vs : Array Value} {Q : Unit → Shared → Prop} (ho : s.heap.get? it = some o) (hc : o.cls = .type n) (hd : o.data = .fields vs)
    (hn : ["enumerate", "zip", "dict_itemiterator", "dict_reverseitemiterator", "odict_iterator", "itertools.zip_longest", "itertools.pairwise"].contains n = false) (hQ : Q () s) : wpAny M A (letOwnedTupleGo tg (.ref it) u) Q E s := by
  unfold letOwnedTupleGo
  cases tg <;> first
    | exact wpAny_pure hQ
    | (cases u <;> first
        | exact wpAny_pure hQ
        | (refine wpAny_bind (wpAny_load ho ?_)
           rw [hc, hd]
           show wpAny M A (if (["enumerate", "zip", "dict_itemiterator", "dict_reverseitemiterator", "odict_iterator", "itertools.zip_longest", "itertools.pairwise"].contains n && vs[0]? == some (rawInt _)) = true then _ else _) Q E s
           rw [if_neg (by intro h; rw [hn, Bool.false_and] at h; cases h)]
           exact wpAny_pure hQ))
def Itl (K : PySem.W.Frag) (a : Addr) : It :=
  ⟨fun i H => ∃ xs x, SqL K H a xs ∧ xs[i]? = some x, fun i H x H' => H' = H ∧ ∀ xs, SqL K H a xs → xs[i]? = some x, fun i H => ∃ xs, SqL K H a xs ∧ xs.length ≤ i⟩
def Itt (K : PySem.W.Frag) (a : Addr) : It :=
  ⟨fun i H => ∃ xs x, SqT K H a xs ∧ xs[i]? = some x, fun i H x H' => H' = H ∧ ∀ xs, SqT K H a xs → xs[i]? = some x, fun i H => ∃ xs, SqT K H a xs ∧ xs.length ≤ i⟩
def Itr (lo : Int) (n : Nat) : It := ⟨fun i _ => i < n, fun i H x H' => H' = H ∧ x = .int (lo + i), fun i _ => n ≤ i⟩
theorem turn_list {P : Program} {w : World} {K : PySem.W.Frag} {tg : Expr} (a it : Addr) : Turn P w K tg (Itl K a) [it] it (fun i h => h.IsListIter it a i) where
  mem := by simp
  obj := fun i h st b hb => by
    have e : b = it := by simpa using hb
    subst e
    obtain ⟨o, e, c, d⟩ := st
    exact ⟨o, e, fun v z => by rw [d] at z; cases z⟩
  keep := fun i h h' st k => st.at fun o e => k it (by simp) o e
  item := by
    intro X hP hw hK hc i pins s σ H E I hf st hg
    subst hP hw hK
    obtain ⟨xs, x, hq, hx⟩ := hg
    obtain ⟨its, rv, p, hz⟩ := I.list hq
    obtain ⟨u, hu, ru⟩ := rv.get hx
    obtain ⟨f0, f1, f2, f3, f4, f5⟩ := hf it (by simp)
    refine wpAny_pyNext_list_item st p.isList (x := u) (by simpa using hu) fun h' st' sb => ?_
    have I1 : Inv X pins σ H { s with heap := h' } := I.turned (t' := s.toks) (fun b o hb e => (sb.2 b hb).trans e) f0 f1 f3 f4 f5
    obtain ⟨o, e, c, d⟩ := id st'
    exact ⟨u, rfl, go_of (s := { s with heap := h' }) e c d (by decide) ⟨x, H, I1, ru, ⟨rfl, fun ys hy => by rw [I.list_inj hy hq]; exact hx⟩, st', fun b hb => (hf b hb).1⟩⟩
  done := by
    intro X hP hw hK hc i pins s σ H E I hf st hg
    subst hP hw hK
    obtain ⟨xs, hq, hx⟩ := hg
    obtain ⟨its, rv, p, hz⟩ := I.list hq
    obtain ⟨f0, f1, f2, f3, f4, f5⟩ := hf it (by simp)
    have hl := rv.length
    exact wpAny_pyNext_list_end (I.ok.hd hc) st p.isList (by simp; omega) fun h' eb => ⟨rfl, I.turned (t' := s.toks) (fun b o hb e => eb b o hb e) f0 f1 f3 f4 f5⟩
  self := fun _ _ _ _ _ st h => wpAny_pyIter_listiter st h
theorem turn_tuple {P : Program} {w : World} {K : PySem.W.Frag} {tg : Expr} (a it : Addr) : Turn P w K tg (Itt K a) [it] it (fun i h => h.IsTupleIter it a i) where
  mem := by simp
  obj := fun i h st b hb => by
    have e : b = it := by simpa using hb
    subst e
    obtain ⟨o, e, c, d⟩ := st
    exact ⟨o, e, fun v z => by rw [d] at z; cases z⟩
  keep := fun i h h' st k => st.at fun o e => k it (by simp) o e
  item := by
    intro X hP hw hK hc i pins s σ H E I hf st hg
    subst hP hw hK
    obtain ⟨xs, x, hq, hx⟩ := hg
    obtain ⟨its, rv, p, hz⟩ := I.tuple hq
    obtain ⟨u, hu, ru⟩ := rv.get hx
    obtain ⟨f0, f1, f2, f3, f4, f5⟩ := hf it (by simp)
    refine wpAny_pyNext_tuple_item st (show s.heap.IsTuple a its.toArray from p) (x := u) (by simpa using hu) fun h' st' sb => ?_
    have I1 : Inv X pins σ H { s with heap := h' } := I.turned (t' := s.toks) (fun b o hb e => (sb.2 b hb).trans e) f0 f1 f3 f4 f5
    obtain ⟨o, e, c, d⟩ := id st'
    exact ⟨u, rfl, go_of (s := { s with heap := h' }) e c d (by decide) ⟨x, H, I1, ru, ⟨rfl, fun ys hy => by rw [I.tuple_inj hy hq]; exact hx⟩, st', fun b hb => (hf b hb).1⟩⟩
  done := by
    intro X hP hw hK hc i pins s σ H E I hf st hg
    subst hP hw hK
    obtain ⟨xs, hq, hx⟩ := hg
    obtain ⟨its, rv, p, hz⟩ := I.tuple hq
    obtain ⟨f0, f1, f2, f3, f4, f5⟩ := hf it (by simp)
    have hl := rv.length
    exact wpAny_pyNext_tuple_end (I.ok.hd hc) st (show s.heap.IsTuple a its.toArray from p) (by simp; omega) fun h' eb => ⟨rfl, I.turned (t' := s.toks) (fun b o hb e => eb b o hb e) f0 f1 f3 f4 f5⟩
  self := fun _ _ _ _ _ st h => wpAny_pyIter_tupleiter st h
theorem turn_range {P : Program} {w : World} {K : PySem.W.Frag} {tg : Expr} (it : Addr) (lo : Int) (n : Nat) : Turn P w K tg (Itr lo n) [it] it (fun i h => IsRangeIter h it (lo + (i : Nat) * 1) ((n : Int) - (i : Nat)) 1) where
  mem := by simp
  obj := fun i h st b hb => by
    have e : b = it := by simpa using hb
    subst e
    exact ⟨_, st, fun v z => by
      have z' : Data.fields _ = Data.cell v := z
      cases z'⟩
  keep := fun i h h' st k => k it (by simp) _ st
  item := by
    intro X hP hw hK hc i pins s σ H E I hf st hg
    subst hP hw hK
    obtain ⟨f0, f1, f2, f3, f4, f5⟩ := hf it (by simp)
    have W := Walks.range (prog := X.prog) (w := X.w) (I.ok.hd hc) it lo 1 n
    refine W.item i s _ _ hg st fun v h' tk hv st' kk => ?_
    obtain ⟨t, rfl⟩ := hv
    have I1 : Inv X pins σ H { s with heap := h', toks := tk } := I.turned (fun b o hb e => kk b o (by simpa using hb) e) f0 f1 f3 f4 f5
    refine ⟨_, rfl, go_of (s := { s with heap := h', toks := tk }) (n := "range_iterator") st' rfl rfl (by decide) ⟨.int (lo + i), H, I1, ⟨t, ?_⟩, ⟨rfl, rfl⟩, st', fun b hb => (hf b hb).1⟩⟩
    rw [Int.mul_one]
  done := by
    intro X hP hw hK hc i pins s σ H E I hf st hg
    subst hP hw hK
    obtain ⟨f0, f1, f2, f3, f4, f5⟩ := hf it (by simp)
    exact wpAny_pyNext_range_end (I.ok.hd hc) st (by have : n ≤ i := hg; omega) fun h' eb => ⟨rfl, I.turned (t' := s.toks) (fun b o hb e => eb b o hb e) f0 f1 f3 f4 f5⟩
  self := fun _ _ _ _ _ st h => wpAny_pyIter_rangeiter st h
end L2
namespace L2
open PySem PySem.Spec PyProof.Rows
section
variable {X : Cx} {tg : Expr}
def iList (K : PySem.W.Frag) (tl : TE) : TI := fun σ H R => tl σ H fun x H1 => ∃ a, x = .ref a ∧ (∃ xs, SqL K H1 a xs) ∧ R (Itl K a) H1
def iTup (K : PySem.W.Frag) (tl : TE) : TI := fun σ H R => tl σ H fun x H1 => ∃ a, x = .ref a ∧ (∃ xs, SqT K H1 a xs) ∧ R (Itt K a) H1
theorem range_it {pins : List (Addr × Obj)} {σ : St} {H : Hp} {s : Shared} {R : It → Hp → Prop} {E : Value → Shared → Prop} {lo hi : Int} {t u v : Tok} {tk : Nat} (I : Inv X pins σ H s) (h1 : -(2 ^ 62) ≤ lo) (h2 : lo < 2 ^ 62) (h3 : -(2 ^ 62) ≤ hi) (h4 : hi < 2 ^ 62)
    (q : R (Itr lo (hi - lo).toNat) H) : wpAny (model X.prog X.w) X.A (pyIter (.ref s.heap.objs.size)) (PIE X pins σ tg R) E { s with heap := s.heap.push { cls := .type "range", data := .fields #[.int lo t, .int hi u, .int 1 v] }, toks := tk } := by
  refine wpAny_pyIter_range (IsRange.new ..) (small_one h1 h2 h3 h4) ?_
  have I1 : Inv X pins σ H { s with heap := s.heap.push { cls := .type "range", data := .fields #[.int lo t, .int hi u, .int 1 v] }, toks := tk } := I.kept fun b o e => Heap.get?_push_of_some _ e
  refine ⟨(s.heap.push { cls := .type "range", data := .fields #[.int lo t, .int hi u, .int 1 v] }).objs.size, [(s.heap.push { cls := .type "range", data := .fields #[.int lo t, .int hi u, .int 1 v] }).objs.size], _, _, H, rfl,
    I1.kept (t' := tk) fun b o e => Heap.get?_push_of_some _ e, turn_range _ lo (hi - lo).toNat, ?_, fun b hb => ?_, q⟩
  · have e1 : lo + ((0 : Nat) : Int) * 1 = lo := by simp
    have e2 : (((hi - lo).toNat : Nat) : Int) - ((0 : Nat) : Int) = Builtin.Range.rangeSize lo hi 1 := by rw [rangeSize_one]; split <;> omega
    show IsRangeIter _ _ (lo + ((0 : Nat) : Int) * 1) ((((hi - lo).toNat : Nat) : Int) - ((0 : Nat) : Int)) 1
    rw [e1, e2]
    exact Heap.get?_push_size _ rfl
  · have e : b = (s.heap.push { cls := .type "range", data := .fields #[.int lo t, .int hi u, .int 1 v] }).objs.size := by simpa using hb
    subst e
    exact I1.fpOk (Nat.le_refl _) (I1.hok.fresh (Nat.le_refl _))
def iRng1 (ta : TA) : TI := fun σ H R => ta σ H fun vs H1 => ∃ j : Int, vs = [.int j] ∧ -(2 ^ 62) ≤ j ∧ j < 2 ^ 62 ∧ R (Itr 0 j.toNat) H1
def iRng2 (ta : TA) : TI := fun σ H R => ta σ H fun vs H1 => ∃ i j : Int, vs = [.int i, .int j] ∧ (-(2 ^ 62) ≤ i ∧ i < 2 ^ 62 ∧ -(2 ^ 62) ≤ j ∧ j < 2 ^ 62) ∧ R (Itr i (j - i).toNat) H1
theorem pi_range1 {a : Expr} {ta : TA} {p pos : Pos} (hg : Gl X "range") (hm : X.mg "range" = none) (ha : PA X [a] ta) (hs : starEach [a] X.env = [(false, eval a X.env)] := by rfl) : PI X tg (.Call (.Name "range" p) [a] [] pos) (iRng1 ta) := by
  intro pins s σ H R I h
  refine Call_ (ld_blt I hg hm boot_range (PyProof.Rows.callWith_type1 (thn (ha pos pins s σ H _ I h) fun us s1 ⟨vs, H1, I1, r1, q1⟩ => ?_) hs rfl))
  obtain ⟨j, e, q1, q2, q⟩ := q1
  subst e
  cases r1 with
  | cons r rr =>
    cases rr
    obtain ⟨t, rfl⟩ := r
    exact call_range_1 (range_it I1 (by omega) (by omega) q1 q2 (by simpa using q))
def tFor (wi : TI) (g : TG) (tb : TS) : TS := fun D σ H => wi σ H fun J H1 => ∃ W : Nat → Nat → St → Hp → Prop, (∃ m, W 0 m σ H1) ∧ ∀ i m σ H, W i m σ H →
  (J.stop i H ∧ D.nx σ H) ∨ (J.go i H ∧ ∃ N : St → Hp → Prop, (∀ σ' H', N σ' H' → ∃ m', m' < m ∧ W (i + 1) m' σ' H') ∧ ∀ x H', J.yld i H x H' → g x σ H' fun σ2 H2 => tb { D with nx := N, ct := N, bk := D.nx } σ2 H2)
def pinsAt (fp : List Addr) (h : Heap) : List (Addr × Obj) := fp.filterMap fun b => (h.get? b).map fun o => (b, o)
theorem mem_pinsAt {fp : List Addr} {h : Heap} {b : Addr} {o : Obj} (hb : b ∈ fp) (e : h.get? b = some o) : (b, o) ∈ pinsAt fp h := List.mem_filterMap.mpr ⟨b, hb, by rw [e]; rfl⟩
theorem of_pinsAt {fp : List Addr} {h : Heap} {p : Addr × Obj} (hp : p ∈ pinsAt fp h) : p.1 ∈ fp ∧ h.get? p.1 = some p.2 := by
  obtain ⟨b, hb, e⟩ := List.mem_filterMap.mp hp
  cases q : h.get? b with
  | none => rw [q] at e; cases e
  | some o =>
    rw [q] at e
    have e' : (b, o) = p := Option.some.inj e
    subst e'
    exact ⟨hb, q⟩
theorem Inv.pinned {pins : List (Addr × Obj)} {σ : St} {H : Hp} {s : Shared} {fp : List Addr} (I : Inv X pins σ H s) (hf : ∀ b ∈ fp, FpOk X pins H b) (ho : ∀ b ∈ fp, ∃ o, s.heap.get? b = some o ∧ ∀ v, o.data ≠ .cell v) : Inv X (pins ++ pinsAt fp s.heap) σ H s :=
  I.pins_of fun p hp => (List.mem_append.mp hp).elim (fun z => I.pin p (List.mem_append_right _ z)) fun z => by
    obtain ⟨hb, e⟩ := of_pinsAt z
    obtain ⟨f0, f1, f2, _⟩ := hf p.1 hb
    obtain ⟨o, e', d⟩ := ho p.1 hb
    rw [e] at e'; cases e'
    exact ⟨e, f0, f1, f2, d⟩
theorem Inv.unpinned {pins pl : List (Addr × Obj)} {σ : St} {H : Hp} {s : Shared} (I : Inv X (pins ++ pl) σ H s) : Inv X pins σ H s := I.pins_of fun p hp => I.pin p (List.mem_append_right _ (List.mem_append_left _ hp))
theorem ps_for {iter : Expr} {body : List Stmt} {wi : TI} {g : TG} {tb : TS} {pos : Pos} (hp : PassesOwn (model X.prog X.w) X.A X.env X.xe) (hc : X.calm = true) (hi : PI X tg iter wi) (hg : PG X tg g) (hb : PSs X body tb)
    (hs : ∀ x, foldedSetIterable iter X.env x = pure x := by intro _; rfl) : PS X (.For tg iter body [] pos) (tFor wi g tb) := by
  intro pins s σ H D I h
  refine wpAny_For (thn (hi pins s σ H _ I h) fun v s1 h1 => thn h1 fun itv s2 h2 => ?_) hs
  obtain ⟨it, fp, tn, J, H2, e, I2, T, st2, f2, W, ⟨m0, w0⟩, turn⟩ := h2
  subst e
  -- what stays true of the iterator's objects through the loop
  have stat : ∀ {H' : Hp}, (∀ b ∈ fp, H' b = none) → ∀ b ∈ fp, FpOk X pins H' b := fun hn b hb => ⟨hn b hb, (f2 b hb).2⟩
  refine codeAny_forLoop_any (fun n s' => ∃ i σ' H', Inv X pins σ' H' s' ∧ tn i s'.heap ∧ (∀ b ∈ fp, H' b = none) ∧ W i n σ' H') ?_ m0 ⟨0, σ, H2, I2, st2, fun b hb => (f2 b hb).1, w0⟩
  rintro n s3 ⟨i, σ3, H3, I3, st3, fr3, w3⟩
  rcases turn i n σ3 H3 w3 with ⟨stop, qn⟩ | ⟨go, N, hN, step⟩
  · refine wpAny_passesOwn hp (thn (T.done X rfl rfl rfl hc i pins s3 σ3 H3 X.xe I3 (stat fr3) st3 stop) fun r s4 ⟨hr, I4⟩ => ?_)
    subst hr
    exact wpAny_execs_nil ⟨σ3, H3, I4, qn⟩
  · refine wpAny_passesOwn hp (thn (T.item X rfl rfl rfl hc i pins s3 σ3 H3 X.xe I3 (stat fr3) st3 go) fun r s4 ⟨u, hr, h4⟩ => ?_)
    subst hr
    refine wpAny_passesOwn hp (thn h4 fun _ s5 ⟨x, H5, I5, r5, y5, st5, fr5⟩ => ?_)
    have I5' := I5.pinned (stat fr5) (T.obj _ _ st5)
    refine wpAny_passesOwn hp (thn (hg _ s5 σ3 H5 x u _ I5' r5 (step x H5 y5)) fun _ s6 ⟨σ6, H6, I6, q6⟩ => ?_)
    refine wpAny_passesOwn hp (thn (hb _ s6 σ6 H6 _ I6 q6) fun f s7 q7 => ?_)
    have again : ∀ {σ7 : St} {H7 : Hp}, Inv X (pins ++ pinsAt fp s5.heap) σ7 H7 s7 → N σ7 H7 → ∃ m, m < n ∧ ∃ i σ' H', Inv X pins σ' H' s7 ∧ tn i s7.heap ∧ (∀ b ∈ fp, H' b = none) ∧ W i m σ' H' := fun {σ7 H7} I7 n7 => by
      obtain ⟨m', hm, w7⟩ := hN σ7 H7 n7
      refine ⟨m', hm, i + 1, σ7, H7, I7.unpinned, T.keep _ _ _ st5 fun b hb o e => (I7.pin (b, o) (List.mem_append_right _ (List.mem_append_right _ (mem_pinsAt hb e)))).1, fun b hb => ?_, w7⟩
      obtain ⟨o, e, d⟩ := T.obj _ _ st5 b hb
      exact (I7.pin (b, o) (List.mem_append_right _ (List.mem_append_right _ (mem_pinsAt hb e)))).2.1
    cases f with
    | next => obtain ⟨σ7, H7, I7, n7⟩ := q7; exact again I7 n7
    | cont => obtain ⟨σ7, H7, I7, n7⟩ := q7; exact again I7 n7
    | brk => obtain ⟨σ7, H7, I7, q7⟩ := q7; exact ⟨σ7, H7, I7.unpinned, q7⟩
    | ret v => obtain ⟨x7, σ7, H7, I7, r7, q7⟩ := q7; exact ⟨x7, σ7, H7, I7.unpinned, r7, q7⟩
end
theorem for_list {K : PySem.W.Frag} {a : Addr} {xs : List V} {g : TG} {tb : TS} {D : Ends} {σ : St} {H : Hp} (Pv : Nat → St → Hp → Prop) (h0 : Pv 0 σ H) (hl : ∀ i σ H, i ≤ xs.length → Pv i σ H → SqL K H a xs)
    (hs : ∀ i x σ H, xs[i]? = some x → Pv i σ H → g x σ H fun σ2 H2 => tb { D with nx := Pv (i + 1), ct := Pv (i + 1), bk := D.nx } σ2 H2) (hd : ∀ σ H, Pv xs.length σ H → D.nx σ H) :
    ∃ W : Nat → Nat → St → Hp → Prop, (∃ m, W 0 m σ H) ∧ ∀ i m σ H, W i m σ H →
      ((Itl K a).stop i H ∧ D.nx σ H) ∨ ((Itl K a).go i H ∧ ∃ N : St → Hp → Prop, (∀ σ' H', N σ' H' → ∃ m', m' < m ∧ W (i + 1) m' σ' H') ∧ ∀ x H', (Itl K a).yld i H x H' → g x σ H' fun σ2 H2 => tb { D with nx := N, ct := N, bk := D.nx } σ2 H2) := by
  refine ⟨fun i m σ H => m = xs.length - i ∧ i ≤ xs.length ∧ Pv i σ H, ⟨xs.length, by simp, Nat.zero_le _, h0⟩, ?_⟩
  rintro i m σ H ⟨rfl, hi, p⟩
  have q := hl i σ H hi p
  by_cases hlt : i < xs.length
  · refine .inr ⟨⟨xs, xs[i], q, by simp [hlt]⟩, Pv (i + 1), fun σ' H' p' => ⟨xs.length - (i + 1), by omega, rfl, hlt, p'⟩, fun x H' y => ?_⟩
    obtain ⟨e, y⟩ := y
    subst e
    exact hs i x σ _ (y xs q) p
  · have e : i = xs.length := by omega
    subst e
    exact .inl ⟨⟨xs, q, Nat.le_refl _⟩, hd σ H p⟩
theorem for_tup {K : PySem.W.Frag} {a : Addr} {xs : List V} {g : TG} {tb : TS} {D : Ends} {σ : St} {H : Hp} (Pv : Nat → St → Hp → Prop) (h0 : Pv 0 σ H) (hl : ∀ i σ H, i ≤ xs.length → Pv i σ H → SqT K H a xs)
    (hs : ∀ i x σ H, xs[i]? = some x → Pv i σ H → g x σ H fun σ2 H2 => tb { D with nx := Pv (i + 1), ct := Pv (i + 1), bk := D.nx } σ2 H2) (hd : ∀ σ H, Pv xs.length σ H → D.nx σ H) :
    ∃ W : Nat → Nat → St → Hp → Prop, (∃ m, W 0 m σ H) ∧ ∀ i m σ H, W i m σ H →
      ((Itt K a).stop i H ∧ D.nx σ H) ∨ ((Itt K a).go i H ∧ ∃ N : St → Hp → Prop, (∀ σ' H', N σ' H' → ∃ m', m' < m ∧ W (i + 1) m' σ' H') ∧ ∀ x H', (Itt K a).yld i H x H' → g x σ H' fun σ2 H2 => tb { D with nx := N, ct := N, bk := D.nx } σ2 H2) := by
  refine ⟨fun i m σ H => m = xs.length - i ∧ i ≤ xs.length ∧ Pv i σ H, ⟨xs.length, by simp, Nat.zero_le _, h0⟩, ?_⟩
  rintro i m σ H ⟨rfl, hi, p⟩
  have q := hl i σ H hi p
  by_cases hlt : i < xs.length
  · refine .inr ⟨⟨xs, xs[i], q, by simp [hlt]⟩, Pv (i + 1), fun σ' H' p' => ⟨xs.length - (i + 1), by omega, rfl, hlt, p'⟩, fun x H' y => ?_⟩
    obtain ⟨e, y⟩ := y
    subst e
    exact hs i x σ _ (y xs q) p
  · have e : i = xs.length := by omega
    subst e
    exact .inl ⟨⟨xs, q, Nat.le_refl _⟩, hd σ H p⟩
theorem for_range {lo : Int} {n : Nat} {g : TG} {tb : TS} {D : Ends} {σ : St} {H : Hp} (Pv : Nat → St → Hp → Prop) (h0 : Pv 0 σ H)
    (hs : ∀ i σ H, i < n → Pv i σ H → g (.int (lo + i)) σ H fun σ2 H2 => tb { D with nx := Pv (i + 1), ct := Pv (i + 1), bk := D.nx } σ2 H2) (hd : ∀ σ H, Pv n σ H → D.nx σ H) :
    ∃ W : Nat → Nat → St → Hp → Prop, (∃ m, W 0 m σ H) ∧ ∀ i m σ H, W i m σ H →
      ((Itr lo n).stop i H ∧ D.nx σ H) ∨ ((Itr lo n).go i H ∧ ∃ N : St → Hp → Prop, (∀ σ' H', N σ' H' → ∃ m', m' < m ∧ W (i + 1) m' σ' H') ∧ ∀ x H', (Itr lo n).yld i H x H' → g x σ H' fun σ2 H2 => tb { D with nx := N, ct := N, bk := D.nx } σ2 H2) := by
  refine ⟨fun i m σ H => m = n - i ∧ i ≤ n ∧ Pv i σ H, ⟨n, by simp, Nat.zero_le _, h0⟩, ?_⟩
  rintro i m σ H ⟨rfl, hi, p⟩
  by_cases hlt : i < n
  · refine .inr ⟨hlt, Pv (i + 1), fun σ' H' p' => ⟨n - (i + 1), by omega, rfl, hlt, p'⟩, fun x H' y => ?_⟩
    obtain ⟨e, y⟩ := y
    subst e y
    exact hs i σ _ hlt p
  · have e : i = n := by omega
    subst e
    exact .inl ⟨Nat.le_refl _, hd σ H p⟩
end L2
namespace L2
open PySem PySem.Spec PyProof.Rows
abbrev R2 := V → V → Hp → VK → Prop
def OpR (X : Cx) (f : Value → Value → Sem Value) (r : R2) : Prop :=
  ∀ (pins : List (Addr × Obj)) (s : Shared) (σ : St) (H : Hp) (x y : V) (v u : Value) (Q : VK), Inv X pins σ H s → RelV x v → RelV y u → r x y H Q →
    wpAny (model X.prog X.w) X.A (f v u) (EP X pins σ Q) X.xe s
def UnR (X : Cx) (f : Value → Sem Value) (r : V → Hp → VK → Prop) : Prop :=
  ∀ (pins : List (Addr × Obj)) (s : Shared) (σ : St) (H : Hp) (x : V) (v : Value) (Q : VK), Inv X pins σ H s → RelV x v → r x H Q →
    wpAny (model X.prog X.w) X.A (f v) (EP X pins σ Q) X.xe s
def CallR (X : Cx) (f : Value) (r : List V → Hp → VK → Prop) : Prop :=
  ∀ (pins : List (Addr × Obj)) (s : Shared) (σ : St) (H : Hp) (xs : List V) (us : List Value) (Q : VK), Inv X pins σ H s → Vals xs us → r xs H Q →
    wpAny (model X.prog X.w) X.A (call f us) (EP X pins σ Q) X.xe s
def TruR (X : Cx) (r : V → Hp → (Bool → Hp → Prop) → Prop) : Prop :=
  ∀ (pins : List (Addr × Obj)) (s : Shared) (σ : St) (H : Hp) (x : V) (v : Value) (Q : Bool → Hp → Prop), Inv X pins σ H s → RelV x v → r x H Q →
    wpAny (model X.prog X.w) X.A (truthy v) (TP X pins σ Q) X.xe s
def tOp (r : R2) (ta tb : TE) : TE := fun σ H Q => ta σ H fun x H1 => tb σ H1 fun y H2 => r x y H2 Q
def tUn (r : V → Hp → VK → Prop) (ta : TE) : TE := fun σ H Q => ta σ H fun x H1 => r x H1 Q
def rI (C : Int → Int → Prop) (g : Int → Int → V) : R2 := fun x y H Q => ∃ i j, x = .int i ∧ y = .int j ∧ C i j ∧ Q (g i j) H
def rI0 (g : Int → Int → V) : R2 := fun x y H Q => ∃ i j, x = .int i ∧ y = .int j ∧ Q (g i j) H
def rU (g : Int → V) : V → Hp → VK → Prop := fun x H Q => ∃ i, x = .int i ∧ Q (g i) H
section
variable {X : Cx} {a b c : Expr} {ta tb tc : TE} {pos : Pos}
theorem binT (ha : PE X a ta) (hb : PE X b tb) {pins : List (Addr × Obj)} {s : Shared} {σ : St} {H : Hp} {R : V → V → Hp → Prop} (I : Inv X pins σ H s)
    (h : ta σ H fun x H1 => tb σ H1 fun y H2 => R x y H2) {Q : Value → Shared → Prop} {f : Value → Value → Sem Value}
    (hf : ∀ v u s2 x y H2, Inv X pins σ H2 s2 → RelV x v → RelV y u → R x y H2 → wpAny (model X.prog X.w) X.A (f v u) Q X.xe s2) :
    wpAny (model X.prog X.w) X.A (eval a X.env) (fun v s₁ => wpAny (model X.prog X.w) X.A (eval b X.env) (fun u s₂ => wpAny (model X.prog X.w) X.A (f v u) Q X.xe s₂) X.xe s₁) X.xe s := by
  refine thn (ha pins s σ H _ I h) fun v s1 ⟨x, H1, I1, r1, q1⟩ => ?_
  refine thn (hb pins s1 σ H1 _ I1 q1) fun u s2 ⟨y, H2, I2, r2, q2⟩ => ?_
  exact hf v u s2 x y H2 I2 r1 r2 q2
theorem pe_op {op : Operator} {r : R2} (ho : OpR X (binaryOp op) r) (ha : PE X a ta) (hb : PE X b tb) : PE X (.BinOp a op b pos) (tOp r ta tb) := by
  intro pins s σ H Q I h
  exact wpAny_BinOp (binT ha hb I h fun v u s2 x y H2 I2 rx ry q => ho pins s2 σ H2 x y v u Q I2 rx ry q)
theorem opI {f : Value → Value → Sem Value} {C : Int → Int → Prop} {g : Int → Int → Int}
    (rule : ∀ (i j : Int) (t u : Tok) (s : Shared) (Q : Value → Shared → Prop) (E : Value → Shared → Prop), C i j → Q (.int (g i j) s.toks) { s with toks := s.toks + 1 } → wpAny (model X.prog X.w) X.A (f (.int i t) (.int j u)) Q E s) :
    OpR X f (rI C fun i j => .int (g i j)) := by
  intro pins s σ H x y v u Q I rx ry h
  obtain ⟨i, j, rfl, rfl, hc, q⟩ := h
  obtain ⟨t, rfl⟩ := rx
  obtain ⟨t', rfl⟩ := ry
  exact rule i j t t' s _ _ hc ⟨.int (g i j), H, I.tok _, ⟨_, rfl⟩, q⟩
theorem opI0 {f : Value → Value → Sem Value} {g : Int → Int → Int}
    (rule : ∀ (i j : Int) (t u : Tok) (s : Shared) (Q : Value → Shared → Prop) (E : Value → Shared → Prop), Q (.int (g i j) s.toks) { s with toks := s.toks + 1 } → wpAny (model X.prog X.w) X.A (f (.int i t) (.int j u)) Q E s) :
    OpR X f (rI0 fun i j => .int (g i j)) := by
  intro pins s σ H x y v u Q I rx ry h
  obtain ⟨i, j, rfl, rfl, q⟩ := h
  obtain ⟨t, rfl⟩ := rx
  obtain ⟨t', rfl⟩ := ry
  exact rule i j t t' s _ _ ⟨.int (g i j), H, I.tok _, ⟨_, rfl⟩, q⟩
theorem opB0 {f : Value → Value → Sem Value} {g : Int → Int → Bool}
    (rule : ∀ (i j : Int) (t u : Tok) (s : Shared) (Q : Value → Shared → Prop) (E : Value → Shared → Prop), Q (.bool (g i j)) s → wpAny (model X.prog X.w) X.A (f (.int i t) (.int j u)) Q E s) :
    OpR X f (rI0 fun i j => .bl (g i j)) := by
  intro pins s σ H x y v u Q I rx ry h
  obtain ⟨i, j, rfl, rfl, q⟩ := h
  obtain ⟨t, rfl⟩ := rx
  obtain ⟨t', rfl⟩ := ry
  exact rule i j t t' s _ _ ⟨.bl (g i j), H, I, rfl, q⟩
def CDiv (i j : Int) : Prop := 0 < j ∧ j < 1073741824
def CDivN (i j : Int) : Prop := j ≠ 0 ∧ j.natAbs < 1073741824
def CPow (i j : Int) : Prop := 0 ≤ j ∧ j ≤ 1000000 ∧ i.natAbs < 2 ^ 64
def CMul (i j : Int) : Prop := (-(2 ^ 64) < i ∧ i < 2 ^ 64) ∨ (-(2 ^ 64) < j ∧ j < 2 ^ 64)
theorem CMul.ok {i j : Int} (h : CMul i j) : IntMulOk i j := by
  rcases h with ⟨h1, h2⟩ | ⟨h1, h2⟩
  · exact .of_left (intBits_le_64 h1 h2)
  · exact .of_right (intBits_le_64 h1 h2)
theorem two_pow_nn (k : Nat) : (0 : Int) ≤ 2 ^ k := by
  rw [two_pow_cast]
  exact Int.natCast_nonneg _
theorem op_add : OpR X (binaryOp .Add) (rI0 fun i j => .int (i + j)) := opI0 fun _ _ _ _ _ _ _ q => add_int q
theorem op_sub : OpR X (binaryOp .Sub) (rI0 fun i j => .int (i - j)) := opI0 fun _ _ _ _ _ _ _ q => sub_int q
theorem op_mod : OpR X (binaryOp .Mod) (rI (fun _ j => 0 < j) fun i j => .int (i % j)) := opI fun i j _ _ _ _ _ hc q => by
  have h1 : (0 : Int) < j := hc
  exact mod_int' (by omega) (by rw [Int.fmod_eq_emod_of_nonneg i (by omega)]; exact q)
theorem op_pow : OpR X (binaryOp .Pow) (rI CPow fun i j => .int (i ^ j.toNat)) := opI fun _ _ _ _ _ _ _ hc q => pow_int_small hc.1 hc.2.1 hc.2.2 q
theorem op_shr : OpR X (binaryOp .RShift) (rI (fun _ j => 0 ≤ j) fun i j => .int (i / 2 ^ j.toNat)) := opI fun i j _ _ _ _ _ hc q =>
  rshift_int hc (by rw [Int.fdiv_eq_ediv_of_nonneg i (two_pow_nn _)]; exact q)
theorem op_and : OpR X (binaryOp .BitAnd) (rI0 fun i j => .int (Builtin.bitAnd i j)) := opI0 fun _ _ _ _ _ _ _ q => and_int q
end
def scal : V → V → Bool
  | .non, .non => true | .non, .int _ => true | .int _, .non => true | .non, .bl _ => true | .bl _, .non => true | .non, .str _ => true | .str _, .non => true
  | .int _, .int _ => true | .bl _, .bl _ => true | .str _, .str _ => true | .byt _, .byt _ => true
  | .int _, .str _ => true | .str _, .int _ => true | .bl _, .str _ => true | .str _, .bl _ => true
  | _, _ => false
def rEq : R2 := fun x y H Q => scal x y = true ∧ Q (.bl (decide (x = y))) H
def rNe : R2 := fun x y H Q => scal x y = true ∧ Q (.bl (!decide (x = y))) H
theorem dec_int {i j : Int} : decide (V.int i = V.int j) = (i == j) := by
  rw [Bool.eq_iff_iff]
  simp
theorem dec_bl {i j : Bool} : decide (V.bl i = V.bl j) = (i == j) := by
  rw [Bool.eq_iff_iff]
  simp
theorem dec_str {i j : Str} : decide (V.str i = V.str j) = (i == j) := by
  rw [Bool.eq_iff_iff]
  simp
theorem dec_byt {i j : Array UInt8} : decide (V.byt i = V.byt j) = (i.toList == j.toList) := by
  rw [Bool.eq_iff_iff]
  cases i
  cases j
  simp
section
variable {X : Cx} {a b c : Expr} {ta tb tc : TE} {pos : Pos}
theorem fin_bl {pins : List (Addr × Obj)} {σ : St} {H : Hp} {s : Shared} {Q : VK} {k k' : Bool} (I : Inv X pins σ H s) (q : Q (.bl k) H) (e : k = k') : EP X pins σ Q (.bool k') s := by
  subst e
  exact ⟨.bl k, H, I, rfl, q⟩
theorem op_eq : OpR X (compareOp .Eq) rEq := by
  intro pins s σ H x y v u Q I rx ry h
  obtain ⟨hs, q⟩ := h
  cases x with
  | non =>
    cases rx
    cases y with
    | non => cases ry; exact PySem.EqNone.eq_none_none (fin_bl I q (by simp))
    | bl j => cases ry; exact PySem.EqNone.eq_none_bool (fin_bl I q (by simp))
    | int j => obtain ⟨t', rfl⟩ := ry; exact PySem.EqNone.eq_none_int (fin_bl I q (by simp))
    | str j => obtain ⟨t', rfl⟩ := ry; exact PySem.EqNone.eq_none_str (fin_bl I q (by simp))
    | _ => exact absurd (show false = true from hs) Bool.false_ne_true
  | bl i =>
    cases rx
    cases y with
    | non => cases ry; exact PySem.EqNone.eq_bool_none (fin_bl I q (by simp))
    | bl j => cases ry; exact eq_bool (fin_bl I q dec_bl)
    | str j => obtain ⟨t', rfl⟩ := ry; exact PySem.EqMixed.eq_bool_str (fin_bl I q (by simp))
    | _ => exact absurd (show false = true from hs) Bool.false_ne_true
  | int i =>
    obtain ⟨t, rfl⟩ := rx
    cases y with
    | non => cases ry; exact PySem.EqNone.eq_int_none (fin_bl I q (by simp))
    | int j => obtain ⟨t', rfl⟩ := ry; exact eq_int (fin_bl I q dec_int)
    | str j => obtain ⟨t', rfl⟩ := ry; exact PySem.EqMixed.eq_int_str (fin_bl I q (by simp))
    | _ => exact absurd (show false = true from hs) Bool.false_ne_true
  | str i =>
    obtain ⟨t, rfl⟩ := rx
    cases y with
    | non => cases ry; exact PySem.EqNone.eq_str_none (fin_bl I q (by simp))
    | bl j => cases ry; exact PySem.EqMixed.eq_str_bool (fin_bl I q (by simp))
    | int j => obtain ⟨t', rfl⟩ := ry; exact PySem.EqMixed.eq_str_int (fin_bl I q (by simp))
    | str j => obtain ⟨t', rfl⟩ := ry; exact eq_str (fin_bl I q dec_str)
    | _ => exact absurd (show false = true from hs) Bool.false_ne_true
  | byt i =>
    obtain ⟨t, rfl⟩ := rx
    cases y with
    | byt j => obtain ⟨t', rfl⟩ := ry; exact PySem.W.eq_bytes (fin_bl I q dec_byt)
    | _ => exact absurd (show false = true from hs) Bool.false_ne_true
  | _ => cases y <;> exact absurd (show false = true from hs) Bool.false_ne_true
theorem op_ne : OpR X (compareOp .NotEq) rNe := by
  intro pins s σ H x y v u Q I rx ry h
  obtain ⟨hs, q⟩ := h
  cases x with
  | non =>
    cases rx
    cases y with
    | non => cases ry; exact PySem.EqNone.ne_none_none (fin_bl I q (by simp))
    | bl j => cases ry; exact PySem.EqNone.ne_none_bool (fin_bl I q (by simp))
    | int j => obtain ⟨t', rfl⟩ := ry; exact PySem.EqNone.ne_none_int (fin_bl I q (by simp))
    | str j => obtain ⟨t', rfl⟩ := ry; exact PySem.EqNone.ne_none_str (fin_bl I q (by simp))
    | _ => exact absurd (show false = true from hs) Bool.false_ne_true
  | bl i =>
    cases rx
    cases y with
    | non => cases ry; exact PySem.EqNone.ne_bool_none (fin_bl I q (by simp))
    | bl j => cases ry; exact ne_bool (fin_bl I q (congrArg not dec_bl))
    | str j => obtain ⟨t', rfl⟩ := ry; exact PySem.EqMixed.ne_bool_str (fin_bl I q (by simp))
    | _ => exact absurd (show false = true from hs) Bool.false_ne_true
  | int i =>
    obtain ⟨t, rfl⟩ := rx
    cases y with
    | non => cases ry; exact PySem.EqNone.ne_int_none (fin_bl I q (by simp))
    | int j => obtain ⟨t', rfl⟩ := ry; exact ne_int (fin_bl I q (congrArg not dec_int))
    | str j => obtain ⟨t', rfl⟩ := ry; exact PySem.EqMixed.ne_int_str (fin_bl I q (by simp))
    | _ => exact absurd (show false = true from hs) Bool.false_ne_true
  | str i =>
    obtain ⟨t, rfl⟩ := rx
    cases y with
    | non => cases ry; exact PySem.EqNone.ne_str_none (fin_bl I q (by simp))
    | bl j => cases ry; exact PySem.EqMixed.ne_str_bool (fin_bl I q (by simp))
    | int j => obtain ⟨t', rfl⟩ := ry; exact PySem.EqMixed.ne_str_int (fin_bl I q (by simp))
    | str j => obtain ⟨t', rfl⟩ := ry; exact ne_str (fin_bl I q (congrArg not dec_str))
    | _ => exact absurd (show false = true from hs) Bool.false_ne_true
  | byt i =>
    obtain ⟨t, rfl⟩ := rx
    cases y with
    | byt j => obtain ⟨t', rfl⟩ := ry; exact PySem.W.ne_bytes (fin_bl I q (congrArg not dec_byt))
    | _ => exact absurd (show false = true from hs) Bool.false_ne_true
  | _ => cases y <;> exact absurd (show false = true from hs) Bool.false_ne_true
theorem op_lt : OpR X (compareOp .Lt) (rI0 fun i j => .bl (decide (i < j))) := opB0 fun _ _ _ _ _ _ _ q => lt_int q
theorem op_le : OpR X (compareOp .LtE) (rI0 fun i j => .bl (decide (i ≤ j))) := opB0 fun _ _ _ _ _ _ _ q => le_int q
theorem op_gt : OpR X (compareOp .Gt) (rI0 fun i j => .bl (decide (j < i))) := opB0 fun _ _ _ _ _ _ _ q => gt_int q
theorem op_lt_str : OpR X (compareOp .Lt) (fun x y H Q => ∃ i j, x = .str i ∧ y = .str j ∧ Q (.bl (decide (i.cps.toList < j.cps.toList))) H) := by
  intro pins s σ H x y v u Q I rx ry h
  obtain ⟨i, j, rfl, rfl, q⟩ := h
  obtain ⟨t, rfl⟩ := rx
  obtain ⟨t', rfl⟩ := ry
  exact lt_str (fin_bl I q rfl)
theorem op_notN : OpR X (compareOp .IsNot) (fun x y H Q => y = .non ∧ Q (.bl (!decide (x = .non))) H) := by
  intro pins s σ H x y v u Q I rx ry h
  obtain ⟨rfl, q⟩ := h
  cases ry
  refine isnot_none_gen (fin_bl I q ?_)
  cases x <;> first
    | (cases rx; rfl)
    | (obtain ⟨t, rfl⟩ := rx; rfl)
def isObj : HO → Bool
  | .lst _ => true
  | .ins _ _ _ => true
  | _ => false
theorem OpR.or {f : Value → Value → Sem Value} {r r' : R2} (h : OpR X f r) (h' : OpR X f r') : OpR X f (fun x y H Q => r x y H Q ∨ r' x y H Q) := by
  intro pins s σ H x y v u Q I rx ry q
  rcases q with q | q
  · exact h pins s σ H x y v u Q I rx ry q
  · exact h' pins s σ H x y v u Q I rx ry q
theorem nomark (b : Expr) {op : CmpOp} (h : op ≠ .In := by decide) (h2 : op ≠ .NotIn := by decide) : behindInMarks op b = false := by
  have e1 : (op == CmpOp.In) = false := by cases op <;> first | rfl | exact absurd rfl h
  have e2 : (op == CmpOp.NotIn) = false := by cases op <;> first | rfl | exact absurd rfl h2
  cases b <;> simp [behindInMarks, e1, e2]
theorem pe_cmpR {op : CmpOp} {r : R2} (ho : OpR X (compareOp op) r) (ha : PE X a ta) (hb : PE X b tb) (hm : behindInMarks op b = false) : PE X (.Compare a [op] [b] pos) (tOp r ta tb) := by
  intro pins s σ H Q I h
  exact wpAny_Compare1 (binT ha hb I h fun v u s2 x y H2 I2 rx ry q => ho pins s2 σ H2 x y v u Q I2 rx ry q) hm
def tTest (t : TE) : TT := fun σ H Q => t σ H fun x H' => ∃ k, x = .bl k ∧ Q k H'
def tChain (r r' : R2) (ta tb tc : TE) : TE := fun σ H Q => ta σ H fun x H1 => tb σ H1 fun y H2 => r x y H2 fun z H3 => ∃ k, z = .bl k ∧
  (if k = true then tc σ H3 fun w' H4 => r' y w' H4 Q else Q (.bl false) H3)
def TruV (K : PySem.W.Frag) (x : V) (H : Hp) (k : Bool) : Prop :=
  match x with
  | .non => k = false
  | .bl b => k = b
  | .int i => k = (i != 0)
  | .str y => y.length ≤ sizeLine ∧ k = ((y.length : Int) != 0)
  | .byt y => y.size ≤ sizeLine ∧ k = ((y.size : Int) != 0)
  | .ref p => (∃ xs, SqL K H p xs ∧ k = !xs.isEmpty) ∨ (∃ xs, SqT K H p xs ∧ k = !xs.isEmpty) ∨ ∃ kvs, H p = some (.dK kvs) ∧ k = !kvs.isEmpty
  | _ => False
theorem line63 : (sizeLine : Nat) < 2 ^ 63 := by rw [sizeLine_eq]; decide
theorem op_add_str : OpR X (binaryOp .Add) (fun x y H Q => ∃ i j, x = .str i ∧ y = .str j ∧ i.length + j.length ≤ sizeLine ∧ Q (.str (i ++ j)) H) := by
  intro pins s σ H x y v u Q I rx ry h
  obtain ⟨i, j, rfl, rfl, hz, q⟩ := h
  obtain ⟨t, rfl⟩ := rx
  obtain ⟨t', rfl⟩ := ry
  exact add_str (fun t' tk => ⟨.str (i ++ j), H, I.tok _, ⟨_, rfl⟩, q⟩) hz
def PlainIxT (b : Expr) : Prop := ∀ o i, subscripted b false o i = operate [o, i] (getItem o i)
theorem vals1 {x : V} {us : List Value} (r : Vals [x] us) : ∃ u, us = [u] ∧ RelV x u := by
  cases r with
  | cons r1 r2 => cases r2; exact ⟨_, rfl, r1⟩
theorem vals2 {x y : V} {us : List Value} (r : Vals [x, y] us) : ∃ u w', us = [u, w'] ∧ RelV x u ∧ RelV y w' := by
  cases r with
  | cons r1 r2 =>
    cases r2 with
    | cons r3 r4 => cases r4; exact ⟨_, _, rfl, r1, r3⟩
theorem call_abs : CallR X (.builtin "abs") (fun xs H Q => ∃ i, xs = [.int i] ∧ Q (.int (if i < 0 then -i else i)) H) := by
  intro pins s σ H xs us Q I r h
  obtain ⟨i, rfl, q⟩ := h
  obtain ⟨u, rfl, t, rfl⟩ := vals1 r
  exact call_abs_int fun u tk => ⟨.int (if i < 0 then -i else i), H, I.tok _, ⟨_, rfl⟩, q⟩
inductive rTwo (f : Int → Int → Int) (xs : List V) (H : Hp) (Q : VK) : Prop
  | mk (i j : Int) (h0 : xs = [.int i, .int j]) (h1 : Q (.int (f i j)) H) : rTwo f xs H Q
def LenV (K : PySem.W.Frag) (x : V) (H : Hp) (n : Nat) : Prop :=
  match x with
  | .str y => y.length ≤ sizeLine ∧ n = y.length
  | .byt y => y.size ≤ sizeLine ∧ n = y.size
  | .ref p => (∃ xs, SqL K H p xs ∧ n = xs.length) ∨ ∃ xs, SqT K H p xs ∧ n = xs.length
  | _ => False
end
end L2
namespace L2
open PySem PySem.Spec PyProof.Rows
structure ObjM (h : Heap) (x dx C : Addr) (mA : Str → Option Value) : Prop where
  obj : h.get? x = some (PySem.W.instObj C dx)
  ns : h.Ns1 dx mA
  ne : dx ≠ x
theorem lookIn_ns {h : Heap} {dx : Addr} {mA : Str → Option Value} (n : h.Ns1 dx mA) : ∃ od, h.get? dx = some od ∧ ∀ name, PySem.W.lookIn name od = some (mA name) := by
  obtain ⟨o, es, ep, ho, hd, hk, _, hm⟩ := n
  refine ⟨o, ho, fun name => ?_⟩
  have e := hm name
  unfold nsFind findBy at e
  rw [← Array.find?_toList] at e
  unfold PySem.W.lookIn
  rw [hd]
  dsimp only
  split
  · rename_i y q
    rw [q] at e
    exact congrArg some e
  · rename_i q
    rw [q] at e
    have a : es.toList.any (·.refKey) = false := by
      rw [List.any_eq_false]
      intro y hy
      obtain ⟨z, t, hkey⟩ := hk y (Array.mem_toList_iff.mp hy)
      simp [DictEntry.refKey, hkey]
    have a' : ¬ es.toList.any (·.refKey) = true := by rw [a]; exact Bool.false_ne_true
    rw [if_neg a']
    exact congrArg some e
theorem ObjM.look {h : Heap} {x dx C : Addr} {mA : Str → Option Value} (I : ObjM h x dx C mA) : ∃ od, PySem.W.InstAt h x (PySem.W.instObj C dx) C (some od) ∧ ∀ name, PySem.W.lookIn name od = some (mA name) :=
  let ⟨od, ho, hl⟩ := lookIn_ns I.ns
  ⟨od, ⟨I.obj, rfl, rfl, ho⟩, hl⟩
section
variable {prog : Program} {w : World} {A : Around} {E : Value → Shared → Prop} {s : Shared} {K : PySem.W.Frag} {x dx C f : Addr} {mA : Str → Option Value} {name : Str} {v : Value}
theorem get_map {expr : Bool} {Q : Value → Shared → Prop} (X : K.In s.heap) (I : ObjM s.heap x dx C mA) (hg : PySem.W.plainGet K C name = true) (hh : PySem.W.hasDictIn K C = true)
    (ha : PySem.W.findIn K (.ref C) name = some none) (hv : mA name = some v) (hv' : PySem.W.handedIn v = true) (h : Q v { s with toks := s.toks + 1 }) :
    wpAny (model prog w) A (getAttr (.ref x) name expr) Q E s := by
  obtain ⟨od, J, hl⟩ := I.look
  exact PySem.W.get_value X J (PySem.W.plainGet_of hg).1 (PySem.W.findObj_own hh ha rfl (by rw [hl, hv])) hv' h
theorem get_meth {pl : Sem Bool} {Q : Value × List Value → Shared → Prop} (X : K.In s.heap) (I : ObjM s.heap x dx C mA) (hg : PySem.W.plainGet K C name = true)
    (hf : PySem.W.findIn K (.ref C) name = some (some (.ref f))) (ht : PySem.W.isFn K (.ref f) = true) (hv : mA name = none) (h : Q (.ref f, [.ref x]) s) :
    wpAny (model prog w) A (getMethod (.ref x) name pl) Q E s := by
  obtain ⟨od, J, hl⟩ := I.look
  exact PySem.W.method_fn X J (PySem.W.plainGet_of hg).1 (PySem.W.plainGet_of hg).2 hf (beq_iff_eq.mp ht) (by show (PySem.W.lookIn name od).map (·.isSome) = some false; rw [hl, hv]; rfl) h
theorem set_map {ns : List Str} {Q : Unit → Shared → Prop} (X : K.In s.heap) (I : ObjM s.heap x dx C mA)
    (hs : PySem.W.findIn K (.ref C) "__setattr__" = some (some (.builtin "object.__setattr__"))) (hp : PySem.W.plainOver K C = true) (ht : PySem.W.takerIn K C name = some none) (hh : PySem.W.hasDictIn K C = true)
    (hw : PySem.Within mA ns) (hsz : ns.length ≤ sizeLine)
    (h : ∀ h', ObjM h' x dx C (fun y => if y = name then some v else mA y) → Heap.SameBut dx s.heap h' → Q () { s with heap := h', toks := s.toks + 2 }) :
    wpAny (model prog w) A (setAttr (.ref x) name v) Q E s := by
  obtain ⟨od, J, hl⟩ := I.look
  refine PySem.W.set_plain X J hs (PySem.W.osa_open (s := { s with toks := s.toks + 1 }) (r := none) X J hp ht fun b => ?_)
  obtain ⟨cd, hc, hd'⟩ := PySem.W.any_some hh
  have hx : s.heap.get? x = some ⟨.ref C, some dx, .plain, #[]⟩ := I.obj
  refine wpAny_bind (wpAny_pure (wpAny_bind (wpAny_bind (wpAny_loadPart hx (wpAny_bind (PySem.W.Looks.here (s := { s with toks := s.toks + 1 }) (PySem.W.looks_clsIn X hc) ?_))))))
  rw [hd']
  refine wpAny_pure (a := some dx) (wpAny_bind (wpAny_pure (wpAny_bind ?_)))
  refine wpAny_nsSet1 (s := { s with toks := s.toks + 1 }) I.ns fun h' hn2 hs2 => ?_
  obtain ⟨oD, esD, epD, hoD, hdD, hcD⟩ := hn2.count (PySem.Within.cons name v hw)
  refine wpAny_bind (wpAny_lookBehind hoD (by rw [hdD]; exact pastItsLine_dict (Nat.le_trans hcD (by rw [List.length_cons]; omega))) ?_)
  exact wpAny_pure (h _ ⟨(hs2.2 _ (Ne.symm I.ne)).trans I.obj, hn2, I.ne⟩ hs2)
theorem make_map {R : Result → Shared → Prop} {vs : List Value} {kw : List (Str × Value)} (X : K.In s.heap) (hm : PySem.W.makesIn K C = true)
    (hi : PySem.W.findIn K (.ref C) "__init__" = some (some (.ref f))) (hf : PySem.W.typeIn K (.ref f) = some (.type "function"))
    (h : codeAny (model prog w) (A.under (.builtin "type.__call__" ⟨.ref C :: vs, kw⟩)) (.call (.ref f) ⟨.ref (s.heap.objs.size + 1) :: vs, kw⟩) (PySem.W.InitBack (s.heap.objs.size + 1) R)
      { s with heap := (s.heap.push PySem.W.emptyDict).push (PySem.W.instObj C s.heap.objs.size) }) :
    codeAny (model prog w) A (.call (.ref C) ⟨vs, kw⟩) R s := by
  obtain ⟨hh, g, d, t, os⟩ := s
  exact PySem.W.make_core (PySem.W.makes_of X hm) (PySem.W.looks_findIn X hi) (fun self => PySem.W.bind_fn X self hf) (.inl rfl) h
end
def putF (f : Str) (v : V) : List (Str × V) → List (Str × V)
  | [] => [(f, v)]
  | (g, x) :: r => if g = f then (g, v) :: r else (g, x) :: putF f v r
theorem lookup_putF (f g : Str) (v : V) : ∀ fs : List (Str × V), (putF f v fs).lookup g = if g = f then some v else fs.lookup g
  | [] => by
    show List.lookup g [(f, v)] = _
    by_cases h : g = f
    · have hb : (g == f) = true := beq_iff_eq.mpr h
      simp only [List.lookup, hb, if_pos h]
    · have hb : (g == f) = false := beq_eq_false_iff_ne.mpr h
      simp only [List.lookup, hb, if_neg h]
  | (k, x) :: r => by
    have ih := lookup_putF f g v r
    rw [show putF f v ((k, x) :: r) = (if k = f then (k, v) :: r else (k, x) :: putF f v r) from rfl]
    by_cases hk : k = f
    · rw [if_pos hk]
      by_cases h : g = k
      · have hb : (g == k) = true := beq_iff_eq.mpr h
        simp only [List.lookup, hb, if_pos (h.trans hk)]
      · have hb : (g == k) = false := beq_eq_false_iff_ne.mpr h
        simp only [List.lookup, hb, if_neg (fun e : g = f => h (e.trans hk.symm))]
    · rw [if_neg hk]
      by_cases h : g = k
      · have hb : (g == k) = true := beq_iff_eq.mpr h
        simp only [List.lookup, hb, if_neg (fun e : g = f => hk (h.symm.trans e))]
      · have hb : (g == k) = false := beq_eq_false_iff_ne.mpr h
        simp only [List.lookup, hb]
        exact ih
theorem keys_putF (f : Str) (v : V) : ∀ fs : List (Str × V), f ∈ (putF f v fs).map (·.1) ∧ ∀ g, g ∈ fs.map (·.1) → g ∈ (putF f v fs).map (·.1)
  | [] => ⟨by simp [putF], fun g h => by simp at h⟩
  | (k, x) :: r => by
    obtain ⟨i1, i2⟩ := keys_putF f v r
    rw [show putF f v ((k, x) :: r) = (if k = f then (k, v) :: r else (k, x) :: putF f v r) from rfl]
    by_cases hk : k = f
    · rw [if_pos hk]
      subst hk
      exact ⟨by simp, fun g h => by simpa using h⟩
    · rw [if_neg hk]
      refine ⟨?_, fun g h => ?_⟩
      · rw [List.map_cons]
        exact List.mem_cons_of_mem _ i1
      · rw [List.map_cons] at h ⊢
        rcases List.mem_cons.mp h with e | e
        · exact List.mem_cons.mpr (.inl e)
        · exact List.mem_cons_of_mem _ (i2 g e)
theorem length_putF (f : Str) (v : V) : ∀ fs : List (Str × V), (putF f v fs).length ≤ fs.length + 1
  | [] => by simp [putF]
  | (k, x) :: r => by
    have ih := length_putF f v r
    rw [show putF f v ((k, x) :: r) = (if k = f then (k, v) :: r else (k, x) :: putF f v r) from rfl]
    by_cases hk : k = f
    · rw [if_pos hk, List.length_cons, List.length_cons]; omega
    · rw [if_neg hk, List.length_cons, List.length_cons]; omega
theorem RelO.some_of {v : V} {o : Option Value} (r : RelO (some v) o) : ∃ u, o = some u ∧ RelV v u := by
  cases o with
  | none => exact (show False from r).elim
  | some u => exact ⟨u, rfl, r⟩
theorem RelO.none_of {o : Option Value} (r : RelO none o) : o = none := by
  cases o with
  | none => rfl
  | some u => exact (show False from r).elim
theorem handed_of {v : V} {u : Value} (r : RelV v u) : PySem.W.handedIn u = true := by
  cases v with
  | non => cases (show u = Value.none from r); rfl
  | bl b => cases (show u = Value.bool b from r); rfl
  | int i => obtain ⟨t, e⟩ := (show ∃ t, u = Value.int i t from r); cases e; rfl
  | str x => obtain ⟨t, e⟩ := (show ∃ t, u = Value.str x t from r); cases e; rfl
  | byt b => obtain ⟨t, e⟩ := (show ∃ t, u = Value.bytes b t from r); cases e; rfl
  | flt b => obtain ⟨t, e⟩ := (show ∃ t, u = Value.float b t from r); cases e; rfl
  | ref a => cases (show u = Value.ref a from r); rfl
  | ty n => cases (show u = Value.type n from r); rfl
section
variable {P : Program} {w : World} {H H' : Hp} {h h' : Heap} {a C dx : Addr} {fs fs' : List (Str × V)}
theorem ins_get (hok : HOk P w H h) (e : H a = some (.ins C dx fs)) : ∃ mA, ObjM h a dx C mA ∧ (∀ f, RelO (fs.lookup f) (mA f)) ∧ PySem.Within mA (fs.map (·.1)) ∧ fs.length ≤ 1000 ∧ H dx = some (.own a) := by
  obtain ⟨d, z, ne, ob, mA, n, r, q⟩ := (show ObjOk P w H h a (.ins C dx fs) from hok a _ e)
  exact ⟨mA, ⟨ob, n, ne⟩, r, q, z, d⟩
end
structure Cls (K : PySem.W.Frag) (C : Addr) : Prop where
  pg : PySem.W.plainGet K C Str.empty = true
  hd : PySem.W.hasDictIn K C = true
  po : PySem.W.plainOver K C = true
  sa : PySem.W.findIn K (.ref C) "__setattr__" = some (some (.builtin "object.__setattr__"))
theorem Cls.get {K : PySem.W.Frag} {C : Addr} (c : Cls K C) (f : Str) : PySem.W.plainGet K C f = true := c.pg
def NoAttr (K : PySem.W.Frag) (C : Addr) (f : Str) : Prop := PySem.W.findIn K (.ref C) f = some none
theorem NoAttr.taker {K : PySem.W.Frag} {C : Addr} {f : Str} (n : NoAttr K C f) : PySem.W.takerIn K C f = some none := by
  unfold PySem.W.takerIn
  rw [show PySem.W.findIn K (.ref C) f = some none from n]
  rfl
structure Con (K : PySem.W.Frag) (C : Addr) (f : Str) (v : V) (u : Value) : Prop where
  at_ : PySem.W.findIn K (.ref C) f = some (some u)
  rel : RelV v u
  get : PySem.W.specialIn K u "__get__" = some none
  cp : PySem.W.copiedNames.contains f = false
structure Meth (K : PySem.W.Frag) (C : Addr) (m : Str) (f : Addr) : Prop where
  at_ : PySem.W.findIn K (.ref C) m = some (some (.ref f))
  fn : PySem.W.isFn K (.ref f) = true
  kp : PySem.W.keepIn K (.ref f) = true
section
variable {X : Cx} {pins : List (Addr × Obj)} {σ : St} {H : Hp} {s : Shared} {a C dx : Addr} {fs : List (Str × V)} {f : Str} {v : V} {A : Around} {E : Value → Shared → Prop}
theorem getattr_ok {b : Bool} {Q : Value → Shared → Prop} (I : Inv X pins σ H s) (e : H a = some (.ins C dx fs)) (c : Cls X.K C) (n : NoAttr X.K C f) (l : fs.lookup f = some v)
    (h : ∀ u s', Inv X pins σ H s' → RelV v u → Q u s') : wpAny (model X.prog X.w) A (getAttr (.ref a) f b) Q E s := by
  obtain ⟨mA, O, r, _, _, _⟩ := ins_get I.hok e
  obtain ⟨u, hu, ru⟩ := RelO.some_of (v := v) (o := mA f) (by rw [← l]; exact r f)
  exact get_map I.kIn O (c.get f) c.hd n hu (handed_of ru) (h u _ (I.tok _) ru)
theorem getmeth_ok {m : Str} {g : Addr} {pl : Sem Bool} {Q : Value × List Value → Shared → Prop} (I : Inv X pins σ H s) (e : H a = some (.ins C dx fs)) (c : Cls X.K C) (k : Meth X.K C m g) (l : fs.lookup m = none)
    (h : Q (.ref g, [.ref a]) s) : wpAny (model X.prog X.w) A (getMethod (.ref a) m pl) Q E s := by
  obtain ⟨mA, O, r, _, _, _⟩ := ins_get I.hok e
  have hn : mA m = none := RelO.none_of (by rw [← l]; exact r m)
  exact get_meth I.kIn O (c.get m) k.at_ k.fn hn h
theorem setattr_ok {y : V} {u : Value} {Q : Unit → Shared → Prop} (I : Inv X pins σ H s) (e : H a = some (.ins C dx fs)) (c : Cls X.K C) (n : NoAttr X.K C f) (hl : fs.length < 1000) (ry : RelV y u)
    (h : ∀ s', Inv X pins σ (upd H a (.ins C dx (putF f y fs))) s' → Q () s') : wpAny (model X.prog X.w) A (setAttr (.ref a) f u) Q E s := by
  obtain ⟨mA, O, r, wi, _, ho⟩ := ins_get I.hok e
  have hz : (fs.map (·.1)).length ≤ sizeLine := by rw [List.length_map, sizeLine_eq]; omega
  refine set_map I.kIn O c.sa c.po n.taker c.hd wi hz fun h' O' sb => h _ ?_
  have hd : ∃ o, h'.get? dx = some o := let ⟨o, _, _, e', _⟩ := O'.ns; ⟨o, e'⟩
  refine I.write (x := a) (e := dx) (by rw [e]; exact True.intro) (.inr ho) (fun b q hb z => (sb.2 b hb).trans z) hd ?_
  refine ⟨by rw [upd_ne O.ne]; exact ho, ?_, O.ne, O'.obj, _, O'.ns, fun g => ?_, fun g hg => ?_⟩
  · have := length_putF f y fs; omega
  · show RelO ((putF f y fs).lookup g) (if g = f then some u else mA g)
    rw [lookup_putF]
    by_cases q : g = f
    · rw [if_pos q, if_pos q]; exact ry
    · rw [if_neg q, if_neg q]; exact r g
  · by_cases q : g = f
    · rw [q]; exact (keys_putF f y fs).1
    · refine (keys_putF f y fs).2 g (wi g fun z => hg ?_)
      show (if g = f then some u else mA g) = none
      rw [if_neg q]; exact z
theorem Inv.made (I : Inv X pins σ H s) : Inv X pins σ (upd (upd H s.heap.objs.size (.own (s.heap.objs.size + 1))) (s.heap.objs.size + 1) (.ins C s.heap.objs.size []))
    { s with heap := (s.heap.push PySem.W.emptyDict).push (PySem.W.instObj C s.heap.objs.size) } := by
  have e1 : (s.heap.push PySem.W.emptyDict).get? s.heap.objs.size = some PySem.W.emptyDict := Heap.get?_push_size s.heap rfl
  have e2 : ((s.heap.push PySem.W.emptyDict).push (PySem.W.instObj C s.heap.objs.size)).get? (s.heap.objs.size + 1) = some (PySem.W.instObj C s.heap.objs.size) := by
    have := Heap.get?_push_size (s.heap.push PySem.W.emptyDict) (o := PySem.W.instObj C s.heap.objs.size) rfl
    rwa [Heap.size_push] at this
  have e3 : (s.heap.push PySem.W.emptyDict).Ns s.heap.objs.size (fun _ => none) := ⟨PySem.W.emptyDict, #[], _, e1, rfl, (fun e he => absurd he (by simp)), fun _ => rfl⟩
  have I1 := I.laid (a := s.heap.objs.size) (o := .own (s.heap.objs.size + 1)) (h' := s.heap.push PySem.W.emptyDict) (t' := s.toks) (fun b u q => Heap.get?_push_of_some _ q) (Nat.le_refl _) ⟨_, e1⟩
  refine I1.laid (a := s.heap.objs.size + 1) (o := .ins C s.heap.objs.size []) (t' := s.toks) (fun b u q => Heap.get?_push_of_some _ q) (Nat.le_of_eq (Heap.size_push _ _)) ?_
  have ne : s.heap.objs.size ≠ s.heap.objs.size + 1 := Nat.ne_of_lt (Nat.lt_succ_self _)
  refine ⟨by rw [upd_ne ne, upd_same], Nat.zero_le _, ne, e2, fun _ => none, (Heap.Ns1.of_empty e3).at fun o q => Heap.get?_push_of_some _ q, fun _ => True.intro, fun y hy => absurd rfl hy⟩
theorem attr_of {prog : Program} {w : World} {env : Env} {e : Expr} {f : Str} {pos : Pos} {s : Shared} {Q : Value → Shared → Prop} (hb : attributeBase e f env (eval e env) = eval e env)
    (h : wpAny (model prog w) A (eval e env) (fun o s₁ => wpAny (model prog w) A (getAttr o f true) Q E s₁) E s) : wpAny (model prog w) A (eval (.Attribute e f pos) env) Q E s :=
  Attribute_any_ h (by rw [arm_eval_Attribute, hb])
end
def tFld (K : PySem.W.Frag) (ta : TE) (f : Str) : TE := fun σ H Q => ta σ H fun x H1 => ∃ a C dx fs v, x = .ref a ∧ H1 a = some (.ins C dx fs) ∧ Cls K C ∧ NoAttr K C f ∧ fs.lookup f = some v ∧ Q v H1
def tCon (K : PySem.W.Frag) (ta : TE) (f : Str) : TE := fun σ H Q => ta σ H fun x H1 => ∃ a C dx fs v u, x = .ref a ∧ H1 a = some (.ins C dx fs) ∧ Cls K C ∧ Con K C f v u ∧ fs.lookup f = none ∧ Q v H1
def sFld (K : PySem.W.Frag) (ta tv : TE) (f : Str) : TS := fun D σ H => tv σ H fun y H1 => ta σ H1 fun x H2 => ∃ a C dx fs, x = .ref a ∧ H2 a = some (.ins C dx fs) ∧ Cls K C ∧ NoAttr K C f ∧ fs.length < 1000 ∧
  D.nx σ (upd H2 a (.ins C dx (putF f y fs)))
def InOp (X : Cx) (op : Operator) (rd : V → V → Hp → VK → Prop) : Prop :=
  ∀ (pins : List (Addr × Obj)) (s : Shared) (σ : St) (H : Hp) (x y : V) (u v : Value) (Q : VK), Inv X pins σ H s → RelV x u → RelV y v → rd x y H Q → wpAny (model X.prog X.w) X.A (inplaceOp op u v) (EP X pins σ Q) X.xe s
def sFldAug (K : PySem.W.Frag) (ta tv : TE) (rd : V → V → Hp → VK → Prop) (f : Str) : TS := fun D σ H => ta σ H fun x H1 => ∃ a C dx fs v, x = .ref a ∧ H1 a = some (.ins C dx fs) ∧ Cls K C ∧ NoAttr K C f ∧ fs.lookup f = some v ∧
  tv σ H1 fun y H2 => rd v y H2 fun z H3 => ∃ dx' fs', H3 a = some (.ins C dx' fs') ∧ fs'.length < 1000 ∧ D.nx σ (upd H3 a (.ins C dx' (putF f z fs')))
section
variable {X : Cx} {o e value : Expr} {f : Str} {pos pos' tpos : Pos} {ta tv : TE}
theorem pe_fld (he : PE X e ta) (hb : attributeBase e f X.env (eval e X.env) = eval e X.env) : PE X (.Attribute e f pos) (tFld X.K ta f) := by
  intro pins s σ H Q I h
  refine attr_of hb (thn (he pins s σ H _ I h) fun u s1 ⟨x, H1, I1, rx, a, C, dx, fs, v, ex, ea, c, n, l, q⟩ => ?_)
  subst ex
  obtain rfl : u = Value.ref a := rx
  exact getattr_ok I1 ea c n l fun u' s2 I2 ru => ⟨v, H1, I2, ru, q⟩
theorem ps_fld (ha : PE X o ta) (hv : PE X value tv) (hs : swapsWith value (some (.Attribute o f pos')) pos.line X.env = pure false) : PS X (.Assign [.Attribute o f pos'] value pos) (sFld X.K ta tv f) := by
  intro pins s σ H D I h
  refine plainObj_wpAny_Assign_Attribute (thn (hv pins s σ H _ I h) fun u s1 ⟨y, H1, I1, ry, q⟩ => thn (ha pins s1 σ H1 _ I1 q) fun ov s2 ⟨x, H2, I2, rx, a, C, dx, fs, ex, ea, c, n, l, q2⟩ => ?_) hs
  subst ex
  obtain rfl : ov = Value.ref a := rx
  exact setattr_ok I2 ea c n l ry fun s3 I3 => ⟨σ, _, I3, q2⟩
def rAdd : V → V → Hp → VK → Prop := fun x y H Q => ∃ i j, x = .int i ∧ y = .int j ∧ Q (.int (i + j)) H
def rSub : V → V → Hp → VK → Prop := fun x y H Q => ∃ i j, x = .int i ∧ y = .int j ∧ Q (.int (i - j)) H
end
section
variable {X : Cx} {pins : List (Addr × Obj)} {σ : St} {H : Hp} {s : Shared} {A : Around} {E : Value → Shared → Prop} {Q : Value → Shared → Prop} {c : Value} {b : Bool}
inductive TyOf (K : PySem.W.Frag) (H : Hp) : V → Value → Prop where
  | non : TyOf K H .non (.type "NoneType")
  | bl (x : Bool) : TyOf K H (.bl x) (.type "bool")
  | int (i : Int) : TyOf K H (.int i) (.type "int")
  | str (x : Str) : TyOf K H (.str x) (.type "str")
  | flt (x : UInt64) : TyOf K H (.flt x) (.type "float")
  | lst {a : Addr} {xs : List V} (e : H a = some (.lst xs)) : TyOf K H (.ref a) (.type "list")
  | frz {a : Addr} {o : Obj} {xs : List V} (e : H a = some (.frz o (.lst xs))) : TyOf K H (.ref a) (.type "list")
  | tup {a : Addr} {xs : List V} (e : H a = some (.tup xs)) : TyOf K H (.ref a) (.type "tuple")
  | dK {a : Addr} {kvs : List (Key × V)} (e : H a = some (.dK kvs)) : TyOf K H (.ref a) (.type "dict")
  | dT {a : Addr} {kvs : List (List Key × V)} (e : H a = some (.dT kvs)) : TyOf K H (.ref a) (.type "dict")
  | ins {a C dx : Addr} {fs : List (Str × V)} (e : H a = some (.ins C dx fs)) (cl : Cls K C) (ha : PySem.W.findIn K (.ref C) "__class__" = some (some (.builtin "object.__class__")))
      (hn : PySem.W.specialIn K (.builtin "object.__class__") "__get__" = some (some (.builtin "getset_descriptor.__get__"))) (htk : PySem.W.takesIn K (.builtin "object.__class__") = some true)
      (hm : PySem.W.mroIn K C (.type "object") = some true) : TyOf K H (.ref a) (.ref C)
end
end L2
namespace L2
open PySem PySem.Spec PyProof.Rows
structure Room (k : Nat) (A : Around) : Prop where
  hd : A.handled = none
  dp : A.depth + 3 * k + 5 < recursionLimit
  un : A.units + 16 * k + 200 < cLine
theorem Room.mono {j k : Nat} {A : Around} (r : Room k A) (h : j ≤ k) : Room j A := ⟨r.hd, by have := r.dp; omega, by have := r.un; omega⟩
theorem Room.deeper {k : Nat} {A : Around} (r : Room (k + 1) A) (env : Env) : Room k (A.deeper env) :=
  ⟨r.hd, by have := r.dp; show A.depth + 1 + 3 * k + 5 < _; omega, by have := r.un; show A.units + 3 + 16 * k + 200 < _; omega⟩
theorem make_depth {A : Around} {C : Addr} {us : List Value} {kw : List (Str × Value)} : (A.under (.builtin "type.__call__" ⟨.ref C :: us, kw⟩)).depth = A.depth + 1 := by
  first | rfl | simp [Around.under, Code.weight, Code.isCreation, Code.isGuard, Code.isCaller, Code.frames, Code.isFrame, guardIds]
theorem make_units {A : Around} {C : Addr} {us : List Value} {kw : List (Str × Value)} : (A.under (.builtin "type.__call__" ⟨.ref C :: us, kw⟩)).units = A.units + 1 := by
  first | rfl | simp [Around.under, Code.cUnits, Code.frames, Code.isFrame]
theorem Room.make {k : Nat} {A : Around} (r : Room (k + 1) A) (C : Addr) (us : List Value) (kw : List (Str × Value)) : Room k (A.under (.builtin "type.__call__" ⟨.ref C :: us, kw⟩)) :=
  ⟨r.hd, by have := r.dp; rw [make_depth]; omega, by have := r.un; rw [make_units]; omega⟩
theorem Room.depth {k : Nat} {A : Around} (r : Room k A) : A.depth < recursionLimit := by have := r.dp; omega
theorem Room.units {k : Nat} {A : Around} (r : Room k A) : A.units + 64 < cLine := by have := r.un; omega
def tNil : TA := fun _ H Q => Q [] H
def tCons (ta : TE) (tr : TA) : TA := fun σ H Q => ta σ H fun x H1 => tr σ H1 fun xs H2 => Q (x :: xs) H2
section
variable {X : Cx} {e : Expr} {es : List Expr} {te : TE} {t : TA} {pos : Pos}
theorem pa_nil : PA X [] tNil := fun _ _ _ _ H Q I h => Calls.spliced_nil ⟨[], H, I, .nil, h⟩
theorem pa_cons (ha : PE X e te) (hr : PA X es t) (hs : starEach (e :: es) X.env = (false, eval e X.env) :: starEach es X.env := by rfl) : PA X (e :: es) (tCons te t) := by
  intro pos pins s σ H Q I h
  rw [hs]
  show wpAny _ _ (spliced ((false, eval e X.env) :: backTo pos (starEach es X.env))) _ _ s
  refine Calls.spliced_cons (thn (ha pins s σ H _ I h) fun u s1 ⟨x, H1, I1, r1, q1⟩ => ?_)
  exact thn (hr pos pins s1 σ H1 _ I1 q1) fun us s2 ⟨xs, H2, I2, r2, q2⟩ => ⟨x :: xs, H2, I2, .cons r1 r2, q2⟩
def tTup (t : TA) : TE := fun σ H Q => t σ H fun xs H1 => xs.length ≤ sizeLine ∧ ∀ p, H1 p = none → Q (.ref p) (upd H1 p (.tup xs))
def tLst (t : TA) : TE := fun σ H Q => t σ H fun xs H1 => xs.length ≤ sizeLine ∧ ∀ p, H1 p = none → Q (.ref p) (upd H1 p (.lst xs))
theorem pe_tup {x1} (h : PA X es t) : PE X (.Tuple es x1 pos) (tTup t) := by
  intro pins s σ H Q I hq
  refine wpAny_Tuple_spliced (thn (h pos pins s σ H _ I hq) fun us s1 ⟨xs, H1, I1, r, z, q⟩ => ⟨by rw [← r.length]; exact z, ?_⟩)
  have hf : H1 s1.heap.objs.size = none := I1.hok.fresh (Nat.le_refl _)
  refine ⟨.ref s1.heap.objs.size, upd H1 s1.heap.objs.size (.tup xs), I1.laid (t' := s1.toks) (fun b u e => Heap.get?_push_of_some _ e) (Nat.le_refl _) ?_, rfl, q _ hf⟩
  exact ⟨z, us, r, ⟨_, Heap.get?_push_size _ rfl, rfl, _, rfl⟩⟩
theorem pe_lst (h : PA X es t) : PE X (.List es pos) (tLst t) := by
  intro pins s σ H Q I hq
  refine wpAny_List_spliced (thn (h pos pins s σ H _ I hq) fun us s1 ⟨xs, H1, I1, r, z, q⟩ => ⟨by rw [← r.length]; exact z, ?_⟩)
  have hf : H1 s1.heap.objs.size = none := I1.hok.fresh (Nat.le_refl _)
  refine ⟨.ref s1.heap.objs.size, upd H1 s1.heap.objs.size (.lst xs), I1.laid (t' := s1.toks) (fun b u e => Heap.get?_push_of_some _ e) (Nat.le_refl _) ?_, rfl, q _ hf⟩
  exact ⟨z, us, 0, r, Heap.get?_push_size _ rfl⟩
end
abbrev Sp := List V → Hp → VK → XK → Prop
abbrev CXT := List Env → Hp → Shared → XK → Value → Shared → Prop
structure Env0 (P : Program) (w : World) (K : PySem.W.Frag) (mg : Str → Option Value) (base : Heap) (A : Around) (outer : List Env) (s : Shared) (H : Hp) : Prop where
  frames : A.frames = some outer
  mod : Mod K mg base
  bs : ∀ b o, base.get? b = some o → s.heap.get? b = some o ∧ H b = none
  bsz : base.objs.size ≤ s.heap.objs.size
  funs : s.heap.FunFrames base outer
  frf : ∀ b ∈ frs outer, H b = none
  hok : HOk P w H s.heap
  bare : AllBare s.gens
def CE (outer : List Env) (P : Program) (w : World) (H : Hp) (s : Shared) (Q : VK) (u : Value) (s' : Shared) : Prop :=
  ∃ v H', s'.os = s.os ∧ AllBare s'.gens ∧ Un (frs outer) [] H H' s.heap s'.heap ∧ HOk P w H' s'.heap ∧ RelV v u ∧ Q v H'
def CR (CX : CXT) (outer : List Env) (P : Program) (w : World) (H : Hp) (s : Shared) (Q : VK) (E : XK) (r : Result) (s' : Shared) : Prop :=
  match r with
  | .ok (.ret u) => CE outer P w H s Q u s'
  | .ok _ => False
  | .error e => CX outer H s E e s'
structure FnOk (P : Program) (w : World) (K : PySem.W.Frag) (mg : Str → Option Value) (base : Heap) (CX : CXT) (k : Nat) (f : Addr) (fd : FuncData) (ps : List Str) (sp : Sp) : Prop where
  len : ∀ vs H Q E, sp vs H Q E → vs.length = ps.length
  run : ∀ (A : Around) (outer : List Env) (s : Shared) (H : Hp) (args : Args) (us : List Value) (vs : List V) (Q : VK) (E : XK), Room k A → Env0 P w K mg base A outer s H → BindsTo s fd args (ps.zip us) → Vals vs us → sp vs H Q E →
    codeAny (model P w) A (.call (.ref f) args) (CR CX outer P w H s Q E) s
theorem FnOk.mono {P : Program} {w : World} {K : PySem.W.Frag} {mg : Str → Option Value} {base : Heap} {CX : CXT} {j k : Nat} {f : Addr} {fd : FuncData} {ps : List Str} {sp : Sp} (F : FnOk P w K mg base CX j f fd ps sp) (h : j ≤ k) :
    FnOk P w K mg base CX k f fd ps sp := ⟨F.len, fun A outer s H args us vs Q E hr => F.run A outer s H args us vs Q E (hr.mono h)⟩
theorem Env0.make {P : Program} {w : World} {K : PySem.W.Frag} {mg : Str → Option Value} {base : Heap} {A : Around} {outer : List Env} {s : Shared} {H : Hp} (e : Env0 P w K mg base A outer s H) (C : Addr) (us : List Value) (kw : List (Str × Value)) :
    Env0 P w K mg base (A.under (.builtin "type.__call__" ⟨.ref C :: us, kw⟩)) outer s H := ⟨by first | exact e.frames | (simpa [Around.under, Code.envs, Code.isFrame, pushEnvs] using e.frames), e.mod, e.bs, e.bsz, e.funs, e.frf, e.hok, e.bare⟩
section
variable {X : Cx} {pins : List (Addr × Obj)} {σ : St} {H : Hp} {s s' : Shared}
theorem Inv.env0 (I : Inv X pins σ H s) : Env0 X.prog X.w X.K X.mg X.base X.A X.stack s H :=
  ⟨I.ok.frames, I.ok.mod, I.bs, Nat.le_trans I.ok.bsz I.sz, I.stack, I.stkFree, I.hok, I.bare⟩
theorem Inv.after {Q : VK} {u : Value} (I : Inv X pins σ H s) (h : CE X.stack X.prog X.w H s Q u s') : EP X pins σ Q u s' := by
  obtain ⟨v, H', os, bare, un, hok, r, q⟩ := h
  obtain ⟨hh, g, d, t, os'⟩ := s'
  obtain rfl : os' = s.os := os
  exact ⟨v, H', I.call (h' := hh) (g' := g) (d' := d) (t' := t) (ch := []) un hok bare (fun b z => absurd z (by simp)), r, q⟩
end
def tCall (sp : Sp) (dvs : List V) (E : XK) (t : TA) : TE := fun σ H Q => t σ H fun vs H1 => sp (vs ++ dvs) H1 Q E
def tMeth (C : Addr) (m : Str) (sp : Sp) (dvs : List V) (E : XK) (ta : TE) (t : TA) : TE := fun σ H Q => ta σ H fun x H1 => ∃ a dx fs, x = .ref a ∧ H1 a = some (.ins C dx fs) ∧ fs.lookup m = none ∧
  t σ H1 fun vs H2 => sp (x :: (vs ++ dvs)) H2 Q E
def tMake (C : Addr) (sp : Sp) (dvs : List V) (E : XK) (t : TA) : TE := fun σ H Q => t σ H fun vs H1 => ∀ x dx, H1 x = none → H1 dx = none → dx ≠ x →
  sp (.ref x :: (vs ++ dvs)) (upd (upd H1 dx (.own x)) x (.ins C dx [])) (fun v H2 => v = .non ∧ Q (.ref x) H2) E
def Binds (K : PySem.W.Frag) (fd : FuncData) (ps : List Str) (ds : List Value) : Prop :=
  ∀ (s : Shared) (us : List Value), K.In s.heap → (us ++ ds).length = ps.length → BindsTo s fd ⟨us, []⟩ (ps.zip (us ++ ds))
theorem Binds.all {K : PySem.W.Frag} {fd : FuncData} {ps : List Str} (h : ∀ us : List Value, us.length = ps.length → bindArgs fd ⟨us, []⟩ = pure (ps.zip us)) : Binds K fd ps [] := fun s us _ hl => by
  rw [List.append_nil] at hl ⊢
  exact .of_eq (h us hl)
def Passes (CX : CXT) (X : Cx) (E : XK) : Prop := ∀ (pins : List (Addr × Obj)) (σ : St) (H : Hp) (s : Shared) (e : Value) (s' : Shared), Inv X pins σ H s → CX X.stack H s E e s' → X.xe e s'
section
variable {X : Cx} {CX : CXT} {k : Nat} {f C : Addr} {fd : FuncData} {ps : List Str} {sp : Sp} {dvs : List V} {ds : List Value} {E : XK} {x m : Str} {p pos apos : Pos} {e o : Expr} {es : List Expr} {ta : TE} {t : TA}
theorem run_fn {pins : List (Addr × Obj)} {σ : St} {H : Hp} {s : Shared} {Q : VK} {us : List Value} {vs : List V} (F : FnOk X.prog X.w X.K X.mg X.base CX k f fd ps sp) (hr : Room k X.A) (hb : Binds X.K fd ps ds) (hd : Vals dvs ds) (hx : Passes CX X E)
    (I : Inv X pins σ H s) (r : Vals vs us) (h : sp (vs ++ dvs) H Q E) : wpAny (model X.prog X.w) X.A (call (.ref f) us) (EP X pins σ Q) X.xe s := by
  have r2 : Vals (vs ++ dvs) (us ++ ds) := r.append hd
  have hl : (us ++ ds).length = ps.length := by rw [← r2.length]; exact F.len _ _ _ _ h
  refine wpAny_call (codeAny_mono (F.run X.A X.stack s H ⟨us, []⟩ (us ++ ds) (vs ++ dvs) Q E hr I.env0 (hb s us I.kIn hl) r2 h) fun r s' hq => ?_)
  cases r with
  | error e => exact hx pins σ H s e s' I hq
  | ok fl =>
    cases fl with
    | ret u => exact I.after hq
    | next => exact False.elim hq
    | brk => exact False.elim hq
    | cont => exact False.elim hq
theorem pe_call (F : FnOk X.prog X.w X.K X.mg X.base CX k f fd ps sp) (hr : Room k X.A) (hg : Gl X x) (hm : X.mg x = some (.ref f)) (hk : PySem.W.keepIn X.K (.ref f) = true) (hb : Binds X.K fd ps ds) (hd : Vals dvs ds) (hx : Passes CX X E)
    (ha : PA X (e :: es) t) (hdb : (x == ("__debug__" : Str)) = false := by decide) (he : starEach (e :: es) X.env = (false, eval e X.env) :: starEach es X.env := by rfl) (hpl : (backTo pos (starEach es X.env)).any (·.1) = false := by rfl) :
    PE X (.Call (.Name x p) (e :: es) [] pos) (tCall sp dvs E t) := by
  intro pins s σ H Q I h
  refine wpAny_Call_Name_kw (ld_glob I hg hm ?_ hdb)
  refine PySem.W.callWith_K (h₀ := X.base) I.ok.mod.kin hk (thn (ha pos pins s σ H _ I h) fun us s1 ⟨vs, H1, I1, r, q⟩ => ⟨I1.kIn, ?_⟩) he hpl
  exact run_fn F hr hb hd hx I1 r q
theorem pe_meth {pl : Sem Bool} (he : PE X o ta) (c : Cls X.K C) (hm : Meth X.K C m f) (F : FnOk X.prog X.w X.K X.mg X.base CX k f fd ps sp) (hr : Room k X.A) (hb : Binds X.K fd ps ds) (hd : Vals dvs ds) (hx : Passes CX X E) (ha : PA X (e :: es) t)
    (hst : starEach (e :: es) X.env = (false, eval e X.env) :: starEach es X.env := by rfl) (hpl : (backTo pos (starEach es X.env)).any (·.1) = false := by rfl)
    (ht : eval (.Call (.Attribute o m apos) (e :: es) [] pos) X.env = (do
      let ov ← eval o X.env
      standAt apos.atName
      let (f, first) ← holding [ov] (getMethod ov m pl)
      callWith pos f first (backTo pos (starEach (e :: es) X.env)) (backToKw pos (keywordEach [] X.env))) := by rfl) :
    PE X (.Call (.Attribute o m apos) (e :: es) [] pos) (tMeth C m sp dvs E ta t) := by
  intro pins s σ H Q I h
  refine PySem.W.methodCall_KW (pl := pl) (thn (he pins s σ H _ I h) fun u s1 ⟨x, H1, I1, rx, a, dx, fs, ex, ea, l, q⟩ => ?_) ht
  subst ex
  obtain rfl : u = Value.ref a := rx
  refine getmeth_ok I1 ea c hm l ?_
  refine PySem.W.callWith_K (first := [.ref a]) (h₀ := X.base) I.ok.mod.kin hm.kp (thn (ha pos pins s1 σ H1 _ I1 q) fun us s2 ⟨vs, H2, I2, r, q2⟩ => ⟨I2.kIn, ?_⟩) hst hpl
  exact run_fn (us := .ref a :: us) (vs := .ref a :: vs) F hr hb hd hx I2 (.cons rfl r) q2
theorem pe_meth0 {pl : Sem Bool} (he : PE X o ta) (c : Cls X.K C) (hm : Meth X.K C m f) (F : FnOk X.prog X.w X.K X.mg X.base CX k f fd ps sp) (hr : Room k X.A) (hb : Binds X.K fd ps ds) (hd : Vals dvs ds) (hx : Passes CX X E)
    (ht : eval (.Call (.Attribute o m apos) [] [] pos) X.env = (do
      let ov ← eval o X.env
      standAt apos.atName
      let (f, first) ← holding [ov] (getMethod ov m pl)
      callWith pos f first (backTo pos (starEach [] X.env)) (backToKw pos (keywordEach [] X.env))) := by rfl) :
    PE X (.Call (.Attribute o m apos) [] [] pos) (tMeth C m sp dvs E ta tNil) := by
  intro pins s σ H Q I h
  refine PySem.W.methodCall_KW (pl := pl) (thn (he pins s σ H _ I h) fun u s1 ⟨x, H1, I1, rx, a, dx, fs, ex, ea, l, q⟩ => ?_) ht
  subst ex
  obtain rfl : u = Value.ref a := rx
  refine getmeth_ok I1 ea c hm l ?_
  exact PySem.W.callWith_K0 (first := [.ref a]) I1.kIn hm.kp (run_fn (us := [.ref a]) (vs := [.ref a]) F hr hb hd hx I1 (.cons rfl .nil) q)
structure Mk (K : PySem.W.Frag) (C f : Addr) : Prop where
  makes : PySem.W.makesIn K C = true
  init : PySem.W.findIn K (.ref C) "__init__" = some (some (.ref f))
  fn : PySem.W.isFn K (.ref f) = true
  kp : PySem.W.keepIn K (.ref C) = true
theorem run_make {pins : List (Addr × Obj)} {σ : St} {H : Hp} {s : Shared} {Q : VK} {us : List Value} {vs : List V} (M : Mk X.K C f) (F : FnOk X.prog X.w X.K X.mg X.base CX k f fd ps sp) (hr : Room (k + 1) X.A) (hb : Binds X.K fd ps ds) (hd : Vals dvs ds)
    (hx : Passes CX X E) (I : Inv X pins σ H s) (r : Vals vs us)
    (h : ∀ x dx, H x = none → H dx = none → dx ≠ x → sp (.ref x :: (vs ++ dvs)) (upd (upd H dx (.own x)) x (.ins C dx [])) (fun v H2 => v = .non ∧ Q (.ref x) H2) E) :
    wpAny (model X.prog X.w) X.A (call (.ref C) us) (EP X pins σ Q) X.xe s := by
  have hq := h (s.heap.objs.size + 1) s.heap.objs.size (I.hok.fresh (Nat.le_succ _)) (I.hok.fresh (Nat.le_refl _)) (Nat.ne_of_lt (Nat.lt_succ_self _))
  have I2 := Inv.made (C := C) I
  have r2 : Vals (V.ref (s.heap.objs.size + 1) :: (vs ++ dvs)) (Value.ref (s.heap.objs.size + 1) :: (us ++ ds)) := .cons rfl (r.append hd)
  have hl : (Value.ref (s.heap.objs.size + 1) :: us ++ ds).length = ps.length := by
    have e := r2.length
    rw [F.len _ _ _ _ hq] at e
    exact e.symm
  refine wpAny_call (make_map (f := f) I.kIn M.makes M.init (beq_iff_eq.mp M.fn) (codeAny_mono (F.run _ X.stack _ _ ⟨Value.ref (s.heap.objs.size + 1) :: us, []⟩ (Value.ref (s.heap.objs.size + 1) :: (us ++ ds)) _ _ E (hr.make C us [])
    (I2.env0.make C us []) (hb _ (Value.ref (s.heap.objs.size + 1) :: us) I2.kIn hl) r2 hq) fun r s' hq' => ?_))
  cases r with
  | error e => exact hx pins σ _ _ e s' I2 hq'
  | ok fl =>
    cases fl with
    | ret u =>
      obtain ⟨v, H', I3, rv, ev, q3⟩ := I2.after hq'
      subst ev
      exact ⟨rv, ⟨V.ref (s.heap.objs.size + 1), H', I3, rfl, q3⟩⟩
    | next => exact False.elim hq'
    | brk => exact False.elim hq'
    | cont => exact False.elim hq'
theorem pe_make (M : Mk X.K C f) (F : FnOk X.prog X.w X.K X.mg X.base CX k f fd ps sp) (hr : Room (k + 1) X.A) (hg : Gl X x) (hm : X.mg x = some (.ref C)) (hb : Binds X.K fd ps ds) (hd : Vals dvs ds) (hx : Passes CX X E)
    (ha : PA X (e :: es) t) (hdb : (x == ("__debug__" : Str)) = false := by decide) (he : starEach (e :: es) X.env = (false, eval e X.env) :: starEach es X.env := by rfl) (hpl : (backTo pos (starEach es X.env)).any (·.1) = false := by rfl) :
    PE X (.Call (.Name x p) (e :: es) [] pos) (tMake C sp dvs E t) := by
  intro pins s σ H Q I h
  refine wpAny_Call_Name_kw (ld_glob I hg hm ?_ hdb)
  refine PySem.W.callWith_K (h₀ := X.base) I.ok.mod.kin M.kp (thn (ha pos pins s σ H _ I h) fun us s1 ⟨vs, H1, I1, r, q⟩ => ⟨I1.kIn, ?_⟩) he hpl
  exact run_make M F hr hb hd hx I1 r q
end
def PK (X : Cx) (kws : List Keyword) (t : TA) : Prop :=
  ∀ (pos : Pos) (pins : List (Addr × Obj)) (s : Shared) (σ : St) (H : Hp) (Q : List V → Hp → Prop), Inv X pins σ H s → t σ H Q → wpAny (model X.prog X.w) X.A (evalAll ((backToKw pos (keywordEach kws X.env)).map (·.2))) (AP X pins σ Q) X.xe s
section
variable {X : Cx} {CX : CXT} {k : Nat} {f C : Addr} {fd : FuncData} {ps ks : List Str} {sp : Sp} {E : XK} {x m : Str} {p pos apos kpos : Pos} {e o : Expr} {es : List Expr} {kws : List Keyword} {te ta : TE} {t tk : TA} {nm : Option Str}
structure KBinds (K : PySem.W.Frag) (fd : FuncData) (ps ks : List Str) (g : List Value → List Value → List Value) (gV : List V → List V → List V) : Prop where
  to : ∀ (s : Shared) (us ws : List Value), K.In s.heap → (g us ws).length = ps.length → BindsTo s fd ⟨us, ks.zip ws⟩ (ps.zip (g us ws))
  rel : ∀ {vs : List V} {us : List Value} {zs : List V} {ws : List Value}, Vals vs us → Vals zs ws → Vals (gV vs zs) (g us ws)
def tCallK (sp : Sp) (gV : List V → List V → List V) (E : XK) (t tk : TA) : TE := fun σ H Q => t σ H fun vs H1 => tk σ H1 fun zs H2 => sp (gV vs zs) H2 Q E
variable {g : List Value → List Value → List Value} {gV : List V → List V → List V}
end
structure FnScope (N P : List Str) (sc : Scope) : Prop where
  kind : sc.kind = .function
  co : sc.isCoroutine = false
  gen : sc.isGenerator = false
  nd : N.Nodup
  pre : N.take P.length = P
  par : ∀ x ∈ P, sc.names.lookup x = some .local ∨ sc.names.lookup x = some .cell
  nofree : ∀ y ∈ sc.names, y.2 ≠ .free
theorem bindL_out {kindOf : Str → Option NameKind} {x : Str} : ∀ {binds : List (Str × Value)} {m : Str → Option Value}, (∀ v, (x, v) ∉ binds) → bindL kindOf binds m x = m x
  | [], _, _ => rfl
  | (n, v) :: r, m, h => by
    unfold bindL
    rw [bindL_out fun w hw => h w (List.mem_cons_of_mem _ hw)]
    split
    · have : x ≠ n := by rintro rfl; exact h v List.mem_cons_self
      simp [this]
    · rfl
theorem bindC_out {kindOf : Str → Option NameKind} {x : Str} : ∀ {binds : List (Str × Value)} {m : Str → Option Value}, (∀ v, (x, v) ∉ binds) → bindC kindOf binds m x = m x
  | [], _, _ => rfl
  | (n, v) :: r, m, h => by
    unfold bindC
    rw [bindC_out fun w hw => h w (List.mem_cons_of_mem _ hw)]
    split
    · rfl
    · have : x ≠ n := by rintro rfl; exact h v List.mem_cons_self
      simp [this]
theorem bindL_get {kindOf : Str → Option NameKind} {x : Str} {v : Value} : ∀ {P : List Str} {vs : List Value} {i : Nat} {m : Str → Option Value}, P.Nodup → P[i]? = some x → vs[i]? = some v → kindOf x = some .local →
    bindL kindOf (P.zip vs) m x = some v
  | [], _, _, _, _, h, _, _ => by simp at h
  | _ :: _, [], _, _, _, _, h, _ => by simp at h
  | p :: P, w :: vs, 0, m, nd, h1, h2, hk => by
    simp at h1 h2; subst h1; subst h2
    show bindL kindOf ((p, w) :: P.zip vs) m p = _
    unfold bindL
    rw [bindL_out fun v hv => (List.nodup_cons.mp nd).1 (List.of_mem_zip hv).1, if_pos hk]
    simp
  | p :: P, w :: vs, i + 1, m, nd, h1, h2, hk => by
    show bindL kindOf ((p, w) :: P.zip vs) m x = _
    unfold bindL
    exact bindL_get (i := i) (List.nodup_cons.mp nd).2 (by simpa using h1) (by simpa using h2) hk
theorem bindC_get {kindOf : Str → Option NameKind} {x : Str} {v : Value} : ∀ {P : List Str} {vs : List Value} {i : Nat} {m : Str → Option Value}, P.Nodup → P[i]? = some x → vs[i]? = some v → kindOf x ≠ some .local →
    bindC kindOf (P.zip vs) m x = some v
  | [], _, _, _, _, h, _, _ => by simp at h
  | _ :: _, [], _, _, _, _, h, _ => by simp at h
  | p :: P, w :: vs, 0, m, nd, h1, h2, hk => by
    simp at h1 h2; subst h1; subst h2
    show bindC kindOf ((p, w) :: P.zip vs) m p = _
    unfold bindC
    rw [bindC_out fun v hv => (List.nodup_cons.mp nd).1 (List.of_mem_zip hv).1, if_neg hk]
    simp
  | p :: P, w :: vs, i + 1, m, nd, h1, h2, hk => by
    show bindC kindOf ((p, w) :: P.zip vs) m x = _
    unfold bindC
    exact bindC_get (i := i) (List.nodup_cons.mp nd).2 (by simpa using h1) (by simpa using h2) hk
def start (N : List Str) (vs : List V) : St := vs.map some ++ List.replicate (N.length - vs.length) none
def cxOf (CX : CXT) (P : Program) (w : World) (K : PySem.W.Frag) (mg : Str → Option Value) (base : Heap) (N : List Str) (qual : Str) (scope : Scope) (f : Addr) (cd : Value) (A : Around) (outer : List Env) (s : Shared) (H : Hp) (E : XK) : Cx where
  prog := P
  w := w
  K := K
  mg := mg
  base := base
  A := A.deeper (envOfC qual scope s.heap.objs.size f cd)
  N := N
  s₀ := s
  H₀ := H
  env := envOfC qual scope s.heap.objs.size f cd
  outer := outer
  stack := envOfC qual scope s.heap.objs.size f cd :: outer
  ex := []
  calm := true
  fn := fun _ => true
  pn := []
  xe := fun e s' => wpAny (model P w) (A.deeper (envOfC qual scope s.heap.objs.size f cd)) (leaving (envOfC qual scope s.heap.objs.size f cd) e) (fun _ s'' => CX outer H s E e s'') (fun e' s'' => CX outer H s E e' s'') s'
theorem cell_has {sc : Scope} {n : Nat} {x : Str} (h : sc.names.lookup x = some .cell) : ∃ c, (cellsFrom n sc.names []).lookup x = some c := by
  have q := PySem.W.cellsFrom_some sc.names n [] (.inl h)
  exact Option.isSome_iff_exists.mp q
theorem inv_start {CX : CXT} {P : Program} {w : World} {K : PySem.W.Frag} {mg : Str → Option Value} {base : Heap} {N ps : List Str} {qual : Str} {scope : Scope} {f : Addr} {cd : Value} {A : Around} {outer : List Env} {s s1 : Shared} {H : Hp} {E : XK} {us : List Value} {vs : List V}
    (S : FnScope N ps scope) (hd : A.handled = none) (e0 : Env0 P w K mg base A outer s H) (hl : vs.length = ps.length) (r : Vals vs us)
    (x : InCallC s s.heap.objs.size (bindL (envOfC qual scope s.heap.objs.size f cd).kindOf (ps.zip us) fun _ => none) (cellsFrom (s.heap.objs.size + 1) scope.names []) (bindC (envOfC qual scope s.heap.objs.size f cd).kindOf (ps.zip us) fun _ => none) s1) :
    Inv (cxOf CX P w K mg base N qual scope f cd A outer s H E) [] (start N vs) H s1 := by
  have hpl : ps.length ≤ N.length := by have := congrArg List.length S.pre; rw [List.length_take] at this; omega
  obtain ⟨h1, tk, rfl, hk⟩ := x.done
  have noA : ∀ b : Addr, b ∉ (cxOf CX P w K mg base N qual scope f cd A outer s H E).ex := fun b z => absurd (show b ∈ ([] : List Addr) from z) (by simp)
  refine ⟨⟨e0.mod, S.kind, rfl, rfl, Nat.le_refl _, fun y z c h1 h2 => ?_, fun y hy => ?_, fun y c _ h => ?_, fun _ => hd, Around.frames_deeper e0.frames, .inr ⟨rfl, rfl⟩, fun b z => absurd z (noA b), e0.bs, e0.bsz, fun b _ _ => noA b, fun b z => absurd z (noA b), e0.funs, e0.frf⟩,
    rfl, e0.bare, Un.kept hk, ⟨_, x.toInCall.ns, fun i y v h1 h2 h3 => ?_⟩, fun y c h => ⟨_, x.cell y c h⟩, e0.hok.fresh (Nat.le_refl _), fun y c h => ?_, fun p hp => absurd (show p ∈ ([] : List (Addr × Obj)) from hp) (by simp), e0.hok.kept hk, ?_⟩
  · exact name_of_addr x.apart (PySem.mem_of_lookup h1) (PySem.mem_of_lookup h2)
  · have hy : scope.names.lookup y = some .cell ∨ scope.names.lookup y = some .free := hy
    rcases hy with hy | hy
    · exact cell_has hy
    · exact absurd rfl (S.nofree _ (PySem.mem_of_lookup hy))
  · exact Nat.le_of_lt (x.above y c (PySem.mem_of_lookup h))
  · have hi : i < vs.length := by
      unfold start at h2
      by_cases hi : i < vs.length
      · exact hi
      · rw [List.getElem?_append_right (by simpa using hi)] at h2
        rw [List.getElem?_replicate] at h2
        split at h2 <;> cases h2
    have ha : vs[i]? = some v := by
      unfold start at h2
      rw [List.getElem?_append_left (by simpa using hi), List.getElem?_map] at h2
      cases e : vs[i]? with
      | none => rw [e] at h2; cases h2
      | some a => rw [e] at h2; cases h2; rfl
    obtain ⟨u, hu, rv⟩ := r.get ha
    have hp : ps[i]? = some y := by
      rw [← S.pre, List.getElem?_take_of_lt (by omega)]; exact h1
    have ndP : ps.Nodup := by rw [← S.pre]; exact S.nd.sublist (List.take_sublist _ _)
    refine ⟨u, rv, ?_⟩
    rcases S.par y (List.mem_of_getElem? hp) with k | k
    · exact .inl ⟨k, bindL_get ndP hp hu k⟩
    · obtain ⟨c, e⟩ := cell_has (n := s.heap.objs.size + 1) k
      refine .inr ⟨.inl k, c, e, ?_⟩
      have q := x.cell y c e
      rw [bindC_get ndP hp hu (by show scope.names.lookup y ≠ _; rw [k]; decide)] at q
      exact q
  · exact e0.hok.fresh (Nat.le_of_lt (x.above y c (PySem.mem_of_lookup h)))
  · unfold start
    show _ = N.length
    rw [List.length_append, List.length_map, List.length_replicate]
    omega
theorem fn_of {CX : CXT} {P : Program} {w : World} {K : PySem.W.Frag} {mg : Str → Option Value} {base : Heap} {k : Nat} {f : Addr} {name qual : Str} {params : Arguments} {body : List Stmt} {scope : Scope} {dV kV doc pm cdv ct oc : Value} {an od : Option Addr}
    {osl : Array (Option Value)} {N ps : List Str} {sp : Sp} (lk : K.lookup f = some ⟨oc, od, .func (PySem.W.fnOf name qual params body scope dV kV doc pm an cdv ct), osl⟩) (hcd : PySem.W.codeIn K cdv qual = true) (S : FnScope N ps scope)
    (len : ∀ vs H Q E, sp vs H Q E → vs.length = ps.length)
    (hbody : ∀ (A : Around) (outer : List Env) (s : Shared) (H : Hp) (vs : List V) (Q : VK) (E : XK), Room k (A.deeper (envOfC qual scope s.heap.objs.size f cdv)) → sp vs H Q E →
      ∃ t, PSs (cxOf CX P w K mg base N qual scope f cdv A outer s H E) body t ∧ t { nx := fun _ H' => Q .non H', rt := Q } (start N vs) H) :
    FnOk P w K mg base CX (k + 1) f (PySem.W.fnOf name qual params body scope dV kV doc pm an cdv ct) ps sp := by
  refine ⟨len, fun A outer s H args us vs Q E hr e0 hb r hsp => ?_⟩
  have hl := len _ _ _ _ hsp
  have KX : K.In s.heap := e0.mod.kin.keeps fun b o e => (e0.bs b o e).1
  have lim : s.heap.NoLimit := e0.mod.nolimit.keeps fun b o e => (e0.bs b o e).1
  have hkind : ∀ y ∈ ps.zip us, scope.names.lookup y.1 = some .local ∨ (scope.names.lookup y.1 = some .cell ∧ ((cellsFrom (s.heap.objs.size + 1) scope.names []).lookup y.1).isSome = true) := fun ⟨n, v⟩ hy => by
    rcases S.par n (List.of_mem_zip hy).1 with q | q
    · exact .inl q
    · exact .inr ⟨q, PySem.W.cellsFrom_some _ _ _ (.inl q)⟩
  refine codeAny_call_function hr.depth (KX _ _ lk) rfl S.co S.gen rfl (PySem.W.codeRec_of KX hcd) (hb _ _ _ _ ?_)
  refine wpAny_newFunctionEnv_cells S.kind hkind fun env he s1 x => ?_
  subst he
  refine ⟨lim.keeps x.toInCall.keep, codeAny_func ?_⟩
  obtain ⟨t, ht, hq⟩ := hbody A outer s H vs Q E (hr.deeper _) hsp
  have I : Inv (cxOf CX P w K mg base N qual scope f cdv A outer s H E) [] (start N vs) H s1 := inv_start S hr.hd e0 hl r x
  refine wpAny_mono (ht [] s1 (start N vs) H _ I hq) (fun fl s' hs => ?_) fun e s' hs => hs
  have fin : ∀ {σ' : St} {H' : Hp} {v : V} {u : Value}, Inv (cxOf CX P w K mg base N qual scope f cdv A outer s H E) [] σ' H' s' → RelV v u → Q v H' → CE outer P w H s Q u s' :=
    fun {σ' H' v u} J rv q => ⟨v, H', J.os, J.bare, J.base, J.hok, rv, q⟩
  cases fl with
  | ret u =>
    obtain ⟨v, σ', H', J, rv, q⟩ := hs
    exact fin J rv q
  | next =>
    obtain ⟨σ', H', J, q⟩ := hs
    exact fin (v := V.non) (u := Value.none) J rfl q
  | brk =>
    obtain ⟨_, _, _, q⟩ := hs
    exact False.elim q
  | cont =>
    obtain ⟨_, _, _, q⟩ := hs
    exact False.elim q
end L2
namespace L2
open PySem PySem.Spec PyProof.Rows
section
variable {X : Cx} {x : Str} {p pos : Pos} {e : Expr} {es : List Expr} {t : TA} {id T : String} {r : List V → Hp → VK → Prop}
def tCB (r : List V → Hp → VK → Prop) (t : TA) : TE := fun σ H Q => t σ H fun vs H1 => r vs H1 Q
theorem pe_callB (hc : CallR X (.builtin id) r) (hg : Gl X x) (hm : X.mg x = none) (hv : bootBuiltins x = some (.builtin id)) (ha : PA X (e :: es) t) (hn : x ≠ "__name__" := by decide) (hdb : (x == ("__debug__" : Str)) = false := by decide)
    (he : starEach (e :: es) X.env = (false, eval e X.env) :: starEach es X.env := by rfl) (hpl : (backTo pos (starEach es X.env)).any (·.1) = false := by rfl) : PE X (.Call (.Name x p) (e :: es) [] pos) (tCB r t) := by
  intro pins s σ H Q I h
  refine wpAny_Call_Name_kw (ld_blt I hg hm hv ?_ hn hdb)
  exact PyProof.Rows.callWith_builtin1 (thn (ha pos pins s σ H _ I h) fun us s1 ⟨vs, H1, I1, r1, q1⟩ => hc pins s1 σ H1 vs us Q I1 r1 q1) he hpl
theorem pe_callTy (hc : CallR X (.type T) r) (hg : Gl X x) (hm : X.mg x = none) (hv : bootBuiltins x = some (.type T)) (ha : PA X (e :: es) t) (hn : x ≠ "__name__" := by decide) (hdb : (x == ("__debug__" : Str)) = false := by decide)
    (he : starEach (e :: es) X.env = (false, eval e X.env) :: starEach es X.env := by rfl) (hpl : (backTo pos (starEach es X.env)).any (·.1) = false := by rfl) : PE X (.Call (.Name x p) (e :: es) [] pos) (tCB r t) := by
  intro pins s σ H Q I h
  refine wpAny_Call_Name_kw (ld_blt I hg hm hv ?_ hn hdb)
  exact PyProof.Rows.callWith_type1 (thn (ha pos pins s σ H _ I h) fun us s1 ⟨vs, H1, I1, r1, q1⟩ => hc pins s1 σ H1 vs us Q I1 r1 q1) he hpl
end
end L2
namespace HT
open PySem PyProof.Rows
def lexLt : List Int → List Int → Bool
  | [], [] => false
  | [], _ :: _ => true
  | _ :: _, [] => false
  | x :: xs, y :: ys => if x = y then lexLt xs ys else decide (x < y)
section
open PySem.SeqAt
open PySem.AutoSeq1 (wpAny_loadPart')
open PySem.MeetsSeq PySem.MeetsSeq2 PySem.MeetsSeq3
end
section
variable {prog : Program} {w : World} {A : Around} {E : Value → Shared → Prop} {s : Shared}
def sIx (n d : Nat) : Option Int → Nat
  | none => d
  | some v => if v < 0 then (v + (n : Int)).toNat else min v.toNat n
theorem sIx_le (n d : Nat) (hd : d ≤ n) (o : Option Int) : sIx n d o ≤ n := by
  cases o with
  | none => exact hd
  | some v =>
    show (if v < 0 then (v + (n : Int)).toNat else min v.toNat n) ≤ n
    by_cases hv : v < 0
    · rw [if_pos hv]; omega
    · rw [if_neg hv]; exact Nat.min_le_right _ _
theorem clip_eq (v : Int) (n d : Nat) : (if v < 0 then max (v + (n : Int)) 0 else min v (n : Int)) = ((sIx n d (some v) : Nat) : Int) := by
  show (if v < 0 then max (v + (n : Int)) 0 else min v (n : Int)) = (((if v < 0 then (v + (n : Int)).toNat else min v.toNat n) : Nat) : Int)
  by_cases hv : v < 0
  · simp only [if_pos hv]; omega
  · simp only [if_neg hv]; omega
theorem adjust_gen (lo hi : Option Int) (n : Nat) : Builtin.Slice.sliceAdjust lo hi 1 (n : Int) = (((sIx n 0 lo : Nat) : Int), ((sIx n n hi : Nat) : Int)) := by
  have h1 : ¬ ((1 : Int) < 0) := by omega
  unfold Builtin.Slice.sliceAdjust
  simp only [h1, if_false]
  refine Prod.ext ?_ ?_
  · cases lo with
    | none => rfl
    | some v => exact clip_eq v n 0
  · cases hi with
    | none => rfl
    | some v => exact clip_eq v n n
theorem places_gen (i j : Nat) : Builtin.Slice.slicePlaces (i : Int) (j : Int) 1 = j - i := by
  unfold Builtin.Slice.slicePlaces
  have h1 : (1 : Int) > 0 := by omega
  simp only [h1, if_true, Int.ediv_one]
  split <;> omega
theorem slicePart_ {v : Value} {o : Option Int} {Q : Option Int → Shared → Prop} (p : IsPart v o) (h : Q o s) : wpAny (model prog w) A (Builtin.Slice.slicePartIndex v) Q E s := by
  cases p with
  | none => exact slicePart_none h
  | int i t => exact slicePart_int h
theorem sliceApplied_gen {sl : Addr} {vl vu : Value} {lo hi : Option Int} {n : Nat} {Q : Int × Int × Nat → Shared → Prop} (hs : s.heap.IsSliceOf sl vl vu .none) (pl : IsPart vl lo) (pu : IsPart vu hi)
    (h : Q (((sIx n 0 lo : Nat) : Int), 1, sIx n n hi - sIx n 0 lo) s) : wpAny (model prog w) A (Builtin.Slice.sliceApplied (.ref sl) (pure (n : Int))) Q E s := by
  obtain ⟨os, hos, hcs, hds⟩ := id hs
  unfold Builtin.Slice.sliceApplied Builtin.Slice.sliceFields
  refine wpAny_bind (wpAny_bind (wpAny_field hos hds (x := vl) rfl (wpAny_bind (wpAny_field hos hds (x := vu) rfl (wpAny_bind (wpAny_field hos hds (x := .none) rfl (wpAny_pure ?_)))))))
  refine wpAny_bind (slicePart_none ?_)
  show wpAny _ _ (if ((1 : Int) == 0) = true then _ else _) _ _ s
  rw [if_neg (by decide)]
  refine wpAny_bind (slicePart_ pl (wpAny_bind (slicePart_ pu (wpAny_bind (wpAny_pure ?_)))))
  show wpAny _ _ (match Builtin.Slice.sliceAdjust lo hi 1 (n : Int) with | (lo, hi) => pure (lo, (1 : Int), Builtin.Slice.slicePlaces lo hi 1)) _ _ s
  rw [adjust_gen lo hi n]
  show wpAny _ _ (pure (((sIx n 0 lo : Nat) : Int), (1 : Int), Builtin.Slice.slicePlaces ((sIx n 0 lo : Nat) : Int) ((sIx n n hi : Nat) : Int) 1)) _ _ s
  rw [places_gen]
  exact wpAny_pure h
theorem pick_gen (xs : Array Value) (i k : Nat) : ((List.range k).filterMap fun (m : Nat) => xs[((i : Int) + (m : Int) * 1).toNat]?).toArray = ((xs.toList.drop i).take k).toArray := by
  have e : (fun (m : Nat) => xs[((i : Int) + (m : Int) * 1).toNat]?) = fun m => xs[i + m]? := by
    funext m
    have : ((i : Int) + (m : Int) * 1).toNat = i + m := by omega
    rw [this]
  rw [e]
  have := pick_run xs i k
  rw [List.filterMap_map] at this
  have e2 : ((fun x => xs[x]?) ∘ fun x => i + x) = fun m => xs[i + m]? := rfl
  rw [e2] at this
  rw [this]
theorem getItem_tuple_cut {t sl : Addr} {items : Array Value} {vl vu : Value} {lo hi : Option Int} {Q : Value → Shared → Prop} (ht : IsTup s.heap t items) (hs : s.heap.IsSliceOf sl vl vu .none) (pl : IsPart vl lo) (pu : IsPart vu hi)
    (hw : ¬ (sIx items.size 0 lo = 0 ∧ sIx items.size items.size hi = items.size))
    (h : Q (.ref s.heap.objs.size) { s with heap := s.heap.push { cls := .type "tuple", data := .seq ((items.toList.drop (sIx items.size 0 lo)).take (sIx items.size items.size hi - sIx items.size 0 lo)).toArray } })
    (hsz : items.size ≤ sizeLine) : wpAny (model prog w) A (getItem (.ref t) (.ref sl)) Q E s := by
  have htake : sizeOk (.seq ((items.toList.drop (sIx items.size 0 lo)).take (sIx items.size items.size hi - sIx items.size 0 lo)).toArray) := by
    show ((items.toList.drop (sIx items.size 0 lo)).take (sIx items.size items.size hi - sIx items.size 0 lo)).toArray.size ≤ sizeLine
    rw [List.size_toArray, List.length_take, List.length_drop, Array.length_toList]
    omega
  have hj : sIx items.size items.size hi ≤ items.size := sIx_le _ _ (Nat.le_refl _) hi
  obtain ⟨os, hos, hcs, hds⟩ := id hs
  have hTs : s.TypeIs (.ref sl) "slice" := ⟨os, hos, hcs⟩
  unfold getItem
  try with_reducible refine wpAny_holding ?_
  first | refine wpAny_bind (wpAny_pure ?_) | skip
  refine wpAny_bind (wpAny_sequenceKey ht.typeIs (by decide) ?_)
  refine wpAny_bind (wpAny_callSpecial?_slot (name := Str.ofString "__getitem__") ht.typeIs PyProof.Rows.slot_tuple_getitem
    (wpAny_call_entry PyProof.Rows.slot_tuple_getitem ht.typeIs entry_tuple_getitem ?_ (args_tuple_getitem _ _)))
  show wpAny _ _ (Builtin.Tuple.tupleItemsOf (.ref t) >>= _) _ _ s
  refine wpAny_bind (tupleItemsOf_ ht ?_)
  refine wpAny_bind (wpAny_typeOf hTs ?_)
  rw [if_pos (by decide)]
  refine wpAny_bind (sliceApplied_gen hs pl pu ?_)
  have hno : ¬ ((((sIx items.size 0 lo : Nat) : Int) == 0 && (1 : Int) == 1 && (sIx items.size items.size hi - sIx items.size 0 lo) == items.size) = true) := by
    intro q
    rw [Bool.and_eq_true, Bool.and_eq_true] at q
    have q1 : ((sIx items.size 0 lo : Nat) : Int) = 0 := eq_of_beq q.1.1
    have q2 : sIx items.size items.size hi - sIx items.size 0 lo = items.size := eq_of_beq q.2
    exact hw ⟨by omega, by omega⟩
  show wpAny _ _ (if (((sIx items.size 0 lo : Nat) : Int) == 0 && (1 : Int) == 1 && (sIx items.size items.size hi - sIx items.size 0 lo) == items.size) = true then _ else _) _ _ s
  rw [if_neg hno, pick_gen]
  first
    | exact wpAny_bind (m := Builtin.Tuple.tupleExact _) (wpAny_newObj_type (wpAny_pure ⟨_, rfl, wpAny_pure h⟩) htake)
    | exact wpAny_bind (m := Builtin.Tuple.tupleExact _) (wpAny_newObj_type (wpAny_bind (wpAny_pure (wpAny_pure ⟨_, rfl, wpAny_pure h⟩))) htake)
    | exact wpAny_bind (wpAny_bind (m := Builtin.Tuple.tupleExact _) (wpAny_newObj_type (wpAny_pure (wpAny_pure ⟨_, rfl, wpAny_pure h⟩)) htake))
    | exact wpAny_bind (wpAny_bind (m := Builtin.Tuple.tupleExact _) (wpAny_newObj_type (wpAny_pure ⟨_, rfl, wpAny_pure h⟩) htake))
end
end HT
namespace L2
open PySem PySem.Spec PyProof.Rows
abbrev TO := St → Hp → (Option Int → Hp → Prop) → Prop
def PO (X : Cx) (e : Option Expr) (t : TO) : Prop :=
  ∀ (pins : List (Addr × Obj)) (s : Shared) (σ : St) (H : Hp) (Q : Option Int → Hp → Prop), Inv X pins σ H s → t σ H Q →
    wpAny (model X.prog X.w) X.A (evalPart e X.env) (fun u s' => ∃ o H', Inv X pins σ H' s' ∧ IsPart u o ∧ Q o H') X.xe s
def tNoPart : TO := fun _ H Q => Q none H
def tPart (t : TE) : TO := fun σ H Q => t σ H fun x H1 => ∃ i, x = .int i ∧ Q (some i) H1
section
variable {X : Cx} {e : Expr} {te : TE} {lo hi : Option Expr} {tl th : TO} {pos p2 : Pos}
theorem po_some (h : PE X e te) : PO X (some e) (tPart te) := by
  intro pins s σ H Q I hw
  rw [evalPart_some]
  refine thn (h pins s σ H _ I hw) fun u s1 ⟨x, H1, I1, r1, q1⟩ => ?_
  obtain ⟨i, rfl, q⟩ := q1
  obtain ⟨t, rfl⟩ := r1
  exact ⟨some i, H1, I1, .int i t, q⟩
def SlR (X : Cx) (r : V → Option Int → Option Int → Hp → VK → Prop) : Prop :=
  ∀ (pins : List (Addr × Obj)) (s : Shared) (σ : St) (H : Hp) (x : V) (v vl vu : Value) (lo hi : Option Int) (sl : Addr) (Q : VK), Inv X pins σ H s → RelV x v → s.heap.IsSliceOf sl vl vu .none → IsPart vl lo → IsPart vu hi → r x lo hi H Q →
    ∃ T id, typeLookup (.type T) "__getitem__" = pure (some (.builtin id)) ∧ s.TypeIs v T ∧ wpAny (model X.prog X.w) X.A (getItem v (.ref sl)) (EP X pins σ Q) X.xe s
theorem SlR.or {r r' : V → Option Int → Option Int → Hp → VK → Prop} (h : SlR X r) (h' : SlR X r') : SlR X (fun x lo hi H Q => r x lo hi H Q ∨ r' x lo hi H Q) := by
  intro pins s σ H x v vl vu lo hi sl Q I rx hs pl pu q
  rcases q with q | q
  · exact h pins s σ H x v vl vu lo hi sl Q I rx hs pl pu q
  · exact h' pins s σ H x v vl vu lo hi sl Q I rx hs pl pu q
def tSl (r : V → Option Int → Option Int → Hp → VK → Prop) (te : TE) (tl th : TO) : TE := fun σ H Q => te σ H fun x H1 => tl σ H1 fun l H2 => th σ H2 fun u H3 => r x l u H3 Q
theorem pe_slice {r : V → Option Int → Option Int → Hp → VK → Prop} (hr : SlR X r) (he : PE X e te) (hl : PO X lo tl) (hu : PO X hi th) : PE X (.Subscript e (.Slice lo hi none p2) pos) (tSl r te tl th) := by
  intro pins s σ H Q I h
  refine Subscript_ (thn (he pins s σ H _ I h) fun v s1 ⟨x, H1, I1, r1, q1⟩ => ?_)
  refine wpAny_Slice (thn (hl pins s1 σ H1 _ I1 q1) fun vl s2 ⟨l, H2, I2, pl, q2⟩ => thn (hu pins s2 σ H2 _ I2 q2) fun vu s3 ⟨u, H3, I3, pu, q3⟩ => ?_)
  rw [evalPart_none]
  refine wpAny_pure ?_
  have I4 : Inv X pins σ H3 { s3 with heap := s3.heap.push { cls := .type "slice", data := .fields #[vl, vu, .none] } } := I3.kept (t' := s3.toks) fun b ob q => Heap.get?_push_of_some _ q
  obtain ⟨T, id, hT, ht, hg⟩ := hr pins { s3 with heap := s3.heap.push { cls := .type "slice", data := .fields #[vl, vu, .none] } } σ H3 x v vl vu l u s3.heap.objs.size Q I4 r1 (Heap.IsSliceOf.new ..) pl pu q3
  show wpAny (model X.prog X.w) X.A (subscriptTail e (.Slice lo hi none p2) v (.ref s3.heap.objs.size)) (EP X pins σ Q) X.xe { s3 with heap := s3.heap.push { cls := .type "slice", data := .fields #[vl, vu, .none] } }
  exact tail_any (ops := [.ref s3.heap.objs.size, v]) ht hT hg (by with_unfolding_all rfl)
def cutV (xs : List V) (lo hi : Option Int) : List V := (xs.drop (HT.sIx xs.length 0 lo)).take (HT.sIx xs.length xs.length hi - HT.sIx xs.length 0 lo)
theorem cutV_length (xs : List V) (lo hi : Option Int) : (cutV xs lo hi).length ≤ xs.length := by
  unfold cutV
  rw [List.length_take, List.length_drop]
  omega
def rSlT (K : PySem.W.Frag) : V → Option Int → Option Int → Hp → VK → Prop := fun x lo hi H Q => ∃ a xs, x = .ref a ∧ SqT K H a xs ∧
  ¬ (HT.sIx xs.length 0 lo = 0 ∧ HT.sIx xs.length xs.length hi = xs.length) ∧ ∀ p, H p = none → Q (.ref p) (upd H p (.tup (cutV xs lo hi)))
theorem sl_tup : SlR X (rSlT X.K) := by
  intro pins s σ H x v vl vu lo hi sl Q I rx hs pl pu h
  obtain ⟨a, xs, rfl, hx, hw, q⟩ := h
  cases rx
  obtain ⟨its, r, ht, hz⟩ := I.tuple hx
  have hlen : its.toArray.size = xs.length := by rw [List.size_toArray]; exact r.length.symm
  refine ⟨"tuple", _, PyProof.Rows.slot_tuple_getitem.lookup, ht.typeIs, ?_⟩
  refine HT.getItem_tuple_cut ht hs pl pu (by rw [hlen]; exact hw) ?_ (by rw [hlen]; exact hz)
  rw [hlen]
  refine ⟨.ref s.heap.objs.size, _, I.laid (t' := s.toks) (o := .tup (cutV xs lo hi)) (fun b ob q => Heap.get?_push_of_some _ q) (Nat.le_refl _) ?_, rfl, q _ (I.hok.fresh (Nat.le_refl _))⟩
  exact ⟨Nat.le_trans (cutV_length xs lo hi) hz, _, (r.drop (HT.sIx xs.length 0 lo)).take (HT.sIx xs.length xs.length hi - HT.sIx xs.length 0 lo), IsTup.new _ _⟩
def rLtT (K : PySem.W.Frag) : R2 := fun x y H Q => ∃ a b ns ms, x = .ref a ∧ y = .ref b ∧ SqT K H a (ns.map V.int) ∧ SqT K H b (ms.map V.int) ∧ Q (.bl (HT.lexLt ns ms)) H
def rCatT (K : PySem.W.Frag) : R2 := fun x y H Q => ∃ a b xs ys, x = .ref a ∧ y = .ref b ∧ SqT K H a xs ∧ SqT K H b ys ∧ xs ≠ [] ∧ xs.length + ys.length ≤ sizeLine ∧
  (ys = [] → Q (.ref a) H) ∧ (ys ≠ [] → ∀ p, H p = none → Q (.ref p) (upd H p (.tup (xs ++ ys))))
end
end L2
namespace L2
open PySem PySem.Spec PyProof.Rows
def ixN (n : Nat) (i : Int) : Option Nat := if 0 ≤ i then (if i < n then some i.toNat else none) else if -(n : Int) ≤ i then some (i + n).toNat else none
def atI {α : Type} (xs : List α) (i : Int) : Option α := (ixN xs.length i).bind fun j => xs[j]?
theorem ixN_seq {n : Nat} {i : Int} {j : Nat} (h : ixN n i = some j) : seqIndex? i n = some j ∧ j < n ∧ -(n : Int) ≤ i ∧ i < n := by
  unfold ixN at h
  by_cases h0 : 0 ≤ i
  · rw [if_pos h0] at h
    by_cases h1 : i < n
    · rw [if_pos h1] at h
      have e : i.toNat = j := Option.some.inj h
      exact ⟨by rw [seqIndex_of h0 h1, e], by omega, by omega, h1⟩
    · rw [if_neg h1] at h; cases h
  · rw [if_neg h0] at h
    by_cases h1 : -(n : Int) ≤ i
    · rw [if_pos h1] at h
      have e : (i + n).toNat = j := Option.some.inj h
      exact ⟨by rw [seqIndex_neg (by omega) h1, e], by omega, h1, by omega⟩
    · rw [if_neg h1] at h; cases h
theorem atI_get {α : Type} {xs : List α} {i : Int} {v : α} (h : atI xs i = some v) : ∃ j, seqIndex? i xs.length = some j ∧ xs[j]? = some v ∧ j < xs.length ∧ -(xs.length : Int) ≤ i ∧ i < xs.length := by
  unfold atI at h
  cases e : ixN xs.length i with
  | none => rw [e] at h; cases h
  | some j =>
    rw [e] at h
    obtain ⟨h1, h2, h3, h4⟩ := ixN_seq e
    exact ⟨j, h1, h, h2, h3, h4⟩
theorem atI_nat {α : Type} {xs : List α} {j : Nat} {v : α} (h : xs[j]? = some v) : atI xs (j : Int) = some v := by
  have hj : j < xs.length := (List.getElem?_eq_some_iff.mp h).1
  have e : ixN xs.length (j : Int) = some j := by
    unfold ixN
    rw [if_pos (by omega), if_pos (by omega)]; simp
  unfold atI; rw [e]; exact h
def PlainIx (b : Expr) : Prop := ∀ o i, subscripted b false o i = operate [o, i] (getItem o i)
def IxR (X : Cx) (r : R2) : Prop :=
  ∀ (value slice : Expr) (pins : List (Addr × Obj)) (s : Shared) (σ : St) (H : Hp) (x y : V) (v u : Value) (Q : VK), Inv X pins σ H s → RelV x v → RelV y u → r x y H Q →
    subscripted slice false v u = operate [v, u] (getItem v u) → wpAny (model X.prog X.w) X.A (subscriptTail value slice v u) (EP X pins σ Q) X.xe s
def MtR (X : Cx) (id : String) (r : V → List V → Hp → VK → Prop) : Prop :=
  ∀ (pins : List (Addr × Obj)) (s : Shared) (σ : St) (H : Hp) (x : V) (xs : List V) (v : Value) (us : List Value) (Q : VK), Inv X pins σ H s → RelV x v → Vals xs us → r x xs H Q →
    wpAny (model X.prog X.w) X.A (call (.builtin id) (v :: us)) (EP X pins σ Q) X.xe s
section
variable {X : Cx} {a b : Expr} {ta tb : TE} {pos : Pos}
theorem IxR.or {r r' : R2} (h : IxR X r) (h' : IxR X r') : IxR X (fun x y H Q => r x y H Q ∨ r' x y H Q) := by
  intro value slice pins s σ H x y v u Q I rx ry q hs
  rcases q with q | q
  · exact h value slice pins s σ H x y v u Q I rx ry q hs
  · exact h' value slice pins s σ H x y v u Q I rx ry q hs
theorem pe_ix {r : R2} (hr : IxR X r) (ha : PE X a ta) (hb : PE X b tb) (hs : PlainIx b) : PE X (.Subscript a b pos) (tOp r ta tb) := by
  intro pins s σ H Q I h
  exact Subscript_ (binT ha hb I h fun v u s2 x y H2 I2 rx ry q => hr a b pins s2 σ H2 x y v u Q I2 rx ry q (hs _ _))
inductive rIxL (K : PySem.W.Frag) (x y : V) (H : Hp) (Q : VK) : Prop
  | mk (p : Addr) (xs : List V) (i : Int) (v : V) (h0 : x = .ref p) (h1 : y = .int i) (h2 : SqL K H p xs) (h3 : atI xs i = some v) (h4 : Q v H) : rIxL K x y H Q
inductive rIxT (K : PySem.W.Frag) (x y : V) (H : Hp) (Q : VK) : Prop
  | mk (p : Addr) (xs : List V) (i : Int) (v : V) (h0 : x = .ref p) (h1 : y = .int i) (h2 : SqT K H p xs) (h3 : atI xs i = some v) (h4 : Q v H) : rIxT K x y H Q
def rIxS : R2 := fun x y H Q => ∃ z i c, x = .str z ∧ y = .int i ∧ z.length ≤ sizeLine ∧ atI z.cps.toList i = some c ∧ Q (.str ⟨#[c]⟩) H
theorem ix_list : IxR X (rIxL X.K) := by
  intro value slice pins s σ H x y v u Q I rx ry h hs
  obtain ⟨p, xs, i, z, rfl, rfl, hq, he, q⟩ := h
  cases rx
  obtain ⟨t, rfl⟩ := ry
  obtain ⟨its, r, pl, hz⟩ := I.list hq
  obtain ⟨j, h1, h2, h3, h4, h5⟩ := atI_get he
  obtain ⟨w, ew, rw'⟩ := r.get h2
  have hl := r.length
  have hn := line63
  have fin : EP X pins σ Q w s := ⟨z, H, I, rw', q⟩
  by_cases h0 : 0 ≤ i
  · have hj : i.toNat = j := by
      rw [seqIndex_of h0 h5] at h1
      exact Option.some.inj h1
    exact item_listR pl.isList h0 (by omega) (by rw [hj]; simpa using ew) fin hs
  · have hj : (i + (its.toArray.size : Int)).toNat = j := by
      rw [seqIndex_neg (by omega) h4] at h1
      rw [List.size_toArray, ← hl]
      exact Option.some.inj h1
    exact subscriptTail_builtinR (x := w) pl.isList.typeIs slot_list_getitem.lookup
      (wpAny_getItem_list_neg (Q := fun r s' => r = w ∧ EP X pins σ Q r s') pl.isList (by omega) (by rw [List.size_toArray] <;> omega) (by omega) (by rw [hj]; simpa using ew) ⟨rfl, fin⟩) hs
theorem ix_tup : IxR X (rIxT X.K) := by
  intro value slice pins s σ H x y v u Q I rx ry h hs
  obtain ⟨p, xs, i, z, rfl, rfl, hq, he, q⟩ := h
  cases rx
  obtain ⟨t, rfl⟩ := ry
  obtain ⟨its, r, pl, hz⟩ := I.tuple hq
  obtain ⟨j, h1, h2, h3, h4, h5⟩ := atI_get he
  obtain ⟨w, ew, rw'⟩ := r.get h2
  have hl := r.length
  have hn := line63
  have fin : EP X pins σ Q w s := ⟨z, H, I, rw', q⟩
  exact subscriptTail_builtinR (x := w) pl.typeIs slot_tuple_getitem.lookup
    (getItem_tuple (j := j) (Q := fun r s' => r = w ∧ EP X pins σ Q r s') pl (by omega) (by omega) (by rw [List.size_toArray, ← hl]; exact h1) (by simpa using ew) ⟨rfl, fin⟩) hs
theorem ix_str : IxR X rIxS := by
  intro value slice pins s σ H x y v u Q I rx ry h hs
  obtain ⟨z, i, c, rfl, rfl, hz, he, q⟩ := h
  obtain ⟨t, rfl⟩ := rx
  obtain ⟨t', rfl⟩ := ry
  obtain ⟨j, h1, h2, h3, h4, h5⟩ := atI_get he
  have hl : z.cps.toList.length = z.length := by simp [Str.length]
  rw [hl] at h1 h4 h5
  have hn := line63
  exact tail_any (typeIs_str s z t) slot_str_getitem.lookup (getItem_str (c := c) (by
    have e1 : decide (i < -(2 ^ 63 : Int)) = false := decide_eq_false (by omega)
    have e2 : decide (i ≥ 2 ^ 63) = false := decide_eq_false (by omega)
    rw [e1, e2, Bool.or_false]) (by rw [h1]; simpa using h2) ⟨.str ⟨#[c]⟩, H, I.tok _, ⟨_, rfl⟩, q⟩) hs
def rIx (K : PySem.W.Frag) : R2 := fun x y H Q => rIxL K x y H Q ∨ rIxT K x y H Q ∨ rIxS x y H Q
theorem ix_seq : IxR X (rIx X.K) := ix_list.or (ix_tup.or ix_str)
theorem mapSeq_set (its : List Value) (n j : Nat) (u : Value) : Obj.mapSeq (·.setIfInBounds j u) { cls := .type "list", data := .seq its.toArray n } = { cls := .type "list", data := .seq (its.set j u).toArray n } := by
  simp [Obj.mapSeq]
theorem Inv.lst {pins : List (Addr × Obj)} {σ : St} {H : Hp} {s : Shared} {p : Addr} {xs : List V} (I : Inv X pins σ H s) (h : H p = some (.lst xs)) :
    ∃ (its : List Value) (n : Nat), Vals xs its ∧ s.heap.get? p = some { cls := .type "list", data := .seq its.toArray n } ∧ xs.length ≤ sizeLine := by
  obtain ⟨z, its, n, r, e⟩ := I.hok p _ h
  exact ⟨its, n, r, e, z⟩
theorem Inv.lstUpd {pins : List (Addr × Obj)} {σ : St} {H : Hp} {s : Shared} {p : Addr} {xs ys : List V} {its its' : List Value} {n n' : Nat} {f : Obj → Obj} (I : Inv X pins σ H s) (h : H p = some (.lst xs))
    (ho : s.heap.get? p = some { cls := .type "list", data := .seq its.toArray n }) (hf : f { cls := .type "list", data := .seq its.toArray n } = { cls := .type "list", data := .seq its'.toArray n' }) (r : Vals ys its') (hz : ys.length ≤ sizeLine) (t : Nat) :
    Inv X pins σ (upd H p (.lst ys)) { s with heap := s.heap.update p f, toks := t } := by
  have e : (s.heap.update p f).get? p = some { cls := .type "list", data := .seq its'.toArray n' } := by
    rw [Heap.get?_update_self f ho (by rw [hf] <;> rfl), hf]
  refine I.write (x := p) (e := p) (by rw [h]; trivial) (.inl rfl) (fun b u hb q => (Heap.get?_update_other _ _ (Ne.symm hb)).trans q) ⟨_, e⟩ ?_
  exact ⟨hz, its', n', r, e⟩
def rSetL : V → V → V → Hp → (Hp → Prop) → Prop := fun o i v H Q => ∃ p xs k j, o = .ref p ∧ i = .int k ∧ H p = some (.lst xs) ∧ ixN xs.length k = some j ∧ Q (upd H p (.lst (xs.set j v)))
theorem set_list : PSet X rSetL := by
  intro pins s σ H o i v ov iv u Q I ro ri rv h
  obtain ⟨p, xs, k, j, rfl, rfl, hp, hj, q⟩ := h
  cases ro
  obtain ⟨t, rfl⟩ := ri
  obtain ⟨its, n, r, ho, hz⟩ := I.lst hp
  obtain ⟨h1, h2, h3, h4⟩ := ixN_seq hj
  have hl := r.length
  have hn := line63
  have I' : Inv X pins σ (upd H p (.lst (xs.set j v))) { s with heap := s.heap.update p (Obj.mapSeq (·.setIfInBounds j u)) } :=
    I.lstUpd hp ho (mapSeq_set its n j u) (r.set rv j) (by rw [List.length_set]; exact hz) s.toks
  by_cases h0 : 0 ≤ k
  · have hk : k.toNat = j := by
      rw [seqIndex_of h0 h4] at h1
      exact Option.some.inj h1
    exact PySem.W.ki_setAt ho h0 (by omega) (by rw [List.size_toArray, ← hl]; exact h4) (by rw [hk]; exact ⟨_, I', q⟩)
  · have hk : (k + (its.toArray.size : Int)).toNat = j := by
      rw [seqIndex_neg (by omega) h3] at h1
      rw [List.size_toArray, ← hl]
      exact Option.some.inj h1
    exact PySem.W.ki_setBack ho (by omega) (by rw [List.size_toArray, ← hl]; exact h3) (by omega) (by rw [hk]; exact ⟨_, I', q⟩)
theorem slice_bounds (lo hi : Option Int) (n : Nat) : (sliceBounds lo hi none n).1 = ((HT.sIx n 0 lo : Nat) : Int) ∧ (sliceBounds lo hi none n).2.1 = ((HT.sIx n n hi : Nat) : Int) ∧ (sliceBounds lo hi none n).2.2 = 1 := by
  refine ⟨?_, ?_, rfl⟩
  · cases lo with
    | none => simp [sliceBounds, HT.sIx]
    | some i =>
      simp only [sliceBounds, HT.sIx, Option.getD_none, show (1 : Int) > 0 by decide, if_true]
      by_cases h : i < 0
      · simp only [h, if_true] <;> omega
      · simp only [h, if_false] <;> omega
  · cases hi with
    | none => simp [sliceBounds, HT.sIx]
    | some i =>
      simp only [sliceBounds, HT.sIx, Option.getD_none, show (1 : Int) > 0 by decide, if_true]
      by_cases h : i < 0
      · simp only [h, if_true] <;> omega
      · simp only [h, if_false] <;> omega
theorem slicePick_cut (its : List Value) (lo hi : Option Int) : slicePick its.toArray lo hi none = ((its.drop (HT.sIx its.length 0 lo)).take (HT.sIx its.length its.length hi - HT.sIx its.length 0 lo)).toArray := by
  obtain ⟨h1, h2, h3⟩ := slice_bounds lo hi its.toArray.size
  unfold slicePick
  rw [h1, h2, h3]
  simp only [sliceRange_one, pick_run, List.size_toArray] <;> rfl
def rSlL (K : PySem.W.Frag) : V → Option Int → Option Int → Hp → VK → Prop := fun x lo hi H Q => ∃ a xs, x = .ref a ∧ SqL K H a xs ∧ ∀ p, H p = none → Q (.ref p) (upd H p (.lst (cutV xs lo hi)))
theorem sl_list : SlR X (rSlL X.K) := by
  intro pins s σ H x v vl vu lo hi sl Q I rx hs pl pu h
  obtain ⟨a, xs, rfl, hx, q⟩ := h
  cases rx
  obtain ⟨its, r, ht, hz⟩ := I.list hx
  have hlen := r.length
  refine ⟨"list", _, slot_list_getitem.lookup, ht.isList.typeIs, ?_⟩
  refine wpAny_getItem_list_slice ht.isList hs pl pu .none (by simp) ?_ (by rw [List.size_toArray] <;> omega)
  rw [slicePick_cut, ← hlen]
  refine ⟨.ref s.heap.objs.size, _, I.laid (t' := s.toks) (o := .lst (cutV xs lo hi)) (fun b ob q => Heap.get?_push_of_some _ q) (Nat.le_refl _) ?_, rfl, q _ (I.hok.fresh (Nat.le_refl _))⟩
  exact ⟨Nat.le_trans (cutV_length xs lo hi) hz, _, 0, (r.drop (HT.sIx xs.length 0 lo)).take (HT.sIx xs.length xs.length hi - HT.sIx xs.length 0 lo), Heap.get?_push_size _ rfl⟩
def flatV : V → Bool
  | .non => true
  | .bl _ => true
  | .int _ => true
  | .str _ => true
  | _ => false
def eqV : V → V → Bool
  | .non, .non => true
  | .bl a, .bl b => a == b
  | .bl a, .int b => (if a then 1 else 0) == b
  | .int a, .bl b => a == (if b then 1 else 0)
  | .int a, .int b => a == b
  | .str a, .str b => a == b
  | _, _ => false
def eqU (x : V) (u : Value) : Bool := match u with
  | .none => eqV .non x
  | .bool b => eqV (.bl b) x
  | .int i _ => eqV (.int i) x
  | .str z _ => eqV (.str z) x
  | _ => false
def inV (x : V) (xs : List V) : Bool := xs.any fun y => eqV y x
inductive rIn (K : PySem.W.Frag) (neg : Bool) (x y : V) (H : Hp) (Q : VK) : Prop
  | mk (p : Addr) (xs : List V) (h0 : y = .ref p) (h1 : SqL K H p xs ∨ SqT K H p xs) (h2 : flatV x = true) (h3 : xs.all flatV = true) (h4 : Q (.bl (if neg then !inV x xs else inV x xs)) H) : rIn K neg x y H Q
theorem call_len_seq : CallR X (.builtin "len") (fun xs H Q => ∃ p ys, xs = [.ref p] ∧ (SqL X.K H p ys ∨ SqT X.K H p ys) ∧ Q (.int ys.length) H) := by
  intro pins s σ H xs us Q I r h
  obtain ⟨p, ys, rfl, hq, q⟩ := h
  obtain ⟨u, rfl, rx⟩ := vals1 r
  cases rx
  have hn := line63
  rcases hq with hq | hq
  · obtain ⟨its, r', pl, hz⟩ := I.list hq
    have hlen := r'.length
    exact Calls.call_len_list pl.isList (by simp only [List.size_toArray] <;> omega) ⟨.int ys.length, H, I.tok _, ⟨s.toks + 1, by rw [List.size_toArray, hlen]⟩, q⟩
  · obtain ⟨its, r', pl, hz⟩ := I.tuple hq
    have hlen := r'.length
    exact len_tuple pl (by simp only [List.size_toArray] <;> omega) ⟨.int ys.length, H, I.tok _, ⟨s.toks + 1, by rw [List.size_toArray, hlen]⟩, q⟩
theorem call_len_str : CallR X (.builtin "len") (fun xs H Q => ∃ z, xs = [.str z] ∧ z.length ≤ sizeLine ∧ Q (.int z.length) H) := by
  intro pins s σ H xs us Q I r h
  obtain ⟨z, rfl, hz, q⟩ := h
  obtain ⟨u, rfl, t, rfl⟩ := vals1 r
  have hn := line63
  exact len_str (by omega) ⟨.int z.length, H, I.tok _, ⟨_, rfl⟩, q⟩
theorem CallR.or {f : Value} {r r' : List V → Hp → VK → Prop} (h : CallR X f r) (h' : CallR X f r') : CallR X f (fun xs H Q => r xs H Q ∨ r' xs H Q) := by
  intro pins s σ H xs us Q I rs q
  rcases q with q | q
  · exact h pins s σ H xs us Q I rs q
  · exact h' pins s σ H xs us Q I rs q
inductive rListOf (K : PySem.W.Frag) (xs : List V) (H : Hp) (Q : VK) : Prop
  | mk (p : Addr) (ys : List V) (h0 : xs = [.ref p]) (h1 : SqL K H p ys ∨ SqT K H p ys) (h2 : ∀ l, H l = none → Q (.ref l) (upd H l (.lst ys))) : rListOf K xs H Q
theorem call_list_of : CallR X (.type "list") (rListOf X.K) := by
  intro pins s σ H xs us Q I r h
  obtain ⟨p, ys, rfl, hq, q⟩ := h
  obtain ⟨u, rfl, rx⟩ := vals1 r
  cases rx
  have fin : ∀ (its : List Value), Vals ys its → ys.length ≤ sizeLine → ∀ (h' : Heap) (c' : Nat), (∀ b o', s.heap.get? b = some o' → h'.get? b = some o') →
      h'.get? s.heap.objs.size = some { cls := .type "list", dict := none, data := .seq its.toArray c', slots := #[] } → EP X pins σ Q (.ref s.heap.objs.size) { s with heap := h' } := fun its r' hz h' c' kp e =>
    ⟨.ref s.heap.objs.size, _, I.laid (t' := s.toks) kp (Nat.le_refl _) (show ObjOk X.prog X.w _ h' _ (.lst ys) from ⟨hz, its, c', r', e⟩), rfl, q _ (I.hok.fresh (Nat.le_refl _))⟩
  rcases hq with hq | hq
  · obtain ⟨its, r', pl, hz⟩ := I.list hq
    have hlen := r'.length
    obtain ⟨o, ho, hc, n, hd⟩ := pl.isList
    exact call_list_seq p (.inl rfl) ho hc hd (fun h' c' kp e => fin its r' hz h' c' kp e) (by simp only [List.size_toArray] <;> omega)
  · obtain ⟨its, r', pl, hz⟩ := I.tuple hq
    have hlen := r'.length
    obtain ⟨o, ho, hc, n, hd⟩ := pl
    exact call_list_seq p (.inr rfl) ho hc hd (fun h' c' kp e => fin its r' hz h' c' kp e) (by simp only [List.size_toArray] <;> omega)
theorem call_tuple_of : CallR X (.type "tuple") (fun xs H Q => ∃ p ys, xs = [.ref p] ∧ ((SqL X.K H p ys ∧ ∀ l, H l = none → Q (.ref l) (upd H l (.tup ys))) ∨ (SqT X.K H p ys ∧ Q (.ref p) H))) := by
  intro pins s σ H xs us Q I r h
  obtain ⟨p, ys, rfl, h⟩ := h
  obtain ⟨u, rfl, rx⟩ := vals1 r
  cases rx
  rcases h with ⟨hq, q⟩ | ⟨hq, q⟩
  · obtain ⟨its, r', pl, hz⟩ := I.list hq
    have hlen := r'.length
    refine call_tuple_list pl.isList (fun h' kp => ?_) (by simp only [List.size_toArray] <;> omega)
    have I1 : Inv X pins σ H { s with heap := h' } := I.kept (t' := s.toks) kp
    have I2 : Inv X pins σ (upd H h'.objs.size (.tup ys)) { s with heap := h'.push { cls := .type "tuple", data := .seq its.toArray } } :=
      I1.laid (t' := s.toks) (fun b o e => Heap.get?_push_of_some _ e) (Nat.le_refl _) (show ObjOk X.prog X.w _ _ _ (.tup ys) from ⟨hz, its, r', IsTup.new _ _⟩)
    exact ⟨.ref h'.objs.size, _, I2, rfl, q _ (I1.hok.fresh (Nat.le_refl _))⟩
  · obtain ⟨its, r', pl, hz⟩ := I.tuple hq
    exact call_tuple_same pl ⟨.ref p, H, I, rfl, q⟩
def tyV (K : PySem.W.Frag) (T : String) (x : V) (H : Hp) : Prop := match x with
  | .str _ => T = "str"
  | .int _ => T = "int"
  | .ref p => (T = "list" ∧ ∃ xs, SqL K H p xs) ∨ (T = "tuple" ∧ ∃ o, K.lookup p = some o ∧ o.cls = .type "tuple" ∧ o.dict = none) ∨
      (T = "dict" ∧ ((∃ kvs, H p = some (.dK kvs)) ∨ ∃ kvs, H p = some (.dT kvs))) ∨ (T = "set" ∧ ∃ S n, H p = some (.set S n))
  | _ => False
theorem tyV_is {pins : List (Addr × Obj)} {σ : St} {H : Hp} {s : Shared} {T : String} {x : V} {v : Value} (I : Inv X pins σ H s) (r : RelV x v) (ty : tyV X.K T x H) :
    s.TypeIs v T ∧ ∀ a, v = .ref a → ∃ ob, s.heap.get? a = some ob ∧ ob.dict = none := by
  cases x with
  | str z =>
    obtain ⟨t, rfl⟩ := r
    cases (show T = "str" from ty)
    exact ⟨typeIs_str s z t, fun _ e => nomatch e⟩
  | int i =>
    obtain ⟨t, rfl⟩ := r
    cases (show T = "int" from ty)
    exact ⟨typeIs_int s i t, fun _ e => nomatch e⟩
  | ref p =>
    cases r
    rcases ty with ⟨rfl, xs, hq⟩ | ⟨rfl, o, hk, hc, hd⟩ | ⟨rfl, hk⟩ | ⟨rfl, S, n, hk⟩
    · obtain ⟨its, _, pl, _⟩ := I.list hq
      refine ⟨pl.isList.typeIs, fun a e => ?_⟩
      cases e
      obtain ⟨o, n, e, c, hd, _⟩ := pl
      exact ⟨o, e, hd⟩
    · refine ⟨⟨o, I.kIn p o hk, hc⟩, fun a e => ?_⟩
      cases e
      exact ⟨o, I.kIn _ o hk, hd⟩
    · have z : ∃ o, s.heap.get? p = some o ∧ o.ExactDict := by
        rcases hk with ⟨kvs, hk⟩ | ⟨kvs, hk⟩
        · obtain ⟨_, _, _, _, o, _, _, e, ex, _⟩ := I.hok p _ hk
          exact ⟨o, e, ex⟩
        · obtain ⟨_, _, _, _, o, _, _, e, ex, _⟩ := I.hok p _ hk
          exact ⟨o, e, ex⟩
      obtain ⟨o, e, ex⟩ := z
      refine ⟨⟨o, e, ex.1⟩, fun a e2 => ?_⟩
      cases e2
      exact ⟨o, e, ex.2.1⟩
    · obtain ⟨o, _, _, _, e, ex, _⟩ := I.hok p _ hk
      refine ⟨⟨o, e, ex.1⟩, fun a e2 => ?_⟩
      cases e2
      exact ⟨o, e, ex.2.1⟩
  | _ => exact False.elim ty
def tBM0 (K : PySem.W.Frag) (T : String) (r : V → List V → Hp → VK → Prop) (to : TE) : TE := fun σ H Q => to σ H fun x H1 => tyV K T x H1 ∧ r x [] H1 Q
def tBM (K : PySem.W.Frag) (T : String) (r : V → List V → Hp → VK → Prop) (to : TE) (t : TA) : TE := fun σ H Q => to σ H fun x H1 => tyV K T x H1 ∧ t σ H1 fun xs H2 => r x xs H2 Q
variable {o e : Expr} {es : List Expr} {to : TE} {t : TA} {name : Str} {apos cpos : Pos} {T id : String} {r : V → List V → Hp → VK → Prop}
theorem pe_bm0 (pa : PlainAttrs T) (slot : Slot T name id) (hty : typeOf (.builtin id) = pure (.type "method_descriptor")) (hm : MtR X id r) (ho : PE X o to)
    (hbase : attributeBase o name X.env (eval o X.env) = eval o X.env := by rfl) (hline : (apos.endLine == cpos.line) = true := by rfl) : PE X (.Call (.Attribute o name apos) [] [] cpos) (tBM0 X.K T r to) := by
  intro pins s σ H Q I h
  refine wpAny_Call_method0_late hbase hline (thn (ho pins s σ H _ I h) fun v s1 ⟨x, H1, I1, r1, ty, q1⟩ => ?_)
  obtain ⟨h1, h2⟩ := tyV_is I1 r1 ty
  exact ⟨T, id, pa, slot, hty, h1, h2, Calls.callWith_builtin rfl (PySem.evalArgs_none (hm pins s1 σ H1 x [] v [] Q I1 r1 .nil q1))⟩
theorem pe_bm (pa : PlainAttrs T) (slot : Slot T name id) (hty : typeOf (.builtin id) = pure (.type "method_descriptor")) (hm : MtR X id r) (ho : PE X o to) (ha : PA X (e :: es) t)
    (hbase : attributeBase o name X.env (eval o X.env) = eval o X.env := by rfl)
    (hfew : ((backTo cpos (starEach (e :: es) X.env)).all (fun x => !x.1) && (backToKw cpos (keywordEach [] X.env)).all (fun x => x.1.isSome)
      && decide ((e :: es).length + ([] : List Keyword).length + (if ([] : List Keyword).isEmpty then 0 else 1) < 30)) = true := by rfl)
    (hline : (apos.endLine == cpos.line) = true := by rfl) (hs : starEach (e :: es) X.env = (false, eval e X.env) :: starEach es X.env := by rfl) (hplain : (backTo cpos (starEach es X.env)).any (·.1) = false := by rfl) :
    PE X (.Call (.Attribute o name apos) (e :: es) [] cpos) (tBM X.K T r to t) := by
  intro pins s σ H Q I h
  refine wpAny_Call_method_late hbase hfew hline rfl (thn (ho pins s σ H _ I h) fun v s1 ⟨x, H1, I1, r1, ty, q1⟩ => ?_)
  obtain ⟨h1, h2⟩ := tyV_is I1 r1 ty
  refine ⟨T, id, pa, slot, hty, h1, h2, ?_⟩
  have hA := ha cpos pins s1 σ H1 _ I1 q1
  rw [hs] at hA ⊢
  refine Calls.callWith_builtin (by show (false || (backTo cpos (starEach es X.env)).any (·.1)) = false; rw [hplain] <;> rfl) (Calls.evalArgs_plain ?_)
  exact thn hA fun us s2 ⟨vs, H2, I2, r2, q2⟩ => hm pins s2 σ H2 x vs v us Q I2 r1 r2 q2
end
end L2
namespace L2
open PySem PySem.Spec PyProof.Rows
def MtM (X : Cx) (id : String) (r : V → List V → Hp → VK → Prop) : Prop :=
  ∀ (pins : List (Addr × Obj)) (s : Shared) (σ : St) (H : Hp) (x : V) (xs : List V) (v : Value) (us : List Value) (Q : VK), Inv X pins σ H s → RelV x v → Vals xs us → r x xs H Q →
    wpAny (model X.prog X.w) X.A (call (.builtin id) (v :: us)) (EP X pins σ Q) X.xe s
theorem Vals.one : ∀ {x : V} {us : List Value}, Vals [x] us → ∃ u, us = [u] ∧ RelV x u
  | _, _, .cons r .nil => ⟨_, rfl, r⟩
theorem Vals.zero : ∀ {us : List Value}, Vals [] us → us = []
  | _, .nil => rfl
section
variable {X : Cx} {pins : List (Addr × Obj)} {σ : St} {H : Hp} {s : Shared} {l b : Addr} {xs ys zs : List V}
theorem Inv.lset {its its' : List Value} {n : Nat} {f : Array Value → Array Value} {t' : Nat} (I : Inv X pins σ H s) (hH : H l = some (.lst xs))
    (e : s.heap.get? l = some { cls := .type "list", data := .seq its.toArray n }) (hf : f its.toArray = its'.toArray) (hv : Vals ys its') (hz : ys.length ≤ sizeLine) :
    Inv X pins σ (upd H l (.lst ys)) { s with heap := s.heap.update l (Obj.mapSeq f), toks := t' } := by
  have q := PySem.IsL.update e f
  rw [hf] at q
  refine I.write (x := l) (e := l) (by rw [hH]; exact trivial) (.inl rfl) (fun b' u hb hu => (Heap.get?_update_other s.heap (Obj.mapSeq f) (Ne.symm hb)).trans hu) ⟨_, q⟩ ?_
  exact ⟨hz, its', _, hv, q⟩
theorem Inv.lnew {its : List Value} {t' : Nat} (I : Inv X pins σ H s) (hv : Vals ys its) (hz : ys.length ≤ sizeLine) :
    Inv X pins σ (upd H s.heap.objs.size (.lst ys)) { s with heap := s.heap.push { cls := .type "list", data := .seq its.toArray }, toks := t' } :=
  I.laid (fun _ _ q => Heap.get?_push_of_some _ q) (Nat.le_refl _) ⟨hz, its, 0, hv, Heap.get?_push_size _ rfl⟩
theorem Inv.fresh (I : Inv X pins σ H s) : H s.heap.objs.size = none := I.hok.fresh (Nat.le_refl _)
theorem Inv.lstM (I : Inv X pins σ H s) (hH : H l = some (.lst xs)) : xs.length ≤ sizeLine ∧ ∃ (its : List Value) (n : Nat), Vals xs its ∧ xs.length = its.length ∧ s.heap.get? l = some { cls := .type "list", data := .seq its.toArray n } := by
  obtain ⟨z, its, n, r, e⟩ := I.hok l _ hH
  exact ⟨z, its, n, r, r.length, e⟩
end
section
variable {X : Cx}
inductive rAppend (x : V) (vs : List V) (H : Hp) (Q : VK) : Prop
  | mk (l : Addr) (xs : List V) (y : V) (h0 : x = .ref l) (h1 : vs = [y]) (h2 : H l = some (.lst xs)) (h3 : xs.length < sizeLine) (h4 : Q .non (upd H l (.lst (xs ++ [y])))) : rAppend x vs H Q
theorem mt_append : MtM X "list.append" rAppend := by
  intro pins s σ H x vs v us Q I rx rv h
  obtain ⟨l, xs, y, rfl, rfl, hH, hz, q⟩ := h
  cases rx
  obtain ⟨u, rfl, ru⟩ := rv.one
  obtain ⟨z, its, n, r, hl, e⟩ := I.lstM hH
  refine call_meets F.slot_list_append ⟨_, e, rfl⟩ F.entry_list_append (F.args_list_append_2 _ _) (PySem.list_append l its.toArray n u (by rw [List.size_toArray]; omega)) ⟨e, ?_⟩
  refine ⟨.non, _, I.lset (its' := its ++ [u]) hH e (by simp) (r.append (.cons ru .nil)) ?_, rfl, q⟩
  rw [List.length_append, List.length_singleton]
  omega
def rExtend : V → List V → Hp → VK → Prop := fun x vs H Q => ∃ l b xs zs, x = .ref l ∧ vs = [.ref b] ∧ H l = some (.lst xs) ∧ H b = some (.lst zs) ∧ xs.length + zs.length ≤ sizeLine ∧ Q .non (upd H l (.lst (xs ++ zs)))
def rPop : V → List V → Hp → VK → Prop := fun x vs H Q => ∃ l xs y, x = .ref l ∧ vs = [] ∧ H l = some (.lst xs) ∧ xs[xs.length - 1]? = some y ∧ Q y (upd H l (.lst xs.dropLast))
def rPopAt : V → List V → Hp → VK → Prop := fun x vs H Q => ∃ l xs i k y, x = .ref l ∧ vs = [.int i] ∧ H l = some (.lst xs) ∧ -(2 ^ 63) ≤ i ∧ i < 2 ^ 63 ∧ seqIndex? i xs.length = some k ∧ xs[k]? = some y ∧ Q y (upd H l (.lst (xs.eraseIdx k)))
def rReverse : V → List V → Hp → VK → Prop := fun x vs H Q => ∃ l xs, x = .ref l ∧ vs = [] ∧ H l = some (.lst xs) ∧ Q .non (upd H l (.lst xs.reverse))
def rClear : V → List V → Hp → VK → Prop := fun x vs H Q => ∃ l xs, x = .ref l ∧ vs = [] ∧ H l = some (.lst xs) ∧ Q .non (upd H l (.lst []))
theorem mt_clear : MtM X "list.clear" rClear := by
  intro pins s σ H x vs v us Q I rx rv h
  obtain ⟨l, xs, rfl, rfl, hH, q⟩ := h
  cases rx
  have hus := rv.zero
  subst hus
  obtain ⟨z, its, n, r, hl, e⟩ := I.lstM hH
  refine call_meets F.slot_list_clear ⟨_, e, rfl⟩ F.entry_list_clear (F.args_list_clear_1 _) (AutoSeq1.list_clear_list_0 l its.toArray n (by rw [List.size_toArray]; omega)) ⟨e, ?_⟩
  exact ⟨.non, _, I.lset (its' := []) (ys := []) hH e rfl .nil (Nat.zero_le _), rfl, q⟩
inductive rCat (x y : V) (H : Hp) (Q : VK) : Prop
  | mk (l b : Addr) (xs zs : List V) (h0 : x = .ref l) (h1 : y = .ref b) (h2 : H l = some (.lst xs)) (h3 : H b = some (.lst zs)) (h4 : xs.length + zs.length ≤ sizeLine) (h5 : ∀ p, H p = none → Q (.ref p) (upd H p (.lst (xs ++ zs)))) : rCat x y H Q
theorem op_cat : OpR X (binaryOp .Add) rCat := by
  intro pins s σ H x y v u Q I rx ry h
  obtain ⟨l, b, xs, zs, rfl, rfl, hH, hB, hz, q⟩ := h
  cases rx
  cases ry
  obtain ⟨z, its, n, r, hl, e⟩ := I.lstM hH
  obtain ⟨z2, its2, n2, r2, hl2, e2⟩ := I.lstM hB
  refine PySem.P.add_list e e2 ?_ (by rw [List.size_toArray, List.size_toArray]; omega)
  have ea : its.toArray ++ its2.toArray = (its ++ its2).toArray := by simp
  rw [ea]
  exact ⟨.ref _, _, I.lnew (t' := s.toks) (r.append r2) (by rw [List.length_append]; omega), rfl, q _ I.fresh⟩
def rRep : R2 := fun x y H Q => ∃ l k xs, x = .ref l ∧ y = .int k ∧ H l = some (.lst xs) ∧ -(2 ^ 63) ≤ k ∧ k < 2 ^ 63 ∧ xs.length * k.toNat ≤ sizeLine ∧
  ∀ p, H p = none → Q (.ref p) (upd H p (.lst (List.replicate k.toNat xs).flatten))
end
section
variable {prog : Program} {w : World} {A : Around} {E : Value → Shared → Prop} {s : Shared}
set_option maxRecDepth 100000 in
end
section
variable {X : Cx}
end
end L2
namespace Att
open PySem PySem.W PySem.Calls PyProof.Rows
theorem ints_of_wellAll {P : Params} {h : Heap} : ∀ (ns : List Int) (vs : List Value), WellAll P h vs (ns.map WData.int) → IntsAre vs ns := by
  intro ns
  induction ns with
  | nil =>
    intro vs w
    rw [List.map_nil] at w
    cases w
    exact .nil
  | cons n ns ih =>
    intro vs w
    rw [List.map_cons] at w
    cases w with
    | cons a b =>
      cases a
      exact .cons _ _ (ih _ b)
theorem script_of {l : OpenLaw} {n : Nat} (hn : l.most = some n) {P : Params} {h : Heap} {args : List WData} {vals : List Value}
    (hpre : l.row.toRowW.claim.pre args = true) (hwl : WellAll P h vals args) :
    ∃ a vs ns, vals = [Value.ref a] ∧ args = [WData.list (ns.map WData.int)] ∧ h.get? a = some { cls := .type "list", data := .seq vs.toArray } ∧ IntsAre vs ns ∧ ns.length ≤ n := by
  have hsh : WShape.hasAll [] args [.list .int] = true := (pre_splitW hpre).1
  have hc : l.pre.holds [] { args := args } = true := (pre_splitW hpre).2
  obtain ⟨d, r, rfl, h1, h2⟩ := hasAllW_cons hsh
  obtain rfl := hasAllW_nil h2
  obtain ⟨xs, rfl, h3⟩ := hasW_list h1
  obtain ⟨ns, rfl⟩ := items_int h3
  have hlen : ns.length ≤ n := by
    unfold OpenLaw.pre at hc
    have h4 : (WTm.not (.lt (.lit (.int (n : Int))) (.len (.arg 0)))).holds [] { args := [.list (ns.map .int)] } = true := by
      have h4 := (holds_andW hc).1
      rw [hn] at h4
      exact h4
    have h5 := condW_of h4 (w_not (w_lt w_lit (w_len_list (w_arg rfl))))
    rw [List.length_map] at h5
    refine Nat.le_of_not_lt fun q => ?_
    have q' : (n : Int) < ((ns.length : Nat) : Int) := by omega
    first
      | (rw [decide_eq_true q'] at h5; exact absurd h5 (by decide))
      | (simp at h5; omega)
  cases hwl with
  | cons w1 w2 =>
    cases w2
    cases w1 with
    | list ho hall => exact ⟨_, _, ns, rfl, rfl, ho, ints_of_wellAll ns _ hall, hlen⟩
theorem post_true (l : OpenLaw) (args : List WData) : l.row.toRowW.claim.post args (.bool true) args = true :=
  postW_of (r := l.row.toRowW) (X := (true == true))
    (show WShape.has [] (.bool true) .bool = true by first | rfl | decide | simp [WShape.has, WShape.arms, WShape.armsAll])
    (show (WTm.eq .res (.lit (.bool true))).value [] { args := args, res := some (.bool true), after := args } = some (.bool (true == true)) from w_eq_bool (w_res rfl) w_lit) rfl
theorem attach_call {l : OpenLaw} {n : Nat} {q : Program} {loose : List Str} {XP : (Str → Option Value) → Heap → Prop} {YP : World → Heap → Prop} {d : DefRec}
    (hn : l.most = some n) (hdf : d.params.defaults = [])
    (call : ∀ (w : World) (s₀ s₁ : Shared) (mg mb : Str → Option Value) (fa : Addr) (o : Obj) (pm cd doc : Value) (a : Addr) (vs : List Value) (ns : List Int),
      Ground q loose [] XP w s₀ mg mb s₁.heap → YP w s₁.heap →
      s₁.heap.get? fa = some o → o.data = .func (docDef d.name d.params d.body d.scope pm cd doc) → s₁.heap.CodeRec cd d.name → mg d.name = some (.ref fa) →
      s₁.heap.get? a = some { cls := .type "list", data := .seq vs.toArray } → IntsAre vs ns → ns.length ≤ n → s₁.gens = #[] →
      codeAny (model l.prog w) callerA (.call (.ref fa) ⟨[.ref a], []⟩) (fun r s' => r = .ok (.ret (.bool true)) ∧ OldK s₁.heap s'.heap ∧ s'.os = s₁.os ∧ AllBare s'.gens) s₁) :
    WalkO q loose XP YP l.row.toRowW d [] (fun f vs => PySem.call f vs) := by
  intro w s₀ s₁ mg mb G Y fa o pm cd doc dV kV ho hd hcd hD hmg hg args vals as hpre hlay hrd hwl hlo
  obtain rfl : dV = .none := Dflts.none hD hdf
  obtain rfl : kV = .none := Dflts.noKw hD
  obtain ⟨a, vs, ns, rfl, rfl, hobj, hints, hlen⟩ := script_of hn hpre hwl
  refine enter_call (codeAny_mono (call w s₀ s₁ mg mb fa o pm cd doc a vs ns G Y ho (fd_plain hd) hcd hmg hobj hints hlen hg) fun r s' hq => ?_)
  obtain ⟨rfl, h2, h3, h4⟩ := hq
  exact ⟨.inl ⟨.bool true, .bool true, [], rfl, fun _ => rfl, .bool true, post_true l _, fun _ => ⟨List.Pairwise.nil, fun _ hm => (nomatch hm)⟩⟩, h2, h3, h4⟩
section
variable {prog : Program} {w : World} {A : Around} {E : Value → Shared → Prop} {s : Shared} {K : Frag}
def noObjs (h : Heap) : Heap := { h with objs := #[] }
def ledger (h : Heap) (L d : Addr) : List (Addr × Obj) := (List.range h.objs.size).filterMap fun a => if a = L ∨ a = d then none else (h.get? a).map fun o => (a, o)
end
end Att
namespace L2
open PySem PySem.Spec PyProof.Rows
theorem vals_ints : ∀ {vs : List Value} {ns : List Int}, IntsAre vs ns → Vals (ns.map V.int) vs
  | _, _, .nil => .nil
  | _, _, .cons n t h => .cons ⟨t, rfl⟩ (vals_ints h)
def Only (H : Hp) : Prop := ∀ b, H b = none ∨ ∃ o xs, H b = some (.frz o (.lst xs))
end L2
namespace L2
open PySem PySem.Spec PyProof.Rows
abbrev KOf {K : PySem.W.Frag} {h : Heap} (_ : K.In h) : PySem.W.Frag := K
end L2
namespace L2
open PySem PySem.Spec PyProof.Rows
def inClass (s : Stmt) (j : Nat) : Stmt := match s with
  | .ClassDef _ _ _ body _ _ _ _ _ _ _ => body.getD j (.Pass ⟨0, 0, 0, 0⟩)
  | _ => .Pass ⟨0, 0, 0, 0⟩
def defArgs (s : Stmt) : Arguments := match s with
  | .FunctionDef _ a _ _ _ _ _ _ _ _ => a
  | _ => { posonlyargs := [], args := [], vararg := none, kwonlyargs := [], kw_defaults := [], kwarg := none, defaults := [] }
def defBody (s : Stmt) : List Stmt := match s with
  | .FunctionDef _ _ b _ _ _ _ _ _ _ => b
  | _ => []
def defScope (s : Stmt) : Scope := match s with
  | .FunctionDef _ _ _ _ _ _ sc _ _ _ => sc
  | _ => { kind := .function, names := [], isGenerator := false, isCoroutine := false }
abbrev CX0 : CXT := fun _ _ _ _ _ _ => False
abbrev E0 : XK := fun _ _ _ => False
theorem pass0 {X : Cx} : Passes CX0 X E0 := fun _ _ _ _ _ _ _ h => h.elim
structure Fun (K : PySem.W.Frag) (x qual : Str) (st : Stmt) (f : Addr) (fd : FuncData) : Prop where
  ex : ∃ (oc : Value) (od : Option Addr) (kV doc pm : Value) (an : Option Addr) (cdv ct : Value) (osl : Array (Option Value)),
    fd = PySem.W.fnOf x qual (defArgs st) (defBody st) (defScope st) .none kV doc pm an cdv ct ∧ K.lookup f = some ⟨oc, od, .func fd, osl⟩ ∧ PySem.W.codeIn K cdv qual = true
  kp : PySem.W.keepIn K (.ref f) = true
section
variable {P : Program} {w : World} {K : PySem.W.Frag} {mg : Str → Option Value} {base : Heap}
theorem Fun.ok {x qual : Str} {st : Stmt} {f : Addr} {fd : FuncData} {N ps : List Str} {k : Nat} {sp : Sp} (F : Fun K x qual st f fd) (S : FnScope N ps (defScope st)) (len : ∀ vs H Q E, sp vs H Q E → vs.length = ps.length)
    (hbody : ∀ (cdv : Value) (A : Around) (outer : List Env) (s : Shared) (H : Hp) (vs : List V) (Q : VK) (E : XK), Room k (A.deeper (envOfC qual (defScope st) s.heap.objs.size f cdv)) → sp vs H Q E →
      ∃ t, PSs (cxOf CX0 P w K mg base N qual (defScope st) f cdv A outer s H E).nox (defBody st) t ∧ t { nx := fun _ H' => Q .non H', rt := Q } (start N vs) H) : FnOk P w K mg base CX0 (k + 1) f fd ps sp := by
  obtain ⟨oc, od, kV, doc, pm, an, cdv, ct, osl, rfl, lk, hcd⟩ := F.ex
  refine fn_of lk hcd S len fun A outer s H vs Q E hr hsp => ?_
  obtain ⟨t, h, q⟩ := hbody cdv A outer s H vs Q E hr hsp
  exact ⟨t, h.nox, q⟩
theorem Fun.binds {x qual : Str} {st : Stmt} {f : Addr} {fd : FuncData} {ps : List Str} (F : Fun K x qual st f fd)
    (h : ∀ (kV doc pm : Value) (an : Option Addr) (cdv ct : Value) (us : List Value), us.length = ps.length → bindArgs (PySem.W.fnOf x qual (defArgs st) (defBody st) (defScope st) .none kV doc pm an cdv ct) ⟨us, []⟩ = pure (ps.zip us)) : Binds K fd ps [] := by
  obtain ⟨oc, od, kV, doc, pm, an, cdv, ct, osl, rfl, lk, hcd⟩ := F.ex
  exact .all (h kV doc pm an cdv ct)
theorem fun_mk {x qual : Str} {st : Stmt} {f : Addr} {oc : Value} {od an : Option Addr} {osl : Array (Option Value)} {kV doc pm cdv ct : Value} (l : K.lookup f = some ⟨oc, od, .func (PySem.W.fnOf x qual (defArgs st) (defBody st) (defScope st) .none kV doc pm an cdv ct), osl⟩)
    (c : PySem.W.codeIn K cdv qual = true) (k : PySem.W.keepIn K (.ref f) = true) : Fun K x qual st f (PySem.W.fnOf x qual (defArgs st) (defBody st) (defScope st) .none kV doc pm an cdv ct) := ⟨⟨oc, od, kV, doc, pm, an, cdv, ct, osl, rfl, l, c⟩, k⟩
end
section
variable {X : Cx}
end
theorem iteF {A B : Prop} (h : B) : if false = true then A else B := by
  rw [if_neg Bool.false_ne_true]
  exact h
theorem ite2 {c A B : Prop} [Decidable c] (h1 : c → A) (h2 : ¬ c → B) : if c then A else B := by
  by_cases h : c
  · rw [if_pos h]
    exact h1 h
  · rw [if_neg h]
    exact h2 h
theorem iteNS {c A B : Prop} [Decidable c] (hc : c) (h : B) : if (!decide c) = true then A else B := by
  rw [decide_eq_true hc]
  exact iteF h
def Same (H H' : Hp) : Prop := ∀ b o, H b = some o → H' b = some o
theorem Same.trans {H H1 H2 : Hp} (a : Same H H1) (b : Same H1 H2) : Same H H2 := fun c o h => b c o (a c o h)
end L2
set_option Elab.async false
set_option linter.all false
set_option maxRecDepth 100000
set_option maxHeartbeats 4000000
namespace L2
open PySem PySem.Spec PyProof.Rows
def Its (x : Str) : It := ⟨fun i _ => i < x.cps.size, fun i H y H' => H' = H ∧ ∃ c, x.cps[i]? = some c ∧ y = .str ⟨#[c]⟩, fun i _ => x.cps.size ≤ i⟩
theorem turn_str {P : Program} {w : World} {K : PySem.W.Frag} {tg : Expr} (x : Str) (it : Addr) {ty : String} {t : Tok} (hty : ty = "str_ascii_iterator" ∨ ty = "str_iterator") :
    Turn P w K tg (Its x) [it] it (fun i h => h.IsStrIter it ty x t i) where
  mem := by simp
  obj := fun i h st b hb => by
    have e : b = it := by simpa using hb
    subst e
    obtain ⟨o, e, c, d⟩ := st
    exact ⟨o, e, fun v z => by rw [d] at z; cases z⟩
  keep := fun i h h' st k => by
    obtain ⟨o, e, r⟩ := st
    exact ⟨o, k it (by simp) o e, r⟩
  item := by
    intro X hP hw hK hc i pins s σ H E I hf st hg
    subst hP hw hK
    have hi : i < x.cps.size := hg
    obtain ⟨f0, f1, f2, f3, f4, f5⟩ := hf it (by simp)
    rcases hty with rfl | rfl
    · refine wpAny_pyNext_ascii_item st (c := x.cps[i]) (by simp [hi]) fun h' st' sb => ?_
      have I1 : Inv X pins σ H { s with heap := h', toks := s.toks + 1 } := I.turned (fun b o hb e => (sb.2 b hb).trans e) f0 f1 f3 f4 f5
      obtain ⟨o, e, c, d⟩ := id st'
      exact ⟨_, rfl, go_of (s := { s with heap := h', toks := s.toks + 1 }) e c d (by decide) ⟨.str ⟨#[x.cps[i]]⟩, H, I1, ⟨_, rfl⟩, ⟨rfl, x.cps[i], by simp [hi], rfl⟩, st', fun b hb => (hf b hb).1⟩⟩
    · refine wpAny_pyNext_wide_item st (c := x.cps[i]) (by simp [hi]) fun h' st' sb => ?_
      have I1 : Inv X pins σ H { s with heap := h', toks := s.toks + 1 } := I.turned (fun b o hb e => (sb.2 b hb).trans e) f0 f1 f3 f4 f5
      obtain ⟨o, e, c, d⟩ := id st'
      exact ⟨_, rfl, go_of (s := { s with heap := h', toks := s.toks + 1 }) e c d (by decide) ⟨.str ⟨#[x.cps[i]]⟩, H, I1, ⟨_, rfl⟩, ⟨rfl, x.cps[i], by simp [hi], rfl⟩, st', fun b hb => (hf b hb).1⟩⟩
  done := by
    intro X hP hw hK hc i pins s σ H E I hf st hg
    subst hP hw hK
    have hi : x.cps.size ≤ i := hg
    obtain ⟨f0, f1, f2, f3, f4, f5⟩ := hf it (by simp)
    rcases hty with rfl | rfl
    · exact wpAny_pyNext_ascii_end (I.ok.hd hc) st (by simp [hi]) fun h' eb => ⟨rfl, I.turned (t' := s.toks) (fun b o hb e => eb b o hb e) f0 f1 f3 f4 f5⟩
    · exact wpAny_pyNext_wide_end (I.ok.hd hc) st (by simp [hi]) fun h' eb => ⟨rfl, I.turned (t' := s.toks) (fun b o hb e => eb b o hb e) f0 f1 f3 f4 f5⟩
  self := fun _ _ _ _ _ st h => by
    rcases hty with rfl | rfl
    · exact wpAny_pyIter_striter_ascii st h
    · exact wpAny_pyIter_striter_wide st h
def iStr (tl : TE) : TI := fun σ H R => tl σ H fun x H1 => ∃ z, x = .str z ∧ R (Its z) H1
theorem pi_str {X : Cx} {tg l : Expr} {tl : TE} (hl : PE X l tl) : PI X tg l (iStr tl) := by
  intro pins s σ H R I h
  refine thn (hl pins s σ H _ I h) fun v s1 ⟨x, H1, I1, r1, q1⟩ => ?_
  obtain ⟨z, e, q⟩ := q1
  subst e
  obtain ⟨t, rfl⟩ := r1
  refine wpAny_pyIter_strU ?_
  refine ⟨s1.heap.objs.size, [s1.heap.objs.size], _, _, H1, rfl, I1.kept (t' := s1.toks) fun b o e => Heap.get?_push_of_some _ e, turn_str (ty := strIterType z) (t := t) z _ ?_, ⟨_, Heap.get?_push_size _ rfl, rfl, rfl⟩, fun b hb => ?_, q⟩
  · unfold strIterType
    split
    · exact .inl rfl
    · exact .inr rfl
  · have e : b = s1.heap.objs.size := by simpa using hb
    subst e
    exact I1.fpOk (Nat.le_refl _) (I1.hok.fresh (Nat.le_refl _))
end L2
set_option Elab.async false
set_option linter.all false
set_option maxRecDepth 100000
set_option maxHeartbeats 4000000
namespace L2
open PySem PySem.Spec PyProof.Rows
def Wk : St → St → Prop
  | [], [] => True
  | Option.none :: r, _ :: q => Wk r q
  | some a :: r, b :: q => b = some a ∧ Wk r q
  | _, _ => False
theorem Wk.len : ∀ {a b : St}, Wk a b → a.length = b.length
  | [], [], _ => rfl
  | Option.none :: r, _ :: q, h => congrArg (· + 1) (Wk.len (a := r) (b := q) h)
  | some _ :: r, _ :: q, h => congrArg (· + 1) (Wk.len (a := r) (b := q) h.2)
  | [], _ :: _, h => h.elim
  | Option.none :: _, [], h => h.elim
  | some _ :: _, [], h => h.elim
theorem Wk.get : ∀ {a b : St}, Wk a b → ∀ (i : Nat) v, a[i]? = some (some v) → b[i]? = some (some v)
  | [], [], _, i, v, e => by simp at e
  | Option.none :: r, y :: q, h, 0, v, e => by simp at e
  | Option.none :: r, y :: q, h, i + 1, v, e => by simpa using Wk.get (a := r) (b := q) h i v (by simpa using e)
  | some x :: r, y :: q, h, 0, v, e => by
    have e' : x = v := by simpa using e
    rw [h.1, e'] <;> simp
  | some x :: r, y :: q, h, i + 1, v, e => by simpa using Wk.get (a := r) (b := q) h.2 i v (by simpa using e)
  | [], _ :: _, h, _, _, _ => h.elim
  | Option.none :: _, [], h, _, _, _ => h.elim
  | some _ :: _, [], h, _, _, _ => h.elim
def clOf (cells : List (Str × Addr)) : List (Str × NameKind) → List (Str × Addr) → List (Str × Addr)
  | [], acc => acc
  | (n, k) :: r, acc => if k == .free then clOf cells r ((n, (cells.lookup n).getD 0) :: acc) else clOf cells r acc
theorem closureFor_clOf {sc : Scope} {env : Env} (h : ∀ y ∈ sc.names, y.2 = .free → ∃ c, env.cells.lookup y.1 = some c) : closureFor sc env = pure (clOf env.cells sc.names []) := by
  unfold closureFor
  have key : ∀ (l : List (Str × NameKind)) (acc : List (Str × Addr)), (∀ y ∈ l, y.2 = .free → ∃ c, env.cells.lookup y.1 = some c) →
      (forIn l acc fun x r => match x with | (name, kind) => if (kind == .free) = true then do let a ← cellOf env name; pure (ForInStep.yield ((name, a) :: r)) else pure (ForInStep.yield r) : Sem (List (Str × Addr))) = pure (clOf env.cells l acc) := by
    intro l
    induction l with
    | nil => intro acc _; rfl
    | cons y r ih =>
      intro acc hy
      obtain ⟨n, k⟩ := y
      have hr : ∀ y ∈ r, y.2 = .free → ∃ c, env.cells.lookup y.1 = some c := fun y hm => hy y (List.mem_cons_of_mem _ hm)
      rw [List.forIn_cons]
      by_cases hk : k = .free
      · subst hk
        obtain ⟨c, hc⟩ := hy (n, .free) List.mem_cons_self rfl
        have e1 : cellOf env n = pure c := by unfold cellOf; rw [hc]
        have e2 : clOf env.cells ((n, .free) :: r) acc = clOf env.cells r ((n, c) :: acc) := by
          show (if (NameKind.free == NameKind.free) = true then clOf env.cells r ((n, (env.cells.lookup n).getD 0) :: acc) else clOf env.cells r acc) = _
          rw [if_pos (by decide), hc]; rfl
        rw [e2, ← ih ((n, c) :: acc) hr]
        show (do let x ← (if (NameKind.free == NameKind.free) = true then do let a ← cellOf env n; pure (ForInStep.yield ((n, a) :: acc)) else pure (ForInStep.yield acc) : Sem _); _) = _
        rw [if_pos (by decide), e1]
        rfl
      · have hb : (k == NameKind.free) = false := by simpa using hk
        have e2 : clOf env.cells ((n, k) :: r) acc = clOf env.cells r acc := by
          show (if (k == NameKind.free) = true then clOf env.cells r ((n, (env.cells.lookup n).getD 0) :: acc) else clOf env.cells r acc) = _
          rw [hb]; rfl
        rw [e2, ← ih acc hr]
        show (do let x ← (if (k == NameKind.free) = true then do let a ← cellOf env n; pure (ForInStep.yield ((n, a) :: acc)) else pure (ForInStep.yield acc) : Sem _); _) = _
        rw [hb]
        rfl
  have := key sc.names [] h
  first | exact this | (rw [this]; rfl) | simpa using this
theorem clOf_lookup {cells : List (Str × Addr)} : ∀ {l : List (Str × NameKind)} {acc : List (Str × Addr)} {n : Str} {c : Addr}, (∀ y ∈ l, y.2 = .free → ∃ c, cells.lookup y.1 = some c) → (∀ n c, acc.lookup n = some c → cells.lookup n = some c) →
    (clOf cells l acc).lookup n = some c → cells.lookup n = some c
  | [], acc, n, c, _, ha, e => ha n c e
  | (m, k) :: r, acc, n, c, hl, ha, e => by
    have hr : ∀ y ∈ r, y.2 = .free → ∃ c, cells.lookup y.1 = some c := fun y hm => hl y (List.mem_cons_of_mem _ hm)
    have e' : (if (k == NameKind.free) = true then clOf cells r ((m, (cells.lookup m).getD 0) :: acc) else clOf cells r acc).lookup n = some c := e
    by_cases hk : (k == NameKind.free) = true
    · rw [if_pos hk] at e'
      refine clOf_lookup hr (fun n c z => ?_) e'
      obtain ⟨d, hd⟩ := hl (m, k) List.mem_cons_self (by simpa using hk)
      rw [List.lookup_cons] at z
      by_cases hn : (n == m) = true
      · rw [hn] at z
        have : n = m := by simpa using hn
        subst this
        have hd' : cells.lookup n = some d := hd
        rw [hd'] at z ⊢
        simpa using z
      · have hn' : (n == m) = false := by simpa using hn
        rw [hn'] at z
        exact ha n c z
    · rw [if_neg hk] at e'
      exact clOf_lookup hr ha e'
theorem clOf_some {cells : List (Str × Addr)} : ∀ {l : List (Str × NameKind)} {acc : List (Str × Addr)} {n : Str}, ((n, NameKind.free) ∈ l ∨ ∃ c, acc.lookup n = some c) → ∃ c, (clOf cells l acc).lookup n = some c
  | [], acc, n, h => by
    rcases h with h | h
    · cases h
    · exact h
  | (m, k) :: r, acc, n, h => by
    show ∃ c, (if (k == NameKind.free) = true then clOf cells r ((m, (cells.lookup m).getD 0) :: acc) else clOf cells r acc).lookup n = some c
    have hcons : ∀ a, n = m ∨ (∃ c, acc.lookup n = some c) → ∃ c, ((m, a) :: acc).lookup n = some c := fun a z => by
      rw [List.lookup_cons]
      by_cases hn : (n == m) = true
      · rw [hn]; exact ⟨_, rfl⟩
      · have hn' : (n == m) = false := by simpa using hn
        rw [hn']
        rcases z with z | z
        · exact absurd (by simpa using z) hn
        · exact z
    by_cases hk : (k == NameKind.free) = true
    · rw [if_pos hk]
      refine clOf_some ?_
      rcases h with h | h
      · rcases List.mem_cons.mp h with e | h
        · exact .inr (hcons _ (.inl (congrArg Prod.fst e)))
        · exact .inl h
      · exact .inr (hcons _ (.inr h))
    · rw [if_neg hk]
      refine clOf_some ?_
      rcases h with h | h
      · rcases List.mem_cons.mp h with e | h
        · have : k = .free := (congrArg Prod.snd e).symm
          rw [this] at hk
          exact absurd (by decide) hk
        · exact .inl h
      · exact .inr h
def rlb (env : Env) (p : Str × NameKind) : Str × NameKind := if (p.2 == NameKind.free && env.scope.kind == ScopeKind.function && env.kindOf p.1 == some NameKind.cell) = true then (p.1, NameKind.cell) else p
theorem relabel_names (sc : Scope) (env : Env) : (relabel sc env).names = sc.names.map (rlb env) := rfl
theorem rlb_fst (env : Env) (p : Str × NameKind) : (rlb env p).1 = p.1 := by
  unfold rlb
  split <;> rfl
theorem rlb_free {env : Env} {p : Str × NameKind} (h : p.2 ≠ .cell) (h2 : (rlb env p).2 = .cell ∨ (rlb env p).2 = .free) : p.2 = .free := by
  unfold rlb at h2
  split at h2
  · rename_i q
    rw [Bool.and_eq_true, Bool.and_eq_true] at q
    simpa using q.1.1
  · rcases h2 with h2 | h2
    · exact absurd h2 h
    · exact h2
theorem relabel_free' {env : Env} : ∀ {names : List (Str × NameKind)} {x : Str} {k : NameKind}, (∀ y ∈ names, y.2 ≠ .cell) → (k = .cell ∨ k = .free) → (names.map (rlb env)).lookup x = some k → (x, NameKind.free) ∈ names
  | [], x, k, _, _, e => by simp at e
  | p :: r, x, k, hc, hk, e => by
    have hr : ∀ y ∈ r, y.2 ≠ .cell := fun y hm => hc y (List.mem_cons_of_mem _ hm)
    have e0 : rlb env p = (p.1, (rlb env p).2) := by rw [← rlb_fst env p]
    rw [List.map_cons, e0, List.lookup_cons] at e
    by_cases hx : x = p.1
    · have hb : (x == p.1) = true := by simpa using hx
      rw [hb] at e
      have e2 : (rlb env p).2 = k := Option.some.inj e
      have hj := rlb_free (env := env) (hc p List.mem_cons_self) (by rw [e2]; exact hk)
      have : (x, NameKind.free) = p := by rw [hx, ← hj]
      rw [this]
      exact List.mem_cons_self
    · have hb : (x == p.1) = false := by simpa using hx
      rw [hb] at e
      exact List.mem_cons_of_mem _ (relabel_free' hr hk e)
theorem relabel_free {env : Env} {sc : Scope} {x : Str} {k : NameKind} (hc : ∀ y ∈ sc.names, y.2 ≠ .cell) (hk : k = .cell ∨ k = .free) (e : (relabel sc env).names.lookup x = some k) : (x, NameKind.free) ∈ sc.names :=
  relabel_free' (env := env) hc hk (by rw [← relabel_names]; exact e)
def blkS (ix : List (Option Nat)) (σ : St) : St := ix.map fun o => o.bind fun i => (σ[i]?).join
def FreeOk (XN : List Str) (env : Env) (sc : Scope) : List Str → List (Option Nat) → Prop
  | [], [] => True
  | _ :: N, Option.none :: ix => FreeOk XN env sc N ix
  | y :: N, some i :: ix => XN[i]? = some y ∧ env.kindOf y = some .cell ∧ (relabel sc env).names.lookup y = some .cell ∧ FreeOk XN env sc N ix
  | _, _ => False
theorem FreeOk.len {XN : List Str} {env : Env} {sc : Scope} : ∀ {N : List Str} {ix : List (Option Nat)}, FreeOk XN env sc N ix → ix.length = N.length
  | [], [], _ => rfl
  | _ :: N, Option.none :: ix, h => congrArg (· + 1) (FreeOk.len (N := N) (ix := ix) h)
  | _ :: N, some _ :: ix, h => congrArg (· + 1) (FreeOk.len (N := N) (ix := ix) h.2.2.2)
  | [], _ :: _, h => h.elim
  | _ :: _, [], h => h.elim
theorem FreeOk.get {XN : List Str} {env : Env} {sc : Scope} : ∀ {N : List Str} {ix : List (Option Nat)}, FreeOk XN env sc N ix → ∀ (j : Nat) (y : Str) (i : Nat), N[j]? = some y → ix[j]? = some (some i) →
    XN[i]? = some y ∧ env.kindOf y = some .cell ∧ (relabel sc env).names.lookup y = some .cell
  | [], [], _, j, y, i, e, _ => by simp at e
  | _ :: N, Option.none :: ix, h, 0, y, i, e, e2 => by simp at e2
  | _ :: N, Option.none :: ix, h, j + 1, y, i, e, e2 => FreeOk.get (N := N) (ix := ix) h j y i (by simpa using e) (by simpa using e2)
  | z :: N, some k :: ix, h, 0, y, i, e, e2 => by
    have e' : z = y := by simpa using e
    have e2' : k = i := by simpa using e2
    subst e'; subst e2'
    exact ⟨h.1, h.2.1, h.2.2.1⟩
  | _ :: N, some _ :: ix, h, j + 1, y, i, e, e2 => FreeOk.get (N := N) (ix := ix) h.2.2.2 j y i (by simpa using e) (by simpa using e2)
  | [], _ :: _, h, _, _, _, _, _ => h.elim
  | _ :: _, [], h, _, _, _, _, _ => h.elim
def cxB (X : Cx) (sc : Scope) (C : Addr) (N : List Str) (s₀ : Shared) (H₀ : Hp) (fp : List Addr) : Cx :=
  { X with N := N, s₀ := s₀, H₀ := H₀, env := compEnvC sc (clOf X.env.cells sc.names []) C X.env, outer := X.stack, ex := fp, fn := fun _ => false, pn := [], xe := fun _ _ => False }
structure CompOk (X : Cx) (sc : Scope) (N : List Str) (ix : List (Option Nat)) : Prop where
  kind : sc.kind = .function
  nocell : (sc.names.all fun y => y.2 != .cell) = true
  names : (sc.names.all fun y => y.2 != .local || sc.names.lookup y.1 == some .local) = true
  free : (sc.names.all fun y => y.2 != .free || X.env.scope.names.lookup y.1 == some .cell) = true
  fr : FreeOk X.N X.env sc N ix
section
variable {X : Cx} {sc : Scope} {N : List Str} {ix : List (Option Nat)} {pins : List (Addr × Obj)} {σ : St} {H : Hp} {s : Shared}
theorem CompOk.cells (c : CompOk X sc N ix) (ok : X.Ok) : ∀ y ∈ sc.names, y.2 = .free → ∃ c, X.env.cells.lookup y.1 = some c := fun y hy e => by
  have h := List.all_eq_true.mp c.free y hy
  rw [e] at h
  have h' : X.env.scope.names.lookup y.1 = some .cell := by simpa using h
  exact ok.has y.1 (.inl h')
theorem CompOk.nc (c : CompOk X sc N ix) : ∀ y ∈ sc.names, y.2 ≠ .cell := fun y hy => by simpa using List.all_eq_true.mp c.nocell y hy
theorem CompOk.nm (c : CompOk X sc N ix) : ∀ y ∈ sc.names, y.2 = .local → sc.names.lookup y.1 = some .local := fun y hy e => by
  have h := List.all_eq_true.mp c.names y hy
  rw [e] at h
  simpa using h
theorem inv_block {C : Addr} {fp : List Addr} {h₁ : Heap} {t' : Nat} (c : CompOk X sc N ix) (I : Inv X pins σ H s) (hf : ∀ b ∈ fp, FpOk X pins H b) (hfp : ∀ b ∈ fp, b < s.heap.objs.size) (hC : s.heap.objs.size ≤ C)
    (hn : h₁.Ns C (fun _ => none)) (old : ∀ b o, s.heap.get? b = some o → h₁.get? b = some o) : Inv (cxB X sc C N s H fp) [] (blkS ix σ) H { s with heap := h₁, toks := t' } := by
  have hcells := c.cells I.ok
  have sub : ∀ n c, (clOf X.env.cells sc.names []).lookup n = some c → X.env.cells.lookup n = some c := fun n c e => clOf_lookup hcells (fun n c z => by simp at z) e
  refine ⟨⟨I.ok.mod, c.kind, I.ok.glob, I.ok.blt, hC, fun x y d h1 h2 => I.ok.inj x y d (sub x d h1) (sub y d h2), fun x hx => ?_, fun x d z => absurd z (by simp [cxB]), I.ok.hd, I.ok.frames, .inl rfl, fun b hb => ⟨?_, fun x d e => ?_⟩, I.bs, Nat.le_trans I.ok.bsz I.sz, fun b o e hb => ?_, fun b hb hs => ?_, I.stack, I.stkFree⟩,
    rfl, I.bare, Un.kept old, ⟨_, hn, fun j y v e1 e2 e3 => ?_⟩, fun x d e => ?_, I.hok.fresh hC, fun x d e => I.freeC x d (sub x d e), fun p hp => absurd (show p ∈ ([] : List (Addr × Obj)) from hp) (by simp), I.hok.kept old, ?_⟩
  · refine clOf_some (.inl ?_)
    rcases hx with hx | hx
    · exact relabel_free c.nc (.inl rfl) (show (relabel sc X.env).names.lookup x = some .cell from hx)
    · exact relabel_free c.nc (.inr rfl) (show (relabel sc X.env).names.lookup x = some .free from hx)
  · exact Nat.ne_of_lt (Nat.lt_of_lt_of_le (hfp b hb) hC)
  · exact (hf b hb).2.2.2.2.1 x d (sub x d e)
  · rcases (hf b hb).2.2.2.1 with z | z
    · exact I.ok.noex b o e z
    · exact absurd (Nat.lt_of_lt_of_le (Heap.lt_size e) (Nat.le_trans I.ok.bsz z)) (Nat.lt_irrefl _)
  · rcases List.mem_cons.mp (I.stkSub b hs) with z | z
    · exact (hf b hb).2.1 z
    · exact (hf b hb).2.2.1 z
  · have hj : ∃ i, ix[j]? = some (some i) ∧ σ[i]? = some (some v) := by
      unfold blkS at e2
      rw [List.getElem?_map] at e2
      cases q : ix[j]? with
      | none => rw [q] at e2; cases e2
      | some o =>
        rw [q] at e2
        cases o with
        | none => cases e2
        | some i =>
          refine ⟨i, rfl, ?_⟩
          have e2' : (σ[i]?).join = some v := Option.some.inj e2
          cases q2 : σ[i]? with
          | none => rw [q2] at e2'; cases e2'
          | some w => rw [q2] at e2'; exact congrArg some e2'
    obtain ⟨i, hi, hv⟩ := hj
    obtain ⟨k1, k2, k3⟩ := c.fr.get j y i e1 hi
    obtain ⟨m, hm, hl⟩ := I.loc
    obtain ⟨u, r, l⟩ := hl i y v k1 hv (.inr (.inl k2))
    refine ⟨u, r, ?_⟩
    rcases l with ⟨z, _⟩ | ⟨_, d, hd, hcell⟩
    · rw [k2] at z; cases z
    · obtain ⟨d', hd'⟩ : ∃ d', (clOf X.env.cells sc.names []).lookup y = some d' := clOf_some (.inl (relabel_free c.nc (.inl rfl) k3))
      have := sub y d' hd'
      rw [hd] at this
      cases this
      exact .inr ⟨.inl k3, d, hd', hcell.keeps old⟩
  · obtain ⟨v, z⟩ := I.cell x d (sub x d e)
    exact ⟨v, z.keeps old⟩
  · show (blkS ix σ).length = N.length
    unfold blkS
    rw [List.length_map, c.fr.len]
theorem inv_unblock {C : Addr} {fp : List Addr} {pins' : List (Addr × Obj)} {σ' : St} {H' : Hp} {s' : Shared} (I : Inv X pins σ H s) (hf : ∀ b ∈ fp, FpOk X pins H b) (J : Inv (cxB X sc C N s H fp) pins' σ' H' s') : Inv X pins σ H' s' := by
  refine I.call' (ch := fp) J.os J.base J.hok J.bare fun b hb => ?_
  obtain ⟨f0, f1, f2, f3, f4, f5⟩ := hf b hb
  exact ⟨f3, f1, f4, f5⟩
end
def PTs (X : Cx) (ifs : List Expr) (t : TT) : Prop :=
  ∀ (pins : List (Addr × Obj)) (s : Shared) (σ : St) (H : Hp) (Q : Bool → Hp → Prop), Inv X pins σ H s → t σ H Q →
    wpAny (model X.prog X.w) X.A (forIn ifs true fun c r => if r = true then do let ok ← isTrue c X.env (eval c X.env); pure (ForInStep.yield ok) else pure (ForInStep.yield r)) (TP X pins σ Q) X.xe s
def tAll : TT := fun _ H Q => Q true H
theorem pts_nil {X : Cx} : PTs X [] tAll := fun _ _ _ H _ I h => wpAny_tests_nil ⟨H, I, h⟩
theorem pts_one {X : Cx} {c : Expr} {t : TT} (h : PT X c t) : PTs X [c] t := fun pins s σ H Q I hw => wpAny_tests_one (h pins s σ H Q I hw)
def CompW (J : It) (D : Addr) (σb : St) (g : TG) (tt : TT) (te : TE) (Q : Hp → List V → Prop) (W : Nat → Nat → List V → Hp → Prop) : Prop :=
  ∀ i m ys H, W i m ys H → H D = some (.lst ys) ∧ ((J.stop i H ∧ Q H ys) ∨ (J.go i H ∧ ∀ x H3, J.yld i H x H3 → g x σb H3 fun σ4 H4 => Wk σb σ4 ∧ tt σ4 H4 fun b H5 =>
    if b = true then te σ4 H5 fun y H6 => H6 D = some (.lst ys) ∧ ys.length < sizeLine ∧ ∃ m', m' < m ∧ W (i + 1) m' (ys ++ [y]) (upd H6 D (.lst (ys ++ [y]))) else ∃ m', m' < m ∧ W (i + 1) m' ys H5))
def tComp (ix : List (Option Nat)) (wi : TI) (g : TG) (tt : TT) (te : TE) : TE := fun σ H Q => wi σ H fun J H1 => ∀ D, H1 D = none → ∃ W, (∃ m, W 0 m [] (upd H1 D (.lst []))) ∧ CompW J D (blkS ix σ) g tt te (fun H _ => Q (.ref D) H) W
section
variable {X : Cx} {sc : Scope} {N : List Str} {ix : List (Option Nat)} {elt tg iter : Expr} {ifs : List Expr} {pos : Pos} {wi : TI} {g : TG} {tt : TT} {te : TE}
structure Blk (X : Cx) (sc : Scope) (N : List Str) (tg elt : Expr) (ifs : List Expr) (g : TG) (tt : TT) (te : TE) : Prop where
  tg : ∀ C s H fp, PG (cxB X sc C N s H fp) tg g
  tests : ∀ C s H fp, PTs (cxB X sc C N s H fp) ifs tt
  elt : ∀ C s H fp, PE (cxB X sc C N s H fp) elt te
theorem comp_loop {J : It} {fp : List Addr} {it D : Addr} {tn : Nat → Heap → Prop} {σb : St} {Q : Hp → List V → Prop} {R : Result → Shared → Prop} {W : Nat → Nat → List V → Hp → Prop}
    (hc : X.calm = true) (hxe : X.xe = fun _ _ => False) (T : Turn X.prog X.w X.K tg J fp it tn) (hg : PG X tg g) (ht : PTs X ifs tt) (he : PE X elt te) (turn : CompW J D σb g tt te Q W)
    (stat : ∀ {H' : Hp}, (∀ b ∈ fp, H' b = none) → ∀ b ∈ fp, FpOk X [] H' b)
    (fin : ∀ {σ' : St} {H' : Hp} {s' : Shared} {ys : List V}, Inv X [] σ' H' s' → Q H' ys → R (.ok .next) s')
    {m0 i0 : Nat} {ys0 : List V} {H0 : Hp} {s0 : Shared} (I0 : Inv X [] σb H0 s0) (st0 : tn i0 s0.heap) (fr0 : ∀ b ∈ fp, H0 b = none) (w0 : W i0 m0 ys0 H0) :
    codeAny (model X.prog X.w) X.A (.compLoop (.ListComp elt [⟨tg, iter, ifs, 0⟩] sc pos) 0 (.ref it) (.ref D) X.env) R s0 := by
  have noE : ∀ {E' : Value → Shared → Prop} (e : Value) (s' : Shared), X.xe e s' → E' e s' := fun {E'} e s' z => by rw [hxe] at z; exact z.elim
  refine codeAny_loop rfl (fun n s' => ∃ i ys H', Inv X [] σb H' s' ∧ tn i s'.heap ∧ (∀ b ∈ fp, H' b = none) ∧ W i n ys H') ?_ m0 ⟨i0, ys0, H0, I0, st0, fr0, w0⟩
  rintro n s3 ⟨i, ys, H3, I3, st3, fr3, w3⟩
  show wpAny _ X.A ((compTurn (.ListComp elt [⟨tg, iter, ifs, 0⟩] sc pos) 0 (.ref it) (.ref D) X.env).onRaise (fun x => do noteFrame x X.env; theTreesLotGoes x)) _ _ s3
  refine wpAny_noted ?_
  rw [compTurn_list]
  refine wpAny_bind (wpAny_standAt (wpAny_bind ?_))
  obtain ⟨hDl, next⟩ := turn i n ys H3 w3
  rcases next with ⟨stop, q⟩ | ⟨go, step⟩
  · refine thn (T.done X rfl rfl rfl hc i [] s3 σb H3 _ I3 (stat fr3) st3 stop) fun r s4 ⟨hr, I4⟩ => ?_
    subst hr
    exact wpAny_pure (fin I4 q)
  · refine thn (T.item X rfl rfl rfl hc i [] s3 σb H3 _ I3 (stat fr3) st3 go) fun r s4 ⟨u, hr, h4⟩ => ?_
    subst hr
    refine wpAny_bind (thn h4 fun _ s5 ⟨x, H5, I5, r5, y5, st5, fr5⟩ => ?_)
    have I5' := I5.pinned (stat fr5) (T.obj _ _ st5)
    have back : ∀ {σ' : St} {H' : Hp} {s' : Shared}, Inv X ([] ++ pinsAt fp s5.heap) σ' H' s' → Wk σb σ' → Inv X [] σb H' s' ∧ tn (i + 1) s'.heap ∧ ∀ b ∈ fp, H' b = none := fun {σ' H' s'} I7 wk => by
      refine ⟨(I7.unpinned).weak wk.len wk.get, T.keep _ _ _ st5 fun b hb o e => (I7.pin (b, o) (List.mem_append_right _ (List.mem_append_right _ (mem_pinsAt hb e)))).1, fun b hb => ?_⟩
      obtain ⟨o, e, d⟩ := T.obj _ _ st5 b hb
      exact (I7.pin (b, o) (List.mem_append_right _ (List.mem_append_right _ (mem_pinsAt hb e)))).2.1
    refine wpAny_bind (wpAny_mono (hg _ s5 σb H5 x u _ I5' r5 (step x H5 y5)) (fun _ s6 ⟨σ6, H6, I6, wk, q6⟩ => ?_) noE)
    refine wpAny_bind (wpAny_mono (ht _ s6 σ6 H6 _ I6 q6) (fun ok s7 ⟨H7, I7, q7⟩ => ?_) noE)
    cases ok with
    | false =>
      obtain ⟨m', hm, w7⟩ := q7
      obtain ⟨b1, b2, b3⟩ := back I7 wk
      exact wpAny_pure ⟨rfl, m', hm, i + 1, ys, H7, b1, b2, b3, w7⟩
    | true =>
      refine wpAny_bind (wpAny_bind (wpAny_mono (he _ s7 σ6 H7 _ I7 q7) (fun v s8 ⟨y, H8, I8, r8, hD8, hl8, m', hm, w8⟩ => ?_) noE))
      refine wpAny_bind (wpAny_mono (mt_append _ s8 σ6 H8 (.ref D) [y] (.ref D) [v] (fun _ H9 => H9 = upd H8 D (.lst (ys ++ [y]))) I8 rfl (.cons r8 .nil) ⟨D, ys, y, rfl, rfl, hD8, hl8, rfl⟩) (fun _ s9 ⟨z, H9, I9, _, e9⟩ => ?_) noE)
      subst e9
      obtain ⟨b1, b2, b3⟩ := back I9 wk
      exact wpAny_pure (wpAny_pure ⟨rfl, m', hm, i + 1, ys ++ [y], _, b1, b2, b3, w8⟩)
theorem comp_core {pins : List (Addr × Obj)} {σ : St} {H : Hp} {s : Shared} {E : Value → Shared → Prop} {RR : Value → Addr → Result → Shared → Prop} {it : Addr} {fp : List Addr} {tn : Nat → Heap → Prop} {J : It} {Q : Addr → Hp → List V → Prop}
    (hc : X.calm = true) (c : CompOk X sc N ix) (B : Blk X sc N tg elt ifs g tt te) (I : Inv X pins σ H s) (T : Turn X.prog X.w X.K tg J fp it tn) (st : tn 0 s.heap) (hf : ∀ b ∈ fp, FpOk X pins H b)
    (h : ∀ D, H D = none → ∃ W, (∃ m, W 0 m [] (upd H D (.lst []))) ∧ CompW J D (blkS ix σ) g tt te (Q D) W)
    (hR : ∀ D C H' s' ys, Inv X pins σ H' s' → FpOk X pins H' C → (∃ m, s'.heap.Ns C m) → Q D H' ys → RR (.ref D) C (.ok .next) s') :
    wpAny (model X.prog X.w) X.A (newList []) (fun acc s₃ => wpAny (model X.prog X.w) X.A (newFunctionEnv sc X.env.globals (clOf X.env.cells sc.names []) [] X.env.qual none .none (some X.env)) (fun cenv s₄ =>
      codeAny (model X.prog X.w) X.A (.compStart (.ListComp elt [⟨tg, iter, ifs, 0⟩] sc pos) 0 (.ref it) acc { cenv with scope := relabel sc X.env }) (RR acc cenv.locals) s₄) E s₃) E s := by
  have hlt : ∀ b ∈ fp, b < s.heap.objs.size := fun b hb => let ⟨o, e, _⟩ := T.obj _ _ st b hb; Heap.lt_size e
  refine wpAny_newObj_type ?_ (by show 0 ≤ sizeLine; exact Nat.zero_le _)
  have hD : H s.heap.objs.size = none := I.hok.fresh (Nat.le_refl _)
  obtain ⟨W, ⟨m0, w0⟩, turn⟩ := h s.heap.objs.size hD
  have I1 : Inv X pins σ (upd H s.heap.objs.size (.lst [])) { s with heap := s.heap.push { cls := .type "list", data := .seq ([] : List Value).toArray } } := I.lnew (t' := s.toks) (its := []) .nil (Nat.zero_le _)
  have k1 : ∀ b o, s.heap.get? b = some o → (s.heap.push { cls := .type "list", data := .seq ([] : List Value).toArray }).get? b = some o := fun b o e => Heap.get?_push_of_some _ e
  have hne : ∀ b ∈ fp, b ≠ s.heap.objs.size := fun b hb => Nat.ne_of_lt (hlt b hb)
  have hf1 : ∀ b ∈ fp, FpOk X pins (upd H s.heap.objs.size (.lst [])) b := fun b hb => ⟨by rw [upd_ne (hne b hb)]; exact (hf b hb).1, (hf b hb).2⟩
  have st1 : tn 0 (s.heap.push { cls := .type "list", data := .seq ([] : List Value).toArray }) := T.keep _ _ _ st fun b _ o e => k1 b o e
  generalize hs1 : ({ s with heap := s.heap.push { cls := .type "list", data := .seq ([] : List Value).toArray } } : Shared) = s1 at I1
  have hs1h : s1.heap = s.heap.push { cls := .type "list", data := .seq ([] : List Value).toArray } := by rw [← hs1]
  generalize hDe : s.heap.objs.size = D at *
  show wpAny _ _ _ _ _ s1
  refine wpAny_newFunctionEnv c.nc (by intro y hy; simp at hy) (fun h₁ hns₁ hsb₁ => ?_) c.kind
  have old : ∀ b o, s1.heap.get? b = some o → h₁.get? b = some o := fun b o e => (hsb₁.2 b (Nat.ne_of_lt (Heap.lt_size e))).trans (Heap.get?_push_of_some _ e)
  have hlt1 : ∀ b ∈ fp, b < s1.heap.objs.size := fun b hb => by
    obtain ⟨o, e, _⟩ := T.obj _ _ st1 b hb
    rw [hs1h]
    exact Heap.lt_size e
  have J0 := inv_block (h₁ := h₁) (t' := s1.toks + ([] : List (Str × Value)).length) c I1 hf1 hlt1 (Nat.le_refl _) (by simpa using hns₁) old
  have stB : tn 0 h₁ := T.keep _ _ _ (by rw [hs1h]; exact st1 : tn 0 s1.heap) fun b _ o e => old b o e
  have fpB : ∀ {H' : Hp}, (∀ b ∈ fp, H' b = none) → ∀ b ∈ fp, FpOk (cxB X sc s1.heap.objs.size N s1 (upd H D (.lst [])) fp) [] H' b := fun {H'} hn b hb => by
    obtain ⟨f0, f1, f2, f3, f4, f5⟩ := hf1 b hb
    refine ⟨hn b hb, Nat.ne_of_lt (hlt1 b hb), ?_, .inl hb, fun x d e => f4 x d (clOf_lookup (c.cells I.ok) (fun n c z => by simp at z) e), fun p hp => absurd (show p ∈ ([] : List (Addr × Obj)) from hp) (by simp)⟩
    intro z
    rcases List.mem_cons.mp (I1.stkSub b z) with q | q
    · exact f1 q
    · exact f2 q
  have fin : ∀ {σ' : St} {H' : Hp} {s' : Shared} {ys : List V}, Inv (cxB X sc s1.heap.objs.size N s1 (upd H D (.lst [])) fp) [] σ' H' s' → Q D H' ys → RR (.ref D) s1.heap.objs.size (.ok .next) s' := fun {σ' H' s' ys} J q =>
    hR D _ H' s' ys (inv_unblock I1 hf1 J) (I1.fpOk (Nat.le_refl _) J.free) (let ⟨m, hn, _⟩ := J.loc; ⟨m, hn⟩) q
  have loop : codeAny (model X.prog X.w) X.A (.compLoop (.ListComp elt [⟨tg, iter, ifs, 0⟩] sc pos) 0 (.ref it) (.ref D) (cxB X sc s1.heap.objs.size N s1 (upd H D (.lst [])) fp).env) (RR (.ref D) s1.heap.objs.size) { s1 with heap := h₁, toks := s1.toks + ([] : List (Str × Value)).length } :=
    comp_loop (X := cxB X sc s1.heap.objs.size N s1 (upd H D (.lst [])) fp) hc rfl T (B.tg _ _ _ _) (B.tests _ _ _ _) (B.elt _ _ _ _) turn fpB fin J0 stB (fun b hb => (hf1 b hb).1) w0
  exact codeAny_compStart_list loop (T.self _ 0 _ _ _ stB loop)
theorem pe_comp (hc : X.calm = true) (c : CompOk X sc N ix) (hi : PI X tg iter wi) (B : Blk X sc N tg elt ifs g tt te) (hs : ∀ x, foldedSetIterable iter X.env x = pure x := by intro _; rfl) : PE X (.ListComp elt [⟨tg, iter, ifs, 0⟩] sc pos) (tComp ix wi g tt te) := by
  intro pins s σ H Q I h
  rw [eval_ListComp]
  refine wpAny_comprehension_free (use := none) rfl hs (closureFor_clOf (c.cells I.ok)) c.kind c.nm (thn (hi pins s σ H _ I h) fun xv s₁ h₁ => thn h₁ fun itv s₂ h₂ => ?_)
  obtain ⟨it, fp, tn, J, H2, e, I2, T, st2, f2, q2⟩ := h₂
  subst e
  refine comp_core (RR := fun acc C => compPost (model X.prog X.w) X.A X.xe none (EP X pins σ Q) acc C) (Q := fun D H _ => Q (.ref D) H) hc c B I2 T st2 f2 q2 ?_
  intro D C H' s' ys I' fC ns q
  refine ⟨_, ns.choose_spec, fun h' sb => ⟨.ref D, H', ?_, rfl, q⟩⟩
  obtain ⟨f0, f1, f2, f3, f4, f5⟩ := fC
  exact I'.turned (t' := s'.toks) (fun b o hb e => (sb.2 b hb).trans e) f0 f1 f3 f4 f5
theorem ps_setC {i : Nat} {y : Str} {py spos : Pos} (hc : X.calm = true) (hN : X.N.Nodup) (hy : X.N[i]? = some y) (hl : X.env.scope.names.lookup y = some .local)
    (hsw : swapsWith (.ListComp elt [⟨tg, iter, ifs, 0⟩] sc pos) (some (.Name y py)) spos.line X.env = pure true)
    (c : CompOk X sc N ix) (hi : PI X tg iter wi) (B : Blk X sc N tg elt ifs g tt te) (hs : ∀ x, foldedSetIterable iter X.env x = pure x := by intro _; rfl) :
    PS X (.Assign [.Name y py] (.ListComp elt [⟨tg, iter, ifs, 0⟩] sc pos) spos) (tAsg (tComp ix wi g tt te) (gName i)) := by
  intro pins s σ H D0 I h
  rw [exec_Assign_Name_used _ _ _ _ hsw]
  refine wpAny_bind (wpAny_standAt (wpAny_bind ?_))
  show wpAny _ X.A (do let _ ← comprehension (.ListComp elt [⟨tg, iter, ifs, 0⟩] sc pos) sc X.env _ (newList []) false (eval iter X.env) (some (assign (.Name y py) X.env))) _ _ s
  refine wpAny_bind (wpAny_mono (wpAny_comprehension_free (use := some (assign (.Name y py) X.env)) (Q := fun _ s' => SP X pins D0 .next s') rfl hs (closureFor_clOf (c.cells I.ok)) c.kind c.nm
    (thn (hi pins s σ H _ I h) fun xv s₁ h₁ => thn h₁ fun itv s₂ h₂ => ?_)) (fun _ s' hq => wpAny_pure (wpAny_pure hq)) fun _ _ e => e)
  obtain ⟨it, fp, tn, J, H2, e, I2, T, st2, f2, q2⟩ := h₂
  subst e
  refine comp_core (RR := fun acc C => compPost (model X.prog X.w) X.A X.xe (some (assign (.Name y py) X.env)) (fun _ s' => SP X pins D0 .next s') acc C) (Q := fun D H _ => D0.nx (σ.set i (some (.ref D))) H) hc c B I2 T st2 f2 q2 ?_
  intro D C H' s' ys I' fC ns q
  show wpAny _ X.A (assign (.Name y py) X.env (.ref D)) _ _ _
  obtain ⟨f0, f1, f2, f3, f4, f5⟩ := fC
  refine wpAny_assign_Name (store_ok2 I' hN hy (.inl hl) (v := .ref D) rfl (fun s2 J2 ⟨a, sb, ha⟩ => ?_) (.inr hl))
  obtain ⟨m, hn⟩ := ns
  have neC : C ≠ a := by
    rcases ha with z | z
    · rw [z]; exact f1
    · exact fun e => f4 y a z e.symm
  refine ⟨m, hn.sameBut sb neC, fun h3 sb3 => ⟨_, H', ?_, q⟩⟩
  exact J2.turned (t' := s2.toks) (fun b o hb e => (sb3.2 b hb).trans e) f0 f1 f3 f4 f5
end
end L2
set_option Elab.async false
set_option linter.all false
set_option maxRecDepth 100000
namespace L2
open PySem PySem.Spec PyProof.Rows
section
variable {κ : Type} [DecidableEq κ]
def valV (kvs : List (κ × V)) (k : κ) : Option V := (kvs.find? fun kv => decide (kv.1 = k)).map (·.2)
def putK (kvs : List (κ × V)) (k : κ) (v : V) : List (κ × V) :=
  if (kvs.any fun kv => decide (kv.1 = k)) = true then kvs.map (fun kv => if kv.1 = k then (kv.1, v) else kv) else kvs ++ [(k, v)]
def dropK (kvs : List (κ × V)) (k : κ) : List (κ × V) := kvs.filter fun kv => decide (kv.1 ≠ k)
end
abbrev KT (H : Hp) : List (List Key × V) → List (List Key × Addr × Value) → Prop := Paired fun p q => p.1 = q.1 ∧ H q.2.1 = some (.tup (p.1.map kV)) ∧ RelV p.2 q.2.2
section
variable {P : Program} {w : World} {H : Hp} {h : Heap} {a : Addr}
end
def DGet (H : Hp) (a : Addr) (y : V) (r : Option V) : Prop :=
  (∃ kvs k, Rd H a (.dK kvs) ∧ y = kV k ∧ r = valV kvs k) ∨ ∃ kvs k b, Rd H a (.dT kvs) ∧ y = .ref b ∧ H b = some (.tup (k.map kV)) ∧ r = valV kvs k
def DPut (H : Hp) (a : Addr) (y v : V) (H' : Hp) : Prop :=
  (∃ kvs k, H a = some (.dK kvs) ∧ y = kV k ∧ kvs.length < sizeLine ∧ H' = upd H a (.dK (putK kvs k v))) ∨
  ∃ kvs k b, H a = some (.dT kvs) ∧ y = .ref b ∧ H b = some (.tup (k.map kV)) ∧ kvs.length < sizeLine ∧ H' = upd H a (.dT (putK kvs k v))
theorem DGet.k {H : Hp} {a : Addr} {kvs : List (Key × V)} {k : Key} (e : H a = some (.dK kvs)) : DGet H a (kV k) (valV kvs k) := .inl ⟨kvs, k, .inl e, rfl, rfl⟩
theorem DGet.t {H : Hp} {a b : Addr} {kvs : List (List Key × V)} {k : List Key} (e : H a = some (.dT kvs)) (eb : H b = some (.tup (k.map kV))) : DGet H a (.ref b) (valV kvs k) := .inr ⟨kvs, k, b, .inl e, rfl, eb, rfl⟩
theorem DPut.k {H : Hp} {a : Addr} {kvs : List (Key × V)} {k : Key} {v : V} (e : H a = some (.dK kvs)) (hl : kvs.length < sizeLine) : DPut H a (kV k) v (upd H a (.dK (putK kvs k v))) := .inl ⟨kvs, k, e, rfl, hl, rfl⟩
theorem DPut.t {H : Hp} {a b : Addr} {kvs : List (List Key × V)} {k : List Key} {v : V} (e : H a = some (.dT kvs)) (eb : H b = some (.tup (k.map kV))) (hl : kvs.length < sizeLine) :
    DPut H a (.ref b) v (upd H a (.dT (putK kvs k v))) := .inr ⟨kvs, k, b, e, rfl, eb, hl, rfl⟩
section
variable {X : Cx} {pins : List (Addr × Obj)} {σ : St} {H : Hp} {s : Shared} {a : Addr} {y v : V} {u r : Value} {o : Option V} {A : Around} {E : Value → Shared → Prop}
end
section
variable {X : Cx} {pins : List (Addr × Obj)} {σ : St} {H : Hp} {s : Shared} {a : Addr} {kvs : List (Key × V)} {k : Key} {u : Value} {A : Around} {E : Value → Shared → Prop}
end
def NoSl (i : Expr) : Prop := ∀ ov iv, subscripted i false ov iv = operate [ov, iv] (getItem ov iv)
def tDGet (td ty : TE) : TE := fun σ H Q => td σ H fun x H1 => ty σ H1 fun y H2 => ∃ a v, x = .ref a ∧ DGet H2 a y (some v) ∧ Q v H2
def tDIn (ty td : TE) : TE := fun σ H Q => ty σ H fun y H1 => td σ H1 fun x H2 => ∃ a o, x = .ref a ∧ DGet H2 a y o ∧ Q (.bl o.isSome) H2
def tDNotIn (ty td : TE) : TE := fun σ H Q => ty σ H fun y H1 => td σ H1 fun x H2 => ∃ a o, x = .ref a ∧ DGet H2 a y o ∧ Q (.bl (!o.isSome)) H2
def sDPut (td ty tv : TE) : TS := fun D σ H => tv σ H fun v H1 => td σ H1 fun x H2 => ty σ H2 fun y H3 => ∃ a H4, x = .ref a ∧ DPut H3 a y v H4 ∧ D.nx σ H4
def sDAug (td ty tv : TE) (rd : V → V → Hp → VK → Prop) : TS := fun D σ H => td σ H fun x H1 => ty σ H1 fun y H2 => ∃ a v, x = .ref a ∧ DGet H2 a y (some v) ∧
  tv σ H2 fun y2 H3 => rd v y2 H3 fun z H4 => ∃ H5, DPut H4 a y z H5 ∧ D.nx σ H5
def sDDel (td ty : TE) : TS := fun D σ H => td σ H fun x H1 => ty σ H1 fun y H2 => ∃ a kvs k, x = .ref a ∧ H2 a = some (.dK kvs) ∧ y = kV k ∧ (valV kvs k).isSome = true ∧ D.nx σ (upd H2 a (.dK (dropK kvs k)))
section
variable {X : Cx} {o i e value : Expr} {pos pos' tpos : Pos} {td ty tv : TE}
end
def tDNewK : TE := fun _ H Q => ∀ p, H p = none → Q (.ref p) (upd H p (.dK []))
def tDNewT : TE := fun _ H Q => ∀ p, H p = none → Q (.ref p) (upd H p (.dT []))
section
variable {X : Cx} {pos : Pos}
end
def tPairs : List (TE × TE) → St → Hp → (List (V × V) → Hp → Prop) → Prop
  | [], _, H, Q => Q [] H
  | (tk, tv) :: r, σ, H, Q => tk σ H fun x H1 => tv σ H1 fun y H2 => tPairs r σ H2 fun ps H3 => Q ((x, y) :: ps) H3
abbrev VV : List (V × V) → List (Value × Value) → Prop := Paired fun p q => RelV p.1 q.1 ∧ RelV p.2 q.2
def PPs (X : Cx) (pos : Pos) (keys : List (Option Expr)) (values : List Expr) (trs : List (TE × TE)) : Prop :=
  ∀ (pins : List (Addr × Obj)) (s : Shared) (σ : St) (H : Hp) (Q : List (V × V) → Hp → Prop), Inv X pins σ H s → tPairs trs σ H Q →
    wpAny (model X.prog X.w) X.A (evalPairs (pairTrees keys values X.env pos)) (fun vs s' => ∃ ps H', Inv X pins σ H' s' ∧ VV ps vs ∧ Q ps H') X.xe s
def mergeK (kvs more : List (Key × V)) : List (Key × V) := more.foldl (fun acc kv => putK acc kv.1 kv.2) kvs
def tDisp (trs : List (TE × TE)) : TE := fun σ H Q => ∀ p, H p = none → tPairs trs σ (upd H p (.dK [])) fun ps H2 => H2 p = some (.dK []) ∧ ∃ kvs : List (Key × V), ps = kvs.map (fun kv => (kV kv.1, kv.2)) ∧ kvs.length ≤ 15 ∧ Q (.ref p) (upd H2 p (.dK (mergeK [] kvs)))
structure M1 (X : Cx) (o : Expr) (m : Str) (apos : Pos) (e : Expr) (cpos : Pos) : Prop where
  base : attributeBase o m X.env (eval o X.env) = eval o X.env
  few : ((backTo cpos (starEach [e] X.env)).all (fun x => !x.1) && (backToKw cpos (keywordEach [] X.env)).all (fun x => x.1.isSome)
    && decide (([e] : List Expr).length + ([] : List Keyword).length + (if ([] : List Keyword).isEmpty then 0 else 1) < 30)) = true
  line : (apos.endLine == cpos.line) = true
  trees : backTo cpos (starEach [e] X.env) = [(false, eval e X.env)]
structure M2 (X : Cx) (o : Expr) (m : Str) (apos : Pos) (e f : Expr) (cpos : Pos) : Prop where
  base : attributeBase o m X.env (eval o X.env) = eval o X.env
  few : ((backTo cpos (starEach [e, f] X.env)).all (fun x => !x.1) && (backToKw cpos (keywordEach [] X.env)).all (fun x => x.1.isSome)
    && decide (([e, f] : List Expr).length + ([] : List Keyword).length + (if ([] : List Keyword).isEmpty then 0 else 1) < 30)) = true
  line : (apos.endLine == cpos.line) = true
  trees : backTo cpos (starEach [e, f] X.env) = [(false, eval e X.env), (false, eval f X.env)]
def IsD (H : Hp) (a : Addr) : Prop := (∃ kvs, Rd H a (.dK kvs)) ∨ ∃ kvs, Rd H a (.dT kvs)
section
variable {X : Cx} {pins : List (Addr × Obj)} {σ : St} {H : Hp} {s : Shared} {a : Addr} {y d : V} {u r : Value} {o : Option V} {A : Around} {E : Value → Shared → Prop}
end
def tDGet1 (td ty : TE) : TE := fun σ H Q => td σ H fun x H1 => ∃ a, x = .ref a ∧ IsD H1 a ∧ ty σ H1 fun y H2 => ∃ o, DGet H2 a y o ∧ Q (o.getD .non) H2
def tDGet2 (td ty tx : TE) : TE := fun σ H Q => td σ H fun x H1 => ∃ a, x = .ref a ∧ IsD H1 a ∧ ty σ H1 fun y H2 => tx σ H2 fun z H3 => ∃ o, DGet H3 a y o ∧ Q (o.getD z) H3
def tDPop1 (td ty : TE) : TE := fun σ H Q => td σ H fun x H1 => ∃ a, x = .ref a ∧ IsD H1 a ∧ ty σ H1 fun y H2 => ∃ kvs k v, H2 a = some (.dK kvs) ∧ y = kV k ∧ valV kvs k = some v ∧ Q v (upd H2 a (.dK (dropK kvs k)))
def tDPop2 (td ty tx : TE) : TE := fun σ H Q => td σ H fun x H1 => ∃ a, x = .ref a ∧ IsD H1 a ∧ ty σ H1 fun y H2 => tx σ H2 fun z H3 => ∃ kvs k, H3 a = some (.dK kvs) ∧ y = kV k ∧
  (∀ v, valV kvs k = some v → Q v (upd H3 a (.dK (dropK kvs k)))) ∧ (valV kvs k = none → Q z H3)
section
variable {X : Cx} {o e f : Expr} {apos cpos : Pos} {td ty tx : TE}
end
section
variable {X : Cx} {pins : List (Addr × Obj)} {σ : St} {H : Hp} {s : Shared} {a : Addr} {kvs : List (Key × V)} {A : Around} {E : Value → Shared → Prop}
end
section
variable {X : Cx} {pins : List (Addr × Obj)} {σ : St} {H : Hp} {s : Shared} {a : Addr} {y : V} {u : Value} {A : Around} {E : Value → Shared → Prop}
end
end L2
set_option Elab.async false
set_option linter.all false
set_option maxRecDepth 100000
set_option maxHeartbeats 4000000
namespace L2
open PySem PySem.Spec PyProof.Rows
theorem OpR.imp {X : Cx} {f : Value → Value → Sem Value} {r r' : R2} (h : OpR X f r) (i : ∀ x y H Q, r' x y H Q → r x y H Q) : OpR X f r' :=
  fun pins s σ H x y v u Q I rx ry q => h pins s σ H x y v u Q I rx ry (i x y H Q q)
theorem CallR.imp {X : Cx} {f : Value} {r r' : List V → Hp → VK → Prop} (h : CallR X f r) (i : ∀ xs H Q, r' xs H Q → r xs H Q) : CallR X f r' :=
  fun pins s σ H xs us Q I rs q => h pins s σ H xs us Q I rs (i xs H Q q)
def tV (i : Nat) : TE := fun σ H Q => match σ[i]? with
  | some (some v) => Q v H
  | _ => False
theorem vr {X : Cx} (i : Nat) {x : Str} {pos : Pos} (hN : X.N[i]? = some x := by rfl) (hv : Vis X.env.scope x := by first | exact Or.inl rfl | exact Or.inr (Or.inl rfl) | exact Or.inr (Or.inr rfl)) (hd : (x == ("__debug__" : Str)) = false := by decide)
    (hcd : (x == ("__classdict__" : Str)) = false := by decide) : PE X (.Name x pos) (tV i) := fun pins s σ H Q I h => by
  refine pe_var hN hv hd hcd pins s σ H Q I ?_
  unfold tV at h
  split at h
  · rename_i v e
    exact ⟨v, e, h⟩
  · exact h.elim
def rI2 (g : Int → Int → V) : R2 := fun x y H Q => match x, y with
  | .int i, .int j => Q (g i j) H
  | _, _ => False
def rIC (C : Int → Int → Prop) (g : Int → Int → V) : R2 := fun x y H Q => match x, y with
  | .int i, .int j => C i j ∧ Q (g i j) H
  | _, _ => False
theorem OpR.i2 {X : Cx} {f : Value → Value → Sem Value} {g : Int → Int → V} (h : OpR X f (rI0 g)) : OpR X f (rI2 g) := h.imp fun x y H Q q => by
  cases x <;> cases y <;> first | exact ⟨_, _, rfl, rfl, q⟩ | exact (show False from q).elim
theorem OpR.ic {X : Cx} {f : Value → Value → Sem Value} {C : Int → Int → Prop} {g : Int → Int → V} (h : OpR X f (rI C g)) : OpR X f (rIC C g) := h.imp fun x y H Q q => by
  cases x <;> cases y <;> first | exact ⟨_, _, rfl, rfl, q.1, q.2⟩ | exact (show False from q).elim
section
variable {X : Cx}
def rAddM : R2 := fun x y H Q => match x, y with
  | .int i, .int j => Q (.int (i + j)) H
  | .str i, .str j => i.length + j.length ≤ sizeLine ∧ Q (.str (i ++ j)) H
  | _, _ => False
theorem o_add : OpR X (binaryOp .Add) rAddM := (op_add.or op_add_str).imp fun x y H Q q => by
  cases x <;> cases y <;> first | exact .inl ⟨_, _, rfl, rfl, q⟩ | exact .inr ⟨_, _, rfl, rfl, q.1, q.2⟩ | exact (show False from q).elim
theorem o_sub : OpR X (binaryOp .Sub) (rI2 fun i j => .int (i - j)) := op_sub.i2
def CPos (i j : Int) : Prop := 0 < j
def CNn (i j : Int) : Prop := 0 ≤ j
theorem cp {i j : Int} (h : 0 < j := by decide) : CPos i j := h
theorem cn {i j : Int} (h : 0 ≤ j := by decide) : CNn i j := h
theorem cd {i j : Int} (h : 0 < j := by decide) (h2 : j < 1073741824 := by decide) : CDiv i j := ⟨h, h2⟩
theorem cw {i j : Int} (h : 0 ≤ j := by decide) (h2 : j ≤ 1000000 := by decide) (h3 : i.natAbs < 2 ^ 64 := by decide) : CPow i j := ⟨h, h2, h3⟩
theorem cl {i j : Int} (h : -(2 ^ 64) < i := by decide) (h2 : i < 2 ^ 64 := by decide) : CMul i j := .inl ⟨h, h2⟩
theorem cr {i j : Int} (h : -(2 ^ 64) < j := by decide) (h2 : j < 2 ^ 64 := by decide) : CMul i j := .inr ⟨h, h2⟩
theorem o_mod : OpR X (binaryOp .Mod) (rIC CPos fun i j => .int (i % j)) := op_mod.ic
theorem o_pow : OpR X (binaryOp .Pow) (rIC CPow fun i j => .int (i ^ j.toNat)) := op_pow.ic
theorem o_shr : OpR X (binaryOp .RShift) (rIC CNn fun i j => .int (i / 2 ^ j.toNat)) := op_shr.ic
theorem op_le_str : OpR X (compareOp .LtE) (fun x y H Q => ∃ i j, x = .str i ∧ y = .str j ∧ Q (.bl (!decide (j.cps.toList < i.cps.toList))) H) := by
  intro pins s σ H x y v u Q I rx ry h
  obtain ⟨i, j, rfl, rfl, q⟩ := h
  obtain ⟨t, rfl⟩ := rx
  obtain ⟨t', rfl⟩ := ry
  exact PySem.P.le_str (fin_bl I q rfl)
def rCmpM (f : Int → Int → Bool) (g : Str → Str → Bool) : R2 := fun x y H Q => match x, y with
  | .int i, .int j => Q (.bl (f i j)) H
  | .str i, .str j => Q (.bl (g i j)) H
  | _, _ => False
theorem o_lt : OpR X (compareOp .Lt) (rCmpM (fun i j => decide (i < j)) fun i j => decide (i.cps.toList < j.cps.toList)) := (op_lt.or op_lt_str).imp fun x y H Q q => by
  cases x <;> cases y <;> first | exact .inl ⟨_, _, rfl, rfl, q⟩ | exact .inr ⟨_, _, rfl, rfl, q⟩ | exact (show False from q).elim
theorem o_le : OpR X (compareOp .LtE) (rCmpM (fun i j => decide (i ≤ j)) fun i j => !decide (j.cps.toList < i.cps.toList)) := (op_le.or op_le_str).imp fun x y H Q q => by
  cases x <;> cases y <;> first | exact .inl ⟨_, _, rfl, rfl, q⟩ | exact .inr ⟨_, _, rfl, rfl, q⟩ | exact (show False from q).elim
theorem o_gt : OpR X (compareOp .Gt) (rI2 fun i j => .bl (decide (j < i))) := op_gt.i2
def rEqM (neg : Bool) : R2 := fun x y H Q => match x, y with
  | .int i, .int j => Q (.bl (if neg then !decide (i = j) else decide (i = j))) H
  | .str i, .str j => Q (.bl (if neg then !decide (i = j) else decide (i = j))) H
  | .bl i, .bl j => Q (.bl (if neg then !decide (i = j) else decide (i = j))) H
  | .non, .non => Q (.bl (!neg)) H
  | .non, .int _ => Q (.bl neg) H
  | .non, .str _ => Q (.bl neg) H
  | .non, .bl _ => Q (.bl neg) H
  | .int _, .non => Q (.bl neg) H
  | .str _, .non => Q (.bl neg) H
  | .bl _, .non => Q (.bl neg) H
  | .int _, .str _ => Q (.bl neg) H
  | .str _, .int _ => Q (.bl neg) H
  | _, _ => False
theorem o_eq : OpR X (compareOp .Eq) (rEqM false) := op_eq.imp fun x y H Q q => by
  cases x <;> cases y <;> first | exact (show False from q).elim | (refine ⟨rfl, ?_⟩; revert q; simp [rEqM])
theorem o_ne : OpR X (compareOp .NotEq) (rEqM true) := op_ne.imp fun x y H Q q => by
  cases x <;> cases y <;> first | exact (show False from q).elim | (refine ⟨rfl, ?_⟩; revert q; simp [rEqM])
def rU1 (g : Int → V) : V → Hp → VK → Prop := fun x H Q => match x with
  | .int i => Q (g i) H
  | _ => False
theorem o_isnot : OpR X (compareOp .IsNot) (fun x y H Q => match y with | .non => Q (.bl (!decide (x = .non))) H | _ => False) := op_notN.imp fun x y H Q q => by
  cases y <;> first | exact ⟨rfl, q⟩ | exact (show False from q).elim
def rInS (neg : Bool) : R2 := fun x y H Q => match x, y with
  | .str i, .str j => Q (.bl (if neg then (Builtin.Str.occurrences j i 0 j.length 1).isEmpty else !(Builtin.Str.occurrences j i 0 j.length 1).isEmpty)) H
  | _, _ => False
def mB (Q : Bool → Hp → Prop) : VK := fun x H => match x with
  | .bl c => Q c H
  | _ => False
variable {a b c : Expr} {ta tb tc : TE} {pos : Pos} {rest : List Expr}
def mAnd (ta tb : TE) : TE := fun σ H Q => ta σ H (mB fun c H1 => if c = true then tb σ H1 Q else Q (.bl false) H1)
def mOr (ta tb : TE) : TE := fun σ H Q => ta σ H (mB fun c H1 => if c = true then Q (.bl true) H1 else tb σ H1 Q)
def mNot (ta : TE) : TE := fun σ H Q => ta σ H (mB fun c H1 => Q (.bl (!c)) H1)
theorem mB_iff {Q : Bool → Hp → Prop} {x : V} {H : Hp} (h : mB Q x H) : ∃ c, x = .bl c ∧ Q c H := by
  cases x <;> first | exact ⟨_, rfl, h⟩ | exact (show False from h).elim
theorem m_and (ha : PE X a ta) (hb : PE X (.BoolOp .And (b :: rest) pos) tb) : PE X (.BoolOp .And (a :: b :: rest) pos) (mAnd ta tb) := by
  intro pins s σ H Q I h
  refine BoolOp_and (thn (ha pins s σ H _ I h) fun v s1 ⟨x, H1, I1, r1, q1⟩ => ?_)
  obtain ⟨c, rfl, q1⟩ := mB_iff q1
  cases r1
  refine wpAny_truthy_bool ?_
  cases c with
  | true => exact hb pins s1 σ H1 Q I1 q1
  | false => exact ⟨.bl false, H1, I1, rfl, q1⟩
theorem m_not (ha : PE X a ta) : PE X (.UnaryOp .Not a pos) (mNot ta) := by
  intro pins s σ H Q I h
  refine UnaryOp_ (thn (ha pins s σ H _ I h) fun v s1 ⟨x, H1, I1, r1, q1⟩ => ?_)
  obtain ⟨c, rfl, q1⟩ := mB_iff q1
  cases r1
  exact not_of (wpAny_truthy_bool ⟨.bl (!c), H1, I1, rfl, q1⟩)
def mT (t : TE) : TT := fun σ H Q => t σ H (mB Q)
theorem t_val (h : PE X a ta) (he : ∀ whole, isTrue a X.env whole = (do let v ← whole; standAt a.pos; holding [v] (truthy v)) := by intro _; rfl) : PT X a (mT ta) := by
  intro pins s σ H Q I hw
  refine isTrue_plain (thn (h pins s σ H _ I hw) fun v s1 ⟨x, H1, I1, r1, q1⟩ => ?_) (he _)
  obtain ⟨d, rfl, q⟩ := mB_iff q1
  cases r1
  exact wpAny_truthy_bool ⟨H1, I1, q⟩
theorem t_cmp {op : CmpOp} {r : R2} (ho : OpR X (compareOp op) r) (ha : PE X a ta) (hb : PE X b tb) (hm : behindInMarks op b = false) : PT X (.Compare a [op] [b] pos) (mT (tOp r ta tb)) := by
  intro pins s σ H Q I h
  refine wpAny_isTrue_Compare1 (thn (ha pins s σ H _ I h) fun v s1 ⟨x, H1, I1, r1, q1⟩ => thn (hb pins s1 σ H1 _ I1 q1) fun u s2 ⟨y, H2, I2, r2, q2⟩ =>
    thn (ho pins s2 σ H2 x y v u _ I2 r1 r2 q2) fun c s3 ⟨z, H3, I3, r3, q3⟩ => ?_) hm
  obtain ⟨k, rfl, q3⟩ := mB_iff q3
  cases r3
  exact wpAny_truthy_bool ⟨H3, I3, q3⟩
def mChain (r r' : R2) (ta tb tc : TE) : TE := fun σ H Q => ta σ H fun x H1 => tb σ H1 fun y H2 => r x y H2 (mB fun k H3 => if k = true then tc σ H3 fun w' H4 => r' y w' H4 Q else Q (.bl false) H3)
theorem m_chain {op op' : CmpOp} {r r' : R2} (ho : OpR X (compareOp op) r) (ho' : OpR X (compareOp op') r') (ha : PE X a ta) (hb : PE X b tb) (hc : PE X c tc)
    (hm : lastMarks [op, op'] [b, c] = false := by with_unfolding_all rfl) : PE X (.Compare a [op, op'] [b, c] pos) (mChain r r' ta tb tc) := by
  intro pins s σ H Q I h
  refine Compare_chain (thn (ha pins s σ H _ I h) fun v s1 ⟨x, H1, I1, r1, q1⟩ => chain_link (thn (hb pins s1 σ H1 _ I1 q1) fun u s2 ⟨y, H2, I2, r2, q2⟩ =>
    thn (ho pins s2 σ H2 x y v u _ I2 r1 r2 q2) fun d s3 ⟨z, H3, I3, r3, q3⟩ => ?_)) hm
  obtain ⟨k, rfl, q3⟩ := mB_iff q3
  cases r3
  refine wpAny_truthy_bool ?_
  cases k with
  | false => exact ite_ff ⟨.bl false, H3, I3, rfl, q3⟩
  | true => exact ite_tt (chain_last (thn (hc pins s3 σ H3 _ I3 q3) fun w' s4 ⟨z', H4, I4, r4, q4⟩ => ho' pins s4 σ H4 y z' u w' Q I4 r2 r4 q4))
open PySem.W in
theorem kit_of {pins : List (Addr × Obj)} {σ : St} {H : Hp} {s : Shared} {x : V} {u t : Value} (I : Inv X pins σ H s) (rx : RelV x u) (ty : TyOf X.K H x t) :
    ∃ Hh : Heap → Prop, KitX X.K u t Hh ∧ Hh s.heap ∧ u ≠ .builtin "__main__.__loader__#opaque" := by
  cases ty with
  | non => cases (show u = Value.none from rx); exact ⟨_, PySem.W.kitx_none, True.intro, fun z => nomatch z⟩
  | bl y => cases (show u = Value.bool y from rx); exact ⟨_, PySem.W.kitx_bool, True.intro, fun z => nomatch z⟩
  | int i => obtain ⟨t, q⟩ := (show ∃ t, u = Value.int i t from rx); cases q; exact ⟨_, PySem.W.kitx_int, True.intro, fun z => nomatch z⟩
  | str y => obtain ⟨t, q⟩ := (show ∃ t, u = Value.str y t from rx); cases q; exact ⟨_, PySem.W.kitx_str, True.intro, fun z => nomatch z⟩
  | flt y => obtain ⟨t, q⟩ := (show ∃ t, u = Value.float y t from rx); cases q; exact ⟨_, PySem.W.kitx_float, True.intro, fun z => nomatch z⟩
  | @lst a xs ea =>
    cases (show u = Value.ref a from rx)
    obtain ⟨_, _, n, _, h1⟩ := (show ObjOk X.prog X.w H s.heap a (.lst xs) from I.hok a _ ea)
    exact ⟨_, PySem.W.kitx_list, ⟨_, h1, rfl⟩, fun z => nomatch z⟩
  | @frz a ob xs ea =>
    cases (show u = Value.ref a from rx)
    obtain ⟨_, _, _, n, _, h1⟩ := (show ObjOk X.prog X.w H s.heap a (.frz ob (.lst xs)) from I.hok a _ ea)
    exact ⟨_, PySem.W.kitx_list, ⟨_, h1, rfl⟩, fun z => nomatch z⟩
  | @tup a xs ea =>
    cases (show u = Value.ref a from rx)
    obtain ⟨_, _, _, p⟩ := (show ObjOk X.prog X.w H s.heap a (.tup xs) from I.hok a _ ea)
    obtain ⟨o, h1, h2, _⟩ := p
    exact ⟨_, PySem.W.kitx_tuple, ⟨o, h1, h2⟩, fun z => nomatch z⟩
  | @dK a kvs ea =>
    cases (show u = Value.ref a from rx)
    obtain ⟨_, _, vs, _, p⟩ := (show ObjOk X.prog X.w H s.heap a (.dK kvs) from I.hok a _ ea)
    obtain ⟨o, es, ep, h1, h2, _⟩ := p
    exact ⟨_, PySem.W.kitx_dict, ⟨o, h1, h2.1⟩, fun z => nomatch z⟩
  | @dT a kvs ea =>
    cases (show u = Value.ref a from rx)
    obtain ⟨_, _, xs, _, o, es, ep, h1, h2, _⟩ := (show ObjOk X.prog X.w H s.heap a (.dT kvs) from I.hok a _ ea)
    exact ⟨_, PySem.W.kitx_dict, ⟨o, h1, h2.1⟩, fun z => nomatch z⟩
  | @ins a C dx fs ea cl ha hn htk hm =>
    cases (show u = Value.ref a from rx)
    obtain ⟨mA, O, _⟩ := ins_get I.hok ea
    obtain ⟨od, J, _⟩ := O.look
    exact ⟨_, PySem.W.kitx_own (cl.get _) cl.hd ha hn htk hm, J, fun z => nomatch z⟩
def cVal : V → Value
  | .ty n => .type n
  | .ref a => .ref a
  | _ => .none
def isCls : V → Bool
  | .ty _ => true
  | .ref _ => true
  | _ => false
theorem cVal_of {c : V} {u : Value} (h : isCls c = true) (r : RelV c u) : u = cVal c := by
  cases c <;> first | exact r | exact absurd (show false = true from h) Bool.false_ne_true
inductive rIsi (K : PySem.W.Frag) (xs : List V) (H : Hp) (Q : VK) : Prop
  | mk (x c : V) (t : _) (b : Bool) (h0 : xs = [x, c]) (h1 : isCls c = true) (h2 : TyOf K H x t) (h3 : PySem.W.kitOne K t (cVal c) = some b) (h4 : Q (.bl b) H) : rIsi K xs H Q
theorem call_isi : CallR X (.builtin "isinstance") (rIsi X.K) := by
  intro pins s σ H xs us Q I r h
  obtain ⟨x, c, t, b, rfl, hc, ty, e, q⟩ := h
  obtain ⟨u, w', rfl, rx, rc⟩ := vals2 r
  cases cVal_of hc rc
  obtain ⟨Hh, Z, p, hx⟩ := kit_of I rx ty
  exact PySem.W.kia_one Z I.kIn p e hx fun tk => ⟨.bl b, H, I.tok tk, rfl, q⟩
end
end L2
set_option Elab.async false
set_option linter.all false
set_option maxRecDepth 100000
set_option maxHeartbeats 4000000
namespace L2
open PySem PySem.Spec PyProof.Rows
theorem and_if {Q : V → Prop} {p r : Prop} [Decidable p] [Decidable r] (q : Q (.bl (decide (p ∧ r)))) : if decide p = true then Q (.bl (decide r)) else Q (.bl false) := by
  by_cases h : p
  · rw [if_pos (decide_eq_true h)]
    have e : decide (p ∧ r) = decide r := by by_cases z : r <;> simp [h, z]
    rw [← e]; exact q
  · rw [if_neg (fun z => h (of_decide_eq_true z))]
    have e : decide (p ∧ r) = false := decide_eq_false fun z => h z.1
    rw [← e]; exact q
theorem ifP {c : Prop} [Decidable c] {A B : Prop} (hc : c) (h : A) : if decide c = true then A else B := by rw [if_pos (decide_eq_true hc)]; exact h
theorem ifN {c : Prop} [Decidable c] {A B : Prop} (hc : ¬ c) (h : B) : if decide c = true then A else B := by rw [if_neg (fun z => hc (of_decide_eq_true z))]; exact h
theorem ifC {c : Prop} [Decidable c] {A B : Prop} (h1 : c → A) (h2 : ¬ c → B) : if decide c = true then A else B := by
  by_cases h : c
  · exact ifP h (h1 h)
  · exact ifN h (h2 h)
theorem atI_ex {α : Type} {xs : List α} {i : Int} (h0 : 0 ≤ i) (h1 : i < xs.length) : ∃ c, c ∈ xs ∧ atI xs i = some c := by
  have hk : i.toNat < xs.length := by omega
  refine ⟨xs[i.toNat], List.getElem_mem hk, ?_⟩
  have e : ((i.toNat : Nat) : Int) = i := by omega
  have := atI_nat (xs := xs) (j := i.toNat) (v := xs[i.toNat]) (by simp [hk])
  rwa [e] at this
theorem bt_len : bootBuiltins "len" = some (.builtin "len") := by decide +kernel
theorem bt_isinstance : bootBuiltins "isinstance" = some (.builtin "isinstance") := by decide +kernel
theorem bt_int : bootBuiltins "int" = some (.type "int") := by decide +kernel
theorem bt_bool : bootBuiltins "bool" = some (.type "bool") := by decide +kernel
theorem bt_list : bootBuiltins "list" = some (.type "list") := by decide +kernel
theorem bt_tuple : bootBuiltins "tuple" = some (.type "tuple") := by decide +kernel
theorem pe_gl {X : Cx} {x : Str} {v : V} {pos : Pos} (hg : Gl X x) (h : ∃ u, X.mg x = some u ∧ RelV v u) (hd : (x == ("__debug__" : Str)) = false := by decide) : PE X (.Name x pos) (tC v) :=
  let ⟨_, e, r⟩ := h
  pe_glob hg e r hd
def iAny (K : PySem.W.Frag) (tl : TE) : TI := fun σ H R => tl σ H fun x H1 => match x with
  | .str z => R (Its z) H1
  | .ref a => ((∃ xs, SqL K H1 a xs) ∧ R (Itl K a) H1) ∨ ((∃ xs, SqT K H1 a xs) ∧ R (Itt K a) H1)
  | _ => False
theorem pi_any {X : Cx} {tg l : Expr} {tl : TE} (hl : PE X l tl) : PI X tg l (iAny X.K tl) := by
  intro pins s σ H R I h
  have hl1 : PE X l tl := hl
  refine thn (hl pins s σ H _ I h) fun v s1 ⟨x, H1, I1, r1, q1⟩ => ?_
  cases x with
  | str z =>
    have := pi_str (X := X) (tg := tg) (l := l) (tl := tC (.str z)) 
    obtain ⟨t, rfl⟩ := r1
    refine wpAny_pyIter_strU ?_
    refine ⟨s1.heap.objs.size, [s1.heap.objs.size], _, _, H1, rfl, I1.kept (t' := s1.toks) fun b o e => Heap.get?_push_of_some _ e, turn_str (ty := strIterType z) (t := t) z _ ?_, ⟨_, Heap.get?_push_size _ rfl, rfl, rfl⟩, fun b hb => ?_, q1⟩
    · unfold strIterType
      split
      · exact .inl rfl
      · exact .inr rfl
    · have e : b = s1.heap.objs.size := by simpa using hb
      subst e
      exact I1.fpOk (Nat.le_refl _) (I1.hok.fresh (Nat.le_refl _))
  | ref a =>
    cases r1
    rcases q1 with ⟨⟨xs, hq⟩, q⟩ | ⟨⟨xs, hq⟩, q⟩
    · obtain ⟨its, rv, p, hz⟩ := I1.list hq
      refine wpAny_pyIter_list p.isList ?_
      refine ⟨s1.heap.objs.size, [s1.heap.objs.size], _, _, H1, rfl, I1.kept (t' := s1.toks) fun b o e => Heap.get?_push_of_some _ e, turn_list a _, ⟨_, Heap.get?_push_size _ rfl, rfl, rfl⟩, fun b hb => ?_, q⟩
      have e : b = s1.heap.objs.size := by simpa using hb
      subst e
      exact I1.fpOk (Nat.le_refl _) (I1.hok.fresh (Nat.le_refl _))
    · obtain ⟨its, rv, p, hz⟩ := I1.tuple hq
      refine wpAny_pyIter_tuple (show s1.heap.IsTuple a its.toArray from p) ?_
      refine ⟨s1.heap.objs.size, [s1.heap.objs.size], _, _, H1, rfl, I1.kept (t' := s1.toks) fun b o e => Heap.get?_push_of_some _ e, turn_tuple a _, ⟨_, Heap.get?_push_size _ rfl, rfl, rfl⟩, fun b hb => ?_, q⟩
      have e : b = s1.heap.objs.size := by simpa using hb
      subst e
      exact I1.fpOk (Nat.le_refl _) (I1.hok.fresh (Nat.le_refl _))
  | _ => exact (show False from q1).elim
inductive rLenSq (K : PySem.W.Frag) (p : Addr) (H : Hp) (Q : VK) : Prop
  | mk (ys : List V) (h0 : SqL K H p ys ∨ SqT K H p ys) (h1 : Q (.int ys.length) H) : rLenSq K p H Q
theorem call_lenM {X : Cx} : CallR X (.builtin "len") (fun xs H Q => match xs with
    | [.str z] => z.length ≤ sizeLine ∧ Q (.int z.length) H
    | [.ref p] => rLenSq X.K p H Q
    | _ => False) := (call_len_str.or call_len_seq).imp fun xs H Q q => by
  match xs, q with
  | [.str z], q => exact .inl ⟨z, rfl, q.1, q.2⟩
  | [.ref p], q => obtain ⟨ys, h, q⟩ := q; exact .inr ⟨p, ys, rfl, h, q⟩
section
variable {D : Addr} {σb : St} {g : TG} {tt : TT} {te : TE} {Q : Hp → List V → Prop} {H : Hp} {K : PySem.W.Frag}
def CompT (D : Addr) (σb : St) (g : TG) (tt : TT) (te : TE) (x : V) (ys : List V) (H : Hp) (P : List V → Hp → Prop) : Prop :=
  g x σb H fun σ4 H4 => Wk σb σ4 ∧ tt σ4 H4 fun b H5 => if b = true then te σ4 H5 fun y H6 => H6 D = some (.lst ys) ∧ ys.length < sizeLine ∧ P (ys ++ [y]) (upd H6 D (.lst (ys ++ [y]))) else P ys H5
theorem comp_list {a : Addr} {xs : List V} (Pv : Nat → List V → Hp → Prop) (h0 : Pv 0 [] H) (hq : ∀ i ys H, Pv i ys H → SqL K H a xs) (hl : ∀ i ys H, Pv i ys H → H D = some (.lst ys))
    (hs : ∀ (i : Nat) x ys H P, xs[i]? = some x → Pv i ys H → (∀ a b, Pv (i + 1) a b → P a b) → CompT D σb g tt te x ys H P) (hd : ∀ ys H, Pv xs.length ys H → Q H ys) : ∃ W, (∃ m, W 0 m [] H) ∧ CompW (Itl K a) D σb g tt te Q W := by
  refine ⟨fun i m ys H => m = xs.length - i ∧ i ≤ xs.length ∧ Pv i ys H, ⟨_, rfl, Nat.zero_le _, h0⟩, ?_⟩
  rintro i m ys H ⟨rfl, hi, p⟩
  refine ⟨hl i ys H p, ?_⟩
  have q := hq i ys H p
  by_cases hlt : i < xs.length
  · refine .inr ⟨⟨xs, xs[i], q, by simp [hlt]⟩, fun x H3 y => ?_⟩
    obtain ⟨rfl, y⟩ := y
    exact hs i x ys _ (fun a b => ∃ m', m' < xs.length - i ∧ m' = xs.length - (i + 1) ∧ i + 1 ≤ xs.length ∧ Pv (i + 1) a b) (y xs q) p (fun a b q => ⟨xs.length - (i + 1), by omega, rfl, hlt, q⟩)
  · have e : i = xs.length := by omega
    subst e
    exact .inl ⟨⟨xs, q, Nat.le_refl _⟩, hd ys H p⟩
theorem comp_tup {a : Addr} {xs : List V} (Pv : Nat → List V → Hp → Prop) (h0 : Pv 0 [] H) (hq : ∀ i ys H, Pv i ys H → SqT K H a xs) (hl : ∀ i ys H, Pv i ys H → H D = some (.lst ys))
    (hs : ∀ (i : Nat) x ys H P, xs[i]? = some x → Pv i ys H → (∀ a b, Pv (i + 1) a b → P a b) → CompT D σb g tt te x ys H P) (hd : ∀ ys H, Pv xs.length ys H → Q H ys) : ∃ W, (∃ m, W 0 m [] H) ∧ CompW (Itt K a) D σb g tt te Q W := by
  refine ⟨fun i m ys H => m = xs.length - i ∧ i ≤ xs.length ∧ Pv i ys H, ⟨_, rfl, Nat.zero_le _, h0⟩, ?_⟩
  rintro i m ys H ⟨rfl, hi, p⟩
  refine ⟨hl i ys H p, ?_⟩
  have q := hq i ys H p
  by_cases hlt : i < xs.length
  · refine .inr ⟨⟨xs, xs[i], q, by simp [hlt]⟩, fun x H3 y => ?_⟩
    obtain ⟨rfl, y⟩ := y
    exact hs i x ys _ (fun a b => ∃ m', m' < xs.length - i ∧ m' = xs.length - (i + 1) ∧ i + 1 ≤ xs.length ∧ Pv (i + 1) a b) (y xs q) p (fun a b q => ⟨xs.length - (i + 1), by omega, rfl, hlt, q⟩)
  · have e : i = xs.length := by omega
    subst e
    exact .inl ⟨⟨xs, q, Nat.le_refl _⟩, hd ys H p⟩
theorem comp_rng {lo : Int} {n : Nat} (Pv : Nat → List V → Hp → Prop) (h0 : Pv 0 [] H) (hl : ∀ i ys H, Pv i ys H → H D = some (.lst ys))
    (hs : ∀ (i : Nat) ys H P, i < n → Pv i ys H → (∀ a b, Pv (i + 1) a b → P a b) → CompT D σb g tt te (.int (lo + i)) ys H P) (hd : ∀ ys H, Pv n ys H → Q H ys) : ∃ W, (∃ m, W 0 m [] H) ∧ CompW (Itr lo n) D σb g tt te Q W := by
  refine ⟨fun i m ys H => m = n - i ∧ i ≤ n ∧ Pv i ys H, ⟨_, rfl, Nat.zero_le _, h0⟩, ?_⟩
  rintro i m ys H ⟨rfl, hi, p⟩
  refine ⟨hl i ys H p, ?_⟩
  by_cases hlt : i < n
  · refine .inr ⟨hlt, fun x H3 y => ?_⟩
    obtain ⟨rfl, rfl⟩ := y
    exact hs i ys _ (fun a b => ∃ m', m' < n - i ∧ m' = n - (i + 1) ∧ i + 1 ≤ n ∧ Pv (i + 1) a b) hlt p (fun a b q => ⟨n - (i + 1), by omega, rfl, hlt, q⟩)
  · have e : i = n := by omega
    subst e
    exact .inl ⟨Nat.le_refl _, hd ys H p⟩
end
theorem Same.new {H : Hp} {p : Addr} {o : HO} (h : H p = none) : Same H (upd H p o) := fun b u e => by rw [upd_ne (ne_of_none e h)]; exact e
mutual
def DV (K : PySem.W.Frag) (H : Hp) : PyData → V → Prop
  | .none, x => x = .non
  | .bool b, x => x = .bl b
  | .int i, x => x = .int i
  | .str z, x => x = .str z
  | .list ds, x => ∃ a xs, x = .ref a ∧ SqL K H a xs ∧ DVs K H ds xs
  | .tuple ds, x => ∃ a xs, x = .ref a ∧ SqT K H a xs ∧ DVs K H ds xs
  | .dict _, _ => False
def DVs (K : PySem.W.Frag) (H : Hp) : List PyData → List V → Prop
  | [], xs => xs = []
  | d :: ds, xs => ∃ y ys, xs = y :: ys ∧ DV K H d y ∧ DVs K H ds ys
end
section
variable {X : Cx} {pins : List (Addr × Obj)} {σ : St} {H : Hp} {s : Shared}
mutual
theorem DV.reads (I : Inv X pins σ H s) : ∀ {d : PyData} {x : V} {u : Value}, DV X.K H d x → RelV x u → ∃ as, Reads s.heap u d as
  | .none, x, u, h, r => by
    rw [DV] at h; subst h; cases r; exact ⟨_, .none⟩
  | .bool b, x, u, h, r => by
    rw [DV] at h; subst h; cases r; exact ⟨_, .bool b⟩
  | .int i, x, u, h, r => by
    rw [DV] at h; subst h; obtain ⟨t, rfl⟩ := r; exact ⟨_, .int i t⟩
  | .str z, x, u, h, r => by
    rw [DV] at h; subst h; obtain ⟨t, rfl⟩ := r; exact ⟨_, .str z t⟩
  | .list ds, x, u, h, r => by
    rw [DV] at h
    obtain ⟨a, xs, rfl, h2, h3⟩ := h
    cases r
    obtain ⟨its, rv, ⟨o, n, e, c, _, d⟩, _⟩ := I.list h2
    obtain ⟨as, q⟩ := DVs.reads I h3 rv
    exact ⟨_, .list e c d (by simpa using q)⟩
  | .tuple ds, x, u, h, r => by
    rw [DV] at h
    obtain ⟨a, xs, rfl, h2, h3⟩ := h
    cases r
    obtain ⟨its, rv, ⟨o, e, c, n, d⟩, _⟩ := I.tuple h2
    obtain ⟨as, q⟩ := DVs.reads I h3 rv
    exact ⟨_, .tuple e c d (by simpa using q)⟩
  | .dict _, x, u, h, r => by rw [DV] at h; exact h.elim
theorem DVs.reads (I : Inv X pins σ H s) : ∀ {ds : List PyData} {xs : List V} {us : List Value}, DVs X.K H ds xs → Vals xs us → ∃ as, ReadsAll s.heap us ds as
  | [], xs, us, h, r => by
    rw [DVs] at h; subst h; cases r; exact ⟨_, .nil⟩
  | d :: ds, xs, us, h, r => by
    rw [DVs] at h
    obtain ⟨y, ys, rfl, h2, h3⟩ := h
    cases r with
    | cons r rs =>
      obtain ⟨as, q⟩ := DV.reads I h2 r
      obtain ⟨bs, p⟩ := DVs.reads I h3 rs
      exact ⟨_, .cons q p⟩
end
end
inductive rEqD (K : PySem.W.Frag) (neg : Bool) (x y : V) (H : Hp) (Q : VK) : Prop
  | mk (d e : PyData) (h0 : DV K H d x) (h1 : DV K H e y) (h2 : SeqAt.shaped d = true) (h3 : SeqAt.shaped e = true) (h4 : Q (.bl (if neg then !PyData.eqv d e else PyData.eqv d e)) H) : rEqD K neg x y H Q
theorem o_eqD {X : Cx} (hu : X.A.units + 64 < cLine) : OpR X (compareOp .Eq) (rEqD X.K false) := by
  intro pins s σ H x y v u Q I rx ry h
  obtain ⟨d, e, h1, h2, s1, s2, q⟩ := h
  obtain ⟨as, ra⟩ := h1.reads I rx
  obtain ⟨bs, rb⟩ := h2.reads I ry
  exact eq_dataH ra rb s1 s2 hu ⟨.bl _, H, I, rfl, q⟩
theorem o_neD {X : Cx} (hu : X.A.units + 64 < cLine) : OpR X (compareOp .NotEq) (rEqD X.K true) := by
  intro pins s σ H x y v u Q I rx ry h
  obtain ⟨d, e, h1, h2, s1, s2, q⟩ := h
  obtain ⟨as, ra⟩ := h1.reads I rx
  obtain ⟨bs, rb⟩ := h2.reads I ry
  exact ne_dataH ra rb s1 s2 hu ⟨.bl _, H, I, rfl, q⟩
end L2
set_option Elab.async false
set_option linter.all false
set_option maxRecDepth 100000
set_option maxHeartbeats 4000000
namespace L2
open PySem PySem.Spec PyProof.Rows
def cutS (z : Str) (lo hi : Option Int) : Str := ⟨((z.cps.toList.drop (HT.sIx z.cps.size 0 lo)).take (HT.sIx z.cps.size z.cps.size hi - HT.sIx z.cps.size 0 lo)).toArray⟩
theorem clipS (n d : Nat) (v : Option Int) : (match v with | none => (d : Int) | some i => max 0 (min (if i < 0 then i + (n : Int) else i) (n : Int))) = ((HT.sIx n d v : Nat) : Int) := by
  cases v with
  | none => rfl
  | some i =>
    show max 0 (min (if i < 0 then i + (n : Int) else i) (n : Int)) = (((if i < 0 then (i + (n : Int)).toNat else min i.toNat n) : Nat) : Int)
    split <;> omega
theorem strIdx (lo hi : Option Int) (n : Nat) : Builtin.Str.strSliceIndices lo hi 1 n = (List.range (HT.sIx n n hi - HT.sIx n 0 lo)).map (HT.sIx n 0 lo + ·) := by
  have e : Builtin.Str.strSliceIndices lo hi 1 n = sliceRange ((HT.sIx n 0 lo : Nat) : Int) ((HT.sIx n n hi : Nat) : Int) 1 := by
    rw [← clipS n 0 lo, ← clipS n n hi]
    unfold Builtin.Str.strSliceIndices
    simp only [show (1 : Int) > 0 by decide, if_true]
    cases lo <;> cases hi <;> rfl
  rw [e, sliceRange_one]
theorem slice_cut (z : Str) (lo hi : Option Int) : Txt.slice z lo hi = cutS z lo hi := by
  have e : ((Builtin.Str.strSliceIndices lo hi 1 z.length).filterMap (z.cps[·]?)) = (z.cps.toList.drop (HT.sIx z.cps.size 0 lo)).take (HT.sIx z.cps.size z.cps.size hi - HT.sIx z.cps.size 0 lo) := by
    rw [strIdx]
    exact pick_run z.cps _ _
  unfold Txt.slice
  split
  · rename_i h
    have hl : (Builtin.Str.strSliceIndices lo hi 1 z.length).length = z.cps.size := by
      rw [Bool.and_eq_true] at h
      exact eq_of_beq h.2
    rw [strIdx, List.length_map, List.length_range] at hl
    have h1 := HT.sIx_le z.cps.size z.cps.size (Nat.le_refl _) hi
    have hl' : HT.sIx z.cps.size z.cps.size hi - HT.sIx z.cps.size 0 lo = z.cps.size := hl
    unfold cutS
    by_cases h0 : z.cps.size = 0
    · refine ext_toList ?_
      have hz : z.cps.toList = [] := List.length_eq_zero_iff.mp (by simpa using h0)
      show z.cps.toList = _
      rw [hz]
      simp
    · have h2 : HT.sIx z.cps.size 0 lo = 0 := by omega
      rw [hl', h2, List.drop_zero, List.take_of_length_le (by simp)]
  · rw [e]
    rfl
section
variable {X : Cx}
def rSlS : V → Option Int → Option Int → Hp → VK → Prop := fun x lo hi H Q => ∃ z, x = .str z ∧ z.length ≤ sizeLine ∧ Q (.str (cutS z lo hi)) H
theorem sl_str : SlR X rSlS := by
  intro pins s σ H x v vl vu lo hi sl Q I rx hs pl pu h
  obtain ⟨z, rfl, hz, q⟩ := h
  obtain ⟨t, rfl⟩ := rx
  refine ⟨"str", _, F.slot_str_getitem.lookup, typeIs_str _ _ _, ?_⟩
  rw [← slice_cut] at q
  have fin : ∀ t' k, EP X pins σ Q (.str (Txt.slice z lo hi) t') { s with toks := k } := fun t' k => ⟨.str _, H, I.tok _, ⟨_, rfl⟩, q⟩
  cases pl with
  | none =>
    cases pu with
    | none => exact wpAny_getItem_str_slice (l := none) (u := none) (st := none) hs rfl (post_val_or_str ⟨Nat.le_trans (Txt.slice_le z _ _) hz, fin⟩)
    | int j uj => exact wpAny_getItem_str_slice (l := none) (u := some (j, uj)) (st := none) hs rfl (post_val_or_str ⟨Nat.le_trans (Txt.slice_le z _ _) hz, fin⟩)
  | int i ui =>
    cases pu with
    | none => exact wpAny_getItem_str_slice (l := some (i, ui)) (u := none) (st := none) hs rfl (post_val_or_str ⟨Nat.le_trans (Txt.slice_le z _ _) hz, fin⟩)
    | int j uj => exact wpAny_getItem_str_slice (l := some (i, ui)) (u := some (j, uj)) (st := none) hs rfl (post_val_or_str ⟨Nat.le_trans (Txt.slice_le z _ _) hz, fin⟩)
theorem SlR.imp {r r' : V → Option Int → Option Int → Hp → VK → Prop} (h : SlR X r) (i : ∀ x lo hi H Q, r' x lo hi H Q → r x lo hi H Q) : SlR X r' :=
  fun pins s σ H x v vl vu lo hi sl Q I rx hs pl pu q => h pins s σ H x v vl vu lo hi sl Q I rx hs pl pu (i x lo hi H Q q)
theorem sl_any : SlR X (fun x lo hi H Q => match x with
    | .str z => z.length ≤ sizeLine ∧ Q (.str (cutS z lo hi)) H
    | .ref a => (∃ xs, SqL X.K H a xs ∧ ∀ p, H p = none → Q (.ref p) (upd H p (.lst (cutV xs lo hi)))) ∨
        ∃ xs, SqT X.K H a xs ∧ ¬ (HT.sIx xs.length 0 lo = 0 ∧ HT.sIx xs.length xs.length hi = xs.length) ∧ ∀ p, H p = none → Q (.ref p) (upd H p (.tup (cutV xs lo hi)))
    | _ => False) := (sl_list.or (sl_tup.or sl_str)).imp fun x lo hi H Q q => by
  cases x with
  | str z => exact .inr (.inr ⟨z, rfl, q.1, q.2⟩)
  | ref a =>
    rcases q with ⟨xs, h1, h2⟩ | ⟨xs, h1, h2, h3⟩
    · exact .inl ⟨a, xs, rfl, h1, h2⟩
    · exact .inr (.inl ⟨a, xs, rfl, h1, h2, h3⟩)
  | _ => exact (show False from q).elim
def rStarts : V → List V → Hp → VK → Prop := fun x xs H Q => match x, xs with
  | .str z, [.str y] => Q (.bl (Txt.startswith z y)) H
  | _, _ => False
def rIndexS : V → List V → Hp → VK → Prop := fun x xs H Q => match x, xs with
  | .str z, [.str y] => ∃ i rest, Builtin.Str.occurrences z y 0 z.length 1 = i :: rest ∧ Q (.int (i : Nat)) H
  | _, _ => False
variable {o e : Expr} {es : List Expr} {to : TE} {t : TA} {apos cpos : Pos}
end
end L2
set_option Elab.async false
set_option linter.all false
set_option maxRecDepth 100000
set_option maxHeartbeats 4000000
namespace L2
open PySem PySem.Spec PyProof.Rows
section
variable {X : Cx} {st : Stmt} {rest : List Stmt} {t u : TS} {e : Expr} {te : TE} {tt : TT}
def tSeqM (t u : TS) : TS := fun D σ H => ∃ M : St → Hp → Prop, t { D with nx := M } σ H ∧ ∀ σ' H', M σ' H' → u D σ' H'
def tCutE (t : TE) : TE := fun σ H Q => ∃ M : VK, t σ H M ∧ ∀ v H', M v H' → Q v H'
def tCutT (t : TT) : TT := fun σ H Q => ∃ M : Bool → Hp → Prop, t σ H M ∧ ∀ v H', M v H' → Q v H'
end
end L2
set_option Elab.async false
set_option linter.all false
set_option maxRecDepth 100000
set_option maxHeartbeats 4000000
namespace L2
open PySem PySem.Spec PyProof.Rows
section
variable {X : Cx} {pins : List (Addr × Obj)} {σ : St} {H : Hp} {s : Shared} {h' : Heap}
end
def Ite (a : Addr) : It := ⟨fun i H => ∃ xs x, H a = some (.lst xs) ∧ xs[i]? = some x,
  fun i H x H' => ∃ p y, H p = none ∧ x = .ref p ∧ (∀ xs, H a = some (.lst xs) → xs[i]? = some y) ∧ H' = upd H p (.tup [.int (i : Nat), y]), fun i H => ∃ xs, H a = some (.lst xs) ∧ xs.length ≤ i⟩
def iEnum (ta : TA) : TI := fun σ H R => ta σ H fun vs H1 => ∃ a xs, vs = [.ref a] ∧ H1 a = some (.lst xs) ∧ R (Ite a) H1
def Itz (a b : Addr) : It := ⟨fun i H => ∃ xs ys x y, H a = some (.lst xs) ∧ H b = some (.lst ys) ∧ xs[i]? = some x ∧ ys[i]? = some y,
  fun i H v H' => ∃ p x y, H p = none ∧ v = .ref p ∧ (∀ xs, H a = some (.lst xs) → xs[i]? = some x) ∧ (∀ ys, H b = some (.lst ys) → ys[i]? = some y) ∧ H' = upd H p (.tup [x, y]),
  fun i H => ∃ xs ys, H a = some (.lst xs) ∧ H b = some (.lst ys) ∧ (xs.length ≤ i ∨ ys.length ≤ i)⟩
def iZip (ta : TA) : TI := fun σ H R => ta σ H fun vs H1 => ∃ a b xs ys, vs = [.ref a, .ref b] ∧ H1 a = some (.lst xs) ∧ H1 b = some (.lst ys) ∧ R (Itz a b) H1
end L2
set_option Elab.async false
set_option linter.all false
set_option maxRecDepth 100000
set_option maxHeartbeats 4000000
namespace NumM
open PySem PySem.NumText
def digB (l : List Nat) : Bool := decide (1 ≤ l.length ∧ l.length ≤ 12) && l.all fun c => decide (48 ≤ c ∧ c ≤ 57)
def bareL (l : List Nat) : List Nat := if l.head? = some 45 then l.tail else l
def valS (l : List Nat) : Int := if l.head? = some 45 then -((digitsVal (bareL l) : Nat) : Int) else ((digitsVal (bareL l) : Nat) : Int)
def badZ (l : List Nat) : Bool := decide ((bareL l).head? = some 48) && decide (l ≠ [48])
def numO (l : List Nat) : Option Int := if (digB (bareL l) && !badZ l) = true then some (valS l) else none
def codesI (n : Int) : List Nat := (toString n : String).toList.map Char.toNat
theorem toNat_ofNat {c : Nat} (h : c < 128) : (Char.ofNat c).toNat = c := by
  have : c.isValidChar := Or.inl (by omega)
  simp [Char.ofNat, this, Char.toNat, Char.ofNatAux]
theorem back {cs : List Nat} (h : AllDigits cs) : (cs.map Char.ofNat).map Char.toNat = cs := by
  rw [List.map_map]
  induction cs with
  | nil => rfl
  | cons c cs ih =>
    rw [List.map_cons, ih h.tail]
    have := h.head
    show (Char.ofNat c).toNat :: cs = _
    rw [toNat_ofNat (by omega)]
end NumM
namespace L2
open PySem PySem.Spec PyProof.Rows
def mixed (c k : Int) : Int := if c % 4 = 1 then c / 2 ^ (2 + 40 * k).toNat % 2 ^ (40 : Int).toNat else
  ((((c + 7919 * k) % 2147483647 * 48271 + k) % 2147483647) * ((((c + 7919 * k) % 2147483647 * 48271 + k) % 2147483647) + 7) % 2147483629) * (((((c + 7919 * k) % 2147483647 * 48271 + k) % 2147483647) * ((((c + 7919 * k) % 2147483647 * 48271 + k) % 2147483647) + 7) % 2147483629) + 3) % 2147483587
def cellAt (ns : List Int) (k : Int) : Int := if k < ns.length then ns.getD k.toNat 0 else 7919 * k + 14
def oV : Option Int → V
  | none => .non
  | some n => .int n
def within (lo hi : Int) : Option Int → Option Int
  | some n => if lo ≤ n ∧ n ≤ hi then some n else none
  | none => none
def madeB (t S : Str) (m : Int) : Bool := decide (1 ≤ (t.cps.size : Int) ∧ (t.cps.size : Int) ≤ m) && t.cps.toList.all fun c => decide (c ∈ S.cps.toList)
end L2
set_option Elab.async false
set_option linter.all false
set_option maxRecDepth 100000
set_option maxHeartbeats 4000000
namespace SplM
open PySem
def splitC (c : Nat) : List Nat → List (List Nat)
  | [] => [[]]
  | a :: l => if a = c then [] :: splitC c l else match splitC c l with
    | [] => [[a]]
    | p :: r => (a :: p) :: r
def joinC (c : Nat) : List (List Nat) → List Nat
  | [] => []
  | [p] => p
  | p :: q :: r => p ++ c :: joinC c (q :: r)
end SplM
namespace L2
open PySem PySem.Spec PyProof.Rows
section
variable {X : Cx}
def rJoin (K : PySem.W.Frag) : V → List V → Hp → VK → Prop := fun x xs H Q => ∃ (z : Str) (p : Addr) (ts : List Str), x = .str z ∧ xs = [.ref p] ∧ (SqL K H p (ts.map V.str) ∨ SqT K H p (ts.map V.str)) ∧
  (ts.map (·.length)).sum + ts.length * z.length ≤ 16777216 ∧ Q (.str (Txt.join z ts)) H
open Builtin.Str in
theorem split_new {P : Program} {w : World} {A : Around} {E : Value → Shared → Prop} {s : Shared} {x y : Str} {t u : Tok} {Q : Value → Shared → Prop} (hy : (y.length == 0) = false) (hx : x.length ≤ sizeLine)
    (hp : (partsBetween x (occurrences x y 0 x.length (x.length + 1)) y.length).length ≤ sizeLine)
    (h : ∀ (l : List (Str × Tok)) (k : Nat), l.map (·.1) = Txt.split x y → Q (.ref s.heap.objs.size) { s with heap := s.heap.push { cls := .type "list", data := .seq (strValues l).toArray }, toks := k }) :
    wpAny (model P w) A (call (.builtin "str.split") [.str x t, .str y u]) Q E s := by
  by_cases h1 : (decide (x.length < y.length) || decide (strKind x < strKind y)) = true
  · refine call_meets F.slot_str_split (typeIs_str s x t) F.entry_str_split (F.args_str_split_2 _ _) (meets_str_split_cannot_occur x y t u h1) ?_
    exact h [(x, t)] s.toks (by unfold Txt.split; rw [if_pos h1]; rfl)
  · have h1' := eq_false_of_ne_true h1
    by_cases h2 : (occurrences x y 0 x.length (x.length + 1)).isEmpty = true
    · refine call_meets F.slot_str_split (typeIs_str s x t) F.entry_str_split (F.args_str_split_2 _ _) (meets_str_split_not_found x y t u h1' hy h2) ?_
      exact h [(x, t)] s.toks (by unfold Txt.split; rw [if_neg h1, if_pos h2]; rfl)
    · have h2' := eq_false_of_ne_true h2
      refine call_meets F.slot_str_split (typeIs_str s x t) F.entry_str_split (F.args_str_split_2 _ _) (meets_str_split_sep x y t u h1' hy h2' hx hp) ?_
      have := h (numbered s.toks (partsBetween x (occurrences x y 0 x.length (x.length + 1)) y.length)) (s.toks + (partsBetween x (occurrences x y 0 x.length (x.length + 1)) y.length).length)
        ((numbered_texts _ _).trans (by unfold Txt.split; rw [if_neg h1, if_neg h2]))
      rw [← strsFrom_eq] at this
      exact this
def rSplit : V → List V → Hp → VK → Prop := fun x xs H Q => ∃ (z : Str) (c : Nat), x = .str z ∧ xs = [.str ⟨#[c]⟩] ∧ z.cps.size + 2 ≤ sizeLine ∧
  ∀ (l : Addr) (ts : List Str), H l = none → ts.map (fun t => t.cps.toList) = SplM.splitC c z.cps.toList → Q (.ref l) (upd H l (.lst (ts.map V.str)))
abbrev TJ := Str → St → Hp → (Str → Hp → Prop) → Prop
def PJ (X : Cx) (vs : List Expr) (t : TJ) : Prop := ∀ (pins : List (Addr × Obj)) (s : Shared) (σ : St) (H : Hp) (acc : Str) (Q : VK), Inv X pins σ H s → t acc σ H (fun out H' => Q (.str out) H') →
  wpAny (model X.prog X.w) X.A (joinParts acc (evalEach vs X.env)) (EP X pins σ Q) X.xe s
def jNil : TJ := fun acc _ H R => acc.length ≤ sizeLine ∧ R acc H
def jCons (te : TE) (tr : TJ) : TJ := fun acc σ H R => te σ H fun x H1 => match x with
  | .str y => (acc ++ y).length ≤ sizeLine ∧ tr (acc ++ y) σ H1 R
  | _ => False
def tFstr (t : TJ) : TE := fun σ H Q => t Str.empty σ H fun out H' => Q (.str out) H'
def tFmt (te : TE) : TE := fun σ H Q => te σ H fun x H1 => match x with
  | .str y => y.length ≤ sizeLine ∧ Q (.str y) H1
  | .int i => i.natAbs.log2 < 1920 ∧ Q (.str (toString i)) H1
  | _ => False
variable {o e : Expr} {es : List Expr} {to : TE} {t : TA} {apos cpos : Pos}
theorem pe_m.append (ho : PE X o to) (ha : PA X (e :: es) t) (hbase : attributeBase o "append" X.env (eval o X.env) = eval o X.env := by rfl)
    (hfew : ((backTo cpos (starEach (e :: es) X.env)).all (fun x => !x.1) && (backToKw cpos (keywordEach [] X.env)).all (fun x => x.1.isSome) && decide ((e :: es).length + ([] : List Keyword).length + (if ([] : List Keyword).isEmpty then 0 else 1) < 30)) = true := by rfl)
    (hline : (apos.endLine == cpos.line) = true := by rfl) (hs : starEach (e :: es) X.env = (false, eval e X.env) :: starEach es X.env := by rfl) (hplain : (backTo cpos (starEach es X.env)).any (·.1) = false := by rfl) :
    PE X (.Call (.Attribute o "append" apos) (e :: es) [] cpos) (tBM X.K "list" rAppend to t) := pe_bm F.plainAttrs_list F.slot_list_append F.type_list_append mt_append ho ha hbase hfew hline hs hplain
theorem pe_m.clear (ho : PE X o to) (hbase : attributeBase o "clear" X.env (eval o X.env) = eval o X.env := by rfl) (hline : (apos.endLine == cpos.line) = true := by rfl) :
    PE X (.Call (.Attribute o "clear" apos) [] [] cpos) (tBM0 X.K "list" rClear to) := pe_bm0 F.plainAttrs_list F.slot_list_clear F.type_list_clear mt_clear ho hbase hline
end
def TK (H H' : Hp) : Prop := ∀ b xs, H b = some (.tup xs) → H' b = some (.tup xs)
theorem TK.trans {H H1 H2 : Hp} (a : TK H H1) (b : TK H1 H2) : TK H H2 := fun c o h => b c o (a c o h)
theorem Same.put {H H' : Hp} {D : Addr} {o : HO} (e : Same H H') (h : H D = none) : Same H (upd H' D o) := fun b u q => by
  rw [upd_ne (ne_of_none q h)]; exact e b u q
theorem atI_cons {α : Type} {xs : List α} {i : Int} {v : α} (k : Nat) (hk : (k : Int) = i) (h : xs[k]? = some v) : atI xs i = some v := by rw [← hk]; exact atI_nat h
def nameB (t : Str) : Bool := madeB t "abcdefghijklmnopqrstuvwxyz" 8
end L2
set_option Elab.async false
set_option linter.all false
set_option maxRecDepth 100000
set_option maxHeartbeats 4000000
namespace L2
open PySem PySem.Spec PyProof.Rows
structure U where
  name : Str
  value : Int
  size : Int
  path : List Str
def uV (p : Addr) (u : U) : List V := [.str u.name, .int u.value, .int u.size, .ref p]
def IsU (H : Hp) (u : U) (x : V) : Prop := ∃ a p, x = .ref a ∧ H a = some (.tup (uV p u)) ∧ H p = some (.tup (u.path.map V.str))
abbrev AllU (H : Hp) : List U → List V → Prop := Paired (IsU H)
theorem AllU.len {H : Hp} {us : List U} {xs : List V} (h : AllU H us xs) : us.length = xs.length := Paired.length h
structure GoodU (u : U) : Prop where
  nm : nameB u.name = true
  v0 : -1000000000 ≤ u.value
  v1 : u.value ≤ 1000000000
  s0 : 1 ≤ u.size
  s1 : u.size ≤ 1000000
  pl : u.path.length ≤ 3
  pn : ∀ n ∈ u.path, nameB n = true
structure GoodL (us : List U) : Prop where
  l1 : 1 ≤ us.length
  l2 : us.length ≤ 24
  each : ∀ u ∈ us, GoodU u
  nd : (us.map U.name).Nodup
  pth : ∀ u ∈ us, ∀ v ∈ us, u.path.length = v.path.length
def pathS : List Str → Str
  | [] => "-"
  | p :: r => Txt.join "." (p :: r)
def lineW (u : U) : List Str := [u.name, toString u.value, toString u.size, pathS u.path]
def lineS (u : U) : Str := Txt.join " " (lineW u)
def uD (u : U) : PyData := .tuple [.str u.name, .int u.value, .int u.size, .tuple (u.path.map PyData.str)]
section
variable {X : Cx} {K : PySem.W.Frag}
theorem ix_seqK (h : X.K = K) : IxR X (rIx K) := h ▸ ix_seq
theorem pg_tupK (h : X.K = K) {es : List Expr} {k : Nat} {t : TGs} {n : Nat} {pos : Pos} (hc : X.calm = true) (hp : PGs X es t) (hn : (assignEach es X.env).length = n := by rfl) (hst : (assignEach es X.env).findIdx? (·.1) = none := by rfl) :
    PG X (.Tuple es k pos) (gTup K n t) := h ▸ pg_tup hc hp hn hst
end
end L2
set_option Elab.async false
set_option linter.all false
set_option maxRecDepth 100000
set_option maxHeartbeats 4000000
namespace L2
open PySem PySem.Spec PyProof.Rows
structure XCls (K : PySem.W.Frag) (D : Addr) : Prop where
  ga : PySem.W.findIn K (.ref D) "__getattribute__" = some (some (.builtin "BaseException.__getattribute__"))
  gn : PySem.W.findIn K (.ref D) "__getattr__" = some none
  cl : PySem.W.findIn K (.ref D) "__class__" = some (some (.builtin "object.__class__"))
  mb : PySem.W.mroIn K D (.type "BaseException") = some true
  mo : PySem.W.mroIn K D (.type "object") = some true
  isc : (PySem.W.clsIn K D).isSome = true
section
variable {prog : Program} {w : World} {A : Around} {E : Value → Shared → Prop} {h : Heap} {g : Array GenState} {d : Drawn} {t : Nat} {os : OsState} {a D : Addr} {o : Obj} {K : PySem.W.Frag}
theorem xc_check {M : Model} {nameV : Value} {Q : Unit → Shared → Prop} (c : XCls K D) (X : K.In h) (hx : h.get? a = some o) (hc : o.cls = .ref D) (hq : Q () ⟨h, g, d, t, os⟩) :
    wpAny M A (checkBuiltinCall "BaseException.__getattribute__" ⟨[.ref a, nameV], []⟩) Q E ⟨h, g, d, t, os⟩ := by
  have hk : builtinKind "BaseException.__getattribute__" = some .slot := by decide +kernel
  have hsplit : splitId "BaseException.__getattribute__" = some ("BaseException", "__getattribute__") := by decide +kernel
  have ha := F.args_bexc_ga (.ref a) nameV
  simp only [checkBuiltinCall, hk, hsplit]
  refine wpAny_bind ?_
  unfold isInstance
  repeat (first | (with_reducible refine wpAny_loadPart_at hx ?_; rw [hc]) | with_reducible refine (PySem.W.looks_mroIn X c.mb).at ?_ | wp_step)
  exact hq
theorem xc_get {R : Result → Shared → Prop} (c : XCls K D) (X : K.In h) (hx : h.get? a = some o) (hc : o.cls = .ref D) (hq : R (.ok (.ret (.ref D))) ⟨h, g, d, t, os⟩) :
    codeAny (model prog w) A (.call (.builtin "getset_descriptor.__get__") ⟨[.builtin "object.__class__", .ref a, .ref D], []⟩) R ⟨h, g, d, t, os⟩ := by
  have hT5 : (⟨h, g, d, t, os⟩ : Shared).TypeIs (.builtin "object.__class__") "getset_descriptor" := F.typeOf_object_class
  have hO : PySem.W.Looks (model prog w) h (isSubtype (.ref D) (.type (".".intercalate ("object.__class__".cutAt '.').dropLast))) true := by
    rw [F.owner_object_class]; exact PySem.W.looks_mroIn X c.mo
  refine codeAny_call_builtin F.slot_gs_get.plain F.entry_gs_get (F.slot_gs_get.check _ _ _ _ _ _ _ _ hT5 (F.args_gs_get _ _ _) ?_)
  repeat (any_goals (first | assumption | (with_reducible refine wpAny_loadPart_at hx ?_; rw [hc]) | with_reducible refine hO.at ?_ | wp_step))
  refine ⟨Code.quiet_builtin _ (by decide +kernel), codeAny_builtin F.entry_object_class ?_⟩
  repeat (any_goals (first | assumption | (with_reducible refine wpAny_loadPart_at hx ?_; rw [hc]) | wp_step))
theorem xc_entry {tk : Tok} {Q : Fin → Shared → Prop} (c : XCls K D) (X : K.In h) (hx : h.get? a = some o) (hc : o.cls = .ref D) (hq : Q (.done (.ret (.ref D))) ⟨h, g, d, t, os⟩) :
    wpAny (model prog w) A (Builtin.«object.__getattribute__» ⟨[.ref a, .str "__class__" tk], []⟩) Q E ⟨h, g, d, t, os⟩ := by
  have hT5 : (⟨h, g, d, t, os⟩ : Shared).TypeIs (.builtin "object.__class__") "getset_descriptor" := F.typeOf_object_class
  have f5 := F.typeOf_object_class
  have f6 := F.slot_gs_get.lookup
  have f7 := F.slot_gs_set.lookup
  repeat (any_goals (first | assumption | (with_reducible refine wpAny_loadPart_at hx ?_; rw [hc]) | with_reducible refine (PySem.W.looks_findIn X c.cl).at ?_ | wp_step))
  refine xc_get c X hx hc ?_
  repeat (any_goals (first | assumption | wp_step))
theorem xc_by {tk : Tok} {fill expr : Bool} {Q : Value → Shared → Prop} (c : XCls K D) (X : K.In h) (hx : h.get? a = some o) (hc : o.cls = .ref D) (hq : Q (.ref D) ⟨h, g, d, t, os⟩) :
    wpAny (model prog w) A (getAttrBy (.ref a) (.str "__class__" tk) fill expr) Q E ⟨h, g, d, t, os⟩ := by
  have f3 := PySem.F.attrBase_ValueError.ga.bind (.ref a)
  have hx0 : (expr && onTheHeap (Value.builtin "BaseException.__getattribute__")) = false := by cases expr <;> rfl
  have hx2 : (Value.builtin "BaseException.__getattribute__" == Value.builtin "object.__getattribute__") = false := by decide +kernel
  have hx1 : (onTheHeap (Value.ref D) && Value.builtin "BaseException.__getattribute__" == Value.builtin "object.__getattribute__") = false := by rw [hx2]; rfl
  repeat (any_goals (first | assumption | (with_reducible refine wpAny_loadPart_at hx ?_; rw [hc]) | with_reducible refine (PySem.W.looks_findIn X c.ga).at ?_ | with_reducible refine (PySem.W.looks_findIn X c.gn).at ?_ | wp_step))
  refine codeAny_call_builtin PySem.F.attrBase_ValueError.ga.plain F.entry_bexc_ga (xc_check c X hx hc (xc_entry c X hx hc ?_))
  repeat (any_goals (first | assumption | wp_step))
theorem xc_attr {Q : Option Value → Shared → Prop} (c : XCls K D) (X : K.In h) (hx : h.get? a = some o) (hc : o.cls = .ref D) (hq : Q (some (.ref D)) ⟨h, g, d, t + 1, os⟩) :
    wpAny (model prog w) A (getAttr? (.ref a) "__class__") Q E ⟨h, g, d, t, os⟩ := by
  unfold getAttr? getAttrBy?
  repeat (any_goals (first | assumption | with_reducible apply xc_by c X hx hc | wp_step))
end
def XAt (a D : Addr) (h : Heap) : Prop := ∃ o, h.get? a = some o ∧ o.cls = .ref D
theorem kitx_exc {K : PySem.W.Frag} {a D : Addr} (c : XCls K D) : PySem.W.KitX K (.ref a) (.ref D) (XAt a D) where
  ty := fun M h _ p => by
    obtain ⟨o, h1, h2⟩ := p
    exact h2 ▸ (PySem.W.Looks.ld h1).andThen .now
  it := fun _ _ X _ => by
    obtain ⟨cdD, hcD⟩ := Option.isSome_iff_exists.mp c.isc
    unfold PySem.W.clsIn at hcD
    split at hcD
    · rename_i c' d' cd' sl' ho
      intro A' Q' E' s' k q
      unfold isType loadHead
      exact wpAny_bind (wpAny_loadPart (k _ _ (X _ _ ho)) (wpAny_pure q))
    · cases hcD
  ne := fun h tp dd its n sl X htp => by
    obtain ⟨cdD, hcD⟩ := Option.isSome_iff_exists.mp c.isc
    refine Bool.eq_false_iff.mpr fun q => ?_
    have e : D = tp := Value.ref.inj (beq_iff_eq.mp q)
    subst e
    unfold PySem.W.clsIn at hcD
    split at hcD
    · rename_i c' d' cd' sl' ho
      have z := (X _ _ ho).symm.trans htp
      cases z
    · cases hcD
  ca := fun {_ _ _ _ _ s} X p k => by
    obtain ⟨h, g, d, t, os⟩ := s
    obtain ⟨o, h1, h2⟩ := p
    exact xc_attr c X h1 h2 k
end L2
set_option Elab.async false
set_option linter.all false
set_option maxRecDepth 100000
set_option maxHeartbeats 4000000
namespace L2
open PySem PySem.Spec PyProof.Rows
theorem un_more {fs : List Addr} {H0 H : Hp} {h0 h h2 : Heap} (u : Un fs [] H0 H h0 h) (k : ∀ b o, (∃ o', h0.get? b = some o') → b ∉ fs → h.get? b = some o → h2.get? b = some o)
    (sl : ∀ b o, b ∈ fs → h.get? b = some o → ∃ l, h2.get? b = some { o with slots := l }) : Un fs [] H0 H h0 h2 where
  keep := fun b o q n hf hx => k b o ⟨o, q⟩ hf (u.keep b o q n hf hx)
  slot := fun b o q n hf hx => by
    obtain ⟨l, e⟩ := u.slot b o q n hf hx
    obtain ⟨l', e'⟩ := sl b _ hf e
    exact ⟨l', e'⟩
  free := u.free
  there := fun b o q hx => by
    obtain ⟨o', e⟩ := u.there b o q hx
    by_cases hf : b ∈ fs
    · obtain ⟨l, e'⟩ := sl b o' hf e
      exact ⟨_, e'⟩
    · exact ⟨o', k b o' ⟨o, q⟩ hf e⟩
  tups := u.tups
  frzs := u.frzs
  tbls := u.tbls
theorem hok_more {P : Program} {w : World} {H : Hp} {h h2 : Heap} (x : HOk P w H h) (k : ∀ b o u, H b = some u → h.get? b = some o → h2.get? b = some o) : HOk P w H h2 := fun a o e =>
  (x a o e).stay (fun b u hb q => by
    rcases hb with z | z
    · rw [z] at q ⊢
      exact k a u o e q
    · exact k b u _ z q) (fun _ q => q) fun _ _ q => q
theorem ObjOk.isObj {P : Program} {w : World} {H : Hp} {h : Heap} {a : Addr} {o : HO} (x : ObjOk P w H h a o) : ∃ u, h.get? a = some u := by
  cases o with
  | lst xs => obtain ⟨_, _, _, _, e⟩ := x; exact ⟨_, e⟩
  | tup xs => obtain ⟨_, _, _, _, e, _⟩ := x; exact ⟨_, e⟩
  | dK kvs => obtain ⟨_, _, _, _, o, _, _, e, _⟩ := x; exact ⟨_, e⟩
  | dT kvs => obtain ⟨_, _, _, _, o, _, _, e, _⟩ := x; exact ⟨_, e⟩
  | set S n => obtain ⟨o, _, _, _, e, _⟩ := x; exact ⟨_, e⟩
  | ins C dx fs => obtain ⟨_, _, _, e, _⟩ := x; exact ⟨_, e⟩
  | own y => exact x
  | xd fs => obtain ⟨_, ⟨_, _, _, e, _⟩, _⟩ := x; exact ⟨_, e⟩
  | rng lo hi => obtain ⟨_, _, _, e⟩ := x; exact ⟨_, e⟩
  | frz ob u => exact ⟨_, x.1⟩
  | tbl ps => exact ⟨_, x⟩
  | met f y => exact ⟨_, x⟩
  | ext φ => exact x.2.1
structure XF (P : Program) (w : World) (outer : List Env) (H : Hp) (s : Shared) (x D : Addr) (a0 : Value) (B : Heap) (H' : Hp) (s' : Shared) : Prop where
  os : s'.os = s.os
  bare : AllBare s'.gens
  un : Un (frs outer) [] H H' s.heap s'.heap
  hok : HOk P w H' s'.heap
  fly : Heap.FlyingW B outer x (.ref D) a0 s'.heap
  cov : ∀ b o, s'.heap.get? b = some o → ((∃ o', s.heap.get? b = some o') ∨ (∃ u, H' b = some u)) → b ∉ frs outer → B.get? b = some o
def CXE (P : Program) (w : World) : CXT := fun outer H s E e s' => ∃ x D a0 B H', e = .ref x ∧ XF P w outer H s x D a0 B H' s' ∧ E (.ref D) none H'
section
variable {P : Program} {w : World} {outer : List Env} {H H' : Hp} {s s' : Shared} {x D : Addr} {a0 : Value} {B : Heap}
end
section
variable {X : Cx} {pins : List (Addr × Obj)} {σ : St} {H H' : Hp} {s s' : Shared} {x D : Addr} {a0 : Value} {B h2 : Heap}
theorem old_out (J : Inv X pins σ H' s') {b : Addr} (h : ∃ o', X.s₀.heap.get? b = some o') (hn : b ∉ frs X.outer) : b ∉ frs X.stack := fun hb => by
  obtain ⟨o', e⟩ := h
  rcases List.mem_cons.mp (J.stkSub b hb) with z | z
  · have h1 := Heap.lt_size e
    have h2 := J.ok.above
    rw [z] at h1
    exact absurd (Nat.lt_of_lt_of_le h1 h2) (Nat.lt_irrefl _)
  · exact hn z
theorem trk_out (J : Inv X pins σ H' s') {b : Addr} {u : HO} (e : H' b = some u) : b ∉ frs X.stack := fun hb => by
  rw [J.stkFree b hb] at e
  cases e
end
section
variable {P : Program} {w : World} {K : PySem.W.Frag} {mg : Str → Option Value} {base : Heap} {N : List Str} {qual : Str} {scope : Scope} {f : Addr} {cdv : Value} {A : Around} {outer : List Env} {s0 : Shared} {H0 : Hp} {E : XK}
abbrev cxE (P : Program) (w : World) (K : PySem.W.Frag) (mg : Str → Option Value) (base : Heap) (N : List Str) (qual : Str) (scope : Scope) (f : Addr) (cdv : Value) (A : Around) (outer : List Env) (s0 : Shared) (H0 : Hp) (E : XK) : Cx :=
  cxOf (CXE P w) P w K mg base N qual scope f cdv A outer s0 H0 E
def tRaise (E : XK) (C : Addr) : TS := fun _ _ H => E (.ref C) none H
end
section
variable {P : Program} {w : World} {K : PySem.W.Frag} {mg : Str → Option Value} {base : Heap}
end
end L2
set_option Elab.async false
set_option linter.all false
set_option maxRecDepth 100000
set_option maxHeartbeats 4000000
namespace L2
open PySem PySem.Spec PyProof.Rows
structure XHd (K : PySem.W.Frag) (C : Addr) : Prop where
  isc : (PySem.W.clsIn K C).isSome = true
  ty : PySem.W.typeIn K (.ref C) = some (.type "type")
  mb : PySem.W.mroIn K C (.type "BaseException") = some true
theorem x_isType {K : PySem.W.Frag} {M : Model} {h : Heap} {C : Addr} (X : K.In h) (e : (PySem.W.clsIn K C).isSome = true) : PySem.W.Looks M h (isType (.ref C)) true := by
  obtain ⟨cdD, hcD⟩ := Option.isSome_iff_exists.mp e
  unfold PySem.W.clsIn at hcD
  split at hcD
  · rename_i c' d' cd' sl' ho
    intro A' Q' E' s' k q
    unfold isType loadHead
    exact wpAny_bind (wpAny_loadPart (k _ _ (X _ _ ho)) (wpAny_pure q))
  · cases hcD
theorem x_matches {K : PySem.W.Frag} {M : Model} {h : Heap} {C D x : Addr} {ob : Obj} (X : K.In h) (c : XHd K C) (hx : h.get? x = some ob) (hc : ob.cls = .ref D) (hm : PySem.W.mroIn K D (.ref C) = some true) :
    PySem.W.Looks M h (excMatches (.ref x) (.ref C)) true := by
  have L1 : PySem.W.Looks M h (typeOf (.ref C)) (.type "type") := PySem.W.looks_typeIn X c.ty
  have L2' : PySem.W.Looks M h (isSubtype (.type "type") (.type "tuple")) false := PySem.W.Looks.of_pure tc_notTuple
  have L3 : PySem.W.Looks M h (isInstance (.ref C) (.type "tuple")) false := L1.andThen L2'
  have L4 : PySem.W.Looks M h (isExcClass (.ref C)) true := by
    unfold isExcClass
    exact (x_isType X c.isc).andThen (PySem.W.looks_mroIn X c.mb)
  have L5 : PySem.W.Looks M h (typeOf (.ref x)) (.ref D) := hc ▸ (PySem.W.Looks.ld hx).andThen .now
  have L6 : PySem.W.Looks M h (isSubtype (.ref D) (.ref C)) true := PySem.W.looks_mroIn X hm
  intro A Q E s k q
  unfold excMatches
  refine wpAny_bind (L3 A _ E s k ?_)
  rw [if_neg Bool.false_ne_true]
  refine wpAny_bind (wpAny_pure ?_)
  simp only [List.forIn_cons, List.forIn_nil, bind_assoc, pure_bind]
  refine wpAny_bind (L4 A _ E s k ?_)
  simp only [Bool.not_true, Bool.false_eq_true, if_false, pure_bind]
  refine wpAny_bind (L5 A _ E s k ?_)
  refine wpAny_bind (L6 A _ E s k ?_)
  simp only [if_true, pure_bind]
  exact wpAny_pure q
def Cx.inX (X : Cx) (x : Addr) : Cx := { X with A := X.A.mark (some (.ref x)), calm := false, xe := fun _ _ => False }
section
variable {X : Cx} {pins : List (Addr × Obj)} {σ : St} {H H' H1 : Hp} {s s' s1 : Shared} {x D C : Addr} {a0 : Value} {B h2 : Heap}
theorem Inv.inX (I : Inv X pins σ H s) (x : Addr) : Inv (X.inX x) pins σ H s :=
  ⟨⟨I.ok.mod, I.ok.kind, I.ok.glob, I.ok.blt, I.ok.above, I.ok.inj, I.ok.has, I.ok.cab, fun z => absurd (show false = true from z) Bool.false_ne_true, I.ok.frames, I.ok.stk, I.ok.exf, I.ok.bs, I.ok.bsz, I.ok.noex, I.ok.exfs, I.ok.funs, I.ok.frf⟩,
    I.os, I.bare, I.base, I.loc, I.cell, I.free, I.freeC, I.pin, I.hok, I.len⟩
theorem Inv.outX (hk : X.calm = true → X.A.handled = none) (I : Inv (X.inX x) pins σ H s) : Inv X pins σ H s :=
  ⟨⟨I.ok.mod, I.ok.kind, I.ok.glob, I.ok.blt, I.ok.above, I.ok.inj, I.ok.has, I.ok.cab, hk, I.ok.frames, I.ok.stk, I.ok.exf, I.ok.bs, I.ok.bsz, I.ok.noex, I.ok.exfs, I.ok.funs, I.ok.frf⟩,
    I.os, I.bare, I.base, I.loc, I.cell, I.free, I.freeC, I.pin, I.hok, I.len⟩
theorem Inv.gone {i : Nat} {n : Str} {m : Str → Option Value} {v : Option Value} {h' : Heap} {t' : Nat} (I : Inv X pins σ H s) (hN : X.N.Nodup) (hi : X.N[i]? = some n) (hl : X.env.kindOf n = some .local)
    (hm : ∀ (j : Nat) (y : Str) (w : V), X.N[j]? = some y → σ[j]? = some (some w) → Vis X.env.scope y → ∃ u, RelV w u ∧ Look X.env s.heap m y u)
    (hn : h'.Ns X.env.locals (fun y => if y = n then v else m y)) (sb : Heap.SameBut X.env.locals s.heap h') : Inv X pins (σ.set i none) H { s with heap := h', toks := t' } := by
  have lt : i < σ.length := by rw [I.len]; exact (List.getElem?_eq_some_iff.mp hi).1
  have ne0 : ∀ b o, X.s₀.heap.get? b = some o → b ≠ X.env.locals := fun b o e => Nat.ne_of_lt (Nat.lt_of_lt_of_le (Heap.lt_size e) I.ok.above)
  have u := I.base
  refine ⟨I.ok, I.os, I.bare, ⟨fun b o e n hf hx => (sb.2 b (ne0 b o e)).trans (u.keep b o e n hf hx), fun b o e n hf hx => ?_, u.free, fun b o e hx => ?_, u.tups, u.frzs, u.tbls⟩, ⟨_, hn, fun j y w e1 e2 e3 => ?_⟩, fun x c e => ?_, I.free, I.freeC, fun p hp => ?_, ?_, by rw [List.length_set]; exact I.len⟩
  · obtain ⟨sl, e'⟩ := u.slot b o e n hf hx
    exact ⟨sl, (sb.2 b (ne0 b o e)).trans e'⟩
  · obtain ⟨o', e'⟩ := u.there b o e hx
    exact ⟨o', (sb.2 b (ne0 b o e)).trans e'⟩
  · have hij : i ≠ j := fun z => by
      subst z
      rw [List.getElem?_set_self lt] at e2
      cases e2
    rw [List.getElem?_set_ne hij] at e2
    have hy : y ≠ n := fun z => by
      subst z
      exact hij ((List.getElem?_inj (List.getElem?_eq_some_iff.mp hi).1 hN).mp (hi.trans e1.symm))
    obtain ⟨u', r, l⟩ := hm j y w e1 e2 e3
    refine ⟨u', r, ?_⟩
    rcases l with ⟨z1, z2⟩ | ⟨z1, c, z2, z3⟩
    · exact .inl ⟨z1, by simp only [if_neg hy]; exact z2⟩
    · exact .inr ⟨z1, c, z2, z3.sameBut sb (I.cne y c z2)⟩
  · obtain ⟨v', z⟩ := I.cell x c e
    exact ⟨v', z.sameBut sb (I.cne x c e)⟩
  · obtain ⟨p1, p2, p3, p4, p5⟩ := I.pin p hp
    exact ⟨(sb.2 _ p3).trans p1, p2, p3, p4, p5⟩
  · exact hok_more I.hok fun b o u' e q => (sb.2 b fun z => by rw [z, I.free] at e; cases e).trans q
end
end L2
set_option Elab.async false
set_option linter.all false
set_option maxRecDepth 100000
set_option maxHeartbeats 4000000
namespace L2
open PySem PySem.Spec PyProof.Rows
section
variable {X : Cx} {pins : List (Addr × Obj)} {σ : St} {H H' H1 : Hp} {s s' s1 : Shared} {x D C : Addr} {a0 : Value} {B h2 : Heap} {cn en : Str} {ie : Nat} {b₀ : Stmt} {suite : List Stmt} {cp hp : Pos} {ts : TS} {DE : Ends}
def Ends.asG (DE : Ends) (ie : Nat) : Ends := { nx := fun σ' H' => DE.nx (σ'.set ie none) H', rt := fun _ _ => False }
end
def tTryX (K : PySem.W.Frag) (C : Addr) (sp : Sp) (dvs : List V) (t : TA) (ie : Nat) (ts : TS) : TS := fun DE σ H => t σ H fun vs H1 => sp (vs ++ dvs) H1 (fun _ H2 => DE.nx σ H2) (fun cls _ H2 => ∃ D, cls = .ref D ∧
  PySem.W.mroIn K D (.ref C) = some true ∧ ∀ x, H2 x = none → ts (DE.asG ie) (σ.set ie (some (.ref x))) (upd H2 x (.ext (XAt x D))))
section
variable {X : Cx} {k ie : Nat} {f C : Addr} {fd : FuncData} {ps : List Str} {sp : Sp} {dvs : List V} {ds : List Value} {fx cn en : Str} {p pos p2 cp hp tp : Pos} {e : Expr} {es : List Expr} {t : TA} {b₀ : Stmt} {suite : List Stmt} {ts : TS}
end
def TyX (K : PySem.W.Frag) (H : Hp) (x : V) (t : Value) : Prop := TyOf K H x t ∨ ∃ a D φ, x = .ref a ∧ t = .ref D ∧ XCls K D ∧ H a = some (.ext φ) ∧ ∀ h, φ h → XAt a D h
section
variable {X : Cx}
open PySem.W in
theorem kit_ofX {pins : List (Addr × Obj)} {σ : St} {H : Hp} {s : Shared} {x : V} {u t : Value} (I : Inv X pins σ H s) (rx : RelV x u) (ty : TyX X.K H x t) :
    ∃ Hh : Heap → Prop, KitX X.K u t Hh ∧ Hh s.heap ∧ u ≠ .builtin "__main__.__loader__#opaque" := by
  rcases ty with ty | ⟨a, D, φ, rfl, rfl, c, e, hφ⟩
  · exact kit_of I rx ty
  · cases (show u = Value.ref a from rx)
    exact ⟨_, kitx_exc c, hφ _ (I.hok a _ e).1, fun z => nomatch z⟩
def rIsX (K : PySem.W.Frag) : List V → Hp → VK → Prop := fun xs H Q => ∃ x c t b, xs = [x, c] ∧ isCls c = true ∧ TyX K H x t ∧ PySem.W.kitOne K t (cVal c) = some b ∧ Q (.bl b) H
def rIsXT (K : PySem.W.Frag) : List V → Hp → VK → Prop := fun xs H Q => ∃ x p cs t b, xs = [x, .ref p] ∧ H p = some (.tup cs) ∧ (cs.all isCls) = true ∧ TyX K H x t ∧ PySem.W.kitAny K t (cs.map cVal) = some b ∧ Q (.bl b) H
end
end L2
set_option Elab.async false
set_option linter.all false
set_option maxRecDepth 100000
set_option maxHeartbeats 4000000
namespace L2
open PySem PySem.Spec PyProof.Rows
section
variable {prog : Program} {w : World} {A : Around} {E : Value → Shared → Prop} {h : Heap} {g : Array GenState} {d : Drawn} {t : Nat} {os : OsState} {a D dx : Addr} {o : Obj} {vs : Array Value} {cd : ClassData} {K : PySem.W.Frag} {name : Str} {mA : Str → Option Value} {v : Value}
theorem xa_entry {tk : Tok} {Q : Fin → Shared → Prop} (X : K.In h) (na : PySem.W.findIn K (.ref D) name = some none) (hk : PySem.W.clsIn K D = some cd) (hkd : cd.hasDict = true) (hx : h.get? a = some o) (hc : o.cls = .ref D) (hdt : o.data = .fields vs) (hd : o.dict = some dx)
    (hn : h.Ns dx mA) (hv : mA name = some v) (hq : Q (.done (.ret v)) ⟨h, g, d, t, os⟩) : wpAny (model prog w) A (Builtin.«object.__getattribute__» ⟨[.ref a, .str name tk], []⟩) Q E ⟨h, g, d, t, os⟩ := by
  unfold Builtin.«object.__getattribute__»
  repeat (any_goals (first | assumption | (with_reducible refine wpAny_loadPart_at hx ?_; rw [hc]) | with_reducible refine (PySem.W.looks_findIn X na).at ?_ | wp_step))
  rw [hdt]
  show wpAny _ _ (instanceDict a false) _ _ _
  unfold instanceDict
  refine wpAny_bind (wpAny_loadPart_at hx ?_)
  rw [hc]
  refine wpAny_bind ((PySem.W.looks_clsIn X hk).at ?_)
  rw [hkd, hd]
  simp only [Bool.not_true, Bool.false_eq_true, if_false]
  refine wpAny_pure ?_
  unfold Builtin.ObjectAttr.inDict
  refine wpAny_nsGet hn ?_
  rw [hv]
  refine wpAny_bind (wpAny_rule (wpAny_pure ?_))
  exact wpAny_pure hq
theorem xa_by {tk : Tok} {fill expr : Bool} {Q : Value → Shared → Prop} (c : XCls K D) (X : K.In h) (na : PySem.W.findIn K (.ref D) name = some none) (hk : PySem.W.clsIn K D = some cd) (hkd : cd.hasDict = true) (hx : h.get? a = some o) (hc : o.cls = .ref D)
    (hdt : o.data = .fields vs) (hd : o.dict = some dx) (hn : h.Ns dx mA) (hv : mA name = some v) (hb : ∀ id, v ≠ .builtin id) (hq : Q v ⟨h, g, d, t, os⟩) :
    wpAny (model prog w) A (getAttrBy (.ref a) (.str name tk) fill expr) Q E ⟨h, g, d, t, os⟩ := by
  have f3 := PySem.F.attrBase_ValueError.ga.bind (.ref a)
  have hx0 : (expr && onTheHeap (Value.builtin "BaseException.__getattribute__")) = false := by cases expr <;> rfl
  have hx2 : (Value.builtin "BaseException.__getattribute__" == Value.builtin "object.__getattribute__") = false := by decide +kernel
  have hx1 : (onTheHeap (Value.ref D) && Value.builtin "BaseException.__getattribute__" == Value.builtin "object.__getattribute__") = false := by rw [hx2]; rfl
  repeat (any_goals (first | assumption | (with_reducible refine wpAny_loadPart_at hx ?_; rw [hc]) | with_reducible refine (PySem.W.looks_findIn X c.ga).at ?_ | with_reducible refine (PySem.W.looks_findIn X c.gn).at ?_ | wp_step))
  refine codeAny_call_builtin PySem.F.attrBase_ValueError.ga.plain F.entry_bexc_ga (xc_check c X hx hc (xa_entry X na hk hkd hx hc hdt hd hn hv ?_))
  repeat (any_goals (first | assumption | wp_step))
  cases v with
  | builtin id => exact absurd rfl (hb id)
  | _ => exact wpAny_pure hq
theorem xa_attr {expr : Bool} {Q : Value → Shared → Prop} (c : XCls K D) (X : K.In h) (na : PySem.W.findIn K (.ref D) name = some none) (hk : PySem.W.clsIn K D = some cd) (hkd : cd.hasDict = true) (hx : h.get? a = some o) (hc : o.cls = .ref D)
    (hdt : o.data = .fields vs) (hd : o.dict = some dx) (hn : h.Ns dx mA) (hv : mA name = some v) (hb : ∀ id, v ≠ .builtin id) (hq : Q v ⟨h, g, d, t + 1, os⟩) :
    wpAny (model prog w) A (getAttr (.ref a) name expr) Q E ⟨h, g, d, t, os⟩ := by
  unfold getAttr
  repeat (any_goals (first | assumption | with_reducible apply xa_by c X na hk hkd hx hc hdt hd hn hv hb | wp_step))
abbrev bmV : List Value := [.type "ValueError", .type "Exception", .type "BaseException", .type "object"]
def isRf : Value → Bool
  | .ref _ => true
  | _ => false
def vTail (l : List Value) : Bool := l.dropWhile isRf == bmV
theorem refuse_v (self : Value) : ∀ {l : List Value}, vTail l = true → refuseLoop self "__setattr__" l = pure ()
  | [], e => by cases e
  | x :: r, e => by
    by_cases hx : isRf x = true
    · have e' : vTail r = true := by
        unfold vTail at e ⊢
        rw [List.dropWhile_cons_of_pos hx] at e
        exact e
      cases x <;> first | exact absurd hx Bool.false_ne_true | (rw [refuseLoop_ref]; exact refuse_v self e')
    · unfold vTail at e
      rw [List.dropWhile_cons_of_neg hx] at e
      rw [beq_iff_eq.mp e]
      exact PySem.F.store_ValueError.passes self
structure XSet (K : PySem.W.Frag) (D : Addr) (name : Str) (cd : ClassData) : Prop where
  k : PySem.W.clsIn K D = some cd
  dct : cd.hasDict = true
  mro : vTail cd.mro = true
  mo : PySem.W.mroIn K D (.type "object") = some true
  sa : PySem.W.findIn K (.ref D) "__setattr__" = some (some (.builtin "object.__setattr__"))
  na : PySem.W.findIn K (.ref D) name = some none
theorem xs_open {tk : Tok} {Q : Fin → Shared → Prop} (c : XSet K D name cd) (X : K.In h) (hx : h.get? a = some o) (hc : o.cls = .ref D)
    (hq : wpAny (model prog w) A (instanceDict a true) (fun r s' => wpAny (model prog w) A (match r with | some d' => Builtin.ObjectAttr.storeInDict d' (.str name tk) name v | none => Builtin.ObjectAttr.noDictFor (.ref a) (.ref D) name false) Q E s') E ⟨h, g, d, t, os⟩) :
    wpAny (model prog w) A (Builtin.«object.__setattr__» ⟨[.ref a, .str name tk, v], []⟩) Q E ⟨h, g, d, t, os⟩ := by
  have LT : PySem.W.Looks (model prog w) h (typeOf (.ref a)) (.ref D) := hc ▸ (PySem.W.Looks.ld hx).andThen .now
  have LM : PySem.W.Looks (model prog w) h (mroOf (.ref D)) cd.mro := (PySem.W.looks_clsIn X c.k).andThen .now
  rw [PySem.W.osa_eq, refuse_eq]
  refine wpAny_bind (wpAny_bind (LT.at (wpAny_bind (LM.at ?_))))
  rw [refuse_v _ c.mro]
  refine wpAny_pure (wpAny_bind (LT.at (wpAny_bind ((PySem.W.looks_findIn X c.na).at ?_))))
  refine wpAny_bind (wpAny_pure ?_)
  show wpAny _ _ (Builtin.ObjectAttr.storeInOwnDict (.ref a) (.ref D) (.str name tk) name v false) _ _ _
  unfold Builtin.ObjectAttr.storeInOwnDict
  refine wpAny_bind (wpAny_pure ?_)
  rw [if_neg (show ¬ ((Value.ref D == Value.type "module") = true) from fun z => by cases eq_of_beq z)]
  exact wpAny_bind hq
theorem xs_store {tk : Tok} {Q : Fin → Shared → Prop} {dd : Addr} {ns : List Str} (hn : h.Ns1 dd mA) (hw : PySem.Within mA ns) (hz : ns.length ≤ 1000)
    (hq : ∀ h', h'.Ns1 dd (fun y => if y = name then some v else mA y) → Heap.SameBut dd h h' → Q (.done (.ret .none)) ⟨h', g, d, t + 1, os⟩) :
    wpAny (model prog w) A (Builtin.ObjectAttr.storeInDict dd (.str name tk) name v) Q E ⟨h, g, d, t, os⟩ := by
  unfold Builtin.ObjectAttr.storeInDict Builtin.ObjectAttr.newKeyGuard
  refine wpAny_bind (wpAny_pure (wpAny_bind (wpAny_nsSet1 hn fun h1 n1 s1 => ?_)))
  obtain ⟨o1, es1, ep1, g1, d1, c1⟩ := n1.count (PySem.Within.cons name v hw)
  have z1 : es1.size ≤ sizeLine := Nat.le_trans c1 (by rw [List.length_cons, sizeLine_eq]; omega)
  refine wpAny_bind (wpAny_lookBehind g1 (by rw [d1]; exact pastItsLine_dict (Nat.le_succ_of_le z1)) ?_)
  exact wpAny_pure (hq h1 n1 s1)
theorem xs_first {tk : Tok} {Q : Fin → Shared → Prop} (c : XSet K D name cd) (X : K.In h) (hx : h.get? a = some o) (hc : o.cls = .ref D) (hdt : o.data = .fields vs) (hd : o.dict = none)
    (hq : ∀ h', h'.Ns1 h.objs.size (fun y => if y = name then some v else none) → h'.get? a = some { o with dict := some h.objs.size } → (∀ b u, b ≠ a → h.get? b = some u → h'.get? b = some u) → Q (.done (.ret .none)) ⟨h', g, d, t + 1, os⟩) :
    wpAny (model prog w) A (Builtin.«object.__setattr__» ⟨[.ref a, .str name tk, v], []⟩) Q E ⟨h, g, d, t, os⟩ := by
  refine xs_open c X hx hc ?_
  have hx1 : (h.push { cls := .type "dict", data := .dict #[] }).get? a = some o := Heap.get?_push_of_some _ hx
  have hne : a ≠ h.objs.size := Nat.ne_of_lt (Heap.lt_size hx)
  unfold instanceDict
  refine wpAny_bind (wpAny_loadPart_at hx ?_)
  rw [hc]
  refine wpAny_bind ((PySem.W.looks_clsIn X c.k).at ?_)
  rw [c.dct, hd, hdt]
  simp only [Bool.not_true, Bool.false_eq_true, if_false]
  rw [if_neg (by simp [typeHasDict])]
  refine wpAny_bind (wpAny_alloc' (wpAny_bind (wpAny_update' hx1 (wpAny_pure ?_))))
  have e1 : ((h.push { cls := .type "dict", data := .dict #[] }).update a fun u => { u with dict := some h.objs.size }).get? h.objs.size = some { cls := .type "dict", data := .dict #[] } :=
    (Heap.get?_update_ne _ _ _ _ hne.symm).trans (Heap.get?_push_at rfl rfl)
  refine xs_store (Heap.Ns1.of_empty ⟨_, #[], _, e1, rfl, fun u hu => absurd hu (by simp), fun _ => rfl⟩) PySem.Within.nil (by simp) fun h2 n2 s2 => hq h2 n2 ?_ fun b u hb e => ?_
  · refine (s2.2 a hne).trans (Heap.get?_update_self _ hx1 ?_)
    rw [Obj.isFreed_of_fields (vs := vs)]
    exact hdt
  · exact (s2.2 b (Nat.ne_of_lt (Heap.lt_size e))).trans ((Heap.get?_update_ne _ _ _ _ hb).trans (Heap.get?_push_of_some _ e))
theorem xs_next {tk : Tok} {Q : Fin → Shared → Prop} {ns : List Str} (c : XSet K D name cd) (X : K.In h) (hx : h.get? a = some o) (hc : o.cls = .ref D) (hd : o.dict = some dx) (hn : h.Ns1 dx mA) (hw : PySem.Within mA ns) (hz : ns.length ≤ 1000)
    (hq : ∀ h', h'.Ns1 dx (fun y => if y = name then some v else mA y) → Heap.SameBut dx h h' → Q (.done (.ret .none)) ⟨h', g, d, t + 1, os⟩) :
    wpAny (model prog w) A (Builtin.«object.__setattr__» ⟨[.ref a, .str name tk, v], []⟩) Q E ⟨h, g, d, t, os⟩ := by
  refine xs_open c X hx hc ?_
  unfold instanceDict
  refine wpAny_bind (wpAny_loadPart_at hx ?_)
  rw [hc]
  refine wpAny_bind ((PySem.W.looks_clsIn X c.k).at ?_)
  rw [c.dct, hd]
  simp only [Bool.not_true, Bool.false_eq_true, if_false]
  exact wpAny_pure (xs_store hn hw hz hq)
theorem xs_attr {Q : Unit → Shared → Prop} (c : XSet K D name cd) (X : K.In h) (hx : h.get? a = some o) (hc : o.cls = .ref D)
    (hq : ∀ (B : Around) (tk : Tok) (Q' : Fin → Shared → Prop) (E' : Value → Shared → Prop), (∀ s', Q () s' → Q' (.done (.ret .none)) s') → wpAny (model prog w) B (Builtin.«object.__setattr__» ⟨[.ref a, .str name tk, v], []⟩) Q' E' ⟨h, g, d, t + 1, os⟩) :
    wpAny (model prog w) A (setAttr (.ref a) name v) Q E ⟨h, g, d, t, os⟩ := by
  have f3 := PySem.F.store_ValueError.slot.bind (.ref a)
  have SF := PySem.F.store_ValueError
  have LT : PySem.W.Looks (model prog w) h (typeOf (.ref a)) (.ref D) := hc ▸ (PySem.W.Looks.ld hx).andThen .now
  have LO : PySem.W.Looks (model prog w) h (isInstance (.ref a) (.type "object")) true := LT.andThen (PySem.W.looks_mroIn X c.mo)
  unfold setAttr callSpecial? specialOf
  repeat (any_goals (first | assumption | (with_reducible refine wpAny_loadPart_at hx ?_; rw [hc]) | with_reducible refine (PySem.W.looks_findIn X c.sa).at ?_ | wp_step))
  refine codeAny_call_builtin SF.slot.plain SF.entry (@PySem.W.check_slot (model prog w) _ _ ⟨h, g, d, t + 1, os⟩ "object.__setattr__" "object" "__setattr__" (.ref a) [.str name t, v] [] _ SF.kind SF.split LO (SF.args (.ref a) (.str name t) v) ?_)
  exact hq _ t _ _ fun s' q => wpAny_pure (wpAny_pure q)
end
section
variable {prog : Program} {w : World} {A : Around} {E : Value → Shared → Prop} {h : Heap} {g : Array GenState} {d : Drawn} {t : Nat} {os : OsState}
variable {nm q : Str} {C N fI : Addr} {bs bm bmB : List Value} {hdct : Bool} {sn : List Str} {sub : List Value} {ab : Bool} {col : Option Bool} {dd : Option Addr} {k0 k1 k2 k3 k5 : Option Value} {B newId initId : String} {mN : Str → Option Value} {rest : List Value} {oI : Obj}
abbrev bareX (h : Heap) (C : Addr) (rest : List Value) : Heap := (h.push { cls := .type "tuple", data := .seq rest.toArray }).push { cls := .ref C, data := .fields #[.ref h.objs.size, .none, .none, .none, .bool false, .none] }
theorem xm_type {Q : Fin → Shared → Prop} (F : ExcBaseFacts B newId initId bmB) (T : OwnTail h bmB bm) (hC : h.get? C = some (excClassObj nm q C N bs bm hdct sn sub ab col dd k0 k1 k2 k3 k5 newId)) (hn : h.Ns N mN) (hi : mN "__init__" = some (.ref fI))
    (hf : h.get? fI = some oI) (hfc : oI.cls = .type "function") (hz : rest.length ≤ sizeLine)
    (hq : wpAny (model prog w) A (call (.ref fI) (.ref (h.objs.size + 1) :: rest)) (fun r s' => r = .none ∧ Q (.done (.ret (.ref (h.objs.size + 1)))) s') E ⟨bareX h C rest, g, d, t, os⟩) :
    wpAny (model prog w) A (Builtin.«type.__call__» ⟨.ref C :: rest, []⟩) Q E ⟨h, g, d, t, os⟩ := by
  have up : ∀ b o, h.get? b = some o → (bareX h C rest).get? b = some o := fun b o e => Heap.get?_push_of_some _ (Heap.get?_push_of_some _ e)
  have C1 := up C _ hC
  have N1 : (bareX h C rest).Ns N mN := hn.keeps up
  have T1 : OwnTail (bareX h C rest) bmB bm := T.keeps up
  have X1 : (bareX h C rest).get? (h.objs.size + 1) = some { cls := .ref C, data := .fields #[.ref h.objs.size, .none, .none, .none, .bool false, .none] } := by heap_get
  have self : (Value.ref C :: bm).contains (.ref C) = true := by simp
  repeat (first | with_reducible refine wpAny_loadPart_at hC ?_ | with_reducible refine wpAny_madeBy_exc hC ?_ | wp_step)
  refine codeAny_call_builtin_code (Code.quiet_builtin _ F.quiet) (wpAny_check_new_subT F T hC (codeAny_exc_new_subT F T hC ?_ hz))
  show wpAny _ _ _ _ _ ⟨bareX h C rest, g, d, t, os⟩
  unfold isInstance
  repeat (first | with_reducible refine wpAny_loadPart_at X1 ?_ | (with_reducible refine wpAny_isSubtype_exc C1 ?_; rw [self]) | wp_step)
  show wpAny _ _ (typeLookup (.ref C) _) _ _ _
  refine wpAny_typeLookup_tail C1 N1 T1 F.mroIs F.init.lookup ?_
  rw [hi]
  refine wpAny_holding (wpAny_bind ?_)
  unfold bindSpecial
  refine wpAny_bind (wpAny_typeOf (T := "function") ⟨oI, up fI _ hf, hfc⟩ ?_)
  rw [if_pos (by decide)]
  refine wpAny_pure (wpAny_bind (wpAny_mono hq (fun r s' hr => ?_) fun _ _ z => z))
  obtain ⟨rfl, hQ⟩ := hr
  wp_walk
  exact hQ
theorem xm_call {Q : Value → Shared → Prop} (F : ExcBaseFacts B newId initId bmB) (T : OwnTail h bmB bm) (hC : h.get? C = some (excClassObj nm q C N bs bm hdct sn sub ab col dd k0 k1 k2 k3 k5 newId)) (hn : h.Ns N mN) (hi : mN "__init__" = some (.ref fI))
    (hf : h.get? fI = some oI) (hfc : oI.cls = .type "function") (hz : rest.length ≤ sizeLine)
    (hq : wpAny (model prog w) (A.under (.builtin "type.__call__" ⟨.ref C :: rest, []⟩)) (call (.ref fI) (.ref (h.objs.size + 1) :: rest)) (fun r s' => r = .none ∧ Q (.ref (h.objs.size + 1)) s') E ⟨bareX h C rest, g, d, t, os⟩) :
    wpAny (model prog w) A (call (.ref C) rest) Q E ⟨h, g, d, t, os⟩ := by
  have l1 := tc_lookup
  have l2 := tc_bind (.ref C)
  have tyC : (⟨h, g, d, t, os⟩ : Shared).TypeIs (.ref C) "type" := ⟨_, hC, rfl⟩
  refine wpAny_call (codeAny_of_tree ?_)
  show wpAny _ _ (callAny (.ref C) _) _ _ _
  repeat (any_goals (first | assumption | with_reducible refine wpAny_loadPart_at hC ?_ | wp_step))
  exact ⟨rfl, codeAny_call_builtin_at (Code.quiet_builtin _ (by decide +kernel)) entry_typeCall (wpAny_check_type_call_sub hC (xm_type F T hC hn hi hf hfc hz hq))⟩
end
end L2
set_option Elab.async false
set_option linter.all false
set_option maxRecDepth 100000
set_option maxHeartbeats 4000000
namespace L2
open PySem PySem.Spec PyProof.Rows
def XD0 (a D : Addr) : Heap → Prop := fun h => ∃ o vs, h.get? a = some o ∧ o.cls = .ref D ∧ o.data = .fields vs ∧ o.dict = none ∧ vs[1]? = some .none ∧ vs[2]? = some .none
def XD1 (a D dx : Addr) : Heap → Prop := fun h => ∃ o vs, h.get? a = some o ∧ o.cls = .ref D ∧ o.data = .fields vs ∧ o.dict = some dx ∧ vs[1]? = some .none ∧ vs[2]? = some .none
def XDct (dx : Addr) (fs : List (Str × V)) : Heap → Prop := fun h => ∃ mA, h.Ns1 dx mA ∧ ∀ f, RelO (fs.lookup f) (mA f)
theorem XD0.at {a D : Addr} {h : Heap} (x : XD0 a D h) : XAt a D h := let ⟨o, _, e, c, _⟩ := x; ⟨o, e, c⟩
theorem XD1.at {a D dx : Addr} {h : Heap} (x : XD1 a D dx h) : XAt a D h := let ⟨o, _, e, c, _⟩ := x; ⟨o, e, c⟩
section
variable {P : Program} {w : World} {H : Hp} {h : Heap} {a D dx : Addr} {fs : List (Str × V)}
theorem XD0.ok (x : XD0 a D h) : ObjOk P w H h a (.ext (XD0 a D)) := ⟨x, let ⟨o, _, e, _⟩ := x; ⟨o, e⟩, fun _ _ ⟨o, vs, e, r⟩ k => ⟨o, vs, k o e, r⟩⟩
theorem XD1.ok (x : XD1 a D dx h) : ObjOk P w H h a (.ext (XD1 a D dx)) := ⟨x, let ⟨o, _, e, _⟩ := x; ⟨o, e⟩, fun _ _ ⟨o, vs, e, r⟩ k => ⟨o, vs, k o e, r⟩⟩
theorem XDct.ok (x : XDct dx fs h) : ObjOk P w H h dx (.ext (XDct dx fs)) := ⟨x, let ⟨_, ⟨o, _, _, e, _⟩, _⟩ := x; ⟨o, e⟩, fun _ _ ⟨mA, n, r⟩ k => ⟨mA, n.at k, r⟩⟩
end
section
variable {X : Cx} {pins : List (Addr × Obj)} {σ : St} {H : Hp} {s : Shared} {h' : Heap} {x dx D : Addr} {φ : Heap → Prop} {ox od : HO}
theorem Inv.put2 {t' : Nat} (I : Inv X pins σ H s) (hx : H x = some (.ext φ)) (hd : s.heap.objs.size ≤ dx) (k : ∀ b u, b ≠ x → s.heap.get? b = some u → h'.get? b = some u) (n1 : ObjOk X.prog X.w (upd (upd H dx od) x ox) h' x ox)
    (n2 : ObjOk X.prog X.w (upd (upd H dx od) x ox) h' dx od) : Inv X pins σ (upd (upd H dx od) x ox) { s with heap := h', toks := t' } := by
  have hdn : H dx = none := I.hok.fresh hd
  have hxd : x ≠ dx := fun z => by rw [z, hdn] at hx; cases hx
  have ne : ∀ b o, s.heap.get? b = some o → b ≠ dx := fun b o e => Nat.ne_of_lt (Nat.lt_of_lt_of_le (Heap.lt_size e) hd)
  have nh : ∀ b u, H b = some u → b ≠ dx := fun b u e z => by rw [z, hdn] at e; cases e
  have nx : ∀ b, H b = none → b ≠ x := fun b e z => by rw [z, hx] at e; cases e
  have nt : ∀ b u, H b = some u → (∀ ψ, u ≠ .ext ψ) → b ≠ x := fun b u e n z => by
    rw [z, hx] at e
    cases e
    exact n φ rfl
  obtain ⟨ux, hux⟩ := n1.isObj
  refine I.un ⟨fun b o e n _ _ => k b o (nx b n) e, fun b o e n _ _ => ⟨o.slots, k b o (nx b n) e⟩, fun b o e n _ => ?_, fun b o e _ => ?_, fun b xs e => ?_, fun b o u e => ?_, fun b ps e => ⟨#[], ?_⟩⟩ fun b u e => ?_
  · rw [upd_ne (nx b n), upd_ne (ne b o e)]; exact n
  · by_cases hb : b = x
    · subst hb; exact ⟨ux, hux⟩
    · exact ⟨o, k b o hb e⟩
  · rw [upd_ne (nt b _ e fun _ z => nomatch z), upd_ne (nh b _ e)]; exact e
  · rw [upd_ne (nt b _ e fun _ z => nomatch z), upd_ne (nh b _ e)]; exact e
  · rw [upd_ne (nt b _ e fun _ z => nomatch z), upd_ne (nh b _ e), e]; simp
  · by_cases hb : b = x
    · subst hb
      rw [upd_same] at e
      cases e
      exact n1
    · by_cases hb2 : b = dx
      · subst hb2
        rw [upd_ne hb, upd_same] at e
        cases e
        exact n2
      · rw [upd_ne hb, upd_ne hb2] at e
        refine (I.hok b u e).stay (fun c v hc q => k c v ?_ q) (fun c q => ?_) fun c xs q => ?_
        · rintro rfl
          rcases hc with z | z
          · exact hb z.symm
          · rw [hx] at z; cases z
        · rw [upd_ne (nt c _ q fun _ z => nomatch z), upd_ne (nh c _ q)]; exact q
        · rw [upd_ne (nt c _ q fun _ z => nomatch z), upd_ne (nh c _ q)]; exact q
end
def sFldX (K : PySem.W.Frag) (ta tv : TE) (f : Str) : TS := fun D σ H => tv σ H fun y H1 => ta σ H1 fun x H2 => ∃ a C cd, x = .ref a ∧ XSet K C f cd ∧
  ((H2 a = some (.ext (XD0 a C)) ∧ ∀ dx, H2 dx = none → dx ≠ a → D.nx σ (upd (upd H2 dx (.ext (XDct dx [(f, y)]))) a (.ext (XD1 a C dx)))) ∨
    ∃ dx fs, H2 a = some (.ext (XD1 a C dx)) ∧ H2 dx = some (.ext (XDct dx fs)) ∧ fs.length ≤ 900 ∧ D.nx σ (upd H2 dx (.ext (XDct dx ((f, y) :: fs)))))
def tFldX (K : PySem.W.Frag) (ta : TE) (f : Str) : TE := fun σ H Q => ta σ H fun x H1 => ∃ a C cd dx fs v, x = .ref a ∧ XSet K C f cd ∧ XCls K C ∧ H1 a = some (.ext (XD1 a C dx)) ∧ H1 dx = some (.ext (XDct dx fs)) ∧ fs.lookup f = some v ∧ Q v H1
theorem relV_nb {v : V} {u : Value} (r : RelV v u) : ∀ id, u ≠ .builtin id := fun id z => by
  subst z
  cases v with
  | non => cases r
  | bl b => cases r
  | int i => obtain ⟨_, z⟩ := r; cases z
  | str x => obtain ⟨_, z⟩ := r; cases z
  | byt b => obtain ⟨_, z⟩ := r; cases z
  | flt b => obtain ⟨_, z⟩ := r; cases z
  | ref a => cases r
  | ty n => cases r
theorem lookup_cons_if {f g : Str} {y : V} {fs : List (Str × V)} : List.lookup g ((f, y) :: fs) = if g = f then some y else fs.lookup g := by
  rw [List.lookup_cons]
  by_cases z : g = f
  · rw [if_pos z, show (g == f) = true by simpa using z]
  · rw [if_neg z, show (g == f) = false by simpa using z]
section
variable {X : Cx} {o e value : Expr} {f : Str} {pos pos' tpos : Pos} {ta tv : TE}
theorem ps_fldX (ha : PE X o ta) (hv : PE X value tv) (hs : swapsWith value (some (.Attribute o f pos')) pos.line X.env = pure false) : PS X (.Assign [.Attribute o f pos'] value pos) (sFldX X.K ta tv f) := by
  intro pins s σ H D I h
  refine plainObj_wpAny_Assign_Attribute (thn (hv pins s σ H _ I h) fun u s1 ⟨y, H1, I1, ry, q⟩ => thn (ha pins s1 σ H1 _ I1 q) fun ov s2 ⟨x, H2, I2, rx, a, C, cd, ex, c, q2⟩ => ?_) hs
  subst ex
  obtain rfl : ov = Value.ref a := rx
  obtain ⟨h2, g2, d2, t2, os2⟩ := s2
  rcases q2 with ⟨ea, q2⟩ | ⟨dx, fs, ea, ed, hl, q2⟩
  · obtain ⟨⟨ob, vs, e1, e2, e3, e4, e5⟩, _⟩ := I2.hok a _ ea
    refine xs_attr c I2.kIn e1 e2 fun B tk Q' E' hQ => xs_first c I2.kIn e1 e2 e3 e4 fun h' n' o' k' => hQ _ ?_
    have hf : H2 h2.objs.size = none := I2.hok.fresh (Nat.le_refl _)
    have hne : h2.objs.size ≠ a := Nat.ne_of_gt (Heap.lt_size e1)
    refine ⟨σ, _, I2.put2 (t' := t2 + 1 + 1) (h' := h') (x := a) (dx := h2.objs.size) (od := .ext (XDct h2.objs.size [(f, y)])) (ox := .ext (XD1 a C h2.objs.size)) ea (Nat.le_refl _) k' (XD1.ok ⟨_, vs, o', e2, e3, rfl, e5⟩) (XDct.ok ⟨_, n', fun g => ?_⟩), q2 _ hf hne⟩
    rw [lookup_cons_if]
    by_cases z : g = f
    · rw [if_pos z, if_pos z]; exact ry
    · rw [if_neg z, if_neg z]; exact True.intro
  · obtain ⟨⟨ob, vs, e1, e2, e3, e4, e5⟩, _⟩ := I2.hok a _ ea
    obtain ⟨⟨mA, nA, rA⟩, _⟩ := I2.hok dx _ ed
    have wi : PySem.Within mA (fs.map (·.1)) := fun g hg => by
      cases q : fs.lookup g with
      | none =>
        have := rA g
        rw [q] at this
        exact absurd (RelO.none_of this) hg
      | some v => exact List.mem_map.mpr ⟨(g, v), PySem.mem_of_lookup q, rfl⟩
    refine xs_attr c I2.kIn e1 e2 fun B tk Q' E' hQ => xs_next c I2.kIn e1 e2 e4 nA wi (by rw [List.length_map]; omega) fun h' n' sb => hQ _ ?_
    refine ⟨σ, _, I2.write (t' := t2 + 1 + 1) (h' := h') (x := dx) (e := dx) (o := .ext (XDct dx ((f, y) :: fs))) (by rw [ed]; exact True.intro) (.inl rfl) (fun b u hb e => (sb.2 b hb).trans e) (let ⟨o', _, _, e', _⟩ := n'; ⟨o', e'⟩) (XDct.ok ⟨_, n', fun g => ?_⟩), q2⟩
    rw [lookup_cons_if]
    by_cases z : g = f
    · rw [if_pos z, if_pos z]; exact ry
    · rw [if_neg z, if_neg z]; exact rA g
end
end L2
set_option Elab.async false
set_option linter.all false
set_option maxRecDepth 100000
set_option maxHeartbeats 4000000
namespace L2
open PySem PySem.Spec PyProof.Rows
theorem ns_some_of {K : PySem.W.Frag} {h : Heap} {N : Addr} {m : Str → Option Value} {n : Str} {v : Value} (X : K.In h) (G : h.Ns N m) (q : PySem.W.nsIn K N n = some (some v)) : m n = some v := by
  obtain ⟨ob, en, ep, gob, dob, _, fnd⟩ := G
  unfold PySem.W.nsIn at q
  split at q
  · rename_i c0 d0 en0 k0 sl0 lk
    have at0 := X _ _ lk
    rw [gob] at at0
    cases at0
    cases dob
    split at q
    · rename_i entry found
      cases q
      rw [← fnd]
      unfold nsFind findBy
      rw [← Array.find?_toList, found]
      rfl
    · split at q <;> cases q
  · cases q
def xIn (K : PySem.W.Frag) (C : Addr) (fI : Option Value) : Bool := match K.lookup C with
  | some ⟨.type "type", _, .cls cd, sl⟩ => (match cd.mro, sl.toList with
    | .ref C' :: bm, [_, _, _, _, some (.builtin n), _] => C' == C && n == "ValueError.__new__" && !cd.hasDel && PySem.W.tailIn K bmV bm && PySem.W.nsOkIn K cd.ns && PySem.W.nsIn K cd.ns "__init__" == some fI
    | _, _ => false)
  | _ => false
structure XObj (h : Heap) (C : Addr) (fI : Option Value) : Prop where
  obj : ∃ bm N nm q bs hdct sn sub ab col dd k0 k1 k2 k3 k5 mN, h.get? C = some (excClassObj nm q C N bs bm hdct sn sub ab col dd k0 k1 k2 k3 k5 "ValueError.__new__") ∧ h.Ns N mN ∧ mN "__init__" = fI ∧ OwnTail h bmV bm
theorem x_of_in {K : PySem.W.Frag} {h : Heap} {C : Addr} {fI : Option Value} (X : K.In h) (z : xIn K C fI = true) : XObj h C fI := by
  unfold xIn at z
  split at z
  · rename_i dct cld slt lk
    split at z
    · rename_i C' tl a0 a1 a2 a3 nid a5 hmro hsl
      simp only [Bool.and_eq_true, beq_iff_eq, Bool.not_eq_true'] at z
      obtain ⟨⟨⟨⟨⟨rfl, rfl⟩, hdel⟩, ht⟩, hok⟩, hin⟩ := z
      obtain ⟨nm, bs, mro, ns, qn, hd, sn, sub, ab, col, del⟩ := cld
      dsimp only at hmro hdel hok hin
      subst hmro hdel
      have es : slt = #[a0, a1, a2, a3, some (.builtin "ValueError.__new__"), a5] := by
        obtain ⟨l⟩ := slt
        simp only at hsl
        rw [hsl]
      subst es
      have hN : h.Ns ns (h.nsMap ns) := .of_isNs (PySem.W.isNs_of_in X hok)
      refine ⟨tl, ns, nm, qn, bs, hd, sn, sub, ab, col, dct, a0, a1, a2, a3, a5, _, X _ _ lk, hN, ?_, PySem.W.tail_of_in X ht⟩
      cases fI with
      | none => exact PySem.W.ns_none_of X hN hin
      | some v => exact ns_some_of X hN hin
    · cases z
  · cases z
def xcIn (K : PySem.W.Frag) (D : Addr) : Bool := PySem.W.findIn K (.ref D) "__getattribute__" == some (some (.builtin "BaseException.__getattribute__")) && PySem.W.findIn K (.ref D) "__getattr__" == some none &&
  PySem.W.findIn K (.ref D) "__class__" == some (some (.builtin "object.__class__")) && PySem.W.mroIn K D (.type "BaseException") == some true && PySem.W.mroIn K D (.type "object") == some true && (PySem.W.clsIn K D).isSome && PySem.W.typeIn K (.ref D) == some (.type "type")
theorem xc_of {K : PySem.W.Frag} {D : Addr} (h : xcIn K D = true) : XCls K D := by
  unfold xcIn at h
  simp only [Bool.and_eq_true, beq_iff_eq] at h
  obtain ⟨⟨⟨⟨⟨⟨h1, h2⟩, h3⟩, h4⟩, h5⟩, h6⟩, h7⟩ := h
  exact ⟨h1, h2, h3, h4, h5, h6⟩
theorem xh_of {K : PySem.W.Frag} {D : Addr} (h : xcIn K D = true) : XHd K D := by
  unfold xcIn at h
  simp only [Bool.and_eq_true, beq_iff_eq] at h
  obtain ⟨⟨⟨⟨⟨⟨h1, h2⟩, h3⟩, h4⟩, h5⟩, h6⟩, h7⟩ := h
  exact ⟨h6, h7, h4⟩
def xsIn (K : PySem.W.Frag) (D : Addr) (name : Str) : Bool := ((PySem.W.clsIn K D).any fun cd => cd.hasDict && vTail cd.mro) && PySem.W.mroIn K D (.type "object") == some true &&
  PySem.W.findIn K (.ref D) "__setattr__" == some (some (.builtin "object.__setattr__")) && PySem.W.findIn K (.ref D) name == some none
theorem xs_of {K : PySem.W.Frag} {D : Addr} {name : Str} (h : xsIn K D name = true) : ∃ cd, XSet K D name cd := by
  unfold xsIn at h
  simp only [Bool.and_eq_true, beq_iff_eq] at h
  obtain ⟨⟨⟨h1, h2⟩, h3⟩, h4⟩ := h
  obtain ⟨cd, e, e2⟩ := PySem.W.any_some h1
  rw [Bool.and_eq_true] at e2
  exact ⟨cd, e, e2.1, e2.2, h2, h3, h4⟩
def kitTab (K : PySem.W.Frag) (cs : List Addr) : Bool := (List.range cs.length).all fun i => (List.range cs.length).all fun j => PySem.W.kitOne K (.ref (cs.getD i 0)) (.ref (cs.getD j 0)) == some (decide (i = j))
def kitAll (K : PySem.W.Frag) (cs : List Addr) (v : Value) : Bool := cs.all fun c => PySem.W.kitOne K (.ref c) v == some true
section
variable {P : Program} {w : World} {K : PySem.W.Frag} {mg : Str → Option Value} {base : Heap} {N : List Str} {qual : Str} {scope : Scope} {f : Addr} {cdv : Value} {A : Around} {outer : List Env} {s0 : Shared} {H0 : Hp} {E : XK}
end
def tMkX0 (C : Addr) : TE := fun _ H Q => ∀ a, H a = none → Q (.ref a) (upd H a (.ext (XD0 a C)))
def tMkX (C : Addr) (sp : Sp) (t : TA) : TE := fun σ H Q => t σ H fun vs H1 => ∀ a, H1 a = none → sp (.ref a :: vs) (upd H1 a (.ext (XD0 a C))) (fun v H2 => v = .non ∧ Q (.ref a) H2) E0
section
variable {X : Cx} {k : Nat} {f C : Addr} {fd : FuncData} {ps : List Str} {sp : Sp} {x : Str} {p pos : Pos} {e : Expr} {es : List Expr} {t : TA}
theorem pe_mkX (z : xIn X.K C (some (.ref f)) = true) (kp : PySem.W.keepIn X.K (.ref C) = true) (fn : PySem.W.isFn X.K (.ref f) = true) (F : FnOk X.prog X.w X.K X.mg X.base CX0 k f fd ps sp) (hr : Room (k + 1) X.A) (hg : Gl X x) (hm : X.mg x = some (.ref C))
    (hb : Binds X.K fd ps []) (ha : PA X (e :: es) t) (hz : ∀ vs H Q E, sp vs H Q E → vs.length ≤ 100) (hdb : (x == ("__debug__" : Str)) = false := by decide) (he : starEach (e :: es) X.env = (false, eval e X.env) :: starEach es X.env := by rfl)
    (hpl : (backTo pos (starEach es X.env)).any (·.1) = false := by rfl) : PE X (.Call (.Name x p) (e :: es) [] pos) (tMkX C sp t) := by
  intro pins s σ H Q I h
  refine wpAny_Call_Name_kw (ld_glob I hg hm ?_ hdb)
  refine PySem.W.callWith_K (h₀ := X.base) I.ok.mod.kin kp (thn (ha pos pins s σ H _ I h) fun us s1 ⟨vs, H1, I1, r, q⟩ => ⟨I1.kIn, ?_⟩) he hpl
  obtain ⟨bm, N, nm, qn, bs, hdct, sn, sub, ab, col, dd, k0, k1, k2, k3, k5, mN, hC, hN, hni, T⟩ := (x_of_in I1.kIn z).obj
  have q1 := q (s1.heap.objs.size + 1) (I1.hok.fresh (Nat.le_succ _))
  have hlen : us.length ≤ sizeLine := by
    have := hz _ _ _ _ q1
    rw [List.length_cons] at this
    rw [← r.length]
    exact Nat.le_trans (Nat.le_of_succ_le this) (by decide)
  have up : ∀ b o, s1.heap.get? b = some o → (bareX s1.heap C us).get? b = some o := fun b o e => Heap.get?_push_of_some _ (Heap.get?_push_of_some _ e)
  have e2 : (bareX s1.heap C us).get? (s1.heap.objs.size + 1) = some { cls := .ref C, data := .fields #[.ref s1.heap.objs.size, .none, .none, .none, .bool false, .none] } := by heap_get
  have I2 := I1.laid (t' := s1.toks) (h' := bareX s1.heap C us) (a := s1.heap.objs.size + 1) (o := .ext (XD0 (s1.heap.objs.size + 1) C)) up (Nat.le_succ _) (XD0.ok ⟨_, _, e2, rfl, rfl, rfl, rfl, rfl⟩)
  obtain ⟨oI, hfI, hfc⟩ : ∃ oI, s1.heap.get? f = some oI ∧ oI.cls = .type "function" := by
    have := beq_iff_eq.mp fn
    unfold PySem.W.typeIn at this
    obtain ⟨ob, lk, hcl⟩ := Option.map_eq_some_iff.mp this
    exact ⟨ob, I1.kIn _ _ lk, hcl⟩
  have r2 : Vals (V.ref (s1.heap.objs.size + 1) :: vs) (Value.ref (s1.heap.objs.size + 1) :: us) := .cons rfl r
  have hl2 : (Value.ref (s1.heap.objs.size + 1) :: us).length = ps.length := by rw [← r2.length]; exact F.len _ _ _ _ q1
  have b2 := hb { s1 with heap := bareX s1.heap C us, toks := s1.toks } (Value.ref (s1.heap.objs.size + 1) :: us) I2.kIn (by rw [List.append_nil]; exact hl2)
  rw [List.append_nil] at b2
  have goal : wpAny (model X.prog X.w) X.A (call (.ref C) us) (EP X pins σ Q) X.xe s1 := by
    obtain ⟨h1, g1, d1, t1, os1⟩ := s1
    refine xm_call PySem.F.excBase_ValueError T hC hN hni hfI hfc hlen ?_
    refine wpAny_call (codeAny_mono (F.run _ X.stack _ _ ⟨Value.ref (h1.objs.size + 1) :: us, []⟩ (Value.ref (h1.objs.size + 1) :: us) _ _ E0 (hr.make C us []) (I2.env0.make C us []) b2 r2 q1) fun r s' hq => ?_)
    cases r with
    | error e => exact False.elim hq
    | ok fl =>
      cases fl with
      | ret u =>
        obtain ⟨v, H', I3, rv, ev, q3⟩ := I2.after hq
        subst ev
        exact ⟨rv, ⟨V.ref (h1.objs.size + 1), H', I3, rfl, q3⟩⟩
      | next => exact False.elim hq
      | brk => exact False.elim hq
      | cont => exact False.elim hq
  exact goal
end
end L2
set_option Elab.async false
set_option linter.all false
set_option maxRecDepth 100000
set_option maxHeartbeats 4000000
namespace L2
open PySem PySem.Spec PyProof.Rows
section
variable {prog : Program} {w : World} {KT : Type} [DecidableEq KT] {knd : KeyKind prog w KT} {A : Around} {E : Value → Shared → Prop} {s : Shared} {d : Addr} {kvs : List (KT × Value)} {k : KT} {key dflt : Value}
end
def rSetD : V → List V → Hp → VK → Prop := fun x vs H Q => ∃ (a : Addr) (kvs : List (Key × V)) (k : Key) (v : V), x = .ref a ∧ vs = [kV k, v] ∧ H a = some (.dK kvs) ∧ kvs.length < sizeLine ∧
  (∀ y, valV kvs k = some y → Q y H) ∧ (valV kvs k = none → Q v (upd H a (.dK (kvs ++ [(k, v)]))))
section
variable {X : Cx}
end
end L2
set_option Elab.async false
set_option linter.all false
set_option maxRecDepth 100000
set_option maxHeartbeats 4000000
namespace L2
open PySem PySem.Spec PyProof.Rows
def IV (v d : Addr) : Heap → Prop := fun h => h.IsItemsView v d
def rItems : V → List V → Hp → VK → Prop := fun x vs H Q => ∃ (d : Addr) (kvs : List (Key × V)), x = .ref d ∧ vs = [] ∧ H d = some (.dK kvs) ∧ ∀ v, H v = none → Q (.ref v) (upd H v (.ext (IV v d)))
section
variable {X : Cx} {o e : Expr} {es : List Expr} {to : TE} {t : TA} {apos cpos : Pos}
def rLstIt : List V → Hp → VK → Prop := fun xs H Q => ∃ (v d : Addr) (kvs : List (Key × V)), xs = [.ref v] ∧ H v = some (.ext (IV v d)) ∧ H d = some (.dK kvs) ∧
  ∀ (l : Addr) (as : List Addr) (H' : Hp), Same H H' → H l = none → H' l = some (.lst (as.map V.ref)) → as.length = kvs.length →
    (∀ (j : Nat) (a : Addr) (k : Key) (y : V), as[j]? = some a → kvs[j]? = some (k, y) → H a = none ∧ H' a = some (.tup [kV k, y])) → Q (.ref l) H'
end
section
variable {X : Cx} {o e : Expr} {es : List Expr} {to : TE} {t : TA} {apos cpos : Pos}
end
end L2
set_option Elab.async false
set_option linter.all false
set_option maxRecDepth 100000
set_option maxHeartbeats 4000000
namespace L2
open PySem PySem.Spec PyProof.Rows
section
variable {X : Cx}
end
end L2
set_option Elab.async false
set_option linter.all false
set_option maxRecDepth 100000
set_option maxHeartbeats 4000000
namespace L2
open PySem PySem.Spec PyProof.Rows
section
variable {M : Model} {A : Around} {E : Value → Shared → Prop} {s : Shared} {env : Env} {K : PySem.W.Frag} {D : Addr}
theorem xr_stmt {x : Sem Value} {Q : Flow → Shared → Prop} (c : XCls K D) (hd : XHd K D) (hh : A.handled = none)
    (h : wpAny M A x (fun v s₁ => ∃ e ob vs, v = .ref e ∧ K.In s₁.heap ∧ s₁.heap.get? e = some ob ∧ ob.cls = .ref D ∧ ob.data = .fields vs ∧ vs[1]? = some .none ∧ E (.ref e) s₁) E s) : wpAny M A (raiseStmt env (some x) none) Q E s := by
  unfold raiseStmt
  refine wpAny_bind (wpAny_mono h (fun v s₁ h₁ => ?_) fun _ _ z => z)
  obtain ⟨e, ob, vs, rfl, X, ge, gc, gd, g1, hE⟩ := h₁
  obtain ⟨hp, g, d, tk, os⟩ := s₁
  repeat (first | with_reducible refine (PySem.W.looks_typeIn X hd.ty).at ?_ | (with_reducible refine wpAny_loadPart_at ge ?_; first | rw [gc] | rw [gd]) | with_reducible refine (PySem.W.looks_mroIn X c.mb).at ?_ | with_reducible refine wpAny_field ge gd g1 ?_ | wp_step)
  exact wpAny_raiseNew_none hh hE
end
end L2
set_option Elab.async false
set_option linter.all false
set_option maxRecDepth 100000
set_option maxHeartbeats 4000000
namespace L2
open PySem PySem.Spec PyProof.Rows
def Fx (h : Heap) (e : Addr) (cls : Value) (dct : Option Addr) (fl : Value) (T : Addr) : Prop :=
  ∃ ob fs oT ts, h.get? e = some ob ∧ ob.cls = cls ∧ ob.dict = dct ∧ ob.data = .fields fs ∧ fs[1]? = some (.ref T) ∧ T ≠ e ∧ h.get? T = some oT ∧ oT.data = .fields ts ∧ ts[3]? = some fl
theorem dict_mapFields (f : Array Value → Array Value) (o : Obj) : (Obj.mapFields f o).dict = o.dict := by
  obtain ⟨c, d, dt, sl⟩ := o
  cases dt <;> rfl
theorem cls_mapF (f : Array Value → Array Value) (o : Obj) : (Obj.mapFields f o).cls = o.cls := Obj.cls_mapFields _ _
section
variable {M : Model} {A : Around} {E : Value → Shared → Prop} {s : Shared} {base : Heap} {env : Env} {outer : List Env} {L e : Addr} {ob : Obj} {fs : Array Value} {head : Value} {more : Bool}
theorem fx_entry {Q : Unit → Shared → Prop} (fr : A.frames = some (env :: outer)) (ff : s.heap.FunFrames base (env :: outer)) (fL : env.frame = some L) (ge : s.heap.get? e = some ob) (de : ob.data = .fields fs) (sz : 1 < fs.size)
    (h : ∀ h' T, Fx h' e ob.cls ob.dict (rawInt L) T → s.heap.get? T = none → (∀ b o, b ≠ e → b ∉ frs (env :: outer) → s.heap.get? b = some o → h'.get? b = some o) →
      (∀ b o, b ≠ e → s.heap.get? b = some o → ∃ sl, h'.get? b = some { o with slots := sl }) → Q () { s with heap := h' }) :
    wpAny M A (do let a ← frameOf env; let pl ← entryPlaceOf L more; let b ← EntryCells.newEntry head a .none (rawInt L) .none pl; setField (.ref e) 1 b) Q E s := by
  have out : e ∉ frs (env :: outer) := fun hm => by
    obtain ⟨_, o, go, nf⟩ := ff.mem hm
    rw [ge] at go
    cases go
    exact nf fs de
  refine wpAny_bind (wpAny_frameOf_fun fr ff fL fun h1 so => ?_)
  refine wpAny_bind (wpAny_entryPlaceOf fun pl isP => ?_)
  unfold EntryCells.newEntry newFields
  refine wpAny_bind (wpAny_newObj_type ?_ (isP.sizeOk5 _ _ _ _ _))
  have e1 : h1.get? e = some ob := (so.2.1 e out).trans ge
  have e2 := Heap.get?_push_of_some (h := h1) { cls := .type "traceback", dict := none, data := .fields ([head, .ref L, .none, rawInt L, .none] ++ (if pl.isEmpty then List.replicate 6 Value.none else pl)).toArray } e1
  have nT : h1.objs.size ≠ e := Nat.ne_of_gt (Heap.lt_size e1)
  have dm := Obj.data_mapFields de (·.setIfInBounds 1 (Value.ref h1.objs.size))
  have e3 := Heap.get?_update_self (Obj.mapFields (·.setIfInBounds 1 (Value.ref h1.objs.size))) e2 (Obj.isFreed_of_fields dm)
  have oth : ∀ b o, b ≠ e → h1.get? b = some o → ((h1.push { cls := .type "traceback", dict := none, data := .fields ([head, .ref L, .none, rawInt L, .none] ++ (if pl.isEmpty then List.replicate 6 Value.none else pl)).toArray }).update e (Obj.mapFields (·.setIfInBounds 1 (Value.ref h1.objs.size)))).get? b = some o :=
    fun b o nb gb => (Heap.get?_update_other _ _ (Ne.symm nb)).trans (Heap.get?_push_of_some _ gb)
  refine wpAny_setField e2 de sz (h _ h1.objs.size ⟨_, _, _, _, e3, cls_mapF _ _, dict_mapFields _ _, dm, by simp [sz], nT, (Heap.get?_update_other _ _ (Ne.symm nT)).trans (Heap.get?_push_size _ rfl), rfl, ?_⟩ ?_ (fun b o nb nf gb => oth b o nb ((so.2.1 b nf).trans gb)) fun b o nb gb => ?_)
  · simp
  · have : s.heap.objs.size = h1.objs.size := so.1.symm
    rw [← this]
    exact Heap.get?_none_of_le (Nat.le_refl _)
  · obtain ⟨sl, g1⟩ := so.2.2 b o gb
    exact ⟨sl, oth b _ nb g1⟩
end
end L2
set_option Elab.async false
set_option linter.all false
set_option maxRecDepth 100000
set_option maxHeartbeats 4000000
namespace L2
open PySem PySem.Spec PyProof.Rows
section
variable {M : Model} {A : Around} {E : Value → Shared → Prop} {s : Shared} {base : Heap} {env : Env} {outer : List Env} {L e T : Addr} {ob : Obj} {fs : Array Value} {cls fl : Value} {dct : Option Addr}
def KeptBut (xs fr : List Addr) (h h' : Heap) : Prop :=
  (∀ b o, b ∉ xs → b ∉ fr → h.get? b = some o → h'.get? b = some o) ∧ ∀ b o, b ∉ xs → h.get? b = some o → ∃ sl, h'.get? b = some { o with slots := sl }
theorem KeptBut.trans {xs ys fr : List Addr} {h h1 h2 : Heap} (a : KeptBut xs fr h h1) (b : KeptBut ys fr h1 h2) : KeptBut (xs ++ ys) fr h h2 :=
  ⟨fun c o n f g => b.1 c o (fun z => n (List.mem_append_right _ z)) f (a.1 c o (fun z => n (List.mem_append_left _ z)) f g), fun c o n g => by
    obtain ⟨s1, g1⟩ := a.2 c o (fun z => n (List.mem_append_left _ z)) g
    obtain ⟨s2, g2⟩ := b.2 c _ (fun z => n (List.mem_append_right _ z)) g1
    exact ⟨s2, g2⟩⟩
theorem fx_first {Q : Unit → Shared → Prop} (fr : A.frames = some (env :: outer)) (ff : s.heap.FunFrames base (env :: outer)) (fL : env.frame = some L) (ge : s.heap.get? e = some ob) (de : ob.data = .fields fs) (f1 : fs[1]? = some .none)
    (h : ∀ h' T, Fx h' e ob.cls ob.dict (rawInt L) T → s.heap.get? T = none → KeptBut [e] (frs (env :: outer)) s.heap h' → Q () { s with heap := h' }) : wpAny M A (noteFrame (.ref e) env) Q E s := by
  unfold noteFrame
  simp only [fL]
  refine wpAny_bind (wpAny_field ge de f1 ?_)
  rw [if_neg (by decide)]
  exact fx_entry fr ff fL ge de (Array.getElem?_eq_some_iff.mp f1).1 fun h' T x nT k1 k2 => h h' T x nT ⟨fun b o n f g => k1 b o (by simpa using n) f g, fun b o n g => k2 b o (by simpa using n) g⟩
theorem fx_next {Q : Unit → Shared → Prop} (fr : A.frames = some (env :: outer)) (ff : s.heap.FunFrames base (env :: outer)) (fL : env.frame = some L) (x : Fx s.heap e cls dct .none T)
    (h : ∀ h' T', Fx h' e cls dct (rawInt L) T' → s.heap.get? T' = none → KeptBut [T, e] (frs (env :: outer)) s.heap h' → Q () { s with heap := h' }) : wpAny M A (noteFrame (.ref e) env) Q E s := by
  obtain ⟨ob, fs, oT, ts, ge, rfl, rfl, de, f1, nT, gT, dT, t3⟩ := x
  unfold noteFrame
  simp only [fL]
  refine wpAny_bind (wpAny_field ge de f1 ?_)
  rw [if_pos (show (Value.ref T != Value.none) = true from by simp)]
  refine wpAny_bind (wpAny_field gT dT t3 ?_)
  rw [if_neg (show ¬ ((Value.none == rawInt L) = true) from by simp [rawInt])]
  refine wpAny_bind (wpAny_setField gT dT (Array.getElem?_eq_some_iff.mp t3).1 ?_)
  have oth : ∀ b, b ≠ T → (s.heap.update T (Obj.mapFields (·.setIfInBounds 3 Value.none))).get? b = s.heap.get? b := fun b nb => Heap.get?_update_other _ _ (Ne.symm nb)
  have nrec : ∀ b o, s.heap.get? b = some o → (∀ vs, o.data ≠ .fields vs) → b ≠ T := fun b o gb nf z => by
    rw [z, gT] at gb
    cases gb
    exact nf ts dT
  have gT' := Heap.get?_update_self (Obj.mapFields (·.setIfInBounds 3 Value.none)) gT (Obj.isFreed_of_fields (Obj.data_mapFields dT _))
  refine fx_entry fr (ff.of_keeps fun b o gb nf => ⟨o, (oth b (nrec b o gb nf)).trans gb, rfl⟩) fL ((oth e nT.symm).trans ge) de (Array.getElem?_eq_some_iff.mp f1).1 fun h' T' x' nT' k1 k2 => h h' T' x' ?_ ⟨fun b o n f g => ?_, fun b o n g => ?_⟩
  · cases q : s.heap.get? T' with
    | none => rfl
    | some o =>
      by_cases z : T' = T
      · rw [z, gT'] at nT'
        cases nT'
      · have nT'' := nT'
        rw [oth T' z, q] at nT''
        cases nT''
  · have n1 : b ≠ T := fun z => n (by rw [z]; exact List.mem_cons_self)
    have n2 : b ≠ e := fun z => n (by rw [z]; simp)
    exact k1 b o n2 f ((oth b n1).trans g)
  · have n1 : b ≠ T := fun z => n (by rw [z]; exact List.mem_cons_self)
    have n2 : b ≠ e := fun z => n (by rw [z]; simp)
    exact k2 b o n2 ((oth b n1).trans g)
theorem fx_flight {Q : Unit → Shared → Prop} {fr : List Addr} (x : Fx s.heap e cls dct fl T) (h : ∀ h', Fx h' e cls dct .none T → KeptBut [T] fr s.heap h' → Q () { s with heap := h' }) : wpAny M A (setFlight (.ref e) none) Q E s := by
  obtain ⟨ob, fs, oT, ts, ge, rfl, rfl, de, f1, nT, gT, dT, t3⟩ := x
  have z3 : 3 < ts.size := (Array.getElem?_eq_some_iff.mp t3).1
  have oth : ∀ b, b ≠ T → (s.heap.update T (Obj.mapFields (·.setIfInBounds 3 ((none : Option Addr).elim Value.none fun f => rawInt f)))).get? b = s.heap.get? b := fun b nb => Heap.get?_update_other _ _ (Ne.symm nb)
  unfold setFlight
  refine wpAny_bind (wpAny_field ge de f1 ?_)
  rw [if_pos (show (Value.ref T != Value.none) = true from by simp)]
  refine wpAny_setField gT dT z3 (h _ ⟨ob, fs, _, _, (oth e nT.symm).trans ge, rfl, rfl, de, f1, nT, Heap.get?_update_self _ gT (Obj.isFreed_of_fields (Obj.data_mapFields dT _)), Obj.data_mapFields dT _, by simp [z3]⟩ ⟨fun b o n _ g => ?_, fun b o n g => ?_⟩)
  · exact (oth b (by simpa using n)).trans g
  · exact ⟨o.slots, (oth b (by simpa using n)).trans g⟩
theorem fx_leave0 {Q : Unit → Shared → Prop} (fr : A.frames = some (env :: outer)) (ff : s.heap.FunFrames base (env :: outer)) (fL : env.frame = some L) (ge : s.heap.get? e = some ob) (de : ob.data = .fields fs) (f1 : fs[1]? = some .none)
    (h : ∀ h' T', Fx h' e ob.cls ob.dict .none T' → s.heap.get? T' = none → KeptBut [e, T'] (frs (env :: outer)) s.heap h' → Q () { s with heap := h' }) : wpAny M A (leaving env (.ref e)) Q E s := by
  unfold leaving
  refine wpAny_bind (fx_first fr ff fL ge de f1 fun h1 T1 x1 n1 k1 => fx_flight (s := { s with heap := h1 }) x1 fun h2 x2 k2 => h h2 T1 x2 n1 (k1.trans k2))
end
end L2
set_option Elab.async false
set_option linter.all false
set_option maxRecDepth 100000
set_option maxHeartbeats 4000000
namespace L2
open PySem PySem.Spec PyProof.Rows
structure XG (P : Program) (w : World) (outer : List Env) (H : Hp) (s : Shared) (x D : Addr) (dct : Option Addr) (T : Addr) (H' : Hp) (s' : Shared) : Prop where
  os : s'.os = s.os
  bare : AllBare s'.gens
  un : Un (frs outer) [] H H' s.heap s'.heap
  hok : HOk P w H' s'.heap
  fx : Fx s'.heap x (.ref D) dct .none T
  nx : s.heap.get? x = none
  nT : s.heap.get? T = none
  ux : H' x = none
  uT : H' T = none
def CXG (P : Program) (w : World) : CXT := fun outer H s E e s' => ∃ x D dct T H', e = .ref x ∧ XG P w outer H s x D dct T H' s' ∧ E (.ref D) dct H'
theorem gone_of_there {fs : List Addr} {H H' : Hp} {h h' : Heap} {b : Addr} (u : Un fs [] H H' h h') (n : h'.get? b = none) : h.get? b = none := by
  cases q : h.get? b with
  | none => rfl
  | some o =>
    obtain ⟨o', e⟩ := u.there b o q (by simp)
    rw [n] at e
    cases e
section
variable {P : Program} {w : World} {K : PySem.W.Frag} {mg : Str → Option Value} {base : Heap} {N : List Str} {qual : Str} {scope : Scope} {f : Addr} {cdv : Value} {A : Around} {outer : List Env} {s0 : Shared} {H0 : Hp} {E : XK}
abbrev cxG (P : Program) (w : World) (K : PySem.W.Frag) (mg : Str → Option Value) (base : Heap) (N : List Str) (qual : Str) (scope : Scope) (f : Addr) (cdv : Value) (A : Around) (outer : List Env) (s0 : Shared) (H0 : Hp) (E : XK) : Cx :=
  cxOf (CXG P w) P w K mg base N qual scope f cdv A outer s0 H0 E
theorem cxg_out {X : Cx} {pins : List (Addr × Obj)} {σ : St} {H' : Hp} {s' : Shared} {h2 : Heap} {x D T : Addr} {dct : Option Addr} {xs : List Addr} (J : Inv X pins σ H' s') (hex : X.ex = [])
    (k : KeptBut xs (frs X.stack) s'.heap h2) (hxs : ∀ b ∈ xs, X.s₀.heap.get? b = none ∧ H' b = none ∧ b ∉ frs X.outer) (fx : Fx h2 x (.ref D) dct .none T) (mx : x ∈ xs) (mT : T ∈ xs) :
    XG X.prog X.w X.outer X.H₀ X.s₀ x D dct T H' { s' with heap := h2 } := by
  have jb : Un (frs X.outer) [] X.H₀ H' X.s₀.heap s'.heap := by
    have := J.base
    rw [hex] at this
    exact this
  refine ⟨J.os, J.bare, un_more jb (fun b o h0 hf e => k.1 b o (fun z => ?_) (old_out J h0 hf) e) (fun b o hf e => k.2 b o (fun z => (hxs b z).2.2 hf) e), hok_more J.hok (fun b o u hu e => k.1 b o (fun z => ?_) (trk_out J hu) e), fx, (hxs x mx).1, (hxs T mT).1, (hxs x mx).2.1, (hxs T mT).2.1⟩
  · obtain ⟨o0, e0⟩ := h0
    rw [(hxs b z).1] at e0
    cases e0
  · rw [(hxs b z).2.1] at hu
    cases hu
theorem frs_out {X : Cx} {pins : List (Addr × Obj)} {σ : St} {H : Hp} {s : Shared} (I : Inv X pins σ H s) {b : Addr} (h : s.heap.get? b = none) : b ∉ frs X.outer := fun z => by
  obtain ⟨_, o, e, _⟩ := I.funs.mem z
  rw [h] at e
  cases e
theorem ownG : PassesOwn (model P w) (cxG P w K mg base N qual scope f cdv A outer s0 H0 E).A (cxG P w K mg base N qual scope f cdv A outer s0 H0 E).env (cxG P w K mg base N qual scope f cdv A outer s0 H0 E).xe := PassesOwn.leaving
end
section
variable {P : Program} {w : World} {K : PySem.W.Frag} {mg : Str → Option Value} {base : Heap}
theorem Fun.okG {x qual : Str} {st : Stmt} {f : Addr} {fd : FuncData} {N ps : List Str} {k : Nat} {sp : Sp} (F : Fun K x qual st f fd) (S : FnScope N ps (defScope st)) (len : ∀ vs H Q E, sp vs H Q E → vs.length = ps.length)
    (hbody : ∀ (cdv : Value) (A : Around) (outer : List Env) (s : Shared) (H : Hp) (vs : List V) (Q : VK) (E : XK), Room k (A.deeper (envOfC qual (defScope st) s.heap.objs.size f cdv)) → sp vs H Q E →
      ∃ t, PSs (cxG P w K mg base N qual (defScope st) f cdv A outer s H E) (defBody st) t ∧ t { nx := fun _ H' => Q .non H', rt := Q } (start N vs) H) : FnOk P w K mg base (CXG P w) (k + 1) f fd ps sp := by
  obtain ⟨oc, od, kV, doc, pm, an, cdv, ct, osl, rfl, lk, hcd⟩ := F.ex
  exact fn_of lk hcd S len fun A outer s H vs Q E hr hsp => hbody cdv A outer s H vs Q E hr hsp
end
end L2
set_option Elab.async false
set_option linter.all false
set_option maxRecDepth 100000
set_option maxHeartbeats 4000000
namespace L2
open PySem PySem.Spec PyProof.Rows
def untr (H : Hp) (x : Addr) : Hp := fun b => if b = x then none else H b
theorem untr_ne {H : Hp} {x b : Addr} (h : b ≠ x) : untr H x b = H b := by unfold untr; rw [if_neg h]
theorem untr_same {H : Hp} {x : Addr} : untr H x x = none := by unfold untr; rw [if_pos rfl]
def XU (a D : Addr) (dct : Option Addr) : Heap → Prop := fun h => ∃ o vs, h.get? a = some o ∧ o.cls = .ref D ∧ o.data = .fields vs ∧ o.dict = dct ∧ vs[1]? = some .none ∧ vs[2]? = some .none
theorem Inv.untr {X : Cx} {pins : List (Addr × Obj)} {σ : St} {H : Hp} {s : Shared} {x : Addr} {φ : Heap → Prop} (I : Inv X pins σ H s) (hx : H x = some (.ext φ)) : Inv X pins σ (untr H x) s := by
  have nt : ∀ b u, H b = some u → (∀ ψ, u ≠ .ext ψ) → b ≠ x := fun b u e n z => by
    rw [z, hx] at e
    cases e
    exact n φ rfl
  have fr : ∀ b, H b = none → L2.untr H x b = none := fun b e => by
    by_cases z : b = x
    · rw [z]; exact untr_same
    · rw [untr_ne z]; exact e
  have hok : HOk X.prog X.w (L2.untr H x) s.heap := fun b u e => by
    by_cases z : b = x
    · rw [z, untr_same] at e
      cases e
    · rw [untr_ne z] at e
      refine (I.hok b u e).stay (fun _ _ _ q => q) (fun c q => ?_) fun c xs q => ?_
      · rw [untr_ne (nt c _ q fun _ z => nomatch z)]; exact q
      · rw [untr_ne (nt c _ q fun _ z => nomatch z)]; exact q
  exact I.un (t' := s.toks) (h' := s.heap) ⟨fun b o e _ _ _ => e, fun b o e _ _ _ => ⟨o.slots, e⟩, fun b o e n _ => fr b n, fun b o e _ => ⟨o, e⟩, fun b xs e => by rw [untr_ne (nt b _ e fun _ z => nomatch z)]; exact e,
    fun b o u e => by rw [untr_ne (nt b _ e fun _ z => nomatch z)]; exact e, fun b ps e => ⟨#[], by rw [untr_ne (nt b _ e fun _ z => nomatch z), e]; simp⟩⟩ hok
section
variable {P : Program} {w : World} {K : PySem.W.Frag} {mg : Str → Option Value} {base : Heap} {N : List Str} {qual : Str} {scope : Scope} {f : Addr} {cdv : Value} {A : Around} {outer : List Env} {s0 : Shared} {H0 : Hp} {E : XK}
def tRaiseG (K : PySem.W.Frag) (H0 : Hp) (E : XK) (D : Addr) (te : TE) : TS := fun _ σ H => te σ H fun v H1 => ∃ x dct φ, v = .ref x ∧ H1 x = some (.ext φ) ∧ (∀ h, φ h → XU x D dct h) ∧ H0 x = none ∧ E (.ref D) dct (untr H1 x)
theorem ps_raiseG {ex : Expr} {te : TE} {D : Addr} {pos : Pos} (c : XCls K D) (hd : XHd K D) (he : PE (cxG P w K mg base N qual scope f cdv A outer s0 H0 E) ex te) :
    PS (cxG P w K mg base N qual scope f cdv A outer s0 H0 E) (.Raise (some ex) none pos) (tRaiseG K H0 E D te) := by
  intro pins s σ H DE I h
  rw [arm_exec_Raise]
  refine wpAny_bind (wpAny_standAt ?_)
  show wpAny _ _ (raiseStmt _ (some (do let v ← eval ex (cxG P w K mg base N qual scope f cdv A outer s0 H0 E).env; standAt pos; pure v)) none) _ _ s
  refine xr_stmt (K := K) (D := D) c hd (I.ok.hd rfl) (wpAny_bind (thn (he pins s σ H _ I h) fun v s1 ⟨y, H1, I1, ry, x, dct, φ, ey, hx, hφ, h0, q⟩ => wpAny_bind (wpAny_standAt (wpAny_pure ?_))))
  subst ey
  obtain rfl : v = Value.ref x := ry
  obtain ⟨ob, vs, g1, g2, g3, g4, g5⟩ := hφ _ (I1.hok x _ hx).1
  refine ⟨x, ob, vs, rfl, I1.kIn, g1, g2, g3, g5.1, ?_⟩
  show wpAny _ _ (leaving _ (.ref x)) _ _ s1
  have J := I1.untr hx
  have jb : Un (frs outer) [] H0 (untr H1 x) s0.heap s1.heap := J.base
  have ib : Un (frs outer) [] H0 H1 s0.heap s1.heap := I1.base
  have nx : s0.heap.get? x = none := by
    cases z : s0.heap.get? x with
    | none => rfl
    | some o =>
      have := ib.free x o z h0 (by simp)
      rw [hx] at this
      cases this
  refine fx_leave0 I1.ok.frames J.stack rfl g1 g3 g5.1 fun h2 T fx nT k => ?_
  rw [g2, g4] at fx
  refine ⟨x, D, dct, T, untr H1 x, rfl, cxg_out J rfl k (fun b hb => ?_) fx (by simp) (by simp), q⟩
  have hb' : b = x ∨ b = T := by simpa using hb
  rcases hb' with rfl | rfl
  · refine ⟨nx, untr_same, fun z => ?_⟩
    obtain ⟨_, o, e, nf⟩ := J.funs.mem z
    rw [g1] at e
    cases e
    exact nf vs g3
  · refine ⟨gone_of_there jb nT, ?_, frs_out J nT⟩
    cases z : untr H1 x b with
    | none => rfl
    | some u =>
      obtain ⟨o, e⟩ := (J.hok b u z).isObj
      rw [nT] at e
      cases e
end
end L2
set_option Elab.async false
set_option linter.all false
set_option maxRecDepth 100000
set_option maxHeartbeats 4000000
namespace L2
open PySem PySem.Spec PyProof.Rows
def XCt (a D : Addr) (dct : Option Addr) : Heap → Prop := fun h => ∃ o vs, h.get? a = some o ∧ o.cls = .ref D ∧ o.data = .fields vs ∧ o.dict = dct
theorem XCt.at {a D : Addr} {dct : Option Addr} {h : Heap} (x : XCt a D dct h) : XAt a D h := let ⟨o, _, e, c, _⟩ := x; ⟨o, e, c⟩
section
variable {X : Cx} {pins : List (Addr × Obj)} {σ : St} {H H' : Hp} {s s' : Shared} {x D C T T2 : Addr} {dct : Option Addr} {fl : Value} {h2 : Heap} {xs : List Addr}
theorem landG (I : Inv X pins σ H s) (G : XG X.prog X.w X.stack H s x D dct T H' s') (k : KeptBut xs (frs X.stack) s'.heap h2) (hxs : ∀ b ∈ xs, s.heap.get? b = none ∧ H' b = none ∧ b ∉ frs X.stack) (fx : Fx h2 x (.ref D) dct fl T2) :
    Inv X pins σ (upd H' x (.ext (XCt x D dct))) { s' with heap := h2 } := by
  have hnx : ∀ b u, H' b = some u → b ≠ x := fun b u e z => by rw [z, G.ux] at e; cases e
  have trk : ∀ b u, H' b = some u → b ∉ frs X.stack := fun b u e hb => by
    obtain ⟨_, o, ho, _⟩ := I.stack.mem hb
    rw [G.un.free b o ho (I.stkFree b hb) (by simp)] at e
    cases e
  have u2 : Un (frs X.stack) [] H H' s.heap h2 := un_more G.un (fun b o h0 hf e => k.1 b o (fun z => by obtain ⟨o0, e0⟩ := h0; rw [(hxs b z).1] at e0; cases e0) hf e) (fun b o hf e => k.2 b o (fun z => (hxs b z).2.2 hf) e)
  have hk2 : HOk X.prog X.w H' h2 := hok_more G.hok (fun b o u hu e => k.1 b o (fun z => by rw [(hxs b z).2.1] at hu; cases hu) (trk b u hu) e)
  obtain ⟨ob, fs, _, _, gx, gc, gd, gf, _⟩ := fx
  refine I.call' (ch := []) (s' := { s' with heap := h2 }) G.os ⟨u2.keep, u2.slot, fun b o e n hx' => ?_, u2.there, fun b xs e => ?_, fun b o u e => ?_, fun b ps e => ?_⟩ (fun a o e => ?_) G.bare (by simp)
  · have : b ≠ x := fun z => by rw [z, G.nx] at e; cases e
    rw [upd_ne this]
    exact u2.free b o e n hx'
  · have e' := u2.tups b xs e
    rw [upd_ne (hnx b _ e')]
    exact e'
  · have e' := u2.frzs b o u e
    rw [upd_ne (hnx b _ e')]
    exact e'
  · obtain ⟨more, e'⟩ := u2.tbls b ps e
    exact ⟨more, by rw [upd_ne (hnx b _ e')]; exact e'⟩
  · by_cases ha : a = x
    · subst ha
      rw [upd_same] at e
      cases e
      exact ⟨⟨ob, fs, gx, gc, gf, gd⟩, ⟨ob, gx⟩, fun h1 h3 ⟨o, vs, e1, r⟩ kk => ⟨o, vs, kk o e1, r⟩⟩
    · rw [upd_ne ha] at e
      exact (hk2 a o e).stay (fun _ _ _ q => q) (fun b q => by rw [upd_ne (hnx b _ q)]; exact q) fun b xs q => by rw [upd_ne (hnx b _ q)]; exact q
end
section
variable {X : Cx} {pins : List (Addr × Obj)} {σ : St} {H H' : Hp} {s s' : Shared} {x D C T : Addr} {dct : Option Addr} {cn en : Str} {ie : Nat} {b₀ : Stmt} {suite : List Stmt} {cp hp : Pos} {ts : TS} {DE : Ends}
end
end L2
set_option Elab.async false
set_option linter.all false
set_option maxRecDepth 100000
set_option maxHeartbeats 4000000
namespace L2
open PySem PySem.Spec PyProof.Rows
def tTryG (K : PySem.W.Frag) (C : Addr) (sp : Sp) (dvs : List V) (t : TA) (ie : Nat) (ts : TS) : TS := fun DE σ H => t σ H fun vs H1 => sp (vs ++ dvs) H1 (fun _ H2 => DE.nx σ H2) (fun cls dct H2 => ∃ D, cls = .ref D ∧
  PySem.W.mroIn K D (.ref C) = some true ∧ ∀ x, H2 x = none → ts (DE.asG ie) (σ.set ie (some (.ref x))) (upd H2 x (.ext (XCt x D dct))))
section
variable {X : Cx} {k ie : Nat} {f C : Addr} {fd : FuncData} {ps : List Str} {sp : Sp} {dvs : List V} {ds : List Value} {fx cn en : Str} {p pos p2 cp hp tp : Pos} {e : Expr} {es : List Expr} {t : TA} {b₀ : Stmt} {suite : List Stmt} {ts : TS}
end
def tFldC (K : PySem.W.Frag) (ta : TE) (f : Str) : TE := fun σ H Q => ta σ H fun x H1 => ∃ a C cd dx fs v φ, x = .ref a ∧ XSet K C f cd ∧ XCls K C ∧ H1 a = some (.ext φ) ∧ (∀ h, φ h → XCt a C (some dx) h) ∧ H1 dx = some (.ext (XDct dx fs)) ∧ fs.lookup f = some v ∧ Q v H1
theorem pe_fldC {X : Cx} {e : Expr} {f : Str} {pos : Pos} {ta : TE} (he : PE X e ta) (hb : attributeBase e f X.env (eval e X.env) = eval e X.env := by rfl) : PE X (.Attribute e f pos) (tFldC X.K ta f) := by
  intro pins s σ H Q I h
  refine attr_of hb (thn (he pins s σ H _ I h) fun u s1 ⟨x, H1, I1, rx, a, C, cd, dx, fs, v, φ, ex, c, cl, ea, hφ, ed, l, q⟩ => ?_)
  subst ex
  obtain rfl : u = Value.ref a := rx
  obtain ⟨h1, g1, d1, t1, os1⟩ := s1
  obtain ⟨ob, vs, e1, e2, e3, e4⟩ := hφ _ (I1.hok a _ ea).1
  obtain ⟨⟨mA, nA, rA⟩, _⟩ := I1.hok dx _ ed
  have := rA f
  rw [l] at this
  obtain ⟨u', hu, ru⟩ := RelO.some_of this
  exact xa_attr cl I1.kIn c.na c.k c.dct e1 e2 e3 e4 nA.ns hu (relV_nb ru) ⟨v, H1, I1.tok _, ru, q⟩
end L2
set_option linter.all false
namespace FrM
def Bt (n : Nat) (i : Int) : Prop := i.natAbs < 2 ^ n
theorem Bt.mono {m n : Nat} {i : Int} (h : Bt m i) (l : m ≤ n) : Bt n i := Nat.lt_of_lt_of_le h (Nat.pow_le_pow_right (by decide) l)
structure Low (T B t b : Int) : Prop where
  pos : 1 ≤ b
  cop : Int.gcd t b = 1
  eq : t * B = T * b
theorem low (t b : Int) (hb : 0 < b) : 0 < (Int.gcd t b : Int) ∧ (Int.gcd t b : Int) ≤ b ∧ Low t b (t / (Int.gcd t b : Int)) (b / (Int.gcd t b : Int)) ∧ (t / (Int.gcd t b : Int)).natAbs ≤ t.natAbs ∧ (b / (Int.gcd t b : Int)).natAbs ≤ b.natAbs := by
  have hg : 0 < Int.gcd t b := Int.gcd_pos_iff.mpr (.inr (by omega))
  have hgi : 0 < (Int.gcd t b : Int) := by omega
  have d1 := Int.gcd_dvd_left t b
  have d2 := Int.gcd_dvd_right t b
  have e1 := Int.ediv_mul_cancel d1
  have e2 := Int.ediv_mul_cancel d2
  have hle : (Int.gcd t b : Int) ≤ b := Int.le_of_dvd hb d2
  refine ⟨hgi, hle, ⟨?_, Int.gcd_ediv_gcd_ediv_gcd hg, ?_⟩, ?_, ?_⟩
  · have := Int.ediv_pos_of_pos_of_dvd hb (by omega) d2
    omega
  · rw [← Int.mul_ediv_assoc _ d2, Int.mul_comm, ← Int.mul_ediv_assoc _ d1, Int.mul_comm]
  · have := congrArg Int.natAbs e1
    rw [Int.natAbs_mul] at this
    rw [← this]
    exact Nat.le_mul_of_pos_right _ (by simpa using hg)
  · have := congrArg Int.natAbs e2
    rw [Int.natAbs_mul] at this
    rw [← this]
    exact Nat.le_mul_of_pos_right _ (by simpa using hg)
end FrM
set_option linter.all false
set_option maxRecDepth 100000
namespace L2
open PySem PySem.Spec PyProof.Rows FrM
section
variable {X : Cx}
def CMulB (i j : Int) : Prop := (Bt 8000 i ∧ Bt 8000 j) ∨ CMul i j
theorem CMulB.ok {i j : Int} (h : CMulB i j) : IntMulOk i j := by
  rcases h with ⟨h1, h2⟩ | h
  · exact IntMulOk.of_le (m := 8000) (n := 8000) (intBits_le_iff.mpr h1) (intBits_le_iff.mpr h2) (by decide)
  · exact h.ok
def CDivB (i j : Int) : Prop := 0 < j ∧ Bt 8000 j
theorem CDivB.no {i j : Int} (h : CDivB i j) : Builtin.divisionGoesByPylong i j = false := by
  refine PyProof.noPylong_of_log2 ?_
  have h2 : j.natAbs < 2 ^ 8000 := h.2
  by_cases h0 : j.natAbs = 0
  · rw [h0]; decide +kernel
  · have : j.natAbs.log2 < 8000 := (Nat.log2_lt h0).mpr h2
    omega
theorem op_mulB : OpR X (binaryOp .Mult) (rI CMulB fun i j => .int (i * j)) := opI fun _ _ _ _ _ _ _ hc q => mul_int q hc.ok
theorem op_fdivB : OpR X (binaryOp .FloorDiv) (rI CDivB fun i j => .int (i / j)) := opI fun i j _ _ _ _ _ hc q => by
  have h1 : (0 : Int) < j := hc.1
  exact floordiv_int (by omega) (by rw [Int.fdiv_eq_ediv_of_nonneg i (by omega)]; exact q) (.inl hc.no)
theorem o_mulB : OpR X (binaryOp .Mult) (rIC CMulB fun i j => .int (i * j)) := op_mulB.ic
theorem o_fdivB : OpR X (binaryOp .FloorDiv) (rIC CDivB fun i j => .int (i / j)) := op_fdivB.ic
theorem clB {i j : Int} (h : -(2 ^ 64) < i := by decide) (h2 : i < 2 ^ 64 := by decide) : CMulB i j := .inr (cl h h2)
theorem crB {i j : Int} (h : -(2 ^ 64) < j := by decide) (h2 : j < 2 ^ 64 := by decide) : CMulB i j := .inr (cr h h2)
theorem cdB {i j : Int} {n : Nat} (h : 0 < j) (h' : Bt n j) (hn : n ≤ 8000 := by decide) : CDivB i j := ⟨h, h'.mono hn⟩
theorem bt_abs : bootBuiltins "abs" = some (.builtin "abs") := by decide +kernel
end
end L2
set_option Elab.async false
set_option linter.all false
set_option maxRecDepth 100000
set_option maxHeartbeats 4000000
namespace L2
open PySem PySem.Spec PyProof.Rows
def isSt : Expr → Bool
  | .Starred .. => true
  | _ => false
theorem star_cons {e : Expr} {es : List Expr} {env : Env} (h : isSt e = false) : starEach (e :: es) env = (false, eval e env) :: starEach es env := by
  cases e <;> first | rfl | cases h
theorem pa_consQ {X : Cx} {e : Expr} {es : List Expr} {te : TE} {t : TA} (ha : PE X e te) (hr : PA X es t) (h : isSt e = false := by rfl) : PA X (e :: es) (tCons te t) := pa_cons ha hr (star_cons h)
@[irreducible] def PSq (X : Cx) (sts : List Stmt) (t : TS) : Prop := PSs X sts t
theorem pss_consI {X : Cx} {st : Stmt} {sts : List Stmt} {t u : TS} (h1 : PS X st t) (h2 : PSq X sts u) : PSs X (st :: sts) (tSeq t u) := by
  unfold PSq at h2
  exact pss_cons h1 h2
theorem pe_fldCK {X : Cx} {K : PySem.W.Frag} {e : Expr} {f : Str} {pos : Pos} {ta : TE} (h : X.K = K) (he : PE X e ta) (hb : attributeBase e f X.env (eval e X.env) = eval e X.env := by rfl) : PE X (.Attribute e f pos) (tFldC K ta f) := h ▸ pe_fldC he hb
def tTryGA (K : PySem.W.Frag) (C : Addr) (sp : Sp) (dvs : List V) (t : TA) (ie ir : Nat) (ts : TS) : TS := fun DE σ H => t σ H fun vs H1 => sp (vs ++ dvs) H1 (fun v H2 => DE.nx (σ.set ir (some v)) H2) (fun cls dct H2 => ∃ D, cls = .ref D ∧
  PySem.W.mroIn K D (.ref C) = some true ∧ ∀ x, H2 x = none → ts (DE.asG ie) (σ.set ie (some (.ref x))) (upd H2 x (.ext (XCt x D dct))))
section
variable {X : Cx} {k ie ir : Nat} {f C : Addr} {fd : FuncData} {ps : List Str} {sp : Sp} {dvs : List V} {ds : List Value} {fx cn en rn : Str} {p pos p2 p3 cp hp tp : Pos} {e : Expr} {es : List Expr} {t : TA} {b₀ : Stmt} {suite : List Stmt} {ts : TS}
end
end L2
set_option Elab.async false
set_option linter.all false
set_option maxRecDepth 100000
set_option maxHeartbeats 4000000
namespace HT
open PySem PySem.Spec PyProof.Rows
section
variable {prog : Program} {w : World} {A : Around} {E : Value → Shared → Prop} {s : Shared}
end
end HT
namespace L2
open PySem PySem.Spec PyProof.Rows
section
variable {X : Cx}
def rCatT0 (K : PySem.W.Frag) : R2 := fun x y H Q => ∃ a b ys, x = .ref a ∧ y = .ref b ∧ SqT K H a [] ∧ SqT K H b ys ∧ Q (.ref b) H
def rSlTW (K : PySem.W.Frag) : V → Option Int → Option Int → Hp → VK → Prop := fun x lo hi H Q => ∃ a xs, x = .ref a ∧ SqT K H a xs ∧ (HT.sIx xs.length 0 lo = 0 ∧ HT.sIx xs.length xs.length hi = xs.length) ∧ Q (.ref a) H
@[irreducible] def PAq (X : Cx) (es : List Expr) (t : TA) : Prop := PA X es t
theorem paq_nil : PAq X [] tNil := by unfold PAq; exact pa_nil
theorem paq_cons {e : Expr} {es : List Expr} {te : TE} {t : TA} (ha : PE X e te) (hr : PAq X es t) (h : isSt e = false := by rfl) : PAq X (e :: es) (tCons te t) := by
  unfold PAq at hr ⊢
  exact pa_consQ ha hr h
theorem pe_lstQ {es : List Expr} {t : TA} {pos : Pos} (h : PAq X es t) : PE X (.List es pos) (tLst t) := by
  unfold PAq at h
  exact pe_lst h
end
end L2
set_option Elab.async false
set_option linter.all false
set_option maxRecDepth 100000
set_option maxHeartbeats 4000000
namespace L2
open PySem PySem.Spec PyProof.Rows
section
variable {X : Cx}
@[irreducible] def PEq (X : Cx) (e : Expr) (t : TE) : Prop := PE X e t
@[irreducible] def PSt (X : Cx) (st : Stmt) (t : TS) : Prop := PS X st t
theorem peq_of {e : Expr} {t : TE} (h : PE X e t) : PEq X e t := by unfold PEq; exact h
theorem peq_out {e : Expr} {t : TE} (h : PEq X e t) : PE X e t := by unfold PEq at h; exact h
theorem pst_of {st : Stmt} {t : TS} (h : PS X st t) : PSt X st t := by unfold PSt; exact h
theorem pst_out {st : Stmt} {t : TS} (h : PSt X st t) : PS X st t := by unfold PSt at h; exact h
theorem peq_lst {es : List Expr} {t : TA} {pos : Pos} (h : PAq X es t) : PEq X (.List es pos) (tLst t) := peq_of (pe_lstQ h)
theorem psq_one {st : Stmt} {t : TS} (h : PSt X st t) : PSq X [st] t := by unfold PSq; exact pss_one (pst_out h)
theorem psq_cons {st : Stmt} {sts : List Stmt} {t u : TS} (h : PSt X st t) (h2 : PSq X sts u) : PSq X (st :: sts) (tSeq t u) := by
  unfold PSq at h2 ⊢
  exact pss_cons (pst_out h) h2
theorem psq_out {sts : List Stmt} {t : TS} (h : PSq X sts t) : PSs X sts t := by unfold PSq at h; exact h
theorem pst_set {i : Nat} {x : Str} {e : Expr} {te : TE} {pos pos' : Pos} (hN : X.N.Nodup) (hi : X.N[i]? = some x) (hx : Loc X.env.scope x) (he : PEq X e te) (hs : swapsWith e (some (.Name x pos')) pos.line X.env = pure false := by rfl) (hf : X.fn x = true ∨ X.env.scope.names.lookup x = some .local := by first | exact .inl rfl | exact .inr rfl | assumption) :
    PSt X (.Assign [.Name x pos'] e pos) (tAsg te (gName i)) := pst_of (ps_set hN hi hx (peq_out he) hs hf)
end
end L2
set_option Elab.async false
set_option linter.all false
set_option maxRecDepth 100000
set_option maxHeartbeats 4000000
namespace L2
open PySem PySem.Spec PyProof.Rows
structure LamD where
  qual : Str
  params : Arguments
  body : Expr
  scope : Scope
def LamX (f : Addr) (d : LamD) (clos : List (Str × Addr)) (c : Addr) : Heap → Prop := fun h => ∃ pm ctv, h.get? f = some (PySem.W.kla_obj "<lambda>" d.qual d.params d.body d.scope clos pm c ctv)
def CellX (c : Addr) (v : V) : Heap → Prop := fun h => ∃ o u, h.get? c = some o ∧ o.data = .cell (some u) ∧ RelV v u
def CodeX (c : Addr) (q : Str) : Heap → Prop := fun h => ∃ o vs t, h.get? c = some o ∧ o.data = .fields vs ∧ vs[1]? = some (.str q t)
section
variable {P : Program} {w : World} {H : Hp} {h : Heap}
theorem lamX_ok {f : Addr} {d : LamD} {clos : List (Str × Addr)} {c : Addr} {pm ctv : Value} (e : h.get? f = some (PySem.W.kla_obj "<lambda>" d.qual d.params d.body d.scope clos pm c ctv)) : ObjOk P w H h f (.ext (LamX f d clos c)) :=
  ⟨⟨pm, ctv, e⟩, ⟨_, e⟩, fun h1 h2 ⟨pm, ctv, e1⟩ k => ⟨pm, ctv, k _ e1⟩⟩
theorem cellX_ok {c : Addr} {v : V} (x : CellX c v h) : ObjOk P w H h c (.ext (CellX c v)) :=
  ⟨x, let ⟨o, _, e, _⟩ := x; ⟨o, e⟩, fun h1 h2 ⟨o, u, e1, r⟩ k => ⟨o, u, k _ e1, r⟩⟩
theorem codeX_ok {c : Addr} {q : Str} (x : CodeX c q h) : ObjOk P w H h c (.ext (CodeX c q)) :=
  ⟨x, let ⟨o, _, _, e, _⟩ := x; ⟨o, e⟩, fun h1 h2 ⟨o, vs, t, e1, r⟩ k => ⟨o, vs, t, k _ e1, r⟩⟩
end
theorem heap_at (a : Addr) (o : Obj) (ho : o.data ≠ .freed) : ∃ h : Heap, h.get? a = some o := by
  refine ⟨{ objs := Array.replicate (a + 1) o }, ?_⟩
  obtain ⟨c, d, dt, sl⟩ := o
  cases dt <;> first | exact absurd rfl ho | simp [Heap.get?]
theorem lam_ne_cell {f : Addr} {d : LamD} {clos : List (Str × Addr)} {c : Addr} {v : V} : HO.ext (LamX f d clos c) ≠ HO.ext (CellX f v) := fun e => by
  injection e with e
  obtain ⟨h, hh⟩ := heap_at f (PySem.W.kla_obj "<lambda>" d.qual d.params d.body d.scope clos .none c .none) (by intro z; cases z)
  have y : CellX f v h := by rw [← e]; exact ⟨_, _, hh⟩
  obtain ⟨o, u, e1, e2, _⟩ := y
  rw [hh] at e1
  cases e1
  cases e2
theorem code_ne_cell {c : Addr} {q : Str} {v : V} : HO.ext (CodeX c q) ≠ HO.ext (CellX c v) := fun e => by
  injection e with e
  obtain ⟨h, hh⟩ := heap_at c { cls := .none, data := .fields #[.none, .str q 0] } (by intro z; cases z)
  have y : CellX c v h := by rw [← e]; exact ⟨_, _, _, hh, rfl, rfl⟩
  obtain ⟨o, u, e1, e2, _⟩ := y
  rw [hh] at e1
  cases e1
  cases e2
def notT : HO → Bool
  | .tbl _ => false
  | _ => true
def SameT (H H' : Hp) : Prop := ∀ b o, H b = some o → (notT o = true → H' b = some o) ∧ ∃ o', H' b = some o'
theorem SameT.refl {H : Hp} : SameT H H := fun b o e => ⟨fun _ => e, o, e⟩
theorem SameT.trans {H H1 H2 : Hp} (a : SameT H H1) (b : SameT H1 H2) : SameT H H2 := fun c o e => by
  obtain ⟨f, o', e'⟩ := a c o e
  obtain ⟨g, o2, e2⟩ := b c o' e'
  exact ⟨fun n => (b c o (f n)).1 n, o2, e2⟩
theorem Same.t {H H' : Hp} (s : Same H H') : SameT H H' := fun b o e => ⟨fun _ => s b o e, o, s b o e⟩
theorem SameT.at {H H' : Hp} (s : SameT H H') {a : Addr} {o : HO} (e : H a = some o) (n : notT o = true := by rfl) : H' a = some o := (s a o e).1 n
theorem SameT.free {H H' : Hp} (s : SameT H H') {a : Addr} (e : H' a = none) : H a = none := by
  cases q : H a with
  | none => rfl
  | some o => obtain ⟨_, o', e'⟩ := s a o q; rw [e] at e'; cases e'
theorem SameT.put {H H' : Hp} (s : SameT H H') {a : Addr} {o : HO} (e : H a = none) : SameT H (upd H' a o) := fun b u q => by
  have n : b ≠ a := fun z => by rw [z, e] at q; cases q
  rw [upd_ne n]
  exact s b u q
def TabOk (H : Hp) (P : Addr) (ls : List (Pos × Str)) : Prop := ∃ ps, H P = some (.tbl ps) ∧ TriplesOk ps.toList ∧ ∀ l ∈ ls, codeAmong l.1 ps.toList = none ∨ ∃ c, codeAmong l.1 ps.toList = some (.ref c) ∧ H c = some (.ext (CodeX c l.2))
abbrev Tabs := List (Addr × List (Pos × Str))
def TabsOk (tabs : Tabs) (H : Hp) : Prop := ∀ q ∈ tabs, TabOk H q.1 q.2
theorem TabsOk.same {tabs : Tabs} {H H' : Hp} (t : TabsOk tabs H) (s : Same H H') : TabsOk tabs H' := fun q hq => by
  obtain ⟨ps, e1, e2, e3⟩ := t q hq
  exact ⟨ps, s _ _ e1, e2, fun l hl => (e3 l hl).imp id fun ⟨c, a, b⟩ => ⟨c, a, s _ _ b⟩⟩
theorem TabsOk.put {tabs : Tabs} {H : Hp} {r : Addr} {o : HO} (t : TabsOk tabs H) (h1 : ∀ ps, H r ≠ some (.tbl ps)) (h2 : ∀ φ, H r ≠ some (.ext φ)) : TabsOk tabs (upd H r o) := fun q hq => by
  obtain ⟨ps, e1, e2, e3⟩ := t q hq
  refine ⟨ps, ?_, e2, fun l hl => (e3 l hl).imp id fun ⟨c, a, b⟩ => ⟨c, a, ?_⟩⟩
  · rw [upd_ne fun z => h1 ps (by rw [← z]; exact e1)]; exact e1
  · rw [upd_ne fun z => h2 _ (by rw [← z]; exact b)]; exact b
theorem among_other {p p' : Pos} {c : Value} (l : List Value) (h : TriplesOk l) (hn : ¬ (p.line = p'.line ∧ p.col = p'.col)) : codeAmong p' (l ++ [rawInt p.line, rawInt p.col, c]) = codeAmong p' l := by
  fun_induction TriplesOk l with
  | case1 =>
    simp only [List.nil_append, codeAmong, rawInt]
    rw [if_neg]
    intro z
    rw [Bool.and_eq_true, beq_iff_eq, beq_iff_eq] at z
    exact hn ⟨by omega, by omega⟩
  | case2 a t b u x rest ih =>
    simp only [List.cons_append, codeAmong]
    rw [ih h]
  | case3 => exact h.elim
theorem triples_snoc {p : Pos} {c : Value} (l : List Value) (h : TriplesOk l) : TriplesOk (l ++ [rawInt p.line, rawInt p.col, c]) := by
  fun_induction TriplesOk l with
  | case1 => simp [TriplesOk, rawInt]
  | case2 a t b u x rest ih => exact ih h
  | case3 => exact h.elim
def Bm (mg : Str → Option Value) (base : Heap) : Prop := ∃ bm ob, mg "__builtins__" = some (.ref bm) ∧ base.get? bm = some ob ∧ ob.cls = .type "module" ∧ ob.dict = some builtinsNs ∧ ob.data = .plain
def tLam (tabs : Tabs) (d : LamD) (clos : List (Str × Addr)) : TE := fun σ H Q => TabsOk tabs H ∧ ∀ f c H1, SameT H H1 → TabsOk tabs H1 → H f = none → H1 f = some (.ext (LamX f d clos c)) → H1 c = some (.ext (CodeX c d.qual)) → Q (.ref f) H1
end L2
set_option Elab.async false
set_option linter.all false
set_option maxRecDepth 100000
set_option maxHeartbeats 4000000
namespace L2
open PySem PySem.Spec PyProof.Rows
theorem fst_inj {α β : Type} : ∀ {l : List (α × β)}, (l.map (·.1)).Nodup → ∀ x ∈ l, ∀ y ∈ l, x.1 = y.1 → x = y
  | [], _, x, hx, _, _, _ => by cases hx
  | a :: r, nd, x, hx, y, hy, e => by
    rw [List.map_cons, List.nodup_cons] at nd
    rcases List.mem_cons.mp hx with rfl | hx' <;> rcases List.mem_cons.mp hy with rfl | hy'
    · rfl
    · exact absurd (List.mem_map.mpr ⟨y, hy', e.symm⟩) nd.1
    · exact absurd (List.mem_map.mpr ⟨x, hx', e⟩) nd.1
    · exact fst_inj nd.2 x hx' y hy' e
theorem pos_inj : ∀ {l : List (Pos × Str)}, (l.Pairwise fun x y => ¬ (x.1.line = y.1.line ∧ x.1.col = y.1.col)) → ∀ x ∈ l, ∀ y ∈ l, (x.1.line = y.1.line ∧ x.1.col = y.1.col) → x = y
  | [], _, x, hx, _, _, _ => by cases hx
  | a :: r, nd, x, hx, y, hy, e => by
    rw [List.pairwise_cons] at nd
    rcases List.mem_cons.mp hx with rfl | hx' <;> rcases List.mem_cons.mp hy with rfl | hy'
    · rfl
    · exact absurd e (nd.1 y hy')
    · exact absurd ⟨e.1.symm, e.2.symm⟩ (nd.1 x hx')
    · exact pos_inj nd.2 x hx' y hy' e
section
variable {X : Cx} {tabs : Tabs} {P c : Addr} {ls : List (Pos × Str)} {d : LamD} {clos : List (Str × Addr)} {pos : Pos}
theorem pe_lam (hcd : X.env.code = .ref c) (hC : PySem.W.codeHdIn X.K c P = true) (hB : Bm X.mg X.base) (hq : X.env.qual ++ "<lambda>" = d.qual) (hcl : closureFor d.scope X.env = pure clos) (hdef : defaultsOf d.params X.env = ([], []))
    (hm : (P, ls) ∈ tabs) (hl : (pos, d.qual) ∈ ls) (hnd : (tabs.map (·.1)).Nodup) (hps : ls.Pairwise fun x y => ¬ (x.1.line = y.1.line ∧ x.1.col = y.1.col)) : PE X (.Lambda d.params d.body d.scope pos) (tLam tabs d clos) := by
  intro pins s σ H Q I h
  obtain ⟨hT, hQ⟩ := h
  refine PySem.W.kla_eval hdef ?_
  rw [hq]
  obtain ⟨ps, hP, htr, hls⟩ := hT _ hm
  have hgs : s.heap.Ns mainGlobals X.mg := I.mod.glob.keeps I.bk
  have C : PySem.W.CodeHd s.heap c P := PySem.W.codeHd_of_K I.kIn hC
  have hPo : s.heap.get? P = some (PySem.W.tabObj ps) := I.hok P _ hP
  have hgP : mainGlobals ≠ P := fun q => by
    obtain ⟨o, es, ep, e, hd, _⟩ := hgs
    rw [q, hPo] at e; cases e; cases hd
  obtain ⟨bm, ob, b1, b2, b3, b4, b5⟩ := hB
  have bo := I.bk _ _ b2
  have hbP : bm ≠ P := fun q => by
    rw [q, hPo] at bo; cases bo; cases b3
  have hbG : bm ≠ mainGlobals := fun q => by
    obtain ⟨o, es, ep, e, hd, _⟩ := hgs
    rw [q, e] at bo; cases bo; rw [hd] at b5; cases b5
  have hbB : bm ≠ builtinsNs := fun q => by
    obtain ⟨mb, ⟨o, es, ep, e, hd, _⟩, _⟩ := I.mod.blt
    rw [q, e] at b2; cases b2; rw [hd] at b5; cases b5
  have BA : s.heap.BuiltinsAt X.mg P := ⟨bm, ob, b1, hbB, hbG, hbP, bo, b3, b4, b5⟩
  rcases hls _ hl with hn | ⟨c', hc, hHc⟩
  · refine PySem.W.kla_makeFunction (mg := X.mg) hcl I.ok.glob hgs hcd C hPo htr hn hgP BA fun c' ctv h' tk hx hge hlt hrec htb => ?_
    have hc0 : H c' = none := I.hok.fresh hge
    have hf0 : H h'.objs.size = none := I.hok.fresh (Nat.le_trans hge (Nat.le_of_lt hlt))
    have ncf : c' ≠ h'.objs.size := Nat.ne_of_lt hlt
    have nPc : P ≠ c' := ne_of_none hP hc0
    have nPf : P ≠ h'.objs.size := ne_of_none hP hf0
    obtain ⟨f, hf⟩ : ∃ f, f = h'.objs.size := ⟨_, rfl⟩
    obtain ⟨ob', hob⟩ : ∃ o, o = PySem.W.kla_obj "<lambda>" d.qual d.params d.body d.scope clos ((X.mg "__name__").getD .none) c' ctv := ⟨_, rfl⟩
    have hfo : (h'.push ob').get? f = some ob' := by rw [hf, hob]; exact Heap.get?_push_size _ rfl
    have keep : ∀ b o, b ≠ P → s.heap.get? b = some o → (h'.push ob').get? b = some o := fun b o n e => Heap.get?_push_of_some _ (hx b o n e)
    have htb' : (h'.push ob').get? P = some (PySem.W.tabObj (ps ++ #[rawInt pos.line, rawInt pos.col, .ref c'])) := Heap.get?_push_of_some _ htb
    have hcx : CodeX c' d.qual (h'.push ob') := by
      obtain ⟨c2, oc, vs, t, e2, hoc, hdt, hv⟩ := hrec
      cases e2
      exact ⟨oc, vs, t, Heap.get?_push_of_some _ hoc, hdt, hv⟩
    rw [← hf] at hf0 ncf nPf ⊢
    rw [← hob]
    obtain ⟨H1, hH1⟩ : ∃ H1, H1 = upd (upd (upd H P (.tbl (ps ++ #[rawInt pos.line, rawInt pos.col, .ref c']))) c' (.ext (CodeX c' d.qual))) f (.ext (LamX f d clos c')) := ⟨_, rfl⟩
    have gf : H1 f = some (.ext (LamX f d clos c')) := by rw [hH1]; exact upd_same
    have gc : H1 c' = some (.ext (CodeX c' d.qual)) := by rw [hH1, upd_ne ncf]; exact upd_same
    have gP : H1 P = some (.tbl (ps ++ #[rawInt pos.line, rawInt pos.col, .ref c'])) := by rw [hH1, upd_ne nPf, upd_ne nPc]; exact upd_same
    have go : ∀ b, b ≠ P → b ≠ c' → b ≠ f → H1 b = H b := fun b h1 h2 h3 => by rw [hH1, upd_ne h3, upd_ne h2, upd_ne h1]
    have same : ∀ b o, b ≠ P → H b = some o → H1 b = some o := fun b o n e => by rw [go b n (ne_of_none e hc0) (ne_of_none e hf0)]; exact e
    have nt : ∀ b o, H b = some o → (∀ qs, o ≠ .tbl qs) → b ≠ P := fun b o e n z => by rw [z, hP] at e; cases e; exact n ps rfl
    have un : Un X.fs [] H H1 s.heap (h'.push ob') := by
      refine ⟨fun b o e n _ _ => keep b o (fun z => by rw [z, hP] at n; cases n) e, fun b o e n _ _ => ⟨o.slots, keep b o (fun z => by rw [z, hP] at n; cases n) e⟩, fun b o e n _ => ?_, fun b o e _ => ?_, fun b xs e => same b _ (nt b _ e fun _ z => nomatch z) e, fun b o u e => same b _ (nt b _ e fun _ z => nomatch z) e, fun b qs e => ?_⟩
      · have hb : b < s.heap.objs.size := Heap.lt_size e
        rw [go b (fun z => by rw [z, hP] at n; cases n) (Nat.ne_of_lt (Nat.lt_of_lt_of_le hb hge)) (by rw [hf]; exact Nat.ne_of_lt (Nat.lt_of_lt_of_le hb (Nat.le_trans hge (Nat.le_of_lt hlt))))]
        exact n
      · by_cases hb : b = P
        · rw [hb]; exact ⟨_, htb'⟩
        · exact ⟨o, keep b o hb e⟩
      · by_cases hb : b = P
        · rw [hb, hP] at e
          cases e
          rw [hb]
          exact ⟨_, gP⟩
        · exact ⟨#[], by rw [same b _ hb e]; simp⟩
    have hok : HOk X.prog X.w H1 (h'.push ob') := fun a o e => by
      by_cases h1 : a = f
      · subst h1; rw [gf] at e; cases e; exact lamX_ok (by rw [hfo, hob])
      by_cases h2 : a = c'
      · subst h2; rw [gc] at e; cases e; exact codeX_ok hcx
      by_cases h3 : a = P
      · subst h3; rw [gP] at e; cases e; exact htb'
      rw [go a h3 h2 h1] at e
      refine (I.hok a o e).stay (fun b u hb q => keep b u ?_ q) (fun b q => same b _ (nt b _ q fun _ z => nomatch z) q) fun b xs q => same b _ (nt b _ q fun _ z => nomatch z) q
      rcases hb with rfl | hb
      · exact h3
      · exact nt b _ hb fun _ z => nomatch z
    refine ⟨.ref f, H1, I.un (h' := h'.push ob') (t' := tk) un hok, rfl, hQ f c' H1 (fun b o e => ?_) (fun q hq' => ?_) hf0 gf gc⟩
    · by_cases hb : b = P
      · subst hb
        rw [hP] at e
        cases e
        exact ⟨fun z => (Bool.false_ne_true z).elim, _, gP⟩
      · exact ⟨fun _ => same b o hb e, o, same b o hb e⟩
    · by_cases hqP : q.1 = P
      · have hqe : q = (P, ls) := fst_inj hnd q hq' (P, ls) hm hqP
        subst hqe
        refine ⟨_, gP, by rw [Array.toList_append]; exact triples_snoc _ htr, fun l' hl' => ?_⟩
        rw [Array.toList_append]
        by_cases hp : pos.line = l'.1.line ∧ pos.col = l'.1.col
        · have := pos_inj hps (pos, d.qual) hl l' hl' hp
          subst this
          exact .inr ⟨c', codeAmong_snoc _ htr hn, gc⟩
        · have eo := among_other (c := .ref c') ps.toList htr hp
          rcases hls l' hl' with z | ⟨c2, z1, z2⟩
          · exact .inl (eo.trans z)
          · exact .inr ⟨c2, eo.trans z1, same c2 _ (nt c2 _ z2 fun _ z => nomatch z) z2⟩
      · obtain ⟨qs, e1, e2, e3⟩ := hT q hq'
        exact ⟨qs, same _ _ hqP e1, e2, fun l' hl' => (e3 l' hl').imp id fun ⟨c2, z1, z2⟩ => ⟨c2, z1, same c2 _ (nt c2 _ z2 fun _ z => nomatch z) z2⟩⟩
  · refine PySem.W.kla_makeFunctionHit (mg := X.mg) hcl I.ok.glob hgs hcd C hPo htr hc BA fun ctv h' tk hk hsz => ?_
    have hf0 : H h'.objs.size = none := I.hok.fresh hsz
    have sm : Same H (upd H h'.objs.size (.ext (LamX h'.objs.size d clos c'))) := Same.new hf0
    refine ⟨.ref h'.objs.size, _, I.laid (a := h'.objs.size) (o := .ext (LamX h'.objs.size d clos c')) (t' := tk) (fun b u e => Heap.get?_push_of_some _ (hk b u e)) hsz (lamX_ok (Heap.get?_push_size _ rfl)), rfl, hQ _ c' _ sm.t (hT.same sm) hf0 upd_same (sm _ _ hHc)⟩
end
end L2
set_option Elab.async false
set_option linter.all false
set_option maxRecDepth 100000
set_option maxHeartbeats 4000000
namespace L2
open PySem PySem.Spec PyProof.Rows
def untrs (H : Hp) (cs : List Addr) : Hp := fun b => if b ∈ cs then none else H b
theorem untrs_in {H : Hp} {cs : List Addr} {b : Addr} (h : b ∈ cs) : untrs H cs b = none := by unfold untrs; rw [if_pos h]
theorem untrs_out {H : Hp} {cs : List Addr} {b : Addr} (h : b ∉ cs) : untrs H cs b = H b := by unfold untrs; rw [if_neg h]
theorem untrs_none {H : Hp} {cs : List Addr} {b : Addr} (h : H b = none) : untrs H cs b = none := by unfold untrs; split <;> first | rfl | exact h
abbrev CellsAt (H : Hp) : List (Str × Addr) → List V → Prop := Paired fun (p : Str × Addr) (v : V) => H p.2 = some (.ext (CellX p.2 v))
theorem CellsAt.mem {H : Hp} : ∀ {clos : List (Str × Addr)} {vals : List V}, CellsAt H clos vals → ∀ p ∈ clos, ∃ v, H p.2 = some (.ext (CellX p.2 v))
  | _, _, .nil, p, h => by cases h
  | _, _, .cons r t, p, h => by
    rcases List.mem_cons.mp h with rfl | h
    · exact ⟨_, r⟩
    · exact CellsAt.mem t p h
theorem CellsAt.get {H : Hp} : ∀ {clos : List (Str × Addr)} {vals : List V} {i : Nat} {v : V}, CellsAt H clos vals → vals[i]? = some v → ∃ p, clos[i]? = some p ∧ H p.2 = some (.ext (CellX p.2 v))
  | _, _, _, _, .nil, h => by cases h
  | _, _, 0, _, .cons r t, h => by cases h; exact ⟨_, rfl, r⟩
  | _, _, i + 1, _, .cons r t, h => CellsAt.get (i := i) t h
theorem CellsAt.at {H : Hp} {clos : List (Str × Addr)} {vals : List V} (ca : CellsAt H clos vals) {b : Addr} (hb : b ∈ clos.map (·.2)) : ∃ v, H b = some (.ext (CellX b v)) := by
  obtain ⟨p, hp, rfl⟩ := List.mem_map.mp hb
  exact ca.mem p hp
theorem untrs_of {H : Hp} {clos : List (Str × Addr)} {vals : List V} {b : Addr} {o : HO} (ca : CellsAt H clos vals) (h : H b = some o) (n : ∀ v, o ≠ .ext (CellX b v)) : untrs H (clos.map (·.2)) b = some o := by
  rw [untrs_out fun z => ?_]
  · exact h
  · obtain ⟨v, e⟩ := ca.at z
    rw [h] at e
    exact n v (Option.some.inj e)
theorem lookup_of_mem {α : Type} : ∀ {l : List (Str × α)} {x : Str} {u : α}, (l.map (·.1)).Nodup → (x, u) ∈ l → l.lookup x = some u
  | [], _, _, _, h => by cases h
  | (y, w) :: r, x, u, nd, h => by
    rw [List.map_cons, List.nodup_cons] at nd
    rcases List.mem_cons.mp h with e | h
    · cases e; simp [List.lookup]
    · have : x ≠ y := fun z => nd.1 (List.mem_map.mpr ⟨(x, u), h, z⟩)
      rw [List.lookup_cons, beq_eq_false_iff_ne.mpr this]
      exact lookup_of_mem nd.2 h
theorem nodup_rev {α : Type} {l : List α} (h : l.Nodup) : l.reverse.Nodup := by
  unfold List.Nodup at h ⊢
  rw [List.pairwise_reverse]
  exact h.imp fun n z => n z.symm
def lamEnv (d : LamD) (L f c : Addr) (clos : List (Str × Addr)) : Env := { scope := d.scope, locals := L, globals := mainGlobals, cells := clos, qual := d.qual ++ ".<locals>.", func := some f, code := .ref c, frame := some L, builtins := builtinsNs }
def cxL (P : Program) (w : World) (K : PySem.W.Frag) (mg : Str → Option Value) (base : Heap) (N : List Str) (d : LamD) (clos : List (Str × Addr)) (f c : Addr) (A : Around) (outer : List Env) (s : Shared) (H : Hp) : Cx where
  prog := P
  w := w
  K := K
  mg := mg
  base := base
  A := A.deeper (lamEnv d s.heap.objs.size f c clos)
  N := N
  s₀ := s
  H₀ := untrs H (clos.map (·.2))
  env := lamEnv d s.heap.objs.size f c clos
  outer := outer
  stack := lamEnv d s.heap.objs.size f c clos :: outer
  ex := []
  calm := true
  fn := fun _ => false
  pn := []
  xe := fun _ _ => False
def LamOk (P : Program) (w : World) (K : PySem.W.Frag) (mg : Str → Option Value) (base : Heap) (k : Nat) (d : LamD) (fv ps : List Str) (sp : List V → Sp) : Prop :=
  ∀ (A : Around) (outer : List Env) (s : Shared) (H : Hp) (f c : Addr) (clos : List (Str × Addr)) (us : List Value) (vs vals : List V) (Q : VK) (E : XK), Room k A → Env0 P w K mg base A outer s H → H f = some (.ext (LamX f d clos c)) → H c = some (.ext (CodeX c d.qual)) →
    clos.map (·.1) = fv → (clos.map (·.2)).Nodup → CellsAt H clos vals → Vals vs us → sp vals vs H Q E → codeAny (model P w) A (.call (.ref f) ⟨us, []⟩) (CR CX0 outer P w H s Q E) s
structure LamScope (d : LamD) (fv ps : List Str) : Prop where
  kind : d.scope.kind = .function
  co : d.scope.isCoroutine = false
  gen : d.scope.isGenerator = false
  nocell : ∀ x ∈ d.scope.names, x.2 ≠ .cell
  par : ∀ x ∈ ps, d.scope.names.lookup x = some .local
  free : ∀ x ∈ d.scope.names, x.2 = .free → x.1 ∈ fv
  fr : ∀ x ∈ fv, d.scope.names.lookup x = some .free
  nd : (ps ++ fv).Nodup
theorem mem_of_look {α β : Type} [BEq α] [LawfulBEq α] : ∀ {l : List (α × β)} {x : α} {u : β}, l.lookup x = some u → (x, u) ∈ l
  | [], _, _, h => by cases h
  | (y, w) :: r, x, u, h => by
    rw [List.lookup_cons] at h
    cases e : x == y with
    | true => rw [e] at h; cases h; rw [eq_of_beq e]; exact List.mem_cons_self ..
    | false => rw [e] at h; exact List.mem_cons_of_mem _ (mem_of_look h)
theorem inv_startL {P : Program} {w : World} {K : PySem.W.Frag} {mg : Str → Option Value} {base : Heap} {d : LamD} {fv ps : List Str} {clos : List (Str × Addr)} {f c : Addr} {A : Around} {outer : List Env} {s : Shared} {H : Hp} {us : List Value} {vs vals : List V} {h1 : Heap} {tk : Nat}
    (S : LamScope d fv ps) (hd : A.handled = none) (e0 : Env0 P w K mg base A outer s H) (hl : vs.length = ps.length) (r : Vals vs us) (hfv : clos.map (·.1) = fv) (hnd : (clos.map (·.2)).Nodup) (ca : CellsAt H clos vals)
    (hns : h1.Ns s.heap.objs.size (fun x => (ps.zip us).reverse.lookup x)) (hk : ∀ b o, s.heap.get? b = some o → h1.get? b = some o) :
    Inv (cxL P w K mg base (ps ++ fv) d clos f c A outer s H) [] ((vs ++ vals).map some) (untrs H (clos.map (·.2))) { s with heap := h1, toks := tk } := by
  have ndf : (clos.map (·.1)).Nodup := by rw [hfv]; exact (List.nodup_append.mp S.nd).2.1
  have ndp : ps.Nodup := (List.nodup_append.mp S.nd).1
  have lus : us.length = ps.length := by rw [← r.length]; exact hl
  have hin : ∀ x c', clos.lookup x = some c' → c' ∈ clos.map (·.2) := fun x c' e => List.mem_map.mpr ⟨(x, c'), mem_of_look e, rfl⟩
  have cellOf : ∀ b v, H b = some (.ext (CellX b v)) → ∃ u, RelV v u ∧ h1.IsCell b (some u) := fun b v e => by
    obtain ⟨⟨o, u, g1, g2, g3⟩, _⟩ := e0.hok b _ e
    exact ⟨u, g3, o, hk _ _ g1, g2⟩
  have noA : ∀ b : Addr, b ∉ (cxL P w K mg base (ps ++ fv) d clos f c A outer s H).ex := fun b z => absurd (show b ∈ ([] : List Addr) from z) (by simp)
  have lcl : clos.length = fv.length := by rw [← hfv, List.length_map]
  have lva : vals.length = clos.length := (Paired.length ca).symm
  refine ⟨⟨e0.mod, S.kind, rfl, rfl, Nat.le_refl _, fun y z c' h1 h2 => ?_, fun y hy => ?_, fun y c' h => (Bool.false_ne_true h).elim, fun _ => hd, Around.frames_deeper e0.frames, .inr ⟨rfl, rfl⟩, fun b z => absurd z (noA b), fun b o e => ⟨(e0.bs b o e).1, untrs_none (e0.bs b o e).2⟩, e0.bsz, fun b _ _ => noA b, fun b z => absurd z (noA b), e0.funs, fun b hb => untrs_none (e0.frf b hb)⟩,
    rfl, e0.bare, Un.kept hk, ⟨_, hns, fun i y v g1 g2 g3 => ?_⟩, fun y c' h => ?_, untrs_none (e0.hok.fresh (Nat.le_refl _)), fun y c' h => untrs_in (hin y c' h), fun p hp => absurd (show p ∈ ([] : List (Addr × Obj)) from hp) (by simp), fun b u e => ?_, ?_⟩
  · have h1 : clos.lookup y = some c' := h1
    have h2 : clos.lookup z = some c' := h2
    have e1 := mem_of_look h1
    have e2 := mem_of_look h2
    have nd2 : ((clos.map fun p => (p.2, p.1)).map (·.1)).Nodup := by rw [List.map_map]; exact hnd
    have := fst_inj nd2 (c', y) (List.mem_map.mpr ⟨_, e1, rfl⟩) (c', z) (List.mem_map.mpr ⟨_, e2, rfl⟩) rfl
    exact congrArg Prod.snd this
  · have hy : d.scope.names.lookup y = some .cell ∨ d.scope.names.lookup y = some .free := hy
    rcases hy with hy | hy
    · exact absurd rfl (S.nocell _ (mem_of_look hy))
    · have := S.free _ (mem_of_look hy) rfl
      rw [← hfv] at this
      obtain ⟨p, hp, e⟩ := List.mem_map.mp this
      have e' : p.1 = y := e
      exact ⟨p.2, lookup_of_mem ndf (by show (y, p.2) ∈ clos; rw [← e']; exact hp)⟩
  · have g1 : (ps ++ fv)[i]? = some y := g1
    by_cases hi : i < ps.length
    · rw [List.getElem?_append_left hi] at g1
      rw [List.getElem?_map, List.getElem?_append_left (by omega)] at g2
      have g2' : vs[i]? = some v := by
        cases q : vs[i]? with
        | none => rw [q] at g2; cases g2
        | some x => rw [q] at g2; cases g2; rfl
      obtain ⟨u, hu, rv⟩ := r.get g2'
      refine ⟨u, rv, .inl ⟨S.par y (List.mem_of_getElem? g1), ?_⟩⟩
      have mem : (y, u) ∈ ps.zip us := List.mem_of_getElem? (i := i) (by rw [List.getElem?_zip_eq_some]; exact ⟨g1, hu⟩)
      refine lookup_of_mem ?_ (List.mem_reverse.mpr mem)
      rw [List.map_reverse]
      refine nodup_rev ?_
      have : (ps.zip us).map (·.1) = ps := by rw [List.map_fst_zip]; omega
      rw [this]
      exact ndp
    · rw [List.getElem?_append_right (by omega)] at g1
      rw [List.getElem?_map, List.getElem?_append_right (by omega)] at g2
      have g2' : vals[i - ps.length]? = some v := by
        rw [hl] at g2
        cases q : vals[i - ps.length]? with
        | none => rw [q] at g2; cases g2
        | some x => rw [q] at g2; cases g2; rfl
      obtain ⟨p, hp, e⟩ := ca.get g2'
      rw [← hfv, List.getElem?_map, hp] at g1
      cases g1
      obtain ⟨u, rv, ic⟩ := cellOf _ _ e
      have hmem := List.mem_of_getElem? hp
      refine ⟨u, rv, .inr ⟨.inr (S.fr p.1 ?_), p.2, lookup_of_mem ndf hmem, ic⟩⟩
      rw [← hfv]
      exact List.mem_map.mpr ⟨p, hmem, rfl⟩
  · obtain ⟨v, e⟩ := ca.at (hin y c' h)
    obtain ⟨u, _, ic⟩ := cellOf _ _ e
    exact ⟨_, ic⟩
  · by_cases hb : b ∈ clos.map (·.2)
    · rw [untrs_in hb] at e; cases e
    · rw [untrs_out hb] at e
      refine (e0.hok b u e).stay (fun b' u' _ q => hk b' u' q) (fun b' q => ?_) fun b' xs q => ?_
      · exact untrs_of ca q fun v z => nomatch z
      · exact untrs_of ca q fun v z => nomatch z
  · show ((vs ++ vals).map some).length = (ps ++ fv).length
    rw [List.length_map, List.length_append, List.length_append]
    omega
end L2
set_option Elab.async false
set_option linter.all false
set_option maxRecDepth 100000
set_option maxHeartbeats 4000000
namespace L2
open PySem PySem.Spec PyProof.Rows
section
variable {P : Program} {w : World} {K : PySem.W.Frag} {mg : Str → Option Value} {base : Heap}
theorem lam_of {d : LamD} {fv ps : List Str} {k : Nat} {sp : List V → Sp} (S : LamScope d fv ps)
    (hbind : ∀ (pm ctv : Value) (clos : List (Str × Addr)) (c : Addr) (us : List Value), us.length = ps.length → bindArgs (PySem.W.kla_fn "<lambda>" d.qual d.params d.body d.scope clos pm (.ref c) ctv) ⟨us, []⟩ = pure (ps.zip us))
    (len : ∀ vals vs H Q E, sp vals vs H Q E → vs.length = ps.length)
    (hbody : ∀ (A : Around) (outer : List Env) (s : Shared) (H : Hp) (f c : Addr) (clos : List (Str × Addr)) (vals vs : List V) (Q : VK) (E : XK), Room k (A.deeper (lamEnv d s.heap.objs.size f c clos)) → clos.map (·.1) = fv → CellsAt H clos vals → sp vals vs H Q E →
      ∃ t, PE (cxL P w K mg base (ps ++ fv) d clos f c A outer s H) d.body t ∧ t ((vs ++ vals).map some) (untrs H (clos.map (·.2))) (fun v H' => ∀ H3, Same H' H3 → (∀ p ∈ clos, H3 p.2 = H p.2) → Q v H3)) :
    LamOk P w K mg base (k + 1) d fv ps sp := by
  intro A outer s H f c clos us vs vals Q E hr e0 hf hc hfv hnd ca r hsp
  have hl := len _ _ _ _ _ hsp
  have lus : us.length = ps.length := by rw [← r.length]; exact hl
  obtain ⟨⟨pm, ctv, ef⟩, _, _⟩ := e0.hok f _ hf
  obtain ⟨⟨oc, cvs, ct, ec, ed, ev⟩, _, _⟩ := e0.hok c _ hc
  have lim : s.heap.NoLimit := e0.mod.nolimit.keeps fun b o e => (e0.bs b o e).1
  obtain ⟨t, ht, hq⟩ := hbody A outer s H f c clos vals vs Q E (hr.deeper _) hfv ca hsp
  refine PySem.W.kla_callFunE (body := d.body) hr.depth ef rfl S.co S.gen rfl ⟨c, oc, cvs, ct, rfl, ec, ed, ev⟩ ?_
  rw [hbind pm ctv clos c us lus]
  refine wpAny_pure (wpAny_newFunctionEnv S.nocell (fun y hy => S.par y.1 (List.of_mem_zip hy).1) (fun h1 hns hsb => ?_) S.kind)
  have hk : ∀ b o, s.heap.get? b = some o → h1.get? b = some o := fun b o e => hsb.extBut b o (Nat.ne_of_lt (Heap.lt_size e)) (Heap.get?_push_of_some _ e)
  refine ⟨lim.fresh _ hsb, ?_⟩
  show codeAny _ _ (.expr d.body (lamEnv d s.heap.objs.size f c clos)) _ _
  have I := inv_startL (f := f) (c := c) (tk := s.toks + (ps.zip us).length) S hr.hd e0 hl r hfv hnd ca hns hk
  refine PySem.W.kla_codeExpr (wpAny_mono (ht [] _ _ _ _ I hq) (fun u s' hs => ?_) fun e s' z => False.elim z)
  obtain ⟨v, H', J, rv, q⟩ := hs
  obtain ⟨cs, hcs⟩ : ∃ cs, cs = clos.map (·.2) := ⟨_, rfl⟩
  have ub : Un (frs outer) [] (untrs H (clos.map (·.2))) H' s.heap s'.heap := J.base
  have hat : ∀ b, b ∈ clos.map (·.2) → ∃ o v, s.heap.get? b = some o ∧ H b = some (.ext (CellX b v)) := fun b hb => by
    obtain ⟨v, e⟩ := ca.at hb
    obtain ⟨⟨o, _, g, _⟩, _⟩ := e0.hok b _ e
    exact ⟨o, v, g, e⟩
  have hfr : ∀ b ∈ clos.map (·.2), H' b = none := fun b hb => by
    obtain ⟨o, v, g, _⟩ := hat b hb
    exact ub.free b o g (untrs_in hb) (by simp)
  let H3 : Hp := fun b => if b ∈ clos.map (·.2) then H b else H' b
  have g1 : ∀ b, b ∈ clos.map (·.2) → H3 b = H b := fun b hb => if_pos hb
  have g2 : ∀ b, b ∉ clos.map (·.2) → H3 b = H' b := fun b hb => if_neg hb
  have sm : Same H' H3 := fun b o e => by
    rw [g2 b fun z => by rw [hfr b z] at e; cases e]
    exact e
  have up : ∀ b o, H b = some o → (∀ v, o ≠ .ext (CellX b v)) → b ∉ clos.map (·.2) := fun b o e n z => by
    obtain ⟨v, e'⟩ := ca.at z
    rw [e] at e'
    exact n v (Option.some.inj e')
  refine ⟨v, H3, J.os, J.bare, ⟨fun b o e n hb hx => ub.keep b o e (untrs_none n) hb hx, fun b o e n hb hx => ub.slot b o e (untrs_none n) hb hx, fun b o e n hx => ?_, ub.there, fun b xs e => ?_, fun b o u e => ?_, fun b ps' e => ?_⟩, fun b o e => ?_, rv, q H3 sm fun p hp => g1 p.2 (List.mem_map.mpr ⟨p, hp, rfl⟩)⟩
  · rw [g2 b fun z => by obtain ⟨_, v, _, e'⟩ := hat b z; rw [n] at e'; cases e']
    exact ub.free b o e (untrs_none n) hx
  · exact sm _ _ (ub.tups b xs (untrs_of ca e fun v z => nomatch z))
  · exact sm _ _ (ub.frzs b o u (untrs_of ca e fun v z => nomatch z))
  · obtain ⟨more, z⟩ := ub.tbls b ps' (untrs_of ca e fun v z => nomatch z)
    exact ⟨more, sm _ _ z⟩
  · by_cases hb : b ∈ clos.map (·.2)
    · rw [g1 b hb] at e
      obtain ⟨o', v', g, e'⟩ := hat b hb
      rw [e] at e'
      cases e'
      obtain ⟨⟨o2, u2, k1, k2, k3⟩, _⟩ := e0.hok b _ e
      refine cellX_ok ⟨o2, u2, ub.keep b o2 k1 (untrs_in hb) (fun z => ?_) (by simp), k2, k3⟩
      rw [e0.frf b z] at e
      cases e
    · rw [g2 b hb] at e
      refine (J.hok b o e).stay (fun b' u' _ q => q) (fun b' q => sm _ _ q) fun b' xs q => sm _ _ q
end
theorem PE.or {X : Cx} {e : Expr} {t t' : TE} (h : PE X e t) (h' : PE X e t') : PE X e (fun σ H Q => t σ H Q ∨ t' σ H Q) := fun pins s σ H Q I q => q.elim (h pins s σ H Q I) (h' pins s σ H Q I)
def rLam (d : LamD) (fv : List Str) (sp : List V → Sp) : V → List V → Hp → VK → Prop := fun v vs H Q => ∃ f c clos vals, v = .ref f ∧ H f = some (.ext (LamX f d clos c)) ∧ H c = some (.ext (CodeX c d.qual)) ∧ clos.map (·.1) = fv ∧ (clos.map (·.2)).Nodup ∧ CellsAt H clos vals ∧ sp vals vs H Q fun _ _ _ => False
def tCallL (d : LamD) (fv : List Str) (sp : List V → Sp) (tf : TE) (t : TA) : TE := fun σ H Q => tf σ H fun v H1 => (∃ f d' clos c, v = .ref f ∧ H1 f = some (.ext (LamX f d' clos c))) ∧ t σ H1 fun vs H2 => (∀ f d' clos c, v = .ref f → H1 f = some (.ext (LamX f d' clos c)) → H2 f = some (.ext (LamX f d' clos c))) ∧ rLam d fv sp v vs H2 Q
section
variable {X : Cx} {d : LamD} {fv ps : List Str} {k : Nat} {sp : List V → Sp} {x : Str} {p pos : Pos} {tf : TE} {t : TA} {e : Expr} {es : List Expr}
theorem run_lam {pins : List (Addr × Obj)} {σ : St} {H : Hp} {s : Shared} {Q : VK} {us : List Value} {vs : List V} {v : V} {u : Value} (L : LamOk X.prog X.w X.K X.mg X.base k d fv ps sp) (hr : Room k X.A) (I : Inv X pins σ H s) (rv : RelV v u) (r : Vals vs us) (h : rLam d fv sp v vs H Q) :
    wpAny (model X.prog X.w) X.A (call u us) (EP X pins σ Q) X.xe s := by
  obtain ⟨f, c, clos, vals, rfl, hf, hc, h1, h2, h3, h4⟩ := h
  obtain rfl : u = Value.ref f := rv
  refine wpAny_call (codeAny_mono (L X.A X.stack s H f c clos us vs vals Q _ hr I.env0 hf hc h1 h2 h3 r h4) fun r s' hq => ?_)
  cases r with
  | error e => exact False.elim hq
  | ok fl =>
    cases fl with
    | ret u => exact I.after hq
    | next => exact False.elim hq
    | brk => exact False.elim hq
    | cont => exact False.elim hq
theorem fnAt_of {H : Hp} {s : Shared} {P : Program} {w : World} {f c : Addr} {d : LamD} {clos : List (Str × Addr)} (ok : HOk P w H s.heap) (hf : H f = some (.ext (LamX f d clos c))) : PySem.W.FnAt f s.heap := by
  obtain ⟨⟨pm, ctv, ef⟩, _, _⟩ := ok f _ hf
  exact ⟨_, _, _, _, ef⟩
theorem pe_callL (hn : PE X (.Name x p) tf) (L : LamOk X.prog X.w X.K X.mg X.base k d fv ps sp) (hr : Room k X.A) (ha : PA X (e :: es) t)
    (he : starEach (e :: es) X.env = (false, eval e X.env) :: starEach es X.env := by rfl) (hpl : (backTo pos (starEach es X.env)).any (·.1) = false := by rfl) : PE X (.Call (.Name x p) (e :: es) [] pos) (tCallL d fv sp tf t) := by
  intro pins s σ H Q I h
  refine wpAny_Call_Name_kw (thn (hn pins s σ H _ I h) fun u s1 ⟨v, H1, I1, rv, ⟨f, d', clos, c, ef, hf⟩, q⟩ => ?_)
  subst ef
  obtain rfl : u = Value.ref f := rv
  refine PySem.W.callWith_F (fnAt_of I1.hok hf) (thn (ha pos pins s1 σ H1 _ I1 q) fun us s2 ⟨vs, H2, I2, r, q2⟩ => ⟨fnAt_of I2.hok (q2.1 _ _ _ _ rfl hf), ?_⟩) he hpl
  exact run_lam L hr I2 (v := .ref f) rfl r q2.2
theorem pe_callL0 (hn : PE X (.Name x p) tf) (L : LamOk X.prog X.w X.K X.mg X.base k d fv ps sp) (hr : Room k X.A) : PE X (.Call (.Name x p) [] [] pos) (fun σ H Q => tf σ H fun v H1 => rLam d fv sp v [] H1 Q) := by
  intro pins s σ H Q I h
  refine wpAny_Call_Name_kw (thn (hn pins s σ H _ I h) fun u s1 ⟨v, H1, I1, rv, q⟩ => ?_)
  obtain ⟨f, c, clos, vals, ef, hf, _⟩ := id q
  subst ef
  obtain rfl : u = Value.ref f := rv
  exact PySem.W.callWith_F0 (fnAt_of I1.hok hf) (run_lam (us := []) L hr I1 (v := .ref f) rfl .nil q)
end
end L2
set_option Elab.async false
set_option linter.all false
set_option maxRecDepth 100000
set_option maxHeartbeats 4000000
namespace L2
open PySem PySem.Spec PyProof.Rows
abbrev TR := VK → (V → St → Hp → Prop) → St → Hp → Prop
def PR (X : Cx) (sts : List Stmt) (t : TR) : Prop :=
  ∀ (pins : List (Addr × Obj)) (s : Shared) (σ : St) (H : Hp) (R : VK) (Z : V → St → Hp → Prop), Inv X pins σ H s → t R Z σ H →
    wpAny (model X.prog X.w) X.A (execs sts X.env) (fun f s' => ∃ u, f = .ret u ∧ ((∃ v σ' H', Inv X pins σ' H' s' ∧ RelV v u ∧ (R v H' ∨ Z v σ' H')) ∨ ∃ v H', s'.os = X.s₀.os ∧ AllBare s'.gens ∧ Un X.fs X.ex X.H₀ H' X.s₀.heap s'.heap ∧ HOk X.prog X.w H' s'.heap ∧ RelV v u ∧ R v H')) X.xe s
section
variable {X : Cx} {e : Expr} {te : TE} {pos : Pos} {st : Stmt} {rest : List Stmt} {t : TS} {u : TR}
theorem pr_ret (he : PE X e te) : PR X [.Return (some e) pos] (fun _ Z σ H => te σ H fun v H' => Z v σ H') := by
  intro pins s σ H R Z I h
  refine wpAny_execs_cons (wpAny_Return_some (thn (he pins s σ H _ I h) fun v s1 ⟨x, H1, I1, r1, q1⟩ => ?_))
  exact ⟨v, rfl, .inl ⟨x, σ, H1, I1, r1, .inr q1⟩⟩
theorem pr_cons (h1 : PS X st t) (h2 : PR X rest u) : PR X (st :: rest) (fun R Z σ H => t { nx := u R Z, rt := R } σ H) := by
  intro pins s σ H R Z I h
  refine wpAny_execs_cons (thn (h1 pins s σ H { nx := u R Z, rt := R } I h) fun f s1 q => ?_)
  cases f with
  | next =>
    obtain ⟨σ', H', I', q⟩ := q
    exact h2 pins s1 σ' H' R Z I' q
  | ret v =>
    obtain ⟨v', σ', H', I', r, q⟩ := q
    exact ⟨v, rfl, .inl ⟨v', σ', H', I', r, .inl q⟩⟩
  | brk => obtain ⟨_, _, _, q⟩ := q; exact False.elim q
  | cont => obtain ⟨_, _, _, q⟩ := q; exact False.elim q
end
def CellsOf (cells : List (Str × Addr)) (N : List Str) (σ : St) (H3 : Hp) : Prop := ∀ (i : Nat) (y : Str) (v : V) (c : Addr), N[i]? = some y → σ[i]? = some (some v) → cells.lookup y = some c → H3 c = some (.ext (CellX c v))
theorem cells_mem {y : Str} {c : Addr} : ∀ (names : List (Str × NameKind)) (n : Nat) (acc : List (Str × Addr)), (y, c) ∈ cellsFrom n names acc → (y, c) ∈ acc ∨ (y, NameKind.cell) ∈ names
  | [], n, acc, h => .inl h
  | (x, k) :: r, n, acc, h => by
    unfold cellsFrom at h
    split at h
    · rename_i hk
      rcases cells_mem r (n + 1) ((x, n) :: acc) h with z | z
      · rcases List.mem_cons.mp z with e | z
        · cases e
          rw [eq_of_beq hk]
          exact .inr (List.mem_cons_self ..)
        · exact .inl z
      · exact .inr (List.mem_cons_of_mem _ z)
    · rcases cells_mem r n acc h with z | z
      · exact .inl z
      · exact .inr (List.mem_cons_of_mem _ z)
section
variable {P : Program} {w : World} {K : PySem.W.Frag} {mg : Str → Option Value} {base : Heap}
theorem track {CX : CXT} {N : List Str} {qual : Str} {scope : Scope} {f : Addr} {cd : Value} {A : Around} {outer : List Env} {s s' : Shared} {H H' : Hp} {E : XK} {σ : St} (hN : N.Nodup) (hck : ∀ p ∈ scope.names, p.2 = .cell → scope.names.lookup p.1 = some .cell)
    {pins : List (Addr × Obj)} (J : Inv (cxOf CX P w K mg base N qual scope f cd A outer s H E) pins σ H' s') :
    ∃ H3, Same H' H3 ∧ CellsOf (cellsFrom (s.heap.objs.size + 1) scope.names []) N σ H3 ∧ (∀ b, H' b = none → H3 b ≠ none → ∃ y, (cellsFrom (s.heap.objs.size + 1) scope.names []).lookup y = some b) ∧ Un (frs outer) [] H H3 s.heap s'.heap ∧ HOk P w H3 s'.heap := by
  have hvis : ∀ y c, (cellsFrom (s.heap.objs.size + 1) scope.names []).lookup y = some c → scope.names.lookup y = some .cell := fun y c e => by
    rcases cells_mem _ _ _ (mem_of_look e) with z | z
    · cases z
    · exact hck _ z rfl
  obtain ⟨cells, hcells⟩ : ∃ l, l = cellsFrom (s.heap.objs.size + 1) scope.names [] := ⟨_, rfl⟩
  rw [← hcells] at hvis ⊢
  have henv : (cxOf CX P w K mg base N qual scope f cd A outer s H E).env.cells = cells := hcells.symm
  let G : Addr → V → Prop := fun b v => ∃ (i : Nat) (y : Str), N[i]? = some y ∧ σ[i]? = some (some v) ∧ cells.lookup y = some b
  have G1 : ∀ b v v', G b v → G b v' → v = v' := by
    rintro b v v' ⟨i, y, a1, a2, a3⟩ ⟨j, z, b1, b2, b3⟩
    have : y = z := J.ok.inj y z b (by rw [henv]; exact a3) (by rw [henv]; exact b3)
    subst this
    have : i = j := nodup_ix hN a1 b1
    subst this
    rw [a2] at b2
    cases b2
    rfl
  have G2 : ∀ b v, G b v → H' b = none ∧ s.heap.objs.size ≤ b ∧ CellX b v s'.heap := by
    rintro b v ⟨i, y, a1, a2, a3⟩
    refine ⟨J.freeC y b (by rw [henv]; exact a3), J.ok.cab y b rfl (by rw [henv]; exact a3), ?_⟩
    obtain ⟨m, hn, hl⟩ := J.loc
    obtain ⟨u, r, l⟩ := hl i y v a1 a2 (.inr (.inl (hvis y b a3)))
    rcases l with ⟨k, _⟩ | ⟨k, c, e, o, ho, hd⟩
    · exfalso
      have k : scope.names.lookup y = some .local := k
      rw [hvis y b a3] at k
      cases k
    · have e : cells.lookup y = some c := by rw [← henv]; exact e
      rw [a3] at e
      cases e
      exact ⟨o, u, ho, hd, r⟩
  classical
  let H3 : Hp := fun b => if h : ∃ v, G b v then some (.ext (CellX b (Classical.choose h))) else H' b
  have g1 : ∀ b v, G b v → H3 b = some (.ext (CellX b v)) := fun b v h => by
    have hx : ∃ v, G b v := ⟨v, h⟩
    show (if h : ∃ v, G b v then some (.ext (CellX b (Classical.choose h))) else H' b) = _
    rw [dif_pos hx, G1 b _ v (Classical.choose_spec hx) h]
  have g2 : ∀ b, (¬ ∃ v, G b v) → H3 b = H' b := fun b h => dif_neg h
  have sm : Same H' H3 := fun b o e => by
    rw [g2 b fun ⟨v, z⟩ => by rw [(G2 b v z).1] at e; cases e]
    exact e
  have jb : Un (frs outer) [] H H' s.heap s'.heap := J.base
  refine ⟨H3, sm, fun i y v c a1 a2 a3 => g1 c v ⟨i, y, a1, a2, a3⟩, (fun b n1 n2 => ?_), ⟨jb.keep, jb.slot, fun b o e n hx => ?_, jb.there, fun b xs e => sm _ _ (jb.tups b xs e), fun b o u e => sm _ _ (jb.frzs b o u e), fun b ps e => ?_⟩, fun b o e => ?_⟩
  · by_cases h : ∃ v, G b v
    · obtain ⟨v, i, y, _, _, a3⟩ := h
      exact ⟨y, a3⟩
    · rw [g2 b h] at n2
      exact absurd n1 n2
  · rw [g2 b fun ⟨v, z⟩ => absurd (Nat.lt_of_lt_of_le (Heap.lt_size e) (G2 b v z).2.1) (Nat.lt_irrefl _)]
    exact jb.free b o e n hx
  · obtain ⟨more, z⟩ := jb.tbls b ps e
    exact ⟨more, sm _ _ z⟩
  · by_cases h : ∃ v, G b v
    · obtain ⟨v, h⟩ := h
      rw [g1 b v h] at e
      cases e
      exact cellX_ok (G2 b v h).2.2
    · rw [g2 b h] at e
      exact (J.hok b o e).stay (fun b' u' _ q => q) (fun b' q => sm _ _ q) fun b' xs q => sm _ _ q
theorem Fun.okL {x qual : Str} {st : Stmt} {f c : Addr} {fd : FuncData} {N ps : List Str} {k : Nat} {sp : Sp} (F : Fun K x qual st f fd) (hc : fd.code = .ref c) (S : FnScope N ps (defScope st)) (hck : ∀ p ∈ (defScope st).names, p.2 = .cell → (defScope st).names.lookup p.1 = some .cell)
    (len : ∀ vs H Q E, sp vs H Q E → vs.length = ps.length)
    (hbody : ∀ (A : Around) (outer : List Env) (s : Shared) (H : Hp) (vs : List V) (Q : VK) (E : XK), Room k (A.deeper (envOfC qual (defScope st) s.heap.objs.size f (.ref c))) → sp vs H Q E →
      ∃ t, PR (cxOf CX0 P w K mg base N qual (defScope st) f (.ref c) A outer s H E).nox (defBody st) t ∧ t Q (fun v σ H' => ∀ H3, Same H' H3 → CellsOf (cellsFrom (s.heap.objs.size + 1) (defScope st).names []) N σ H3 → Q v H3) (start N vs) H) : FnOk P w K mg base CX0 (k + 1) f fd ps sp := by
  obtain ⟨oc, od, kV, doc, pm, an, cdv, ct, osl, rfl, lk, hcd⟩ := F.ex
  obtain rfl : cdv = .ref c := hc
  refine ⟨len, fun A outer s H args us vs Q E hr e0 hb r hsp => ?_⟩
  have hl := len _ _ _ _ hsp
  have KX : K.In s.heap := e0.mod.kin.keeps fun b o e => (e0.bs b o e).1
  have lim : s.heap.NoLimit := e0.mod.nolimit.keeps fun b o e => (e0.bs b o e).1
  have hkind : ∀ y ∈ ps.zip us, (defScope st).names.lookup y.1 = some .local ∨ ((defScope st).names.lookup y.1 = some .cell ∧ ((cellsFrom (s.heap.objs.size + 1) (defScope st).names []).lookup y.1).isSome = true) := fun ⟨n, v⟩ hy => by
    rcases S.par n (List.of_mem_zip hy).1 with q | q
    · exact .inl q
    · exact .inr ⟨q, PySem.W.cellsFrom_some _ _ _ (.inl q)⟩
  refine codeAny_call_function hr.depth (KX _ _ lk) rfl S.co S.gen rfl (PySem.W.codeRec_of KX hcd) (hb _ _ _ _ ?_)
  refine wpAny_newFunctionEnv_cells S.kind hkind fun env he s1 x => ?_
  subst he
  refine ⟨lim.keeps x.toInCall.keep, codeAny_func ?_⟩
  obtain ⟨t, ht, hq⟩ := hbody A outer s H vs Q E (hr.deeper _) hsp
  have I : Inv (cxOf CX0 P w K mg base N qual (defScope st) f (.ref c) A outer s H E) [] (start N vs) H s1 := inv_start S hr.hd e0 hl r x
  refine wpAny_mono (ht [] s1 (start N vs) H Q _ (I.wish _) hq) (fun fl s' hs => ?_) fun e s' hs => False.elim hs
  obtain ⟨u, rfl, ⟨v, σ', H', J, rv, q⟩ | ⟨v, H', g1, g2, g3, g4, rv, q⟩⟩ := hs
  · have J := J.unwish
    rcases q with q | q
    · exact ⟨v, H', J.os, J.bare, J.base, J.hok, rv, q⟩
    · obtain ⟨H3, h1, h2, _, h3, h4⟩ := track S.nd hck J
      exact ⟨v, H3, J.os, J.bare, h3, h4, rv, q H3 h1 h2⟩
  · exact ⟨v, H', g1, g2, g3, g4, rv, q⟩
end
end L2
set_option Elab.async false
set_option linter.all false
set_option maxRecDepth 100000
set_option maxHeartbeats 4000000
namespace L2
open PySem PySem.Spec PyProof.Rows
theorem law_callT {P : Program} {w : World} {K : PySem.W.Frag} {mg mb : Str → Option Value} {CX : CXT} {k : Nat} {fa a : Addr} {fd : FuncData} {x : Str} {sp : Sp} {s₁ : Shared} {vs : List Value} {ns : List Int} {ts : List Addr}
    (KX : K.In s₁.heap) (hns : s₁.heap.Ns mainGlobals mg) (hb : s₁.heap.Ns builtinsNs mb) (hbb : ∀ x : Str, x ≠ "__name__" → mb x = bootBuiltins x) (hlim : s₁.heap.NoLimit) (hg : s₁.gens = #[])
    (ha : s₁.heap.get? a = some { cls := .type "list", data := .seq vs.toArray }) (hi : IntsAre vs ns) (hl : ns.length ≤ sizeLine) (hr : Room k callerA) (hbm : Bm mg s₁.heap)
    (htab : ∀ P ∈ ts, s₁.heap.get? P = some (PySem.W.tabObj #[])) (htc : ∀ P ∈ ts, ∃ c, PySem.W.codeHdIn K c P = true) (htK : ∀ P ∈ ts, K.lookup P = none)
    (F : ∀ base : Heap, K.In base → base.Ns mainGlobals mg → Bm mg base → FnOk P w K mg base CX k fa fd [x] sp) (hbind : ∀ (s : Shared) (u : Value), BindsTo s fd ⟨[u], []⟩ [(x, u)])
    (hsp : ∀ H : Hp, (∀ P ∈ ts, H P = some (.tbl #[])) → SqL K H a (ns.map V.int) → sp [.ref a] H (fun v _ => v = .bl true) fun _ _ _ => False)
    (hCX : ∀ H e s', CX [] H s₁ (fun _ _ _ => False) e s' → False) :
    codeAny (model P w) callerA (.call (.ref fa) ⟨[.ref a], []⟩) (fun r s' => r = .ok (.ret (.bool true)) ∧ OldK s₁.heap s'.heap ∧ s'.os = s₁.os ∧ AllBare s'.gens) s₁ := by
  have rv := vals_ints hi
  have lenV := hi.length
  have nat : a ∉ ts := fun z => by have := htab a z; rw [ha] at this; cases this
  have core : ∀ H : Hp, (∀ P ∈ ts, H P = some (.tbl #[])) → SqL K H a (ns.map V.int) → HOk P w H s₁.heap → (∀ b u, H b = some u → (b = a ∧ ∃ o xs, u = .frz o (.lst xs)) ∨ (b ∈ ts ∧ u = .tbl #[])) → (H a ≠ none → K.lookup a = none) →
      codeAny (model P w) callerA (.call (.ref fa) ⟨[.ref a], []⟩) (fun r s' => r = .ok (.ret (.bool true)) ∧ OldK s₁.heap s'.heap ∧ s'.os = s₁.os ∧ AllBare s'.gens) s₁ := by
    intro H hT hS hok hA hK
    have base_of : ∀ {b : Addr} {o : Obj}, s₁.heap.get? b = some o → H b = none → (hidT s₁.heap H).get? b = some o := fun e n => hidT_get e n
    have noA : ∀ {b : Addr} {o : Obj}, s₁.heap.get? b = some o → o.cls ≠ .none → (∀ its n, o.data ≠ .seq its n) → H b = none := fun {b o} e d1 d2 => by
      cases q : H b with
      | none => rfl
      | some u =>
        rcases hA b u q with ⟨rfl, _⟩ | ⟨hb, _⟩
        · rw [ha] at e; cases e; exact (d2 _ _ rfl).elim
        · rw [htab b hb] at e; cases e; exact (d1 rfl).elim
    have noD : ∀ {b : Addr} {o : Obj} {es : Array DictEntry} {ep : Nat}, s₁.heap.get? b = some o → o.data = .dict es ep → H b = none := fun {b o es ep} e d => by
      cases q : H b with
      | none => rfl
      | some u =>
        rcases hA b u q with ⟨rfl, _⟩ | ⟨hb, _⟩
        · rw [ha] at e; cases e
          have d' : Data.seq vs.toArray _ = Data.dict es ep := d
          cases d'
        · rw [htab b hb] at e; cases e; cases d
    have nsK : ∀ {b : Addr} {m : Str → Option Value}, s₁.heap.Ns b m → (hidT s₁.heap H).Ns b m := fun {b m} ⟨o, es, ep, e, d, r⟩ => ⟨o, es, ep, base_of e (noD e d), d, r⟩
    have hKb : K.In (hidT s₁.heap H) := fun b o e => base_of (KX b o e) (by
      cases q : H b with
      | none => rfl
      | some u =>
        rcases hA b u q with ⟨rfl, _⟩ | ⟨hb, _⟩
        · rw [hK (by rw [q]; simp)] at e; cases e
        · rw [htK b hb] at e; cases e)
    have hM : Mod K mg (hidT s₁.heap H) := ⟨hKb, nsK hns, ⟨mb, nsK hb, hbb⟩, let ⟨mc, h1, h2⟩ := hlim; ⟨mc, nsK h1, h2⟩⟩
    have hB : Bm mg (hidT s₁.heap H) := by
      obtain ⟨bm, ob, b1, b2, b3, b4, b5⟩ := hbm
      exact ⟨bm, ob, b1, base_of b2 (noA b2 (by rw [b3]; simp) (fun its n => by rw [b5]; intro z; cases z)), b3, b4, b5⟩
    have e0 : Env0 P w K mg (hidT s₁.heap H) callerA [] s₁ H := ⟨rfl, hM, fun b o e => of_hidT e, Nat.le_of_eq (hidT_size _ _), trivial, fun b hb => absurd (show b ∈ ([] : List Addr) from hb) (by simp), hok, .of_eq hg⟩
    refine codeAny_mono ((F _ hKb (nsK hns) hB).run callerA [] s₁ H ⟨[.ref a], []⟩ [.ref a] [.ref a] _ _ hr e0 (hbind s₁ (.ref a)) (.cons rfl .nil) (hsp H hT hS)) fun r s' h => ?_
    cases r with
    | error e => exact (hCX H e s' h).elim
    | ok fl =>
      cases fl with
      | next => exact False.elim h
      | brk => exact False.elim h
      | cont => exact False.elim h
      | ret u =>
        obtain ⟨v, H', os, bare, un, hok', r', q⟩ := h
        have q' : v = .bl true := q
        subst q'
        obtain rfl : u = Value.bool true := r'
        refine ⟨rfl, ⟨fun b o e => ?_, fun b o e => un.there b o e (by simp)⟩, os, bare⟩
        cases q : H b with
        | none => exact .inl (un.keep b o e q (by intro z; exact absurd (show b ∈ ([] : List Addr) from z) (by simp)) (by simp))
        | some u =>
          rcases hA b u q with ⟨_, ob, xs, rfl⟩ | ⟨hb, rfl⟩
          · have z2 := un.frzs b ob _ q
            obtain ⟨e1, _⟩ := hok b _ q
            obtain ⟨e2, _⟩ := hok' b _ z2
            rw [e] at e1; cases e1
            exact .inl e2
          · obtain ⟨c, hc⟩ := htc b hb
            have C := PySem.W.codeHd_of_K KX hc
            obtain ⟨more, z⟩ := un.tbls b _ q
            have z2 : s'.heap.get? b = some (PySem.W.tabObj (#[] ++ more)) := hok' b _ z
            rw [htab b hb] at e
            cases e
            exact .inr (.inl ⟨(C.tab (htab b hb)).isCodeTable, rfl, #[], more, rfl, z2⟩)
  let T : Hp := fun b => if b ∈ ts then some (.tbl #[]) else none
  cases hk : K.lookup a with
  | some o =>
    have e := KX a o hk
    rw [ha] at e
    cases e
    refine core T (fun P hP => if_pos hP) (.inr ⟨_, vs.toArray, _, hk, rfl, rfl, rfl, by rw [List.size_toArray, lenV]; exact hl, by simpa using rv⟩) (fun b u z => ?_) (fun b u z => ?_) fun z => absurd (if_neg nat) z
    · by_cases hb : b ∈ ts
      · have z' := (if_pos hb).symm.trans z
        cases z'
        exact htab b hb
      · have z' := (if_neg hb).symm.trans z
        cases z'
    · by_cases hb : b ∈ ts
      · have z' := (if_pos hb).symm.trans z
        cases z'
        exact .inr ⟨hb, rfl⟩
      · have z' := (if_neg hb).symm.trans z
        cases z'
  | none =>
    refine core (fun b => if b = a then some (.frz { cls := .type "list", data := .seq vs.toArray } (.lst (ns.map V.int))) else T b) (fun P hP => ?_) (.inl (.inr ⟨{ cls := .type "list", data := .seq vs.toArray }, if_pos rfl⟩)) (fun b u z => ?_) (fun b u z => ?_) fun _ => hk
    · have hne : P ≠ a := fun z => nat (by rw [← z]; exact hP)
      exact (if_neg hne).trans (if_pos hP)
    · by_cases hb : b = a
      · have z' := (if_pos hb).symm.trans z
        cases z'
        subst hb
        exact ⟨ha, by rw [List.length_map]; exact hl, vs, _, rv, ha⟩
      · have z' := (if_neg hb).symm.trans z
        by_cases hb : b ∈ ts
        · have z' := (if_pos hb).symm.trans z'
          cases z'
          exact htab b hb
        · have z' := (if_neg hb).symm.trans z'
          cases z'
    · by_cases hb : b = a
      · have z' := (if_pos hb).symm.trans z
        cases z'
        exact .inl ⟨hb, _, _, rfl⟩
      · have z' := (if_neg hb).symm.trans z
        by_cases hb : b ∈ ts
        · have z' := (if_pos hb).symm.trans z'
          cases z'
          exact .inr ⟨hb, rfl⟩
        · have z' := (if_neg hb).symm.trans z'
          cases z'
theorem walk_ofT {l : PySem.W.OpenLaw} {n k : Nat} {q : Program} {loose : List Str} {XP : (Str → Option Value) → Heap → Prop} {YP : World → Heap → Prop} {d : DefRec} {K : Params → PySem.W.Frag} {CX : CXT} {sp : PySem.W.Frag → List Addr → Sp} {x : Str} {ts : List Addr}
    (hn : l.most = some n) (hn2 : n ≤ sizeLine) (hdf : d.params.defaults = []) (hr : Room k callerA)
    (hY : ∀ (w : World) (h : Heap), YP w h → (K w.params).In h ∧ ∀ P ∈ ts, h.get? P = some (PySem.W.tabObj #[]))
    (F : ∀ (ts' : List Addr), ts' = ts → ∀ (w : World) (mg : Str → Option Value) (fa : Addr) (h : Heap), (K w.params).In h → h.Ns mainGlobals mg → mg d.name = some (.ref fa) →
      ∃ fd : FuncData, (∀ (s : Shared) (u : Value), BindsTo s fd ⟨[u], []⟩ [(x, u)]) ∧ (∀ P ∈ ts, ∃ c, PySem.W.codeHdIn (K w.params) c P = true) ∧ (∀ P ∈ ts, (K w.params).lookup P = none) ∧
        ∀ base : Heap, (K w.params).In base → base.Ns mainGlobals mg → Bm mg base → FnOk l.prog w (K w.params) mg base CX k fa fd [x] (sp (K w.params) ts))
    (hsp : ∀ (K : PySem.W.Frag) (H : Hp) (a : Addr) (ns : List Int), ns.length ≤ n → (∀ P ∈ ts, H P = some (.tbl #[])) → SqL K H a (ns.map V.int) → sp K ts [.ref a] H (fun v _ => v = .bl true) fun _ _ _ => False)
    (hCX : ∀ (H : Hp) (s : Shared) (e : Value) (s' : Shared), CX [] H s (fun _ _ _ => False) e s' → False) :
    PySem.W.WalkO q loose XP YP l.row.toRowW d [] (fun f vs => PySem.call f vs) := by
  refine Att.attach_call hn hdf fun w s₀ s₁ mg mb fa o pm cd doc a vs ns G Y ho hd hcd hmg hobj hints hlen hg => ?_
  obtain ⟨KX, hT⟩ := hY w _ Y
  obtain ⟨fd, hb, htc, htK, hF⟩ := F ts rfl w mg fa _ KX G.T.g hmg
  have hbm : Bm mg s₁.heap := let ⟨bm, ob, b1, _, b3, b4, b5, b6⟩ := G.T.bmain; ⟨bm, ob, b1, b3, b4, b5, b6⟩
  exact law_callT KX G.T.g G.T.b G.T.builtins G.T.nolimit hg hobj hints (Nat.le_trans hlen hn2) hr hbm hT htc htK hF hb (fun H hO hS => hsp (K w.params) H a ns hlen hO hS) fun H e s' => hCX H s₁ e s'
end L2
set_option linter.all false
namespace FrM
def lowP (t b : Int) : Int × Int := (t / (Int.gcd t b : Int), b / (Int.gcd t b : Int))
def sz (z : List Int) (k : Nat) : Int := z.getD k 0
def sumL (z : List Int) (l : List Nat) : Int := (l.map (sz z)).sum
def stay (z : List Int) (l : List Nat) (w : Int) : List Nat := l.filter fun k => decide (sz z k * w < sumL z l)
theorem stay_le (z : List Int) (l : List Nat) (w : Int) : (stay z l w).length ≤ l.length := List.length_filter_le _ _
def fin (z : List Int) (l : List Nat) (w : Int) : List Nat × Int :=
  if (stay z l w).length = l.length then (l, w) else fin z (stay z l w) (w - ((l.length : Int) - ((stay z l w).length : Int)))
termination_by l.length
decreasing_by
  have := stay_le z l w
  lia
structure Rnd (z : List Int) (n : Nat) (m : Int) (l : List Nat) (w : Int) : Prop where
  pos : 0 < l.length
  sub : ∀ k ∈ l, k < n
  lt : w < l.length
  dif : w - l.length = m - n
  fil : l = (List.range n).filter fun k => decide (k ∈ l)
theorem Rnd.len {z : List Int} {n : Nat} {m : Int} {l : List Nat} {w : Int} (h : Rnd z n m l w) : l.length ≤ n := by
  have e := congrArg List.length h.fil
  have := List.length_filter_le (fun k => decide (k ∈ l)) (List.range n)
  rw [List.length_range] at this
  lia
structure Top (m : Int) (n : Nat) (S : Int) (N : Nat → Int) : Prop where
  pos : 0 < S
  all : ((List.range n).map N).sum = m * S
def due (z : List Int) (m : Int) : List (Int × Int) :=
  if (z.length : Int) ≤ m then z.map fun _ => (1, 1) else if m = 0 then z.map fun _ => (0, 1)
  else (List.range z.length).map fun k => if decide (k ∈ (fin z (List.range z.length) m).1) = true then lowP (sz z k * (fin z (List.range z.length) m).2) (sumL z (fin z (List.range z.length) m).1) else (1, 1)
end FrM
set_option Elab.async false
set_option linter.all false
set_option maxRecDepth 100000
set_option maxHeartbeats 4000000
namespace L2
open PySem PySem.Spec PyProof.Rows
def intsIn : List V → List Value → Bool
  | [], [] => true
  | .int i :: xs, .int j _ :: us => decide (i = j) && intsIn xs us
  | _, _ => false
def tupIn (K : PySem.W.Frag) (a : Addr) (xs : List V) : Bool :=
  match K.lookup a with
  | some o =>
    (match o.cls with
    | .type t => t == "tuple"
    | _ => false) &&
    (match o.data with
    | .seq its _ => decide (its.size ≤ 1000) && intsIn xs its.toList
    | _ => false)
  | none => false
def TyS (K : PySem.W.Frag) (H : Hp) (x : V) (t : Value) : Prop := TyOf K H x t ∨ ∃ a xs, x = .ref a ∧ t = .type "tuple" ∧ SqT K H a xs
section
variable {X : Cx}
open PySem.W in
theorem kit_ofS {pins : List (Addr × Obj)} {σ : St} {H : Hp} {s : Shared} {x : V} {u t : Value} (I : Inv X pins σ H s) (rx : RelV x u) (ty : TyS X.K H x t) :
    ∃ Hh : Heap → Prop, KitX X.K u t Hh ∧ Hh s.heap ∧ u ≠ .builtin "__main__.__loader__#opaque" := by
  rcases ty with ty | ⟨a, xs, rfl, rfl, hq⟩
  · exact kit_of I rx ty
  · cases (show u = Value.ref a from rx)
    obtain ⟨its, rv, p, hz⟩ := I.tuple hq
    exact ⟨_, PySem.W.kitx_tuple, let ⟨o, e, c, _⟩ := p; ⟨o, e, c⟩, fun z => nomatch z⟩
def rIsS (K : PySem.W.Frag) : List V → Hp → VK → Prop := fun xs H Q => ∃ x c t b, xs = [x, c] ∧ isCls c = true ∧ TyS K H x t ∧ PySem.W.kitOne K t (cVal c) = some b ∧ Q (.bl b) H
theorem bt_sum : bootBuiltins "sum" = some (.builtin "sum") := by decide +kernel
theorem ints_are : ∀ {ns : List Int} {us : List Value}, Vals (ns.map V.int) us → IntsAre us ns
  | [], _, .nil => .nil
  | n :: ns, _, .cons r t => by
    obtain ⟨t', rfl⟩ := r
    exact .cons _ _ (ints_are t)
inductive rSumI (K : PySem.W.Frag) (xs : List V) (H : Hp) (Q : VK) : Prop
  | mk (p : Addr) (ns : List Int) (h0 : xs = [.ref p]) (h1 : SqL K H p (ns.map V.int)) (h2 : Q (.int ns.sum) H) : rSumI K xs H Q
theorem call_sumI (hc : X.calm = true) : CallR X (.builtin "sum") (rSumI X.K) := by
  intro pins s σ H xs us Q I r h
  obtain ⟨p, ns, rfl, hq, q⟩ := h
  obtain ⟨u, rfl, rx⟩ := vals1 r
  cases rx
  obtain ⟨its, rv, pl, hz⟩ := I.list hq
  have hi := ints_are rv
  obtain ⟨xs, ex⟩ := hi.allInts.items
  have e2 : (numsOf its) = ns := hi.numsOf
  refine sum_intListG (I.ok.hd hc) (xs := xs) (by rw [← ex]; exact pl.isList) fun h' tk t' hk => ?_
  have e3 : preSum (numAt xs) xs.size = ns.sum := by
    rw [preSum_eq, List.take_of_length_le (by simp), ← e2, ← nums_intItems, ← ex]
  rw [e3]
  exact ⟨.int ns.sum, H, I.kept hk, ⟨_, rfl⟩, q⟩
def Itr3 (lo c : Int) (n : Nat) : It := ⟨fun i _ => i < n, fun i H x H' => H' = H ∧ x = .int (lo + i * c), fun i _ => n ≤ i⟩
def two_n (i j : Int) : Nat := (Builtin.Range.rangeSize i j 2).toNat
def iRng3 (ta : TA) : TI := fun σ H R => ta σ H fun vs H1 => ∃ i j : Int, vs = [.int i, .int j, .int 2] ∧ (0 ≤ i ∧ i < 2 ^ 60 ∧ -(2 ^ 60) ≤ j ∧ j < 2 ^ 60) ∧ R (Itr3 i 2 (two_n i j)) H1
end
end L2
set_option Elab.async false
set_option linter.all false
set_option maxRecDepth 100000
set_option maxHeartbeats 4000000
namespace L2
open PySem PySem.Spec PyProof.Rows
def dE : Expr := .Name "" ⟨0, 0, 0, 0⟩
def stAt (st : Stmt) (i : Nat) : Stmt := (defBody st).getD i (.Pass ⟨0, 0, 0, 0⟩)
def retE : Stmt → Expr
  | .Return (some e) _ => e
  | _ => dE
def argE : Expr → Nat → Expr
  | .Call _ es _ _, i => es.getD i dE
  | _, _ => dE
def lstE : Expr → Nat → Expr
  | .List es _, i => es.getD i dE
  | _, _ => dE
def tupE : Expr → Nat → Expr
  | .Tuple es _ _, i => es.getD i dE
  | _, _ => dE
def lamOf (q : Str) : Expr → LamD
  | .Lambda p b s _ => ⟨q, p, b, s⟩
  | _ => ⟨q, default, dE, default⟩
def lamP : Expr → Pos
  | .Lambda _ _ _ p => p
  | _ => ⟨0, 0, 0, 0⟩
theorem bt_sorted : bootBuiltins "sorted" = some (.builtin "sorted") := by decide +kernel
theorem vals_of_ints : ∀ {us : List Value} {ns : List Int}, IntsAre us ns → Vals (ns.map V.int) us
  | _, _, .nil => .nil
  | _, _, .cons n t h => .cons ⟨_, rfl⟩ (vals_of_ints h)
theorem call_sortedI {X : Cx} : CallR X (.builtin "sorted") (fun xs H Q => ∃ (p : Addr) (ns : List Int), xs = [.ref p] ∧ SqL X.K H p (ns.map V.int) ∧ ns.length < 64 ∧ ∀ q (ns' : List Int), ns'.Perm ns → ns'.Pairwise (· ≤ ·) → H q = none → Q (.ref q) (upd H q (.lst (ns'.map V.int)))) := by
  intro pins s σ H xs us Q I r h
  obtain ⟨p, ns, rfl, hq, hl, q⟩ := h
  obtain ⟨u, rfl, rx⟩ := vals1 r
  cases rx
  obtain ⟨its, rv, pl, hz⟩ := I.list hq
  have hi := ints_are rv
  have hlen : its.length = ns.length := by have := rv.length; rw [List.length_map] at this; exact this.symm
  refine sorted_ints pl.isList hi (by omega) fun out ns' a1 a2 a3 => ?_
  obtain ⟨e, he⟩ := sortedAll_at s.heap its out
  have hn : H (s.heap.objs.size + 1) = none := I.hok.fresh (Nat.le_succ _)
  have small : sizeLine = 16777216 := sizeLine_eq
  refine ⟨.ref (s.heap.objs.size + 1), _, I.laid (a := s.heap.objs.size + 1) (o := .lst (ns'.map V.int)) (t' := s.toks) (fun b u z => sortedAll_old z) (Nat.le_succ _) ⟨?_, out.toList, e, vals_of_ints a1, ?_⟩, rfl, q _ ns' a2 a3 hn⟩
  · rw [List.length_map, a2.length_eq]; omega
  · rw [he, Array.toArray_toList]
end L2
set_option Elab.async false
set_option linter.all false
set_option maxRecDepth 100000
set_option maxHeartbeats 4000000
namespace L2
open PySem PySem.Spec PyProof.Rows
structure DefD where
  name : Str
  qual : Str
  params : Arguments
  body : List Stmt
  scope : Scope
def DefX (f : Addr) (d : DefD) (clos : List (Str × Addr)) (c : Addr) : Heap → Prop := fun h => ∃ doc pm ctv, h.get? f = some (PySem.W.fnMade d.name d.qual d.params d.body d.scope clos doc pm c ctv)
theorem defX_ok {P : Program} {w : World} {H : Hp} {h : Heap} {f : Addr} {d : DefD} {clos : List (Str × Addr)} {c : Addr} {doc pm ctv : Value} (e : h.get? f = some (PySem.W.fnMade d.name d.qual d.params d.body d.scope clos doc pm c ctv)) : ObjOk P w H h f (.ext (DefX f d clos c)) :=
  ⟨⟨doc, pm, ctv, e⟩, ⟨_, e⟩, fun h1 h2 ⟨doc, pm, ctv, e1⟩ k => ⟨doc, pm, ctv, k _ e1⟩⟩
def tDef (tabs : Tabs) (d : DefD) (clos : List (Str × Addr)) (i : Nat) : TS := fun D σ H => TabsOk tabs H ∧ ∀ f c H1, SameT H H1 → TabsOk tabs H1 → (∀ b o, (∀ q ∈ tabs, q.1 ≠ b) → H b = some o → H1 b = some o) → H f = none → H1 f = some (.ext (DefX f d clos c)) → H1 c = some (.ext (CodeX c d.qual)) → D.nx (σ.set i (some (.ref f))) H1
section
variable {X : Cx} {tabs : Tabs} {P c : Addr} {ls : List (Pos × Str)} {d : DefD} {clos : List (Str × Addr)} {pos : Pos}
theorem ps_def {i : Nat} (hN : X.N.Nodup) (hi : X.N[i]? = some d.name) (hloc : Loc X.env.scope d.name) (hfn : X.fn d.name = true ∨ X.env.scope.names.lookup d.name = some .local) (hcd : X.env.code = .ref c) (hC : PySem.W.codeHdIn X.K c P = true) (hB : Bm X.mg X.base) (hq : qualnameIn X.env d.name d.name = d.qual) (hcl : closureFor d.scope X.env = pure clos)
    (hd0 : d.params.defaults = []) (hk0 : d.params.kw_defaults = []) (han : PySem.annTrees d.params none X.env = [])
    (hm : (P, ls) ∈ tabs) (hl : (pos, d.qual) ∈ ls) (hnd : (tabs.map (·.1)).Nodup) (hps : ls.Pairwise fun x y => ¬ (x.1.line = y.1.line ∧ x.1.col = y.1.col)) : PS X (.FunctionDef d.name d.params d.body [] none [] d.scope none d.name pos) (tDef tabs d clos i) := by
  intro pins s σ H D I h
  obtain ⟨hT, hQ⟩ := h
  refine PySem.W.nestDef_K hd0 hk0 han ?_
  rw [hq]
  obtain ⟨ps, hP, htr, hls⟩ := hT _ hm
  have hgs : s.heap.Ns mainGlobals X.mg := I.mod.glob.keeps I.bk
  have C : PySem.W.CodeHd s.heap c P := PySem.W.codeHd_of_K I.kIn hC
  have hPo : s.heap.get? P = some (PySem.W.tabObj ps) := I.hok P _ hP
  have hgP : mainGlobals ≠ P := fun q => by
    obtain ⟨o, es, ep, e, hd, _⟩ := hgs
    rw [q, hPo] at e; cases e; cases hd
  obtain ⟨bm, ob, b1, b2, b3, b4, b5⟩ := hB
  have bo := I.bk _ _ b2
  have hbP : bm ≠ P := fun q => by
    rw [q, hPo] at bo; cases bo; cases b3
  have hbG : bm ≠ mainGlobals := fun q => by
    obtain ⟨o, es, ep, e, hd, _⟩ := hgs
    rw [q, e] at bo; cases bo; rw [hd] at b5; cases b5
  have hbB : bm ≠ builtinsNs := fun q => by
    obtain ⟨mb, ⟨o, es, ep, e, hd, _⟩, _⟩ := I.mod.blt
    rw [q, e] at b2; cases b2; rw [hd] at b5; cases b5
  have BA : s.heap.BuiltinsAt X.mg P := ⟨bm, ob, b1, hbB, hbG, hbP, bo, b3, b4, b5⟩
  rcases hls _ hl with hn | ⟨c', hc, hHc⟩
  · refine PySem.W.makeFunction_K (mg := X.mg) hcl I.ok.glob hgs hcd C hPo htr hn hgP BA fun c' ctv doc h' tk hx hge hlt hrec htb => ?_
    have hc0 : H c' = none := I.hok.fresh hge
    have hf0 : H h'.objs.size = none := I.hok.fresh (Nat.le_trans hge (Nat.le_of_lt hlt))
    have ncf : c' ≠ h'.objs.size := Nat.ne_of_lt hlt
    have nPc : P ≠ c' := ne_of_none hP hc0
    have nPf : P ≠ h'.objs.size := ne_of_none hP hf0
    obtain ⟨f, hf⟩ : ∃ f, f = h'.objs.size := ⟨_, rfl⟩
    obtain ⟨ob', hob⟩ : ∃ o, o = PySem.W.fnMade d.name d.qual d.params d.body d.scope clos doc ((X.mg "__name__").getD .none) c' ctv := ⟨_, rfl⟩
    have hfo : (h'.push ob').get? f = some ob' := by rw [hf, hob]; exact Heap.get?_push_size _ rfl
    have keep : ∀ b o, b ≠ P → s.heap.get? b = some o → (h'.push ob').get? b = some o := fun b o n e => Heap.get?_push_of_some _ (hx b o n e)
    have htb' : (h'.push ob').get? P = some (PySem.W.tabObj (ps ++ #[rawInt pos.line, rawInt pos.col, .ref c'])) := Heap.get?_push_of_some _ htb
    have hcx : CodeX c' d.qual (h'.push ob') := by
      obtain ⟨c2, oc, vs, t, e2, hoc, hdt, hv⟩ := hrec
      cases e2
      exact ⟨oc, vs, t, Heap.get?_push_of_some _ hoc, hdt, hv⟩
    rw [← hf] at hf0 ncf nPf ⊢
    rw [← hob]
    obtain ⟨H1, hH1⟩ : ∃ H1, H1 = upd (upd (upd H P (.tbl (ps ++ #[rawInt pos.line, rawInt pos.col, .ref c']))) c' (.ext (CodeX c' d.qual))) f (.ext (DefX f d clos c')) := ⟨_, rfl⟩
    have gf : H1 f = some (.ext (DefX f d clos c')) := by rw [hH1]; exact upd_same
    have gc : H1 c' = some (.ext (CodeX c' d.qual)) := by rw [hH1, upd_ne ncf]; exact upd_same
    have gP : H1 P = some (.tbl (ps ++ #[rawInt pos.line, rawInt pos.col, .ref c'])) := by rw [hH1, upd_ne nPf, upd_ne nPc]; exact upd_same
    have go : ∀ b, b ≠ P → b ≠ c' → b ≠ f → H1 b = H b := fun b h1 h2 h3 => by rw [hH1, upd_ne h3, upd_ne h2, upd_ne h1]
    have same : ∀ b o, b ≠ P → H b = some o → H1 b = some o := fun b o n e => by rw [go b n (ne_of_none e hc0) (ne_of_none e hf0)]; exact e
    have nt : ∀ b o, H b = some o → (∀ qs, o ≠ .tbl qs) → b ≠ P := fun b o e n z => by rw [z, hP] at e; cases e; exact n ps rfl
    have un : Un X.fs [] H H1 s.heap (h'.push ob') := by
      refine ⟨fun b o e n _ _ => keep b o (fun z => by rw [z, hP] at n; cases n) e, fun b o e n _ _ => ⟨o.slots, keep b o (fun z => by rw [z, hP] at n; cases n) e⟩, fun b o e n _ => ?_, fun b o e _ => ?_, fun b xs e => same b _ (nt b _ e fun _ z => nomatch z) e, fun b o u e => same b _ (nt b _ e fun _ z => nomatch z) e, fun b qs e => ?_⟩
      · have hb : b < s.heap.objs.size := Heap.lt_size e
        rw [go b (fun z => by rw [z, hP] at n; cases n) (Nat.ne_of_lt (Nat.lt_of_lt_of_le hb hge)) (by rw [hf]; exact Nat.ne_of_lt (Nat.lt_of_lt_of_le hb (Nat.le_trans hge (Nat.le_of_lt hlt))))]
        exact n
      · by_cases hb : b = P
        · rw [hb]; exact ⟨_, htb'⟩
        · exact ⟨o, keep b o hb e⟩
      · by_cases hb : b = P
        · rw [hb, hP] at e
          cases e
          rw [hb]
          exact ⟨_, gP⟩
        · exact ⟨#[], by rw [same b _ hb e]; simp⟩
    have hok : HOk X.prog X.w H1 (h'.push ob') := fun a o e => by
      by_cases h1 : a = f
      · subst h1; rw [gf] at e; cases e; exact defX_ok (by rw [hfo, hob])
      by_cases h2 : a = c'
      · subst h2; rw [gc] at e; cases e; exact codeX_ok hcx
      by_cases h3 : a = P
      · subst h3; rw [gP] at e; cases e; exact htb'
      rw [go a h3 h2 h1] at e
      refine (I.hok a o e).stay (fun b u hb q => keep b u ?_ q) (fun b q => same b _ (nt b _ q fun _ z => nomatch z) q) fun b xs q => same b _ (nt b _ q fun _ z => nomatch z) q
      rcases hb with rfl | hb
      · exact h3
      · exact nt b _ hb fun _ z => nomatch z
    have IU : Inv X pins σ H1 { s with heap := h'.push ob', toks := tk } := I.un (h' := h'.push ob') (t' := tk) un hok
    refine store_ok IU hN hi hloc (v := .ref f) (u := .ref f) rfl (fun s2 I2 => ⟨_, H1, I2, hQ f c' H1 (fun b o e => ?_) (fun q hq' => ?_) (fun b o nb e => same b o (fun z => nb _ hm z.symm) e) hf0 gf gc⟩) hfn
    · by_cases hb : b = P
      · subst hb
        rw [hP] at e
        cases e
        exact ⟨fun z => (Bool.false_ne_true z).elim, _, gP⟩
      · exact ⟨fun _ => same b o hb e, o, same b o hb e⟩
    · by_cases hqP : q.1 = P
      · have hqe : q = (P, ls) := fst_inj hnd q hq' (P, ls) hm hqP
        subst hqe
        refine ⟨_, gP, by rw [Array.toList_append]; exact triples_snoc _ htr, fun l' hl' => ?_⟩
        rw [Array.toList_append]
        by_cases hp : pos.line = l'.1.line ∧ pos.col = l'.1.col
        · have := pos_inj hps (pos, d.qual) hl l' hl' hp
          subst this
          exact .inr ⟨c', codeAmong_snoc _ htr hn, gc⟩
        · have eo := among_other (c := .ref c') ps.toList htr hp
          rcases hls l' hl' with z | ⟨c2, z1, z2⟩
          · exact .inl (eo.trans z)
          · exact .inr ⟨c2, eo.trans z1, same c2 _ (nt c2 _ z2 fun _ z => nomatch z) z2⟩
      · obtain ⟨qs, e1, e2, e3⟩ := hT q hq'
        exact ⟨qs, same _ _ hqP e1, e2, fun l' hl' => (e3 l' hl').imp id fun ⟨c2, z1, z2⟩ => ⟨c2, z1, same c2 _ (nt c2 _ z2 fun _ z => nomatch z) z2⟩⟩
  · refine PySem.W.makeFunction_hit (mg := X.mg) hcl I.ok.glob hgs hcd C hPo htr hc BA fun ctv doc h' tk hk hsz => ?_
    have hf0 : H h'.objs.size = none := I.hok.fresh hsz
    have sm : Same H (upd H h'.objs.size (.ext (DefX h'.objs.size d clos c'))) := Same.new hf0
    have IU := I.laid (h' := h'.push (PySem.W.fnMade d.name d.qual d.params d.body d.scope clos doc ((X.mg "__name__").getD .none) c' ctv)) (a := h'.objs.size) (o := .ext (DefX h'.objs.size d clos c')) (t' := tk) (fun b u e => Heap.get?_push_of_some _ (hk b u e)) hsz (defX_ok (Heap.get?_push_size _ rfl))
    exact store_ok IU hN hi hloc (v := .ref h'.objs.size) (u := .ref h'.objs.size) rfl (fun s2 I2 => ⟨_, _, I2, hQ _ c' _ sm.t (hT.same sm) (fun b o _ e => sm b o e) hf0 upd_same (sm _ _ hHc)⟩) hfn
end
end L2
set_option Elab.async false
set_option linter.all false
set_option maxRecDepth 100000
set_option maxHeartbeats 4000000
namespace L2
open PySem PySem.Spec PyProof.Rows
def DefD.l (d : DefD) : LamD := ⟨d.qual, d.params, default, d.scope⟩
def DefOk (P : Program) (w : World) (K : PySem.W.Frag) (mg : Str → Option Value) (base : Heap) (k : Nat) (d : DefD) (fv ps : List Str) (sp : List V → Sp) : Prop :=
  ∀ (A : Around) (outer : List Env) (s : Shared) (H : Hp) (f c : Addr) (clos : List (Str × Addr)) (us : List Value) (vs vals : List V) (Q : VK) (E : XK), Room k A → Env0 P w K mg base A outer s H → H f = some (.ext (DefX f d clos c)) → H c = some (.ext (CodeX c d.qual)) →
    clos.map (·.1) = fv → (clos.map (·.2)).Nodup → CellsAt H clos vals → Vals vs us → sp vals vs H Q E → codeAny (model P w) A (.call (.ref f) ⟨us, []⟩) (CR CX0 outer P w H s Q E) s
section
variable {P : Program} {w : World} {K : PySem.W.Frag} {mg : Str → Option Value} {base : Heap}
theorem def_of {d : DefD} {fv ps : List Str} {k : Nat} {sp : List V → Sp} (S : LamScope d.l fv ps)
    (hbind : ∀ (doc pm ctv : Value) (clos : List (Str × Addr)) (c : Addr) (us : List Value), us.length = ps.length → bindArgs (PySem.W.fnX d.name d.qual d.params d.body d.scope clos .none .none doc pm none (.ref c) ctv) ⟨us, []⟩ = pure (ps.zip us))
    (len : ∀ vals vs H Q E, sp vals vs H Q E → vs.length = ps.length)
    (hbody : ∀ (A : Around) (outer : List Env) (s : Shared) (H : Hp) (f c : Addr) (clos : List (Str × Addr)) (vals vs : List V) (Q : VK) (E : XK), Room k (A.deeper (lamEnv d.l s.heap.objs.size f c clos)) → clos.map (·.1) = fv → CellsAt H clos vals → sp vals vs H Q E →
      ∃ t, PSs (cxL P w K mg base (ps ++ fv) d.l clos f c A outer s H) d.body t ∧ t { nx := fun _ H' => ∀ H3, Same H' H3 → (∀ p ∈ clos, H3 p.2 = H p.2) → Q .non H3, rt := fun v H' => ∀ H3, Same H' H3 → (∀ p ∈ clos, H3 p.2 = H p.2) → Q v H3 } ((vs ++ vals).map some) (untrs H (clos.map (·.2)))) :
    DefOk P w K mg base (k + 1) d fv ps sp := by
  intro A outer s H f c clos us vs vals Q E hr e0 hf hc hfv hnd ca r hsp
  have hl := len _ _ _ _ _ hsp
  have lus : us.length = ps.length := by rw [← r.length]; exact hl
  obtain ⟨⟨doc, pm, ctv, ef⟩, _, _⟩ := e0.hok f _ hf
  obtain ⟨⟨oc, cvs, ct, ec, ed, ev⟩, _, _⟩ := e0.hok c _ hc
  have lim : s.heap.NoLimit := e0.mod.nolimit.keeps fun b o e => (e0.bs b o e).1
  obtain ⟨t, ht, hq⟩ := hbody A outer s H f c clos vals vs Q E (hr.deeper _) hfv ca hsp
  refine codeAny_call_function (body := d.body) hr.depth ef rfl S.co S.gen rfl ⟨c, oc, cvs, ct, rfl, ec, ed, ev⟩ ?_
  rw [hbind doc pm ctv clos c us lus]
  refine wpAny_pure (wpAny_newFunctionEnv S.nocell (fun y hy => S.par y.1 (List.of_mem_zip hy).1) (fun h1 hns hsb => ?_) S.kind)
  have hk : ∀ b o, s.heap.get? b = some o → h1.get? b = some o := fun b o e => hsb.extBut b o (Nat.ne_of_lt (Heap.lt_size e)) (Heap.get?_push_of_some _ e)
  refine ⟨lim.fresh _ hsb, ?_⟩
  show codeAny _ _ (.func d.body (lamEnv d.l s.heap.objs.size f c clos)) _ _
  have I := inv_startL (f := f) (c := c) (tk := s.toks + (ps.zip us).length) S hr.hd e0 hl r hfv hnd ca hns hk
  refine codeAny_func (wpAny_mono (ht [] _ _ _ _ I hq) (fun fl s' hs => ?_) fun e s' z => False.elim z)
  have fin : ∀ {σ' : St} {H' : Hp} {v : V} {u : Value}, Inv (cxL P w K mg base (ps ++ fv) d.l clos f c A outer s H) [] σ' H' s' → RelV v u → (∀ H3, Same H' H3 → (∀ p ∈ clos, H3 p.2 = H p.2) → Q v H3) → CE outer P w H s Q u s' := fun {σ' H' v u} J rv q => by
    obtain ⟨cs, hcs⟩ : ∃ cs, cs = clos.map (·.2) := ⟨_, rfl⟩
    have ub : Un (frs outer) [] (untrs H (clos.map (·.2))) H' s.heap s'.heap := J.base
    have hat : ∀ b, b ∈ clos.map (·.2) → ∃ o v, s.heap.get? b = some o ∧ H b = some (.ext (CellX b v)) := fun b hb => by
      obtain ⟨v, e⟩ := ca.at hb
      obtain ⟨⟨o, _, g, _⟩, _⟩ := e0.hok b _ e
      exact ⟨o, v, g, e⟩
    have hfr : ∀ b ∈ clos.map (·.2), H' b = none := fun b hb => by
      obtain ⟨o, v, g, _⟩ := hat b hb
      exact ub.free b o g (untrs_in hb) (by simp)
    let H3 : Hp := fun b => if b ∈ clos.map (·.2) then H b else H' b
    have g1 : ∀ b, b ∈ clos.map (·.2) → H3 b = H b := fun b hb => if_pos hb
    have g2 : ∀ b, b ∉ clos.map (·.2) → H3 b = H' b := fun b hb => if_neg hb
    have sm : Same H' H3 := fun b o e => by
      rw [g2 b fun z => by rw [hfr b z] at e; cases e]
      exact e
    have up : ∀ b o, H b = some o → (∀ v, o ≠ .ext (CellX b v)) → b ∉ clos.map (·.2) := fun b o e n z => by
      obtain ⟨v, e'⟩ := ca.at z
      rw [e] at e'
      exact n v (Option.some.inj e')
    refine ⟨v, H3, J.os, J.bare, ⟨fun b o e n hb hx => ub.keep b o e (untrs_none n) hb hx, fun b o e n hb hx => ub.slot b o e (untrs_none n) hb hx, fun b o e n hx => ?_, ub.there, fun b xs e => ?_, fun b o u e => ?_, fun b ps' e => ?_⟩, fun b o e => ?_, rv, q H3 sm fun p hp => g1 p.2 (List.mem_map.mpr ⟨p, hp, rfl⟩)⟩
    · rw [g2 b fun z => by obtain ⟨_, v, _, e'⟩ := hat b z; rw [n] at e'; cases e']
      exact ub.free b o e (untrs_none n) hx
    · exact sm _ _ (ub.tups b xs (untrs_of ca e fun v z => nomatch z))
    · exact sm _ _ (ub.frzs b o u (untrs_of ca e fun v z => nomatch z))
    · obtain ⟨more, z⟩ := ub.tbls b ps' (untrs_of ca e fun v z => nomatch z)
      exact ⟨more, sm _ _ z⟩
    · by_cases hb : b ∈ clos.map (·.2)
      · rw [g1 b hb] at e
        obtain ⟨o', v', g, e'⟩ := hat b hb
        rw [e] at e'
        cases e'
        obtain ⟨⟨o2, u2, k1, k2, k3⟩, _⟩ := e0.hok b _ e
        refine cellX_ok ⟨o2, u2, ub.keep b o2 k1 (untrs_in hb) (fun z => ?_) (by simp), k2, k3⟩
        rw [e0.frf b z] at e
        cases e
      · rw [g2 b hb] at e
        refine (J.hok b o e).stay (fun b' u' _ q => q) (fun b' q => sm _ _ q) fun b' xs q => sm _ _ q
  cases fl with
  | ret u =>
    obtain ⟨v, σ', H', J, rv, q⟩ := hs
    exact fin J rv q
  | next =>
    obtain ⟨σ', H', J, q⟩ := hs
    exact fin J (show RelV .non .none from rfl) q
  | brk =>
    obtain ⟨_, _, _, q⟩ := hs
    exact False.elim q
  | cont =>
    obtain ⟨_, _, _, q⟩ := hs
    exact False.elim q
end
def rDef (d : DefD) (fv : List Str) (sp : List V → Sp) : V → List V → Hp → VK → Prop := fun v vs H Q => ∃ f c clos vals, v = .ref f ∧ H f = some (.ext (DefX f d clos c)) ∧ H c = some (.ext (CodeX c d.qual)) ∧ clos.map (·.1) = fv ∧ (clos.map (·.2)).Nodup ∧ CellsAt H clos vals ∧ sp vals vs H Q fun _ _ _ => False
section
variable {X : Cx} {d : DefD} {fv ps : List Str} {k : Nat} {sp : List V → Sp} {x : Str} {p pos : Pos} {tf : TE}
theorem run_def {pins : List (Addr × Obj)} {σ : St} {H : Hp} {s : Shared} {Q : VK} {us : List Value} {vs : List V} {v : V} {u : Value} (L : DefOk X.prog X.w X.K X.mg X.base k d fv ps sp) (hr : Room k X.A) (I : Inv X pins σ H s) (rv : RelV v u) (r : Vals vs us) (h : rDef d fv sp v vs H Q) :
    wpAny (model X.prog X.w) X.A (call u us) (EP X pins σ Q) X.xe s := by
  obtain ⟨f, c, clos, vals, rfl, hf, hc, h1, h2, h3, h4⟩ := h
  obtain rfl : u = Value.ref f := rv
  refine wpAny_call (codeAny_mono (L X.A X.stack s H f c clos us vs vals Q _ hr I.env0 hf hc h1 h2 h3 r h4) fun r s' hq => ?_)
  cases r with
  | error e => exact False.elim hq
  | ok fl =>
    cases fl with
    | ret u => exact I.after hq
    | next => exact False.elim hq
    | brk => exact False.elim hq
    | cont => exact False.elim hq
theorem fnAt_def {H : Hp} {s : Shared} {P : Program} {w : World} {f c : Addr} {d : DefD} {clos : List (Str × Addr)} (ok : HOk P w H s.heap) (hf : H f = some (.ext (DefX f d clos c))) : PySem.W.FnAt f s.heap := by
  obtain ⟨⟨doc, pm, ctv, ef⟩, _, _⟩ := ok f _ hf
  exact ⟨_, _, _, _, ef⟩
theorem pe_callD0 (hn : PE X (.Name x p) tf) (L : DefOk X.prog X.w X.K X.mg X.base k d fv ps sp) (hr : Room k X.A) : PE X (.Call (.Name x p) [] [] pos) (fun σ H Q => tf σ H fun v H1 => rDef d fv sp v [] H1 Q) := by
  intro pins s σ H Q I h
  refine wpAny_Call_Name_kw (thn (hn pins s σ H _ I h) fun u s1 ⟨v, H1, I1, rv, q⟩ => ?_)
  obtain ⟨f, c, clos, vals, ef, hf, _⟩ := id q
  subst ef
  obtain rfl : u = Value.ref f := rv
  exact PySem.W.callWith_F0 (fnAt_def I1.hok hf) (run_def (us := []) L hr I1 (v := .ref f) rfl .nil q)
end
end L2
set_option Elab.async false
set_option linter.all false
set_option maxRecDepth 100000
set_option maxHeartbeats 4000000
namespace L2
open PySem PySem.Spec PySem.Calls PyProof.Rows
section
variable {M : Model} {A : Around} {E : Value → Shared → Prop} {s : Shared} {nm ql : Str} {pr : Arguments} {bd : Expr} {sc : Scope} {ev : Env} {c T : Addr} {ps : Array Value} {wh : Pos} {ln : Nat} {mg : Str → Option Value} {cl : List (Str × Addr)} {Q : Value → Shared → Prop}
theorem make_lamP (k1 : closureFor sc ev = pure cl) (k2 : ev.globals = mainGlobals) (k3 : s.heap.Ns mainGlobals mg) (k4 : ev.code = .ref c) (C : PySem.W.CodeHd s.heap c T) (k5 : s.heap.get? T = some (PySem.W.tabObj ps)) (k6 : TriplesOk ps.toList) (k7 : codeAmong wh ps.toList = none) (k8 : mainGlobals ≠ T) (k9 : s.heap.BuiltinsAt mg T)
    (h : ∀ c' T' tv g tk, Heap.ExtBut T s.heap g → s.heap.objs.size ≤ c' → s.heap.objs.size ≤ T' → c' < g.objs.size → g.CodeRec (.ref c') ql → PySem.W.CodeHd g c' T' → g.get? T' = some (PySem.W.tabObj #[]) → g.get? T = some (PySem.W.tabObj (ps ++ #[rawInt wh.line, rawInt wh.col, .ref c'])) →
      Q (.ref g.objs.size) { s with heap := g.push (PySem.W.kla_obj nm ql pr bd sc cl ((mg "__name__").getD .none) c' tv), toks := tk }) :
    wpAny M A (makeFunction nm ql pr (.expr bd) sc ev [] [] [] wh ln) Q E s := by
  obtain ⟨bm, ob, e1, e2, _, e3, e4, e5, e6, e7⟩ := k9
  rw [makeFunction_eq]
  simp only [List.filterMap_nil, List.zip_nil_right, List.isEmpty_nil, if_true, pure_bind]; unfold makeTail; rw [k1, k2]; refine wpAny_bind (wpAny_pure ?_)
  match cl with
  | [] =>
    simp only [List.isEmpty_nil, if_true]; refine wpAny_bind (wpAny_pure (wpAny_bind (wpAny_functionCodeX k4 (C.code k5 k6) (C.tab k5) k7 fun c' g tk x1 x2 x3 _ x4 x5 x6 => ?_)))
    obtain ⟨T', t1, t2, t3⟩ := x6
    have ng := k3.extBut x1 k8
    refine wpAny_bind (wpAny_builtinsFor ng e1 e2 (x1 _ _ e3 e4) e5 e6 e7 (wpAny_bind (wpAny_nsGet ng ?_)))
    exact wpAny_bind (wpAny_pure (wpAny_newObj_type (h c' T' .none g tk x1 x2 t1 x3 x4 (.of t2 t3) t3.2 x5.2) (by size_fits)))
  | q :: r =>
    simp only [Bool.false_eq_true, List.isEmpty_cons, if_false]; refine wpAny_bind (wpAny_newTextTuple ?_)
    have C' := fun (o1 : Obj) => C.keeps (h' := s.heap.push o1) fun b o e => Heap.get?_push_of_some _ e
    refine wpAny_bind (wpAny_functionCodeX k4 ((C' _).code (Heap.get?_push_of_some _ k5) k6) ((C' _).tab (Heap.get?_push_of_some _ k5)) k7 fun c' g tk x1 x2 x3 _ x4 x5 x6 => ?_)
    obtain ⟨T', t1, t2, t3⟩ := x6
    have ng := (k3.push _).extBut x1 k8
    have y1 : Heap.ExtBut T s.heap g := fun b o z e => x1 b o z (Heap.get?_push_of_some _ e)
    have up : ∀ {z : Nat} {o1 : Obj}, (s.heap.push o1).objs.size ≤ z → s.heap.objs.size ≤ z := fun z => by rw [Heap.size_push] at z; omega
    refine wpAny_bind (wpAny_builtinsFor ng e1 e2 (y1 _ _ e3 e4) e5 e6 e7 (wpAny_bind (wpAny_nsGet ng ?_)))
    exact wpAny_bind (wpAny_pure (wpAny_newObj_type (h c' T' _ g tk y1 (up x2) (up t1) x3 x4 (.of t2 t3) t3.2 x5.2) (by size_fits)))
end
def CodeT (c : Addr) (q : Str) (T : Addr) : Heap → Prop := fun h => CodeX c q h ∧ PySem.W.CodeHd h c T
def TabX (T : Addr) : Heap → Prop := fun h => h.get? T = some (PySem.W.tabObj #[])
section
variable {P : Program} {w : World} {H : Hp} {h : Heap}
theorem codeT_ok {c T : Addr} {q : Str} (x : CodeT c q T h) : ObjOk P w H h c (.ext (CodeT c q T)) :=
  ⟨x, let ⟨⟨o, _, _, e, _⟩, _⟩ := x; ⟨o, e⟩, fun h1 h2 ⟨⟨o, vs, t, e1, r⟩, o', vs', f', t', g', u', i', x', y', e2, r'⟩ k => ⟨⟨o, vs, t, k _ e1, r⟩, o', vs', f', t', g', u', i', x', y', k _ e2, r'⟩⟩
theorem tabX_ok {T : Addr} (x : TabX T h) : ObjOk P w H h T (.ext (TabX T)) := ⟨x, ⟨_, x⟩, fun h1 h2 x k => k _ x⟩
end
theorem tab_ne_cell {T : Addr} {v : V} : HO.ext (TabX T) ≠ HO.ext (CellX T v) := fun e => by
  injection e with e
  obtain ⟨h, hh⟩ := heap_at T (PySem.W.tabObj #[]) (by intro z; cases z)
  have y : CellX T v h := by rw [← e]; exact hh
  obtain ⟨o, u, e1, e2, _⟩ := y
  rw [hh] at e1
  cases e1
  cases e2
theorem def_ne_cell {f : Addr} {d : DefD} {clos : List (Str × Addr)} {c : Addr} {v : V} : HO.ext (DefX f d clos c) ≠ HO.ext (CellX f v) := fun e => by
  injection e with e
  obtain ⟨h, hh⟩ := heap_at f (PySem.W.fnMade d.name d.qual d.params d.body d.scope clos .none .none c .none) (by intro z; cases z)
  have y : CellX f v h := by rw [← e]; exact ⟨_, _, _, hh⟩
  obtain ⟨o, u, e1, e2, _⟩ := y
  rw [hh] at e1
  cases e1
  cases e2
theorem def_ne_lam {f : Addr} {d : DefD} {clos clos' : List (Str × Addr)} {c c' : Addr} {d' : LamD} : HO.ext (DefX f d clos c) ≠ HO.ext (LamX f d' clos' c') := fun e => by
  injection e with e
  obtain ⟨h, hh⟩ := heap_at f (PySem.W.fnMade d.name d.qual d.params d.body d.scope clos .none .none c .none) (by intro z; cases z)
  have y : LamX f d' clos' c' h := by rw [← e]; exact ⟨_, _, _, hh⟩
  obtain ⟨o, u, e1⟩ := y
  rw [hh] at e1
  injection e1 with e1
  injection e1 with _ _ e1
  injection e1 with e1
  injection e1 with _ _ _ e1
  cases e1
theorem lam_inj {f : Addr} {d d' : LamD} {clos clos' : List (Str × Addr)} {c c' : Addr} (e : HO.ext (LamX f d clos c) = HO.ext (LamX f d' clos' c')) : d.qual = d'.qual := by
  injection e with e
  obtain ⟨h, hh⟩ := heap_at f (PySem.W.kla_obj "<lambda>" d.qual d.params d.body d.scope clos .none c .none) (by intro z; cases z)
  have y : LamX f d' clos' c' h := by rw [← e]; exact ⟨_, _, hh⟩
  obtain ⟨o, u, e1⟩ := y
  rw [hh] at e1
  injection e1 with e1
  injection e1 with _ _ e1
  injection e1 with e1
  injection e1
theorem cell_ref {b p : Addr} {v : V} (e : HO.ext (CellX b (.ref p)) = HO.ext (CellX b v)) : v = .ref p := by
  injection e with e
  obtain ⟨h, hh⟩ := heap_at b { cls := .type "cell", data := .cell (some (.ref p)) } (by intro z; cases z)
  have y : CellX b v h := by rw [← e]; exact ⟨_, _, hh, rfl, rfl⟩
  obtain ⟨o, u, e1, e2, r⟩ := y
  rw [hh] at e1
  cases e1
  cases e2
  cases v <;> first | (obtain ⟨_, z⟩ := r; cases z; done) | (cases r; rfl) | (cases r; done)
def cdo (b : Bool) (c : Addr) (q : Str) (T : Addr) : HO := .ext (if b = true then CodeT c q T else CodeX c q)
theorem cdo_ok {P : Program} {w : World} {H : Hp} {h : Heap} {c T : Addr} {q : Str} : ∀ b, CodeT c q T h → ObjOk P w H h c (cdo b c q T)
  | true, x => codeT_ok x
  | false, x => codeX_ok x.1
def Keep (es : List Addr) (H H' : Hp) : Prop := ∀ b o, b ∉ es → H b = some o → H' b = some o
def tLamT (K : PySem.W.Frag) (c : Addr) (tabs : Tabs) (d : LamD) (clos : List (Str × Addr)) (b : Bool) : TE := fun σ H Q => ∃ T, ((PySem.W.codeHdIn K c T = true ∧ H T = some (.tbl #[])) ∨ ∃ q, H c = some (.ext (CodeT c q T)) ∧ H T = some (.ext (TabX T))) ∧ (∀ q ∈ tabs, q.1 ≠ T) ∧ TabsOk tabs H ∧
  ∀ f c' T' H1, Keep [T] H H1 → (∃ o, H1 T = some o) → TabsOk tabs H1 → H f = none → H c' = none → H T' = none → H1 f = some (.ext (LamX f d clos c')) → H1 c' = some (cdo b c' d.qual T') → H1 T' = some (.ext (TabX T')) → Q (.ref f) H1
section
variable {X : Cx} {tabs : Tabs} {c : Addr} {d : LamD} {clos : List (Str × Addr)} {pos : Pos} {b : Bool}
theorem pe_lamT (hcd : X.env.code = .ref c) (hB : Bm X.mg X.base) (hq : X.env.qual ++ "<lambda>" = d.qual) (hcl : closureFor d.scope X.env = pure clos) (hdef : defaultsOf d.params X.env = ([], [])) : PE X (.Lambda d.params d.body d.scope pos) (tLamT X.K c tabs d clos b) := by
  intro pins s σ H Q I h
  obtain ⟨T, hwhich, hnt, hT, hQ⟩ := h
  refine PySem.W.kla_eval hdef ?_
  rw [hq]
  have hgs : s.heap.Ns mainGlobals X.mg := I.mod.glob.keeps I.bk
  have C : PySem.W.CodeHd s.heap c T := by
    rcases hwhich with ⟨hC, _⟩ | ⟨q, hc, _⟩
    · exact PySem.W.codeHd_of_K I.kIn hC
    · exact (I.hok c _ hc).1.2
  have hTo : s.heap.get? T = some (PySem.W.tabObj #[]) := by
    rcases hwhich with ⟨_, hP⟩ | ⟨q, _, hP⟩
    · exact I.hok T _ hP
    · exact (I.hok T _ hP).1
  obtain ⟨oT, hHT⟩ : ∃ o, H T = some o := by rcases hwhich with ⟨_, hP⟩ | ⟨q, _, hP⟩ <;> exact ⟨_, hP⟩
  have oTu : ∀ xs, oT ≠ .tup xs := fun xs z => by rcases hwhich with ⟨_, hP⟩ | ⟨q, _, hP⟩ <;> (rw [hHT, z] at hP; cases hP)
  have oTf : ∀ o u, oT ≠ .frz o u := fun o u z => by rcases hwhich with ⟨_, hP⟩ | ⟨q, _, hP⟩ <;> (rw [hHT, z] at hP; cases hP)
  have oTo : ∀ a, oT ≠ .own a := fun a z => by rcases hwhich with ⟨_, hP⟩ | ⟨q, _, hP⟩ <;> (rw [hHT, z] at hP; cases hP)
  have hgT : mainGlobals ≠ T := fun q => by
    obtain ⟨o, es, ep, e, hd, _⟩ := hgs
    rw [q, hTo] at e; cases e; cases hd
  obtain ⟨bm, ob, b1, b2, b3, b4, b5⟩ := hB
  have bo := I.bk _ _ b2
  have hbT : bm ≠ T := fun q => by
    rw [q, hTo] at bo; cases bo; cases b3
  have hbG : bm ≠ mainGlobals := fun q => by
    obtain ⟨o, es, ep, e, hd, _⟩ := hgs
    rw [q, e] at bo; cases bo; rw [hd] at b5; cases b5
  have hbB : bm ≠ builtinsNs := fun q => by
    obtain ⟨mb, ⟨o, es, ep, e, hd, _⟩, _⟩ := I.mod.blt
    rw [q, e] at b2; cases b2; rw [hd] at b5; cases b5
  refine make_lamP (mg := X.mg) hcl I.ok.glob hgs hcd C hTo trivial rfl hgT ⟨bm, ob, b1, hbB, hbG, hbT, bo, b3, b4, b5⟩ fun c' T' ctv h' tk hx hge hgT' hlt hrec hhd htn htb => ?_
  have hc0 : H c' = none := I.hok.fresh hge
  have hT0 : H T' = none := I.hok.fresh hgT'
  have hf0 : H h'.objs.size = none := I.hok.fresh (Nat.le_trans hge (Nat.le_of_lt hlt))
  have ncf : c' ≠ h'.objs.size := Nat.ne_of_lt hlt
  have nTf' : T' ≠ h'.objs.size := Nat.ne_of_lt (Heap.lt_size htn)
  have ncT : c' ≠ T' := by obtain ⟨_, _, _, _, _, _, _, _, _, _, _, _, _, _, _, _, _, _, z⟩ := hhd; exact z
  have nTc : T ≠ c' := ne_of_none hHT hc0
  have nTT : T ≠ T' := ne_of_none hHT hT0
  have nTf : T ≠ h'.objs.size := ne_of_none hHT hf0
  obtain ⟨f, hf⟩ : ∃ f, f = h'.objs.size := ⟨_, rfl⟩
  obtain ⟨ob', hob⟩ : ∃ o, o = PySem.W.kla_obj "<lambda>" d.qual d.params d.body d.scope clos ((X.mg "__name__").getD .none) c' ctv := ⟨_, rfl⟩
  have hfo : (h'.push ob').get? f = some ob' := by rw [hf, hob]; exact Heap.get?_push_size _ rfl
  have keep : ∀ b o, b ≠ T → s.heap.get? b = some o → (h'.push ob').get? b = some o := fun b o n e => Heap.get?_push_of_some _ (hx b o n e)
  have htb' : (h'.push ob').get? T = some (PySem.W.tabObj (#[] ++ #[rawInt pos.line, rawInt pos.col, .ref c'])) := Heap.get?_push_of_some _ htb
  have hcx : CodeT c' d.qual T' (h'.push ob') := by
    obtain ⟨c2, oc, vs, t, e2, hoc, hdt, hv⟩ := hrec
    cases e2
    exact ⟨⟨oc, vs, t, Heap.get?_push_of_some _ hoc, hdt, hv⟩, hhd.keeps fun b o e => Heap.get?_push_of_some _ e⟩
  have htx : TabX T' (h'.push ob') := Heap.get?_push_of_some _ htn
  rw [← hf] at hf0 ncf nTf nTf' ⊢
  rw [← hob]
  obtain ⟨H1, hH1⟩ : ∃ H1, H1 = upd (upd (upd (upd H T (.tbl (#[] ++ #[rawInt pos.line, rawInt pos.col, .ref c']))) c' (cdo b c' d.qual T')) T' (.ext (TabX T'))) f (.ext (LamX f d clos c')) := ⟨_, rfl⟩
  have gf : H1 f = some (.ext (LamX f d clos c')) := by rw [hH1]; exact upd_same
  have gT' : H1 T' = some (.ext (TabX T')) := by rw [hH1, upd_ne nTf']; exact upd_same
  have gc : H1 c' = some (cdo b c' d.qual T') := by rw [hH1, upd_ne ncf, upd_ne ncT]; exact upd_same
  have gT : H1 T = some (.tbl (#[] ++ #[rawInt pos.line, rawInt pos.col, .ref c'])) := by rw [hH1, upd_ne nTf, upd_ne nTT, upd_ne nTc]; exact upd_same
  have go : ∀ b, b ≠ T → b ≠ c' → b ≠ T' → b ≠ f → H1 b = H b := fun b h1 h2 h3 h4 => by rw [hH1, upd_ne h4, upd_ne h3, upd_ne h2, upd_ne h1]
  have same : ∀ b o, b ≠ T → H b = some o → H1 b = some o := fun b o n e => by rw [go b n (ne_of_none e hc0) (ne_of_none e hT0) (ne_of_none e hf0)]; exact e
  have un : Un X.fs [] H H1 s.heap (h'.push ob') := by
    refine ⟨fun b o e n _ _ => keep b o (fun z => by rw [z, hHT] at n; cases n) e, fun b o e n _ _ => ⟨o.slots, keep b o (fun z => by rw [z, hHT] at n; cases n) e⟩, fun b o e n _ => ?_, fun b o e _ => ?_, fun b xs e => same b _ (fun z => by rw [z, hHT] at e; cases e; exact oTu _ rfl) e, fun b o u e => same b _ (fun z => by rw [z, hHT] at e; cases e; exact oTf _ _ rfl) e, fun b qs e => ?_⟩
    · have hb : b < s.heap.objs.size := Heap.lt_size e
      rw [go b (fun z => by rw [z, hHT] at n; cases n) (Nat.ne_of_lt (Nat.lt_of_lt_of_le hb hge)) (Nat.ne_of_lt (Nat.lt_of_lt_of_le hb hgT')) (by rw [hf]; exact Nat.ne_of_lt (Nat.lt_of_lt_of_le hb (Nat.le_trans hge (Nat.le_of_lt hlt))))]
      exact n
    · by_cases hb : b = T
      · rw [hb]; exact ⟨_, htb'⟩
      · exact ⟨o, keep b o hb e⟩
    · by_cases hb : b = T
      · rw [hb] at e ⊢
        rcases hwhich with ⟨_, hP⟩ | ⟨q, _, hP⟩
        · rw [hP] at e; cases e; exact ⟨_, gT⟩
        · rw [hP] at e; cases e
      · exact ⟨#[], by rw [same b _ hb e]; simp⟩
  have hok : HOk X.prog X.w H1 (h'.push ob') := fun a o e => by
    by_cases h1 : a = f
    · subst h1; rw [gf] at e; cases e; exact lamX_ok (by rw [hfo, hob])
    by_cases h2 : a = c'
    · subst h2; rw [gc] at e; cases e; exact cdo_ok b hcx
    by_cases h4 : a = T'
    · subst h4; rw [gT'] at e; cases e; exact tabX_ok htx
    by_cases h3 : a = T
    · subst h3; rw [gT] at e; cases e; exact htb'
    rw [go a h3 h2 h4 h1] at e
    refine (I.hok a o e).stay (fun b u hb q => keep b u ?_ q) (fun b q => same b _ (fun z => by rw [z, hHT] at q; cases q; exact oTo _ rfl) q) fun b xs q => same b _ (fun z => by rw [z, hHT] at q; cases q; exact oTu _ rfl) q
    rcases hb with rfl | hb
    · exact h3
    · exact fun z => by rw [z, hHT] at hb; cases hb; exact oTo _ rfl
  refine ⟨.ref f, H1, I.un (h' := h'.push ob') (t' := tk) un hok, rfl, hQ f c' T' H1 (fun b o n e => same b o (fun z => n (by rw [z]; exact List.mem_singleton.mpr rfl)) e) ⟨_, gT⟩ (fun q hq' => ?_) hf0 hc0 hT0 gf gc gT'⟩
  obtain ⟨qs, e1, e2, e3⟩ := hT q hq'
  refine ⟨qs, same _ _ (hnt q hq') e1, e2, fun l' hl' => (e3 l' hl').imp id fun ⟨c2, z1, z2⟩ => ⟨c2, z1, ?_⟩⟩
  by_cases hcT : c2 = T
  · exfalso
    rw [hcT, hHT] at z2
    rcases hwhich with ⟨_, hP⟩ | ⟨q, _, hP⟩
    · rw [hHT] at hP; rw [hP] at z2; cases z2
    · rw [hHT] at hP
      rw [hP] at z2
      injection z2 with z2
      injection z2 with z2
      obtain ⟨g, hg⟩ := heap_at T { cls := .none, data := .fields #[.none, .str l'.2 0] } (by intro z; cases z)
      have y : TabX T g := by rw [z2]; exact ⟨_, _, _, hg, rfl, rfl⟩
      have y : g.get? T = some (PySem.W.tabObj #[]) := y
      rw [hg] at y
      cases y
  · exact same _ _ hcT z2
end
end L2
set_option Elab.async false
set_option linter.all false
set_option maxRecDepth 100000
set_option maxHeartbeats 4000000
namespace L2
open PySem PySem.Spec PyProof.Rows
def defOf (q : Str) : Stmt → DefD
  | .FunctionDef n p b _ _ _ s _ _ _ => ⟨n, q, p, b, s⟩
  | _ => ⟨"", q, default, [], default⟩
def defP : Stmt → Pos
  | .FunctionDef _ _ _ _ _ _ _ _ _ p => p
  | _ => ⟨0, 0, 0, 0⟩
def LamOkT (P : Program) (w : World) (K : PySem.W.Frag) (mg : Str → Option Value) (base : Heap) (k : Nat) (d : LamD) (sp : Addr → Sp) : Prop :=
  ∀ (A : Around) (outer : List Env) (s : Shared) (H : Hp) (f c T : Addr) (us : List Value) (vs : List V) (Q : VK) (E : XK), Room k A → Env0 P w K mg base A outer s H → H f = some (.ext (LamX f d [] c)) → H c = some (.ext (CodeT c d.qual T)) → H T = some (.ext (TabX T)) →
    Vals vs us → sp T vs H Q E → codeAny (model P w) A (.call (.ref f) ⟨us, []⟩) (CR CX0 outer P w H s Q E) s
section
variable {P : Program} {w : World} {K : PySem.W.Frag} {mg : Str → Option Value} {base : Heap}
theorem lam_ofC {d : LamD} {N ps : List Str} {k : Nat} {sp : Addr → Sp} (S : FnScope N ps d.scope) (hck : ∀ p ∈ d.scope.names, p.2 = .cell → d.scope.names.lookup p.1 = some .cell)
    (hbind : ∀ (pm ctv : Value) (c : Addr) (us : List Value), us.length = ps.length → bindArgs (PySem.W.kla_fn "<lambda>" d.qual d.params d.body d.scope [] pm (.ref c) ctv) ⟨us, []⟩ = pure (ps.zip us))
    (len : ∀ T vs H Q E, sp T vs H Q E → vs.length = ps.length)
    (hbody : ∀ (A : Around) (outer : List Env) (s : Shared) (H : Hp) (f c T : Addr) (vs : List V) (Q : VK) (E : XK), Room k (A.deeper (envOfC d.qual d.scope s.heap.objs.size f (.ref c))) → H c = some (.ext (CodeT c d.qual T)) → H T = some (.ext (TabX T)) → sp T vs H Q E →
      ∃ t, PE (cxOf CX0 P w K mg base N d.qual d.scope f (.ref c) A outer s H E).nox d.body t ∧ t (start N vs) H (fun v H' => ∀ H3, Same H' H3 → CellsOf (cellsFrom (s.heap.objs.size + 1) d.scope.names []) N (start N vs) H3 → Q v H3)) :
    LamOkT P w K mg base (k + 1) d sp := by
  intro A outer s H f c T us vs Q E hr e0 hf hc hT r hsp
  have hl := len _ _ _ _ _ hsp
  have lus : us.length = ps.length := by rw [← r.length]; exact hl
  obtain ⟨⟨pm, ctv, ef⟩, _, _⟩ := e0.hok f _ hf
  obtain ⟨⟨⟨oc, cvs, ct, ec, ed, ev⟩, _⟩, _, _⟩ := e0.hok c _ hc
  have lim : s.heap.NoLimit := e0.mod.nolimit.keeps fun b o e => (e0.bs b o e).1
  have hkind : ∀ y ∈ ps.zip us, d.scope.names.lookup y.1 = some .local ∨ (d.scope.names.lookup y.1 = some .cell ∧ ((cellsFrom (s.heap.objs.size + 1) d.scope.names []).lookup y.1).isSome = true) := fun ⟨n, v⟩ hy => by
    rcases S.par n (List.of_mem_zip hy).1 with q | q
    · exact .inl q
    · exact .inr ⟨q, PySem.W.cellsFrom_some _ _ _ (.inl q)⟩
  refine PySem.W.kla_callFunE (body := d.body) hr.depth ef rfl S.co S.gen rfl ⟨c, oc, cvs, ct, rfl, ec, ed, ev⟩ ?_
  rw [hbind pm ctv c us lus]
  refine wpAny_pure (wpAny_newFunctionEnv_cells S.kind hkind fun env he s1 x => ?_)
  subst he
  refine ⟨lim.keeps x.toInCall.keep, PySem.W.kla_codeExpr ?_⟩
  obtain ⟨t, ht, hq⟩ := hbody A outer s H f c T vs Q E (hr.deeper _) hc hT hsp
  have I : Inv (cxOf CX0 P w K mg base N d.qual d.scope f (.ref c) A outer s H E) [] (start N vs) H s1 := inv_start S hr.hd e0 hl r x
  refine wpAny_mono (ht [] s1 (start N vs) H _ (I.wish _) hq) (fun u s' hs => ?_) fun e s' hs => False.elim hs
  obtain ⟨v, H', J, rv, q⟩ := hs
  have J := J.unwish
  obtain ⟨H3, h1, h2, _, h3, h4⟩ := track S.nd hck J
  exact ⟨v, H3, J.os, J.bare, h3, h4, rv, q H3 h1 h2⟩
end
def rLamT (d : LamD) (sp : Addr → Sp) : V → List V → Hp → VK → Prop := fun v vs H Q => ∃ f c T, v = .ref f ∧ H f = some (.ext (LamX f d [] c)) ∧ H c = some (.ext (CodeT c d.qual T)) ∧ H T = some (.ext (TabX T)) ∧ sp T vs H Q fun _ _ _ => False
def tCallLT (d : LamD) (sp : Addr → Sp) (tf : TE) (t : TA) : TE := fun σ H Q => tf σ H fun v H1 => (∃ f d' clos c, v = .ref f ∧ H1 f = some (.ext (LamX f d' clos c))) ∧ t σ H1 fun vs H2 => (∀ f d' clos c, v = .ref f → H1 f = some (.ext (LamX f d' clos c)) → H2 f = some (.ext (LamX f d' clos c))) ∧ rLamT d sp v vs H2 Q
section
variable {X : Cx} {d : LamD} {k : Nat} {sp : Addr → Sp} {x : Str} {p pos : Pos} {tf : TE} {t : TA} {e : Expr} {es : List Expr}
theorem run_lamT {pins : List (Addr × Obj)} {σ : St} {H : Hp} {s : Shared} {Q : VK} {us : List Value} {vs : List V} {v : V} {u : Value} (L : LamOkT X.prog X.w X.K X.mg X.base k d sp) (hr : Room k X.A) (I : Inv X pins σ H s) (rv : RelV v u) (r : Vals vs us) (h : rLamT d sp v vs H Q) :
    wpAny (model X.prog X.w) X.A (call u us) (EP X pins σ Q) X.xe s := by
  obtain ⟨f, c, T, rfl, hf, hc, hT, h4⟩ := h
  obtain rfl : u = Value.ref f := rv
  refine wpAny_call (codeAny_mono (L X.A X.stack s H f c T us vs Q _ hr I.env0 hf hc hT r h4) fun r s' hq => ?_)
  cases r with
  | error e => exact False.elim hq
  | ok fl =>
    cases fl with
    | ret u => exact I.after hq
    | next => exact False.elim hq
    | brk => exact False.elim hq
    | cont => exact False.elim hq
theorem pe_callLT (hn : PE X (.Name x p) tf) (L : LamOkT X.prog X.w X.K X.mg X.base k d sp) (hr : Room k X.A) (ha : PA X (e :: es) t)
    (he : starEach (e :: es) X.env = (false, eval e X.env) :: starEach es X.env := by rfl) (hpl : (backTo pos (starEach es X.env)).any (·.1) = false := by rfl) : PE X (.Call (.Name x p) (e :: es) [] pos) (tCallLT d sp tf t) := by
  intro pins s σ H Q I h
  refine wpAny_Call_Name_kw (thn (hn pins s σ H _ I h) fun u s1 ⟨v, H1, I1, rv, ⟨f, d', clos, c, ef, hf⟩, q⟩ => ?_)
  subst ef
  obtain rfl : u = Value.ref f := rv
  refine PySem.W.callWith_F (fnAt_of I1.hok hf) (thn (ha pos pins s1 σ H1 _ I1 q) fun us s2 ⟨vs, H2, I2, r, q2⟩ => ⟨fnAt_of I2.hok (q2.1 _ _ _ _ rfl hf), ?_⟩) he hpl
  exact run_lamT L hr I2 (v := .ref f) rfl r q2.2
end
end L2
set_option Elab.async false
set_option linter.all false
set_option maxRecDepth 100000
set_option maxHeartbeats 4000000
namespace L2
open PySem PySem.Spec PyProof.Rows
theorem x_nomatch {K : PySem.W.Frag} {M : Model} {h : Heap} {C D x : Addr} {ob : Obj} (X : K.In h) (c : XHd K C) (hx : h.get? x = some ob) (hc : ob.cls = .ref D) (hm : PySem.W.mroIn K D (.ref C) = some false) :
    PySem.W.Looks M h (excMatches (.ref x) (.ref C)) false := by
  have L1 : PySem.W.Looks M h (typeOf (.ref C)) (.type "type") := PySem.W.looks_typeIn X c.ty
  have L2' : PySem.W.Looks M h (isSubtype (.type "type") (.type "tuple")) false := PySem.W.Looks.of_pure tc_notTuple
  have L3 : PySem.W.Looks M h (isInstance (.ref C) (.type "tuple")) false := L1.andThen L2'
  have L4 : PySem.W.Looks M h (isExcClass (.ref C)) true := by
    unfold isExcClass
    exact (x_isType X c.isc).andThen (PySem.W.looks_mroIn X c.mb)
  have L5 : PySem.W.Looks M h (typeOf (.ref x)) (.ref D) := hc ▸ (PySem.W.Looks.ld hx).andThen .now
  have L6 : PySem.W.Looks M h (isSubtype (.ref D) (.ref C)) false := PySem.W.looks_mroIn X hm
  intro A Q E s k q
  unfold excMatches
  refine wpAny_bind (L3 A _ E s k ?_)
  rw [if_neg Bool.false_ne_true]
  refine wpAny_bind (wpAny_pure ?_)
  simp only [List.forIn_cons, List.forIn_nil, bind_assoc, pure_bind]
  refine wpAny_bind (L4 A _ E s k ?_)
  simp only [Bool.not_true, Bool.false_eq_true, if_false, pure_bind]
  refine wpAny_bind (L5 A _ E s k ?_)
  refine wpAny_bind (L6 A _ E s k ?_)
  simp only [Bool.false_eq_true, if_false, pure_bind]
  exact wpAny_pure q
structure Lnd (X : Cx) (pins : List (Addr × Obj)) (σ : St) (H : Hp) (s : Shared) (x D : Addr) (dct : Option Addr) (T : Addr) (H' : Hp) (s' : Shared) (T4 : Addr) (h5 : Heap) : Prop where
  I : Inv X pins σ H s
  G : XG X.prog X.w X.stack H s x D dct T H' s'
  k : KeptBut ([T, x] ++ [T4]) (frs X.stack) s'.heap h5
  hxs : ∀ b, b = T ∨ b = x ∨ b = T4 → s.heap.get? b = none ∧ H' b = none ∧ b ∉ frs X.stack
  fx : Fx h5 x (.ref D) dct .none T4
abbrev TH := Addr → Option Addr → Addr → Ends → St → Hp → Prop
def PH (X : Cx) (hs : List ExceptHandler) (th : TH) : Prop :=
  ∀ (pins : List (Addr × Obj)) (σ : St) (H : Hp) (s : Shared) (x D : Addr) (dct : Option Addr) (T : Addr) (H' : Hp) (s' : Shared) (T4 : Addr) (h5 : Heap) (DE : Ends), Lnd X pins σ H s x D dct T H' s' T4 h5 → th D dct x DE σ (upd H' x (.ext (XCt x D dct))) →
    wpAny (model X.prog X.w) X.A (handleBy (.ref x) X.env hs) (SP X pins DE) X.xe { s' with heap := h5 }
theorem ph_nil {X : Cx} : PH X [] (fun _ _ _ _ _ _ => False) := fun _ _ _ _ _ _ _ _ _ _ _ _ _ _ q => False.elim q
section
variable {X : Cx} {C : Addr} {cn en : Str} {ie : Nat} {b₀ : Stmt} {suite : List Stmt} {cp hp : Pos} {ts : TS} {rest : List ExceptHandler} {tr : TH}
theorem Lnd.J {pins : List (Addr × Obj)} {σ : St} {H : Hp} {s : Shared} {x D : Addr} {dct : Option Addr} {T : Addr} {H' : Hp} {s' : Shared} {T4 : Addr} {h5 : Heap} (L : Lnd X pins σ H s x D dct T H' s' T4 h5) : Inv X pins σ (upd H' x (.ext (XCt x D dct))) { s' with heap := h5 } :=
  landG (h2 := h5) L.I L.G L.k (fun b hb => L.hxs b (by simpa using hb)) L.fx
theorem ph_as (hst : X.stack = X.env :: X.outer ∧ X.env.frame = some X.env.locals) (gC : Gl X cn) (mC : X.mg cn = some (.ref C)) (cC : XHd X.K C) (hN : X.N.Nodup) (hi : X.N[ie]? = some en) (hl : X.env.kindOf en = some .local)
    (hs : ∀ x, PSs (X.inX x) (b₀ :: suite) ts) (hr : PH X rest tr) (hdb : (cn == ("__debug__" : Str)) = false := by decide) :
    PH X (.ExceptHandler (some (.Name cn cp)) (some en) (b₀ :: suite) hp :: rest) (fun D dct x DE σ H1 => (PySem.W.mroIn X.K D (.ref C) = some true ∧ ts (DE.asG ie) (σ.set ie (some (.ref x))) H1) ∨ (PySem.W.mroIn X.K D (.ref C) = some false ∧ tr D dct x DE σ H1)) := by
  intro pins σ H s x D dct T H' s' T4 h5 DE L q
  have J5 := L.J
  obtain ⟨o5, ho5, hc5⟩ : ∃ o, h5.get? x = some o ∧ o.cls = .ref D := let ⟨o, _, _, _, e, c, _⟩ := L.fx; ⟨o, e, c⟩
  refine wpAny_handleBy_cons (codeAny_handlers_test (ld_glob (X := X.inX x) (J5.inX x) gC mC ?_ hdb)) (by intro z; cases z)
  rcases q with ⟨hm, q⟩ | ⟨hm, q⟩
  · refine (x_matches J5.kIn cC ho5 hc5 hm).at ?_
    refine codeAny_handlers_suite_as ?_
    refine fx_flight (s := { s' with heap := h5 }) (fr := frs (X.env :: X.outer)) L.fx fun h6 x6 k6 => ?_
    have k46 : KeptBut ([T, x] ++ [T4] ++ [T4]) (frs X.stack) s'.heap h6 := by
      have := L.k
      rw [hst.1] at this ⊢
      exact this.trans k6
    have J6 := landG (h2 := h6) L.I L.G k46 (fun b hb => L.hxs b (by
      have : b = T ∨ b = x ∨ b = T4 ∨ b = T4 := by simpa using hb
      rcases this with z | z | z | z
      · exact .inl z
      · exact .inr (.inl z)
      · exact .inr (.inr z)
      · exact .inr (.inr z))) x6
    refine store_ok J6 hN hi (.inl hl) (v := .ref x) rfl (fun s7 I7 => ?_) (.inr hl)
    refine wpAny_mono (hs x pins s7 _ _ _ (I7.inX x) q) (fun fl s8 hf => ?_) (fun _ _ z => False.elim z)
    cases fl with
    | next =>
      obtain ⟨σ8, H8, I8, q8⟩ := hf
      have J8 : Inv X pins σ8 H8 s8 := I8.outX L.I.ok.hd
      obtain ⟨m, hn, hlk⟩ := id J8.loc
      refine wpAny_nameGoes_keeps hl hn (by rw [L.I.ok.kind]; rfl) fun h9 v hn9 sb => ?_
      exact ⟨_, H8, J8.gone hN hi hl hlk hn9 sb, q8⟩
    | ret u => obtain ⟨_, _, _, _, _, z⟩ := hf; exact False.elim z
    | brk => obtain ⟨_, _, _, z⟩ := hf; exact False.elim z
    | cont => obtain ⟨_, _, _, z⟩ := hf; exact False.elim z
  · refine (x_nomatch J5.kIn cC ho5 hc5 hm).at ?_
    exact hr pins σ H s x D dct T H' s' T4 h5 DE L q
theorem ph_bare (hst : X.stack = X.env :: X.outer ∧ X.env.frame = some X.env.locals) (gC : Gl X cn) (mC : X.mg cn = some (.ref C)) (cC : XHd X.K C)
    (hs : ∀ x, PSs (X.inX x) (b₀ :: suite) ts) (hr : PH X rest tr) (hdb : (cn == ("__debug__" : Str)) = false := by decide) :
    PH X (.ExceptHandler (some (.Name cn cp)) none (b₀ :: suite) hp :: rest) (fun D dct x DE σ H1 => (PySem.W.mroIn X.K D (.ref C) = some true ∧ ts { nx := DE.nx, rt := DE.rt } σ H1) ∨ (PySem.W.mroIn X.K D (.ref C) = some false ∧ tr D dct x DE σ H1)) := by
  intro pins σ H s x D dct T H' s' T4 h5 DE L q
  have J5 := L.J
  obtain ⟨o5, ho5, hc5⟩ : ∃ o, h5.get? x = some o ∧ o.cls = .ref D := let ⟨o, _, _, _, e, c, _⟩ := L.fx; ⟨o, e, c⟩
  refine wpAny_handleBy_cons (codeAny_handlers_test (ld_glob (X := X.inX x) (J5.inX x) gC mC ?_ hdb)) (by intro z; cases z)
  rcases q with ⟨hm, q⟩ | ⟨hm, q⟩
  · refine (x_matches J5.kIn cC ho5 hc5 hm).at ?_
    refine codeAny_handlers_suite ?_
    refine fx_flight (s := { s' with heap := h5 }) (fr := frs (X.env :: X.outer)) L.fx fun h6 x6 k6 => ?_
    have k46 : KeptBut ([T, x] ++ [T4] ++ [T4]) (frs X.stack) s'.heap h6 := by
      have := L.k
      rw [hst.1] at this ⊢
      exact this.trans k6
    have J6 := landG (h2 := h6) L.I L.G k46 (fun b hb => L.hxs b (by
      have : b = T ∨ b = x ∨ b = T4 ∨ b = T4 := by simpa using hb
      rcases this with z | z | z | z
      · exact .inl z
      · exact .inr (.inl z)
      · exact .inr (.inr z)
      · exact .inr (.inr z))) x6
    refine wpAny_mono (hs x pins _ _ _ _ (J6.inX x) q) (fun fl s8 hf => ?_) (fun _ _ z => False.elim z)
    cases fl with
    | next =>
      obtain ⟨σ8, H8, I8, q8⟩ := hf
      exact ⟨σ8, H8, I8.outX L.I.ok.hd, q8⟩
    | ret u =>
      obtain ⟨v, σ8, H8, I8, rv, q8⟩ := hf
      exact ⟨v, σ8, H8, I8.outX L.I.ok.hd, rv, q8⟩
    | brk => obtain ⟨_, _, _, z⟩ := hf; exact False.elim z
    | cont => obtain ⟨_, _, _, z⟩ := hf; exact False.elim z
  · refine (x_nomatch J5.kIn cC ho5 hc5 hm).at ?_
    exact hr pins σ H s x D dct T H' s' T4 h5 DE L q
end
def HX (X : Cx) (pins : List (Addr × Obj)) (hr : Value → Option Addr → St → Hp → Prop) (e : Value) (s' : Shared) : Prop := ∃ σ H s, Inv X pins σ H s ∧ CXG X.prog X.w X.stack H s (fun c d H' => hr c d σ H') e s'
abbrev TB := (St → Hp → Prop) → VK → (Value → Option Addr → St → Hp → Prop) → St → Hp → Prop
def PB1 (X : Cx) (st : Stmt) (t : TB) : Prop :=
  ∀ (pins : List (Addr × Obj)) (s : Shared) (σ : St) (H : Hp) (nx : St → Hp → Prop) (rt : VK) (hr : Value → Option Addr → St → Hp → Prop), Inv X pins σ H s → t nx rt hr σ H → wpAny (model X.prog X.w) X.A (exec st X.env) (SP X pins { nx := nx, rt := rt }) (HX X pins hr) s
def PB (X : Cx) (sts : List Stmt) (t : TB) : Prop :=
  ∀ (pins : List (Addr × Obj)) (s : Shared) (σ : St) (H : Hp) (nx : St → Hp → Prop) (rt : VK) (hr : Value → Option Addr → St → Hp → Prop), Inv X pins σ H s → t nx rt hr σ H → wpAny (model X.prog X.w) X.A (execs sts X.env) (SP X pins { nx := nx, rt := rt }) (HX X pins hr) s
section
variable {X : Cx}
theorem pb_one {st : Stmt} {t : TB} (h1 : PB1 X st t) : PB X [st] t := by
  intro pins s σ H nx rt hr I h
  refine wpAny_execs_cons (thn (h1 pins s σ H nx rt hr I h) fun f s1 q => ?_)
  cases f with
  | next => exact wpAny_execs_nil q
  | ret v => exact q
  | brk => exact q
  | cont => exact q
def PX (X : Cx) (e : Expr) (t : VK → XK → St → Hp → Prop) : Prop :=
  ∀ (pins : List (Addr × Obj)) (s : Shared) (σ : St) (H : Hp) (Q : VK) (E : XK), Inv X pins σ H s → t Q E σ H →
    wpAny (model X.prog X.w) X.A (eval e X.env) (EP X pins σ Q) (fun e s' => ∃ H1 s1, Inv X pins σ H1 s1 ∧ CXG X.prog X.w X.stack H1 s1 E e s') s
theorem pb1_expr {e : Expr} {t : VK → XK → St → Hp → Prop} {pos : Pos} (h : PX X e t) (hsw : swapsWith e none pos.line X.env = pure false := by rfl) : PB1 X (.Expr e pos) (fun nx _ hr σ H => t (fun _ H1 => nx σ H1) (fun c d H' => hr c d σ H') σ H) := by
  intro pins s σ H nx rt hr I q
  refine wpAny_Expr_any (wpAny_mono (h pins s σ H _ _ I q) (fun u s1 ⟨v, H1, I1, r, q1⟩ => ?_) fun e s' ⟨H1, s1, I1, c⟩ => ⟨σ, H1, s1, I1, c⟩) I.quiet hsw
  exact ⟨σ, H1, I1, q1⟩
end
section
variable {X : Cx} {k : Nat} {f C : Addr} {fd : FuncData} {ps : List Str} {sp : Sp} {dvs : List V} {ds : List Value} {x m : Str} {p pos apos : Pos} {e o : Expr} {es : List Expr} {ta : TE} {t : TA}
theorem run_px {pins : List (Addr × Obj)} {σ : St} {H : Hp} {s : Shared} {Q : VK} {E : XK} {us : List Value} {vs : List V} (F : FnOk X.prog X.w X.K X.mg X.base (CXG X.prog X.w) k f fd ps sp) (hr : Room k X.A) (hb : Binds X.K fd ps ds) (hd : Vals dvs ds)
    (I : Inv X pins σ H s) (r : Vals vs us) (h : sp (vs ++ dvs) H Q E) : wpAny (model X.prog X.w) X.A (call (.ref f) us) (EP X pins σ Q) (fun e s' => ∃ H1 s1, Inv X pins σ H1 s1 ∧ CXG X.prog X.w X.stack H1 s1 E e s') s := by
  have r2 : Vals (vs ++ dvs) (us ++ ds) := r.append hd
  have hl : (us ++ ds).length = ps.length := by rw [← r2.length]; exact F.len _ _ _ _ h
  refine wpAny_call (codeAny_mono (F.run X.A X.stack s H ⟨us, []⟩ (us ++ ds) (vs ++ dvs) Q E hr I.env0 (hb s us I.kIn hl) r2 h) fun r s' hq => ?_)
  cases r with
  | error e => exact ⟨H, s, I, hq⟩
  | ok fl =>
    cases fl with
    | ret u => exact I.after hq
    | next => exact False.elim hq
    | brk => exact False.elim hq
    | cont => exact False.elim hq
theorem px_meth {pl : Sem Bool} (he : PE X.nox o ta) (c : Cls X.K C) (hm : Meth X.K C m f) (F : FnOk X.prog X.w X.K X.mg X.base (CXG X.prog X.w) k f fd ps sp) (hr : Room k X.A) (hb : Binds X.K fd ps ds) (hd : Vals dvs ds) (ha : PA X.nox (e :: es) t)
    (hst : starEach (e :: es) X.env = (false, eval e X.env) :: starEach es X.env := by rfl) (hpl : (backTo pos (starEach es X.env)).any (·.1) = false := by rfl)
    (ht : eval (.Call (.Attribute o m apos) (e :: es) [] pos) X.env = (do
      let ov ← eval o X.env
      standAt apos.atName
      let (f, first) ← holding [ov] (getMethod ov m pl)
      callWith pos f first (backTo pos (starEach (e :: es) X.env)) (backToKw pos (keywordEach [] X.env))) := by rfl) :
    PX X (.Call (.Attribute o m apos) (e :: es) [] pos) (fun Q E σ H => ta σ H fun x H1 => ∃ a dx fs, x = .ref a ∧ H1 a = some (.ins C dx fs) ∧ fs.lookup m = none ∧ t σ H1 fun vs H2 => sp (x :: (vs ++ dvs)) H2 Q E) := by
  intro pins s σ H Q E I h
  refine PySem.W.methodCall_KW (pl := pl) (wpAny_mono (he pins s σ H _ (I.wish _) h) (fun u s1 ⟨x, H1, I1, rx, a, dx, fs, ex, ea, l, q⟩ => ?_) fun _ _ z => False.elim z) ht
  subst ex
  obtain rfl : u = Value.ref a := rx
  have I1 := I1.unwish
  refine getmeth_ok I1 ea c hm l ?_
  refine PySem.W.callWith_K (first := [.ref a]) (h₀ := X.base) I.ok.mod.kin hm.kp (wpAny_mono (ha pos pins s1 σ H1 _ (I1.wish _) q) (fun us s2 ⟨vs, H2, I2, r, q2⟩ => ⟨I2.unwish.kIn, ?_⟩) fun _ _ z => False.elim z) hst hpl
  exact run_px (us := .ref a :: us) (vs := .ref a :: vs) F hr hb hd I2.unwish (.cons rfl r) q2
theorem PX.or {t t' : VK → XK → St → Hp → Prop} {ex : Expr} (h : PX X ex t) (h' : PX X ex t') : PX X ex (fun Q E σ H => t Q E σ H ∨ t' Q E σ H) := fun pins s σ H Q E I q => q.elim (h pins s σ H Q E I) (h' pins s σ H Q E I)
theorem ps_tryN {body : List Stmt} {h₀ : ExceptHandler} {hs : List ExceptHandler} {tb : TB} {th : TH} {tp : Pos} (hst : X.stack = X.env :: X.outer ∧ X.env.frame = some X.env.locals) (hb : PB X body tb) (hh : PH X (h₀ :: hs) th) :
    PS X (.Try body (h₀ :: hs) [] [] tp) (fun DE σ H => tb DE.nx DE.rt (fun c dct σ' H' => ∃ D, c = .ref D ∧ ∀ x, H' x = none → th D dct x DE σ' (upd H' x (.ext (XCt x D dct)))) σ H) := by
  intro pins s σ H DE I h
  refine wpAny_Try_except ?_
  refine wpAny_mono (hb pins s σ H DE.nx DE.rt _ I h) (fun f s1 q => ?_) fun e s' z => ?_
  · cases f with
    | next => exact wpAny_execs_nil q
    | ret u => exact q
    | brk => obtain ⟨_, _, _, z⟩ := q; exact False.elim z
    | cont => obtain ⟨_, _, _, z⟩ := q; exact False.elim z
  · obtain ⟨σ1, H1, s1, I1, x, D, dct, T, H', rfl, G, D', eD, hq⟩ := z
    cases eD
    have J : Inv X pins σ1 H' s' := I1.call' (ch := []) G.os G.un G.hok G.bare (by simp)
    have st : s'.heap.FunFrames X.base (X.env :: X.outer) := hst.1 ▸ J.stack
    refine fx_next (by rw [I1.ok.frames, hst.1]) st hst.2 G.fx fun h4 T4 x4 n4 k4 => ?_
    refine fx_flight (s := { s' with heap := h4 }) (fr := frs (X.env :: X.outer)) x4 fun h5 x5 k5 => ?_
    have k45 : KeptBut ([T, x] ++ [T4]) (frs X.stack) s'.heap h5 := by rw [hst.1]; exact k4.trans k5
    have so : ∀ b, s1.heap.get? b = none → b ∉ frs X.stack := fun b n z => by
      obtain ⟨_, o, e, _⟩ := I1.stack.mem z
      rw [n] at e
      cases e
    have h4s : s1.heap.get? T4 = none := gone_of_there G.un n4
    have u4 : H' T4 = none := by
      cases z : H' T4 with
      | none => rfl
      | some u =>
        obtain ⟨o, e⟩ := (J.hok T4 u z).isObj
        rw [n4] at e
        cases e
    refine hh pins σ1 H1 s1 x D dct T H' s' T4 h5 DE ⟨I1, G, k45, fun b hb => ?_, x5⟩ (hq x G.ux)
    rcases hb with rfl | rfl | rfl
    · exact ⟨G.nT, G.uT, so _ G.nT⟩
    · exact ⟨G.nx, G.ux, so _ G.nx⟩
    · exact ⟨h4s, u4, so _ h4s⟩
end
end L2
set_option Elab.async false
set_option linter.all false
namespace L2
open PySem PySem.Spec PyProof.Rows
def PAX (X : Cx) (es : List Expr) (t : (List V → Hp → Prop) → XK → St → Hp → Prop) : Prop :=
  ∀ (pos : Pos) (pins : List (Addr × Obj)) (s : Shared) (σ : St) (H : Hp) (Q : List V → Hp → Prop) (E : XK), Inv X pins σ H s → t Q E σ H →
    wpAny (model X.prog X.w) X.A (spliced (backTo pos (starEach es X.env))) (AP X pins σ Q) (fun e s' => ∃ H1 s1, Inv X pins σ H1 s1 ∧ CXG X.prog X.w X.stack H1 s1 E e s') s
section
variable {X : Cx} {e : Expr} {es : List Expr} {pos : Pos}
theorem peq_ix {a b : Expr} {ta tb : TE} {r : R2} (hr : IxR X r) (ha : PEq X a ta) (hb : PE X b tb) (hp : PlainIx b) : PEq X (.Subscript a b pos) (tOp r ta tb) := peq_of (pe_ix hr (peq_out ha) hb hp)
theorem o_and : OpR X (binaryOp .BitAnd) (rI2 fun i j => .int (Builtin.bitAnd i j)) := op_and.i2
end
end L2
set_option Elab.async false
set_option linter.all false
set_option maxRecDepth 100000
set_option maxHeartbeats 4000000
namespace L2
open PySem PySem.Calls PySem.Spec PyProof.Rows PySem.W
section
variable {prog : Program} {w : World} {s : Shared} {A : Around} {E : Value → Shared → Prop}
theorem sort_tup {t : Addr} {us : List Value} {ns : List Int} {R : Value → Shared → Prop} (ht : IsTup s.heap t us.toArray) (hi : IntsAre us ns) (small : us.length < 64)
    (fin : ∀ (out : Array Value) (ns' : List Int), IntsAre out.toList ns' → ns'.Perm ns → ns'.Pairwise (· ≤ ·) → R (.ref (s.heap.objs.size + 1)) { s with heap := sortedAll s.heap us out }) :
    wpAny (model prog w) A (call (.builtin "sorted") [.ref t]) R E s := by
  obtain ⟨o, ho, hc, n, hd⟩ := id ht; have big : us.length ≤ sizeLine := by rw [sizeLine_eq]; omega
  refine call_function_entry kind_sorted plain_sorted entry_sorted (args_sorted1 _) ?_; unfold Builtin.«sorted»; refine wpAny_bind (m := checkCount "sorted" 1 1 _) (wpAny_pure (wpAny_bind ?_))
  unfold collect; refine wpAny_bind (wpAny_runValue (codeAny_builtin entry_proto_collect' ?_))
  show wpAny _ _ (do again (.builtin "list.__iadd__" ⟨[← newList [], .ref t], []⟩)) _ _ s; refine wpAny_bind (wpAny_newList (wpAny_pure ⟨Code.quiet_builtin _ (by decide +kernel), codeAny_builtin entry_list_iadd' ?_⟩))
  show wpAny _ _ (Builtin.List.listExtendWith (.ref s.heap.objs.size) (.ref t) (.ref s.heap.objs.size)) _ _ { s with heap := s.heap.push (seqObj "list" #[] 0) }; unfold Builtin.List.listExtendWith
  have ho1 : (s.heap.push (seqObj "list" #[] 0)).get? t = some o := Heap.get?_push_of_some _ ho
  have oN : (s.heap.push (seqObj "list" #[] 0)).get? s.heap.objs.size = some (seqObj "list" #[] 0) := Heap.get?_push_size _ rfl
  refine wpAny_bind (wpAny_typeOf (T := "tuple") ⟨o, ho1, hc⟩ ?_)
  rw [if_pos (by have e : (Value.type "tuple" == Value.type "tuple") = true := rfl
                 rw [e]; simp)]
  refine wpAny_bind (listItems_at ho1 hd (wpAny_bind (listItems_at (xs := #[]) (n := 0) oN rfl ?_)))
  rw [if_neg (by simp)]
  refine wpAny_bind (listUpdate_at (xs := #[]) (n := 0) oN rfl (wpAny_pure ?_) (Nat.zero_le _) (by show (#[] ++ us.toArray).size ≤ sizeLine + 1; simp only [Array.size_append, List.size_toArray, List.length_nil]; omega))
  show wpAny (model prog w) _ (do let o ← load s.heap.objs.size; match o.data with | .seq xs _ => pure xs.toList | _ => unsupported "internal:collect") _ E { s with heap := (s.heap.push (seqObj "list" #[] 0)).update s.heap.objs.size (Obj.mapSeq (· ++ us.toArray)) }
  refine wpAny_bind (wpAny_load (get?_update_seq oN _) ?_)
  show wpAny _ _ (pure ((#[] : Array Value) ++ us.toArray).toList) _ E _
  have eu : ((#[] : Array Value) ++ us.toArray).toList = us := by simp
  rw [eu]
  refine wpAny_pure (wpAny_bind (wpAny_newList ?_))
  have e1 : ((s.heap.push (seqObj "list" #[] 0)).update s.heap.objs.size (Obj.mapSeq (· ++ us.toArray))).objs.size = s.heap.objs.size + 1 := by rw [Heap.size_update, size_push']
  have oL : (((s.heap.push (seqObj "list" #[] 0)).update s.heap.objs.size (Obj.mapSeq (· ++ us.toArray))).push (seqObj "list" us.toArray 0)).get? (s.heap.objs.size + 1) = some (seqObj "list" us.toArray 0) := by rw [← e1]; exact Heap.get?_push_size _ rfl
  show wpAny _ _ _ _ _ { s with heap := ((s.heap.push (seqObj "list" #[] 0)).update s.heap.objs.size (Obj.mapSeq (· ++ us.toArray))).push (seqObj "list" us.toArray 0) }; rw [e1]
  exact wpAny_bind (wpAny_holding (wpAny_call_entry slot_list_sort ⟨_, oL, rfl⟩ entry_list_sort (list_sort_tree oL hi small fun out ns' a1 a2 a3 => ⟨_, rfl, wpAny_pure ⟨_, rfl, fin out ns' a1 a2 a3⟩⟩) (args_list_sort _)))
end
theorem call_sortedLT {X : Cx} : CallR X (.builtin "sorted") (fun xs H Q => ∃ (p : Addr) (ns : List Int), xs = [.ref p] ∧ (SqL X.K H p (ns.map V.int) ∨ SqT X.K H p (ns.map V.int)) ∧ ns.length < 64 ∧ ∀ q (ns' : List Int), ns'.Perm ns → ns'.Pairwise (· ≤ ·) → H q = none → Q (.ref q) (upd H q (.lst (ns'.map V.int)))) := by
  intro pins s σ H xs us Q I r h
  obtain ⟨p, ns, rfl, hq, hl, q⟩ := h
  rcases hq with hq | hq
  · exact call_sortedI pins s σ H _ us Q I r ⟨p, ns, rfl, hq, hl, q⟩
  obtain ⟨u, rfl, rx⟩ := vals1 r
  cases rx
  obtain ⟨its, rv, pl, hz⟩ := I.tuple hq
  have hi := ints_are rv
  have hlen : its.length = ns.length := by have := rv.length; rw [List.length_map] at this; exact this.symm
  refine sort_tup pl hi (by omega) fun out ns' a1 a2 a3 => ?_
  obtain ⟨e, he⟩ := sortedAll_at s.heap its out
  have hn : H (s.heap.objs.size + 1) = none := I.hok.fresh (Nat.le_succ _)
  have small : sizeLine = 16777216 := sizeLine_eq
  refine ⟨.ref (s.heap.objs.size + 1), _, I.laid (a := s.heap.objs.size + 1) (o := .lst (ns'.map V.int)) (t' := s.toks) (fun b u z => sortedAll_old z) (Nat.le_succ _) ⟨?_, out.toList, e, vals_of_ints a1, ?_⟩, rfl, q _ ns' a2 a3 hn⟩
  · rw [List.length_map, a2.length_eq]; omega
  · rw [he, Array.toArray_toList]
theorem o_isnotB {X : Cx} : OpR X (compareOp .IsNot) (fun x y H Q => ∃ b c, x = .bl b ∧ y = .bl c ∧ Q (.bl (!(b == c))) H) := by
  intro pins s σ H x y v u Q I rx ry h
  obtain ⟨b, c, rfl, rfl, q⟩ := h
  cases rx
  cases ry
  show wpAny _ _ (do return Value.bool (!(← isSame (.bool b) (.bool c)))) _ _ _
  refine wpAny_bind (wpAny_pure (wpAny_pure ?_))
  exact fin_bl I q (by cases b <;> cases c <;> rfl)
section
variable {P : Program} {w : World} {K : PySem.W.Frag} {mg : Str → Option Value} {base : Heap}
theorem calmG {k : Nat} {f : Addr} {fd : FuncData} {ps : List Str} {sp : Sp} (F : FnOk P w K mg base (CXG P w) k f fd ps sp) : FnOk P w K mg base CX0 k f fd ps (fun vs H Q _ => sp vs H Q fun _ _ _ => False) :=
  ⟨fun vs H Q E h => F.len vs H Q _ h, fun A outer s H args us vs Q E hr e0 hb hv hs => codeAny_mono (F.run A outer s H args us vs Q _ hr e0 hb hv hs) fun r s' hq => by
    cases r with
    | error e => obtain ⟨_, _, _, _, _, _, _, z⟩ := hq; exact z
    | ok fl => cases fl <;> exact hq⟩
end
end L2
set_option Elab.async false
set_option linter.all false
set_option maxRecDepth 100000
set_option maxHeartbeats 4000000
namespace My
open PySem L2 FrM
def mroIn' (K : PySem.W.Frag) (D C : Addr) : Bool := PySem.W.mroIn K D (.ref C) == some true
def asgE : Stmt → Expr
  | .Assign _ e _ => e
  | _ => dE
def top (i : Nat) : Stmt := PySem.Challenge.pw_fewspeak_k12_dice_walked.main.body.getD i (.Pass ⟨0, 0, 0, 0⟩)
abbrev s_NoThrow___init__ : Stmt := inClass (top 2) 0
abbrev s_is_whole : Stmt := top 4
abbrev s_Told___init__ : Stmt := inClass (top 7) 0
abbrev s_Told_is_told : Stmt := inClass (top 7) 1
abbrev s_Told_kept : Stmt := inClass (top 7) 2
abbrev s_Told_sides : Stmt := inClass (top 7) 3
abbrev s_Told_parts : Stmt := inClass (top 7) 4
abbrev s_Told_after : Stmt := inClass (top 7) 5
abbrev s_Die___init__ : Stmt := inClass (top 8) 0
abbrev s_Die_is_told : Stmt := inClass (top 8) 1
abbrev s_Die_kept : Stmt := inClass (top 8) 2
abbrev s_Die_sides : Stmt := inClass (top 8) 3
abbrev s_Die_parts : Stmt := inClass (top 8) 4
abbrev s_Die_after : Stmt := inClass (top 8) 5
abbrev s_Die_carried : Stmt := inClass (top 8) 6
abbrev s_carried_make : Stmt := top 9
abbrev s_can_be_thrown : Stmt := top 10
abbrev s_behind : Stmt := top 11
abbrev s_L_cell : Stmt := top 13
abbrev s_L_mix : Stmt := top 14
abbrev s_L_digits : Stmt := top 15
abbrev s_L_take : Stmt := top 16
abbrev s_L_whole : Stmt := top 17
abbrev s_L_kept : Stmt := top 18
abbrev s_L_tree : Stmt := top 19
abbrev s_L_make : Stmt := top 20
abbrev s_L_node : Stmt := top 21
abbrev s_L_refused : Stmt := top 22
abbrev s_L_is_told : Stmt := top 23
abbrev s_L_alike : Stmt := top 24
abbrev s_L_throws : Stmt := top 25
abbrev s_L_noted : Stmt := top 26
abbrev s_L_late : Stmt := top 27
abbrev s_law : Stmt := top 28
theorem sc_NoThrow___init__ : FnScope ["self", "place"] ["self", "place"] (defScope s_NoThrow___init__) := ⟨rfl, rfl, rfl, by decide +kernel, rfl, by decide +kernel, by decide +kernel⟩
theorem sc_is_whole : FnScope ["thing", "low", "high"] ["thing", "low", "high"] (defScope s_is_whole) := ⟨rfl, rfl, rfl, by decide +kernel, rfl, by decide +kernel, by decide +kernel⟩
theorem sc_Told___init__ : FnScope ["self", "kept"] ["self", "kept"] (defScope s_Told___init__) := ⟨rfl, rfl, rfl, by decide +kernel, rfl, by decide +kernel, by decide +kernel⟩
theorem sc_Told_is_told : FnScope ["self"] ["self"] (defScope s_Told_is_told) := ⟨rfl, rfl, rfl, by decide +kernel, rfl, by decide +kernel, by decide +kernel⟩
theorem sc_Told_kept : FnScope ["self"] ["self"] (defScope s_Told_kept) := ⟨rfl, rfl, rfl, by decide +kernel, rfl, by decide +kernel, by decide +kernel⟩
theorem sc_Told_sides : FnScope ["self"] ["self"] (defScope s_Told_sides) := ⟨rfl, rfl, rfl, by decide +kernel, rfl, by decide +kernel, by decide +kernel⟩
theorem sc_Told_parts : FnScope ["self"] ["self"] (defScope s_Told_parts) := ⟨rfl, rfl, rfl, by decide +kernel, rfl, by decide +kernel, by decide +kernel⟩
theorem sc_Told_after : FnScope ["self", "throw"] ["self", "throw"] (defScope s_Told_after) := ⟨rfl, rfl, rfl, by decide +kernel, rfl, by decide +kernel, by decide +kernel⟩
theorem sc_Die___init__ : FnScope ["self", "parts"] ["self", "parts"] (defScope s_Die___init__) := ⟨rfl, rfl, rfl, by decide +kernel, rfl, by decide +kernel, by decide +kernel⟩
theorem sc_Die_is_told : FnScope ["self"] ["self"] (defScope s_Die_is_told) := ⟨rfl, rfl, rfl, by decide +kernel, rfl, by decide +kernel, by decide +kernel⟩
theorem sc_Die_kept : FnScope ["self"] ["self"] (defScope s_Die_kept) := ⟨rfl, rfl, rfl, by decide +kernel, rfl, by decide +kernel, by decide +kernel⟩
theorem sc_Die_sides : FnScope ["self"] ["self"] (defScope s_Die_sides) := ⟨rfl, rfl, rfl, by decide +kernel, rfl, by decide +kernel, by decide +kernel⟩
theorem sc_Die_parts : FnScope ["self"] ["self"] (defScope s_Die_parts) := ⟨rfl, rfl, rfl, by decide +kernel, rfl, by decide +kernel, by decide +kernel⟩
theorem sc_Die_after : FnScope ["self", "throw", "number", "last", "many", "make"] ["self", "throw"] (defScope s_Die_after) := ⟨rfl, rfl, rfl, by decide +kernel, rfl, by decide +kernel, by decide +kernel⟩
theorem sc_Die_carried : FnScope ["self", "carry"] ["self", "carry"] (defScope s_Die_carried) := ⟨rfl, rfl, rfl, by decide +kernel, rfl, by decide +kernel, by decide +kernel⟩
abbrev le_carried_make_1 : Expr := (retE (stAt s_carried_make 0))
def ld_carried_make_1 : LamD := lamOf ((("carried_make" : Str) ++ ".<locals>.") ++ "<lambda>") le_carried_make_1
theorem sc_carried_make : FnScope ["make", "carry"] ["make", "carry"] (defScope s_carried_make) := ⟨rfl, rfl, rfl, by decide +kernel, rfl, by decide +kernel, by decide +kernel⟩
theorem sc_can_be_thrown : FnScope ["node", "throw"] ["node", "throw"] (defScope s_can_be_thrown) := ⟨rfl, rfl, rfl, by decide +kernel, rfl, by decide +kernel, by decide +kernel⟩
abbrev le_behind_1 : Expr := (argE (retE (stAt s_behind 1)) 0)
def ld_behind_1 : LamD := lamOf ((("behind" : Str) ++ ".<locals>.") ++ "<lambda>") le_behind_1
theorem sc_behind : FnScope ["node", "go"] ["node", "go"] (defScope s_behind) := ⟨rfl, rfl, rfl, by decide +kernel, rfl, by decide +kernel, by decide +kernel⟩
theorem sc_L_cell : FnScope ["_law_script", "_law_k"] ["_law_script", "_law_k"] (defScope s_L_cell) := ⟨rfl, rfl, rfl, by decide +kernel, rfl, by decide +kernel, by decide +kernel⟩
theorem sc_L_mix : FnScope ["_law_cell_here", "_law_k", "_law_number"] ["_law_cell_here", "_law_k"] (defScope s_L_mix) := ⟨rfl, rfl, rfl, by decide +kernel, rfl, by decide +kernel, by decide +kernel⟩
theorem sc_L_digits : FnScope ["_law_cell_here", "_law_number", "_law_k"] ["_law_cell_here"] (defScope s_L_digits) := ⟨rfl, rfl, rfl, by decide +kernel, rfl, by decide +kernel, by decide +kernel⟩
theorem sc_L_take : FnScope ["_law_state", "_law_many", "_law_digit"] ["_law_state", "_law_many"] (defScope s_L_take) := ⟨rfl, rfl, rfl, by decide +kernel, rfl, by decide +kernel, by decide +kernel⟩
theorem sc_L_whole : FnScope ["_law_found"] ["_law_found"] (defScope s_L_whole) := ⟨rfl, rfl, rfl, by decide +kernel, rfl, by decide +kernel, by decide +kernel⟩
theorem sc_L_kept : FnScope ["_law_state", "_law_first", "_law_step", "_law_places", "_law_bits"] ["_law_state"] (defScope s_L_kept) := ⟨rfl, rfl, rfl, by decide +kernel, rfl, by decide +kernel, by decide +kernel⟩
theorem sc_L_tree : FnScope ["_law_state", "_law_deep", "_law_parts", "_law_k", "_law_many"] ["_law_state", "_law_deep"] (defScope s_L_tree) := ⟨rfl, rfl, rfl, by decide +kernel, rfl, by decide +kernel, by decide +kernel⟩
abbrev le_L_make_1 : Expr := (retE (stAt s_L_make 0))
def ld_L_make_1 : LamD := lamOf ((("_law_make" : Str) ++ ".<locals>.") ++ "<lambda>") le_L_make_1
theorem sc_L_make : FnScope ["_law_tree_here"] ["_law_tree_here"] (defScope s_L_make) := ⟨rfl, rfl, rfl, by decide +kernel, rfl, by decide +kernel, by decide +kernel⟩
theorem sc_L_node : FnScope ["_law_tree_here", "_law_handed", "_law_node_here"] ["_law_tree_here"] (defScope s_L_node) := ⟨rfl, rfl, rfl, by decide +kernel, rfl, by decide +kernel, by decide +kernel⟩
theorem sc_L_refused : FnScope ["_law_node_here", "_law_throw", "_law_found", "e"] ["_law_node_here", "_law_throw"] (defScope s_L_refused) := ⟨rfl, rfl, rfl, by decide +kernel, rfl, by decide +kernel, by decide +kernel⟩
theorem sc_L_is_told : FnScope ["_law_node_here", "_law_tree_here"] ["_law_node_here", "_law_tree_here"] (defScope s_L_is_told) := ⟨rfl, rfl, rfl, by decide +kernel, rfl, by decide +kernel, by decide +kernel⟩
theorem sc_L_alike : FnScope ["_law_node_here", "_law_tree_here", "_law_deep", "_law_sides", "_law_found", "_law_k"] ["_law_node_here", "_law_tree_here", "_law_deep"] (defScope s_L_alike) := ⟨rfl, rfl, rfl, by decide +kernel, rfl, by decide +kernel, by decide +kernel⟩
theorem sc_L_throws : FnScope ["_law_node_here", "_law_tree_here", "_law_cell_here", "_law_before", "_law_many", "_law_part", "_law_throw", "_law_odd"] ["_law_node_here", "_law_tree_here", "_law_cell_here"] (defScope s_L_throws) := ⟨rfl, rfl, rfl, by decide +kernel, rfl, by decide +kernel, by decide +kernel⟩
def dd_L_noted_1 : DefD := defOf ((("_law_noted" : Str) ++ ".<locals>.") ++ "_law_asked") (stAt s_L_noted 0)
theorem sc_L_noted : FnScope ["_law_many", "_law_asked_here", "_law_asked"] ["_law_many", "_law_asked_here"] (defScope s_L_noted) := ⟨rfl, rfl, rfl, by decide +kernel, rfl, by decide +kernel, by decide +kernel⟩
abbrev le_L_late_1 : Expr := (argE (asgE (stAt s_L_late 6)) 1)
def ld_L_late_1 : LamD := lamOf ((("_law_late" : Str) ++ ".<locals>.") ++ "<lambda>") le_L_late_1
theorem sc_L_late : FnScope ["_law_cell_here", "_law_asked_here", "_law_sizes", "_law_node_here", "_law_ahead", "_law_k", "_law_further"] ["_law_cell_here"] (defScope s_L_late) := ⟨rfl, rfl, rfl, by decide +kernel, rfl, by decide +kernel, by decide +kernel⟩
theorem sc_law : FnScope ["_law_script", "_law_tree_here", "_law_node_here", "_law_cell_here", "_law_throw", "_law_many", "_law_part"] ["_law_script"] (defScope s_law) := ⟨rfl, rfl, rfl, by decide +kernel, rfl, by decide +kernel, by decide +kernel⟩
set_option genInjectivity false in
set_option genSizeOf false in
structure Ad where
  f_is_whole : Addr
  d_is_whole : FuncData
  f_carried_make : Addr
  d_carried_make : FuncData
  f_can_be_thrown : Addr
  d_can_be_thrown : FuncData
  f_behind : Addr
  d_behind : FuncData
  f_L_cell : Addr
  d_L_cell : FuncData
  f_L_mix : Addr
  d_L_mix : FuncData
  f_L_digits : Addr
  d_L_digits : FuncData
  f_L_take : Addr
  d_L_take : FuncData
  f_L_whole : Addr
  d_L_whole : FuncData
  f_L_kept : Addr
  d_L_kept : FuncData
  f_L_tree : Addr
  d_L_tree : FuncData
  f_L_make : Addr
  d_L_make : FuncData
  f_L_node : Addr
  d_L_node : FuncData
  f_L_refused : Addr
  d_L_refused : FuncData
  f_L_is_told : Addr
  d_L_is_told : FuncData
  f_L_alike : Addr
  d_L_alike : FuncData
  f_L_throws : Addr
  d_L_throws : FuncData
  f_L_noted : Addr
  d_L_noted : FuncData
  f_L_late : Addr
  d_L_late : FuncData
  f_law : Addr
  d_law : FuncData
  c_SpeakError : Addr
  c_NoThrow : Addr
  i_NoThrow : Addr
  e_NoThrow : FuncData
  c_Node : Addr
  c_Told : Addr
  i_Told : Addr
  e_Told : FuncData
  c_Die : Addr
  i_Die : Addr
  e_Die : FuncData
  x_Told_is_told : Addr
  y_Told_is_told : FuncData
  x_Die_is_told : Addr
  y_Die_is_told : FuncData
  x_Told_kept : Addr
  y_Told_kept : FuncData
  x_Die_kept : Addr
  y_Die_kept : FuncData
  x_Told_sides : Addr
  y_Told_sides : FuncData
  x_Die_sides : Addr
  y_Die_sides : FuncData
  x_Told_parts : Addr
  y_Told_parts : FuncData
  x_Die_parts : Addr
  y_Die_parts : FuncData
  x_Told_after : Addr
  y_Told_after : FuncData
  x_Die_after : Addr
  y_Die_after : FuncData
  x_Die_carried : Addr
  y_Die_carried : FuncData
  lc_L_noted : Addr
  lp_L_noted : Addr
  lc_behind : Addr
  lp_behind : Addr
  lc_L_late : Addr
  lp_L_late : Addr
  lc_L_make : Addr
  lp_L_make : Addr
  lc_carried_make : Addr
  lp_carried_make : Addr
abbrev ll_L_noted : List (Pos × Str) := [(defP (stAt s_L_noted 0), (("_law_noted" : Str) ++ ".<locals>.") ++ "_law_asked")]
theorem tp_L_noted : (ll_L_noted).Pairwise fun x y => ¬ (x.1.line = y.1.line ∧ x.1.col = y.1.col) := by decide +kernel
abbrev ll_behind : List (Pos × Str) := [(lamP le_behind_1, ((("behind" : Str) ++ ".<locals>.") ++ "<lambda>"))]
theorem tp_behind : (ll_behind).Pairwise fun x y => ¬ (x.1.line = y.1.line ∧ x.1.col = y.1.col) := by decide +kernel
abbrev ll_L_late : List (Pos × Str) := [(lamP le_L_late_1, ((("_law_late" : Str) ++ ".<locals>.") ++ "<lambda>"))]
abbrev ll_L_make : List (Pos × Str) := [(lamP le_L_make_1, ((("_law_make" : Str) ++ ".<locals>.") ++ "<lambda>"))]
theorem tp_L_make : (ll_L_make).Pairwise fun x y => ¬ (x.1.line = y.1.line ∧ x.1.col = y.1.col) := by decide +kernel
abbrev ll_carried_make : List (Pos × Str) := [(lamP le_carried_make_1, ((("carried_make" : Str) ++ ".<locals>.") ++ "<lambda>"))]
theorem tp_carried_make : (ll_carried_make).Pairwise fun x y => ¬ (x.1.line = y.1.line ∧ x.1.col = y.1.col) := by decide +kernel
def tabsA (a : Ad) : Tabs := [(a.lp_L_noted, ll_L_noted), (a.lp_behind, ll_behind), (a.lp_L_late, ll_L_late), (a.lp_L_make, ll_L_make), (a.lp_carried_make, ll_carried_make)]
def tabs (a : Ad) : Tabs := [(a.lp_L_noted, ll_L_noted), (a.lp_behind, ll_behind), (a.lp_L_make, ll_L_make), (a.lp_carried_make, ll_carried_make)]
theorem tb_L_noted (a : Ad) : (a.lp_L_noted, ll_L_noted) ∈ tabs a := (.head _)
theorem tb_behind (a : Ad) : (a.lp_behind, ll_behind) ∈ tabs a := (.tail _ (.head _))
theorem tb_L_make (a : Ad) : (a.lp_L_make, ll_L_make) ∈ tabs a := (.tail _ (.tail _ (.head _)))
theorem tb_carried_make (a : Ad) : (a.lp_carried_make, ll_carried_make) ∈ tabs a := (.tail _ (.tail _ (.tail _ (.head _))))
structure Txt (K : PySem.W.Frag) (mg : Str → Option Value) (a : Ad) : Prop where
  lcd_L_noted : a.d_L_noted.code = .ref a.lc_L_noted
  lch_L_noted : PySem.W.codeHdIn K a.lc_L_noted a.lp_L_noted = true
  lcd_behind : a.d_behind.code = .ref a.lc_behind
  lch_behind : PySem.W.codeHdIn K a.lc_behind a.lp_behind = true
  lcd_L_late : a.d_L_late.code = .ref a.lc_L_late
  lch_L_late : PySem.W.codeHdIn K a.lc_L_late a.lp_L_late = true
  lcd_L_make : a.d_L_make.code = .ref a.lc_L_make
  lch_L_make : PySem.W.codeHdIn K a.lc_L_make a.lp_L_make = true
  lcd_carried_make : a.d_carried_make.code = .ref a.lc_carried_make
  lch_carried_make : PySem.W.codeHdIn K a.lc_carried_make a.lp_carried_make = true
  tnd : ((tabs a).map (·.1)).Nodup
  tndA : ((tabsA a).map (·.1)).Nodup
  F_is_whole : Fun K "is_whole" "is_whole" s_is_whole a.f_is_whole a.d_is_whole
  B_is_whole : Binds K a.d_is_whole ["thing", "low", "high"] []
  m_is_whole : mg "is_whole" = some (.ref a.f_is_whole)
  F_carried_make : Fun K "carried_make" "carried_make" s_carried_make a.f_carried_make a.d_carried_make
  B_carried_make : Binds K a.d_carried_make ["make", "carry"] []
  m_carried_make : mg "carried_make" = some (.ref a.f_carried_make)
  F_can_be_thrown : Fun K "can_be_thrown" "can_be_thrown" s_can_be_thrown a.f_can_be_thrown a.d_can_be_thrown
  B_can_be_thrown : Binds K a.d_can_be_thrown ["node", "throw"] []
  m_can_be_thrown : mg "can_be_thrown" = some (.ref a.f_can_be_thrown)
  F_behind : Fun K "behind" "behind" s_behind a.f_behind a.d_behind
  B_behind : Binds K a.d_behind ["node", "go"] []
  m_behind : mg "behind" = some (.ref a.f_behind)
  F_L_cell : Fun K "_law_cell" "_law_cell" s_L_cell a.f_L_cell a.d_L_cell
  B_L_cell : Binds K a.d_L_cell ["_law_script", "_law_k"] []
  m_L_cell : mg "_law_cell" = some (.ref a.f_L_cell)
  F_L_mix : Fun K "_law_mix" "_law_mix" s_L_mix a.f_L_mix a.d_L_mix
  B_L_mix : Binds K a.d_L_mix ["_law_cell_here", "_law_k"] []
  m_L_mix : mg "_law_mix" = some (.ref a.f_L_mix)
  F_L_digits : Fun K "_law_digits" "_law_digits" s_L_digits a.f_L_digits a.d_L_digits
  B_L_digits : Binds K a.d_L_digits ["_law_cell_here"] []
  m_L_digits : mg "_law_digits" = some (.ref a.f_L_digits)
  F_L_take : Fun K "_law_take" "_law_take" s_L_take a.f_L_take a.d_L_take
  B_L_take : Binds K a.d_L_take ["_law_state", "_law_many"] []
  m_L_take : mg "_law_take" = some (.ref a.f_L_take)
  F_L_whole : Fun K "_law_whole" "_law_whole" s_L_whole a.f_L_whole a.d_L_whole
  B_L_whole : Binds K a.d_L_whole ["_law_found"] []
  m_L_whole : mg "_law_whole" = some (.ref a.f_L_whole)
  F_L_kept : Fun K "_law_kept" "_law_kept" s_L_kept a.f_L_kept a.d_L_kept
  B_L_kept : Binds K a.d_L_kept ["_law_state"] []
  m_L_kept : mg "_law_kept" = some (.ref a.f_L_kept)
  F_L_tree : Fun K "_law_tree" "_law_tree" s_L_tree a.f_L_tree a.d_L_tree
  B_L_tree : Binds K a.d_L_tree ["_law_state", "_law_deep"] []
  m_L_tree : mg "_law_tree" = some (.ref a.f_L_tree)
  F_L_make : Fun K "_law_make" "_law_make" s_L_make a.f_L_make a.d_L_make
  B_L_make : Binds K a.d_L_make ["_law_tree_here"] []
  m_L_make : mg "_law_make" = some (.ref a.f_L_make)
  F_L_node : Fun K "_law_node" "_law_node" s_L_node a.f_L_node a.d_L_node
  B_L_node : Binds K a.d_L_node ["_law_tree_here"] []
  m_L_node : mg "_law_node" = some (.ref a.f_L_node)
  F_L_refused : Fun K "_law_refused" "_law_refused" s_L_refused a.f_L_refused a.d_L_refused
  B_L_refused : Binds K a.d_L_refused ["_law_node_here", "_law_throw"] []
  m_L_refused : mg "_law_refused" = some (.ref a.f_L_refused)
  F_L_is_told : Fun K "_law_is_told" "_law_is_told" s_L_is_told a.f_L_is_told a.d_L_is_told
  B_L_is_told : Binds K a.d_L_is_told ["_law_node_here", "_law_tree_here"] []
  m_L_is_told : mg "_law_is_told" = some (.ref a.f_L_is_told)
  F_L_alike : Fun K "_law_alike" "_law_alike" s_L_alike a.f_L_alike a.d_L_alike
  B_L_alike : Binds K a.d_L_alike ["_law_node_here", "_law_tree_here", "_law_deep"] []
  m_L_alike : mg "_law_alike" = some (.ref a.f_L_alike)
  F_L_throws : Fun K "_law_throws" "_law_throws" s_L_throws a.f_L_throws a.d_L_throws
  B_L_throws : Binds K a.d_L_throws ["_law_node_here", "_law_tree_here", "_law_cell_here"] []
  m_L_throws : mg "_law_throws" = some (.ref a.f_L_throws)
  F_L_noted : Fun K "_law_noted" "_law_noted" s_L_noted a.f_L_noted a.d_L_noted
  B_L_noted : Binds K a.d_L_noted ["_law_many", "_law_asked_here"] []
  m_L_noted : mg "_law_noted" = some (.ref a.f_L_noted)
  F_L_late : Fun K "_law_late" "_law_late" s_L_late a.f_L_late a.d_L_late
  B_L_late : Binds K a.d_L_late ["_law_cell_here"] []
  m_L_late : mg "_law_late" = some (.ref a.f_L_late)
  F_law : Fun K "law" "law" s_law a.f_law a.d_law
  B_law : Binds K a.d_law ["_law_script"] []
  m_law : mg "law" = some (.ref a.f_law)
  mc_SpeakError : mg "SpeakError" = some (.ref a.c_SpeakError)
  g_SpeakError : ∃ u, mg "SpeakError" = some u ∧ RelV (.ref a.c_SpeakError) u
  kc_SpeakError : PySem.W.keepIn K (.ref a.c_SpeakError) = true
  xc_SpeakError : XCls K a.c_SpeakError
  xh_SpeakError : XHd K a.c_SpeakError
  xi_SpeakError : xIn K a.c_SpeakError none = true
  mc_NoThrow : mg "NoThrow" = some (.ref a.c_NoThrow)
  g_NoThrow : ∃ u, mg "NoThrow" = some u ∧ RelV (.ref a.c_NoThrow) u
  kc_NoThrow : PySem.W.keepIn K (.ref a.c_NoThrow) = true
  xc_NoThrow : XCls K a.c_NoThrow
  xh_NoThrow : XHd K a.c_NoThrow
  xi_NoThrow : xIn K a.c_NoThrow (some (.ref a.i_NoThrow)) = true
  fn_NoThrow : PySem.W.isFn K (.ref a.i_NoThrow) = true
  Fi_NoThrow : Fun K "__init__" "NoThrow.__init__" s_NoThrow___init__ a.i_NoThrow a.e_NoThrow
  Bi_NoThrow : Binds K a.e_NoThrow ["self", "place"] []
  sx_NoThrow_place : ∃ cd, XSet K a.c_NoThrow "place" cd
  mc_Node : mg "Node" = some (.ref a.c_Node)
  g_Node : ∃ u, mg "Node" = some u ∧ RelV (.ref a.c_Node) u
  cl_Node : Cls K a.c_Node
  ty_Node : ∀ H x dx fs, H x = some (.ins a.c_Node dx fs) → TyOf K H (.ref x) (.ref a.c_Node)
  mc_Told : mg "Told" = some (.ref a.c_Told)
  g_Told : ∃ u, mg "Told" = some u ∧ RelV (.ref a.c_Told) u
  cl_Told : Cls K a.c_Told
  ty_Told : ∀ H x dx fs, H x = some (.ins a.c_Told dx fs) → TyOf K H (.ref x) (.ref a.c_Told)
  mk_Told : Mk K a.c_Told a.i_Told
  Fi_Told : Fun K "__init__" "Told.__init__" s_Told___init__ a.i_Told a.e_Told
  Bi_Told : Binds K a.e_Told ["self", "kept"] []
  na_Told_rising : NoAttr K a.c_Told "rising"
  mt_Told_is_told : Meth K a.c_Told "is_told" a.x_Told_is_told
  mt_Told_kept : Meth K a.c_Told "kept" a.x_Told_kept
  mt_Told_sides : Meth K a.c_Told "sides" a.x_Told_sides
  mt_Told_parts : Meth K a.c_Told "parts" a.x_Told_parts
  mt_Told_after : Meth K a.c_Told "after" a.x_Told_after
  mc_Die : mg "Die" = some (.ref a.c_Die)
  g_Die : ∃ u, mg "Die" = some u ∧ RelV (.ref a.c_Die) u
  cl_Die : Cls K a.c_Die
  ty_Die : ∀ H x dx fs, H x = some (.ins a.c_Die dx fs) → TyOf K H (.ref x) (.ref a.c_Die)
  mk_Die : Mk K a.c_Die a.i_Die
  Fi_Die : Fun K "__init__" "Die.__init__" s_Die___init__ a.i_Die a.e_Die
  Bi_Die : Binds K a.e_Die ["self", "parts"] []
  na_Die_makes : NoAttr K a.c_Die "makes"
  mt_Die_is_told : Meth K a.c_Die "is_told" a.x_Die_is_told
  mt_Die_kept : Meth K a.c_Die "kept" a.x_Die_kept
  mt_Die_sides : Meth K a.c_Die "sides" a.x_Die_sides
  mt_Die_parts : Meth K a.c_Die "parts" a.x_Die_parts
  mt_Die_after : Meth K a.c_Die "after" a.x_Die_after
  mt_Die_carried : Meth K a.c_Die "carried" a.x_Die_carried
  F_Told_is_told : Fun K "is_told" "Told.is_told" s_Told_is_told a.x_Told_is_told a.y_Told_is_told
  B_Told_is_told : Binds K a.y_Told_is_told ["self"] []
  F_Die_is_told : Fun K "is_told" "Die.is_told" s_Die_is_told a.x_Die_is_told a.y_Die_is_told
  B_Die_is_told : Binds K a.y_Die_is_told ["self"] []
  F_Told_kept : Fun K "kept" "Told.kept" s_Told_kept a.x_Told_kept a.y_Told_kept
  B_Told_kept : Binds K a.y_Told_kept ["self"] []
  F_Die_kept : Fun K "kept" "Die.kept" s_Die_kept a.x_Die_kept a.y_Die_kept
  B_Die_kept : Binds K a.y_Die_kept ["self"] []
  F_Told_sides : Fun K "sides" "Told.sides" s_Told_sides a.x_Told_sides a.y_Told_sides
  B_Told_sides : Binds K a.y_Told_sides ["self"] []
  F_Die_sides : Fun K "sides" "Die.sides" s_Die_sides a.x_Die_sides a.y_Die_sides
  B_Die_sides : Binds K a.y_Die_sides ["self"] []
  F_Told_parts : Fun K "parts" "Told.parts" s_Told_parts a.x_Told_parts a.y_Told_parts
  B_Told_parts : Binds K a.y_Told_parts ["self"] []
  F_Die_parts : Fun K "parts" "Die.parts" s_Die_parts a.x_Die_parts a.y_Die_parts
  B_Die_parts : Binds K a.y_Die_parts ["self"] []
  F_Told_after : Fun K "after" "Told.after" s_Told_after a.x_Told_after a.y_Told_after
  B_Told_after : Binds K a.y_Told_after ["self", "throw"] []
  F_Die_after : Fun K "after" "Die.after" s_Die_after a.x_Die_after a.y_Die_after
  B_Die_after : Binds K a.y_Die_after ["self", "throw"] []
  F_Die_carried : Fun K "carried" "Die.carried" s_Die_carried a.x_Die_carried a.y_Die_carried
  B_Die_carried : Binds K a.y_Die_carried ["self", "carry"] []
  tn : mroIn' K a.c_NoThrow a.c_NoThrow = true
  ktn : PySem.W.kitOne K (.ref a.c_Told) (.ref a.c_Node) = some true
  kdn : PySem.W.kitOne K (.ref a.c_Die) (.ref a.c_Node) = some true
  ktt : PySem.W.kitOne K (.ref a.c_Told) (.ref a.c_Told) = some true
  ktd : PySem.W.kitOne K (.ref a.c_Told) (.ref a.c_Die) = some false
  kdd : PySem.W.kitOne K (.ref a.c_Die) (.ref a.c_Die) = some true
  z_abs : mg "abs" = none
  z_bool : mg "bool" = none
  z_int : mg "int" = none
  z_isinstance : mg "isinstance" = none
  z_len : mg "len" = none
  z_list : mg "list" = none
  z_range : mg "range" = none
  z_sorted : mg "sorted" = none
  z_sum : mg "sum" = none
  z_tuple : mg "tuple" = none
  bl : ∀ (s : Shared) (u : Value), BindsTo s a.d_law ⟨[u], []⟩ [("_law_script", u)]
def spLaw (K : PySem.W.Frag) (ts : List Addr) : Sp := fun vs H Q _ => ∃ (p : Addr) (ns : List Int), vs = [.ref p] ∧ SqL K H p (ns.map V.int) ∧ ns.length ≤ 63 ∧ (∀ P ∈ ts, H P = some (.tbl #[])) ∧ ∀ H', Q (.bl true) H'
theorem law_start {K : PySem.W.Frag} {ts : List Addr} {H : Hp} {a : Addr} {ns : List Int} (hl : ns.length ≤ 63) (hT : ∀ P ∈ ts, H P = some (.tbl #[])) (hS : SqL K H a (ns.map V.int)) : spLaw K ts [.ref a] H (fun v _ => v = .bl true) fun _ _ _ => False := ⟨a, ns, rfl, hS, hl, hT, fun _ => rfl⟩
def cellC (ns : List Int) (k : Int) : Int := if k < (ns.length : Int) then ns.getD k.toNat 0 else 7919 * k + 13
def spCell (K : PySem.W.Frag) : Sp := fun vs H Q _ => ∃ (p : Addr) (ns : List Int) (k : Int), vs = [.ref p, .int k] ∧ SqL K H p (ns.map V.int) ∧ ns.length ≤ 63 ∧ 0 ≤ k ∧ k ≤ 1000 ∧ Q (.int (cellC ns k)) H
def spMix : Sp := fun vs H Q _ => ∃ (c k : Int), vs = [.int c, .int k] ∧ 0 ≤ k ∧ k ≤ 1000 ∧ ∀ r : Int, 0 ≤ r → Q (.int r) H
def isI : V → Bool
  | .int _ => true
  | _ => false
def isThr : V → Bool
  | .int _ => true
  | .bl _ => true
  | .non => true
  | .str z => PyData.strOk z
  | _ => false
def spWhole : Sp := fun vs H Q _ => ∃ x, vs = [x] ∧ isThr x = true ∧ Q (.bl (isI x)) H
def spNo : Sp := fun _ _ _ _ => False
def spDigits : Sp := fun vs H Q _ => ∃ (c : Int), vs = [.int c] ∧ ∀ p (n : Int), H p = none → Q (.ref p) (upd H p (.lst [.int n]))
def spTake : Sp := fun vs H Q _ => ∃ (p : Addr) (n m : Int), vs = [.ref p, .int m] ∧ H p = some (.lst [.int n]) ∧ 0 < m ∧ m ≤ 1000000000000 ∧ ∀ (r n' : Int), 0 ≤ r → r < m → Q (.int r) (upd H p (.lst [.int n']))
def SameP (p : Addr) (H H' : Hp) : Prop := ∀ b o, b ≠ p → H b = some o → H' b = some o
theorem SameP.trans {p : Addr} {H H' H2 : Hp} (s : SameP p H H') (t : SameP p H' H2) : SameP p H H2 := fun b o n e => t b o n (s b o n e)
theorem SameP.of {p : Addr} {H H' : Hp} (s : Same H H') : SameP p H H' := fun b o _ e => s b o e
theorem SameP.put {p : Addr} {H : Hp} {o : HO} : SameP p H (upd H p o) := fun b o' n e => by rw [upd_ne n]; exact e
def spKept : Sp := fun vs H Q _ => ∃ (p : Addr) (n : Int), vs = [.ref p] ∧ H p = some (.lst [.int n]) ∧ ∀ H' q (n' : Int) (ns : List Int), SameP p H H' → H' p = some (.lst [.int n']) → H q = none → H' q = some (.lst (ns.map V.int)) → ns.length ≤ 6 → Q (.ref q) H'
section
variable {P : Program} {w : World} {K : PySem.W.Frag} {mg : Str → Option Value} {base : Heap} {a : Ad}
theorem ok_no {k : Nat} {f : Addr} {fd : FuncData} {ps : List Str} : FnOk P w K mg base CX0 k f fd ps spNo := ⟨fun _ _ _ _ h => h.elim, fun _ _ _ _ _ _ _ _ _ _ _ _ _ h => h.elim⟩
theorem ok_cell (T : Txt K mg a) : FnOk P w K mg base CX0 1 a.f_L_cell a.d_L_cell ["_law_script", "_law_k"] (spCell K) := by
  refine T.F_L_cell.ok sc_L_cell (fun vs H Q E h => ?_) (fun cdv A outer s H vs Q E hr h => ?_)
  · obtain ⟨p, ns, k, rfl, _⟩ := h; rfl
  · obtain ⟨p, ns, k, rfl, hS, hl, h0, h1, q⟩ := h
    refine ⟨_, (pss_cons (ps_if (t_cmp o_lt (vr 1) (pe_callB call_lenM rfl T.z_len bt_len (pa_cons (vr 0) pa_nil)) (nomark _)) (pss_one (ps_ret (pe_ix ix_seq (vr 0) (vr 1) (fun _ _ => rfl)))) pss_nil) (pss_one (ps_ret (pe_op o_add (pe_op o_mulB pe_int (vr 1)) pe_int)))), ?_⟩
    refine ⟨ns.map V.int, .inl hS, ?_⟩
    rw [List.length_map]
    unfold cellC at q
    refine ite2 (fun c => ?_) (fun c => ?_)
    · have c' : k < (ns.length : Int) := of_decide_eq_true c
      rw [if_pos c'] at q
      refine .inl ⟨p, _, k, .int (ns.getD k.toNat 0), rfl, rfl, hS, ?_, q⟩
      have e : ((k.toNat : Nat) : Int) = k := by omega
      rw [← e]
      refine atI_nat ?_
      have hk : k.toNat < ns.length := by omega
      rw [e]
      simp [List.getElem?_map, List.getD, hk]
    · have c' : ¬ k < (ns.length : Int) := fun z => c (decide_eq_true z)
      rw [if_neg c'] at q
      exact ⟨clB, q⟩
theorem ok_mix (T : Txt K mg a) : FnOk P w K mg base CX0 1 a.f_L_mix a.d_L_mix ["_law_cell_here", "_law_k"] spMix := by
  refine T.F_L_mix.ok sc_L_mix (fun vs H Q E h => ?_) (fun cdv A outer s H vs Q E hr h => ?_)
  · obtain ⟨c, k, rfl, _⟩ := h; rfl
  · obtain ⟨c, k, rfl, h0, h1, q⟩ := h
    refine ⟨_, (pss_cons (ps_set (i := 2) sc_L_mix.nd rfl (Or.inl rfl) (pe_op o_mod (pe_op o_mulB (pe_op o_add (vr 0) (pe_op o_mulB pe_int (vr 1))) pe_int) pe_int)) (pss_cons (ps_set (i := 2) sc_L_mix.nd rfl (Or.inl rfl) (pe_op o_mod (pe_op o_mulB (vr 2) (vr 2)) pe_int)) (pss_one (ps_ret (pe_op o_mod (pe_op o_add (pe_op o_add (pe_op o_mulB (vr 2) (vr 2)) (pe_op o_mulB pe_int (vr 2))) (vr 1)) pe_int))))), ?_⟩
    exact ⟨clB, crB, cp, clB (by omega) (by omega), cp, clB (by omega) (by omega), clB, cp, q _ (by omega)⟩
theorem ok_digits (T : Txt K mg a) : FnOk P w K mg base CX0 2 a.f_L_digits a.d_L_digits ["_law_cell_here"] spDigits := by
  have G_L_mix : FnOk P w K mg base CX0 1 _ _ _ spMix := ok_mix T
  refine T.F_L_digits.ok sc_L_digits (fun vs H Q E h => ?_) (fun cdv A outer s H vs Q E hr h => ?_)
  · obtain ⟨c, rfl, _⟩ := h; rfl
  · obtain ⟨c, rfl, q⟩ := h
    refine ⟨_, (pss_cons (ps_if (PW.pt (pw_and (t_cmp o_eq (pe_op o_mod (vr 0) pe_int) pe_int (nomark _)) (pw_and1 (t_cmp o_gt (pe_callB call_abs rfl T.z_abs bt_abs (pa_cons (vr 0) pa_nil)) (pe_op o_pow pe_int pe_int) (nomark _))))) (pss_one (ps_ret (pe_lst (pa_cons (pe_op o_fdivB (vr 0) pe_int) pa_nil)))) pss_nil) (pss_cons (ps_set (i := 1) sc_L_digits.nd rfl (Or.inl rfl) pe_int) (pss_cons (ps_for PassesOwn.never rfl (pi_range1 rfl T.z_range (pa_cons pe_int pa_nil)) (pg_name (i := 2) sc_L_digits.nd rfl (Or.inl rfl)) (pss_one (ps_set (i := 1) sc_L_digits.nd rfl (Or.inl rfl) (pe_op o_add (pe_op o_mulB (vr 1) pe_int) (pe_call G_L_mix hr rfl T.m_L_mix T.F_L_mix.kp T.B_L_mix .nil pass0 (pa_cons (vr 0) (pa_cons (vr 2) pa_nil))))))) (pss_one (ps_ret (pe_lst (pa_cons (vr 1) pa_nil))))))), ?_⟩
    have small : sizeLine = 16777216 := sizeLine_eq
    have fin : ∀ n : Int, ([V.int n] : List V).length ≤ sizeLine := fun n => (by decide : 1 ≤ sizeLine)
    refine ⟨cp, ifC (fun _ => ?_) fun _ => ?_⟩
    · refine ⟨c, rfl, cw, ifC (fun _ => ?_) fun _ => ?_⟩
      · exact ⟨cdB (by decide) (show Bt 40 2 by unfold Bt; decide), fin _, fun p hp => q p _ hp⟩
      · refine ⟨24, rfl, by omega, by omega, ?_⟩
        refine for_range (fun i σ H' => H' = H ∧ ∃ (n : Int) (x : Option V), σ = [some (.int c), some (.int n), x]) ⟨rfl, 0, none, rfl⟩ ?_ ?_
        · rintro i σ H' hi ⟨rfl, n, x, rfl⟩
          exact ⟨crB, c, _, rfl, by omega, by omega, fun r r0 => ⟨rfl, _, _, rfl⟩⟩
        · rintro σ H' ⟨rfl, n, x, rfl⟩
          exact ⟨fin _, fun p hp => q p _ hp⟩
    · refine ⟨24, rfl, by omega, by omega, ?_⟩
      refine for_range (fun i σ H' => H' = H ∧ ∃ (n : Int) (x : Option V), σ = [some (.int c), some (.int n), x]) ⟨rfl, 0, none, rfl⟩ ?_ ?_
      · rintro i σ H' hi ⟨rfl, n, x, rfl⟩
        exact ⟨crB, c, _, rfl, by omega, by omega, fun r r0 => ⟨rfl, _, _, rfl⟩⟩
      · rintro σ H' ⟨rfl, n, x, rfl⟩
        exact ⟨fin _, fun p hp => q p _ hp⟩
theorem ok_take (T : Txt K mg a) : FnOk P w K mg base CX0 1 a.f_L_take a.d_L_take ["_law_state", "_law_many"] spTake := by
  refine T.F_L_take.ok sc_L_take (fun vs H Q E h => ?_) (fun cdv A outer s H vs Q E hr h => ?_)
  · obtain ⟨p, n, m, rfl, _⟩ := h; rfl
  · obtain ⟨p, n, m, rfl, hp, m0, m1, q⟩ := h
    refine ⟨_, (pss_cons (ps_set (i := 2) sc_L_take.nd rfl (Or.inl rfl) (pe_op o_mod (pe_ix ix_seq (vr 0) pe_int (fun _ _ => rfl)) (vr 1))) (pss_cons (ps_asg (pe_op o_fdivB (pe_ix ix_seq (vr 0) pe_int (fun _ _ => rfl)) (vr 1)) (pg_sub (vr 0) pe_int set_list)) (pss_one (ps_ret (vr 2))))), ?_⟩
    refine .inl ⟨p, _, _, _, rfl, rfl, SqL.of hp, atI_cons 0 rfl rfl, cp (by omega), ?_⟩
    refine .inl ⟨p, _, _, _, rfl, rfl, SqL.of hp, atI_cons 0 rfl rfl, cdB (by omega) (show Bt 40 m by unfold Bt; omega), ?_⟩
    refine ⟨p, _, _, 0, rfl, rfl, hp, rfl, ?_⟩
    exact q _ _ (Int.emod_nonneg _ (by omega)) (Int.emod_lt_of_pos _ m0)
theorem ok_kept (T : Txt K mg a) : FnOk P w K mg base CX0 2 a.f_L_kept a.d_L_kept ["_law_state"] spKept := by
  have G_L_take : FnOk P w K mg base CX0 1 _ _ _ spTake := ok_take T
  refine T.F_L_kept.ok sc_L_kept (fun vs H Q E h => ?_) (fun cdv A outer s H vs Q E hr h => ?_)
  · obtain ⟨p, n, rfl, _⟩ := h; rfl
  · obtain ⟨p, n, rfl, hp, q⟩ := h
    refine ⟨_, (psq_out (psq_cons (pst_of (ps_set (i := 1) sc_L_kept.nd rfl (Or.inr rfl) (pe_call G_L_take hr rfl T.m_L_take T.F_L_take.kp T.B_L_take .nil pass0 (pa_cons (vr 0) (pa_cons pe_int pa_nil))))) (psq_cons (pst_set (i := 2) sc_L_kept.nd rfl (Or.inr rfl) (peq_ix ix_seq (peq_lst (paq_cons pe_int (paq_cons pe_int (paq_cons pe_int (paq_cons pe_int (paq_cons pe_int (paq_cons pe_int (paq_cons pe_int (paq_cons pe_int (paq_cons pe_int (paq_cons pe_int paq_nil))))))))))) (pe_call G_L_take hr rfl T.m_L_take T.F_L_take.kp T.B_L_take .nil pass0 (pa_cons (vr 0) (pa_cons pe_int pa_nil))) (fun _ _ => rfl))) (psq_cons (pst_of (ps_set (i := 3) sc_L_kept.nd rfl (Or.inr rfl) (pe_comp rfl (N := ["_law_k", "_law_first", "_law_step"]) (ix := [none, some 1, some 2]) ⟨rfl, rfl, rfl, rfl, ⟨rfl, rfl, rfl, ⟨rfl, rfl, rfl, trivial⟩⟩⟩ (pi_range1 rfl T.z_range (pa_cons pe_int pa_nil)) ⟨fun C s H fp => pg_name (i := 0) (show List.Nodup (["_law_k", "_law_first", "_law_step"] : List Str) by decide +kernel) rfl (Or.inl rfl), fun C s H fp => pts_nil, fun C s H fp => (pe_op o_mod (pe_op o_add (vr 1) (pe_op o_mulB (vr 2) (vr 0))) pe_int)⟩))) (psq_cons (pst_of (ps_set (i := 4) sc_L_kept.nd rfl (Or.inr rfl) (pe_call G_L_take hr rfl T.m_L_take T.F_L_take.kp T.B_L_take .nil pass0 (pa_cons (vr 0) (pa_cons pe_int pa_nil))))) (psq_one (pst_of (ps_ret (pe_comp rfl (N := ["_law_k", "_law_places", "_law_bits"]) (ix := [none, some 3, some 4]) ⟨rfl, rfl, rfl, rfl, ⟨rfl, rfl, rfl, ⟨rfl, rfl, rfl, trivial⟩⟩⟩ (pi_range1 rfl T.z_range (pa_cons pe_int pa_nil)) ⟨fun C s H fp => pg_name (i := 0) (show List.Nodup (["_law_k", "_law_places", "_law_bits"] : List Str) by decide +kernel) rfl (Or.inl rfl), fun C s H fp => pts_one (t_cmp o_eq (pe_op o_and (pe_op o_shr (vr 2) (vr 0)) pe_int) pe_int (nomark _)), fun C s H fp => (pe_ix (ix_seqK (K := K) rfl) (vr 1) (vr 0) (fun _ _ => rfl))⟩))))))))), ?_⟩
    have small : sizeLine = 16777216 := sizeLine_eq
    refine ⟨p, n, 100, rfl, hp, by omega, by omega, fun r1 n1 r10 r11 => ?_⟩
    refine ⟨by show 10 ≤ sizeLine; decide, fun l1 f1 => ?_⟩
    have n1' : l1 ≠ p := fun z => by rw [z, upd_same] at f1; cases f1
    have z1 : SameP p H (upd (upd H p (.lst [.int n1])) l1 (.lst [.int 1, .int 3, .int 7, .int 9, .int 11, .int 13, .int 17, .int 19, .int 33, .int 77])) := SameP.put.trans (SameP.of (Same.new f1))
    have e1 : (upd (upd H p (.lst [.int n1])) l1 (.lst [.int 1, .int 3, .int 7, .int 9, .int 11, .int 13, .int 17, .int 19, .int 33, .int 77])) p = some (.lst [.int n1]) := by rw [upd_ne (Ne.symm n1')]; exact upd_same
    have g1 : (upd (upd H p (.lst [.int n1])) l1 (.lst [.int 1, .int 3, .int 7, .int 9, .int 11, .int 13, .int 17, .int 19, .int 33, .int 77])) l1 = some (.lst [.int 1, .int 3, .int 7, .int 9, .int 11, .int 13, .int 17, .int 19, .int 33, .int 77]) := upd_same
    refine ⟨p, n1, 10, rfl, e1, by omega, by omega, fun r2 n2 r20 r21 => ?_⟩
    obtain ⟨v, hv, ev⟩ := atI_ex (xs := ([1, 3, 7, 9, 11, 13, 17, 19, 33, 77] : List Int).map V.int) r20 r21
    obtain ⟨st, hst, rfl⟩ := List.mem_map.mp hv
    have hst' : 0 ≤ st ∧ st ≤ 77 := by
      simp only [List.mem_cons, List.not_mem_nil, or_false] at hst
      omega
    have z2 := z1.trans (SameP.put (o := .lst [.int n2]))
    have e2 : (upd (upd (upd H p (.lst [.int n1])) l1 (.lst [.int 1, .int 3, .int 7, .int 9, .int 11, .int 13, .int 17, .int 19, .int 33, .int 77])) p (.lst [.int n2])) p = some (.lst [.int n2]) := upd_same
    have g2 : (upd (upd (upd H p (.lst [.int n1])) l1 (.lst [.int 1, .int 3, .int 7, .int 9, .int 11, .int 13, .int 17, .int 19, .int 33, .int 77])) p (.lst [.int n2])) l1 = some (.lst [.int 1, .int 3, .int 7, .int 9, .int 11, .int 13, .int 17, .int 19, .int 33, .int 77]) := by rw [upd_ne n1']; exact upd_same
    refine .inl ⟨l1, ([1, 3, 7, 9, 11, 13, 17, 19, 33, 77] : List Int).map V.int, r2, .int st, rfl, rfl, SqL.of g2, ev, ?_⟩
    generalize upd (upd (upd H p (.lst [.int n1])) l1 (.lst [.int 1, .int 3, .int 7, .int 9, .int 11, .int 13, .int 17, .int 19, .int 33, .int 77])) p (.lst [.int n2]) = H2 at z2 e2
    refine ⟨6, rfl, by omega, by omega, fun D hD => ?_⟩
    refine comp_rng (lo := 0) (n := 6) (fun j ys H' => Same H2 H' ∧ H' D = some (.lst ys) ∧ ∃ ns : List Int, ys = ns.map V.int ∧ ns.length = j) ⟨Same.new hD, upd_same, [], rfl, rfl⟩ (fun j ys H' h => h.2.1) ?_ ?_
    · rintro j ys H' P' hj ⟨s1, hD1, ns, rfl, hl⟩ hP
      refine ⟨⟨rfl, rfl, trivial⟩, clB (by omega) (by omega), cp, hD1, by rw [List.length_map]; omega, hP _ _ ⟨s1.put hD, upd_same, ns ++ [_], by rw [List.map_append]; rfl, by rw [List.length_append, hl]; rfl⟩⟩
    rintro ys H3 ⟨s3, hD3, ns, rfl, hl⟩
    have e3 := s3 _ _ e2
    have nD : D ≠ p := fun z => by rw [z, e2] at hD; cases hD
    refine ⟨p, n2, 64, rfl, e3, by omega, by omega, fun r4 n4 r40 r41 => ?_⟩
    have z4 := (z2.trans (SameP.of s3)).trans (SameP.put (o := .lst [.int n4]))
    have e4 : (upd H3 p (.lst [.int n4])) p = some (.lst [.int n4]) := upd_same
    have g4 : (upd H3 p (.lst [.int n4])) D = some (.lst (ns.map V.int)) := by rw [upd_ne nD]; exact hD3
    generalize upd H3 p (.lst [.int n4]) = H4 at z4 e4 g4
    refine ⟨6, rfl, by omega, by omega, fun D2 hD2 => ?_⟩
    have nD2 : D2 ≠ D := fun z => by rw [z, g4] at hD2; cases hD2
    refine comp_rng (lo := 0) (n := 6) (fun j ys H' => Same H4 H' ∧ H' D2 = some (.lst ys) ∧ ∃ ms : List Int, ys = ms.map V.int ∧ ms.length ≤ j) ⟨Same.new hD2, upd_same, [], rfl, Nat.le_refl _⟩ (fun j ys H' h => h.2.1) ?_ ?_
    · rintro j ys H' P' hj ⟨s1, hD1, ms, rfl, hl2⟩ hP
      refine ⟨⟨rfl, rfl, trivial⟩, cn (by omega), ifC (fun _ => ?_) fun _ => ?_⟩
      · have hj' : j < (ns.map V.int).length := by rw [List.length_map]; omega
        refine .inl ⟨D, _, _, .int (ns.getD j 0), rfl, rfl, SqL.of (s1 _ _ g4), ?_, hD1, by rw [List.length_map]; omega, hP _ _ ⟨s1.put hD2, upd_same, ms ++ [_], by rw [List.map_append]; rfl, by rw [List.length_append]; show ms.length + 1 ≤ j + 1; omega⟩⟩
        rw [Int.zero_add]
        exact atI_nat (by rw [List.getElem?_map, List.getD]; rw [List.length_map] at hj'; simp [hj'])
      · exact hP _ _ ⟨s1, hD1, ms, rfl, by omega⟩
    · rintro ys H' ⟨s1, hD1, ms, rfl, hl2⟩
      have nP : D2 ≠ p := fun z => by rw [z, e4] at hD2; cases hD2
      refine q _ D2 n4 ms (z4.trans (SameP.of s1)) (s1 _ _ e4) ?_ hD1 hl2
      cases hh : H D2 with
      | none => rfl
      | some o => rw [z4 _ _ nP hh] at hD2; cases hD2
theorem ok_whole (T : Txt K mg a) : FnOk P w K mg base CX0 1 a.f_L_whole a.d_L_whole ["_law_found"] spWhole := by
  refine T.F_L_whole.ok sc_L_whole (fun vs H Q E h => ?_) (fun cdv A outer s H vs Q E hr h => ?_)
  · obtain ⟨x, rfl, _⟩ := h; rfl
  · obtain ⟨x, rfl, th, q⟩ := h
    refine ⟨_, (pss_one (ps_ret (m_and (pe_callB call_isi rfl T.z_isinstance bt_isinstance (pa_cons (vr 0) (pa_cons (pe_bltn (v := .ty "int") rfl T.z_int bt_int rfl) pa_nil))) (pe_one (m_not (pe_callB call_isi rfl T.z_isinstance bt_isinstance (pa_cons (vr 0) (pa_cons (pe_bltn (v := .ty "bool") rfl T.z_bool bt_bool rfl) pa_nil)))))))), ?_⟩
    match x, th with
    | .int i, _ => exact ⟨_, _, _, true, rfl, rfl, .int i, rfl, ⟨_, _, _, false, rfl, rfl, .int i, rfl, q⟩⟩
    | .bl b, _ => exact ⟨_, _, _, true, rfl, rfl, .bl b, rfl, ⟨_, _, _, true, rfl, rfl, .bl b, rfl, q⟩⟩
    | .non, _ => exact ⟨_, _, _, false, rfl, rfl, .non, rfl, q⟩
    | .str t, _ => exact ⟨_, _, _, false, rfl, rfl, .str t, rfl, q⟩
end
end My
set_option Elab.async false
set_option linter.all false
set_option maxRecDepth 100000
set_option maxHeartbeats 4000000
namespace My
open PySem L2 FrM
inductive Tr where
  | leaf (ns : List Int)
  | die (ps : List (Int × Tr))
def Leaf (H : Hp) (v : V) (ns : List Int) : Prop := ∃ p, v = .ref p ∧ H p = some (.lst (ns.map V.int)) ∧ ns.length ≤ 6
def PairR (H : Hp) (r : V → Tr → Prop) (pt : Int × Tr) (x : V) : Prop := ∃ q w, x = .ref q ∧ H q = some (.tup [.int pt.1, w]) ∧ 1 ≤ pt.1 ∧ pt.1 ≤ 1000000000 ∧ r w pt.2
def DieR (H : Hp) (r : V → Tr → Prop) (v : V) (ps : List (Int × Tr)) : Prop := ∃ p vs, v = .ref p ∧ H p = some (.tup vs) ∧ Paired (PairR H r) ps vs ∧ 1 ≤ ps.length ∧ ps.length ≤ 4
def IsTree (H : Hp) : Nat → V → Tr → Prop
  | 0 => fun v t => match t with | .leaf ns => Leaf H v ns | .die _ => False
  | d + 1 => fun v t => match t with | .leaf ns => Leaf H v ns | .die ps => DieR H (IsTree H d) v ps
theorem isTree_leaf {H : Hp} {v : V} {ns : List Int} : ∀ d, IsTree H d v (.leaf ns) ↔ Leaf H v ns
  | 0 => Iff.rfl
  | _ + 1 => Iff.rfl
theorem isTree_die {H : Hp} {v : V} {ps : List (Int × Tr)} : ∀ {d}, IsTree H d v (.die ps) → ∃ d', d = d' + 1 ∧ DieR H (IsTree H d') v ps
  | 0, h => False.elim h
  | d + 1, h => ⟨d, rfl, h⟩
theorem paired_imp {α β : Type} {r r' : α → β → Prop} (h : ∀ a b, r a b → r' a b) : ∀ {as : List α} {bs : List β}, Paired r as bs → Paired r' as bs
  | _, _, .nil => .nil
  | _, _, .cons x t => .cons (h _ _ x) (paired_imp h t)
theorem paired_snoc {α β : Type} {r : α → β → Prop} {a : α} {b : β} (h : r a b) : ∀ {as : List α} {bs : List β}, Paired r as bs → Paired r (as ++ [a]) (bs ++ [b])
  | _, _, .nil => .cons h .nil
  | _, _, .cons x t => .cons x (paired_snoc h t)
theorem paired_get {α β : Type} {r : α → β → Prop} : ∀ {as : List α} {bs : List β} {i : Nat} {y : β}, Paired r as bs → bs[i]? = some y → ∃ x, as[i]? = some x ∧ r x y
  | _, _, _, _, .nil, h => by cases h
  | _, _, 0, _, .cons r _, h => ⟨_, rfl, by cases h; exact r⟩
  | _, _, i + 1, _, .cons _ t, h => paired_get (i := i) t h
theorem PairR.t {H H' : Hp} {r r' : V → Tr → Prop} (s : SameT H H') (hr : ∀ v t, r v t → r' v t) (pt : Int × Tr) (x : V) (h : PairR H r pt x) : PairR H' r' pt x := by
  obtain ⟨q, w, h1, h2, h3, h4, h5⟩ := h
  exact ⟨q, w, h1, s.at h2, h3, h4, hr _ _ h5⟩
theorem IsTree.t {H H' : Hp} (s : SameT H H') : ∀ d v t, IsTree H d v t → IsTree H' d v t
  | d, v, .leaf ns, h => by
    obtain ⟨p, h1, h2, h3⟩ := (isTree_leaf d).mp h
    exact (isTree_leaf d).mpr ⟨p, h1, s.at h2, h3⟩
  | 0, v, .die ps, h => False.elim h
  | d + 1, v, .die ps, h => by
    obtain ⟨p, vs, h1, h2, h3, h4, h5⟩ := h
    exact ⟨p, vs, h1, s.at h2, paired_imp (PairR.t s (IsTree.t s d)) h3, h4, h5⟩
def nw (H : Hp) (P : Option Addr) (H' : Hp) : Hp := fun b => if (H b).isNone && (some b != P) then H' b else none
theorem nw_at {H H' : Hp} {P : Option Addr} {b : Addr} (h : H b = none) (n : some b ≠ P) : nw H P H' b = H' b := by
  unfold nw; rw [h]; simp [n]
theorem nw_some {H H' : Hp} {P : Option Addr} {b : Addr} {o : HO} (h : nw H P H' b = some o) : H b = none ∧ some b ≠ P ∧ H' b = some o := by
  unfold nw at h
  split at h
  · rename_i c
    simp at c
    exact ⟨c.1, c.2, h⟩
  · cases h
def spTree (D : Nat) : Sp := fun vs H Q _ => ∃ (p : Addr) (n : Int) (d : Nat), vs = [.ref p, .int (d : Nat)] ∧ d < D ∧ d ≤ 4 ∧ H p = some (.lst [.int n]) ∧ ∀ H' v (n' : Int) t, SameP p H H' → H' p = some (.lst [.int n']) → IsTree (nw H none H') d v t → Q v H'
section
variable {P : Program} {w : World} {K : PySem.W.Frag} {mg : Str → Option Value} {base : Heap} {a : Ad}
theorem SameP.free {p : Addr} {H H' : Hp} {n : Int} {b : Addr} (s : SameP p H H') (e : H' p = some (.lst [.int n])) (h : H' b = none) : H b = none := by
  cases hh : H b with
  | none => rfl
  | some o => rw [s b o (fun z => by rw [z, e] at h; cases h) hh] at h; cases h
theorem tree_step (T : Txt K mg a) (D : Nat) (G_L_tree : FnOk P w K mg base CX0 (D + 2) a.f_L_tree a.d_L_tree ["_law_state", "_law_deep"] (spTree D)) : FnOk P w K mg base CX0 (D + 1 + 2) a.f_L_tree a.d_L_tree ["_law_state", "_law_deep"] (spTree (D + 1)) := by
  have G_L_take : FnOk P w K mg base CX0 (D + 2) _ _ _ spTake := (ok_take T).mono (by omega)
  have G_L_kept : FnOk P w K mg base CX0 (D + 2) _ _ _ spKept := (ok_kept T).mono (by omega)
  refine T.F_L_tree.ok sc_L_tree (fun vs H Q E h => ?_) (fun cdv A outer s H vs Q E hr h => ?_)
  · obtain ⟨p, n, d, rfl, _⟩ := h; rfl
  · obtain ⟨p, n, d, rfl, hd, hd4, hp, q⟩ := h
    refine ⟨_, (pss_cons (ps_if (PW.pt (pw_or (t_cmp o_eq (vr 1) pe_int (nomark _)) (pw_or1 (t_cmp o_eq (pe_call G_L_take hr rfl T.m_L_take T.F_L_take.kp T.B_L_take .nil pass0 (pa_cons (vr 0) (pa_cons pe_int pa_nil))) pe_int (nomark _))))) (pss_one (ps_ret (pe_call G_L_kept hr rfl T.m_L_kept T.F_L_kept.kp T.B_L_kept .nil pass0 (pa_cons (vr 0) pa_nil)))) pss_nil) (pss_cons (ps_set (i := 2) sc_L_tree.nd rfl (Or.inl rfl) (pe_lst pa_nil)) (pss_cons (ps_for PassesOwn.never rfl (pi_range1 rfl T.z_range (pa_cons (pe_op o_add pe_int (pe_call G_L_take hr rfl T.m_L_take T.F_L_take.kp T.B_L_take .nil pass0 (pa_cons (vr 0) (pa_cons pe_int pa_nil)))) pa_nil)) (pg_name (i := 3) sc_L_tree.nd rfl (Or.inl rfl)) (pss_cons (ps_set (i := 4) sc_L_tree.nd rfl (Or.inl rfl) (pe_op o_add pe_int (pe_call G_L_take hr rfl T.m_L_take T.F_L_take.kp T.B_L_take .nil pass0 (pa_cons (vr 0) (pa_cons (pe_ix ix_seq (pe_lst (pa_cons pe_int (pa_cons pe_int (pa_cons pe_int (pa_cons (pe_op o_pow pe_int pe_int) pa_nil))))) (pe_call G_L_take hr rfl T.m_L_take T.F_L_take.kp T.B_L_take .nil pass0 (pa_cons (vr 0) (pa_cons pe_int pa_nil))) (fun _ _ => rfl)) pa_nil))))) (pss_one (ps_expr (pe_m.append (vr 2) (pa_cons (pe_tup (pa_cons (vr 4) (pa_cons (pe_call G_L_tree hr rfl T.m_L_tree T.F_L_tree.kp T.B_L_tree .nil pass0 (pa_cons (vr 0) (pa_cons (pe_op o_sub (vr 1) pe_int) pa_nil))) pa_nil))) pa_nil)))))) (pss_one (ps_ret (pe_callTy call_tuple_of rfl T.z_tuple bt_tuple (pa_cons (vr 2) pa_nil))))))), ?_⟩
    have small : sizeLine = 16777216 := sizeLine_eq
    refine ifC (fun c => ?_) fun c => ?_
    · refine ⟨p, n, rfl, hp, fun H' q' n' ns s1 e1 f1 e2 hl => ?_⟩
      exact q _ _ _ (.leaf ns) s1 e1 ((isTree_leaf d).mpr ⟨q', rfl, by rw [nw_at f1 (by simp)]; exact e2, hl⟩)
    have d0 : d ≠ 0 := fun z => c (by rw [z]; rfl)
    refine ⟨p, n, 4, rfl, hp, by omega, by omega, fun r1 n1 r10 r11 => ?_⟩
    have s1 : SameP p H (upd H p (.lst [.int n1])) := SameP.put
    have e1 : (upd H p (.lst [.int n1])) p = some (.lst [.int n1]) := upd_same
    generalize upd H p (.lst [.int n1]) = H1 at s1 e1
    refine ifC (fun c => ?_) fun c => ?_
    · refine ⟨p, n1, rfl, e1, fun H' q' n' ns s2 e2 f2 e3 hl => ?_⟩
      exact q _ _ _ (.leaf ns) (s1.trans s2) e2 ((isTree_leaf d).mpr ⟨q', rfl, by rw [nw_at (s1.free e1 f2) (by simp)]; exact e3, hl⟩)
    refine ⟨Nat.zero_le _, fun Pp hPp => ?_⟩
    have nP : Pp ≠ p := fun z => by rw [z, e1] at hPp; cases hPp
    have fP : H Pp = none := s1.free e1 hPp
    have s2 := s1.trans (SameP.of (Same.new (o := .lst []) hPp))
    have e2 : (upd H1 Pp (.lst [])) p = some (.lst [.int n1]) := by rw [upd_ne (Ne.symm nP)]; exact e1
    have g2 : (upd H1 Pp (.lst [])) Pp = some (.lst []) := upd_same
    generalize upd H1 Pp (.lst []) = H2 at s2 e2 g2
    refine ⟨p, n1, 4, rfl, e2, by omega, by omega, fun r3 n3 r30 r31 => ?_⟩
    refine ⟨1 + r3, rfl, by omega, by omega, ?_⟩
    have s3 := s2.trans (SameP.put (o := .lst [.int n3]))
    have e3 : (upd H2 p (.lst [.int n3])) p = some (.lst [.int n3]) := upd_same
    have g3 : (upd H2 p (.lst [.int n3])) Pp = some (.lst []) := by rw [upd_ne nP]; exact g2
    generalize upd H2 p (.lst [.int n3]) = H3 at s3 e3 g3
    obtain ⟨d', rfl⟩ : ∃ d', d = d' + 1 := ⟨d - 1, by omega⟩
    refine for_range (lo := 0) (n := (1 + r3).toNat) (fun i σ H' => ∃ (m : Int) (ps : List (Int × Tr)) (vs : List V) (x3 x4 : Option V), SameP p H H' ∧ H' p = some (.lst [.int m]) ∧ H' Pp = some (.lst vs) ∧ Paired (PairR (nw H (some Pp) H') (IsTree (nw H (some Pp) H') d')) ps vs ∧ ps.length = i ∧ σ = [some (.ref p), some (.int ((d' + 1 : Nat) : Int)), some (.ref Pp), x3, x4]) ⟨n3, [], [], none, none, s3, e3, g3, .nil, rfl, rfl⟩ ?_ ?_
    · rintro i σ H' hi ⟨m, ps, vs, x3, x4, s4, e4, g4, hP, hl, rfl⟩
      refine ⟨cw, by show 4 ≤ sizeLine; decide, fun l4 f4 => ?_⟩
      have nl4 : l4 ≠ p := fun z => by rw [z, e4] at f4; cases f4
      have s5 : Same H' (upd H' l4 (.lst [.int 3, .int 3, .int 12, .int ((10 : Int) ^ (9 : Int).toNat)])) := Same.new f4
      refine ⟨p, m, 4, rfl, s5 _ _ e4, by omega, by omega, fun r5 n5 r50 r51 => ?_⟩
      obtain ⟨v, hv, ev⟩ := atI_ex (xs := ([3, 3, 12, (10 : Int) ^ (9 : Int).toNat] : List Int).map V.int) r50 r51
      obtain ⟨st, hst, rfl⟩ := List.mem_map.mp hv
      have hst' : 1 ≤ st ∧ st ≤ 1000000000 := by
        have e9 : (10 : Int) ^ (9 : Int).toNat = 1000000000 := by decide
        rw [e9] at hst
        simp only [List.mem_cons, List.not_mem_nil, or_false] at hst
        omega
      refine .inl ⟨l4, ([3, 3, 12, (10 : Int) ^ (9 : Int).toNat] : List Int).map V.int, r5, .int st, rfl, rfl, SqL.of ((upd_ne nl4).trans upd_same), ev, ?_⟩
      refine ⟨p, n5, st, rfl, upd_same, by omega, by omega, fun r6 n6 r60 r61 => ?_⟩
      have s6 : SameP p H' (upd (upd (upd H' l4 (.lst [.int 3, .int 3, .int 12, .int ((10 : Int) ^ (9 : Int).toNat)])) p (.lst [.int n5])) p (.lst [.int n6])) := ((SameP.of s5).trans SameP.put).trans SameP.put
      have g6 := s6 _ _ nP g4
      have e6 : (upd (upd (upd H' l4 (.lst [.int 3, .int 3, .int 12, .int ((10 : Int) ^ (9 : Int).toNat)])) p (.lst [.int n5])) p (.lst [.int n6])) p = some (.lst [.int n6]) := upd_same
      refine ⟨.inl ⟨rfl, _, SqL.of g6⟩, ⟨p, n6, d', ?_, by omega, by omega, e6, fun H7 v n7 t s7 e7 it => ?_⟩⟩
      · show [V.ref p, V.int (((d' + 1 : Nat) : Int) - 1)] = [V.ref p, V.int (d' : Int)]
        rw [show (((d' + 1 : Nat) : Int) - 1) = (d' : Int) by omega]
      have g7 := s7 _ _ nP g6
      have s47 := s6.trans s7
      refine ⟨by show 2 ≤ sizeLine; decide, fun pt hpt => ?_⟩
      have nt : pt ≠ p := fun z => by rw [z, e7] at hpt; cases hpt
      have nt2 : pt ≠ Pp := fun z => by rw [z, g7] at hpt; cases hpt
      have ft : H pt = none := (s4.trans s47).free e7 hpt
      have s8 := Same.new (o := .tup [.int (1 + r6), v]) hpt
      have vl : vs.length = i := by rw [← hl]; exact hP.length.symm
      refine ⟨Pp, vs, _, rfl, rfl, s8 _ _ g7, by omega, ?_⟩
      have old : SameT (nw H (some Pp) H') (nw H (some Pp) (upd (upd H7 pt (.tup [.int (1 + r6), v])) Pp (.lst (vs ++ [.ref pt])))) := Same.t fun b o h => by
        obtain ⟨h1, h2, h3⟩ := nw_some h
        have b1 : b ≠ Pp := fun z => h2 (by rw [z])
        have b2 : b ≠ p := fun z => by rw [z, hp] at h1; cases h1
        rw [nw_at h1 h2, upd_ne b1]
        exact s8 _ _ (s47 _ _ b2 h3)
      have new : SameT (nw (upd (upd (upd H' l4 (.lst [.int 3, .int 3, .int 12, .int ((10 : Int) ^ (9 : Int).toNat)])) p (.lst [.int n5])) p (.lst [.int n6])) none H7) (nw H (some Pp) (upd (upd H7 pt (.tup [.int (1 + r6), v])) Pp (.lst (vs ++ [.ref pt])))) := Same.t fun b o h => by
        obtain ⟨h1, h2, h3⟩ := nw_some h
        have b1 : b ≠ Pp := fun z => by rw [z, g6] at h1; cases h1
        rw [nw_at ((s4.trans s6).free e6 h1) (fun z => b1 (by cases z; rfl)), upd_ne b1]
        exact s8 _ _ h3
      refine ⟨n7, ps ++ [(1 + r6, t)], _, _, _, ?_, ?_, upd_same, paired_snoc ⟨pt, v, rfl, ?_, by omega, by show 1 + r6 ≤ _; omega, IsTree.t new _ _ _ it⟩ (paired_imp (PairR.t old (IsTree.t old _)) hP), by rw [List.length_append, hl]; rfl, rfl⟩
      · intro b o n h
        have b1 : b ≠ Pp := fun z => by rw [z, fP] at h; cases h
        rw [upd_ne b1]
        exact s8 _ _ (s47 _ _ n (s4 _ _ n h))
      · rw [upd_ne (Ne.symm nP)]
        exact s8 _ _ e7
      · rw [nw_at ft (fun z => nt2 (by cases z; rfl)), upd_ne nt2]
        exact upd_same
    · rintro σ H' ⟨m, ps, vs, x3, x4, s4, e4, g4, hP, hl, rfl⟩
      refine ⟨Pp, vs, rfl, .inl ⟨SqL.of g4, fun l hl' => ?_⟩⟩
      have nl : l ≠ p := fun z => by rw [z, e4] at hl'; cases hl'
      have fl : H l = none := s4.free e4 hl'
      refine q _ _ m (.die ps) (s4.trans (SameP.of (Same.new hl'))) (by rw [upd_ne (Ne.symm nl)]; exact e4) ⟨l, vs, rfl, by rw [nw_at fl (by simp)]; exact upd_same, paired_imp (PairR.t ?_ (IsTree.t ?_ _)) hP, by omega, by omega⟩
      all_goals
        refine Same.t fun b o h => ?_
        obtain ⟨h1, h2, h3⟩ := nw_some h
        rw [nw_at h1 (by simp), upd_ne (ne_of_none h3 hl')]
        exact h3
theorem ok_tree (T : Txt K mg a) : ∀ D, FnOk P w K mg base CX0 (D + 2) a.f_L_tree a.d_L_tree ["_law_state", "_law_deep"] (spTree D)
  | 0 => ⟨fun _ _ _ _ ⟨_, _, _, _, h, _⟩ => absurd h (Nat.not_lt_zero _), fun _ _ _ _ _ _ _ _ _ _ _ _ _ ⟨_, _, _, _, h, _⟩ => absurd h (Nat.not_lt_zero _)⟩
  | D + 1 => tree_step T D (ok_tree T D)
end
end My
set_option Elab.async false
set_option linter.all false
set_option maxRecDepth 100000
set_option maxHeartbeats 4000000
namespace My
open PySem L2 FrM
def Srt (ns kept : List Int) : Prop := ns.Perm kept ∧ ns.Pairwise (· ≤ ·)
def IsTold (a : Ad) (H : Hp) (v : V) (kept : List Int) : Prop := ∃ x dx t ns, v = .ref x ∧ H x = some (.ins a.c_Told dx [("rising", .ref t)]) ∧ H t = some (.tup (ns.map V.int)) ∧ Srt ns kept
def IsLam (H : Hp) (d : LamD) (fv : List Str) (v : V) (vals : List V) : Prop := ∃ f c clos, v = .ref f ∧ H f = some (.ext (LamX f d clos c)) ∧ H c = some (.ext (CodeX c d.qual)) ∧ clos.map (·.1) = fv ∧ (clos.map (·.2)).Nodup ∧ CellsAt H clos vals
theorem cells_t {H H' : Hp} (s : SameT H H') : ∀ {clos : List (Str × Addr)} {vals : List V}, CellsAt H clos vals → CellsAt H' clos vals
  | _, _, .nil => .nil
  | _, _, .cons r t => .cons (s.at r) (cells_t s t)
theorem IsLam.t {H H' : Hp} {d : LamD} {fv : List Str} {v : V} {vals : List V} (s : SameT H H') (h : IsLam H d fv v vals) : IsLam H' d fv v vals := by
  obtain ⟨f, c, clos, h1, h2, h3, h4, h5, h6⟩ := h
  exact ⟨f, c, clos, h1, s.at h2, s.at h3, h4, h5, cells_t s h6⟩
theorem IsTold.t {a : Ad} {H H' : Hp} {v : V} {kept : List Int} (s : SameT H H') (h : IsTold a H v kept) : IsTold a H' v kept := by
  obtain ⟨x, dx, t, ns, h1, h2, h3, h4⟩ := h
  exact ⟨x, dx, t, ns, h1, s.at h2, s.at h3, h4⟩
abbrev fvT : List Str := ["_law_tree_here"]
def NodeR (H0 H : Hp) (d : Nat) (pt : Int × Tr) (y : V) : Prop := ∃ q f w, y = .ref q ∧ H q = some (.tup [.int pt.1, f]) ∧ IsLam H ld_L_make_1 fvT f [w] ∧ 1 ≤ pt.1 ∧ pt.1 ≤ 1000000000 ∧ IsTree H0 d w pt.2
theorem NodeR.t {H0 H H' : Hp} {d : Nat} (s : SameT H H') (pt : Int × Tr) (y : V) (h : NodeR H0 H d pt y) : NodeR H0 H' d pt y := by
  obtain ⟨q, f, w, h1, h2, h3, h4, h5, h6⟩ := h
  exact ⟨q, f, w, h1, s.at h2, h3.t s, h4, h5, h6⟩
def IsDie (a : Ad) (H0 H : Hp) (d : Nat) (v : V) (ps : List (Int × Tr)) : Prop := ∃ x dx l ys, v = .ref x ∧ H x = some (.ins a.c_Die dx [("makes", .ref l)]) ∧ H l = some (.lst ys) ∧ Paired (NodeR H0 H d) ps ys ∧ 1 ≤ ps.length ∧ ps.length ≤ 4
theorem IsDie.t {a : Ad} {H0 H H' : Hp} {d : Nat} {v : V} {ps : List (Int × Tr)} (s : SameT H H') (h : IsDie a H0 H d v ps) : IsDie a H0 H' d v ps := by
  obtain ⟨x, dx, l, ys, h1, h2, h3, h4, h5, h6⟩ := h
  exact ⟨x, dx, l, ys, h1, s.at h2, s.at h3, paired_imp (NodeR.t s) h4, h5, h6⟩
def IsNode (a : Ad) (H0 H : Hp) (d : Nat) (v : V) : Tr → Prop
  | .leaf ns => IsTold a H v ns
  | .die ps => ∃ d', d = d' + 1 ∧ IsDie a H0 H d' v ps
theorem IsNode.t {a : Ad} {H0 H H' : Hp} {d : Nat} {v : V} (s : SameT H H') : ∀ {t : Tr}, IsNode a H0 H d v t → IsNode a H0 H' d v t
  | .leaf _, h => IsTold.t s h
  | .die _, ⟨d', e, h⟩ => ⟨d', e, h.t s⟩
def spToldI (a : Ad) : Sp := fun vs H Q _ => ∃ (x dx l : Addr) (ns : List Int), vs = [.ref x, .ref l] ∧ H x = some (.ins a.c_Told dx []) ∧ (H l = some (.lst (ns.map V.int)) ∨ H l = some (.tup (ns.map V.int))) ∧ ns.length < 64 ∧
  ∀ H' t ns', (∀ b o, b ≠ x → H b = some o → H' b = some o) → H' x = some (.ins a.c_Told dx [("rising", .ref t)]) → H' t = some (.tup (ns'.map V.int)) → Srt ns' ns → Q .non H'
def spDieI (a : Ad) : Sp := fun vs H Q _ => ∃ (x dx l : Addr) (xs : List V), vs = [.ref x, .ref l] ∧ H x = some (.ins a.c_Die dx []) ∧ H l = some (.lst xs) ∧
  ∀ H' t, H t = none → (∀ b o, b ≠ x → H b = some o → H' b = some o) → H' x = some (.ins a.c_Die dx [("makes", .ref t)]) → H' t = some (.lst xs) → Q .non H'
def spMake (a : Ad) : Sp := fun vs H Q _ => ∃ v, vs = [v] ∧ TabsOk (tabs a) H ∧ ∀ H' f, SameT H H' → TabsOk (tabs a) H' → IsLam H' ld_L_make_1 fvT f [v] → Q f H'
def NewL (a : Ad) (H H' : Hp) (u : V) : Prop := ∀ x dx l, u = .ref x → H' x = some (.ins a.c_Die dx [("makes", .ref l)]) → H l = none
def spNode (a : Ad) : Sp := fun vs H Q _ => ∃ v d t H0, vs = [v] ∧ IsTree H0 d v t ∧ SameT H0 H ∧ TabsOk (tabs a) H ∧ ∀ H' u, SameT H H' → TabsOk (tabs a) H' → IsNode a H0 H' d u t → NewL a H H' u → Q u H'
section
variable {P : Program} {w : World} {K : PySem.W.Frag} {mg : Str → Option Value} {base : Heap} {a : Ad}
theorem oi_Told (T : Txt K mg a) : FnOk P w K mg base CX0 1 a.i_Told a.e_Told ["self", "kept"] (spToldI a) := by
  refine T.Fi_Told.ok sc_Told___init__ (fun vs H Q E h => ?_) (fun cdv A outer s H vs Q E hr h => ?_)
  · obtain ⟨x, dx, l, ns, rfl, _⟩ := h; rfl
  · obtain ⟨x, dx, l, ns, rfl, hx, hl, hn, q⟩ := h
    refine ⟨_, (pss_one (ps_fld (vr 0) (pe_callTy call_tuple_of rfl T.z_tuple bt_tuple (pa_cons (pe_callB call_sortedLT rfl T.z_sorted bt_sorted (pa_cons (vr 1) pa_nil)) pa_nil)) rfl)), ?_⟩
    refine ⟨l, ns, rfl, hl.imp SqL.of SqT.of, hn, fun p ns' hp hs fp => ?_⟩
    have s1 := Same.new (o := .lst (ns'.map V.int)) fp
    refine ⟨p, _, rfl, .inl ⟨SqL.of upd_same, fun t ft => ?_⟩⟩
    have s2 := Same.new (o := .tup (ns'.map V.int)) ft
    have s12 := s1.trans s2
    have nt : t ≠ x := fun z => by rw [z, s1 _ _ hx] at ft; cases ft
    refine ⟨x, a.c_Told, dx, [], rfl, s12 _ _ hx, T.cl_Told, T.na_Told_rising, (by decide), ?_⟩
    exact q _ t ns' (fun b o n e => by rw [upd_ne n]; exact s12 _ _ e) upd_same (by rw [upd_ne nt]; exact upd_same) ⟨hp, hs⟩
theorem oi_Die (T : Txt K mg a) : FnOk P w K mg base CX0 1 a.i_Die a.e_Die ["self", "parts"] (spDieI a) := by
  refine T.Fi_Die.ok sc_Die___init__ (fun vs H Q E h => ?_) (fun cdv A outer s H vs Q E hr h => ?_)
  · obtain ⟨x, dx, l, xs, rfl, _⟩ := h; rfl
  · obtain ⟨x, dx, l, xs, rfl, hx, hl, q⟩ := h
    refine ⟨_, (pss_one (ps_fld (vr 0) (pe_callTy call_list_of rfl T.z_list bt_list (pa_cons (vr 1) pa_nil)) rfl)), ?_⟩
    refine ⟨l, xs, rfl, .inl (SqL.of hl), fun t ft => ?_⟩
    have s1 := Same.new (o := .lst xs) ft
    have nt : t ≠ x := fun z => by rw [z, hx] at ft; cases ft
    refine ⟨x, a.c_Die, dx, [], rfl, s1 _ _ hx, T.cl_Die, T.na_Die_makes, (by decide), ?_⟩
    exact q _ t ft (fun b o n e => by rw [upd_ne n]; exact s1 _ _ e) upd_same (by rw [upd_ne nt]; exact upd_same)
theorem made {H1 H' : Hp} {x dx : Addr} {o1 o2 : HO} (hx : H1 x = none) (hd : H1 dx = none) (k : ∀ b o, b ≠ x → (upd (upd H1 dx o1) x o2) b = some o → H' b = some o) : Same H1 H' := fun b o e => by
  refine k b o (ne_of_none e hx) ?_
  rw [upd_ne (ne_of_none e hx), upd_ne (ne_of_none e hd)]
  exact e
theorem ok_make (T : Txt K mg a) (hB : Bm mg base) : FnOk P w K mg base CX0 1 a.f_L_make a.d_L_make ["_law_tree_here"] (spMake a) := by
  refine T.F_L_make.okL T.lcd_L_make sc_L_make (by decide +kernel) (fun vs H Q E h => ?_) (fun A outer s H vs Q E hr h => ?_)
  · obtain ⟨v, rfl, _⟩ := h; rfl
  · obtain ⟨v, rfl, hT, q⟩ := h
    refine ⟨_, (pr_ret (pe_lam (d := ld_L_make_1) rfl T.lch_L_make hB rfl (by with_unfolding_all rfl) rfl (tb_L_make a) (.head _) T.tnd tp_L_make)), ?_⟩
    refine ⟨hT, fun f1 c1 H2 t2 hT2 n1 ef1 ec1 => ?_⟩
    exact fun H3 s3 hc => q _ _ (t2.trans s3.t) (hT2.same s3) ⟨f1, c1, _, rfl, s3 _ _ ef1, s3 _ _ ec1, rfl, by simp, .cons (hc 0 _ _ _ rfl rfl (by with_unfolding_all rfl)) .nil⟩
theorem cut_of {H H' : Hp} {D : Addr} (s : SameT H H') : SameT (untr H D) (untr H' D) := fun b o e => by
  by_cases hb : b = D
  · rw [hb, untr_same] at e; cases e
  · rw [untr_ne hb] at e ⊢
    exact s b o e
theorem cut_put {H : Hp} {D : Addr} {o : HO} : SameT (untr H D) (untr (upd H D o) D) := fun b o' e => by
  by_cases hb : b = D
  · rw [hb, untr_same] at e; cases e
  · rw [untr_ne hb] at e
    rw [untr_ne hb, upd_ne hb]
    exact SameT.refl b o' e
theorem cut_in {H : Hp} {D : Addr} {o : HO} : SameT (untr H D) (upd H D o) := fun b o' e => by
  by_cases hb : b = D
  · rw [hb, untr_same] at e; cases e
  · rw [untr_ne hb] at e
    rw [upd_ne hb]
    exact SameT.refl b o' e
theorem paired_take {α β : Type} {r : α → β → Prop} {as : List α} {x : α} {i : Nat} {ys : List β} {y : β} (h : Paired r (as.take i) ys) (e : as[i]? = some x) (q : r x y) : Paired r (as.take (i + 1)) (ys ++ [y]) := by
  rw [List.take_add_one, e]
  exact paired_snoc q h
theorem ok_node (T : Txt K mg a) (hB : Bm mg base) : FnOk P w K mg base CX0 3 a.f_L_node a.d_L_node ["_law_tree_here"] (spNode a) := by
  have G_Told : FnOk P w K mg base CX0 1 _ _ _ (spToldI a) := oi_Told T
  have G_Die : FnOk P w K mg base CX0 1 _ _ _ (spDieI a) := oi_Die T
  have G_L_make : FnOk P w K mg base CX0 2 _ _ _ (spMake a) := (ok_make T hB).mono (by decide)
  refine T.F_L_node.ok sc_L_node (fun vs H Q E h => ?_) (fun cdv A outer s H vs Q E hr h => ?_)
  · obtain ⟨v, d, t, H0, rfl, _⟩ := h; rfl
  · obtain ⟨v, d, t, H0, rfl, ht, s0, hT, q⟩ := h
    refine ⟨_, (pss_cons (ps_if (t_val (pe_callB call_isi rfl T.z_isinstance bt_isinstance (pa_cons (vr 0) (pa_cons (pe_bltn (v := .ty "list") rfl T.z_list bt_list rfl) pa_nil)))) (pss_one (ps_ret (pe_make T.mk_Told G_Told hr rfl T.mc_Told T.Bi_Told .nil pass0 (pa_cons (pe_callTy call_list_of rfl T.z_list bt_list (pa_cons (vr 0) pa_nil)) pa_nil)))) pss_nil) (pss_cons (ps_setC rfl (i := 1) sc_L_node.nd rfl rfl (by with_unfolding_all rfl) (N := ["_law_many", "_law_part"]) (ix := [none, none]) ⟨rfl, rfl, rfl, rfl, trivial⟩ (pi_any (vr 0)) ⟨fun C s H fp => (pg_tupK (K := K) (n := 2) rfl rfl (pgs_cons (pg_name (i := 0) (show List.Nodup (["_law_many", "_law_part"] : List Str) by decide +kernel) rfl (Or.inl rfl)) (pgs_cons (pg_name (i := 1) (show List.Nodup (["_law_many", "_law_part"] : List Str) by decide +kernel) rfl (Or.inl rfl)) pgs_nil))), fun C s H fp => pts_nil, fun C s H fp => (pe_tup (pa_cons (vr 0) (pa_cons (pe_call G_L_make hr rfl T.m_L_make T.F_L_make.kp T.B_L_make .nil pass0 (pa_cons (vr 1) pa_nil)) pa_nil)))⟩) (pss_cons (ps_set (i := 2) sc_L_node.nd rfl (Or.inl rfl) (pe_make T.mk_Die G_Die hr rfl T.mc_Die T.Bi_Die .nil pass0 (pa_cons (vr 1) pa_nil))) (pss_cons (ps_expr (pe_m.clear (vr 1))) (pss_one (ps_ret (vr 2))))))), ?_⟩
    have small : sizeLine = 16777216 := sizeLine_eq
    cases t with
    | leaf ns =>
      obtain ⟨p, rfl, hp, hl⟩ := (isTree_leaf d).mp ht
      have hp := s0.at hp
      refine ⟨_, _, _, true, rfl, rfl, .lst hp, rfl, ?_⟩
      refine ⟨p, _, rfl, .inl (SqL.of hp), fun l fl => ?_⟩
      have s1 := Same.new (o := .lst (ns.map V.int)) fl
      have hr1 : (upd H l (.lst (ns.map V.int))) l = some (.lst (ns.map V.int)) := upd_same
      generalize upd H l (.lst (ns.map V.int)) = H1 at s1 hr1
      intro x dx hx hdx hne
      have s9 : Same H1 (upd (upd H1 dx (.own x)) x (.ins a.c_Told dx [])) := fun b o e => by rw [upd_ne (ne_of_none e hx), upd_ne (ne_of_none e hdx)]; exact e
      refine ⟨x, dx, l, ns, rfl, upd_same, s9 _ _ hr1 |> .inl, by omega, fun H' t ns' k g1 g2 g3 => ⟨rfl, ?_⟩⟩
      have sm := s1.trans (made hx hdx k)
      refine q _ _ sm.t (hT.same sm) ⟨x, dx, t, ns', rfl, g1, g2, g3⟩ fun x2 dx2 l2 e2 e3 => ?_
      cases e2
      rw [g1] at e3
      injection e3 with e3
      injection e3 with _ _ e4
      injection e4 with e4 _
      injection e4 with e5 _
      exact absurd e5 (by decide)
    | die ps =>
      obtain ⟨d', rfl, p, vs, rfl, hp, hP, hl1, hl2⟩ := isTree_die ht
      have hp := s0.at hp
      refine ⟨_, _, _, false, rfl, rfl, .tup hp, rfl, ?_⟩
      refine .inr ⟨⟨_, SqT.of hp⟩, fun D hD => ?_⟩
      have hTD : TabsOk (tabs a) (upd H D (.lst [])) := hT.same (Same.new hD)
      have ext : ∀ {H' : Hp}, TabsOk (tabs a) H' → ∀ {ys : List V} {ys' : List V}, H' D = some (.lst ys) → TabsOk (tabs a) (upd H' D (.lst ys')) := fun hT' ys ys' e => hT'.put (fun ps z => by rw [e] at z; cases z) fun φ z => by rw [e] at z; cases z
      refine comp_tup (K := K) (a := p) (xs := vs) (fun i ys H' => SameT H H' ∧ TabsOk (tabs a) H' ∧ H' D = some (.lst ys) ∧ i ≤ vs.length ∧ Paired (NodeR H0 (untr H' D) d') (ps.take i) ys)
        ⟨(Same.new hD).t, hTD, upd_same, Nat.zero_le _, .nil⟩ (fun i ys H' h => SqT.of (h.1.at hp)) (fun i ys H' h => h.2.2.1) ?_ ?_
      · rintro i y ys H' P' hy ⟨t1, hT1, hD1, hi, hc⟩ hP'
        obtain ⟨⟨many, t⟩, hpt, q1, w', rfl, hq1, m0, m1, hw⟩ := paired_get hP hy
        refine ⟨q1, _, rfl, SqT.of (t1.at (s0.at hq1)), rfl, _, _, rfl, _, _, rfl, rfl, trivial, ?_⟩
        refine ⟨w', rfl, hT1, fun H2 f t2 hT2 hf => ?_⟩
        have hD2 := t2.at hD1
        refine ⟨by show 2 ≤ sizeLine; decide, fun q2 hq2 => ?_⟩
        have nq : q2 ≠ D := fun z => by rw [z, hD2] at hq2; cases hq2
        have s3 := Same.new (o := .tup [.int many, f]) hq2
        have hD3 := s3 _ _ hD2
        have ilt : i < vs.length := (List.getElem?_eq_some_iff.mp hy).1
        have yl : ys.length ≤ 4 := by rw [← hc.length, List.length_take]; omega
        have t13 := (t1.trans t2).trans s3.t
        refine ⟨hD3, by omega, hP' _ _ ⟨t13.put hD, ext (hT2.same s3) hD3, upd_same, ilt, paired_take (paired_imp (NodeR.t ?_) hc) hpt ⟨q2, f, w', rfl, ?_, ?_, m0, m1, ?_⟩⟩⟩
        · exact (cut_of (t2.trans s3.t)).trans cut_put
        · rw [untr_ne nq, upd_ne nq]; exact upd_same
        · have hf' : IsLam (untr H2 D) ld_L_make_1 fvT f [w'] := by
            obtain ⟨f', c, clos, g1, g2, g3, g4, g5, g6⟩ := hf
            have ne : ∀ b φ, H2 b = some (.ext φ) → b ≠ D := fun b φ e z => by rw [z, hD2] at e; cases e
            refine ⟨f', c, clos, g1, by rw [untr_ne (ne _ _ g2)]; exact g2, by rw [untr_ne (ne _ _ g3)]; exact g3, g4, g5, ?_⟩
            revert g6
            clear g2 g3 g4 g5
            generalize [w'] = ws
            intro g6
            induction g6 with
            | nil => exact .nil
            | cons r _ ih => exact .cons (by rw [untr_ne (ne _ _ r)]; exact r) ih
          exact hf'.t ((cut_of s3.t).trans cut_put)
        · exact hw
      · rintro ys H' ⟨t1, hT1, hD1, hi, hc⟩
        rw [show vs.length = ps.length from hP.length.symm, List.take_length] at hc
        intro x dx hx hdx hne
        have s9 : Same H' (upd (upd H' dx (.own x)) x (.ins a.c_Die dx [])) := fun b o e => by rw [upd_ne (ne_of_none e hx), upd_ne (ne_of_none e hdx)]; exact e
        refine ⟨x, dx, D, ys, rfl, upd_same, s9 _ _ hD1, fun H2 l fl k g1 g2 => ⟨rfl, ?_⟩⟩
        have s2 := made hx hdx k
        have hD2 := s2 _ _ hD1
        have nl : l ≠ D := fun z => by rw [z, s9 _ _ hD1] at fl; cases fl
        have nx : x ≠ D := fun z => by rw [z, hD1] at hx; cases hx
        refine ⟨.inl ⟨rfl, _, SqL.of hD2⟩, D, _, rfl, rfl, hD2, ?_⟩
        refine q _ _ ((t1.trans s2.t).put hD) (ext (hT1.same s2) hD2) ⟨d', rfl, x, dx, l, ys, rfl, by rw [upd_ne nx]; exact g1, by rw [upd_ne nl]; exact g2, paired_imp (NodeR.t ((cut_of s2.t).trans cut_in)) hc, hl1, hl2⟩ fun x2 dx2 l2 e2 e3 => ?_
        cases e2
        rw [upd_ne nx, g1] at e3
        cases e3
        exact (t1.trans s9.t).free fl
end
end My
set_option Elab.async false
set_option linter.all false
set_option maxRecDepth 100000
set_option maxHeartbeats 4000000
namespace My
open PySem L2 FrM
theorem LamOk.mono {P : Program} {w : World} {K : PySem.W.Frag} {mg : Str → Option Value} {base : Heap} {j k : Nat} {d : LamD} {fv ps : List Str} {sp : List V → Sp} (L : LamOk P w K mg base j d fv ps sp) (h : j ≤ k) : LamOk P w K mg base k d fv ps sp := fun A outer s H f c clos us vs vals Q E hr => L A outer s H f c clos us vs vals Q E (hr.mono h)
theorem DefOk.mono {P : Program} {w : World} {K : PySem.W.Frag} {mg : Str → Option Value} {base : Heap} {j k : Nat} {d : DefD} {fv ps : List Str} {sp : List V → Sp} (L : DefOk P w K mg base j d fv ps sp) (h : j ≤ k) : DefOk P w K mg base k d fv ps sp := fun A outer s H f c clos us vs vals Q E hr => L A outer s H f c clos us vs vals Q E (hr.mono h)
theorem TabsOk.untrs {tabs : Tabs} {H : Hp} {clos : List (Str × Addr)} {vals : List V} (hT : TabsOk tabs H) (ca : CellsAt H clos vals) : TabsOk tabs (untrs H (clos.map (·.2))) := fun q hq => by
  obtain ⟨ps, e1, e2, e3⟩ := hT q hq
  exact ⟨ps, untrs_of ca e1 (fun v z => nomatch z), e2, fun l hl => (e3 l hl).imp id fun ⟨c, x, y⟩ => ⟨c, x, untrs_of ca y fun v => code_ne_cell⟩⟩
theorem back {H H' H3 : Hp} {clos : List (Str × Addr)} (s : SameT (untrs H (clos.map (·.2))) H') (s3 : Same H' H3) (hc : ∀ p ∈ clos, H3 p.2 = H p.2) : SameT H H3 := fun b o e => by
  by_cases hb : b ∈ clos.map (·.2)
  · obtain ⟨p, hp, rfl⟩ := List.mem_map.mp hb
    rw [hc p hp, e]
    exact ⟨fun _ => rfl, o, rfl⟩
  · exact (s.trans s3.t) b o (by rw [untrs_out hb]; exact e)
theorem Keep.of {es : List Addr} {H H' : Hp} (s : Same H H') : Keep es H H' := fun b o _ e => s b o e
theorem Keep.trans {es : List Addr} {H H1 H2 : Hp} (k : Keep es H H1) (k' : Keep es H1 H2) : Keep es H H2 := fun b o n e => k' b o n (k b o n e)
theorem Keep.mono {es fs : List Addr} {H H' : Hp} (k : Keep es H H') (h : ∀ b ∈ es, b ∈ fs) : Keep fs H H' := fun b o n e => k b o (fun z => n (h b z)) e
theorem backK {es : List Addr} {H H' H3 : Hp} {clos : List (Str × Addr)} (k : Keep es (untrs H (clos.map (·.2))) H') (s3 : Same H' H3) (hc : ∀ p ∈ clos, H3 p.2 = H p.2) : Keep es H H3 := fun b o n e => by
  by_cases hb : b ∈ clos.map (·.2)
  · obtain ⟨p, hp, rfl⟩ := List.mem_map.mp hb
    rw [hc p hp]; exact e
  · exact s3 _ _ (k b o n (by rw [untrs_out hb]; exact e))
theorem cells_mem' {H : Hp} {b : Addr} : ∀ {clos : List (Str × Addr)} {vals : List V}, CellsAt H clos vals → b ∈ clos.map (·.2) → ∃ v ∈ vals, H b = some (.ext (CellX b v))
  | _, _, .nil, h => by cases h
  | _, _, .cons r t, h => by
    rcases List.mem_cons.mp h with rfl | h
    · exact ⟨_, List.mem_cons_self .., r⟩
    · obtain ⟨v, hv, e⟩ := cells_mem' t h
      exact ⟨v, List.mem_cons_of_mem _ hv, e⟩
theorem cells_un {H : Hp} {clos' : List (Str × Addr)} {vals' : List V} (ca' : CellsAt H clos' vals') (hr : ∀ v ∈ vals', ∃ p, v = .ref p) : ∀ {clos : List (Str × Addr)} {vals : List V}, (∀ v ∈ vals, v ∉ vals') → CellsAt H clos vals → CellsAt (untrs H (clos'.map (·.2))) clos vals
  | _, _, _, .nil => .nil
  | _, _, hd, .cons r t => by
    refine .cons ?_ (cells_un ca' hr (fun v hv => hd v (List.mem_cons_of_mem _ hv)) t)
    rw [untrs_out fun z => ?_]
    · exact r
    · obtain ⟨v', hv', e⟩ := cells_mem' ca' z
      obtain ⟨p, rfl⟩ := hr v' hv'
      rw [r] at e
      have e' := cell_ref (Option.some.inj e).symm
      exact hd _ (List.mem_cons_self ..) (by rw [e']; exact hv')
theorem codeT_ne_cell {c : Addr} {q : Str} {T : Addr} {v : V} : HO.ext (CodeT c q T) ≠ HO.ext (CellX c v) := fun e => by
  injection e with e
  obtain ⟨h, hh⟩ := heap_at c { cls := .type "cell", data := .cell (some .none) } (by intro z; cases z)
  have no : ¬ CellX c v h := by
    intro y
    rw [← e] at y
    obtain ⟨⟨o, vs, t, e1, e2, _⟩, _⟩ := y
    rw [hh] at e1; cases e1; cases e2
  obtain ⟨u, hu⟩ : ∃ u, RelV v u := by
    cases v <;> first | exact ⟨_, rfl⟩ | exact ⟨_, 0, rfl⟩ | exact ⟨_, _, rfl⟩
  obtain ⟨h2, hh2⟩ := heap_at c { cls := .type "cell", data := .cell (some u) } (by intro z; cases z)
  have y : CellX c v h2 := ⟨_, u, hh2, rfl, hu⟩
  rw [← e] at y
  obtain ⟨⟨o, vs, t, e1, e2, _⟩, _⟩ := y
  rw [hh2] at e1; cases e1; cases e2
abbrev fvC : List Str := ["make", "carry"]
abbrev fvB : List Str := ["go"]
abbrev fvN : List Str := ["_law_many", "_law_asked_here"]
abbrev fvI : List Str := ["_law_kept_here"]
abbrev le_in : Expr := (tupE (lstE (argE ld_L_late_1.body 0) 0) 1)
def ld_in : LamD := lamOf (((((("_law_late" : Str) ++ ".<locals>.") ++ "<lambda>")) ++ ".<locals>.") ++ "<lambda>") le_in
def IsDef (H : Hp) (d : DefD) (fv : List Str) (v : V) (vals : List V) : Prop := ∃ f c clos, v = .ref f ∧ H f = some (.ext (DefX f d clos c)) ∧ H c = some (.ext (CodeX c d.qual)) ∧ clos.map (·.1) = fv ∧ (clos.map (·.2)).Nodup ∧ CellsAt H clos vals
theorem IsDef.t {H H' : Hp} {d : DefD} {fv : List Str} {v : V} {vals : List V} (s : SameT H H') (h : IsDef H d fv v vals) : IsDef H' d fv v vals := by
  obtain ⟨f, c, clos, h1, h2, h3, h4, h5, h6⟩ := h
  exact ⟨f, c, clos, h1, s.at h2, s.at h3, h4, h5, cells_t s h6⟩
def IsGo (H : Hp) (T : Addr) (v : V) : Prop := ∃ f c, v = .ref f ∧ H f = some (.ext (LamX f ld_L_late_1 [] c)) ∧ H c = some (.ext (CodeT c ld_L_late_1.qual T)) ∧ H T = some (.ext (TabX T))
theorem IsGo.t {H H' : Hp} {T : Addr} {v : V} (s : SameT H H') (h : IsGo H T v) : IsGo H' T v := by
  obtain ⟨f, c, h1, h2, h3, h4⟩ := h
  exact ⟨f, c, h1, s.at h2, s.at h3, s.at h4⟩
theorem IsGo.un {H : Hp} {T : Addr} {v : V} {clos : List (Str × Addr)} {vals : List V} (ca : CellsAt H clos vals) (h : IsGo H T v) : IsGo (untrs H (clos.map (·.2))) T v := by
  obtain ⟨f, c, h1, h2, h3, h4⟩ := h
  exact ⟨f, c, h1, untrs_of ca h2 fun _ => lam_ne_cell, untrs_of ca h3 fun _ => codeT_ne_cell, untrs_of ca h4 fun _ => tab_ne_cell⟩
theorem keepX {l : Addr} {xs : List V} {H H' : Hp} (hl : H l = some (.lst xs)) (k : Keep [l] H H') {b : Addr} {φ : Heap → Prop} (e : H b = some (.ext φ)) : H' b = some (.ext φ) := k b _ (fun z => by rw [List.mem_singleton.mp z, hl] at e; cases e) e
theorem cells_k {l : Addr} {xs : List V} {H H' : Hp} (hl : H l = some (.lst xs)) (k : Keep [l] H H') : ∀ {clos : List (Str × Addr)} {vals : List V}, CellsAt H clos vals → CellsAt H' clos vals
  | _, _, .nil => .nil
  | _, _, .cons r t => .cons (keepX hl k r) (cells_k hl k t)
theorem IsGo.k {l : Addr} {xs : List V} {H H' : Hp} {T : Addr} {v : V} (hl : H l = some (.lst xs)) (k : Keep [l] H H') (h : IsGo H T v) : IsGo H' T v := by
  obtain ⟨f, c, h1, h2, h3, h4⟩ := h
  exact ⟨f, c, h1, keepX hl k h2, keepX hl k h3, keepX hl k h4⟩
theorem IsLam.k {l : Addr} {xs : List V} {H H' : Hp} {d : LamD} {fv : List Str} {v : V} {vals : List V} (hl : H l = some (.lst xs)) (k : Keep [l] H H') (h : IsLam H d fv v vals) : IsLam H' d fv v vals := by
  obtain ⟨f, c, clos, h1, h2, h3, h4, h5, h6⟩ := h
  exact ⟨f, c, clos, h1, keepX hl k h2, keepX hl k h3, h4, h5, cells_k hl k h6⟩
theorem IsDef.k {l : Addr} {xs : List V} {H H' : Hp} {d : DefD} {fv : List Str} {v : V} {vals : List V} (hl : H l = some (.lst xs)) (k : Keep [l] H H') (h : IsDef H d fv v vals) : IsDef H' d fv v vals := by
  obtain ⟨f, c, clos, h1, h2, h3, h4, h5, h6⟩ := h
  exact ⟨f, c, clos, h1, keepX hl k h2, keepX hl k h3, h4, h5, cells_k hl k h6⟩
theorem tabs_k {tabs : Tabs} {l : Addr} {xs : List V} {H H' : Hp} (hl : H l = some (.lst xs)) (k : Keep [l] H H') (hT : TabsOk tabs H) : TabsOk tabs H' := fun q hq => by
  obtain ⟨ps, e1, e2, e3⟩ := hT q hq
  exact ⟨ps, k _ _ (fun z => by rw [List.mem_singleton.mp z, hl] at e1; cases e1) e1, e2, fun l' hl' => (e3 l' hl').imp id fun ⟨c, x, y⟩ => ⟨c, x, keepX hl k y⟩⟩
def thr : V → Option Int
  | .int i => some i
  | _ => none
def inR (lo hi : Int) : Option Int → Bool
  | some i => decide (lo ≤ i ∧ i ≤ hi)
  | none => false
def tot {α : Type} (ps : List (Int × α)) : Int := (ps.map (·.1)).sum
def pick {α : Type} : List (Int × α) → Int → Option α
  | [], _ => none
  | (m, t) :: r, k => if k < m then some t else pick r (k - m)
theorem tot_cons {α : Type} {m : Int} {u : α} {r : List (Int × α)} : tot ((m, u) :: r) = m + tot r := by simp [tot]
theorem pick_some {α : Type} : ∀ (ps : List (Int × α)) (t : Int), 0 ≤ t → t < tot ps → ∃ u, pick ps t = some u
  | [], t, h0, h1 => by simp [tot] at h1; omega
  | (m, u) :: r, t, h0, h1 => by
    unfold pick
    by_cases c : t < m
    · exact ⟨u, if_pos c⟩
    · rw [if_neg c]
      refine pick_some r (t - m) (by omega) ?_
      rw [tot_cons] at h1
      omega
theorem tot_nn {α : Type} : ∀ (l : List (Int × α)), (∀ p ∈ l, 0 ≤ p.1) → 0 ≤ tot l
  | [], _ => by simp [tot]
  | (m, u) :: r, h => by
    have a := h (m, u) (List.mem_cons_self ..)
    have b := tot_nn r fun p hp => h p (List.mem_cons_of_mem _ hp)
    rw [tot_cons]
    simp at a
    omega
theorem pick_at {α : Type} : ∀ (ps : List (Int × α)) (k : Nat) (t m : Int) (u : α), (∀ p ∈ ps, 0 ≤ p.1) → ps[k]? = some (m, u) → tot (ps.take k) ≤ t → t < tot (ps.take (k + 1)) → pick ps t = some u
  | [], k, t, m, u, _, h, _, _ => by simp at h
  | (m0, u0) :: r, 0, t, m, u, hp, h, h0, h1 => by
    simp at h
    obtain ⟨rfl, rfl⟩ := h
    unfold pick
    rw [if_pos (by simpa [tot] using h1)]
  | (m0, u0) :: r, k + 1, t, m, u, hp, h, h0, h1 => by
    have e1 : tot (((m0, u0) :: r).take (k + 1)) = m0 + tot (r.take k) := by simp [tot]
    have e2 : tot (((m0, u0) :: r).take (k + 1 + 1)) = m0 + tot (r.take (k + 1)) := by simp [tot]
    have n1 := tot_nn (r.take k) fun p h => hp p (List.mem_cons_of_mem _ (List.mem_of_mem_take h))
    unfold pick
    rw [if_neg (by omega)]
    exact pick_at r k (t - m0) m u (fun p h => hp p (List.mem_cons_of_mem _ h)) (by simpa using h) (by omega) (by omega)
theorem tot_succ {α : Type} {ps : List (Int × α)} {k : Nat} {m : Int} {u : α} (h : ps[k]? = some (m, u)) : tot (ps.take (k + 1)) = tot (ps.take k) + m := by
  rw [List.take_add_one, h]
  simp [tot]
def RowR (H : Hp) (pt : Int × V) (y : V) : Prop := ∃ q, y = .ref q ∧ H q = some (.tup [.int pt.1, pt.2]) ∧ 1 ≤ pt.1
theorem RowR.t {H H' : Hp} (s : SameT H H') (pt : Int × V) (y : V) (h : RowR H pt y) : RowR H' pt y := by
  obtain ⟨q, h1, h2, h3⟩ := h
  exact ⟨q, h1, s.at h2, h3⟩
def IsRaw (a : Ad) (H : Hp) (v : V) (rs : List (Int × V)) : Prop := ∃ x dx l ys, v = .ref x ∧ H x = some (.ins a.c_Die dx [("makes", .ref l)]) ∧ H l = some (.lst ys) ∧ Paired (RowR H) rs ys ∧ 1 ≤ rs.length ∧ rs.length ≤ 5
theorem IsRaw.t {a : Ad} {H H' : Hp} {v : V} {rs : List (Int × V)} (s : SameT H H') (h : IsRaw a H v rs) : IsRaw a H' v rs := by
  obtain ⟨x, dx, l, ys, h1, h2, h3, h4, h5, h6⟩ := h
  exact ⟨x, dx, l, ys, h1, s.at h2, s.at h3, paired_imp (RowR.t s) h4, h5, h6⟩
theorem raw_pos {a : Ad} {H : Hp} {v : V} {rs : List (Int × V)} (h : IsRaw a H v rs) : ∀ p ∈ rs, 1 ≤ p.1 := by
  obtain ⟨x, dx, l, ys, h1, h2, h3, h4, h5, h6⟩ := h
  clear h5 h6 h3
  induction h4 with
  | nil => intro p hp; cases hp
  | cons r _ ih =>
    intro p hp
    rcases List.mem_cons.mp hp with rfl | hp
    · obtain ⟨_, _, _, g1⟩ := r
      exact g1
    · exact ih p hp
def IsDieK (a : Ad) (H : Hp) (v w : V) : Prop := ∃ f, IsRaw a H v [(2, f)] ∧ IsLam H ld_in fvI f [w]
theorem IsDieK.t {a : Ad} {H H' : Hp} {v w : V} (s : SameT H H') (h : IsDieK a H v w) : IsDieK a H' v w := by
  obtain ⟨f, h1, h2⟩ := h
  exact ⟨f, h1.t s, h2.t s⟩
def sqO : HO → Bool
  | .lst _ => true
  | .tup _ => true
  | _ => false
def SqH (H : Hp) : Prop := ∀ b o, H b = some o → sqO o = true
def sqH (H : Hp) : Hp := fun b => match H b with
  | some o => if sqO o = true then some o else none
  | none => none
theorem sqH_some {H : Hp} {b : Addr} {o : HO} (e : sqH H b = some o) : H b = some o ∧ sqO o = true := by
  unfold sqH at e
  cases h : H b with
  | none => rw [h] at e; cases e
  | some o' =>
    rw [h] at e
    dsimp only at e
    by_cases c : sqO o' = true
    · rw [if_pos c] at e; cases e; exact ⟨rfl, c⟩
    · rw [if_neg c] at e; cases e
theorem sqH_in {H : Hp} {b : Addr} {o : HO} (c : sqO o = true) (e : H b = some o) : sqH H b = some o := by
  unfold sqH
  rw [e]
  exact if_pos c
theorem sqH_sq {H : Hp} : SqH (sqH H) := fun b o e => (sqH_some e).2
theorem IsTree.m {H H' : Hp} (s : ∀ b o, sqO o = true → H b = some o → H' b = some o) : ∀ d v t, IsTree H d v t → IsTree H' d v t
  | d, v, .leaf ns, h => by
    obtain ⟨p, h1, h2, h3⟩ := (isTree_leaf d).mp h
    exact (isTree_leaf d).mpr ⟨p, h1, s _ _ rfl h2, h3⟩
  | 0, v, .die ps, h => False.elim h
  | d + 1, v, .die ps, h => by
    obtain ⟨p, vs, h1, h2, h3, h4, h5⟩ := h
    exact ⟨p, vs, h1, s _ _ rfl h2, paired_imp (fun pt x ⟨q, w, g1, g2, g3, g4, g5⟩ => ⟨q, w, g1, s _ _ rfl g2, g3, g4, IsTree.m s d _ _ g5⟩) h3, h4, h5⟩
def spL (a : Ad) : List V → Sp := fun vals vs H Q _ => ∃ w d t H0, vals = [w] ∧ vs = [] ∧ IsTree H0 d w t ∧ SameT H0 H ∧ TabsOk (tabs a) H ∧ SqH H0 ∧ ∀ H' u, SameT H H' → TabsOk (tabs a) H' → IsNode a H0 H' d u t → NewL a H H' u → Q u H'
def spAsked (a : Ad) : List V → Sp := fun vals vs H Q _ => ∃ l k xs, vals = [.int k, .ref l] ∧ vs = [] ∧ H l = some (.lst xs) ∧ xs.length ≤ 1000 ∧ 0 ≤ k ∧ k < 100 ∧ ∀ H' u, Keep [l] H H' → H' l = some (.lst (xs ++ [.int k])) → IsTold a H' u [k] → Q u H'
def spIn (a : Ad) : List V → Sp := fun vals vs H Q _ => ∃ t ns, vals = [.ref t] ∧ vs = [] ∧ H t = some (.tup (ns.map V.int)) ∧ ns.length < 64 ∧ ∀ H' u, Same H H' → IsTold a H' u ns → Q u H'
def On (a : Ad) (T : Addr) (w : V) (H : Hp) (Q : VK) : Prop := TabsOk (tabs a) H ∧ (∀ q ∈ tabs a, q.1 ≠ T) ∧ ∀ H' v, Keep [T] H H' → TabsOk (tabs a) H' → IsDieK a H' v w → Q v H'
def spGo (a : Ad) (T : Addr) : Sp := fun vs H Q _ => ∃ w, vs = [w] ∧ On a T w H Q
def spBehT (a : Ad) : Sp := fun vs H Q _ => ∃ x dx t T g, vs = [.ref x, g] ∧ H x = some (.ins a.c_Told dx [("rising", .ref t)]) ∧ IsGo H T g ∧ On a T (.ref t) H Q
def spBeh1 (a : Ad) : List V → Sp := fun vals vs H Q _ => ∃ x dx t T g, vals = [g] ∧ vs = [.ref x] ∧ H x = some (.ins a.c_Told dx [("rising", .ref t)]) ∧ IsGo H T g ∧ On a T (.ref t) H Q
def spCar (a : Ad) : List V → Sp := fun vals vs H Q _ => ∃ cr mk l k xs T g, vals = [mk, cr] ∧ vs = [] ∧ IsDef H dd_L_noted_1 fvN mk [.int k, .ref l] ∧ H l = some (.lst xs) ∧ xs.length ≤ 1000 ∧ 0 ≤ k ∧ k < 100 ∧ IsLam H ld_behind_1 fvB cr [g] ∧ IsGo H T g ∧ TabsOk (tabs a) H ∧ (∀ q ∈ tabs a, q.1 ≠ T) ∧
  ∀ H' v t, Keep [l, T] H H' → TabsOk (tabs a) H' → H' l = some (.lst (xs ++ [.int k])) → H' t = some (.tup [.int k]) → IsDieK a H' v (.ref t) → Q v H'
theorem lsT : LamScope ld_L_make_1 fvT [] := ⟨rfl, rfl, rfl, by decide +kernel, by decide +kernel, by decide +kernel, by decide +kernel, by decide +kernel⟩
theorem lsC : LamScope ld_carried_make_1 fvC [] := ⟨rfl, rfl, rfl, by decide +kernel, by decide +kernel, by decide +kernel, by decide +kernel, by decide +kernel⟩
theorem lsB : LamScope ld_behind_1 fvB ["after"] := ⟨rfl, rfl, rfl, by decide +kernel, by decide +kernel, by decide +kernel, by decide +kernel, by decide +kernel⟩
theorem lsI : LamScope ld_in fvI [] := ⟨rfl, rfl, rfl, by decide +kernel, by decide +kernel, by decide +kernel, by decide +kernel, by decide +kernel⟩
theorem lsN : LamScope dd_L_noted_1.l fvN [] := ⟨rfl, rfl, rfl, by decide +kernel, by decide +kernel, by decide +kernel, by decide +kernel, by decide +kernel⟩
theorem lsG : FnScope fvI fvI ld_L_late_1.scope := ⟨rfl, rfl, rfl, by decide +kernel, rfl, by decide +kernel, by decide +kernel⟩
def spIsW : Sp := fun vs H Q _ => ∃ (x : V) (lo hi : Int), vs = [x, .int lo, .int hi] ∧ isThr x = true ∧ Q (.bl (inR lo hi (thr x))) H
def spV (u : V) : Sp := fun vs H Q _ => ∃ v, vs = [v] ∧ Q u H
def spTK (a : Ad) : Sp := fun vs H Q _ => ∃ x dx t, vs = [.ref x] ∧ H x = some (.ins a.c_Told dx [("rising", .ref t)]) ∧ Q (.ref t) H
def spDS (a : Ad) : Sp := fun vs H Q _ => ∃ v rs, vs = [v] ∧ IsRaw a H v rs ∧ ∀ H', Same H H' → Q (.int (tot rs)) H'
def spCan (a : Ad) : Sp := fun vs H Q _ => ∃ v x rs, vs = [v, x] ∧ isThr x = true ∧ IsRaw a H v rs ∧ ∀ H', Same H H' → Q (.bl (inR 0 (tot rs - 1) (thr x))) H'
section
variable {P : Program} {w : World} {K : PySem.W.Frag} {mg : Str → Option Value} {base : Heap} {a : Ad}
theorem ok_isw (T : Txt K mg a) : FnOk P w K mg base CX0 1 a.f_is_whole a.d_is_whole ["thing", "low", "high"] spIsW := by
  refine T.F_is_whole.ok sc_is_whole (fun vs H Q E h => ?_) (fun cdv A outer s H vs Q E hr h => ?_)
  · obtain ⟨x, lo, hi, rfl, _⟩ := h; rfl
  · obtain ⟨x, lo, hi, rfl, th, q⟩ := h
    refine ⟨_, (pss_one (ps_ret (m_and (pe_callB call_isi rfl T.z_isinstance bt_isinstance (pa_cons (vr 0) (pa_cons (pe_bltn (v := .ty "int") rfl T.z_int bt_int rfl) pa_nil))) (m_and (m_not (pe_callB call_isi rfl T.z_isinstance bt_isinstance (pa_cons (vr 0) (pa_cons (pe_bltn (v := .ty "bool") rfl T.z_bool bt_bool rfl) pa_nil)))) (pe_one (m_chain o_le o_le (vr 1) (vr 0) (vr 2))))))), ?_⟩
    match x, th with
    | .int i, _ =>
      refine ⟨_, _, _, true, rfl, rfl, .int i, rfl, ?_⟩
      refine ⟨_, _, _, false, rfl, rfl, .int i, rfl, ?_⟩
      exact and_if (Q := fun v => Q v H) q
    | .bl b, _ => exact ⟨_, _, _, true, rfl, rfl, .bl b, rfl, ⟨_, _, _, true, rfl, rfl, .bl b, rfl, q⟩⟩
    | .non, _ => exact ⟨_, _, _, false, rfl, rfl, .non, rfl, q⟩
    | .str t, _ => exact ⟨_, _, _, false, rfl, rfl, .str t, rfl, q⟩
theorem ok_tt (T : Txt K mg a) : FnOk P w K mg base CX0 1 a.x_Told_is_told a.y_Told_is_told ["self"] (spV (.bl true)) := by
  refine T.F_Told_is_told.ok sc_Told_is_told (fun vs H Q E h => ?_) (fun cdv A outer s H vs Q E hr h => ?_)
  · obtain ⟨v, rfl, _⟩ := h; rfl
  · obtain ⟨v, rfl, q⟩ := h
    exact ⟨_, (pss_one (ps_ret pe_bl)), q⟩
theorem ok_ts (T : Txt K mg a) : FnOk P w K mg base CX0 1 a.x_Told_sides a.y_Told_sides ["self"] (spV (.int 0)) := by
  refine T.F_Told_sides.ok sc_Told_sides (fun vs H Q E h => ?_) (fun cdv A outer s H vs Q E hr h => ?_)
  · obtain ⟨v, rfl, _⟩ := h; rfl
  · obtain ⟨v, rfl, q⟩ := h
    exact ⟨_, (pss_one (ps_ret pe_int)), q⟩
theorem ok_tk (T : Txt K mg a) : FnOk P w K mg base CX0 1 a.x_Told_kept a.y_Told_kept ["self"] (spTK a) := by
  refine T.F_Told_kept.ok sc_Told_kept (fun vs H Q E h => ?_) (fun cdv A outer s H vs Q E hr h => ?_)
  · obtain ⟨x, dx, t, rfl, _⟩ := h; rfl
  · obtain ⟨x, dx, t, rfl, hx, q⟩ := h
    exact ⟨_, (pss_one (ps_ret (pe_fld (vr 0) rfl))), x, _, dx, _, _, rfl, hx, T.cl_Told, T.na_Told_rising, rfl, q⟩
theorem ok_dt (T : Txt K mg a) : FnOk P w K mg base CX0 1 a.x_Die_is_told a.y_Die_is_told ["self"] (spV (.bl false)) := by
  refine T.F_Die_is_told.ok sc_Die_is_told (fun vs H Q E h => ?_) (fun cdv A outer s H vs Q E hr h => ?_)
  · obtain ⟨v, rfl, _⟩ := h; rfl
  · obtain ⟨v, rfl, q⟩ := h
    exact ⟨_, (pss_one (ps_ret pe_bl)), q⟩
theorem ok_dk (T : Txt K mg a) : FnOk P w K mg base CX0 1 a.x_Die_kept a.y_Die_kept ["self"] (spV .non) := by
  refine T.F_Die_kept.ok sc_Die_kept (fun vs H Q E h => ?_) (fun cdv A outer s H vs Q E hr h => ?_)
  · obtain ⟨v, rfl, _⟩ := h; rfl
  · obtain ⟨v, rfl, q⟩ := h
    exact ⟨_, (pss_one (ps_ret pe_non)), q⟩
theorem ok_asked (T : Txt K mg a) : DefOk P w K mg base 3 dd_L_noted_1 fvN [] (spAsked a) := by
  have G_Told : FnOk P w K mg base CX0 1 _ _ _ (spToldI a) := oi_Told T
  refine def_of lsN (fun doc pm ctv clos c us hl => match us, hl with | [], _ => rfl) (fun vals vs H Q E h => ?_) (fun A outer s H f c clos vals vs Q E hr hfv ca h => ?_)
  · obtain ⟨l, k, xs, rfl, rfl, _⟩ := h; rfl
  · obtain ⟨l, k, xs, rfl, rfl, hl, hx, k0, k1, q⟩ := h
    have small : sizeLine = 16777216 := sizeLine_eq
    refine ⟨_, (pss_cons (ps_expr (pe_m.append (vr 1) (pa_cons (vr 0) pa_nil))) (pss_one (ps_ret (pe_make T.mk_Told G_Told hr rfl T.mc_Told T.Bi_Told .nil pass0 (pa_cons (pe_lst (pa_cons (pe_op o_mod (vr 0) pe_int) pa_nil)) pa_nil))))), ?_⟩
    have hl1 : untrs H (clos.map (·.2)) l = some (.lst xs) := untrs_of ca hl fun v z => nomatch z
    refine ⟨.inl ⟨rfl, _, SqL.of hl1⟩, ⟨l, _, _, rfl, rfl, hl1, by omega, ?_⟩⟩
    have kp1 : Keep [l] (untrs H (clos.map (·.2))) (upd (untrs H (clos.map (·.2))) l (.lst (xs ++ [.int k]))) := fun b o n e => by rw [upd_ne fun z => n (by rw [z]; exact List.mem_singleton.mpr rfl)]; exact e
    have e1 : (upd (untrs H (clos.map (·.2))) l (.lst (xs ++ [.int k]))) l = some (.lst (xs ++ [.int k])) := upd_same
    generalize upd (untrs H (clos.map (·.2))) l (.lst (xs ++ [.int k])) = H1 at kp1 e1
    refine ⟨cp, by show 1 ≤ sizeLine; decide, fun p fp => ?_⟩
    have s2 := Same.new (o := .lst [.int (k % 100)]) fp
    have hp2 : (upd H1 p (.lst [.int (k % 100)])) p = some (.lst [.int (k % 100)]) := upd_same
    generalize upd H1 p (.lst [.int (k % 100)]) = H2 at s2 hp2
    intro x dx hx hdx hne
    have s9 : Same H2 (upd (upd H2 dx (.own x)) x (.ins a.c_Told dx [])) := fun b o e => by rw [upd_ne (ne_of_none e hx), upd_ne (ne_of_none e hdx)]; exact e
    refine ⟨x, dx, p, [k % 100], rfl, upd_same, .inl (s9 _ _ hp2), (show ([k % 100] : List Int).length < 64 by simp), fun H' t ns' kk g1 g2 g3 => ⟨rfl, fun H3 s3 hc => ?_⟩⟩
    have sm := s2.trans (made hx hdx kk)
    rw [show k % 100 = k by omega] at g3
    exact q H3 (.ref x) (backK (Keep.trans kp1 (Keep.of sm)) s3 hc) (s3 _ _ (sm _ _ e1)) ⟨x, dx, t, ns', rfl, s3 _ _ g1, s3 _ _ g2, g3⟩
theorem ok_in (T : Txt K mg a) : LamOk P w K mg base 3 ld_in fvI [] (spIn a) := by
  have G_Told : FnOk P w K mg base CX0 1 _ _ _ (spToldI a) := oi_Told T
  refine lam_of lsI (fun pm ctv clos c us hl => match us, hl with | [], _ => rfl) (fun vals vs H Q E h => ?_) (fun A outer s H f c clos vals vs Q E hr hfv ca h => ?_)
  · obtain ⟨t, ns, rfl, rfl, _⟩ := h; rfl
  · obtain ⟨t, ns, rfl, rfl, ht, hn, q⟩ := h
    refine ⟨_, (pe_make T.mk_Told G_Told hr rfl T.mc_Told T.Bi_Told .nil pass0 (pa_cons (vr 0) pa_nil)), ?_⟩
    have ht1 : untrs H (clos.map (·.2)) t = some (.tup (ns.map V.int)) := untrs_of ca ht fun v z => nomatch z
    generalize hU : untrs H (clos.map (·.2)) = U at ht1
    intro x dx hx hdx hne
    have s9 : Same U (upd (upd U dx (.own x)) x (.ins a.c_Told dx [])) := fun b o e => by rw [upd_ne (ne_of_none e hx), upd_ne (ne_of_none e hdx)]; exact e
    refine ⟨x, dx, t, ns, rfl, upd_same, .inr (s9 _ _ ht1), hn, fun H' t' ns' kk g1 g2 g3 => ⟨rfl, fun H3 s3 hc => ?_⟩⟩
    have sm := made hx hdx kk
    rw [← hU] at sm
    refine q H3 (.ref x) (fun b o e => (backK (es := []) (Keep.of sm) s3 hc) b o (by simp) e) ⟨x, dx, t', ns', rfl, s3 _ _ g1, s3 _ _ g2, g3⟩
theorem ok_go (T : Txt K mg a) (hB : Bm mg base) : LamOkT P w K mg base 3 ld_L_late_1 (spGo a) := by
  have G_Die : FnOk P w K mg base CX0 1 _ _ _ (spDieI a) := oi_Die T
  refine lam_ofC (N := fvI) (ps := fvI) lsG (by decide +kernel) (fun pm ctv c us hl => match us, hl with | [_], _ => rfl) (fun T' vs H Q E h => ?_) (fun A outer s H f c Tb vs Q E hr hc hTb h => ?_)
  · obtain ⟨t, rfl, _⟩ := h; rfl
  · obtain ⟨t, rfl, hT, hnt, q⟩ := h
    refine ⟨_, (pe_make T.mk_Die G_Die hr rfl T.mc_Die T.Bi_Die .nil pass0 (pa_cons (pe_lst (pa_cons (pe_tup (pa_cons pe_int (pa_cons (pe_lamT (d := ld_in) (b := false) rfl hB rfl (by with_unfolding_all rfl) rfl (tabs := tabs a)) pa_nil))) pa_nil)) pa_nil)), ?_⟩
    refine ⟨Tb, .inr ⟨_, hc, hTb⟩, hnt, hT, fun f1 c1 T1 H1 kp _ hT1 f0 c0 t0 ef ec et => ?_⟩
    refine ⟨by show 2 ≤ sizeLine; decide, fun q1 fq => ?_⟩
    have s2 := Same.new (o := .tup [.int 2, .ref f1]) fq
    have eq2 : (upd H1 q1 (.tup [.int 2, .ref f1])) q1 = some (.tup [.int 2, .ref f1]) := upd_same
    generalize upd H1 q1 (.tup [.int 2, .ref f1]) = H2 at s2 eq2
    refine ⟨by show 1 ≤ sizeLine; decide, fun l1 fl => ?_⟩
    have s3 := Same.new (o := .lst [.ref q1]) fl
    have el3 : (upd H2 l1 (.lst [.ref q1])) l1 = some (.lst [.ref q1]) := upd_same
    generalize upd H2 l1 (.lst [.ref q1]) = H3 at s3 el3
    intro x dx hx hdx hne
    have s9 : Same H3 (upd (upd H3 dx (.own x)) x (.ins a.c_Die dx [])) := fun b o e => by rw [upd_ne (ne_of_none e hx), upd_ne (ne_of_none e hdx)]; exact e
    refine ⟨x, dx, l1, _, rfl, upd_same, s9 _ _ el3, fun H' t' ft kk g1 g2 => ⟨rfl, fun H4 s4 hcl => ?_⟩⟩
    have sm := (s2.trans s3).trans ((made hx hdx kk).trans s4)
    refine q H4 (.ref x) (Keep.trans kp (Keep.of sm)) (hT1.same sm) ⟨.ref f1, ⟨x, dx, t', [.ref q1], rfl, s4 _ _ g1, s4 _ _ g2, .cons ⟨q1, rfl, (s3.trans ((made hx hdx kk).trans s4)) _ _ eq2, (by decide : (1 : Int) ≤ 2)⟩ .nil, Nat.le_refl 1, (by decide : 1 ≤ 5)⟩, ?_⟩
    exact ⟨f1, c1, _, rfl, sm _ _ ef, sm _ _ ec, rfl, by simp, .cons (hcl 0 _ _ _ rfl rfl (by with_unfolding_all rfl)) .nil⟩
theorem ok_behT (T : Txt K mg a) (hB : Bm mg base) : FnOk P w K mg base CX0 4 a.f_behind a.d_behind ["node", "go"] (spBehT a) := by
  have L_go : LamOkT P w K mg base 3 ld_L_late_1 (spGo a) := ok_go T hB
  have G_Told_is_told : FnOk P w K mg base CX0 3 _ _ _ (spV (.bl true)) := (ok_tt T).mono (by decide)
  have G_Die_is_told : FnOk P w K mg base CX0 3 _ _ _ (spV (.bl false)) := (ok_dt T).mono (by decide)
  have G_Told_kept : FnOk P w K mg base CX0 3 _ _ _ (spTK a) := (ok_tk T).mono (by decide)
  have G_Die_kept : FnOk P w K mg base CX0 3 _ _ _ (spV .non) := (ok_dk T).mono (by decide)
  have G_Die_carried : FnOk P w K mg base CX0 3 a.x_Die_carried a.y_Die_carried ["self", "carry"] spNo := ok_no
  refine T.F_behind.okL T.lcd_behind sc_behind (by decide +kernel) (fun vs H Q E h => ?_) (fun A outer s H vs Q E hr h => ?_)
  · obtain ⟨x, dx, t, T', g, rfl, _⟩ := h; rfl
  · obtain ⟨x, dx, t, T', g, rfl, hx, hg, hon⟩ := h
    refine ⟨_, (pr_cons (ps_if (t_val (PE.or (pe_meth0 (vr 0) T.cl_Told T.mt_Told_is_told G_Told_is_told hr T.B_Told_is_told .nil pass0) (pe_meth0 (vr 0) T.cl_Die T.mt_Die_is_told G_Die_is_told hr T.B_Die_is_told .nil pass0))) (pss_one (ps_ret (pe_callLT (vr 1) L_go hr (pa_cons (PE.or (pe_meth0 (vr 0) T.cl_Told T.mt_Told_kept G_Told_kept hr T.B_Told_kept .nil pass0) (pe_meth0 (vr 0) T.cl_Die T.mt_Die_kept G_Die_kept hr T.B_Die_kept .nil pass0)) pa_nil)))) pss_nil) (pr_ret (pe_meth (vr 0) T.cl_Die T.mt_Die_carried G_Die_carried hr T.B_Die_carried .nil pass0 (pa_cons (pe_lam (d := ld_behind_1) rfl T.lch_behind hB rfl (by with_unfolding_all rfl) rfl (tb_behind a) (.head _) T.tnd tp_behind) pa_nil)))), ?_⟩
    refine .inl ⟨x, dx, _, rfl, hx, rfl, _, rfl, ?_⟩
    obtain ⟨f, c, rfl, h2, h3, h4⟩ := hg
    refine ⟨⟨f, _, _, c, rfl, h2⟩, .inl ⟨x, dx, _, rfl, hx, rfl, x, dx, t, rfl, hx, fun _ _ _ _ _ e => e, f, c, T', rfl, h2, h3, h4, _, rfl, hon⟩⟩
theorem ok_beh1 (T : Txt K mg a) (hB : Bm mg base) : LamOk P w K mg base 5 ld_behind_1 fvB ["after"] (spBeh1 a) := by
  have G_behind : FnOk P w K mg base CX0 4 _ _ _ (spBehT a) := ok_behT T hB
  refine lam_of lsB (fun pm ctv clos c us hl => match us, hl with | [_], _ => rfl) (fun vals vs H Q E h => ?_) (fun A outer s H f c clos vals vs Q E hr hfv ca h => ?_)
  · obtain ⟨x, dx, t, T', g, rfl, rfl, _⟩ := h; rfl
  · obtain ⟨x, dx, t, T', g, rfl, rfl, hx, hg, hT, hnt, q⟩ := h
    refine ⟨_, (pe_call G_behind hr rfl T.m_behind T.F_behind.kp T.B_behind .nil pass0 (pa_cons (vr 0) (pa_cons (vr 1) pa_nil))), ?_⟩
    refine ⟨x, dx, t, T', g, rfl, untrs_of ca hx (fun v z => nomatch z), hg.un ca, TabsOk.untrs hT ca, hnt, fun H' v kp hT1 hk => fun H3 s3 hc => ?_⟩
    exact q _ _ (backK kp s3 hc) (hT1.same s3) (hk.t s3.t)
theorem ok_car (T : Txt K mg a) (hB : Bm mg base) : LamOk P w K mg base 6 ld_carried_make_1 fvC [] (spCar a) := by
  have D_asked : DefOk P w K mg base 5 dd_L_noted_1 fvN [] (spAsked a) := DefOk.mono (ok_asked T) (by decide)
  have L_beh : LamOk P w K mg base 5 ld_behind_1 fvB ["after"] (spBeh1 a) := ok_beh1 T hB
  refine lam_of lsC (fun pm ctv clos c us hl => match us, hl with | [], _ => rfl) (fun vals vs H Q E h => ?_) (fun A outer s H f c clos vals vs Q E hr hfv ca h => ?_)
  · obtain ⟨cr, mk, l, k, xs, T', g, rfl, rfl, _⟩ := h; rfl
  · obtain ⟨cr, mk, l, k, xs, T', g, rfl, rfl, hmk, hl, hxs, k0, k1, hcr, hg, hT, hnt, q⟩ := h
    refine ⟨_, (pe_callL (vr 1) L_beh hr (pa_cons (pe_callD0 (vr 0) D_asked hr) pa_nil)), ?_⟩
    obtain ⟨fA, cA, closA, rfl, a1, a2, a3, a4, a5⟩ := hmk
    obtain ⟨fB, cB, closB, rfl, b1, b2, b3, b4, b5⟩ := hcr
    obtain ⟨fg, cg, rfl, c1, c2, c3⟩ := id hg
    have refs : ∀ v ∈ ([.ref fA, .ref fB] : List V), ∃ p, v = .ref p := fun v hv => by
      simp only [List.mem_cons, List.not_mem_nil, or_false] at hv
      rcases hv with rfl | rfl <;> exact ⟨_, rfl⟩
    have a5' := cells_un ca refs (vals := [.int k, .ref l]) (fun v hv z => by
      simp only [List.mem_cons, List.not_mem_nil, or_false] at hv z
      rcases hv with rfl | rfl
      · rcases z with z | z <;> cases z
      · rcases z with z | z
        · cases z; rw [a1] at hl; cases hl
        · cases z; rw [b1] at hl; cases hl) a5
    have b5' := cells_un ca refs (vals := [.ref fg]) (fun v hv z => by
      simp only [List.mem_cons, List.not_mem_nil, or_false] at hv z
      subst hv
      rcases z with z | z
      · cases z
        rw [a1] at c1
        exact def_ne_lam (Option.some.inj c1)
      · cases z
        rw [b1] at c1
        exact absurd (lam_inj (Option.some.inj c1)) (by decide +kernel)) b5
    have hl1 : untrs H (clos.map (·.2)) l = some (.lst xs) := untrs_of ca hl fun v z => nomatch z
    have a1' := untrs_of ca a1 fun v => def_ne_cell
    have a2' := untrs_of ca a2 fun v => code_ne_cell
    have b1' := untrs_of ca b1 fun v => lam_ne_cell
    have b2' := untrs_of ca b2 fun v => code_ne_cell
    have hg' := hg.un ca
    have hT' := TabsOk.untrs hT ca
    refine ⟨⟨fB, _, _, cB, rfl, b1'⟩, fA, cA, closA, _, rfl, a1', a2', a3, a4, a5', l, k, xs, rfl, rfl, hl1, hxs, k0, k1, fun H1 u kp1 e1 hu => ?_⟩
    obtain ⟨x, dx, t, ns, rfl, u1, u2, u3⟩ := hu
    have hns : ns = [k] := List.perm_singleton.mp u3.1
    subst hns
    refine ⟨fun _ _ _ _ _ e => keepX hl1 kp1 e, fB, cB, closB, _, rfl, keepX hl1 kp1 b1', keepX hl1 kp1 b2', b3, b4, cells_k hl1 kp1 b5', x, dx, t, T', _, rfl, rfl, u1, hg'.k hl1 kp1, tabs_k hl1 kp1 hT', hnt, fun H2 v kp2 hT2 hk => fun H3 s3 hc => ?_⟩
    have nT : T' ≠ l := fun z => by rw [z, hl] at c3; cases c3
    have tT : t ≠ T' := fun z => by
      obtain ⟨_, _, _, _, _, z4⟩ := hg'.k hl1 kp1
      rw [z, z4] at u2; cases u2
    refine q H3 v t (backK (Keep.trans (Keep.mono kp1 (fun b hb => List.mem_cons.mpr (.inl (List.mem_singleton.mp hb)))) (Keep.mono kp2 (fun b hb => List.mem_cons_of_mem _ hb))) s3 hc) (hT2.same s3) (s3 _ _ (kp2 _ _ (fun z => nT (List.mem_singleton.mp z).symm) e1)) (s3 _ _ (kp2 _ _ (fun z => tT (List.mem_singleton.mp z)) u2)) (hk.t s3.t)
theorem ok_l (T : Txt K mg a) (hB : Bm mg base) : LamOk P w K mg base 4 ld_L_make_1 fvT [] (spL a) := by
  have G_L_node : FnOk P w K mg base CX0 3 _ _ _ (spNode a) := ok_node T hB
  refine lam_of lsT (fun pm ctv clos c us hl => match us, hl with | [], _ => rfl) (fun vals vs H Q E h => ?_) (fun A outer s H f c clos vals vs Q E hr hfv ca h => ?_)
  · obtain ⟨w', d, t, H0, rfl, rfl, _⟩ := h; rfl
  · obtain ⟨w', d, t, H0, rfl, rfl, ht, s0, hT, hcl, q⟩ := h
    refine ⟨_, (pe_call G_L_node hr rfl T.m_L_node T.F_L_node.kp T.B_L_node .nil pass0 (pa_cons (vr 0) pa_nil)), ?_⟩
    have s0' : SameT H0 (untrs H (clos.map (·.2))) := fun b o e => by
      have nb : b ∉ clos.map (·.2) := fun z => by
        obtain ⟨v, e'⟩ := ca.at z
        have c := hcl b o e
        have e2 := s0.at e (by cases o <;> first | rfl | cases c)
        rw [e'] at e2
        cases e2
        cases c
      rw [untrs_out nb]
      exact s0 b o e
    refine ⟨w', d, t, H0, rfl, ht, s0', TabsOk.untrs hT ca, fun H' v t' hT3 few nl => fun H3 s3 hc => ?_⟩
    refine q _ _ (back t' s3 hc) (hT3.same s3) (few.t s3.t) fun x dx l e1 e2 => ?_
    cases hh : H l with
    | none => rfl
    | some o =>
      exfalso
      subst e1
      cases t with
      | leaf ns =>
        obtain ⟨x', dx', t2, ns2, e3, g1, _⟩ := few
        cases e3
        rw [s3 _ _ g1] at e2
        injection e2 with e2
        injection e2 with _ _ e4
        injection e4 with e4 _
        injection e4 with e5 _
        exact absurd e5 (by decide)
      | die ps =>
        obtain ⟨d', _, x', dx', l', ys, e3, g1, g2, _⟩ := few
        cases e3
        rw [s3 _ _ g1] at e2
        cases e2
        have nl' := nl x dx l rfl g1
        by_cases hb : l ∈ clos.map (·.2)
        · obtain ⟨p, hp, e7⟩ := List.mem_map.mp hb
          obtain ⟨v', e8⟩ := ca.at hb
          have e9 := hc p hp
          rw [e7] at e9
          rw [s3 _ _ g2, e8] at e9
          cases e9
        · rw [untrs_out hb, hh] at nl'
          cases nl'
end
end My
set_option Elab.async false
set_option linter.all false
set_option maxRecDepth 100000
set_option maxHeartbeats 4000000
namespace My
open PySem L2 FrM
def Runs (a : Ad) (H1 : Hp) (f : V) (Q : VK) : Prop := rLam ld_L_make_1 fvT (spL a) f [] H1 Q ∨ rLam ld_carried_make_1 fvC (spCar a) f [] H1 Q ∨ rLam ld_in fvI (spIn a) f [] H1 Q ∨ rDef dd_L_noted_1 fvN (spAsked a) f [] H1 Q
def Ref (a : Ad) (H : Hp) (E : XK) : Prop := ∀ H' dx, Same H H' → H' dx = some (.ext (XDct dx [("place", .int 0)])) → E (.ref a.c_NoThrow) (some dx) H'
def spDA (a : Ad) : Sp := fun vs H Q E => ∃ v x rs, vs = [v, x] ∧ isThr x = true ∧ IsRaw a H v rs ∧ (inR 0 (tot rs - 1) (thr x) = true → ∃ t f, x = .int t ∧ pick rs t = some f ∧ ∀ H1, Same H H1 → Runs a H1 f Q) ∧ (inR 0 (tot rs - 1) (thr x) = false → Ref a H E)
def spTA (a : Ad) : Sp := fun vs H Q E => ∃ v x, vs = [v, x] ∧ Ref a H E
def spRef (a : Ad) : Sp := fun vs H Q _ => ∃ v x, vs = [v, x] ∧ isThr x = true ∧ ((∃ y dx t, v = .ref y ∧ H y = some (.ins a.c_Told dx [("rising", .ref t)])) ∨ ∃ rs, IsRaw a H v rs ∧ inR 0 (tot rs - 1) (thr x) = false) ∧ ∀ H', Same H H' → Q (.bl true) H'
def spTP : Sp := fun vs H Q _ => ∃ v, vs = [v] ∧ ∀ l, H l = none → Q (.ref l) (upd H l (.lst []))
def PartN (a : Ad) (H0 H : Hp) (d : Nat) (pt : Int × Tr) (z : V) : Prop := ∃ q u, z = .ref q ∧ H q = some (.tup [.int pt.1, u]) ∧ IsNode a H0 H d u pt.2
theorem PartN.t {a : Ad} {H0 H H' : Hp} {d : Nat} (s : SameT H H') (pt : Int × Tr) (z : V) (h : PartN a H0 H d pt z) : PartN a H0 H' d pt z := by
  obtain ⟨q, u, h1, h2, h3⟩ := h
  exact ⟨q, u, h1, s.at h2, h3.t s⟩
def spDP (a : Ad) : Sp := fun vs H Q _ => ∃ v H0 d ps, vs = [v] ∧ IsDie a H0 H d v ps ∧ SqH H0 ∧ SameT H0 H ∧ TabsOk (tabs a) H ∧ ∀ H' D zs, SameT H H' → TabsOk (tabs a) H' → H D = none → H' D = some (.lst zs) → Paired (PartN a H0 H' d) ps zs → Q (.ref D) H'
def spI1 (c : Addr) (f1 : Str) : Sp := fun vs H Q _ => ∃ (x : Addr) (m : Int), vs = [.ref x, .int m] ∧ H x = some (.ext (XD0 x c)) ∧
  ∀ dx, H dx = none → dx ≠ x → Q .non (upd (upd H dx (.ext (XDct dx [(f1, .int m)]))) x (.ext (XD1 x c dx)))
theorem len1 {c : Addr} {f1 : Str} : ∀ vs H Q E, spI1 c f1 vs H Q E → vs.length ≤ 100 := by
  rintro _ _ _ _ ⟨_, _, rfl, _⟩; exact (by decide : 2 ≤ 100)
section
variable {P : Program} {w : World} {K : PySem.W.Frag} {mg : Str → Option Value} {base : Heap} {a : Ad}
theorem oi_NoThrow (T : Txt K mg a) : FnOk P w K mg base CX0 1 a.i_NoThrow a.e_NoThrow ["self", "place"] (spI1 a.c_NoThrow "place") := by
  refine T.Fi_NoThrow.ok sc_NoThrow___init__ (fun vs H Q E h => ?_) (fun cdv A outer s H vs Q E hr h => ?_)
  · obtain ⟨x, m, rfl, _⟩ := h; rfl
  · obtain ⟨x, m, rfl, hx, q⟩ := h
    obtain ⟨cd1, s1⟩ := T.sx_NoThrow_place
    refine ⟨_, (pss_one (ps_fldX (vr 0) (vr 1) rfl)), ?_⟩
    exact ⟨x, a.c_NoThrow, cd1, rfl, s1, .inl ⟨hx, fun dx hd hne => q dx hd hne⟩⟩
theorem raised {H : Hp} {x dx : Addr} {o1 o2 o3 : HO} (hx : H x = none) (hd : upd H x o1 dx = none) (hne : dx ≠ x) : Same H (untr (upd (upd (upd H x o1) dx o2) x o3) x) ∧ (untr (upd (upd (upd H x o1) dx o2) x o3) x) dx = some o2 := by
  have hd' : H dx = none := by rw [upd_ne hne] at hd; exact hd
  refine ⟨fun b o e => ?_, ?_⟩
  · rw [untr_ne (ne_of_none e hx), upd_ne (ne_of_none e hx), upd_ne (ne_of_none e hd'), upd_ne (ne_of_none e hx)]
    exact e
  · rw [untr_ne hne, upd_ne hne]
    exact upd_same
theorem ok_ds (T : Txt K mg a) : FnOk P w K mg base CX0 1 a.x_Die_sides a.y_Die_sides ["self"] (spDS a) := by
  refine T.F_Die_sides.ok sc_Die_sides (fun vs H Q E h => ?_) (fun cdv A outer s H vs Q E hr h => ?_)
  · obtain ⟨v, ps, rfl, _⟩ := h; rfl
  · obtain ⟨v, ps, rfl, ⟨x, dx, l, ys, rfl, hx, hl, hP, hl1, hl2⟩, q⟩ := h
    have small : sizeLine = 16777216 := sizeLine_eq
    refine ⟨_, (pss_one (ps_ret (pe_callB (call_sumI rfl) rfl T.z_sum bt_sum (pa_cons (pe_comp rfl (N := ["many", "make"]) (ix := [none, none]) ⟨rfl, rfl, rfl, rfl, trivial⟩ (pi_any (pe_fld (vr 0) rfl)) ⟨fun C s H fp => (pg_tupK (K := K) (n := 2) rfl rfl (pgs_cons (pg_name (i := 0) (show List.Nodup (["many", "make"] : List Str) by decide +kernel) rfl (Or.inl rfl)) (pgs_cons (pg_name (i := 1) (show List.Nodup (["many", "make"] : List Str) by decide +kernel) rfl (Or.inl rfl)) pgs_nil))), fun C s H fp => pts_nil, fun C s H fp => (vr 0)⟩) pa_nil)))), ?_⟩
    refine ⟨x, _, dx, _, _, rfl, hx, T.cl_Die, T.na_Die_makes, rfl, .inl ⟨⟨_, SqL.of hl⟩, fun D hD => ?_⟩⟩
    refine comp_list (K := K) (a := l) (xs := ys) (fun i zs H' => Same H H' ∧ H' D = some (.lst zs) ∧ i ≤ ps.length ∧ zs = ((ps.take i).map (·.1)).map V.int) ⟨Same.new hD, upd_same, Nat.zero_le _, rfl⟩ (fun i ys H' h => SqL.of (h.1 _ _ hl)) (fun i ys H' h => h.2.1) ?_ ?_
    · rintro i y zs H' P' hy ⟨s1, hD1, hi, rfl⟩ hP'
      obtain ⟨⟨many, t⟩, hpt, q1, rfl, hq1, _⟩ := paired_get hP hy
      have ilt : i < ps.length := (List.getElem?_eq_some_iff.mp hpt).1
      refine ⟨q1, _, rfl, SqT.of (s1 _ _ hq1), rfl, _, _, rfl, _, _, rfl, rfl, trivial, hD1, by rw [List.length_map, List.length_map, List.length_take]; omega, hP' _ _ ⟨s1.put hD, upd_same, ilt, ?_⟩⟩
      rw [List.take_add_one, hpt]
      simp
    · rintro zs H' ⟨s1, hD1, _, rfl⟩
      rw [show ys.length = ps.length from hP.length.symm, List.take_length] at hD1
      exact ⟨D, _, rfl, SqL.of hD1, q _ s1⟩
theorem ok_can (T : Txt K mg a) : FnOk P w K mg base CX0 2 a.f_can_be_thrown a.d_can_be_thrown ["node", "throw"] (spCan a) := by
  have G_is_whole : FnOk P w K mg base CX0 1 _ _ _ spIsW := ok_isw T
  have G_Told_sides : FnOk P w K mg base CX0 1 _ _ _ (spV (.int 0)) := ok_ts T
  have G_Die_sides : FnOk P w K mg base CX0 1 _ _ _ (spDS a) := ok_ds T
  refine T.F_can_be_thrown.ok sc_can_be_thrown (fun vs H Q E h => ?_) (fun cdv A outer s H vs Q E hr h => ?_)
  · obtain ⟨v, x, rs, rfl, _⟩ := h; rfl
  · obtain ⟨v, y, rs, rfl, th, hn, q⟩ := h
    refine ⟨_, (pss_one (ps_ret (pe_call G_is_whole hr rfl T.m_is_whole T.F_is_whole.kp T.B_is_whole .nil pass0 (pa_cons (vr 1) (pa_cons pe_int (pa_cons (pe_op o_sub (PE.or (pe_meth0 (vr 0) T.cl_Told T.mt_Told_sides G_Told_sides hr T.B_Told_sides .nil pass0) (pe_meth0 (vr 0) T.cl_Die T.mt_Die_sides G_Die_sides hr T.B_Die_sides .nil pass0)) pe_int) pa_nil)))))), ?_⟩
    obtain ⟨x, dx, l, ys, rfl, hx, _⟩ := id hn
    refine .inr ⟨x, dx, _, rfl, hx, rfl, _, rs, rfl, hn, fun H' s1 => ?_⟩
    exact ⟨y, 0, tot rs - 1, rfl, th, q _ s1⟩
theorem ok_da (T : Txt K mg a) (hB : Bm mg base) : FnOk P w K mg base (CXG P w) 7 a.x_Die_after a.y_Die_after ["self", "throw"] (spDA a) := by
  have L_make : LamOk P w K mg base 6 ld_L_make_1 fvT [] (spL a) := LamOk.mono (ok_l T hB) (by decide)
  have L_car : LamOk P w K mg base 6 ld_carried_make_1 fvC [] (spCar a) := ok_car T hB
  have L_in : LamOk P w K mg base 6 ld_in fvI [] (spIn a) := LamOk.mono (ok_in T) (by decide)
  have D_asked : DefOk P w K mg base 6 dd_L_noted_1 fvN [] (spAsked a) := DefOk.mono (ok_asked T) (by decide)
  have G_can_be_thrown : FnOk P w K mg base CX0 6 _ _ _ (spCan a) := (ok_can T).mono (by decide)
  have G_NoThrow : FnOk P w K mg base CX0 5 _ _ _ (spI1 a.c_NoThrow "place") := (oi_NoThrow T).mono (by decide)
  refine T.F_Die_after.okG sc_Die_after (fun vs H Q E h => ?_) (fun cdv A outer s H vs Q E hr h => ?_)
  · obtain ⟨v, y, rs, rfl, _⟩ := h; rfl
  · obtain ⟨v, y, ps, rfl, th, hd, hgo, hre⟩ := h
    refine ⟨_, (pss_cons (ps_if (pt_not (t_val (pe_call G_can_be_thrown hr rfl T.m_can_be_thrown T.F_can_be_thrown.kp T.B_can_be_thrown .nil pass0 (pa_cons (vr 0) (pa_cons (vr 1) pa_nil))))) (pss_one (ps_raiseG T.xc_NoThrow T.xh_NoThrow (pe_mkX T.xi_NoThrow T.kc_NoThrow T.fn_NoThrow G_NoThrow hr rfl T.mc_NoThrow T.Bi_NoThrow (pa_cons pe_int pa_nil) len1))) pss_nil) (pss_cons (ps_set (i := 2) sc_Die_after.nd rfl (Or.inl rfl) pe_int) (pss_cons (ps_set (i := 3) sc_Die_after.nd rfl (Or.inl rfl) (pe_op o_sub (pe_ix ix_seq (pe_ix ix_seq (pe_fld (vr 0) rfl) pe_int (fun _ _ => rfl)) pe_int (fun _ _ => rfl)) pe_int)) (pss_cons (ps_while ownG (t_cmp o_lt (vr 3) (vr 1) (nomark _)) (pss_cons (ps_aug (i := 2) sc_Die_after.nd rfl (Or.inl rfl) pe_int ip_add) (pss_one (ps_aug (i := 3) sc_Die_after.nd rfl (Or.inl rfl) (pe_ix ix_seq (pe_ix ix_seq (pe_fld (vr 0) rfl) (vr 2) (fun _ _ => rfl)) pe_int (fun _ _ => rfl)) ip_add)))) (pss_cons (ps_asg (pe_ix ix_seq (pe_fld (vr 0) rfl) (vr 2) (fun _ _ => rfl)) (pg_tup rfl (pgs_cons (pg_name (i := 4) sc_Die_after.nd rfl (Or.inl rfl)) (pgs_cons (pg_name (i := 5) sc_Die_after.nd rfl (Or.inl rfl)) pgs_nil)))) (pss_one (ps_ret (PE.or (pe_callL0 (vr 5) L_make hr) (PE.or (pe_callL0 (vr 5) L_car hr) (PE.or (pe_callL0 (vr 5) L_in hr) (pe_callD0 (vr 5) D_asked hr))))))))))), ?_⟩
    refine ⟨v, y, ps, rfl, th, hd, fun H1 s1 => ?_⟩
    cases hc : inR 0 (tot ps - 1) (thr y) with
    | false =>
      intro z hz
      refine ⟨z, 0, rfl, upd_same, fun dx hd hne => ⟨rfl, z, some dx, _, rfl, upd_same, fun h z => z, ?_, ?_⟩⟩
      · cases hh : H z with
        | none => rfl
        | some o => rw [s1 _ _ hh] at hz; cases hz
      obtain ⟨r1, r2⟩ := raised hz hd hne
      exact hre hc _ dx (s1.trans r1) r2
    | true =>
      obtain ⟨t, f0, rfl, hpk, hrun⟩ := hgo hc
      have ht : 0 ≤ t ∧ t ≤ tot ps - 1 := of_decide_eq_true hc
      obtain ⟨t0, t1⟩ := ht
      have hd1 := hd.t s1.t
      have hpos := raw_pos hd
      obtain ⟨x, dx, l, ys, rfl, hx, hl, hP, hl1, hl2⟩ := id hd1
      have yl : ys.length = ps.length := hP.length.symm
      have row : ∀ k : Nat, k < ps.length → ∃ q1 many f, ys[k]? = some (.ref q1) ∧ ps[k]? = some (many, f) ∧ H1 q1 = some (.tup [.int many, f]) := fun k hk => by
        have hk' : k < ys.length := by omega
        have e : ys[k]? = some ys[k] := List.getElem?_eq_getElem hk'
        obtain ⟨⟨many, u⟩, hpt, q1, e2, hq1, _⟩ := paired_get hP e
        exact ⟨q1, many, u, by rw [e, e2], hpt, hq1⟩
      obtain ⟨qz, mz, fz, yz, pz, hz⟩ := row 0 (by omega)
      refine ⟨x, _, dx, _, _, rfl, hx, T.cl_Die, T.na_Die_makes, rfl, .inl ⟨l, _, _, _, rfl, rfl, SqL.of hl, atI_cons 0 rfl yz, .inr (.inl ⟨qz, _, _, _, rfl, rfl, SqT.of hz, atI_cons 0 rfl rfl, ?_⟩)⟩⟩
      have tz : tot (ps.take 1) = mz := by rw [tot_succ pz]; simp [tot]
      refine ⟨fun k σ H' => H' = H1 ∧ ∃ (number : Nat) (last : Int) (x4 x5 : Option V), σ = [some (.ref x), some (.int t), some (.int (number : Nat)), some (.int last), x4, x5] ∧ number < ps.length ∧ last = tot (ps.take (number + 1)) - 1 ∧ tot (ps.take number) ≤ t ∧ k = ps.length - number, ⟨_, rfl, 0, _, _, _, rfl, by omega, by rw [tz], by simpa [tot] using t0, rfl⟩, ?_⟩
      rintro k σ H' ⟨rfl, number, last, x4, x5, rfl, hn, hlast, hlow, rfl⟩
      refine ifC (fun c => ?_) fun c => ?_
      · have c : last < t := c
        have hn1 : number + 1 < ps.length := by
          rcases Nat.lt_or_ge (number + 1) ps.length with h | h
          · exact h
          · rw [List.take_of_length_le h] at hlast; omega
        obtain ⟨q1, many, f, hy, hpt, hq⟩ := row (number + 1) hn1
        refine ⟨fun σ' H'' => H'' = H' ∧ σ' = [some (.ref x), some (.int t), some (.int ((number + 1 : Nat) : Int)), some (.int (last + many)), x4, x5], ?_, ?_⟩
        · rintro σ' H'' ⟨rfl, rfl⟩
          exact ⟨_, by omega, rfl, number + 1, _, _, _, rfl, hn1, by rw [tot_succ hpt]; omega, by omega, rfl⟩
        · refine ⟨_, rfl, _, _, rfl, rfl, _, rfl, ?_⟩
          exact ⟨x, _, dx, _, _, rfl, hx, T.cl_Die, T.na_Die_makes, rfl, .inl ⟨l, _, _, _, rfl, rfl, SqL.of hl, atI_cons (number + 1) (by show (number : Int) + 1 = ((number + 1 : Nat) : Int); omega) hy, .inr (.inl ⟨q1, _, _, _, rfl, rfl, SqT.of hq, atI_cons 0 rfl rfl, _, _, rfl, rfl, rfl, by rw [show ((number + 1 : Nat) : Int) = (number : Int) + 1 by omega]; rfl⟩)⟩⟩
      · have c : ¬ last < t := c
        obtain ⟨q1, many, f, hy, hpt, hq⟩ := row number hn
        have eu := pick_at ps number t many f (fun p hp => by have := hpos p hp; omega) hpt hlow (by omega)
        rw [hpk] at eu
        cases eu
        exact ⟨x, _, dx, _, _, rfl, hx, T.cl_Die, T.na_Die_makes, rfl, .inl ⟨l, _, _, _, rfl, rfl, SqL.of hl, atI_cons number (by omega) hy, q1, _, rfl, SqT.of hq, rfl, _, _, rfl, _, _, rfl, rfl, hrun _ s1⟩⟩
theorem ok_ta (T : Txt K mg a) : FnOk P w K mg base (CXG P w) 3 a.x_Told_after a.y_Told_after ["self", "throw"] (spTA a) := by
  have G_NoThrow : FnOk P w K mg base CX0 1 _ _ _ (spI1 a.c_NoThrow "place") := oi_NoThrow T
  refine T.F_Told_after.okG sc_Told_after (fun vs H Q E h => ?_) (fun cdv A outer s H vs Q E hr h => ?_)
  · obtain ⟨v, y, rfl, _⟩ := h; rfl
  · obtain ⟨v, y, rfl, hre⟩ := h
    refine ⟨_, (pss_one (ps_raiseG T.xc_NoThrow T.xh_NoThrow (pe_mkX T.xi_NoThrow T.kc_NoThrow T.fn_NoThrow G_NoThrow hr rfl T.mc_NoThrow T.Bi_NoThrow (pa_cons pe_int pa_nil) len1))), ?_⟩
    intro z hz
    refine ⟨z, 0, rfl, upd_same, fun dx hd hne => ⟨rfl, z, some dx, _, rfl, upd_same, fun h z => z, hz, ?_⟩⟩
    obtain ⟨r1, r2⟩ := raised hz hd hne
    exact hre _ dx r1 r2
theorem ok_tp (T : Txt K mg a) : FnOk P w K mg base CX0 1 a.x_Told_parts a.y_Told_parts ["self"] spTP := by
  refine T.F_Told_parts.ok sc_Told_parts (fun vs H Q E h => ?_) (fun cdv A outer s H vs Q E hr h => ?_)
  · obtain ⟨v, rfl, _⟩ := h; rfl
  · obtain ⟨v, rfl, q⟩ := h
    exact ⟨_, (pss_one (ps_ret (pe_lst pa_nil))), Nat.zero_le _, fun l hl => q l hl⟩
theorem node_cut {H0 H : Hp} {D : Addr} {zs : List V} (hD : H D = some (.lst zs)) {d : Nat} {u : V} : ∀ {t : Tr}, IsNode a H0 H d u t → (∀ x dx l, u = .ref x → H x = some (.ins a.c_Die dx [("makes", .ref l)]) → l ≠ D) → IsNode a H0 (untr H D) d u t
  | .leaf ns, h, _ => by
    obtain ⟨x, dx, t, ns', h1, h2, h3, h4⟩ := h
    exact ⟨x, dx, t, ns', h1, by rw [untr_ne (fun z => by rw [z, hD] at h2; cases h2)]; exact h2, by rw [untr_ne (fun z => by rw [z, hD] at h3; cases h3)]; exact h3, h4⟩
  | .die ps, h, nl => by
    obtain ⟨d', e, x, dx, l, ys, rfl, h2, h3, h4, h5, h6⟩ := h
    have ne : ∀ b φ, H b = some (.ext φ) → b ≠ D := fun b φ e z => by rw [z, hD] at e; cases e
    refine ⟨d', e, x, dx, l, ys, rfl, by rw [untr_ne (fun z => by rw [z, hD] at h2; cases h2)]; exact h2, by rw [untr_ne (nl x dx l rfl h2)]; exact h3, paired_imp (fun pt y g => ?_) h4, h5, h6⟩
    obtain ⟨q, f, w', g1, g2, g3, g4, g5, g6⟩ := g
    refine ⟨q, f, w', g1, by rw [untr_ne (fun z => by rw [z, hD] at g2; cases g2)]; exact g2, ?_, g4, g5, g6⟩
    obtain ⟨f', c, clos, k1, k2, k3, k4, k5, k6⟩ := g3
    refine ⟨f', c, clos, k1, by rw [untr_ne (ne _ _ k2)]; exact k2, by rw [untr_ne (ne _ _ k3)]; exact k3, k4, k5, ?_⟩
    revert k6
    clear k2 k3 k4 k5
    generalize [w'] = ws
    intro k6
    induction k6 with
    | nil => exact .nil
    | cons r _ ih => exact .cons (by rw [untr_ne (ne _ _ r)]; exact r) ih
theorem ok_dp (T : Txt K mg a) (hB : Bm mg base) : FnOk P w K mg base CX0 5 a.x_Die_parts a.y_Die_parts ["self"] (spDP a) := by
  have L_make : LamOk P w K mg base 4 ld_L_make_1 fvT [] (spL a) := ok_l T hB
  refine T.F_Die_parts.ok sc_Die_parts (fun vs H Q E h => ?_) (fun cdv A outer s H vs Q E hr h => ?_)
  · obtain ⟨v, H0, d, ps, rfl, _⟩ := h; rfl
  · obtain ⟨v, H0, d, ps, rfl, ⟨x, dx, l, ys, rfl, hx, hl, hP, hl1, hl2⟩, hsq, s0, hT, q⟩ := h
    have small : sizeLine = 16777216 := sizeLine_eq
    refine ⟨_, (pss_one (ps_ret (pe_comp rfl (N := ["many", "make"]) (ix := [none, none]) ⟨rfl, rfl, rfl, rfl, trivial⟩ (pi_any (pe_fld (vr 0) rfl)) ⟨fun C s H fp => (pg_tupK (K := K) (n := 2) rfl rfl (pgs_cons (pg_name (i := 0) (show List.Nodup (["many", "make"] : List Str) by decide +kernel) rfl (Or.inl rfl)) (pgs_cons (pg_name (i := 1) (show List.Nodup (["many", "make"] : List Str) by decide +kernel) rfl (Or.inl rfl)) pgs_nil))), fun C s H fp => pts_nil, fun C s H fp => (pe_tup (pa_cons (vr 0) (pa_cons (pe_callL0 (vr 1) L_make hr) pa_nil)))⟩))), ?_⟩
    refine ⟨x, _, dx, _, _, rfl, hx, T.cl_Die, T.na_Die_makes, rfl, .inl ⟨⟨_, SqL.of hl⟩, fun D hD => ?_⟩⟩
    have ext : ∀ {H' : Hp}, TabsOk (tabs a) H' → ∀ {ys : List V} {ys' : List V}, H' D = some (.lst ys) → TabsOk (tabs a) (upd H' D (.lst ys')) := fun hT' ys ys' e => hT'.put (fun ps z => by rw [e] at z; cases z) fun φ z => by rw [e] at z; cases z
    refine comp_list (K := K) (a := l) (xs := ys) (fun i zs H' => SameT H H' ∧ TabsOk (tabs a) H' ∧ H' D = some (.lst zs) ∧ i ≤ ps.length ∧ Paired (PartN a H0 (untr H' D) d) (ps.take i) zs)
      ⟨(Same.new hD).t, hT.same (Same.new hD), upd_same, Nat.zero_le _, .nil⟩ (fun i ys H' h => SqL.of (h.1.at hl)) (fun i ys H' h => h.2.2.1) ?_ ?_
    · rintro i y zs H' P' hy ⟨t1, hT1, hD1, hi, hc⟩ hP'
      obtain ⟨⟨many, t⟩, hpt, q1, f, w', rfl, hq1, hf, m0, m1, hw⟩ := paired_get hP hy
      have ilt : i < ps.length := (List.getElem?_eq_some_iff.mp hpt).1
      refine ⟨q1, _, rfl, SqT.of (t1.at hq1), rfl, _, _, rfl, _, _, rfl, rfl, trivial, ?_⟩
      obtain ⟨f', c, clos, rfl, k2, k3, k4, k5, k6⟩ := hf.t t1
      refine ⟨f', c, clos, _, rfl, k2, k3, k4, k5, k6, w', d, t, H0, rfl, rfl, hw, s0.trans t1, hT1, hsq, fun H2 u t2 hT2 hu nl => ?_⟩
      have hD2 := t2.at hD1
      refine ⟨by show 2 ≤ sizeLine; decide, fun q2 hq2 => ?_⟩
      have nq : q2 ≠ D := fun z => by rw [z, hD2] at hq2; cases hq2
      have s3 := Same.new (o := .tup [.int many, u]) hq2
      have hD3 := s3 _ _ hD2
      have yl : zs.length ≤ 4 := by rw [← hc.length, List.length_take]; omega
      have t13 := (t1.trans t2).trans s3.t
      refine ⟨hD3, by omega, hP' _ _ ⟨t13.put hD, ext (hT2.same s3) hD3, upd_same, ilt, paired_take (paired_imp (PartN.t ?_) hc) hpt ⟨q2, u, rfl, ?_, ?_⟩⟩⟩
      · exact (cut_of (t2.trans s3.t)).trans cut_put
      · rw [untr_ne nq, upd_ne nq]; exact upd_same
      · refine (node_cut hD2 hu fun x2 dx2 l2 e1 e2 z => ?_).t ((cut_of s3.t).trans cut_put)
        have := nl x2 dx2 l2 e1 e2
        rw [z, hD1] at this
        cases this
    · rintro zs H' ⟨t1, hT1, hD1, hi, hc⟩
      rw [show ys.length = ps.length from hP.length.symm, List.take_length] at hc
      refine q H' D zs t1 hT1 hD hD1 (paired_imp (PartN.t fun b o e => ?_) hc)
      by_cases hb : b = D
      · rw [hb, untr_same] at e; cases e
      · rw [untr_ne hb] at e; exact SameT.refl b o e
theorem ok_refused (T : Txt K mg a) (hB : Bm mg base) : FnOk P w K mg base CX0 8 a.f_L_refused a.d_L_refused ["_law_node_here", "_law_throw"] (spRef a) := by
  have G_Told_after : FnOk P w K mg base (CXG P w) 7 _ _ _ (spTA a) := (ok_ta T).mono (by decide)
  have G_Die_after : FnOk P w K mg base (CXG P w) 7 _ _ _ (spDA a) := ok_da T hB
  have G_L_whole : FnOk P w K mg base CX0 7 _ _ _ spWhole := (ok_whole T).mono (by decide)
  refine T.F_L_refused.ok sc_L_refused (fun vs H Q E h => ?_) (fun cdv A outer s H vs Q E hr h => ?_)
  · obtain ⟨v, x, rfl, _⟩ := h; rfl
  · obtain ⟨v, y, rfl, th, hwh, q⟩ := h
    refine ⟨_, (pss_cons (ps_set (i := 2) sc_L_refused.nd rfl (Or.inl rfl) pe_non) (pss_cons (ps_tryN ⟨rfl, rfl⟩ (pb_one (pb1_expr (PX.or (px_meth (vr 0) T.cl_Told T.mt_Told_after G_Told_after hr T.B_Told_after .nil (pa_cons (vr 1) pa_nil)) (px_meth (vr 0) T.cl_Die T.mt_Die_after G_Die_after hr T.B_Die_after .nil (pa_cons (vr 1) pa_nil))))) (ph_as ⟨rfl, rfl⟩ rfl T.mc_NoThrow T.xh_NoThrow sc_L_refused.nd (ie := 3) rfl rfl (fun x => (pss_one (ps_set (i := 2) sc_L_refused.nd rfl (Or.inl rfl) (pe_fldCK (K := K) rfl (vr 3))))) (ph_bare ⟨rfl, rfl⟩ rfl T.mc_SpeakError T.xh_SpeakError (fun x => (pss_one (ps_set (i := 2) sc_L_refused.nd rfl (Or.inl rfl) pe_str))) ph_nil))) (pss_one (ps_ret (m_and (pe_call G_L_whole hr rfl T.m_L_whole T.F_L_whole.kp T.B_L_whole .nil pass0 (pa_cons (vr 2) pa_nil)) (pe_one (pe_cmpR o_eq (vr 2) pe_int (nomark _)))))))), ?_⟩
    rcases hwh with ⟨z, dz, fs, rfl, hz⟩ | ⟨rs, hd, hno⟩
    · refine .inl ⟨z, dz, _, rfl, hz, rfl, _, _, rfl, fun H' dx s1 hdx => ?_⟩
      refine ⟨_, rfl, fun x hx => .inl ⟨beq_iff_eq.mp T.tn, ?_⟩⟩
      have sx : Same H' (upd H' x (.ext (XCt x a.c_NoThrow (some dx)))) := Same.new hx
      obtain ⟨cd1, sx1⟩ := T.sx_NoThrow_place
      refine ⟨x, _, cd1, dx, _, _, _, rfl, sx1, T.xc_NoThrow, upd_same, fun _ z => z, sx _ _ hdx, rfl, ?_⟩
      exact ⟨_, rfl, rfl, q _ (s1.trans sx)⟩
    · obtain ⟨x0, dx0, l, ys, rfl, hx0, _⟩ := id hd
      refine .inr ⟨x0, dx0, _, rfl, hx0, rfl, _, _, rs, rfl, th, hd, (fun e => by rw [hno] at e; cases e), fun _ H' dx s1 hdx => ?_⟩
      refine ⟨_, rfl, fun x hx => .inl ⟨beq_iff_eq.mp T.tn, ?_⟩⟩
      have sx : Same H' (upd H' x (.ext (XCt x a.c_NoThrow (some dx)))) := Same.new hx
      obtain ⟨cd1, sx1⟩ := T.sx_NoThrow_place
      refine ⟨x, _, cd1, dx, _, _, _, rfl, sx1, T.xc_NoThrow, upd_same, fun _ z => z, sx _ _ hdx, rfl, ?_⟩
      exact ⟨_, rfl, rfl, q _ (s1.trans sx)⟩
end
end My
set_option Elab.async false
set_option linter.all false
set_option maxRecDepth 100000
set_option maxHeartbeats 4000000
namespace My
open PySem L2 FrM
theorem dvs_int {K : PySem.W.Frag} {H : Hp} : ∀ (xs : List Int), DVs K H (xs.map PyData.int) (xs.map V.int)
  | [] => by simp [DVs]
  | x :: l => by
    rw [List.map_cons, List.map_cons, DVs]
    exact ⟨_, _, rfl, by simp [DV], dvs_int l⟩
theorem int_lay : ∀ xs : List Int, PyData.canLayAll0 (xs.map PyData.int) = true ∧ PyData.depthAll (xs.map PyData.int) ≤ 2
  | [] => ⟨by simp [PyData.canLayAll0], by simp [PyData.depthAll]⟩
  | x :: l => by
    have ih := int_lay l
    rw [List.map_cons, PyData.canLayAll0, PyData.depthAll, ih.1]
    simp [PyData.canLay0, PyData.depth]
    exact ih.2
theorem ne_same {K : PySem.W.Frag} {H : Hp} {x y : V} {d : PyData} {Q : VK} (h1 : DV K H d x) (h2 : DV K H d y) (hs : SeqAt.shaped d = true) (q : Q (.bl false) H) : rEqD K true x y H Q := by
  refine ⟨d, d, h1, h2, hs, hs, ?_⟩
  rw [SeqAt.eqv_refl _ (SeqAt.canLay_of_shaped hs)]
  exact q
theorem srt_uniq {l₁ l₂ k : List Int} (a : Srt l₁ k) (b : Srt l₂ k) : l₁ = l₂ := List.Perm.eq_of_pairwise (fun x y _ _ h h' => Int.le_antisymm h h') a.2 b.2 (a.1.trans b.1.symm)
theorem eq_same {K : PySem.W.Frag} {H : Hp} {x y : V} {d : PyData} {Q : VK} (h1 : DV K H d x) (h2 : DV K H d y) (hs : SeqAt.shaped d = true) (q : Q (.bl true) H) : rEqD K false x y H Q := by
  refine ⟨d, d, h1, h2, hs, hs, ?_⟩
  rw [SeqAt.eqv_refl _ (SeqAt.canLay_of_shaped hs)]
  exact q
theorem sh_l (ns : List Int) : SeqAt.shaped (.list (ns.map PyData.int)) = true := by
  unfold SeqAt.shaped
  rw [PyData.canLay0, (int_lay ns).1, Bool.true_and]
  refine decide_eq_true ?_
  simp only [PyData.depth]
  have := (int_lay ns).2
  omega
theorem sh_t (ns : List Int) : SeqAt.shaped (.tuple (ns.map PyData.int)) = true := by
  unfold SeqAt.shaped
  rw [PyData.canLay0, (int_lay ns).1, Bool.true_and]
  refine decide_eq_true ?_
  simp only [PyData.depth]
  have := (int_lay ns).2
  omega
theorem dv_l {K : PySem.W.Frag} {H : Hp} {p : Addr} {ns : List Int} (h : H p = some (.lst (ns.map V.int))) : DV K H (.list (ns.map PyData.int)) (.ref p) := by
  rw [DV]; exact ⟨p, _, rfl, SqL.of h, dvs_int ns⟩
theorem dv_t {K : PySem.W.Frag} {H : Hp} {p : Addr} {ns : List Int} (h : H p = some (.tup (ns.map V.int))) : DV K H (.tuple (ns.map PyData.int)) (.ref p) := by
  rw [DV]; exact ⟨p, _, rfl, SqT.of h, dvs_int ns⟩
theorem ne_l {K : PySem.W.Frag} {H : Hp} {p q : Addr} {ns : List Int} {Q : VK} (h1 : H p = some (.lst (ns.map V.int))) (h2 : H q = some (.lst (ns.map V.int))) (h : Q (.bl false) H) : rEqD K true (.ref p) (.ref q) H Q := ne_same (dv_l h1) (dv_l h2) (sh_l ns) h
theorem ne_t {K : PySem.W.Frag} {H : Hp} {p q : Addr} {ns : List Int} {Q : VK} (h1 : H p = some (.tup (ns.map V.int))) (h2 : H q = some (.tup (ns.map V.int))) (h : Q (.bl false) H) : rEqD K true (.ref p) (.ref q) H Q := ne_same (dv_t h1) (dv_t h2) (sh_t ns) h
def spIsTold (a : Ad) : Sp := fun vs H Q _ => ∃ v w ns, vs = [v, w] ∧ IsTold a H v ns ∧ Leaf H w ns ∧ ∀ H', Same H H' → Q (.bl true) H'
def Like (a : Ad) (H0 H : Hp) (d : Nat) (v w : V) (t : Tr) : Prop := IsNode a H0 H d v t ∧ IsTree H0 d w t ∧ SqH H0 ∧ SameT H0 H ∧ TabsOk (tabs a) H
def spAlike (a : Ad) (D : Nat) : Sp := fun vs H Q _ => ∃ v w H0 d t, ∃ deep : Nat, vs = [v, w, .int (deep : Nat)] ∧ deep < D ∧ Like a H0 H d v w t ∧ ∀ H', SameT H H' → TabsOk (tabs a) H' → Q (.bl true) H'
section
variable {P : Program} {w : World} {K : PySem.W.Frag} {mg : Str → Option Value} {base : Heap} {a : Ad}
theorem die_raw {H0 H : Hp} {d : Nat} {v : V} {ps : List (Int × Tr)} (h : IsDie a H0 H d v ps) : ∃ rs, IsRaw a H v rs ∧ Paired (fun (p : Int × Tr) (r : Int × V) => p.1 = r.1 ∧ ∃ w', IsLam H ld_L_make_1 fvT r.2 [w'] ∧ IsTree H0 d w' p.2) ps rs := by
  obtain ⟨x, dx, l, ys, rfl, h2, h3, h4, h5, h6⟩ := h
  have key : ∀ {ps : List (Int × Tr)} {ys : List V}, Paired (NodeR H0 H d) ps ys → ∃ rs, Paired (RowR H) rs ys ∧ Paired (fun (p : Int × Tr) (r : Int × V) => p.1 = r.1 ∧ ∃ w', IsLam H ld_L_make_1 fvT r.2 [w'] ∧ IsTree H0 d w' p.2) ps rs := by
    intro ps ys h
    induction h with
    | nil => exact ⟨[], .nil, .nil⟩
    | @cons p y _ _ r _ ih =>
      obtain ⟨rs, i1, i2⟩ := ih
      obtain ⟨q, f, w', g1, g2, g3, g4, g5, g6⟩ := r
      exact ⟨(p.1, f) :: rs, .cons ⟨q, g1, g2, g4⟩ i1, .cons ⟨rfl, w', g3, g6⟩ i2⟩
  obtain ⟨rs, i1, i2⟩ := key h4
  refine ⟨rs, ⟨x, dx, l, ys, rfl, h2, h3, i1, ?_, ?_⟩, i2⟩
  · rw [← i2.length]; exact h5
  · rw [← i2.length]; omega
theorem tot_pair {α β : Type} {r : (Int × α) → (Int × β) → Prop} (h : ∀ p q, r p q → p.1 = q.1) : ∀ {ps : List (Int × α)} {rs : List (Int × β)}, Paired r ps rs → tot ps = tot rs
  | _, _, .nil => rfl
  | _, _, .cons (a := p) (b := q) x t => by
    obtain ⟨m, u⟩ := p
    obtain ⟨m', u'⟩ := q
    rw [tot_cons, tot_cons, tot_pair h t]
    have : m = m' := h _ _ x
    omega
theorem pick_pair {α β : Type} {r : (Int × α) → (Int × β) → Prop} (h : ∀ p q, r p q → p.1 = q.1) : ∀ {ps : List (Int × α)} {rs : List (Int × β)} {t : Int} {u : α}, Paired r ps rs → pick ps t = some u → ∃ m f, pick rs t = some f ∧ r (m, u) (m, f)
  | _, _, t, u, .nil, e => by cases e
  | _, _, t, u, .cons (a := p) (b := q) x rest, e => by
    obtain ⟨m, u0⟩ := p
    obtain ⟨m', f0⟩ := q
    have em : m = m' := h _ _ x
    subst em
    unfold pick at e ⊢
    by_cases c : t < m
    · rw [if_pos c] at e ⊢
      cases e
      exact ⟨m, f0, rfl, x⟩
    · rw [if_neg c] at e ⊢
      exact pick_pair h rest e
theorem ok_is_told (T : Txt K mg a) (hB : Bm mg base) : FnOk P w K mg base CX0 9 a.f_L_is_told a.d_L_is_told ["_law_node_here", "_law_tree_here"] (spIsTold a) := by
  have G_L_refused : FnOk P w K mg base CX0 8 _ _ _ (spRef a) := ok_refused T hB
  have G_L_whole : FnOk P w K mg base CX0 8 _ _ _ spWhole := (ok_whole T).mono (by decide)
  have G_Told_is_told : FnOk P w K mg base CX0 8 _ _ _ (spV (.bl true)) := (ok_tt T).mono (by decide)
  have G_Die_is_told : FnOk P w K mg base CX0 8 _ _ _ (spV (.bl false)) := (ok_dt T).mono (by decide)
  have G_Told_kept : FnOk P w K mg base CX0 8 _ _ _ (spTK a) := (ok_tk T).mono (by decide)
  have G_Die_kept : FnOk P w K mg base CX0 8 _ _ _ (spV .non) := (ok_dk T).mono (by decide)
  have G_Told_sides : FnOk P w K mg base CX0 8 _ _ _ (spV (.int 0)) := (ok_ts T).mono (by decide)
  have G_Die_sides : FnOk P w K mg base CX0 8 _ _ _ (spDS a) := (ok_ds T).mono (by decide)
  have G_Told_parts : FnOk P w K mg base CX0 8 _ _ _ spTP := (ok_tp T).mono (by decide)
  have G_Die_parts : FnOk P w K mg base CX0 8 _ _ _ (spDP a) := (ok_dp T hB).mono (by decide)
  refine T.F_L_is_told.ok sc_L_is_told (fun vs H Q E h => ?_) (fun cdv A outer s H vs Q E hr h => ?_)
  · obtain ⟨v, w', ns, rfl, _⟩ := h; rfl
  · obtain ⟨v, w', ns, rfl, ⟨x, dx, t, ms, rfl, hx, ht, hs⟩, ⟨p, rfl, hp, hn⟩, q⟩ := h
    refine ⟨_, (pss_cons (ps_if (PW.pt (pw_or (pt_not (t_val (pe_callB call_isi rfl T.z_isinstance bt_isinstance (pa_cons (vr 0) (pa_cons (pe_gl rfl T.g_Told) pa_nil))))) (pw_or (t_val (pe_callB call_isi rfl T.z_isinstance bt_isinstance (pa_cons (vr 0) (pa_cons (pe_gl rfl T.g_Die) pa_nil)))) (pw_or1 (t_cmp o_isnotB (PE.or (pe_meth0 (vr 0) T.cl_Told T.mt_Told_is_told G_Told_is_told hr T.B_Told_is_told .nil pass0) (pe_meth0 (vr 0) T.cl_Die T.mt_Die_is_told G_Die_is_told hr T.B_Die_is_told .nil pass0)) pe_bl (nomark _)))))) (pss_one (ps_ret pe_bl)) pss_nil) (pss_cons (ps_if (PW.pt (pw_or (t_cmp (o_neD hr.units) (PE.or (pe_meth0 (vr 0) T.cl_Told T.mt_Told_kept G_Told_kept hr T.B_Told_kept .nil pass0) (pe_meth0 (vr 0) T.cl_Die T.mt_Die_kept G_Die_kept hr T.B_Die_kept .nil pass0)) (pe_callTy call_tuple_of rfl T.z_tuple bt_tuple (pa_cons (pe_callB call_sortedI rfl T.z_sorted bt_sorted (pa_cons (vr 1) pa_nil)) pa_nil)) (nomark _)) (pw_or1 (pt_not (t_val (pe_callB call_isi rfl T.z_isinstance bt_isinstance (pa_cons (PE.or (pe_meth0 (vr 0) T.cl_Told T.mt_Told_kept G_Told_kept hr T.B_Told_kept .nil pass0) (pe_meth0 (vr 0) T.cl_Die T.mt_Die_kept G_Die_kept hr T.B_Die_kept .nil pass0)) (pa_cons (pe_bltn (v := .ty "tuple") rfl T.z_tuple bt_tuple rfl) pa_nil)))))))) (pss_one (ps_ret pe_bl)) pss_nil) (pss_cons (ps_if (PW.pt (pw_or (t_cmp (o_neD hr.units) (PE.or (pe_meth0 (vr 0) T.cl_Told T.mt_Told_parts G_Told_parts hr T.B_Told_parts .nil pass0) (pe_meth0 (vr 0) T.cl_Die T.mt_Die_parts G_Die_parts hr T.B_Die_parts .nil pass0)) (pe_lst pa_nil) (nomark _)) (pw_or (pt_not (t_val (pe_call G_L_whole hr rfl T.m_L_whole T.F_L_whole.kp T.B_L_whole .nil pass0 (pa_cons (PE.or (pe_meth0 (vr 0) T.cl_Told T.mt_Told_sides G_Told_sides hr T.B_Told_sides .nil pass0) (pe_meth0 (vr 0) T.cl_Die T.mt_Die_sides G_Die_sides hr T.B_Die_sides .nil pass0)) pa_nil)))) (pw_or1 (t_cmp o_ne (PE.or (pe_meth0 (vr 0) T.cl_Told T.mt_Told_sides G_Told_sides hr T.B_Told_sides .nil pass0) (pe_meth0 (vr 0) T.cl_Die T.mt_Die_sides G_Die_sides hr T.B_Die_sides .nil pass0)) pe_int (nomark _)))))) (pss_one (ps_ret pe_bl)) pss_nil) (pss_one (ps_ret (m_and (pe_call G_L_refused hr rfl T.m_L_refused T.F_L_refused.kp T.B_L_refused .nil pass0 (pa_cons (vr 0) (pa_cons pe_int pa_nil))) (pe_one (pe_call G_L_refused hr rfl T.m_L_refused T.F_L_refused.kp T.B_L_refused .nil pass0 (pa_cons (vr 0) (pa_cons pe_non pa_nil)))))))))), ?_⟩
    refine ⟨_, _, _, true, rfl, rfl, T.ty_Told _ _ _ _ hx, T.ktt, ?_⟩
    refine ⟨_, _, _, false, rfl, rfl, T.ty_Told _ _ _ _ hx, T.ktd, ?_⟩
    refine .inl ⟨x, dx, _, rfl, hx, rfl, _, rfl, _, _, rfl, rfl, ?_⟩
    refine .inl ⟨x, dx, _, rfl, hx, rfl, x, dx, t, rfl, hx, ?_⟩
    refine ⟨p, ns, rfl, SqL.of hp, by omega, fun l1 ms' a1 a2 f1 => ?_⟩
    have s1 := Same.new (o := .lst (ms'.map V.int)) f1
    refine ⟨l1, _, rfl, .inl ⟨SqL.of upd_same, fun t2 f2 => ?_⟩⟩
    have s2 := s1.trans (Same.new (o := .tup (ms'.map V.int)) f2)
    have e2 : (upd (upd H l1 (.lst (ms'.map V.int))) t2 (.tup (ms'.map V.int))) t2 = some (.tup (ms'.map V.int)) := upd_same
    generalize upd (upd H l1 (.lst (ms'.map V.int))) t2 (.tup (ms'.map V.int)) = H2 at s2 e2
    cases srt_uniq hs ⟨a1, a2⟩
    refine ne_t (s2 _ _ ht) e2 ?_
    refine .inl ⟨x, dx, _, rfl, s2 _ _ hx, rfl, x, dx, t, rfl, s2 _ _ hx, ?_⟩
    refine ⟨_, _, _, true, rfl, rfl, .tup (s2 _ _ ht), rfl, ?_⟩
    refine .inl ⟨x, dx, _, rfl, s2 _ _ hx, rfl, _, rfl, fun l3 f3 => ?_⟩
    have s3 := s2.trans (Same.new (o := .lst []) f3)
    have e3 : (upd H2 l3 (.lst [])) l3 = some (.lst []) := upd_same
    generalize upd H2 l3 (.lst []) = H3 at s3 e3
    refine ⟨Nat.zero_le _, fun l4 f4 => ?_⟩
    have s34 := Same.new (o := .lst []) f4
    have s4 := s3.trans s34
    have e4 : (upd H3 l4 (.lst [])) l4 = some (.lst []) := upd_same
    generalize upd H3 l4 (.lst []) = H4 at s4 s34 e4
    refine ne_l (ns := []) (s34 _ _ e3) e4 ?_
    refine .inl ⟨x, dx, _, rfl, s4 _ _ hx, rfl, _, rfl, _, rfl, rfl, ?_⟩
    refine .inl ⟨x, dx, _, rfl, s4 _ _ hx, rfl, _, rfl, ?_⟩
    refine ⟨_, _, rfl, rfl, .inl ⟨x, dx, t, rfl, s4 _ _ hx⟩, fun H5 s5 => ?_⟩
    exact ⟨_, _, rfl, rfl, .inl ⟨x, dx, t, rfl, s5 _ _ (s4 _ _ hx)⟩, fun H6 s6 => q _ (s4.trans (s5.trans s6))⟩
theorem alike_step (T : Txt K mg a) (hB : Bm mg base) (D : Nat) (ih : FnOk P w K mg base CX0 (D + 9) a.f_L_alike a.d_L_alike ["_law_node_here", "_law_tree_here", "_law_deep"] (spAlike a D)) : FnOk P w K mg base CX0 (D + 10) a.f_L_alike a.d_L_alike ["_law_node_here", "_law_tree_here", "_law_deep"] (spAlike a (D + 1)) := by
  have G_L_alike : FnOk P w K mg base CX0 (D + 9) _ _ _ (spAlike a D) := ih
  have G_L_is_told : FnOk P w K mg base CX0 (D + 9) _ _ _ (spIsTold a) := (ok_is_told T hB).mono (by omega)
  have G_L_whole : FnOk P w K mg base CX0 (D + 9) _ _ _ spWhole := (ok_whole T).mono (by omega)
  have G_Told_is_told : FnOk P w K mg base CX0 (D + 9) _ _ _ (spV (.bl true)) := (ok_tt T).mono (by omega)
  have G_Die_is_told : FnOk P w K mg base CX0 (D + 9) _ _ _ (spV (.bl false)) := (ok_dt T).mono (by omega)
  have G_Told_kept : FnOk P w K mg base CX0 (D + 9) _ _ _ (spTK a) := (ok_tk T).mono (by omega)
  have G_Die_kept : FnOk P w K mg base CX0 (D + 9) _ _ _ (spV .non) := (ok_dk T).mono (by omega)
  have G_Told_sides : FnOk P w K mg base CX0 (D + 9) _ _ _ (spV (.int 0)) := (ok_ts T).mono (by omega)
  have G_Die_sides : FnOk P w K mg base CX0 (D + 9) _ _ _ (spDS a) := (ok_ds T).mono (by omega)
  have G_Told_parts : FnOk P w K mg base CX0 (D + 9) _ _ _ spTP := (ok_tp T).mono (by omega)
  have G_Die_parts : FnOk P w K mg base CX0 (D + 9) _ _ _ (spDP a) := (ok_dp T hB).mono (by omega)
  refine T.F_L_alike.ok sc_L_alike (fun vs H Q E h => ?_) (fun cdv A outer s H vs Q E hr h => ?_)
  · obtain ⟨v, w', H0, d, t, deep, rfl, _⟩ := h; rfl
  · obtain ⟨v, w', H0, d, t, deep, rfl, hdeep, ⟨hn, ht, hsq, s0, hT⟩, q⟩ := h
    have small : sizeLine = 16777216 := sizeLine_eq
    refine ⟨_, (pss_cons (ps_if (pt_not (t_val (pe_callB call_isi rfl T.z_isinstance bt_isinstance (pa_cons (vr 0) (pa_cons (pe_gl rfl T.g_Node) pa_nil))))) (pss_one (ps_ret pe_bl)) pss_nil) (pss_cons (ps_if (t_val (pe_callB call_isi rfl T.z_isinstance bt_isinstance (pa_cons (vr 1) (pa_cons (pe_bltn (v := .ty "list") rfl T.z_list bt_list rfl) pa_nil)))) (pss_one (ps_ret (pe_call G_L_is_told hr rfl T.m_L_is_told T.F_L_is_told.kp T.B_L_is_told .nil pass0 (pa_cons (vr 0) (pa_cons (vr 1) pa_nil))))) pss_nil) (pss_cons (ps_if (PW.pt (pw_or (pt_not (t_val (pe_callB call_isi rfl T.z_isinstance bt_isinstance (pa_cons (vr 0) (pa_cons (pe_gl rfl T.g_Die) pa_nil))))) (pw_or (t_cmp o_isnotB (PE.or (pe_meth0 (vr 0) T.cl_Told T.mt_Told_is_told G_Told_is_told hr T.B_Told_is_told .nil pass0) (pe_meth0 (vr 0) T.cl_Die T.mt_Die_is_told G_Die_is_told hr T.B_Die_is_told .nil pass0)) pe_bl (nomark _)) (pw_or1 (t_cmp o_isnot (PE.or (pe_meth0 (vr 0) T.cl_Told T.mt_Told_kept G_Told_kept hr T.B_Told_kept .nil pass0) (pe_meth0 (vr 0) T.cl_Die T.mt_Die_kept G_Die_kept hr T.B_Die_kept .nil pass0)) pe_non (nomark _)))))) (pss_one (ps_ret pe_bl)) pss_nil) (pss_cons (ps_set (i := 3) sc_L_alike.nd rfl (Or.inl rfl) (pe_callB (call_sumI rfl) rfl T.z_sum bt_sum (pa_cons (pe_comp rfl (N := ["_law_many", "_law_part"]) (ix := [none, none]) ⟨rfl, rfl, rfl, rfl, trivial⟩ (pi_any (vr 1)) ⟨fun C s H fp => (pg_tupK (K := K) (n := 2) rfl rfl (pgs_cons (pg_name (i := 0) (show List.Nodup (["_law_many", "_law_part"] : List Str) by decide +kernel) rfl (Or.inl rfl)) (pgs_cons (pg_name (i := 1) (show List.Nodup (["_law_many", "_law_part"] : List Str) by decide +kernel) rfl (Or.inl rfl)) pgs_nil))), fun C s H fp => pts_nil, fun C s H fp => (vr 0)⟩) pa_nil))) (pss_cons (ps_if (PW.pt (pw_or (pt_not (t_val (pe_call G_L_whole hr rfl T.m_L_whole T.F_L_whole.kp T.B_L_whole .nil pass0 (pa_cons (PE.or (pe_meth0 (vr 0) T.cl_Told T.mt_Told_sides G_Told_sides hr T.B_Told_sides .nil pass0) (pe_meth0 (vr 0) T.cl_Die T.mt_Die_sides G_Die_sides hr T.B_Die_sides .nil pass0)) pa_nil)))) (pw_or1 (t_cmp o_ne (PE.or (pe_meth0 (vr 0) T.cl_Told T.mt_Told_sides G_Told_sides hr T.B_Told_sides .nil pass0) (pe_meth0 (vr 0) T.cl_Die T.mt_Die_sides G_Die_sides hr T.B_Die_sides .nil pass0)) (vr 3) (nomark _))))) (pss_one (ps_ret pe_bl)) pss_nil) (pss_cons (ps_set (i := 4) sc_L_alike.nd rfl (Or.inl rfl) (PE.or (pe_meth0 (vr 0) T.cl_Told T.mt_Told_parts G_Told_parts hr T.B_Told_parts .nil pass0) (pe_meth0 (vr 0) T.cl_Die T.mt_Die_parts G_Die_parts hr T.B_Die_parts .nil pass0))) (pss_cons (ps_if (PW.pt (pw_or (pt_not (t_val (pe_callB call_isi rfl T.z_isinstance bt_isinstance (pa_cons (vr 4) (pa_cons (pe_bltn (v := .ty "list") rfl T.z_list bt_list rfl) pa_nil))))) (pw_or1 (t_cmp (o_neD hr.units) (pe_comp rfl (N := ["_law_row"]) (ix := [none]) ⟨rfl, rfl, rfl, rfl, trivial⟩ (pi_any (vr 4)) ⟨fun C s H fp => pg_name (i := 0) (show List.Nodup (["_law_row"] : List Str) by decide +kernel) rfl (Or.inl rfl), fun C s H fp => pts_nil, fun C s H fp => (pe_ix (ix_seqK (K := K) rfl) (vr 0) pe_int (fun _ _ => rfl))⟩) (pe_comp rfl (N := ["_law_many", "_law_part"]) (ix := [none, none]) ⟨rfl, rfl, rfl, rfl, trivial⟩ (pi_any (vr 1)) ⟨fun C s H fp => (pg_tupK (K := K) (n := 2) rfl rfl (pgs_cons (pg_name (i := 0) (show List.Nodup (["_law_many", "_law_part"] : List Str) by decide +kernel) rfl (Or.inl rfl)) (pgs_cons (pg_name (i := 1) (show List.Nodup (["_law_many", "_law_part"] : List Str) by decide +kernel) rfl (Or.inl rfl)) pgs_nil))), fun C s H fp => pts_nil, fun C s H fp => (vr 0)⟩) (nomark _))))) (pss_one (ps_ret pe_bl)) pss_nil) (pss_cons (ps_if (t_cmp o_eq (vr 2) pe_int (nomark _)) (pss_one (ps_ret pe_bl)) pss_nil) (pss_cons (ps_for PassesOwn.never rfl (pi_range1 rfl T.z_range (pa_cons (pe_callB call_lenM rfl T.z_len bt_len (pa_cons (vr 1) pa_nil)) pa_nil)) (pg_name (i := 5) sc_L_alike.nd rfl (Or.inl rfl)) (pss_one (ps_if (PW.pt (pw_or (pt_not (t_val (pe_callB call_isi rfl T.z_isinstance bt_isinstance (pa_cons (pe_ix ix_seq (vr 4) (vr 5) (fun _ _ => rfl)) (pa_cons (pe_bltn (v := .ty "tuple") rfl T.z_tuple bt_tuple rfl) pa_nil))))) (pw_or1 (pt_not (t_val (pe_call G_L_alike hr rfl T.m_L_alike T.F_L_alike.kp T.B_L_alike .nil pass0 (pa_cons (pe_ix ix_seq (pe_ix ix_seq (vr 4) (vr 5) (fun _ _ => rfl)) pe_int (fun _ _ => rfl)) (pa_cons (pe_ix ix_seq (pe_ix ix_seq (vr 1) (vr 5) (fun _ _ => rfl)) pe_int (fun _ _ => rfl)) (pa_cons (pe_op o_sub (vr 2) pe_int) pa_nil))))))))) (pss_one (ps_ret pe_bl)) pss_nil))) (pss_one (ps_ret pe_bl))))))))))), ?_⟩
    cases t with
    | leaf ns =>
      obtain ⟨x, dx, tt, ms, rfl, hx, htt, hs⟩ := id hn
      obtain ⟨p, rfl, hp, hl⟩ := (isTree_leaf d).mp ht
      refine ⟨_, _, _, true, rfl, rfl, T.ty_Told _ _ _ _ hx, T.ktn, ?_⟩
      refine ⟨_, _, _, true, rfl, rfl, .lst (s0.at hp), rfl, ?_⟩
      exact ⟨_, _, ns, rfl, hn, ⟨p, rfl, s0.at hp, hl⟩, fun H' s1 => q _ s1.t (hT.same s1)⟩
    | die ps =>
      obtain ⟨d', rfl, hd⟩ := hn
      obtain ⟨rs, hraw, hpr⟩ := die_raw hd
      have etot := tot_pair (fun p q h => h.1) hpr
      obtain ⟨x, dx, l, ys, rfl, hx, _⟩ := id hd
      obtain ⟨d2, e2, p, vs, rfl, hp, hP, hl1, hl2⟩ := isTree_die ht
      cases e2
      have hp := s0.at hp
      refine ⟨_, _, _, true, rfl, rfl, T.ty_Die _ _ _ _ hx, T.kdn, ?_⟩
      refine ⟨_, _, _, false, rfl, rfl, .tup hp, rfl, ?_⟩
      refine ⟨_, _, _, true, rfl, rfl, T.ty_Die _ _ _ _ hx, T.kdd, ?_⟩
      refine .inr ⟨x, dx, _, rfl, hx, rfl, _, rfl, _, _, rfl, rfl, ?_⟩
      refine .inr ⟨x, dx, _, rfl, hx, rfl, _, rfl, ?_⟩
      refine .inr ⟨⟨_, SqT.of hp⟩, fun D1 hD1 => ?_⟩
      refine comp_tup (K := K) (a := p) (xs := vs) (fun i zs H' => Same H H' ∧ H' D1 = some (.lst zs) ∧ i ≤ ps.length ∧ zs = ((ps.take i).map (·.1)).map V.int) ⟨Same.new hD1, upd_same, Nat.zero_le _, rfl⟩ (fun i ys H2 h => SqT.of (h.1 _ _ hp)) (fun i ys H2 h => h.2.1) ?_ ?_
      · rintro i y zs H2 P' hy ⟨s2, hD2, hi, rfl⟩ hP'
        obtain ⟨⟨many, t2⟩, hpt, q', w', rfl, hq1, _⟩ := paired_get hP hy
        have ilt : i < ps.length := (List.getElem?_eq_some_iff.mp hpt).1
        refine ⟨q', _, rfl, SqT.of (s2 _ _ (s0.at hq1)), rfl, _, _, rfl, _, _, rfl, rfl, trivial, hD2, by rw [List.length_map, List.length_map, List.length_take]; omega, hP' _ _ ⟨s2.put hD1, upd_same, ilt, ?_⟩⟩
        rw [List.take_add_one, hpt]
        simp
      rintro zs H1 ⟨s1, hD2, _, rfl⟩
      rw [show vs.length = ps.length from hP.length.symm, List.take_length] at hD2
      refine ⟨D1, _, rfl, SqL.of hD2, ?_⟩
      change _
      refine .inr ⟨x, dx, _, rfl, s1 _ _ hx, rfl, _, rs, rfl, hraw.t s1.t, fun H2 s2 => ?_⟩
      refine ⟨_, rfl, rfl, ?_⟩
      have s12 := s1.trans s2
      refine .inr ⟨x, dx, _, rfl, s12 _ _ hx, rfl, _, rs, rfl, hraw.t s12.t, fun H3 s3 => ?_⟩
      have s13 := s12.trans s3
      refine iteNS (c := tot rs = (ps.map (·.1)).sum) etot.symm ?_
      refine .inr ⟨x, dx, _, rfl, s13 _ _ hx, rfl, _, H0, d', ps, rfl, hd.t s13.t, hsq, s0.trans s13.t, hT.same s13, fun H4 D4 zs t4 hT4 f4 hD4 hz => ?_⟩
      have t04 := s13.t.trans t4
      refine ⟨_, _, _, true, rfl, rfl, .lst hD4, rfl, ?_⟩
      have zl : zs.length = ps.length := hz.length.symm
      refine .inl ⟨⟨_, SqL.of hD4⟩, fun D5 hD5 => ?_⟩
      refine comp_list (K := K) (a := D4) (xs := zs) (fun i us H' => Same H4 H' ∧ H' D5 = some (.lst us) ∧ i ≤ ps.length ∧ us = ((ps.take i).map (·.1)).map V.int) ⟨Same.new hD5, upd_same, Nat.zero_le _, rfl⟩ (fun i us H' h => SqL.of (h.1 _ _ hD4)) (fun i us H' h => h.2.1) ?_ ?_
      · rintro i y us H' P' hy ⟨s5, hD6, hi, rfl⟩ hP'
        obtain ⟨⟨many, t2⟩, hpt, q1, u, rfl, hq1, _⟩ := paired_get hz hy
        have ilt : i < ps.length := (List.getElem?_eq_some_iff.mp hpt).1
        refine ⟨trivial, .inr (.inl ⟨q1, _, _, _, rfl, rfl, SqT.of (s5 _ _ hq1), atI_cons 0 rfl rfl, hD6, by rw [List.length_map, List.length_map, List.length_take]; omega, hP' _ _ ⟨s5.put hD5, upd_same, ilt, ?_⟩⟩)⟩
        rw [List.take_add_one, hpt]
        simp
      rintro us H5 ⟨s5, hD6, _, rfl⟩
      rw [zl, List.take_length] at hD6
      have t05 := t04.trans s5.t
      refine .inr ⟨⟨_, SqT.of (t05.at hp)⟩, fun D7 hD7 => ?_⟩
      refine comp_tup (K := K) (a := p) (xs := vs) (fun i zs H' => Same H5 H' ∧ H' D7 = some (.lst zs) ∧ i ≤ ps.length ∧ zs = ((ps.take i).map (·.1)).map V.int) ⟨Same.new hD7, upd_same, Nat.zero_le _, rfl⟩ (fun i ys H2 h => SqT.of (h.1 _ _ (t05.at hp))) (fun i ys H2 h => h.2.1) ?_ ?_
      · rintro i y zs H2 P' hy ⟨s2, hD2, hi, rfl⟩ hP'
        obtain ⟨⟨many, t2⟩, hpt, q', w', rfl, hq1, _⟩ := paired_get hP hy
        have ilt : i < ps.length := (List.getElem?_eq_some_iff.mp hpt).1
        refine ⟨q', _, rfl, SqT.of (s2 _ _ (t05.at (s0.at hq1))), rfl, _, _, rfl, _, _, rfl, rfl, trivial, hD2, by rw [List.length_map, List.length_map, List.length_take]; omega, hP' _ _ ⟨s2.put hD7, upd_same, ilt, ?_⟩⟩
        rw [List.take_add_one, hpt]
        simp
      rintro us H6 ⟨s6, hD8, _, rfl⟩
      rw [show vs.length = ps.length from hP.length.symm, List.take_length] at hD8
      refine ne_l (s6 _ _ hD6) hD8 ?_
      have s46 := s5.trans s6
      have hT6 := hT4.same s46
      have t06 := t05.trans s6.t
      cases deep with
      | zero => exact q _ t06 hT6
      | succ m =>
        refine ⟨vs, .inr (SqT.of (t06.at hp)), vs.length, rfl, by omega, by have := hP.length; omega, ?_⟩
        refine for_range (lo := 0) (n := vs.length) (fun i σ H' => SameT H6 H' ∧ TabsOk (tabs a) H' ∧ ∃ x3 x5 : Option V, σ = [some (.ref x), some (.ref p), some (.int ((m + 1 : Nat) : Int)), x3, some (.ref D4), x5]) ⟨SameT.refl, hT6, _, none, rfl⟩ ?_ ?_
        · rintro i σ H' hi ⟨t7, hT7, x3, x5, rfl⟩
          have hi' : i < zs.length := by have := hP.length; omega
          have ez : zs[i]? = some zs[i] := List.getElem?_eq_getElem hi'
          have ev : vs[i]? = some vs[i] := List.getElem?_eq_getElem hi
          obtain ⟨⟨many, t2⟩, hpt, q1, u, e1, hq1, hu⟩ := paired_get hz ez
          obtain ⟨⟨many', t2'⟩, hpt', q2, w2, e2, hq2, _, _, hw2⟩ := paired_get hP ev
          rw [hpt] at hpt'
          cases hpt'
          rw [e1] at ez
          rw [e2] at ev
          have t47 := s46.t.trans t7
          refine .inl ⟨D4, _, _, _, rfl, rfl, SqL.of (t47.at hD4), atI_cons i (by omega) ez, ?_⟩
          refine ⟨_, _, _, true, rfl, rfl, .tup (t47.at hq1), rfl, ?_⟩
          refine .inl ⟨D4, _, _, _, rfl, rfl, SqL.of (t47.at hD4), atI_cons i (by omega) ez, .inr (.inl ⟨q1, _, _, _, rfl, rfl, SqT.of (t47.at hq1), atI_cons 1 rfl rfl, ?_⟩)⟩
          refine .inr (.inl ⟨p, _, _, _, rfl, rfl, SqT.of ((t06.trans t7).at hp), atI_cons i (by omega) ev, .inr (.inl ⟨q2, _, _, _, rfl, rfl, SqT.of ((t06.trans t7).at (s0.at hq2)), atI_cons 1 rfl rfl, ?_⟩)⟩)
          refine ⟨u, w2, H0, d', t2, m, congrArg (fun i => [u, w2, V.int i]) (by omega), by omega, ⟨hu.t t47, hw2, hsq, s0.trans (t06.trans t7), hT7⟩, fun H8 t8 hT8 => ?_⟩
          exact ⟨t7.trans t8, hT8, _, _, rfl⟩
        · rintro σ H' ⟨t7, hT7, x3, x5, rfl⟩
          exact q _ (t06.trans t7) hT7
theorem ok_alike (T : Txt K mg a) (hB : Bm mg base) : ∀ D, FnOk P w K mg base CX0 (D + 9) a.f_L_alike a.d_L_alike ["_law_node_here", "_law_tree_here", "_law_deep"] (spAlike a D)
  | 0 => ⟨fun _ _ _ _ ⟨_, _, _, _, _, _, _, h, _⟩ => absurd h (Nat.not_lt_zero _), fun _ _ _ _ _ _ _ _ _ _ _ _ _ ⟨_, _, _, _, _, _, _, h, _⟩ => absurd h (Nat.not_lt_zero _)⟩
  | D + 1 => alike_step T hB D (ok_alike T hB D)
end
end My
set_option Elab.async false
set_option linter.all false
set_option maxRecDepth 100000
set_option maxHeartbeats 4000000
namespace My
open PySem L2 FrM
theorem odd_at {c b : Int} (hb : 0 ≤ b) : ∃ y, atI [V.bl true, V.non, V.str "0", V.int (0 - 1 - c % 100), V.int (b + c % 100), V.int b] (c % 5) = some y ∧ isThr y = true ∧ inR 0 (b - 1) (thr y) = false := by
  have h : c % 5 = 0 ∨ c % 5 = 1 ∨ c % 5 = 2 ∨ c % 5 = 3 ∨ c % 5 = 4 := by omega
  rcases h with h | h | h | h | h <;> rw [h]
  · exact ⟨_, atI_cons 0 rfl rfl, rfl, rfl⟩
  · exact ⟨_, atI_cons 1 rfl rfl, rfl, rfl⟩
  · exact ⟨_, atI_cons 2 rfl rfl, by decide +kernel, rfl⟩
  · exact ⟨_, atI_cons 3 rfl rfl, rfl, decide_eq_false (by omega)⟩
  · exact ⟨_, atI_cons 4 rfl rfl, rfl, decide_eq_false (by omega)⟩
def spThrows (a : Ad) : Sp := fun vs H Q _ => ∃ v w c H0 d ps, vs = [v, w, .int c] ∧ Like a H0 H d v w (.die ps) ∧ ∀ H', SameT H H' → TabsOk (tabs a) H' → Q (.bl true) H'
def NT (a : Ad) (H H' : Hp) : Prop := ∀ b o, (∀ q ∈ tabs a, q.1 ≠ b) → H b = some o → H' b = some o
def spNoted (a : Ad) : Sp := fun vs H Q _ => ∃ l, ∃ k : Int, vs = [.int k, .ref l] ∧ TabsOk (tabs a) H ∧ ∀ H' f, SameT H H' → TabsOk (tabs a) H' → NT a H H' → IsDef H' dd_L_noted_1 fvN f [.int k, .ref l] → Q f H'
def spCMake (a : Ad) : Sp := fun vs H Q _ => ∃ mk cr, vs = [mk, cr] ∧ TabsOk (tabs a) H ∧ ∀ H' f, SameT H H' → TabsOk (tabs a) H' → IsLam H' ld_carried_make_1 fvC f [mk, cr] → Q f H'
def CarR (cr : V) (H : Hp) (r : Int × V) (y : V) : Prop := ∃ q f, y = .ref q ∧ H q = some (.tup [.int r.1, f]) ∧ 1 ≤ r.1 ∧ IsLam H ld_carried_make_1 fvC f [r.2, cr]
theorem CarR.t {cr : V} {H H' : Hp} (s : SameT H H') (r : Int × V) (y : V) (h : CarR cr H r y) : CarR cr H' r y := by
  obtain ⟨q, f, h1, h2, h3, h4⟩ := h
  exact ⟨q, f, h1, s.at h2, h3, h4.t s⟩
def IsCar (a : Ad) (H : Hp) (cr v : V) (rs : List (Int × V)) : Prop := ∃ x dx l ys, v = .ref x ∧ H x = some (.ins a.c_Die dx [("makes", .ref l)]) ∧ H l = some (.lst ys) ∧ Paired (CarR cr H) rs ys ∧ 1 ≤ rs.length ∧ rs.length ≤ 5
theorem IsCar.t {a : Ad} {H H' : Hp} {cr v : V} {rs : List (Int × V)} (s : SameT H H') (h : IsCar a H cr v rs) : IsCar a H' cr v rs := by
  obtain ⟨x, dx, l, ys, h1, h2, h3, h4, h5, h6⟩ := h
  exact ⟨x, dx, l, ys, h1, s.at h2, s.at h3, paired_imp (CarR.t s) h4, h5, h6⟩
def spCarried (a : Ad) : Sp := fun vs H Q _ => ∃ v cr rs, vs = [v, cr] ∧ IsRaw a H v rs ∧ TabsOk (tabs a) H ∧ ∀ H' u, SameT H H' → TabsOk (tabs a) H' → IsCar a H' cr u rs → Q u H'
def spBehD (a : Ad) : Sp := fun vs H Q _ => ∃ v g rs, vs = [v, g] ∧ IsRaw a H v rs ∧ TabsOk (tabs a) H ∧ ∀ H' u cr, SameT H H' → TabsOk (tabs a) H' → IsLam H' ld_behind_1 fvB cr [g] → IsCar a H' cr u rs → Q u H'
section
variable {P : Program} {w : World} {K : PySem.W.Frag} {mg : Str → Option Value} {base : Heap} {a : Ad}
theorem after_tree {H0 H : Hp} {d : Nat} {v : V} {ps : List (Int × Tr)} {t : Int} {u : Tr} {Q : VK} (hd : IsDie a H0 H d v ps) (hsq : SqH H0) (s0 : SameT H0 H) (hT : TabsOk (tabs a) H) (t0 : 0 ≤ t) (t1 : t < tot ps) (hp : pick ps t = some u)
    (q : ∀ H' v', SameT H H' → TabsOk (tabs a) H' → IsNode a H0 H' d v' u → Q v' H') : spDA a [v, .int t] H Q (fun _ _ _ => False) := by
  obtain ⟨rs, hraw, hpr⟩ := die_raw hd
  have etot := tot_pair (fun p q h => h.1) hpr
  obtain ⟨m, f, hpf, _, w', hl, htr⟩ := pick_pair (fun p q h => h.1) hpr hp
  refine ⟨v, .int t, rs, rfl, rfl, hraw, fun _ => ⟨t, f, rfl, hpf, fun H1 s1 => .inl ?_⟩, fun e => ?_⟩
  · obtain ⟨f', c, clos, e1, k2, k3, k4, k5, k6⟩ := hl.t s1.t
    exact ⟨f', c, clos, _, e1, k2, k3, k4, k5, k6, w', d, u, H0, rfl, rfl, htr, s0.trans s1.t, hT.same s1, hsq, fun H' v' t' hT' hn _ => q _ _ (s1.t.trans t') hT' hn⟩
  · have e : decide (0 ≤ t ∧ t ≤ tot rs - 1) = false := e
    exact absurd (show 0 ≤ t ∧ t ≤ tot rs - 1 by omega) (of_decide_eq_false e)
theorem ok_throws (T : Txt K mg a) (hB : Bm mg base) : FnOk P w K mg base CX0 16 a.f_L_throws a.d_L_throws ["_law_node_here", "_law_tree_here", "_law_cell_here"] (spThrows a) := by
  have G_L_alike : FnOk P w K mg base CX0 15 _ _ _ (spAlike a 6) := ok_alike T hB 6
  have G_Die_after : FnOk P w K mg base CX0 15 _ _ _ (fun vs H Q _ => spDA a vs H Q fun _ _ _ => False) := (calmG (ok_da T hB)).mono (by decide)
  have G_L_refused : FnOk P w K mg base CX0 15 _ _ _ (spRef a) := (ok_refused T hB).mono (by decide)
  refine T.F_L_throws.ok sc_L_throws (fun vs H Q E h => ?_) (fun cdv A outer s H vs Q E hr h => ?_)
  · obtain ⟨v, w', c, H0, d, ps, rfl, _⟩ := h; rfl
  · obtain ⟨v, w', c, H0, d, ps, rfl, ⟨hn, ht, hsq, s0, hT⟩, q⟩ := h
    have small : sizeLine = 16777216 := sizeLine_eq
    refine ⟨_, (pss_cons (ps_set (i := 3) sc_L_throws.nd rfl (Or.inl rfl) pe_int) (pss_cons (ps_for PassesOwn.never rfl (pi_any (vr 1)) (pg_tup rfl (pgs_cons (pg_name (i := 4) sc_L_throws.nd rfl (Or.inl rfl)) (pgs_cons (pg_name (i := 5) sc_L_throws.nd rfl (Or.inl rfl)) pgs_nil))) (pss_cons (ps_for PassesOwn.never rfl (pi_any (pe_lst (pa_cons (vr 3) (pa_cons (pe_op o_sub (pe_op o_add (vr 3) (vr 4)) pe_int) (pa_cons (pe_op o_add (vr 3) (pe_op o_mod (vr 2) (vr 4))) pa_nil))))) (pg_name (i := 6) sc_L_throws.nd rfl (Or.inl rfl)) (pss_one (ps_if (pt_not (t_val (pe_call G_L_alike hr rfl T.m_L_alike T.F_L_alike.kp T.B_L_alike .nil pass0 (pa_cons (pe_meth (vr 0) T.cl_Die T.mt_Die_after G_Die_after hr T.B_Die_after .nil pass0 (pa_cons (vr 6) pa_nil)) (pa_cons (vr 5) (pa_cons pe_int pa_nil)))))) (pss_one (ps_ret pe_bl)) pss_nil))) (pss_one (ps_set (i := 3) sc_L_throws.nd rfl (Or.inl rfl) (pe_op o_add (vr 3) (vr 4)))))) (pss_cons (ps_set (i := 7) sc_L_throws.nd rfl (Or.inl rfl) (pe_lstQ (paq_cons pe_bl (paq_cons pe_non (paq_cons pe_str (paq_cons (pe_op o_sub (pe_op o_sub pe_int pe_int) (pe_op o_mod (vr 2) pe_int)) (paq_cons (pe_op o_add (vr 3) (pe_op o_mod (vr 2) pe_int)) (paq_cons (vr 3) paq_nil)))))))) (pss_one (ps_ret (m_and (pe_call G_L_refused hr rfl T.m_L_refused T.F_L_refused.kp T.B_L_refused .nil pass0 (pa_cons (vr 0) (pa_cons (pe_ix ix_seq (vr 7) (pe_op o_mod (vr 2) pe_int) (fun _ _ => rfl)) pa_nil))) (pe_one (pe_call G_L_refused hr rfl T.m_L_refused T.F_L_refused.kp T.B_L_refused .nil pass0 (pa_cons (vr 0) (pa_cons (vr 3) pa_nil)))))))))), ?_⟩
    obtain ⟨d', e0, hd⟩ := hn
    subst e0
    obtain ⟨d2, e2, p, vs, rfl, hp, hP, hl1, hl2⟩ := isTree_die ht
    cases e2
    have hp := s0.at hp
    have pos : ∀ p ∈ ps, 0 ≤ p.1 := by
      obtain ⟨rs, hraw, hpr⟩ := die_raw hd
      have rp := raw_pos hraw
      clear ht hP hl1 hl2 hd hraw
      induction hpr with
      | nil => intro p hp; cases hp
      | cons r _ ih =>
        intro p hp
        rcases List.mem_cons.mp hp with rfl | hp
        · have := rp _ (List.mem_cons_self ..)
          have e := r.1
          omega
        · exact ih (fun p hp => rp p (List.mem_cons_of_mem _ hp)) p hp
    obtain ⟨x, dx, l, ys, rfl, hx, _⟩ := id hd
    refine .inr ⟨⟨_, SqT.of hp⟩, for_tup (K := K) (a := p) (xs := vs) (fun i σ H' => SameT H H' ∧ TabsOk (tabs a) H' ∧ ∃ x4 x5 x6 x7 : Option V, σ = [some (.ref x), some (.ref p), some (.int c), some (.int (tot (ps.take i))), x4, x5, x6, x7]) ⟨SameT.refl, hT, none, none, none, none, rfl⟩ (fun i σ H' _ h => SqT.of (h.1.at hp)) ?_ ?_⟩
    · rintro i y σ H' hy ⟨t1, hT1, x4, x5, x6, x7, rfl⟩
      obtain ⟨⟨many, u⟩, hpt, q1, w', rfl, hq1, m0, m1, hw⟩ := paired_get hP hy
      have esucc := tot_succ hpt
      refine ⟨q1, _, rfl, SqT.of (t1.at (s0.at hq1)), rfl, _, _, rfl, _, _, rfl, rfl, ?_⟩
      refine ⟨cp (by omega), by show 3 ≤ sizeLine; decide, fun l2 fl => ?_⟩
      have s2 := Same.new (o := .lst [.int (tot (ps.take i)), .int (tot (ps.take i) + many - 1), .int (tot (ps.take i) + c % many)]) fl
      have e2 : (upd H' l2 (.lst [.int (tot (ps.take i)), .int (tot (ps.take i) + many - 1), .int (tot (ps.take i) + c % many)])) l2 = some (.lst [.int (tot (ps.take i)), .int (tot (ps.take i) + many - 1), .int (tot (ps.take i) + c % many)]) := upd_same
      generalize upd H' l2 (.lst [.int (tot (ps.take i)), .int (tot (ps.take i) + many - 1), .int (tot (ps.take i) + c % many)]) = H2 at s2 e2
      refine .inl ⟨⟨_, SqL.of e2⟩, for_list (K := K) (a := l2) (xs := [.int (tot (ps.take i)), .int (tot (ps.take i) + many - 1), .int (tot (ps.take i) + c % many)]) (fun j σ H'' => SameT H2 H'' ∧ TabsOk (tabs a) H'' ∧ ∃ x6 x7 : Option V, σ = [some (.ref x), some (.ref p), some (.int c), some (.int (tot (ps.take i))), some (.int many), some w', x6, x7]) ⟨SameT.refl, hT1.same s2, _, _, rfl⟩ (fun i σ H' _ h => SqL.of (h.1.at e2)) ?_ ?_⟩
      · rintro j z σ H3 hz ⟨t3, hT3, x6, x7, rfl⟩
        have hz' : ∃ t, z = .int t ∧ tot (ps.take i) ≤ t ∧ t < tot (ps.take (i + 1)) := by
          have hm := List.mem_of_getElem? hz
          have := Int.emod_nonneg c (show many ≠ 0 by omega)
          have := Int.emod_lt_of_pos c (show 0 < many by omega)
          simp only [List.mem_cons, List.not_mem_nil, or_false] at hm
          rcases hm with rfl | rfl | rfl
          · exact ⟨_, rfl, by omega, by omega⟩
          · exact ⟨_, rfl, by omega, by omega⟩
          · exact ⟨_, rfl, by omega, by omega⟩
        obtain ⟨t, rfl, h1, h2⟩ := hz'
        have tn : 0 ≤ tot (ps.take i) := tot_nn _ fun p hp => pos p (List.mem_of_mem_take hp)
        have tl : tot (ps.take (i + 1)) ≤ tot ps := by
          have e : tot ps = tot (ps.take (i + 1)) + tot (ps.drop (i + 1)) := by
            unfold tot
            rw [← List.sum_append, ← List.map_append, List.take_append_drop]
          have := tot_nn (ps.drop (i + 1)) fun p hp => pos p (List.mem_of_mem_drop hp)
          omega
        have t13 := t1.trans (s2.t.trans t3)
        refine ⟨x, dx, _, rfl, t13.at hx, rfl, after_tree (hd.t t13) hsq (s0.trans t13) hT3 (by omega) (by omega) (pick_at ps i t many u pos hpt h1 h2) fun H4 v' t4 hT4 hn4 => ?_⟩
        refine ⟨v', w', H0, d', u, 0, rfl, by decide, ⟨hn4, hw, hsq, s0.trans (t13.trans t4), hT4⟩, fun H5 t5 hT5 => ?_⟩
        exact ⟨t3.trans (t4.trans t5), hT5, _, _, rfl⟩
      · rintro σ H3 ⟨t3, hT3, x6, x7, rfl⟩
        exact ⟨t1.trans (s2.t.trans t3), hT3, _, _, _, _, by rw [esucc]; rfl⟩
    · rintro σ H' ⟨t1, hT1, x4, x5, x6, x7, rfl⟩
      rw [show vs.length = ps.length from hP.length.symm, List.take_length]
      obtain ⟨rs, hraw, hpr⟩ := die_raw hd
      have etot := tot_pair (fun p q h => h.1) hpr
      have tn : 0 ≤ tot ps := tot_nn _ pos
      refine ⟨cp (by omega), cp (by omega), by show 6 ≤ sizeLine; decide, fun l2 fl => ?_⟩
      have s2 := Same.new (o := .lst [.bl true, .non, .str "0", .int (0 - 1 - c % 100), .int (tot ps + c % 100), .int (tot ps)]) fl
      obtain ⟨y, ey, ty, ny⟩ := odd_at (c := c) tn
      have t12 := t1.trans s2.t
      refine ⟨cp (by omega), .inl ⟨l2, _, _, y, rfl, rfl, SqL.of upd_same, ey, ?_⟩⟩
      refine ⟨_, _, rfl, ty, .inr ⟨rs, hraw.t t12, by rw [← etot]; exact ny⟩, fun H5 s5 => ?_⟩
      refine ⟨_, _, rfl, rfl, .inr ⟨rs, hraw.t (t12.trans s5.t), ?_⟩, fun H6 s6 => q _ (t12.trans (s5.trans s6).t) (hT1.same (s2.trans (s5.trans s6)))⟩
      exact decide_eq_false (by omega)
theorem ok_noted (T : Txt K mg a) (hB : Bm mg base) : FnOk P w K mg base CX0 1 a.f_L_noted a.d_L_noted ["_law_many", "_law_asked_here"] (spNoted a) := by
  refine T.F_L_noted.okL T.lcd_L_noted sc_L_noted (by decide +kernel) (fun vs H Q E h => ?_) (fun A outer s H vs Q E hr h => ?_)
  · obtain ⟨l, k, rfl, _⟩ := h; rfl
  · obtain ⟨l, k, rfl, hT, q⟩ := h
    refine ⟨_, (pr_cons (ps_def (d := dd_L_noted_1) (i := 2) sc_L_noted.nd rfl (Or.inl rfl) (.inr rfl) rfl T.lch_L_noted hB rfl (by with_unfolding_all rfl) rfl rfl rfl (tb_L_noted a) (.head _) T.tnd tp_L_noted) (pr_ret (vr 2))), ?_⟩
    refine ⟨hT, fun f1 c1 H2 t2 hT2 nt n1 ef1 ec1 => ?_⟩
    exact fun H3 s3 hc => q _ _ (t2.trans s3.t) (hT2.same s3) (fun b o nb e => s3 _ _ (nt b o nb e)) ⟨f1, c1, _, rfl, s3 _ _ ef1, s3 _ _ ec1, rfl, by simp, .cons (hc 0 _ _ _ rfl rfl (by with_unfolding_all rfl)) (.cons (hc 1 _ _ _ rfl rfl (by with_unfolding_all rfl)) .nil)⟩
theorem ok_cmake (T : Txt K mg a) (hB : Bm mg base) : FnOk P w K mg base CX0 1 a.f_carried_make a.d_carried_make ["make", "carry"] (spCMake a) := by
  refine T.F_carried_make.okL T.lcd_carried_make sc_carried_make (by decide +kernel) (fun vs H Q E h => ?_) (fun A outer s H vs Q E hr h => ?_)
  · obtain ⟨mk, cr, rfl, _⟩ := h; rfl
  · obtain ⟨mk, cr, rfl, hT, q⟩ := h
    refine ⟨_, (pr_ret (pe_lam (d := ld_carried_make_1) rfl T.lch_carried_make hB rfl (by with_unfolding_all rfl) rfl (tb_carried_make a) (.head _) T.tnd tp_carried_make)), ?_⟩
    refine ⟨hT, fun f1 c1 H2 t2 hT2 n1 ef1 ec1 => ?_⟩
    exact fun H3 s3 hc => q _ _ (t2.trans s3.t) (hT2.same s3) ⟨f1, c1, _, rfl, s3 _ _ ef1, s3 _ _ ec1, rfl, by simp, .cons (hc 0 _ _ _ rfl rfl (by with_unfolding_all rfl)) (.cons (hc 1 _ _ _ rfl rfl (by with_unfolding_all rfl)) .nil)⟩
theorem lam_cut {H : Hp} {D : Addr} {zs : List V} (hD : H D = some (.lst zs)) {d : LamD} {fv : List Str} {f : V} {ws : List V} (h : IsLam H d fv f ws) : IsLam (untr H D) d fv f ws := by
  have ne : ∀ b φ, H b = some (.ext φ) → b ≠ D := fun b φ e z => by rw [z, hD] at e; cases e
  obtain ⟨f', c, clos, k1, k2, k3, k4, k5, k6⟩ := h
  refine ⟨f', c, clos, k1, by rw [untr_ne (ne _ _ k2)]; exact k2, by rw [untr_ne (ne _ _ k3)]; exact k3, k4, k5, ?_⟩
  clear k2 k3 k4 k5
  induction k6 with
  | nil => exact .nil
  | cons r _ ih => exact .cons (by rw [untr_ne (ne _ _ r)]; exact r) ih
theorem def_cut {H : Hp} {D : Addr} {zs : List V} (hD : H D = some (.lst zs)) {d : DefD} {fv : List Str} {f : V} {ws : List V} (h : IsDef H d fv f ws) : IsDef (untr H D) d fv f ws := by
  have ne : ∀ b φ, H b = some (.ext φ) → b ≠ D := fun b φ e z => by rw [z, hD] at e; cases e
  obtain ⟨f', c, clos, k1, k2, k3, k4, k5, k6⟩ := h
  refine ⟨f', c, clos, k1, by rw [untr_ne (ne _ _ k2)]; exact k2, by rw [untr_ne (ne _ _ k3)]; exact k3, k4, k5, ?_⟩
  clear k2 k3 k4 k5
  induction k6 with
  | nil => exact .nil
  | cons r _ ih => exact .cons (by rw [untr_ne (ne _ _ r)]; exact r) ih
theorem ok_carried (T : Txt K mg a) (hB : Bm mg base) : FnOk P w K mg base CX0 3 a.x_Die_carried a.y_Die_carried ["self", "carry"] (spCarried a) := by
  have G_Die : FnOk P w K mg base CX0 1 _ _ _ (spDieI a) := oi_Die T
  have G_carried_make : FnOk P w K mg base CX0 2 _ _ _ (spCMake a) := (ok_cmake T hB).mono (by decide)
  refine T.F_Die_carried.ok sc_Die_carried (fun vs H Q E h => ?_) (fun cdv A outer s H vs Q E hr h => ?_)
  · obtain ⟨v, cr, rs, rfl, _⟩ := h; rfl
  · obtain ⟨v, cr, rs, rfl, ⟨x, dx, l, ys, rfl, hx, hl, hP, hl1, hl2⟩, hT, q⟩ := h
    have small : sizeLine = 16777216 := sizeLine_eq
    refine ⟨_, (pss_one (ps_ret (pe_make T.mk_Die G_Die hr rfl T.mc_Die T.Bi_Die .nil pass0 (pa_cons (pe_comp rfl (N := ["many", "make", "carry"]) (ix := [none, none, some 1]) ⟨rfl, rfl, rfl, rfl, ⟨rfl, rfl, rfl, trivial⟩⟩ (pi_any (pe_fld (vr 0) rfl)) ⟨fun C s H fp => (pg_tupK (K := K) (n := 2) rfl rfl (pgs_cons (pg_name (i := 0) (show List.Nodup (["many", "make", "carry"] : List Str) by decide +kernel) rfl (Or.inl rfl)) (pgs_cons (pg_name (i := 1) (show List.Nodup (["many", "make", "carry"] : List Str) by decide +kernel) rfl (Or.inl rfl)) pgs_nil))), fun C s H fp => pts_nil, fun C s H fp => (pe_tup (pa_cons (vr 0) (pa_cons (pe_call G_carried_make hr rfl T.m_carried_make T.F_carried_make.kp T.B_carried_make .nil pass0 (pa_cons (vr 1) (pa_cons (vr 2) pa_nil))) pa_nil)))⟩) pa_nil)))), ?_⟩
    refine ⟨x, _, dx, _, _, rfl, hx, T.cl_Die, T.na_Die_makes, rfl, .inl ⟨⟨_, SqL.of hl⟩, fun D hD => ?_⟩⟩
    have ext : ∀ {H' : Hp}, TabsOk (tabs a) H' → ∀ {ys : List V} {ys' : List V}, H' D = some (.lst ys) → TabsOk (tabs a) (upd H' D (.lst ys')) := fun hT' ys ys' e => hT'.put (fun ps z => by rw [e] at z; cases z) fun φ z => by rw [e] at z; cases z
    refine comp_list (K := K) (a := l) (xs := ys) (fun i zs H' => SameT H H' ∧ TabsOk (tabs a) H' ∧ H' D = some (.lst zs) ∧ i ≤ rs.length ∧ Paired (CarR cr (untr H' D)) (rs.take i) zs)
      ⟨(Same.new hD).t, hT.same (Same.new hD), upd_same, Nat.zero_le _, .nil⟩ (fun i ys H' h => SqL.of (h.1.at hl)) (fun i ys H' h => h.2.2.1) ?_ ?_
    · rintro i y zs H' P' hy ⟨t1, hT1, hD1, hi, hc⟩ hP'
      obtain ⟨⟨many, f⟩, hpt, q1, rfl, hq1, m0⟩ := paired_get hP hy
      have ilt : i < rs.length := (List.getElem?_eq_some_iff.mp hpt).1
      refine ⟨q1, _, rfl, SqT.of (t1.at hq1), rfl, _, _, rfl, _, _, rfl, rfl, ⟨rfl, trivial⟩, ?_⟩
      refine ⟨f, cr, rfl, hT1, fun H2 f2 t2 hT2 hf => ?_⟩
      have hD2 := t2.at hD1
      refine ⟨by show 2 ≤ sizeLine; decide, fun q2 hq2 => ?_⟩
      have nq : q2 ≠ D := fun z => by rw [z, hD2] at hq2; cases hq2
      have s3 := Same.new (o := .tup [.int many, f2]) hq2
      have hD3 := s3 _ _ hD2
      have yl : zs.length ≤ 5 := by rw [← hc.length, List.length_take]; omega
      have t13 := (t1.trans t2).trans s3.t
      refine ⟨hD3, by omega, hP' _ _ ⟨t13.put hD, ext (hT2.same s3) hD3, upd_same, ilt, paired_take (paired_imp (CarR.t ?_) hc) hpt ⟨q2, f2, rfl, ?_, m0, ?_⟩⟩⟩
      · exact (cut_of (t2.trans s3.t)).trans cut_put
      · rw [untr_ne nq, upd_ne nq]; exact upd_same
      · exact (lam_cut hD2 hf).t ((cut_of s3.t).trans cut_put)
    · rintro zs H' ⟨t1, hT1, hD1, hi, hc⟩
      rw [show ys.length = rs.length from hP.length.symm, List.take_length] at hc
      intro x2 dx2 hx2 hdx2 hne
      have s9 : Same H' (upd (upd H' dx2 (.own x2)) x2 (.ins a.c_Die dx2 [])) := fun b o e => by rw [upd_ne (ne_of_none e hx2), upd_ne (ne_of_none e hdx2)]; exact e
      refine ⟨x2, dx2, D, zs, rfl, upd_same, s9 _ _ hD1, fun H2 l2 fl k g1 g2 => ⟨rfl, ?_⟩⟩
      have s2 := made hx2 hdx2 k
      refine q _ _ (t1.trans s2.t) (hT1.same s2) ⟨x2, dx2, l2, zs, rfl, g1, g2, paired_imp (CarR.t fun b o e => ?_) hc, hl1, hl2⟩
      by_cases hb : b = D
      · rw [hb, untr_same] at e; cases e
      · rw [untr_ne hb] at e; exact s2.t b o e
theorem ok_behD (T : Txt K mg a) (hB : Bm mg base) : FnOk P w K mg base CX0 4 a.f_behind a.d_behind ["node", "go"] (spBehD a) := by
  have L_go : LamOkT P w K mg base 3 ld_L_late_1 (spGo a) := ok_go T hB
  have G_Told_is_told : FnOk P w K mg base CX0 3 _ _ _ (spV (.bl true)) := (ok_tt T).mono (by decide)
  have G_Die_is_told : FnOk P w K mg base CX0 3 _ _ _ (spV (.bl false)) := (ok_dt T).mono (by decide)
  have G_Told_kept : FnOk P w K mg base CX0 3 _ _ _ (spTK a) := (ok_tk T).mono (by decide)
  have G_Die_kept : FnOk P w K mg base CX0 3 _ _ _ (spV .non) := (ok_dk T).mono (by decide)
  have G_Die_carried : FnOk P w K mg base CX0 3 _ _ _ (spCarried a) := ok_carried T hB
  refine T.F_behind.okL T.lcd_behind sc_behind (by decide +kernel) (fun vs H Q E h => ?_) (fun A outer s H vs Q E hr h => ?_)
  · obtain ⟨v, g, rs, rfl, _⟩ := h; rfl
  · obtain ⟨v, g, rs, rfl, hraw, hT, q⟩ := h
    refine ⟨_, (pr_cons (ps_if (t_val (PE.or (pe_meth0 (vr 0) T.cl_Told T.mt_Told_is_told G_Told_is_told hr T.B_Told_is_told .nil pass0) (pe_meth0 (vr 0) T.cl_Die T.mt_Die_is_told G_Die_is_told hr T.B_Die_is_told .nil pass0))) (pss_one (ps_ret (pe_callLT (vr 1) L_go hr (pa_cons (PE.or (pe_meth0 (vr 0) T.cl_Told T.mt_Told_kept G_Told_kept hr T.B_Told_kept .nil pass0) (pe_meth0 (vr 0) T.cl_Die T.mt_Die_kept G_Die_kept hr T.B_Die_kept .nil pass0)) pa_nil)))) pss_nil) (pr_ret (pe_meth (vr 0) T.cl_Die T.mt_Die_carried G_Die_carried hr T.B_Die_carried .nil pass0 (pa_cons (pe_lam (d := ld_behind_1) rfl T.lch_behind hB rfl (by with_unfolding_all rfl) rfl (tb_behind a) (.head _) T.tnd tp_behind) pa_nil)))), ?_⟩
    obtain ⟨x, dx, l, ys, rfl, hx, _⟩ := id hraw
    refine .inr ⟨x, dx, _, rfl, hx, rfl, _, rfl, ?_⟩
    refine ⟨x, dx, _, rfl, hx, rfl, hT, fun f1 c1 H2 t2 hT2 n1 ef1 ec1 => ?_⟩
    refine ⟨_, _, rs, rfl, hraw.t t2, hT2, fun H3 u t3 hT3 hu => fun H4 s4 hc => ?_⟩
    exact q _ _ (.ref f1) (t2.trans (t3.trans s4.t)) (hT3.same s4) ⟨f1, c1, _, rfl, s4 _ _ (t3.at ef1), s4 _ _ (t3.at ec1), rfl, by simp, .cons (hc 1 _ _ _ rfl rfl (by with_unfolding_all rfl)) .nil⟩ (hu.t s4.t)
end
end My
set_option Elab.async false
set_option linter.all false
set_option maxRecDepth 100000
set_option maxHeartbeats 4000000
namespace My
open PySem L2 FrM
def AskR (l : Addr) (H : Hp) (r : Int × Nat) (y : V) : Prop := ∃ q f, y = .ref q ∧ H q = some (.tup [.int r.1, f]) ∧ 1 ≤ r.1 ∧ IsDef H dd_L_noted_1 fvN f [.int (r.2 : Nat), .ref l]
theorem AskR.t {l : Addr} {H H' : Hp} (s : SameT H H') (r : Int × Nat) (y : V) (h : AskR l H r y) : AskR l H' r y := by
  obtain ⟨q, f, h1, h2, h3, h4⟩ := h
  exact ⟨q, f, h1, s.at h2, h3, h4.t s⟩
theorem ask_raw {l : Addr} {H : Hp} {rows : List (Int × Nat)} {ys : List V} (h : Paired (AskR l H) rows ys) : ∃ rs, Paired (RowR H) rs ys ∧ Paired (fun (r : Int × Nat) (s : Int × V) => r.1 = s.1 ∧ IsDef H dd_L_noted_1 fvN s.2 [.int (r.2 : Nat), .ref l]) rows rs := by
  induction h with
  | nil => exact ⟨[], .nil, .nil⟩
  | @cons p y _ _ r _ ih =>
    obtain ⟨rs, i1, i2⟩ := ih
    obtain ⟨q, f, g1, g2, g3, g4⟩ := r
    exact ⟨(p.1, f) :: rs, .cons ⟨q, g1, g2, g3⟩ i1, .cons ⟨rfl, g4⟩ i2⟩
theorem car_raw {cr : V} {H : Hp} {rows : List (Int × V)} {ys : List V} (h : Paired (CarR cr H) rows ys) : ∃ rs, Paired (RowR H) rs ys ∧ Paired (fun (r : Int × V) (s : Int × V) => r.1 = s.1 ∧ IsLam H ld_carried_make_1 fvC s.2 [r.2, cr]) rows rs := by
  induction h with
  | nil => exact ⟨[], .nil, .nil⟩
  | @cons p y _ _ r _ ih =>
    obtain ⟨rs, i1, i2⟩ := ih
    obtain ⟨q, f, g1, g2, g3, g4⟩ := r
    exact ⟨(p.1, f) :: rs, .cons ⟨q, g1, g2, g3⟩ i1, .cons ⟨rfl, g4⟩ i2⟩
theorem keepN {l : Addr} {H H' : Hp} (hl : H l = some (.lst [])) (k : Keep [l] H H') {b : Addr} {o : HO} (e : H b = some o) (n : o ≠ .lst []) : H' b = some o := k b o (fun z => by rw [List.mem_singleton.mp z, hl] at e; cases e; exact n rfl) e
theorem raw_k {a : Ad} {l : Addr} {H H' : Hp} {v : V} {rs : List (Int × V)} (hl : H l = some (.lst [])) (k : Keep [l] H H') (h : IsRaw a H v rs) : IsRaw a H' v rs := by
  obtain ⟨x, dx, l', ys, h1, h2, h3, h4, h5, h6⟩ := h
  refine ⟨x, dx, l', ys, h1, keepN hl k h2 (fun z => nomatch z), keepN hl k h3 (fun z => ?_), paired_imp (fun r y ⟨q, g1, g2, g3⟩ => ⟨q, g1, keepN hl k g2 (fun z => nomatch z), g3⟩) h4, h5, h6⟩
  injection z with z
  rw [z] at h4
  have := h4.length
  rw [this] at h5
  cases h5
theorem sameT_tab {T : Addr} {ps : Array Value} {H H1 : Hp} (hT : H T = some (.tbl ps)) (k : Keep [T] H H1) (ex : ∃ o, H1 T = some o) : SameT H H1 := fun b o e => by
  by_cases hb : b = T
  · rw [hb, hT] at e
    cases e
    rw [hb]
    exact ⟨fun z => (Bool.false_ne_true z).elim, ex⟩
  · have := k b o (fun z => hb (List.mem_singleton.mp z)) e
    exact ⟨fun _ => this, o, this⟩
theorem sameT_keep {es : List Addr} {H H1 H2 : Hp} (s : SameT H H1) (h : ∀ e ∈ es, H e = none) (k : Keep es H1 H2) : SameT H H2 := fun b o e => by
  obtain ⟨f, o', e'⟩ := s b o e
  have nb : b ∉ es := fun z => by rw [h b z] at e; cases e
  exact ⟨fun n => k b o nb (f n), o', k b o' nb e'⟩
theorem tot_zip : ∀ (ns : List Int) (i : Nat), tot (ns.zipIdx i) = ns.sum
  | [], _ => rfl
  | n :: r, i => by rw [List.zipIdx_cons, tot_cons, tot_zip r, List.sum_cons]
theorem tot_take_le {α : Type} {ps : List (Int × α)} {k : Nat} (h : ∀ p ∈ ps, 0 ≤ p.1) : 0 ≤ tot (ps.take k) ∧ tot (ps.take k) ≤ tot ps := by
  have e : tot ps = tot (ps.take k) + tot (ps.drop k) := by
    unfold tot
    rw [← List.sum_append, ← List.map_append, List.take_append_drop]
  have := tot_nn (ps.drop k) fun p hp => h p (List.mem_of_mem_drop hp)
  have := tot_nn (ps.take k) fun p hp => h p (List.mem_of_mem_take hp)
  omega
theorem late_ne (T : Txt K mg a) : ∀ q ∈ tabs a, q.1 ≠ a.lp_L_late := by
  have nd := T.tndA
  intro q hq e
  simp only [tabs, List.mem_cons, List.not_mem_nil, or_false] at hq
  simp only [tabsA, List.map_cons, List.map_nil, List.nodup_cons, List.mem_cons, List.not_mem_nil, or_false, not_or, List.nodup_nil, and_true, not_false_eq_true] at nd
  rcases hq with rfl | rfl | rfl | rfl <;> simp_all
def spLate (a : Ad) : Sp := fun vs H Q _ => ∃ c : Int, vs = [.int c] ∧ TabsOk (tabs a) H ∧ H a.lp_L_late = some (.tbl #[]) ∧ ∀ H', SameT H H' → TabsOk (tabs a) H' → Q (.bl true) H'
section
variable {P : Program} {w : World} {K : PySem.W.Frag} {mg : Str → Option Value} {base : Heap} {a : Ad}
theorem ok_late (T : Txt K mg a) (hB : Bm mg base) : FnOk P w K mg base CX0 9 a.f_L_late a.d_L_late ["_law_cell_here"] (spLate a) := by
  have G_Die : FnOk P w K mg base CX0 7 _ _ _ (spDieI a) := (oi_Die T).mono (by decide)
  have G_L_noted : FnOk P w K mg base CX0 8 _ _ _ (spNoted a) := (ok_noted T hB).mono (by decide)
  have G_behind : FnOk P w K mg base CX0 8 _ _ _ (spBehD a) := (ok_behD T hB).mono (by decide)
  have G_Told_is_told : FnOk P w K mg base CX0 8 _ _ _ (spV (.bl true)) := (ok_tt T).mono (by decide)
  have G_Die_is_told : FnOk P w K mg base CX0 8 _ _ _ (spV (.bl false)) := (ok_dt T).mono (by decide)
  have G_Told_kept : FnOk P w K mg base CX0 8 _ _ _ (spTK a) := (ok_tk T).mono (by decide)
  have G_Die_kept : FnOk P w K mg base CX0 8 _ _ _ (spV .non) := (ok_dk T).mono (by decide)
  have G_Told_sides : FnOk P w K mg base CX0 8 _ _ _ (spV (.int 0)) := (ok_ts T).mono (by decide)
  have G_Die_sides : FnOk P w K mg base CX0 8 _ _ _ (spDS a) := (ok_ds T).mono (by decide)
  have G_Die_after : FnOk P w K mg base CX0 8 _ _ _ (fun vs H Q _ => spDA a vs H Q fun _ _ _ => False) := (calmG (ok_da T hB)).mono (by decide)
  refine T.F_L_late.okL T.lcd_L_late sc_L_late (by decide +kernel) (fun vs H Q E h => ?_) (fun A outer s H vs Q E hr h => ?_)
  · obtain ⟨c, rfl, _⟩ := h; rfl
  · obtain ⟨c, rfl, hT, hP0, q⟩ := h
    have small : sizeLine = 16777216 := sizeLine_eq
    refine ⟨_, (pr_cons (ps_set (i := 1) sc_L_late.nd rfl (Or.inr rfl) (pe_lst pa_nil)) (pr_cons (ps_set (i := 2) sc_L_late.nd rfl (Or.inr rfl) (pe_comp rfl (N := ["_law_power", "_law_cell_here"]) (ix := [none, some 0]) ⟨rfl, rfl, rfl, rfl, ⟨rfl, rfl, rfl, trivial⟩⟩ (pi_any (pe_lst (pa_consQ pe_int (pa_consQ pe_int (pa_consQ pe_int (pa_consQ pe_int (pa_consQ pe_int pa_nil))))))) ⟨fun C s H fp => pg_name (i := 0) (show List.Nodup (["_law_power", "_law_cell_here"] : List Str) by decide +kernel) rfl (Or.inl rfl), fun C s H fp => pts_nil, fun C s H fp => (pe_op o_add pe_int (pe_op o_mod (pe_op o_fdivB (vr 1) (vr 0)) pe_int))⟩)) (pr_cons (ps_set (i := 3) sc_L_late.nd rfl (Or.inl rfl) (pe_make T.mk_Die G_Die hr rfl T.mc_Die T.Bi_Die .nil pass0 (pa_cons (pe_comp rfl (N := ["_law_k", "_law_sizes", "_law_asked_here"]) (ix := [none, some 2, some 1]) ⟨rfl, rfl, rfl, rfl, ⟨rfl, rfl, rfl, ⟨rfl, rfl, rfl, trivial⟩⟩⟩ (pi_range1 rfl T.z_range (pa_cons pe_int pa_nil)) ⟨fun C s H fp => pg_name (i := 0) (show List.Nodup (["_law_k", "_law_sizes", "_law_asked_here"] : List Str) by decide +kernel) rfl (Or.inl rfl), fun C s H fp => pts_nil, fun C s H fp => (pe_tup (pa_cons (pe_ix (ix_seqK (K := K) rfl) (vr 1) (vr 0) (fun _ _ => rfl)) (pa_cons (pe_call G_L_noted hr rfl T.m_L_noted T.F_L_noted.kp T.B_L_noted .nil pass0 (pa_cons (vr 0) (pa_cons (vr 2) pa_nil))) pa_nil)))⟩) pa_nil))) (pr_cons (ps_if (PW.pt (pw_or (t_val (PE.or (pe_meth0 (vr 3) T.cl_Told T.mt_Told_is_told G_Told_is_told hr T.B_Told_is_told .nil pass0) (pe_meth0 (vr 3) T.cl_Die T.mt_Die_is_told G_Die_is_told hr T.B_Die_is_told .nil pass0))) (pw_or (t_cmp o_isnot (PE.or (pe_meth0 (vr 3) T.cl_Told T.mt_Told_kept G_Told_kept hr T.B_Told_kept .nil pass0) (pe_meth0 (vr 3) T.cl_Die T.mt_Die_kept G_Die_kept hr T.B_Die_kept .nil pass0)) pe_non (nomark _)) (pw_or (t_cmp o_ne (PE.or (pe_meth0 (vr 3) T.cl_Told T.mt_Told_sides G_Told_sides hr T.B_Told_sides .nil pass0) (pe_meth0 (vr 3) T.cl_Die T.mt_Die_sides G_Die_sides hr T.B_Die_sides .nil pass0)) (pe_callB (call_sumI rfl) rfl T.z_sum bt_sum (pa_cons (vr 2) pa_nil)) (nomark _)) (pw_or1 (t_cmp (o_neD hr.units) (vr 1) (pe_lst pa_nil) (nomark _))))))) (pss_one (ps_ret pe_bl)) pss_nil) (pr_cons (ps_set (i := 4) sc_L_late.nd rfl (Or.inl rfl) pe_int) (pr_cons (ps_for PassesOwn.never rfl (pi_range1 rfl T.z_range (pa_cons pe_int pa_nil)) (pg_name (i := 5) sc_L_late.nd rfl (Or.inr rfl)) (pss_cons (ps_if (PW.pt (pw_or (t_cmp (o_neD hr.units) (PE.or (pe_meth0 (pe_meth (vr 3) T.cl_Die T.mt_Die_after G_Die_after hr T.B_Die_after .nil pass0 (pa_cons (pe_op o_add (vr 4) (pe_op o_mod (vr 0) (pe_ix ix_seq (vr 2) (vr 5) (fun _ _ => rfl)))) pa_nil)) T.cl_Told T.mt_Told_kept G_Told_kept hr T.B_Told_kept .nil pass0) (pe_meth0 (pe_meth (vr 3) T.cl_Die T.mt_Die_after G_Die_after hr T.B_Die_after .nil pass0 (pa_cons (pe_op o_add (vr 4) (pe_op o_mod (vr 0) (pe_ix ix_seq (vr 2) (vr 5) (fun _ _ => rfl)))) pa_nil)) T.cl_Die T.mt_Die_kept G_Die_kept hr T.B_Die_kept .nil pass0)) (pe_tup (pa_cons (vr 5) pa_nil)) (nomark _)) (pw_or1 (t_cmp (o_neD hr.units) (pe_comp rfl (N := ["_law_one", "_law_k"]) (ix := [none, some 5]) ⟨rfl, rfl, rfl, rfl, ⟨rfl, rfl, rfl, trivial⟩⟩ (pi_any (vr 1)) ⟨fun C s H fp => pg_name (i := 0) (show List.Nodup (["_law_one", "_law_k"] : List Str) by decide +kernel) rfl (Or.inl rfl), fun C s H fp => pts_one (t_cmp o_ne (vr 0) (vr 1) (nomark _)), fun C s H fp => (vr 0)⟩) (pe_lst pa_nil) (nomark _))))) (pss_one (ps_ret pe_bl)) pss_nil) (pss_cons (ps_expr (pe_m.clear (vr 1))) (pss_one (ps_set (i := 4) sc_L_late.nd rfl (Or.inl rfl) (pe_op o_add (vr 4) (pe_ix ix_seq (vr 2) (vr 5) (fun _ _ => rfl)))))))) (pr_cons (ps_set (i := 6) sc_L_late.nd rfl (Or.inl rfl) (pe_call G_behind hr rfl T.m_behind T.F_behind.kp T.B_behind .nil pass0 (pa_cons (vr 3) (pa_cons (pe_lamT (d := ld_L_late_1) (b := true) rfl hB rfl (by with_unfolding_all rfl) rfl (tabs := tabs a)) pa_nil)))) (pr_cons (ps_if (PW.pt (pw_or (t_cmp o_ne (PE.or (pe_meth0 (vr 6) T.cl_Told T.mt_Told_sides G_Told_sides hr T.B_Told_sides .nil pass0) (pe_meth0 (vr 6) T.cl_Die T.mt_Die_sides G_Die_sides hr T.B_Die_sides .nil pass0)) (pe_callB (call_sumI rfl) rfl T.z_sum bt_sum (pa_cons (vr 2) pa_nil)) (nomark _)) (pw_or1 (t_cmp (o_neD hr.units) (vr 1) (pe_lst pa_nil) (nomark _))))) (pss_one (ps_ret pe_bl)) pss_nil) (pr_ret (m_and (pe_cmpR (o_eqD hr.units) (PE.or (pe_meth0 (pe_meth (pe_meth (vr 6) T.cl_Die T.mt_Die_after G_Die_after hr T.B_Die_after .nil pass0 (pa_cons pe_int pa_nil)) T.cl_Die T.mt_Die_after G_Die_after hr T.B_Die_after .nil pass0 (pa_cons pe_int pa_nil)) T.cl_Told T.mt_Told_kept G_Told_kept hr T.B_Told_kept .nil pass0) (pe_meth0 (pe_meth (pe_meth (vr 6) T.cl_Die T.mt_Die_after G_Die_after hr T.B_Die_after .nil pass0 (pa_cons pe_int pa_nil)) T.cl_Die T.mt_Die_after G_Die_after hr T.B_Die_after .nil pass0 (pa_cons pe_int pa_nil)) T.cl_Die T.mt_Die_kept G_Die_kept hr T.B_Die_kept .nil pass0)) (pe_tup (pa_cons pe_int pa_nil)) (nomark _)) (pe_one (pe_cmpR (o_eqD hr.units) (pe_comp rfl (N := ["_law_one"]) (ix := [none]) ⟨rfl, rfl, rfl, rfl, trivial⟩ (pi_any (vr 1)) ⟨fun C s H fp => pg_name (i := 0) (show List.Nodup (["_law_one"] : List Str) by decide +kernel) rfl (Or.inl rfl), fun C s H fp => pts_one (t_cmp o_ne (vr 0) pe_int (nomark _)), fun C s H fp => (vr 0)⟩) (pe_lst pa_nil) (nomark _))))))))))))), ?_⟩
    refine ⟨Nat.zero_le _, fun l fl => ?_⟩
    have s1 := Same.new (o := .lst []) fl
    have el1 : (upd H l (.lst [])) l = some (.lst []) := upd_same
    generalize upd H l (.lst []) = H1 at s1 el1
    refine ⟨by show 5 ≤ sizeLine; decide, fun lp fp => ?_⟩
    have s12 := Same.new (o := .lst [.int 1, .int 10, .int 100, .int 1000, .int 10000]) fp
    have ep : (upd H1 lp (.lst [.int 1, .int 10, .int 100, .int 1000, .int 10000])) lp = some (.lst [.int 1, .int 10, .int 100, .int 1000, .int 10000]) := upd_same
    generalize upd H1 lp (.lst [.int 1, .int 10, .int 100, .int 1000, .int 10000]) = H2 at s12 ep
    refine .inl ⟨⟨_, SqL.of ep⟩, fun D hD => ?_⟩
    refine comp_list (K := K) (a := lp) (xs := [.int 1, .int 10, .int 100, .int 1000, .int 10000]) (fun i zs H' => Same H2 H' ∧ H' D = some (.lst zs) ∧ ∃ ns : List Int, zs = ns.map V.int ∧ ns.length = i ∧ i ≤ 5 ∧ ∀ n ∈ ns, 1 ≤ n ∧ n ≤ 10) ⟨Same.new hD, upd_same, [], rfl, rfl, by omega, fun n hn => by cases hn⟩ (fun i zs H' h => SqL.of (h.1 _ _ ep)) (fun i zs H' h => h.2.1) ?_ ?_
    · rintro i y zs H' P' hy ⟨t1, hD1, ns, rfl, hl, hi, hns⟩ hP'
      have hi5 : i < 5 := (List.getElem?_eq_some_iff.mp hy).1
      obtain ⟨p, rfl, p0, p1⟩ : ∃ p : Int, y = .int p ∧ 1 ≤ p ∧ p ≤ 10000 := by
        have hm := List.mem_of_getElem? hy
        simp only [List.mem_cons, List.not_mem_nil, or_false] at hm
        rcases hm with rfl | rfl | rfl | rfl | rfl <;> exact ⟨_, rfl, by decide, by decide⟩
      refine ⟨⟨rfl, trivial⟩, cdB (by omega) (show Bt 40 p by unfold Bt; omega), cp, hD1, by rw [List.length_map]; omega, hP' _ _ ⟨t1.put hD, upd_same, ns ++ [_], by rw [List.map_append]; rfl, by rw [List.length_append, hl]; rfl, hi5, fun n hn => ?_⟩⟩
      rcases List.mem_append.mp hn with h | h
      · exact hns n h
      · have h := List.mem_singleton.mp h
        subst h
        omega
    rintro zs H3 ⟨s23, hls, ns, rfl, hnl, _, hns⟩
    have hnl : ns.length = 5 := hnl
    have s03 := s1.trans (s12.trans s23)
    have s13 := s12.trans s23
    generalize D = ls at hls
    clear hD
    -- the die
    refine ⟨5, rfl, by omega, by omega, fun D2 hD2 => ?_⟩
    have ext : ∀ {H' : Hp}, TabsOk (tabs a) H' → ∀ {ys : List V} {ys' : List V}, H' D2 = some (.lst ys) → TabsOk (tabs a) (upd H' D2 (.lst ys')) := fun hT' ys ys' e => hT'.put (fun ps z => by rw [e] at z; cases z) fun φ z => by rw [e] at z; cases z
    have hT3 := hT.same s03
    have hP3 := s03 _ _ hP0
    have hnt := late_ne T
    refine comp_rng (lo := 0) (n := 5) (fun i ys H' => SameT H3 H' ∧ TabsOk (tabs a) H' ∧ H' a.lp_L_late = some (.tbl #[]) ∧ H' D2 = some (.lst ys) ∧ i ≤ 5 ∧ Paired (AskR l (untr H' D2)) (ns.zipIdx.take i) ys)
      ⟨(Same.new hD2).t, hT3.same (Same.new hD2), (Same.new hD2) _ _ hP3, upd_same, Nat.zero_le _, .nil⟩ (fun i ys H' h => h.2.2.2.1) ?_ ?_
    · rintro i ys H' P' hi ⟨t1, hT1, hP1, hD1, hi', hc⟩ hP'
      obtain ⟨n, en, n0, n1⟩ : ∃ n, ns[i]? = some n ∧ 1 ≤ n ∧ n ≤ 10 := ⟨ns[i]'(by omega), List.getElem?_eq_getElem _, hns _ (List.getElem_mem _)⟩
      have ez : ns.zipIdx[i]? = some (n, i) := by rw [List.getElem?_zipIdx, en]; simp
      rw [show (0 : Int) + (i : Nat) = (i : Nat) from Int.zero_add _]
      refine ⟨⟨rfl, rfl, trivial⟩, .inl ⟨ls, _, _, .int n, rfl, rfl, SqL.of (t1.at hls), atI_nat (by rw [List.getElem?_map, en]; rfl), ?_⟩⟩
      refine ⟨l, _, rfl, hT1, fun H4 f t4 hT4 nt4 hf => ?_⟩
      have hD4 := t4.at hD1
      refine ⟨by show 2 ≤ sizeLine; decide, fun q2 hq2 => ?_⟩
      have nq : q2 ≠ D2 := fun z => by rw [z, hD4] at hq2; cases hq2
      have s5 := Same.new (o := .tup [.int n, f]) hq2
      have hD5 := s5 _ _ hD4
      have yl : ys.length ≤ 5 := by rw [← hc.length, List.length_take]; omega
      have t15 := (t1.trans t4).trans s5.t
      have hP5 := s5 _ _ (nt4 _ _ hnt hP1)
      refine ⟨hD5, by omega, hP' _ _ ⟨t15.put hD2, ext (hT4.same s5) hD5, ?_, upd_same, hi, paired_take (paired_imp (AskR.t ?_) hc) ez ⟨q2, f, rfl, ?_, n0, ?_⟩⟩⟩
      · rw [upd_ne fun z => by rw [← z, hP5] at hD5; cases hD5]; exact hP5
      · exact (cut_of (t4.trans s5.t)).trans cut_put
      · rw [untr_ne nq, upd_ne nq]; exact upd_same
      · exact (def_cut hD4 hf).t ((cut_of s5.t).trans cut_put)
    rintro ys H4 ⟨t34, hT4, hP4, hD4, _, hc⟩
    rw [List.take_of_length_le (by rw [List.length_zipIdx]; omega)] at hc
    intro x dx hx hdx hne
    have s9 : Same H4 (upd (upd H4 dx (.own x)) x (.ins a.c_Die dx [])) := fun b o e => by rw [upd_ne (ne_of_none e hx), upd_ne (ne_of_none e hdx)]; exact e
    refine ⟨x, dx, D2, ys, rfl, upd_same, s9 _ _ hD4, fun H5 lm flm kk g1 g2 => ⟨rfl, ?_⟩⟩
    have s45 := made hx hdx kk
    have hc5 : Paired (AskR l H5) ns.zipIdx ys := paired_imp (AskR.t fun b o e => by
      by_cases hb : b = D2
      · rw [hb, untr_same] at e; cases e
      · rw [untr_ne hb] at e; exact s45.t b o e) hc
    have t05 : SameT H H5 := s03.t.trans (t34.trans s45.t)
    have hT5 := hT4.same s45
    have hP5 := s45 _ _ hP4
    have el5 : H5 l = some (.lst []) := s45 _ _ (t34.at (s13 _ _ el1))
    have els5 : H5 ls = some (.lst (ns.map V.int)) := s45 _ _ (t34.at hls)
    obtain ⟨rs, hrow, hask⟩ := ask_raw hc5
    have rl : rs.length = 5 := by rw [← hask.length, List.length_zipIdx]; exact hnl
    have hraw : IsRaw a H5 (.ref x) rs := ⟨x, dx, lm, ys, rfl, g1, g2, hrow, by omega, by omega⟩
    have etot : tot rs = ns.sum := by rw [← tot_pair (fun p q h => h.1) hask, tot_zip]
    have hpos : ∀ p ∈ rs, 0 ≤ p.1 := fun p hp => by have := raw_pos hraw p hp; omega
    have nls : V.int 0 = .int 0 := rfl
    have lsne : HO.lst (ns.map V.int) ≠ .lst [] := fun z => by
      injection z with z
      have := congrArg List.length z
      rw [List.length_map, hnl] at this
      cases this
    clear hc hc5 hD4 hx hdx s9 kk ext hD2 t34 s45 hT4 hP4 hT3 hP3 hls s03 s13 s23 s12 ep fp
    -- as it stands
    refine .inr ⟨x, dx, _, rfl, g1, rfl, _, rfl, ?_⟩
    refine .inr ⟨x, dx, _, rfl, g1, rfl, _, rfl, ?_⟩
    refine .inr ⟨x, dx, _, rfl, g1, rfl, _, rs, rfl, hraw, fun H6 s6 => ?_⟩
    refine ⟨ls, ns, rfl, SqL.of (s6 _ _ els5), ?_⟩
    refine iteNS (c := tot rs = ns.sum) etot ?_
    refine ⟨Nat.zero_le _, fun l6 f6 => ?_⟩
    refine ne_l (ns := []) ((s6.trans (Same.new f6)) _ _ el5) upd_same ?_
    have s57 := s6.trans (Same.new (o := .lst []) f6)
    generalize upd H6 l6 (.lst []) = H7 at s57
    clear s6 f6
    have t07 := t05.trans s57.t
    have hT7 := hT5.same s57
    have hP7 := s57 _ _ hP5
    have el7 := s57 _ _ el5
    have els7 := s57 _ _ els5
    have hraw7 := hraw.t s57.t
    have g17 := s57 _ _ g1
    have hask7 : Paired (fun (r : Int × Nat) (s : Int × V) => r.1 = s.1 ∧ IsDef H7 dd_L_noted_1 fvN s.2 [.int (r.2 : Nat), .ref l]) ns.zipIdx rs := paired_imp (fun r s ⟨h1, h2⟩ => ⟨h1, h2.t s57.t⟩) hask
    clear hraw hask hrow t05 hT5 hP5 el5 els5 g1 g2 s57
    -- each part is asked for alone
    refine ⟨5, rfl, by omega, by omega, ?_⟩
    refine for_range (lo := 0) (n := 5) (fun i σ H' => Keep [l] H7 H' ∧ H' l = some (.lst []) ∧ ∃ x5 : Option V, σ = [some (.int c), some (.ref l), some (.ref ls), some (.ref x), some (.int (tot (rs.take i))), x5, none]) ⟨fun b o _ e => e, el7, none, rfl⟩ ?_ ?_
    · rintro i σ H' hi ⟨kp, el, x5, rfl⟩
      obtain ⟨⟨m, f⟩, er⟩ : ∃ r, rs[i]? = some r := ⟨rs[i]'(by omega), List.getElem?_eq_getElem _⟩
      obtain ⟨n, en, n0, n1⟩ : ∃ n, ns[i]? = some n ∧ 1 ≤ n ∧ n ≤ 10 := ⟨ns[i]'(by omega), List.getElem?_eq_getElem _, hns _ (List.getElem_mem _)⟩
      have ez : ns.zipIdx[i]? = some (n, i) := by rw [List.getElem?_zipIdx, en]; simp
      obtain ⟨p2, ez2, hm, hdf⟩ := paired_get hask7 er
      rw [ez] at ez2
      cases ez2
      have hm : n = m := hm
      subst hm
      have hdf : IsDef H7 dd_L_noted_1 fvN f [.int (i : Nat), .ref l] := hdf
      have esucc := tot_succ er
      have tb := tot_take_le (k := i) hpos
      have tb2 := tot_take_le (k := i + 1) hpos
      have c0 := Int.emod_nonneg c (show n ≠ 0 by omega)
      have c1 := Int.emod_lt_of_pos c (show 0 < n by omega)
      rw [show (0 : Int) + (i : Nat) = (i : Nat) from Int.zero_add _]
      refine .inl ?_
      refine ⟨x, dx, _, rfl, keepN el7 kp g17 (fun z => nomatch z), rfl, .inl ⟨ls, _, _, .int n, rfl, rfl, SqL.of (keepN el7 kp els7 lsne), atI_nat (by rw [List.getElem?_map, en]; rfl), cp (by omega), ?_⟩⟩
      refine ⟨_, _, rs, rfl, rfl, raw_k el7 kp hraw7, fun _ => ⟨_, f, rfl, pick_at rs i _ n f hpos er (by omega) (by omega), fun H8 s8 => .inr (.inr (.inr ?_))⟩, fun e => absurd (show 0 ≤ tot (rs.take i) + c % n ∧ tot (rs.take i) + c % n ≤ tot rs - 1 by omega) (of_decide_eq_false e)⟩
      obtain ⟨f', c', clos, e1, k2, k3, k4, k5, k6⟩ := (hdf.k el7 kp).t s8.t
      refine ⟨f', c', clos, _, e1, k2, k3, k4, k5, k6, l, _, [], rfl, rfl, s8 _ _ el, Nat.zero_le _, by omega, by omega, fun H9 u kp9 el9 hu => ?_⟩
      obtain ⟨xu, dxu, tu, nu, rfl, u1, u2, u3⟩ := hu
      have hnu : nu = [(i : Int)] := List.perm_singleton.mp u3.1
      subst hnu
      refine ⟨xu, dxu, _, rfl, u1, rfl, xu, dxu, tu, rfl, u1, ?_⟩
      refine ⟨by show 1 ≤ sizeLine; decide, fun p fp => ?_⟩
      have s10 := Same.new (o := .tup [.int (i : Nat)]) fp
      refine ne_t (ns := [(i : Int)]) (s10 _ _ u2) upd_same ?_
      have kp10 : Keep [l] H8 (upd H9 p (.tup [.int (i : Nat)])) := Keep.trans kp9 (Keep.of s10)
      have el10 := s10 _ _ el9
      generalize upd H9 p (.tup [.int (i : Nat)]) = H10 at kp10 el10
      refine .inl ⟨⟨_, SqL.of el10⟩, fun D3 hD3 => ?_⟩
      refine comp_list (K := K) (a := l) (xs := [.int (i : Nat)]) (fun j zs H' => Same H10 H' ∧ H' D3 = some (.lst zs) ∧ zs = []) ⟨Same.new hD3, upd_same, rfl⟩ (fun j zs H' h => SqL.of (h.1 _ _ el10)) (fun j zs H' h => h.2.1) ?_ ?_
      · rintro j y zs H11 P' hy ⟨t1, hD1, rfl⟩ hP'
        have hy' : y = .int (i : Nat) := by
          have hm := List.mem_of_getElem? hy
          simpa using hm
        subst hy'
        exact ⟨⟨rfl, trivial⟩, iteNS (c := (i : Int) = (i : Int)) rfl (hP' _ _ ⟨t1, hD1, rfl⟩)⟩
      rintro zs H11 ⟨s11, hD11, rfl⟩
      refine ⟨Nat.zero_le _, fun l12 f12 => ?_⟩
      have s12 := Same.new (o := .lst []) f12
      refine ne_l (ns := []) (s12 _ _ hD11) upd_same ?_
      have el12 := s12 _ _ (s11 _ _ el10)
      have kp12 : Keep [l] H8 (upd H11 l12 (.lst [])) := Keep.trans kp10 (Keep.of (s11.trans s12))
      generalize upd H11 l12 (.lst []) = H12 at kp12 el12
      refine ⟨.inl ⟨rfl, _, SqL.of el12⟩, l, _, rfl, rfl, el12, ?_⟩
      have kp13 : Keep [l] H7 (upd H12 l (.lst [])) := Keep.trans (Keep.trans kp (Keep.of s8)) (Keep.trans kp12 fun b o n e => by rw [upd_ne fun z => n (by rw [z]; exact List.mem_singleton.mpr rfl)]; exact e)
      have el13 : (upd H12 l (.lst [])) l = some (.lst []) := upd_same
      generalize upd H12 l (.lst []) = H13 at kp13 el13
      refine .inl ⟨ls, _, _, .int n, rfl, rfl, SqL.of (keepN el7 kp13 els7 lsne), atI_nat (by rw [List.getElem?_map, en]; rfl), ?_⟩
      exact ⟨kp13, el13, _, by rw [esucc]; rfl⟩
    rintro σ H8 ⟨kp, el8, x5, rfl⟩
    have hT8 := tabs_k el7 kp hT7
    have hP8 := keepN el7 kp hP7 (fun z => nomatch z)
    have t08 := sameT_keep t07 (fun e he => by rw [List.mem_singleton.mp he]; exact fl) kp
    have els8 := keepN el7 kp els7 lsne
    have hraw8 := raw_k el7 kp hraw7
    have hask8 : Paired (fun (r : Int × Nat) (s : Int × V) => r.1 = s.1 ∧ IsDef H8 dd_L_noted_1 fvN s.2 [.int (r.2 : Nat), .ref l]) ns.zipIdx rs := paired_imp (fun r s ⟨h1, h2⟩ => ⟨h1, h2.k el7 kp⟩) hask7
    clear kp hT7 hP7 t07 el7 els7 hraw7 hask7 g17
    refine ⟨a.lp_L_late, .inl ⟨T.lch_L_late, hP8⟩, hnt, hT8, fun f c1 T1 H9 kp9 ex9 hT9 f0 c0 t0 ef ec et => ?_⟩
    have t89 := sameT_tab hP8 kp9 ex9
    have hgo : IsGo H9 T1 (.ref f) := ⟨f, c1, rfl, ef, ec, et⟩
    have fT1 : H T1 = none := t08.free t0
    refine ⟨_, _, rs, rfl, hraw8.t t89, hT9, fun H10 u cr t9 hT10 hcr hcar => ?_⟩
    have t810 := t89.trans t9
    obtain ⟨x2, dx2, lm2, ys2, rfl, j1, j2, j3, j4, j5⟩ := hcar
    obtain ⟨rs2, hrow2, hlam2⟩ := car_raw j3
    have hraw10 : IsRaw a H10 (.ref x2) rs2 := ⟨x2, dx2, lm2, ys2, rfl, j1, j2, hrow2, by rw [← hlam2.length]; exact j4, by rw [← hlam2.length]; exact j5⟩
    have etot2 : tot rs2 = ns.sum := by rw [← tot_pair (fun p q h => h.1) hlam2, etot]
    refine .inr ⟨x2, dx2, _, rfl, j1, rfl, _, rs2, rfl, hraw10, fun H11 s11 => ?_⟩
    refine ⟨ls, ns, rfl, SqL.of (s11 _ _ (t810.at els8)), ?_⟩
    refine iteNS (c := tot rs2 = ns.sum) etot2 ?_
    refine ⟨Nat.zero_le _, fun l12 f12 => ?_⟩
    have s12 := s11.trans (Same.new (o := .lst []) f12)
    refine ne_l (ns := []) (s12 _ _ (t810.at el8)) upd_same ?_
    generalize upd H11 l12 (.lst []) = H12 at s12
    clear s11 f12
    -- further on
    obtain ⟨⟨m1, f1⟩, er⟩ : ∃ r, rs[0]? = some r := ⟨rs[0]'(by omega), List.getElem?_eq_getElem _⟩
    have r2l : rs2.length = 5 := by rw [← hlam2.length]; exact rl
    obtain ⟨⟨m2, f2⟩, er2⟩ : ∃ r, rs2[0]? = some r := ⟨rs2[0]'(by omega), List.getElem?_eq_getElem _⟩
    obtain ⟨n, en, n0, n1⟩ : ∃ n, ns[0]? = some n ∧ 1 ≤ n ∧ n ≤ 10 := ⟨ns[0]'(by omega), List.getElem?_eq_getElem _, hns _ (List.getElem_mem _)⟩
    have ez : ns.zipIdx[0]? = some (n, 0) := by rw [List.getElem?_zipIdx, en]; simp
    obtain ⟨p2, ez2, hm, hdf⟩ := paired_get hask8 er
    rw [ez] at ez2
    cases ez2
    obtain ⟨p3, ez3, hm3, hlf⟩ := paired_get hlam2 er2
    rw [er] at ez3
    cases ez3
    have hm : n = m1 := hm
    have hm3 : m1 = m2 := hm3
    subst hm
    subst hm3
    have hdf : IsDef H8 dd_L_noted_1 fvN f1 [.int ((0 : Nat) : Int), .ref l] := hdf
    have hlf : IsLam H10 ld_carried_make_1 fvC f2 [f1, cr] := hlf
    have hpos2 : ∀ p ∈ rs2, 0 ≤ p.1 := fun p hp => by have := raw_pos hraw10 p hp; omega
    have e1 : tot (rs2.take 1) = n := by rw [tot_succ er2]; simp [tot]
    have tb2 := tot_take_le (k := 1) hpos2
    have t812 := t810.trans s12.t
    refine .inl ?_
    refine ⟨x2, dx2, _, rfl, s12 _ _ j1, rfl, ?_⟩
    refine ⟨_, _, rs2, rfl, rfl, hraw10.t s12.t, fun _ => ⟨_, f2, rfl, pick_at rs2 0 0 n f2 hpos2 er2 (by simp [tot]) (by show (0 : Int) < tot (rs2.take 1); omega), fun H13 s13 => .inr (.inl ?_)⟩, fun e => absurd (show (0 : Int) ≤ 0 ∧ (0 : Int) ≤ tot rs2 - 1 by omega) (of_decide_eq_false e)⟩
    have t813 := t812.trans s13.t
    obtain ⟨f', c', clos, e1', k2, k3, k4, k5, k6⟩ := hlf.t (s12.trans s13).t
    have nT1 : ∀ q ∈ tabs a, q.1 ≠ T1 := fun q hq z => by
      obtain ⟨ps, e2, _⟩ := hT9 q hq
      rw [z, et] at e2
      cases e2
    refine ⟨f', c', clos, _, e1', k2, k3, k4, k5, k6, cr, f1, l, ((0 : Nat) : Int), [], T1, .ref f, rfl, rfl, hdf.t t813, t813.at el8, Nat.zero_le _, by omega, by omega, hcr.t (s12.trans s13).t, hgo.t (t9.trans (s12.trans s13).t), hT10.same (s12.trans s13), nT1, fun H14 v t kp14 hT14 el14 et14 hk14 => ?_⟩
    have t014 : SameT H H14 := sameT_keep (t08.trans t813) (fun e he => by
      simp only [List.mem_cons, List.not_mem_nil, or_false] at he
      rcases he with rfl | rfl
      · exact fl
      · exact fT1) kp14
    obtain ⟨fk, hrk, hlk⟩ := hk14
    obtain ⟨xv, dxv, lv, yv, rfl, v1, _⟩ := id hrk
    refine ⟨xv, dxv, _, rfl, v1, rfl, ?_⟩
    refine ⟨_, _, [(2, fk)], rfl, rfl, hrk, fun _ => ⟨_, fk, rfl, rfl, fun H15 s15 => .inr (.inr (.inl ?_))⟩, fun e => absurd (show (0 : Int) ≤ 1 ∧ (1 : Int) ≤ tot [((2 : Int), fk)] - 1 by simp [tot]) (of_decide_eq_false e)⟩
    obtain ⟨f3, c3, clos3, e3, m2, m3, m4, m5, m6⟩ := hlk.t s15.t
    refine ⟨f3, c3, clos3, _, e3, m2, m3, m4, m5, m6, t, [((0 : Nat) : Int)], rfl, rfl, s15 _ _ et14, by show 1 < 64; decide, fun H16 u s16 hu => ?_⟩
    obtain ⟨xu, dxu, tu, nu, rfl, u1, u2, u3⟩ := hu
    have hnu : nu = [((0 : Nat) : Int)] := List.perm_singleton.mp u3.1
    subst hnu
    refine ⟨xu, dxu, _, rfl, u1, rfl, xu, dxu, tu, rfl, u1, ?_⟩
    refine ⟨by show 1 ≤ sizeLine; decide, fun p fp => ?_⟩
    have s17 := Same.new (o := .tup [.int 0]) fp
    refine eq_same (dv_t (ns := [0]) (s17 _ _ u2)) (dv_t (ns := [0]) upd_same) (sh_t [0]) ?_
    have s18 := s15.trans (s16.trans s17)
    generalize upd H16 p (.tup [.int 0]) = H18 at s18
    have el18 := s18 _ _ el14
    refine .inl ⟨⟨_, SqL.of el18⟩, fun D3 hD3 => ?_⟩
    refine comp_list (K := K) (a := l) (xs := [.int 0]) (fun j zs H' => Same H18 H' ∧ H' D3 = some (.lst zs) ∧ zs = []) ⟨Same.new hD3, upd_same, rfl⟩ (fun j zs H' h => SqL.of (h.1 _ _ el18)) (fun j zs H' h => h.2.1) ?_ ?_
    · rintro j y zs H11 P' hy ⟨t1, hD1, rfl⟩ hP'
      have hy' : y = .int 0 := by
        have hm := List.mem_of_getElem? hy
        simpa using hm
      subst hy'
      exact ⟨trivial, hP' _ _ ⟨t1, hD1, rfl⟩⟩
    rintro zs H19 ⟨s19, hD19, rfl⟩
    refine ⟨Nat.zero_le _, fun l20 f20 => ?_⟩
    have s20 := Same.new (o := .lst []) f20
    refine eq_same (dv_l (ns := []) (s20 _ _ hD19)) (dv_l (ns := []) upd_same) (sh_l []) ?_
    have sz := s18.trans (s19.trans s20)
    exact fun H21 s21 hc => q _ (t014.trans (sz.trans s21).t) (hT14.same (sz.trans s21))
end
end My
set_option Elab.async false
set_option linter.all false
set_option maxRecDepth 100000
set_option maxHeartbeats 4000000
namespace My
open PySem L2 FrM
theorem seqT {K : PySem.W.Frag} {H H' : Hp} {p : Addr} {xs : List V} (e : SameT H H') (h : SqL K H p xs) : SqL K H' p xs := by
  rcases h with (h | ⟨o, h⟩) | h
  · exact .inl (.inl (e.at h))
  · exact .inl (.inr ⟨o, e.at h⟩)
  · exact .inr h
theorem cut_mem {xs : List V} {lo hi : Option Int} {x : V} (h : x ∈ cutV xs lo hi) : x ∈ xs := List.mem_of_mem_drop (List.mem_of_mem_take h)
theorem tabs_new' {a : Ad} {ts : List Addr} {H : Hp} (hts : ∀ q ∈ tabsA a, q.1 ∈ ts) (hT0 : ∀ P ∈ ts, H P = some (.tbl #[])) : TabsOk (tabs a) H ∧ H a.lp_L_late = some (.tbl #[]) := by
  have sub : ∀ q ∈ tabs a, q ∈ tabsA a := fun q hq => by
    simp only [tabs, tabsA, List.mem_cons, List.not_mem_nil, or_false] at hq ⊢
    rcases hq with h | h | h | h <;> simp [h]
  refine ⟨fun q hq => ⟨#[], hT0 _ (hts q (sub q hq)), trivial, fun l _ => .inl rfl⟩, hT0 _ (hts (a.lp_L_late, ll_L_late) ?_)⟩
  simp [tabsA]
section
variable {P : Program} {w : World} {K : PySem.W.Frag} {mg : Str → Option Value} {base : Heap} {a : Ad}
abbrev lawK : Nat := 17
theorem ok_law {ts : List Addr} (T : Txt K mg a) (hB : Bm mg base) (hts : ∀ q ∈ tabsA a, q.1 ∈ ts) : FnOk P w K mg base CX0 lawK a.f_law a.d_law ["_law_script"] (spLaw K ts) := by
  have G_L_cell : FnOk P w K mg base CX0 16 _ _ _ (spCell K) := (ok_cell T).mono (by decide)
  have G_L_digits : FnOk P w K mg base CX0 16 _ _ _ spDigits := (ok_digits T).mono (by decide)
  have G_L_tree : FnOk P w K mg base CX0 16 _ _ _ (spTree 5) := (ok_tree T 5).mono (by decide)
  have G_L_node : FnOk P w K mg base CX0 16 _ _ _ (spNode a) := (ok_node T hB).mono (by decide)
  have G_L_late : FnOk P w K mg base CX0 16 _ _ _ (spLate a) := (ok_late T hB).mono (by decide)
  have G_L_alike : FnOk P w K mg base CX0 16 _ _ _ (spAlike a 6) := (ok_alike T hB 6).mono (by decide)
  have G_L_is_told : FnOk P w K mg base CX0 16 _ _ _ (spIsTold a) := (ok_is_told T hB).mono (by decide)
  have G_L_throws : FnOk P w K mg base CX0 16 _ _ _ (spThrows a) := ok_throws T hB
  have G_Told_sides : FnOk P w K mg base CX0 16 _ _ _ (spV (.int 0)) := (ok_ts T).mono (by decide)
  have G_Die_sides : FnOk P w K mg base CX0 16 _ _ _ (spDS a) := (ok_ds T).mono (by decide)
  have G_Told_parts : FnOk P w K mg base CX0 16 _ _ _ spTP := (ok_tp T).mono (by decide)
  have G_Die_parts : FnOk P w K mg base CX0 16 _ _ _ (spDP a) := (ok_dp T hB).mono (by decide)
  have G_Die_after : FnOk P w K mg base CX0 16 _ _ _ (fun vs H Q _ => spDA a vs H Q fun _ _ _ => False) := (calmG (ok_da T hB)).mono (by decide)
  refine T.F_law.ok sc_law (fun vs H Q E h => ?_) (fun cdv A outer s H vs Q E hr h => ?_)
  · obtain ⟨p, ns, rfl, _⟩ := h; rfl
  · obtain ⟨p, ns, rfl, hS, hlen, hT0, q⟩ := h
    have small : sizeLine = 16777216 := sizeLine_eq
    obtain ⟨hT, hP⟩ := tabs_new' hts hT0
    refine ⟨_, (pss_cons (ps_if (pt_not (t_val (pe_call G_L_late hr rfl T.m_L_late T.F_L_late.kp T.B_L_late .nil pass0 (pa_cons (pe_call G_L_cell hr rfl T.m_L_cell T.F_L_cell.kp T.B_L_cell .nil pass0 (pa_cons (vr 0) (pa_cons pe_int pa_nil))) pa_nil)))) (pss_one (ps_ret pe_bl)) pss_nil) (pss_cons (ps_set (i := 1) sc_law.nd rfl (Or.inl rfl) (pe_call G_L_tree hr rfl T.m_L_tree T.F_L_tree.kp T.B_L_tree .nil pass0 (pa_cons (pe_call G_L_digits hr rfl T.m_L_digits T.F_L_digits.kp T.B_L_digits .nil pass0 (pa_cons (pe_call G_L_cell hr rfl T.m_L_cell T.F_L_cell.kp T.B_L_cell .nil pass0 (pa_cons (vr 0) (pa_cons pe_int pa_nil))) pa_nil)) (pa_cons pe_int pa_nil)))) (pss_cons (ps_set (i := 2) sc_law.nd rfl (Or.inl rfl) (pe_call G_L_node hr rfl T.m_L_node T.F_L_node.kp T.B_L_node .nil pass0 (pa_cons (vr 1) pa_nil))) (pss_cons (ps_if (pt_not (t_val (pe_call G_L_alike hr rfl T.m_L_alike T.F_L_alike.kp T.B_L_alike .nil pass0 (pa_cons (vr 2) (pa_cons (vr 1) (pa_cons pe_int pa_nil)))))) (pss_one (ps_ret pe_bl)) pss_nil) (pss_cons (ps_for PassesOwn.never rfl (pi_any (pe_op op_cat (pe_slice sl_any (vr 0) (po_some pe_int) (po_some pe_int)) (pe_lst (pa_cons pe_int pa_nil)))) (pg_name (i := 3) sc_law.nd rfl (Or.inl rfl)) (pss_cons (ps_if (t_val (pe_callB call_isi rfl T.z_isinstance bt_isinstance (pa_cons (vr 1) (pa_cons (pe_bltn (v := .ty "list") rfl T.z_list bt_list rfl) pa_nil)))) (pss_one (ps_ret (pe_call G_L_is_told hr rfl T.m_L_is_told T.F_L_is_told.kp T.B_L_is_told .nil pass0 (pa_cons (vr 2) (pa_cons (vr 1) pa_nil))))) pss_nil) (pss_cons (ps_if (pt_not (t_val (pe_call G_L_throws hr rfl T.m_L_throws T.F_L_throws.kp T.B_L_throws .nil pass0 (pa_cons (vr 2) (pa_cons (vr 1) (pa_cons (vr 3) pa_nil)))))) (pss_one (ps_ret pe_bl)) pss_nil) (pss_cons (ps_set (i := 4) sc_law.nd rfl (Or.inl rfl) (pe_op o_mod (vr 3) (PE.or (pe_meth0 (vr 2) T.cl_Told T.mt_Told_sides G_Told_sides hr T.B_Told_sides .nil pass0) (pe_meth0 (vr 2) T.cl_Die T.mt_Die_sides G_Die_sides hr T.B_Die_sides .nil pass0)))) (pss_cons (ps_set (i := 2) sc_law.nd rfl (Or.inl rfl) (pe_meth (vr 2) T.cl_Die T.mt_Die_after G_Die_after hr T.B_Die_after .nil pass0 (pa_cons (vr 4) pa_nil))) (pss_cons (ps_for PassesOwn.never rfl (pi_any (pe_callTy call_list_of rfl T.z_list bt_list (pa_cons (vr 1) pa_nil))) (pg_tup rfl (pgs_cons (pg_name (i := 5) sc_law.nd rfl (Or.inl rfl)) (pgs_cons (pg_name (i := 6) sc_law.nd rfl (Or.inl rfl)) pgs_nil))) (pss_cons (ps_if (t_cmp o_lt (vr 4) (vr 5) (nomark _)) (pss_cons (ps_set (i := 1) sc_law.nd rfl (Or.inl rfl) (vr 6)) (pss_one ps_break)) pss_nil) (pss_one (ps_set (i := 4) sc_law.nd rfl (Or.inl rfl) (pe_op o_sub (vr 4) (vr 5)))))) (pss_one (ps_if (PW.pt (pw_or (pt_not (t_val (pe_callB call_isi rfl T.z_isinstance bt_isinstance (pa_cons (vr 2) (pa_cons (pe_gl rfl T.g_Node) pa_nil))))) (pw_or1 (t_cmp o_isnot (pe_m.clear (PE.or (pe_meth0 (vr 2) T.cl_Told T.mt_Told_parts G_Told_parts hr T.B_Told_parts .nil pass0) (pe_meth0 (vr 2) T.cl_Die T.mt_Die_parts G_Die_parts hr T.B_Die_parts .nil pass0))) pe_non (nomark _))))) (pss_one (ps_ret pe_bl)) pss_nil)))))))) (pss_one (ps_ret (pe_call G_L_alike hr rfl T.m_L_alike T.F_L_alike.kp T.B_L_alike .nil pass0 (pa_cons (vr 2) (pa_cons (vr 1) (pa_cons pe_int pa_nil))))))))))), ?_⟩
    refine ⟨p, ns, 1, rfl, hS, hlen, by decide, by decide, _, rfl, hT, hP, fun H1 t1 hT1 => ?_⟩
    refine ⟨p, ns, 0, rfl, seqT t1 hS, hlen, by decide, by decide, ⟨_, rfl, fun st n0 fst => ?_⟩⟩
    have s1 := Same.new (o := .lst [.int n0]) fst
    have e1 : (upd H1 st (.lst [.int n0])) st = some (.lst [.int n0]) := upd_same
    generalize upd H1 st (.lst [.int n0]) = Hs at s1 e1
    refine ⟨st, n0, 4, rfl, by decide, by decide, e1, fun H2 v n2 t s2 e2 it => ?_⟩
    have s12 : Same H1 H2 := fun b o e => s2 _ _ (ne_of_none e fst) (s1 _ _ e)
    have hT2 := hT1.same s12
    obtain ⟨H0, hH0⟩ : ∃ H0, H0 = sqH (nw Hs none H2) := ⟨_, rfl⟩
    have hsq : SqH H0 := by rw [hH0]; exact sqH_sq
    have it0 : IsTree H0 4 v t := by rw [hH0]; exact IsTree.m (fun b o c e => sqH_in c e) _ _ _ it
    have s0 : SameT H0 H2 := Same.t fun b o e => by
      rw [hH0] at e
      exact (nw_some (sqH_some e).1).2.2
    clear hH0 it
    refine ⟨v, 4, t, H0, rfl, it0, s0, hT2, fun H3 u t3 hT3 hn3 _ => ?_⟩
    refine ⟨u, v, H0, 4, t, 5, rfl, by decide, ⟨hn3, it0, hsq, s0.trans t3, hT3⟩, fun H4 t4 hT4 => ?_⟩
    have t04 := (t1.trans s12.t).trans (t3.trans t4)
    have z4 := s0.trans (t3.trans t4)
    have hn4 := hn3.t t4
    refine ⟨_, rfl, _, rfl, .inl ⟨_, seqT t04 hS, fun r1 fr1 => ?_⟩⟩
    refine ⟨by show 1 ≤ sizeLine; decide, fun r2 fr2 => ?_⟩
    have u1 := Same.new (o := .lst (cutV (ns.map V.int) (some 1) (some 63))) fr1
    have u2 := Same.new (o := .lst [.int 5]) fr2
    have cl := cutV_length (ns.map V.int) (some 1) (some 63)
    rw [List.length_map] at cl
    refine ⟨r1, r2, _, _, rfl, rfl, u2 _ _ upd_same, upd_same, by show _ + 1 ≤ sizeLine; omega, fun r3 fr3 => ?_⟩
    have u3 := (u1.trans u2).trans (Same.new (o := .lst (cutV (ns.map V.int) (some 1) (some 63) ++ [.int 5])) fr3)
    have hr3 : (upd (upd (upd H4 r1 (.lst (cutV (ns.map V.int) (some 1) (some 63)))) r2 (.lst [.int 5])) r3 (.lst (cutV (ns.map V.int) (some 1) (some 63) ++ [.int 5]))) r3 = some (.lst (cutV (ns.map V.int) (some 1) (some 63) ++ [.int 5])) := upd_same
    generalize upd (upd (upd H4 r1 (.lst (cutV (ns.map V.int) (some 1) (some 63)))) r2 (.lst [.int 5])) r3 (.lst (cutV (ns.map V.int) (some 1) (some 63) ++ [.int 5])) = H5 at u3 hr3
    refine .inl ⟨⟨_, SqL.of hr3⟩, ?_⟩
    refine for_list (K := K) (a := r3) (xs := cutV (ns.map V.int) (some 1) (some 63) ++ [.int 5]) (fun i σ H' => SameT H5 H' ∧ TabsOk (tabs a) H' ∧ ∃ (u v : V) (d : Nat) (t : Tr) (x3 x4 x5 x6 : Option V), σ = [some (.ref p), some v, some u, x3, x4, x5, x6] ∧ IsNode a H0 H' d u t ∧ IsTree H0 d v t ∧ SameT H0 H')
      ⟨SameT.refl, hT4.same u3, u, v, 4, t, none, none, none, none, rfl, hn4.t u3.t, it0, z4.trans u3.t⟩ (fun i σ H' _ h => SqL.of (h.1.at hr3)) ?_ ?_
    · clear hn3 hn4 it0 z4 s0 t04 hT2 hT3 hT4 s12 u1 u2 u3 hr3
      rintro i x σ H' hx ⟨t5, hT5, u, v, d, t, x3, x4, x5, x6, rfl, hn, it, s0⟩
      obtain ⟨c, rfl⟩ : ∃ c, x = .int c := by
        rcases List.mem_append.mp (List.mem_of_getElem? hx) with h | h
        · obtain ⟨c, _, e⟩ := List.mem_map.mp (cut_mem h)
          exact ⟨c, e.symm⟩
        · exact ⟨5, List.mem_singleton.mp h⟩
      cases t with
      | leaf ms =>
        obtain ⟨l, rfl, hl, hm⟩ := (isTree_leaf d).mp it
        refine ⟨_, _, _, true, rfl, rfl, .lst (s0.at hl), rfl, ?_⟩
        exact ⟨_, _, ms, rfl, hn, ⟨l, rfl, s0.at hl, hm⟩, fun H' _ => q _⟩
      | die ps =>
        obtain ⟨d', rfl, hd⟩ := id hn
        obtain ⟨d2, e2, l, vs, rfl, hl, hP2, hl1, hl2⟩ := isTree_die it
        cases e2
        refine ⟨_, _, _, false, rfl, rfl, .tup (s0.at hl), rfl, ?_⟩
        refine ⟨_, _, c, H0, _, ps, rfl, ⟨hn, it, hsq, s0, hT5⟩, fun H6 t6 hT6 => ?_⟩
        obtain ⟨rs, hraw, hpr⟩ := die_raw hd
        have etot := tot_pair (fun p q h => h.1) hpr
        have rpos := raw_pos hraw
        have tpos : 0 < tot rs := by
          obtain ⟨_, _, _, _, _, _, _, _, h5, _⟩ := id hraw
          match rs, h5, rpos with
          | (m, f) :: r, _, rpos =>
            have h1 : 1 ≤ m := rpos (m, f) (List.mem_cons_self ..)
            have h2 := tot_nn r fun p hp => by have := rpos p (List.mem_cons_of_mem _ hp); omega
            rw [tot_cons]
            omega
        obtain ⟨xd, dxd, ld, yd, rfl, hxd, _⟩ := id hd
        refine .inr ⟨xd, dxd, _, rfl, t6.at hxd, rfl, _, rs, rfl, hraw.t t6, fun H7 s7 => ⟨cp tpos, ?_⟩⟩
        have t57 := t6.trans s7.t
        have c0 := Int.emod_nonneg c (show tot rs ≠ 0 by omega)
        have c1 := Int.emod_lt_of_pos c tpos
        obtain ⟨tu, hpk⟩ := pick_some ps (c % tot rs) c0 (by omega)
        refine ⟨xd, dxd, _, rfl, t57.at hxd, rfl, after_tree (hd.t t57) hsq (s0.trans t57) (hT6.same s7) c0 (by omega) hpk fun H8 u8 t8 hT8 hn8 => ?_⟩
        have t58 := t57.trans t8
        refine ⟨l, _, rfl, .inr (SqT.of ((s0.trans t58).at hl)), fun l9 f9 => ?_⟩
        have s9 := Same.new (o := .lst vs) f9
        have e9 : (upd H8 l9 (.lst vs)) l9 = some (.lst vs) := upd_same
        generalize upd H8 l9 (.lst vs) = H9 at s9 e9
        have t59 := t58.trans s9.t
        have hn9 := hn8.t s9.t
        have hT9 := hT8.same s9
        refine .inl ⟨⟨_, SqL.of e9⟩, ?_⟩
        refine for_list (K := K) (a := l9) (xs := vs) (fun j σ H' => H' = H9 ∧ ∃ (t' : Int) (x5 x6 : Option V), σ = [some (.ref p), some (.ref l), some u8, some (.int c), some (.int t'), x5, x6] ∧ pick (ps.drop j) t' = some tu ∧ t' < tot (ps.drop j) ∧ 0 ≤ t') ⟨rfl, _, _, _, rfl, hpk, by show _ < tot ps; omega, c0⟩ (fun j σ H' _ h => by rw [h.1]; exact SqL.of e9) ?_ ?_
        · rintro j y σ H' hy ⟨rfl, t', x5, x6, rfl, hpk', h1, h0⟩
          obtain ⟨⟨many, t2⟩, hpt, q1, w', rfl, hq1, m0, m1, hw⟩ := paired_get hP2 hy
          have hdr : ps.drop j = (many, t2) :: ps.drop (j + 1) := by
            obtain ⟨hi, e⟩ := List.getElem?_eq_some_iff.mp hpt
            rw [List.drop_eq_getElem_cons hi, e]
          rw [hdr] at hpk' h1
          rw [tot_cons] at h1
          unfold pick at hpk'
          refine ⟨q1, _, rfl, SqT.of ((s0.trans t59).at hq1), rfl, _, _, rfl, _, _, rfl, rfl, ?_⟩
          refine ifC (fun cc => ?_) fun cc => ?_
          · rw [if_pos cc] at hpk'
            cases hpk'
            cases tu with
            | leaf ms =>
              obtain ⟨xt, dxt, tt, ks, rfl, hxt, _⟩ := id hn9
              refine ⟨_, _, _, true, rfl, rfl, T.ty_Told _ _ _ _ hxt, T.ktn, ?_⟩
              refine .inl ⟨xt, dxt, _, rfl, hxt, rfl, _, rfl, fun lz fz => ?_⟩
              have ez : (upd H' lz (.lst [])) lz = some (.lst []) := upd_same
              have sz := Same.new (o := .lst []) fz
              refine ⟨.inl ⟨rfl, _, SqL.of ez⟩, lz, _, rfl, rfl, ez, ?_⟩
              have sz2 : Same H' (upd (upd H' lz (.lst [])) lz (.lst [])) := fun b o e => by rw [upd_ne (ne_of_none e fz)]; exact sz _ _ e
              exact ⟨t5.trans (t59.trans sz2.t), hT9.same sz2, _, _, _, _, _, _, _, _, rfl, hn9.t sz2.t, hw, s0.trans (t59.trans sz2.t)⟩
            | die ps' =>
              obtain ⟨d3, e3, hd3⟩ := id hn9
              obtain ⟨xt, dxt, lt, yt, rfl, hxt, _⟩ := id hd3
              refine ⟨_, _, _, true, rfl, rfl, T.ty_Die _ _ _ _ hxt, T.kdn, ?_⟩
              refine .inr ⟨xt, dxt, _, rfl, hxt, rfl, _, H0, d3, ps', rfl, hd3, hsq, s0.trans t59, hT9, fun H10 lz zs tz hTz fz ez _ => ?_⟩
              refine ⟨.inl ⟨rfl, _, SqL.of ez⟩, lz, _, rfl, rfl, ez, ?_⟩
              have tz2 : SameT H' (upd H10 lz (.lst [])) := tz.put fz
              exact ⟨t5.trans (t59.trans tz2), hTz.put (fun ps z => by rw [ez] at z; cases z) (fun φ z => by rw [ez] at z; cases z), _, _, _, _, _, _, _, _, rfl, hn9.t tz2, hw, s0.trans (t59.trans tz2)⟩
          · rw [if_neg cc] at hpk'
            have cc : ¬ t' < many := cc
            exact ⟨rfl, _, _, _, rfl, hpk', by omega, by omega⟩
        · rintro σ H' ⟨rfl, t', x5, x6, rfl, hpk', h1, h0⟩
          rw [show vs.length = ps.length from hP2.length.symm, List.drop_length] at hpk'
          cases hpk'
    · rintro σ H' ⟨t5, hT5, u, v, d, t, x3, x4, x5, x6, rfl, hn, it, s0⟩
      exact ⟨u, v, H0, d, t, 5, rfl, by decide, ⟨hn, it, hsq, s0, hT5⟩, fun H6 _ _ => q _⟩
end
end My
set_option Elab.async false
set_option linter.all false
set_option maxRecDepth 100000
set_option maxHeartbeats 4000000
namespace My
open PySem L2
theorem us0 {α : Type} : ∀ {us : List α}, us.length = 0 → us = []
  | [], _ => rfl
theorem us1 {α : Type} : ∀ {us : List α}, us.length = 1 → ∃ a0, us = [a0]
  | [_], _ => ⟨_, rfl⟩
theorem us2 {α : Type} : ∀ {us : List α}, us.length = 2 → ∃ a0 a1, us = [a0, a1]
  | [_, _], _ => ⟨_, _, rfl⟩
theorem us3 {α : Type} : ∀ {us : List α}, us.length = 3 → ∃ a0 a1 a2, us = [a0, a1, a2]
  | [_, _, _], _ => ⟨_, _, _, rfl⟩
theorem us4 {α : Type} : ∀ {us : List α}, us.length = 4 → ∃ a0 a1 a2 a3, us = [a0, a1, a2, a3]
  | [_, _, _, _], _ => ⟨_, _, _, _, rfl⟩
theorem us5 {α : Type} : ∀ {us : List α}, us.length = 5 → ∃ a0 a1 a2 a3 a4, us = [a0, a1, a2, a3, a4]
  | [_, _, _, _, _], _ => ⟨_, _, _, _, _, rfl⟩
theorem us6 {α : Type} : ∀ {us : List α}, us.length = 6 → ∃ a0 a1 a2 a3 a4 a5, us = [a0, a1, a2, a3, a4, a5]
  | [_, _, _, _, _, _], _ => ⟨_, _, _, _, _, _, rfl⟩
theorem us7 {α : Type} : ∀ {us : List α}, us.length = 7 → ∃ a0 a1 a2 a3 a4 a5 a6, us = [a0, a1, a2, a3, a4, a5, a6]
  | [_, _, _, _, _, _, _], _ => ⟨_, _, _, _, _, _, _, rfl⟩
theorem txt_mk {K : PySem.W.Frag} {h : Heap} {mg : Str → Option Value} {f0 : Addr} {od0 an0 : Option Addr} {sl0 : Array (Option Value)} {oc0 kV0 dc0 pm0 cd0 ct0 : Value} {f1 : Addr} {od1 an1 : Option Addr} {sl1 : Array (Option Value)} {oc1 kV1 dc1 pm1 cd1 ct1 : Value} {f2 : Addr} {od2 an2 : Option Addr} {sl2 : Array (Option Value)} {oc2 kV2 dc2 pm2 cd2 ct2 : Value} {f3 : Addr} {od3 an3 : Option Addr} {sl3 : Array (Option Value)} {oc3 kV3 dc3 pm3 cd3 ct3 : Value} {f4 : Addr} {od4 an4 : Option Addr} {sl4 : Array (Option Value)} {oc4 kV4 dc4 pm4 cd4 ct4 : Value} {f5 : Addr} {od5 an5 : Option Addr} {sl5 : Array (Option Value)} {oc5 kV5 dc5 pm5 cd5 ct5 : Value} {f6 : Addr} {od6 an6 : Option Addr} {sl6 : Array (Option Value)} {oc6 kV6 dc6 pm6 cd6 ct6 : Value} {f7 : Addr} {od7 an7 : Option Addr} {sl7 : Array (Option Value)} {oc7 kV7 dc7 pm7 cd7 ct7 : Value} {f8 : Addr} {od8 an8 : Option Addr} {sl8 : Array (Option Value)} {oc8 kV8 dc8 pm8 cd8 ct8 : Value} {f9 : Addr} {od9 an9 : Option Addr} {sl9 : Array (Option Value)} {oc9 kV9 dc9 pm9 cd9 ct9 : Value} {f10 : Addr} {od10 an10 : Option Addr} {sl10 : Array (Option Value)} {oc10 kV10 dc10 pm10 cd10 ct10 : Value} {f11 : Addr} {od11 an11 : Option Addr} {sl11 : Array (Option Value)} {oc11 kV11 dc11 pm11 cd11 ct11 : Value} {f12 : Addr} {od12 an12 : Option Addr} {sl12 : Array (Option Value)} {oc12 kV12 dc12 pm12 cd12 ct12 : Value} {f13 : Addr} {od13 an13 : Option Addr} {sl13 : Array (Option Value)} {oc13 kV13 dc13 pm13 cd13 ct13 : Value} {f14 : Addr} {od14 an14 : Option Addr} {sl14 : Array (Option Value)} {oc14 kV14 dc14 pm14 cd14 ct14 : Value} {f15 : Addr} {od15 an15 : Option Addr} {sl15 : Array (Option Value)} {oc15 kV15 dc15 pm15 cd15 ct15 : Value} {f16 : Addr} {od16 an16 : Option Addr} {sl16 : Array (Option Value)} {oc16 kV16 dc16 pm16 cd16 ct16 : Value} {f17 : Addr} {od17 an17 : Option Addr} {sl17 : Array (Option Value)} {oc17 kV17 dc17 pm17 cd17 ct17 : Value} {f18 : Addr} {od18 an18 : Option Addr} {sl18 : Array (Option Value)} {oc18 kV18 dc18 pm18 cd18 ct18 : Value} {f19 : Addr} {od19 an19 : Option Addr} {sl19 : Array (Option Value)} {oc19 kV19 dc19 pm19 cd19 ct19 : Value} {c_SpeakError : Addr} {c_NoThrow : Addr} {i_NoThrow : Addr} {od_NoThrow an_NoThrow : Option Addr} {sl_NoThrow : Array (Option Value)} {oc_NoThrow kV_NoThrow dc_NoThrow pm_NoThrow cd_NoThrow ct_NoThrow : Value} {c_Node : Addr} {c_Told : Addr} {i_Told : Addr} {od_Told an_Told : Option Addr} {sl_Told : Array (Option Value)} {oc_Told kV_Told dc_Told pm_Told cd_Told ct_Told : Value} {c_Die : Addr} {i_Die : Addr} {od_Die an_Die : Option Addr} {sl_Die : Array (Option Value)} {oc_Die kV_Die dc_Die pm_Die cd_Die ct_Die : Value} {x_Told_is_told : Addr} {od_Told_is_told an_Told_is_told : Option Addr} {sl_Told_is_told : Array (Option Value)} {oc_Told_is_told kV_Told_is_told dc_Told_is_told pm_Told_is_told cd_Told_is_told ct_Told_is_told : Value} {x_Die_is_told : Addr} {od_Die_is_told an_Die_is_told : Option Addr} {sl_Die_is_told : Array (Option Value)} {oc_Die_is_told kV_Die_is_told dc_Die_is_told pm_Die_is_told cd_Die_is_told ct_Die_is_told : Value} {x_Told_kept : Addr} {od_Told_kept an_Told_kept : Option Addr} {sl_Told_kept : Array (Option Value)} {oc_Told_kept kV_Told_kept dc_Told_kept pm_Told_kept cd_Told_kept ct_Told_kept : Value} {x_Die_kept : Addr} {od_Die_kept an_Die_kept : Option Addr} {sl_Die_kept : Array (Option Value)} {oc_Die_kept kV_Die_kept dc_Die_kept pm_Die_kept cd_Die_kept ct_Die_kept : Value} {x_Told_sides : Addr} {od_Told_sides an_Told_sides : Option Addr} {sl_Told_sides : Array (Option Value)} {oc_Told_sides kV_Told_sides dc_Told_sides pm_Told_sides cd_Told_sides ct_Told_sides : Value} {x_Die_sides : Addr} {od_Die_sides an_Die_sides : Option Addr} {sl_Die_sides : Array (Option Value)} {oc_Die_sides kV_Die_sides dc_Die_sides pm_Die_sides cd_Die_sides ct_Die_sides : Value} {x_Told_parts : Addr} {od_Told_parts an_Told_parts : Option Addr} {sl_Told_parts : Array (Option Value)} {oc_Told_parts kV_Told_parts dc_Told_parts pm_Told_parts cd_Told_parts ct_Told_parts : Value} {x_Die_parts : Addr} {od_Die_parts an_Die_parts : Option Addr} {sl_Die_parts : Array (Option Value)} {oc_Die_parts kV_Die_parts dc_Die_parts pm_Die_parts cd_Die_parts ct_Die_parts : Value} {x_Told_after : Addr} {od_Told_after an_Told_after : Option Addr} {sl_Told_after : Array (Option Value)} {oc_Told_after kV_Told_after dc_Told_after pm_Told_after cd_Told_after ct_Told_after : Value} {x_Die_after : Addr} {od_Die_after an_Die_after : Option Addr} {sl_Die_after : Array (Option Value)} {oc_Die_after kV_Die_after dc_Die_after pm_Die_after cd_Die_after ct_Die_after : Value} {x_Die_carried : Addr} {od_Die_carried an_Die_carried : Option Addr} {sl_Die_carried : Array (Option Value)} {oc_Die_carried kV_Die_carried dc_Die_carried pm_Die_carried cd_Die_carried ct_Die_carried : Value} {lc_L_noted lp_L_noted : Addr} {lo_L_noted : Value} {lod_L_noted : Option Addr} {lvs_L_noted : Array Value} {lsl_L_noted : Array (Option Value)} {lc_behind lp_behind : Addr} {lo_behind : Value} {lod_behind : Option Addr} {lvs_behind : Array Value} {lsl_behind : Array (Option Value)} {lc_L_late lp_L_late : Addr} {lo_L_late : Value} {lod_L_late : Option Addr} {lvs_L_late : Array Value} {lsl_L_late : Array (Option Value)} {lc_L_make lp_L_make : Addr} {lo_L_make : Value} {lod_L_make : Option Addr} {lvs_L_make : Array Value} {lsl_L_make : Array (Option Value)} {lc_carried_make lp_carried_make : Addr} {lo_carried_make : Value} {lod_carried_make : Option Addr} {lvs_carried_make : Array Value} {lsl_carried_make : Array (Option Value)} (X : K.In h) (G : h.Ns mainGlobals mg)
    (a0 : PySem.W.nsIn K mainGlobals "is_whole" = some (some (.ref f0))) (l0 : K.lookup f0 = some ⟨oc0, od0, .func (PySem.W.fnOf "is_whole" "is_whole" (defArgs s_is_whole) (defBody s_is_whole) (defScope s_is_whole) .none kV0 dc0 pm0 an0 cd0 ct0), sl0⟩) (c0 : PySem.W.codeIn K cd0 "is_whole" = true) (k0 : PySem.W.keepIn K (.ref f0) = true)
    (a1 : PySem.W.nsIn K mainGlobals "carried_make" = some (some (.ref f1))) (l1 : K.lookup f1 = some ⟨oc1, od1, .func (PySem.W.fnOf "carried_make" "carried_make" (defArgs s_carried_make) (defBody s_carried_make) (defScope s_carried_make) .none kV1 dc1 pm1 an1 cd1 ct1), sl1⟩) (c1 : PySem.W.codeIn K cd1 "carried_make" = true) (k1 : PySem.W.keepIn K (.ref f1) = true)
    (a2 : PySem.W.nsIn K mainGlobals "can_be_thrown" = some (some (.ref f2))) (l2 : K.lookup f2 = some ⟨oc2, od2, .func (PySem.W.fnOf "can_be_thrown" "can_be_thrown" (defArgs s_can_be_thrown) (defBody s_can_be_thrown) (defScope s_can_be_thrown) .none kV2 dc2 pm2 an2 cd2 ct2), sl2⟩) (c2 : PySem.W.codeIn K cd2 "can_be_thrown" = true) (k2 : PySem.W.keepIn K (.ref f2) = true)
    (a3 : PySem.W.nsIn K mainGlobals "behind" = some (some (.ref f3))) (l3 : K.lookup f3 = some ⟨oc3, od3, .func (PySem.W.fnOf "behind" "behind" (defArgs s_behind) (defBody s_behind) (defScope s_behind) .none kV3 dc3 pm3 an3 cd3 ct3), sl3⟩) (c3 : PySem.W.codeIn K cd3 "behind" = true) (k3 : PySem.W.keepIn K (.ref f3) = true)
    (a4 : PySem.W.nsIn K mainGlobals "_law_cell" = some (some (.ref f4))) (l4 : K.lookup f4 = some ⟨oc4, od4, .func (PySem.W.fnOf "_law_cell" "_law_cell" (defArgs s_L_cell) (defBody s_L_cell) (defScope s_L_cell) .none kV4 dc4 pm4 an4 cd4 ct4), sl4⟩) (c4 : PySem.W.codeIn K cd4 "_law_cell" = true) (k4 : PySem.W.keepIn K (.ref f4) = true)
    (a5 : PySem.W.nsIn K mainGlobals "_law_mix" = some (some (.ref f5))) (l5 : K.lookup f5 = some ⟨oc5, od5, .func (PySem.W.fnOf "_law_mix" "_law_mix" (defArgs s_L_mix) (defBody s_L_mix) (defScope s_L_mix) .none kV5 dc5 pm5 an5 cd5 ct5), sl5⟩) (c5 : PySem.W.codeIn K cd5 "_law_mix" = true) (k5 : PySem.W.keepIn K (.ref f5) = true)
    (a6 : PySem.W.nsIn K mainGlobals "_law_digits" = some (some (.ref f6))) (l6 : K.lookup f6 = some ⟨oc6, od6, .func (PySem.W.fnOf "_law_digits" "_law_digits" (defArgs s_L_digits) (defBody s_L_digits) (defScope s_L_digits) .none kV6 dc6 pm6 an6 cd6 ct6), sl6⟩) (c6 : PySem.W.codeIn K cd6 "_law_digits" = true) (k6 : PySem.W.keepIn K (.ref f6) = true)
    (a7 : PySem.W.nsIn K mainGlobals "_law_take" = some (some (.ref f7))) (l7 : K.lookup f7 = some ⟨oc7, od7, .func (PySem.W.fnOf "_law_take" "_law_take" (defArgs s_L_take) (defBody s_L_take) (defScope s_L_take) .none kV7 dc7 pm7 an7 cd7 ct7), sl7⟩) (c7 : PySem.W.codeIn K cd7 "_law_take" = true) (k7 : PySem.W.keepIn K (.ref f7) = true)
    (a8 : PySem.W.nsIn K mainGlobals "_law_whole" = some (some (.ref f8))) (l8 : K.lookup f8 = some ⟨oc8, od8, .func (PySem.W.fnOf "_law_whole" "_law_whole" (defArgs s_L_whole) (defBody s_L_whole) (defScope s_L_whole) .none kV8 dc8 pm8 an8 cd8 ct8), sl8⟩) (c8 : PySem.W.codeIn K cd8 "_law_whole" = true) (k8 : PySem.W.keepIn K (.ref f8) = true)
    (a9 : PySem.W.nsIn K mainGlobals "_law_kept" = some (some (.ref f9))) (l9 : K.lookup f9 = some ⟨oc9, od9, .func (PySem.W.fnOf "_law_kept" "_law_kept" (defArgs s_L_kept) (defBody s_L_kept) (defScope s_L_kept) .none kV9 dc9 pm9 an9 cd9 ct9), sl9⟩) (c9 : PySem.W.codeIn K cd9 "_law_kept" = true) (k9 : PySem.W.keepIn K (.ref f9) = true)
    (a10 : PySem.W.nsIn K mainGlobals "_law_tree" = some (some (.ref f10))) (l10 : K.lookup f10 = some ⟨oc10, od10, .func (PySem.W.fnOf "_law_tree" "_law_tree" (defArgs s_L_tree) (defBody s_L_tree) (defScope s_L_tree) .none kV10 dc10 pm10 an10 cd10 ct10), sl10⟩) (c10 : PySem.W.codeIn K cd10 "_law_tree" = true) (k10 : PySem.W.keepIn K (.ref f10) = true)
    (a11 : PySem.W.nsIn K mainGlobals "_law_make" = some (some (.ref f11))) (l11 : K.lookup f11 = some ⟨oc11, od11, .func (PySem.W.fnOf "_law_make" "_law_make" (defArgs s_L_make) (defBody s_L_make) (defScope s_L_make) .none kV11 dc11 pm11 an11 cd11 ct11), sl11⟩) (c11 : PySem.W.codeIn K cd11 "_law_make" = true) (k11 : PySem.W.keepIn K (.ref f11) = true)
    (a12 : PySem.W.nsIn K mainGlobals "_law_node" = some (some (.ref f12))) (l12 : K.lookup f12 = some ⟨oc12, od12, .func (PySem.W.fnOf "_law_node" "_law_node" (defArgs s_L_node) (defBody s_L_node) (defScope s_L_node) .none kV12 dc12 pm12 an12 cd12 ct12), sl12⟩) (c12 : PySem.W.codeIn K cd12 "_law_node" = true) (k12 : PySem.W.keepIn K (.ref f12) = true)
    (a13 : PySem.W.nsIn K mainGlobals "_law_refused" = some (some (.ref f13))) (l13 : K.lookup f13 = some ⟨oc13, od13, .func (PySem.W.fnOf "_law_refused" "_law_refused" (defArgs s_L_refused) (defBody s_L_refused) (defScope s_L_refused) .none kV13 dc13 pm13 an13 cd13 ct13), sl13⟩) (c13 : PySem.W.codeIn K cd13 "_law_refused" = true) (k13 : PySem.W.keepIn K (.ref f13) = true)
    (a14 : PySem.W.nsIn K mainGlobals "_law_is_told" = some (some (.ref f14))) (l14 : K.lookup f14 = some ⟨oc14, od14, .func (PySem.W.fnOf "_law_is_told" "_law_is_told" (defArgs s_L_is_told) (defBody s_L_is_told) (defScope s_L_is_told) .none kV14 dc14 pm14 an14 cd14 ct14), sl14⟩) (c14 : PySem.W.codeIn K cd14 "_law_is_told" = true) (k14 : PySem.W.keepIn K (.ref f14) = true)
    (a15 : PySem.W.nsIn K mainGlobals "_law_alike" = some (some (.ref f15))) (l15 : K.lookup f15 = some ⟨oc15, od15, .func (PySem.W.fnOf "_law_alike" "_law_alike" (defArgs s_L_alike) (defBody s_L_alike) (defScope s_L_alike) .none kV15 dc15 pm15 an15 cd15 ct15), sl15⟩) (c15 : PySem.W.codeIn K cd15 "_law_alike" = true) (k15 : PySem.W.keepIn K (.ref f15) = true)
    (a16 : PySem.W.nsIn K mainGlobals "_law_throws" = some (some (.ref f16))) (l16 : K.lookup f16 = some ⟨oc16, od16, .func (PySem.W.fnOf "_law_throws" "_law_throws" (defArgs s_L_throws) (defBody s_L_throws) (defScope s_L_throws) .none kV16 dc16 pm16 an16 cd16 ct16), sl16⟩) (c16 : PySem.W.codeIn K cd16 "_law_throws" = true) (k16 : PySem.W.keepIn K (.ref f16) = true)
    (a17 : PySem.W.nsIn K mainGlobals "_law_noted" = some (some (.ref f17))) (l17 : K.lookup f17 = some ⟨oc17, od17, .func (PySem.W.fnOf "_law_noted" "_law_noted" (defArgs s_L_noted) (defBody s_L_noted) (defScope s_L_noted) .none kV17 dc17 pm17 an17 cd17 ct17), sl17⟩) (c17 : PySem.W.codeIn K cd17 "_law_noted" = true) (k17 : PySem.W.keepIn K (.ref f17) = true)
    (a18 : PySem.W.nsIn K mainGlobals "_law_late" = some (some (.ref f18))) (l18 : K.lookup f18 = some ⟨oc18, od18, .func (PySem.W.fnOf "_law_late" "_law_late" (defArgs s_L_late) (defBody s_L_late) (defScope s_L_late) .none kV18 dc18 pm18 an18 cd18 ct18), sl18⟩) (c18 : PySem.W.codeIn K cd18 "_law_late" = true) (k18 : PySem.W.keepIn K (.ref f18) = true)
    (a19 : PySem.W.nsIn K mainGlobals "law" = some (some (.ref f19))) (l19 : K.lookup f19 = some ⟨oc19, od19, .func (PySem.W.fnOf "law" "law" (defArgs s_law) (defBody s_law) (defScope s_law) .none kV19 dc19 pm19 an19 cd19 ct19), sl19⟩) (c19 : PySem.W.codeIn K cd19 "law" = true) (k19 : PySem.W.keepIn K (.ref f19) = true)
    (ca_SpeakError : PySem.W.nsIn K mainGlobals "SpeakError" = some (some (.ref c_SpeakError))) (cb_SpeakError : PySem.W.keepIn K (.ref c_SpeakError) = true) (cc_SpeakError : xcIn K c_SpeakError = true)
    (cx_SpeakError : xIn K c_SpeakError none = true)
    (ca_NoThrow : PySem.W.nsIn K mainGlobals "NoThrow" = some (some (.ref c_NoThrow))) (cb_NoThrow : PySem.W.keepIn K (.ref c_NoThrow) = true) (cc_NoThrow : xcIn K c_NoThrow = true)
    (cf_NoThrow : PySem.W.findIn K (.ref c_NoThrow) "__init__" = some (some (.ref i_NoThrow))) (cx_NoThrow : xIn K c_NoThrow (some (.ref i_NoThrow)) = true) (cg_NoThrow : PySem.W.isFn K (.ref i_NoThrow) = true)
    (cl_NoThrow : K.lookup i_NoThrow = some ⟨oc_NoThrow, od_NoThrow, .func (PySem.W.fnOf "__init__" "NoThrow.__init__" (defArgs s_NoThrow___init__) (defBody s_NoThrow___init__) (defScope s_NoThrow___init__) .none kV_NoThrow dc_NoThrow pm_NoThrow an_NoThrow cd_NoThrow ct_NoThrow), sl_NoThrow⟩) (co_NoThrow : PySem.W.codeIn K cd_NoThrow "NoThrow.__init__" = true) (ck_NoThrow : PySem.W.keepIn K (.ref i_NoThrow) = true)
    (cs_NoThrow_place : xsIn K c_NoThrow "place" = true)
    (ca_Node : PySem.W.nsIn K mainGlobals "Node" = some (some (.ref c_Node))) (pa_Node : PySem.W.plainGet K c_Node Str.empty = true) (pb_Node : PySem.W.hasDictIn K c_Node = true) (pc_Node : PySem.W.plainOver K c_Node = true)
    (pd_Node : PySem.W.findIn K (.ref c_Node) "__setattr__" = some (some (.builtin "object.__setattr__"))) (pe_Node : PySem.W.findIn K (.ref c_Node) "__class__" = some (some (.builtin "object.__class__"))) (pf_Node : PySem.W.specialIn K (.builtin "object.__class__") "__get__" = some (some (.builtin "getset_descriptor.__get__"))) (pg_Node : PySem.W.takesIn K (.builtin "object.__class__") = some true) (ph_Node : PySem.W.mroIn K c_Node (.type "object") = some true)
    (ca_Told : PySem.W.nsIn K mainGlobals "Told" = some (some (.ref c_Told))) (pa_Told : PySem.W.plainGet K c_Told Str.empty = true) (pb_Told : PySem.W.hasDictIn K c_Told = true) (pc_Told : PySem.W.plainOver K c_Told = true)
    (pd_Told : PySem.W.findIn K (.ref c_Told) "__setattr__" = some (some (.builtin "object.__setattr__"))) (pe_Told : PySem.W.findIn K (.ref c_Told) "__class__" = some (some (.builtin "object.__class__"))) (pf_Told : PySem.W.specialIn K (.builtin "object.__class__") "__get__" = some (some (.builtin "getset_descriptor.__get__"))) (pg_Told : PySem.W.takesIn K (.builtin "object.__class__") = some true) (ph_Told : PySem.W.mroIn K c_Told (.type "object") = some true)
    (qa_Told : PySem.W.makesIn K c_Told = true) (qb_Told : PySem.W.findIn K (.ref c_Told) "__init__" = some (some (.ref i_Told))) (qc_Told : PySem.W.isFn K (.ref i_Told) = true) (qd_Told : PySem.W.keepIn K (.ref c_Told) = true)
    (qn_Told_rising : PySem.W.findIn K (.ref c_Told) "rising" = some none)
    (cl_Told : K.lookup i_Told = some ⟨oc_Told, od_Told, .func (PySem.W.fnOf "__init__" "Told.__init__" (defArgs s_Told___init__) (defBody s_Told___init__) (defScope s_Told___init__) .none kV_Told dc_Told pm_Told an_Told cd_Told ct_Told), sl_Told⟩) (co_Told : PySem.W.codeIn K cd_Told "Told.__init__" = true) (ck_Told : PySem.W.keepIn K (.ref i_Told) = true)
    (ca_Die : PySem.W.nsIn K mainGlobals "Die" = some (some (.ref c_Die))) (pa_Die : PySem.W.plainGet K c_Die Str.empty = true) (pb_Die : PySem.W.hasDictIn K c_Die = true) (pc_Die : PySem.W.plainOver K c_Die = true)
    (pd_Die : PySem.W.findIn K (.ref c_Die) "__setattr__" = some (some (.builtin "object.__setattr__"))) (pe_Die : PySem.W.findIn K (.ref c_Die) "__class__" = some (some (.builtin "object.__class__"))) (pf_Die : PySem.W.specialIn K (.builtin "object.__class__") "__get__" = some (some (.builtin "getset_descriptor.__get__"))) (pg_Die : PySem.W.takesIn K (.builtin "object.__class__") = some true) (ph_Die : PySem.W.mroIn K c_Die (.type "object") = some true)
    (qa_Die : PySem.W.makesIn K c_Die = true) (qb_Die : PySem.W.findIn K (.ref c_Die) "__init__" = some (some (.ref i_Die))) (qc_Die : PySem.W.isFn K (.ref i_Die) = true) (qd_Die : PySem.W.keepIn K (.ref c_Die) = true)
    (qn_Die_makes : PySem.W.findIn K (.ref c_Die) "makes" = some none)
    (cl_Die : K.lookup i_Die = some ⟨oc_Die, od_Die, .func (PySem.W.fnOf "__init__" "Die.__init__" (defArgs s_Die___init__) (defBody s_Die___init__) (defScope s_Die___init__) .none kV_Die dc_Die pm_Die an_Die cd_Die ct_Die), sl_Die⟩) (co_Die : PySem.W.codeIn K cd_Die "Die.__init__" = true) (ck_Die : PySem.W.keepIn K (.ref i_Die) = true)
    (mf_Told_is_told : PySem.W.findIn K (.ref c_Told) "is_told" = some (some (.ref x_Told_is_told)))
    (ml_Told_is_told : K.lookup x_Told_is_told = some ⟨oc_Told_is_told, od_Told_is_told, .func (PySem.W.fnOf "is_told" "Told.is_told" (defArgs s_Told_is_told) (defBody s_Told_is_told) (defScope s_Told_is_told) .none kV_Told_is_told dc_Told_is_told pm_Told_is_told an_Told_is_told cd_Told_is_told ct_Told_is_told), sl_Told_is_told⟩) (mo_Told_is_told : PySem.W.codeIn K cd_Told_is_told "Told.is_told" = true) (mk_Told_is_told : PySem.W.keepIn K (.ref x_Told_is_told) = true) (mi_Told_is_told : PySem.W.isFn K (.ref x_Told_is_told) = true)
    (mf_Die_is_told : PySem.W.findIn K (.ref c_Die) "is_told" = some (some (.ref x_Die_is_told)))
    (ml_Die_is_told : K.lookup x_Die_is_told = some ⟨oc_Die_is_told, od_Die_is_told, .func (PySem.W.fnOf "is_told" "Die.is_told" (defArgs s_Die_is_told) (defBody s_Die_is_told) (defScope s_Die_is_told) .none kV_Die_is_told dc_Die_is_told pm_Die_is_told an_Die_is_told cd_Die_is_told ct_Die_is_told), sl_Die_is_told⟩) (mo_Die_is_told : PySem.W.codeIn K cd_Die_is_told "Die.is_told" = true) (mk_Die_is_told : PySem.W.keepIn K (.ref x_Die_is_told) = true) (mi_Die_is_told : PySem.W.isFn K (.ref x_Die_is_told) = true)
    (mf_Told_kept : PySem.W.findIn K (.ref c_Told) "kept" = some (some (.ref x_Told_kept)))
    (ml_Told_kept : K.lookup x_Told_kept = some ⟨oc_Told_kept, od_Told_kept, .func (PySem.W.fnOf "kept" "Told.kept" (defArgs s_Told_kept) (defBody s_Told_kept) (defScope s_Told_kept) .none kV_Told_kept dc_Told_kept pm_Told_kept an_Told_kept cd_Told_kept ct_Told_kept), sl_Told_kept⟩) (mo_Told_kept : PySem.W.codeIn K cd_Told_kept "Told.kept" = true) (mk_Told_kept : PySem.W.keepIn K (.ref x_Told_kept) = true) (mi_Told_kept : PySem.W.isFn K (.ref x_Told_kept) = true)
    (mf_Die_kept : PySem.W.findIn K (.ref c_Die) "kept" = some (some (.ref x_Die_kept)))
    (ml_Die_kept : K.lookup x_Die_kept = some ⟨oc_Die_kept, od_Die_kept, .func (PySem.W.fnOf "kept" "Die.kept" (defArgs s_Die_kept) (defBody s_Die_kept) (defScope s_Die_kept) .none kV_Die_kept dc_Die_kept pm_Die_kept an_Die_kept cd_Die_kept ct_Die_kept), sl_Die_kept⟩) (mo_Die_kept : PySem.W.codeIn K cd_Die_kept "Die.kept" = true) (mk_Die_kept : PySem.W.keepIn K (.ref x_Die_kept) = true) (mi_Die_kept : PySem.W.isFn K (.ref x_Die_kept) = true)
    (mf_Told_sides : PySem.W.findIn K (.ref c_Told) "sides" = some (some (.ref x_Told_sides)))
    (ml_Told_sides : K.lookup x_Told_sides = some ⟨oc_Told_sides, od_Told_sides, .func (PySem.W.fnOf "sides" "Told.sides" (defArgs s_Told_sides) (defBody s_Told_sides) (defScope s_Told_sides) .none kV_Told_sides dc_Told_sides pm_Told_sides an_Told_sides cd_Told_sides ct_Told_sides), sl_Told_sides⟩) (mo_Told_sides : PySem.W.codeIn K cd_Told_sides "Told.sides" = true) (mk_Told_sides : PySem.W.keepIn K (.ref x_Told_sides) = true) (mi_Told_sides : PySem.W.isFn K (.ref x_Told_sides) = true)
    (mf_Die_sides : PySem.W.findIn K (.ref c_Die) "sides" = some (some (.ref x_Die_sides)))
    (ml_Die_sides : K.lookup x_Die_sides = some ⟨oc_Die_sides, od_Die_sides, .func (PySem.W.fnOf "sides" "Die.sides" (defArgs s_Die_sides) (defBody s_Die_sides) (defScope s_Die_sides) .none kV_Die_sides dc_Die_sides pm_Die_sides an_Die_sides cd_Die_sides ct_Die_sides), sl_Die_sides⟩) (mo_Die_sides : PySem.W.codeIn K cd_Die_sides "Die.sides" = true) (mk_Die_sides : PySem.W.keepIn K (.ref x_Die_sides) = true) (mi_Die_sides : PySem.W.isFn K (.ref x_Die_sides) = true)
    (mf_Told_parts : PySem.W.findIn K (.ref c_Told) "parts" = some (some (.ref x_Told_parts)))
    (ml_Told_parts : K.lookup x_Told_parts = some ⟨oc_Told_parts, od_Told_parts, .func (PySem.W.fnOf "parts" "Told.parts" (defArgs s_Told_parts) (defBody s_Told_parts) (defScope s_Told_parts) .none kV_Told_parts dc_Told_parts pm_Told_parts an_Told_parts cd_Told_parts ct_Told_parts), sl_Told_parts⟩) (mo_Told_parts : PySem.W.codeIn K cd_Told_parts "Told.parts" = true) (mk_Told_parts : PySem.W.keepIn K (.ref x_Told_parts) = true) (mi_Told_parts : PySem.W.isFn K (.ref x_Told_parts) = true)
    (mf_Die_parts : PySem.W.findIn K (.ref c_Die) "parts" = some (some (.ref x_Die_parts)))
    (ml_Die_parts : K.lookup x_Die_parts = some ⟨oc_Die_parts, od_Die_parts, .func (PySem.W.fnOf "parts" "Die.parts" (defArgs s_Die_parts) (defBody s_Die_parts) (defScope s_Die_parts) .none kV_Die_parts dc_Die_parts pm_Die_parts an_Die_parts cd_Die_parts ct_Die_parts), sl_Die_parts⟩) (mo_Die_parts : PySem.W.codeIn K cd_Die_parts "Die.parts" = true) (mk_Die_parts : PySem.W.keepIn K (.ref x_Die_parts) = true) (mi_Die_parts : PySem.W.isFn K (.ref x_Die_parts) = true)
    (mf_Told_after : PySem.W.findIn K (.ref c_Told) "after" = some (some (.ref x_Told_after)))
    (ml_Told_after : K.lookup x_Told_after = some ⟨oc_Told_after, od_Told_after, .func (PySem.W.fnOf "after" "Told.after" (defArgs s_Told_after) (defBody s_Told_after) (defScope s_Told_after) .none kV_Told_after dc_Told_after pm_Told_after an_Told_after cd_Told_after ct_Told_after), sl_Told_after⟩) (mo_Told_after : PySem.W.codeIn K cd_Told_after "Told.after" = true) (mk_Told_after : PySem.W.keepIn K (.ref x_Told_after) = true) (mi_Told_after : PySem.W.isFn K (.ref x_Told_after) = true)
    (mf_Die_after : PySem.W.findIn K (.ref c_Die) "after" = some (some (.ref x_Die_after)))
    (ml_Die_after : K.lookup x_Die_after = some ⟨oc_Die_after, od_Die_after, .func (PySem.W.fnOf "after" "Die.after" (defArgs s_Die_after) (defBody s_Die_after) (defScope s_Die_after) .none kV_Die_after dc_Die_after pm_Die_after an_Die_after cd_Die_after ct_Die_after), sl_Die_after⟩) (mo_Die_after : PySem.W.codeIn K cd_Die_after "Die.after" = true) (mk_Die_after : PySem.W.keepIn K (.ref x_Die_after) = true) (mi_Die_after : PySem.W.isFn K (.ref x_Die_after) = true)
    (mf_Die_carried : PySem.W.findIn K (.ref c_Die) "carried" = some (some (.ref x_Die_carried)))
    (ml_Die_carried : K.lookup x_Die_carried = some ⟨oc_Die_carried, od_Die_carried, .func (PySem.W.fnOf "carried" "Die.carried" (defArgs s_Die_carried) (defBody s_Die_carried) (defScope s_Die_carried) .none kV_Die_carried dc_Die_carried pm_Die_carried an_Die_carried cd_Die_carried ct_Die_carried), sl_Die_carried⟩) (mo_Die_carried : PySem.W.codeIn K cd_Die_carried "Die.carried" = true) (mk_Die_carried : PySem.W.keepIn K (.ref x_Die_carried) = true) (mi_Die_carried : PySem.W.isFn K (.ref x_Die_carried) = true)
    (lca_L_noted : cd17 = .ref lc_L_noted) (lct_L_noted : K.lookup lc_L_noted = some ⟨lo_L_noted, lod_L_noted, .fields lvs_L_noted, lsl_L_noted⟩) (lcq_L_noted : lvs_L_noted[11]? = some (.ref lp_L_noted)) (lch_L_noted : PySem.W.codeHdIn K lc_L_noted lp_L_noted = true)
    (lca_behind : cd3 = .ref lc_behind) (lct_behind : K.lookup lc_behind = some ⟨lo_behind, lod_behind, .fields lvs_behind, lsl_behind⟩) (lcq_behind : lvs_behind[11]? = some (.ref lp_behind)) (lch_behind : PySem.W.codeHdIn K lc_behind lp_behind = true)
    (lca_L_late : cd18 = .ref lc_L_late) (lct_L_late : K.lookup lc_L_late = some ⟨lo_L_late, lod_L_late, .fields lvs_L_late, lsl_L_late⟩) (lcq_L_late : lvs_L_late[11]? = some (.ref lp_L_late)) (lch_L_late : PySem.W.codeHdIn K lc_L_late lp_L_late = true)
    (lca_L_make : cd11 = .ref lc_L_make) (lct_L_make : K.lookup lc_L_make = some ⟨lo_L_make, lod_L_make, .fields lvs_L_make, lsl_L_make⟩) (lcq_L_make : lvs_L_make[11]? = some (.ref lp_L_make)) (lch_L_make : PySem.W.codeHdIn K lc_L_make lp_L_make = true)
    (lca_carried_make : cd1 = .ref lc_carried_make) (lct_carried_make : K.lookup lc_carried_make = some ⟨lo_carried_make, lod_carried_make, .fields lvs_carried_make, lsl_carried_make⟩) (lcq_carried_make : lvs_carried_make[11]? = some (.ref lp_carried_make)) (lch_carried_make : PySem.W.codeHdIn K lc_carried_make lp_carried_make = true)
    (ltnd : ([lp_L_noted, lp_behind, lp_L_late, lp_L_make, lp_carried_make] : List Addr).Nodup)
    (fact_tn : mroIn' K c_NoThrow c_NoThrow = true)
    (fact_ktn : PySem.W.kitOne K (.ref c_Told) (.ref c_Node) = some true)
    (fact_kdn : PySem.W.kitOne K (.ref c_Die) (.ref c_Node) = some true)
    (fact_ktt : PySem.W.kitOne K (.ref c_Told) (.ref c_Told) = some true)
    (fact_ktd : PySem.W.kitOne K (.ref c_Told) (.ref c_Die) = some false)
    (fact_kdd : PySem.W.kitOne K (.ref c_Die) (.ref c_Die) = some true)
    (z0 : PySem.W.nsIn K mainGlobals "abs" = some none)
    (z1 : PySem.W.nsIn K mainGlobals "bool" = some none)
    (z2 : PySem.W.nsIn K mainGlobals "int" = some none)
    (z3 : PySem.W.nsIn K mainGlobals "isinstance" = some none)
    (z4 : PySem.W.nsIn K mainGlobals "len" = some none)
    (z5 : PySem.W.nsIn K mainGlobals "list" = some none)
    (z6 : PySem.W.nsIn K mainGlobals "range" = some none)
    (z7 : PySem.W.nsIn K mainGlobals "sorted" = some none)
    (z8 : PySem.W.nsIn K mainGlobals "sum" = some none)
    (z9 : PySem.W.nsIn K mainGlobals "tuple" = some none)  : ∃ a : Ad, Txt K mg a ∧ (tabsA a).map (·.1) = [lp_L_noted, lp_behind, lp_L_late, lp_L_make, lp_carried_make] := by
  refine ⟨{ f_is_whole := f0, d_is_whole := PySem.W.fnOf "is_whole" "is_whole" (defArgs s_is_whole) (defBody s_is_whole) (defScope s_is_whole) .none kV0 dc0 pm0 an0 cd0 ct0, f_carried_make := f1, d_carried_make := PySem.W.fnOf "carried_make" "carried_make" (defArgs s_carried_make) (defBody s_carried_make) (defScope s_carried_make) .none kV1 dc1 pm1 an1 cd1 ct1, f_can_be_thrown := f2, d_can_be_thrown := PySem.W.fnOf "can_be_thrown" "can_be_thrown" (defArgs s_can_be_thrown) (defBody s_can_be_thrown) (defScope s_can_be_thrown) .none kV2 dc2 pm2 an2 cd2 ct2, f_behind := f3, d_behind := PySem.W.fnOf "behind" "behind" (defArgs s_behind) (defBody s_behind) (defScope s_behind) .none kV3 dc3 pm3 an3 cd3 ct3, f_L_cell := f4, d_L_cell := PySem.W.fnOf "_law_cell" "_law_cell" (defArgs s_L_cell) (defBody s_L_cell) (defScope s_L_cell) .none kV4 dc4 pm4 an4 cd4 ct4, f_L_mix := f5, d_L_mix := PySem.W.fnOf "_law_mix" "_law_mix" (defArgs s_L_mix) (defBody s_L_mix) (defScope s_L_mix) .none kV5 dc5 pm5 an5 cd5 ct5, f_L_digits := f6, d_L_digits := PySem.W.fnOf "_law_digits" "_law_digits" (defArgs s_L_digits) (defBody s_L_digits) (defScope s_L_digits) .none kV6 dc6 pm6 an6 cd6 ct6, f_L_take := f7, d_L_take := PySem.W.fnOf "_law_take" "_law_take" (defArgs s_L_take) (defBody s_L_take) (defScope s_L_take) .none kV7 dc7 pm7 an7 cd7 ct7, f_L_whole := f8, d_L_whole := PySem.W.fnOf "_law_whole" "_law_whole" (defArgs s_L_whole) (defBody s_L_whole) (defScope s_L_whole) .none kV8 dc8 pm8 an8 cd8 ct8, f_L_kept := f9, d_L_kept := PySem.W.fnOf "_law_kept" "_law_kept" (defArgs s_L_kept) (defBody s_L_kept) (defScope s_L_kept) .none kV9 dc9 pm9 an9 cd9 ct9, f_L_tree := f10, d_L_tree := PySem.W.fnOf "_law_tree" "_law_tree" (defArgs s_L_tree) (defBody s_L_tree) (defScope s_L_tree) .none kV10 dc10 pm10 an10 cd10 ct10, f_L_make := f11, d_L_make := PySem.W.fnOf "_law_make" "_law_make" (defArgs s_L_make) (defBody s_L_make) (defScope s_L_make) .none kV11 dc11 pm11 an11 cd11 ct11, f_L_node := f12, d_L_node := PySem.W.fnOf "_law_node" "_law_node" (defArgs s_L_node) (defBody s_L_node) (defScope s_L_node) .none kV12 dc12 pm12 an12 cd12 ct12, f_L_refused := f13, d_L_refused := PySem.W.fnOf "_law_refused" "_law_refused" (defArgs s_L_refused) (defBody s_L_refused) (defScope s_L_refused) .none kV13 dc13 pm13 an13 cd13 ct13, f_L_is_told := f14, d_L_is_told := PySem.W.fnOf "_law_is_told" "_law_is_told" (defArgs s_L_is_told) (defBody s_L_is_told) (defScope s_L_is_told) .none kV14 dc14 pm14 an14 cd14 ct14, f_L_alike := f15, d_L_alike := PySem.W.fnOf "_law_alike" "_law_alike" (defArgs s_L_alike) (defBody s_L_alike) (defScope s_L_alike) .none kV15 dc15 pm15 an15 cd15 ct15, f_L_throws := f16, d_L_throws := PySem.W.fnOf "_law_throws" "_law_throws" (defArgs s_L_throws) (defBody s_L_throws) (defScope s_L_throws) .none kV16 dc16 pm16 an16 cd16 ct16, f_L_noted := f17, d_L_noted := PySem.W.fnOf "_law_noted" "_law_noted" (defArgs s_L_noted) (defBody s_L_noted) (defScope s_L_noted) .none kV17 dc17 pm17 an17 cd17 ct17, f_L_late := f18, d_L_late := PySem.W.fnOf "_law_late" "_law_late" (defArgs s_L_late) (defBody s_L_late) (defScope s_L_late) .none kV18 dc18 pm18 an18 cd18 ct18, f_law := f19, d_law := PySem.W.fnOf "law" "law" (defArgs s_law) (defBody s_law) (defScope s_law) .none kV19 dc19 pm19 an19 cd19 ct19, c_SpeakError := c_SpeakError, c_NoThrow := c_NoThrow, i_NoThrow := i_NoThrow, e_NoThrow := PySem.W.fnOf "__init__" "NoThrow.__init__" (defArgs s_NoThrow___init__) (defBody s_NoThrow___init__) (defScope s_NoThrow___init__) .none kV_NoThrow dc_NoThrow pm_NoThrow an_NoThrow cd_NoThrow ct_NoThrow, c_Node := c_Node, c_Told := c_Told, i_Told := i_Told, e_Told := PySem.W.fnOf "__init__" "Told.__init__" (defArgs s_Told___init__) (defBody s_Told___init__) (defScope s_Told___init__) .none kV_Told dc_Told pm_Told an_Told cd_Told ct_Told, c_Die := c_Die, i_Die := i_Die, e_Die := PySem.W.fnOf "__init__" "Die.__init__" (defArgs s_Die___init__) (defBody s_Die___init__) (defScope s_Die___init__) .none kV_Die dc_Die pm_Die an_Die cd_Die ct_Die, x_Told_is_told := x_Told_is_told, y_Told_is_told := PySem.W.fnOf "is_told" "Told.is_told" (defArgs s_Told_is_told) (defBody s_Told_is_told) (defScope s_Told_is_told) .none kV_Told_is_told dc_Told_is_told pm_Told_is_told an_Told_is_told cd_Told_is_told ct_Told_is_told, x_Die_is_told := x_Die_is_told, y_Die_is_told := PySem.W.fnOf "is_told" "Die.is_told" (defArgs s_Die_is_told) (defBody s_Die_is_told) (defScope s_Die_is_told) .none kV_Die_is_told dc_Die_is_told pm_Die_is_told an_Die_is_told cd_Die_is_told ct_Die_is_told, x_Told_kept := x_Told_kept, y_Told_kept := PySem.W.fnOf "kept" "Told.kept" (defArgs s_Told_kept) (defBody s_Told_kept) (defScope s_Told_kept) .none kV_Told_kept dc_Told_kept pm_Told_kept an_Told_kept cd_Told_kept ct_Told_kept, x_Die_kept := x_Die_kept, y_Die_kept := PySem.W.fnOf "kept" "Die.kept" (defArgs s_Die_kept) (defBody s_Die_kept) (defScope s_Die_kept) .none kV_Die_kept dc_Die_kept pm_Die_kept an_Die_kept cd_Die_kept ct_Die_kept, x_Told_sides := x_Told_sides, y_Told_sides := PySem.W.fnOf "sides" "Told.sides" (defArgs s_Told_sides) (defBody s_Told_sides) (defScope s_Told_sides) .none kV_Told_sides dc_Told_sides pm_Told_sides an_Told_sides cd_Told_sides ct_Told_sides, x_Die_sides := x_Die_sides, y_Die_sides := PySem.W.fnOf "sides" "Die.sides" (defArgs s_Die_sides) (defBody s_Die_sides) (defScope s_Die_sides) .none kV_Die_sides dc_Die_sides pm_Die_sides an_Die_sides cd_Die_sides ct_Die_sides, x_Told_parts := x_Told_parts, y_Told_parts := PySem.W.fnOf "parts" "Told.parts" (defArgs s_Told_parts) (defBody s_Told_parts) (defScope s_Told_parts) .none kV_Told_parts dc_Told_parts pm_Told_parts an_Told_parts cd_Told_parts ct_Told_parts, x_Die_parts := x_Die_parts, y_Die_parts := PySem.W.fnOf "parts" "Die.parts" (defArgs s_Die_parts) (defBody s_Die_parts) (defScope s_Die_parts) .none kV_Die_parts dc_Die_parts pm_Die_parts an_Die_parts cd_Die_parts ct_Die_parts, x_Told_after := x_Told_after, y_Told_after := PySem.W.fnOf "after" "Told.after" (defArgs s_Told_after) (defBody s_Told_after) (defScope s_Told_after) .none kV_Told_after dc_Told_after pm_Told_after an_Told_after cd_Told_after ct_Told_after, x_Die_after := x_Die_after, y_Die_after := PySem.W.fnOf "after" "Die.after" (defArgs s_Die_after) (defBody s_Die_after) (defScope s_Die_after) .none kV_Die_after dc_Die_after pm_Die_after an_Die_after cd_Die_after ct_Die_after, x_Die_carried := x_Die_carried, y_Die_carried := PySem.W.fnOf "carried" "Die.carried" (defArgs s_Die_carried) (defBody s_Die_carried) (defScope s_Die_carried) .none kV_Die_carried dc_Die_carried pm_Die_carried an_Die_carried cd_Die_carried ct_Die_carried, lc_L_noted := lc_L_noted, lp_L_noted := lp_L_noted, lc_behind := lc_behind, lp_behind := lp_behind, lc_L_late := lc_L_late, lp_L_late := lp_L_late, lc_L_make := lc_L_make, lp_L_make := lp_L_make, lc_carried_make := lc_carried_make, lp_carried_make := lp_carried_make }, ?_, rfl⟩
  exact {
    lcd_L_noted := lca_L_noted
    lch_L_noted := lch_L_noted
    lcd_behind := lca_behind
    lch_behind := lch_behind
    lcd_L_late := lca_L_late
    lch_L_late := lch_L_late
    lcd_L_make := lca_L_make
    lch_L_make := lch_L_make
    lcd_carried_make := lca_carried_make
    lch_carried_make := lch_carried_make
    tnd := ltnd.sublist (.cons₂ _ (.cons₂ _ (.cons _ (.cons₂ _ (.cons₂ _ .slnil)))))
    tndA := ltnd
    F_is_whole := fun_mk (st := s_is_whole) l0 c0 k0
    B_is_whole := (fun_mk (st := s_is_whole) l0 c0 k0).binds (ps := ["thing", "low", "high"]) fun _ _ _ _ _ _ us hl => (by obtain ⟨_, _, _, rfl⟩ := us3 hl; rfl)
    m_is_whole := PySem.W.mg_of X G a0
    F_carried_make := fun_mk (st := s_carried_make) l1 c1 k1
    B_carried_make := (fun_mk (st := s_carried_make) l1 c1 k1).binds (ps := ["make", "carry"]) fun _ _ _ _ _ _ us hl => (by obtain ⟨_, _, rfl⟩ := us2 hl; rfl)
    m_carried_make := PySem.W.mg_of X G a1
    F_can_be_thrown := fun_mk (st := s_can_be_thrown) l2 c2 k2
    B_can_be_thrown := (fun_mk (st := s_can_be_thrown) l2 c2 k2).binds (ps := ["node", "throw"]) fun _ _ _ _ _ _ us hl => (by obtain ⟨_, _, rfl⟩ := us2 hl; rfl)
    m_can_be_thrown := PySem.W.mg_of X G a2
    F_behind := fun_mk (st := s_behind) l3 c3 k3
    B_behind := (fun_mk (st := s_behind) l3 c3 k3).binds (ps := ["node", "go"]) fun _ _ _ _ _ _ us hl => (by obtain ⟨_, _, rfl⟩ := us2 hl; rfl)
    m_behind := PySem.W.mg_of X G a3
    F_L_cell := fun_mk (st := s_L_cell) l4 c4 k4
    B_L_cell := (fun_mk (st := s_L_cell) l4 c4 k4).binds (ps := ["_law_script", "_law_k"]) fun _ _ _ _ _ _ us hl => (by obtain ⟨_, _, rfl⟩ := us2 hl; rfl)
    m_L_cell := PySem.W.mg_of X G a4
    F_L_mix := fun_mk (st := s_L_mix) l5 c5 k5
    B_L_mix := (fun_mk (st := s_L_mix) l5 c5 k5).binds (ps := ["_law_cell_here", "_law_k"]) fun _ _ _ _ _ _ us hl => (by obtain ⟨_, _, rfl⟩ := us2 hl; rfl)
    m_L_mix := PySem.W.mg_of X G a5
    F_L_digits := fun_mk (st := s_L_digits) l6 c6 k6
    B_L_digits := (fun_mk (st := s_L_digits) l6 c6 k6).binds (ps := ["_law_cell_here"]) fun _ _ _ _ _ _ us hl => (by obtain ⟨_, rfl⟩ := us1 hl; rfl)
    m_L_digits := PySem.W.mg_of X G a6
    F_L_take := fun_mk (st := s_L_take) l7 c7 k7
    B_L_take := (fun_mk (st := s_L_take) l7 c7 k7).binds (ps := ["_law_state", "_law_many"]) fun _ _ _ _ _ _ us hl => (by obtain ⟨_, _, rfl⟩ := us2 hl; rfl)
    m_L_take := PySem.W.mg_of X G a7
    F_L_whole := fun_mk (st := s_L_whole) l8 c8 k8
    B_L_whole := (fun_mk (st := s_L_whole) l8 c8 k8).binds (ps := ["_law_found"]) fun _ _ _ _ _ _ us hl => (by obtain ⟨_, rfl⟩ := us1 hl; rfl)
    m_L_whole := PySem.W.mg_of X G a8
    F_L_kept := fun_mk (st := s_L_kept) l9 c9 k9
    B_L_kept := (fun_mk (st := s_L_kept) l9 c9 k9).binds (ps := ["_law_state"]) fun _ _ _ _ _ _ us hl => (by obtain ⟨_, rfl⟩ := us1 hl; rfl)
    m_L_kept := PySem.W.mg_of X G a9
    F_L_tree := fun_mk (st := s_L_tree) l10 c10 k10
    B_L_tree := (fun_mk (st := s_L_tree) l10 c10 k10).binds (ps := ["_law_state", "_law_deep"]) fun _ _ _ _ _ _ us hl => (by obtain ⟨_, _, rfl⟩ := us2 hl; rfl)
    m_L_tree := PySem.W.mg_of X G a10
    F_L_make := fun_mk (st := s_L_make) l11 c11 k11
    B_L_make := (fun_mk (st := s_L_make) l11 c11 k11).binds (ps := ["_law_tree_here"]) fun _ _ _ _ _ _ us hl => (by obtain ⟨_, rfl⟩ := us1 hl; rfl)
    m_L_make := PySem.W.mg_of X G a11
    F_L_node := fun_mk (st := s_L_node) l12 c12 k12
    B_L_node := (fun_mk (st := s_L_node) l12 c12 k12).binds (ps := ["_law_tree_here"]) fun _ _ _ _ _ _ us hl => (by obtain ⟨_, rfl⟩ := us1 hl; rfl)
    m_L_node := PySem.W.mg_of X G a12
    F_L_refused := fun_mk (st := s_L_refused) l13 c13 k13
    B_L_refused := (fun_mk (st := s_L_refused) l13 c13 k13).binds (ps := ["_law_node_here", "_law_throw"]) fun _ _ _ _ _ _ us hl => (by obtain ⟨_, _, rfl⟩ := us2 hl; rfl)
    m_L_refused := PySem.W.mg_of X G a13
    F_L_is_told := fun_mk (st := s_L_is_told) l14 c14 k14
    B_L_is_told := (fun_mk (st := s_L_is_told) l14 c14 k14).binds (ps := ["_law_node_here", "_law_tree_here"]) fun _ _ _ _ _ _ us hl => (by obtain ⟨_, _, rfl⟩ := us2 hl; rfl)
    m_L_is_told := PySem.W.mg_of X G a14
    F_L_alike := fun_mk (st := s_L_alike) l15 c15 k15
    B_L_alike := (fun_mk (st := s_L_alike) l15 c15 k15).binds (ps := ["_law_node_here", "_law_tree_here", "_law_deep"]) fun _ _ _ _ _ _ us hl => (by obtain ⟨_, _, _, rfl⟩ := us3 hl; rfl)
    m_L_alike := PySem.W.mg_of X G a15
    F_L_throws := fun_mk (st := s_L_throws) l16 c16 k16
    B_L_throws := (fun_mk (st := s_L_throws) l16 c16 k16).binds (ps := ["_law_node_here", "_law_tree_here", "_law_cell_here"]) fun _ _ _ _ _ _ us hl => (by obtain ⟨_, _, _, rfl⟩ := us3 hl; rfl)
    m_L_throws := PySem.W.mg_of X G a16
    F_L_noted := fun_mk (st := s_L_noted) l17 c17 k17
    B_L_noted := (fun_mk (st := s_L_noted) l17 c17 k17).binds (ps := ["_law_many", "_law_asked_here"]) fun _ _ _ _ _ _ us hl => (by obtain ⟨_, _, rfl⟩ := us2 hl; rfl)
    m_L_noted := PySem.W.mg_of X G a17
    F_L_late := fun_mk (st := s_L_late) l18 c18 k18
    B_L_late := (fun_mk (st := s_L_late) l18 c18 k18).binds (ps := ["_law_cell_here"]) fun _ _ _ _ _ _ us hl => (by obtain ⟨_, rfl⟩ := us1 hl; rfl)
    m_L_late := PySem.W.mg_of X G a18
    F_law := fun_mk (st := s_law) l19 c19 k19
    B_law := (fun_mk (st := s_law) l19 c19 k19).binds (ps := ["_law_script"]) fun _ _ _ _ _ _ us hl => (by obtain ⟨_, rfl⟩ := us1 hl; rfl)
    m_law := PySem.W.mg_of X G a19
    F_Told_is_told := fun_mk (st := s_Told_is_told) ml_Told_is_told mo_Told_is_told mk_Told_is_told
    B_Told_is_told := (fun_mk (st := s_Told_is_told) ml_Told_is_told mo_Told_is_told mk_Told_is_told).binds (ps := ["self"]) fun _ _ _ _ _ _ us hl => (by obtain ⟨_, rfl⟩ := us1 hl; rfl)
    F_Die_is_told := fun_mk (st := s_Die_is_told) ml_Die_is_told mo_Die_is_told mk_Die_is_told
    B_Die_is_told := (fun_mk (st := s_Die_is_told) ml_Die_is_told mo_Die_is_told mk_Die_is_told).binds (ps := ["self"]) fun _ _ _ _ _ _ us hl => (by obtain ⟨_, rfl⟩ := us1 hl; rfl)
    F_Told_kept := fun_mk (st := s_Told_kept) ml_Told_kept mo_Told_kept mk_Told_kept
    B_Told_kept := (fun_mk (st := s_Told_kept) ml_Told_kept mo_Told_kept mk_Told_kept).binds (ps := ["self"]) fun _ _ _ _ _ _ us hl => (by obtain ⟨_, rfl⟩ := us1 hl; rfl)
    F_Die_kept := fun_mk (st := s_Die_kept) ml_Die_kept mo_Die_kept mk_Die_kept
    B_Die_kept := (fun_mk (st := s_Die_kept) ml_Die_kept mo_Die_kept mk_Die_kept).binds (ps := ["self"]) fun _ _ _ _ _ _ us hl => (by obtain ⟨_, rfl⟩ := us1 hl; rfl)
    F_Told_sides := fun_mk (st := s_Told_sides) ml_Told_sides mo_Told_sides mk_Told_sides
    B_Told_sides := (fun_mk (st := s_Told_sides) ml_Told_sides mo_Told_sides mk_Told_sides).binds (ps := ["self"]) fun _ _ _ _ _ _ us hl => (by obtain ⟨_, rfl⟩ := us1 hl; rfl)
    F_Die_sides := fun_mk (st := s_Die_sides) ml_Die_sides mo_Die_sides mk_Die_sides
    B_Die_sides := (fun_mk (st := s_Die_sides) ml_Die_sides mo_Die_sides mk_Die_sides).binds (ps := ["self"]) fun _ _ _ _ _ _ us hl => (by obtain ⟨_, rfl⟩ := us1 hl; rfl)
    F_Told_parts := fun_mk (st := s_Told_parts) ml_Told_parts mo_Told_parts mk_Told_parts
    B_Told_parts := (fun_mk (st := s_Told_parts) ml_Told_parts mo_Told_parts mk_Told_parts).binds (ps := ["self"]) fun _ _ _ _ _ _ us hl => (by obtain ⟨_, rfl⟩ := us1 hl; rfl)
    F_Die_parts := fun_mk (st := s_Die_parts) ml_Die_parts mo_Die_parts mk_Die_parts
    B_Die_parts := (fun_mk (st := s_Die_parts) ml_Die_parts mo_Die_parts mk_Die_parts).binds (ps := ["self"]) fun _ _ _ _ _ _ us hl => (by obtain ⟨_, rfl⟩ := us1 hl; rfl)
    F_Told_after := fun_mk (st := s_Told_after) ml_Told_after mo_Told_after mk_Told_after
    B_Told_after := (fun_mk (st := s_Told_after) ml_Told_after mo_Told_after mk_Told_after).binds (ps := ["self", "throw"]) fun _ _ _ _ _ _ us hl => (by obtain ⟨_, _, rfl⟩ := us2 hl; rfl)
    F_Die_after := fun_mk (st := s_Die_after) ml_Die_after mo_Die_after mk_Die_after
    B_Die_after := (fun_mk (st := s_Die_after) ml_Die_after mo_Die_after mk_Die_after).binds (ps := ["self", "throw"]) fun _ _ _ _ _ _ us hl => (by obtain ⟨_, _, rfl⟩ := us2 hl; rfl)
    F_Die_carried := fun_mk (st := s_Die_carried) ml_Die_carried mo_Die_carried mk_Die_carried
    B_Die_carried := (fun_mk (st := s_Die_carried) ml_Die_carried mo_Die_carried mk_Die_carried).binds (ps := ["self", "carry"]) fun _ _ _ _ _ _ us hl => (by obtain ⟨_, _, rfl⟩ := us2 hl; rfl)
    mt_Told_is_told := ⟨mf_Told_is_told, mi_Told_is_told, mk_Told_is_told⟩
    mt_Die_is_told := ⟨mf_Die_is_told, mi_Die_is_told, mk_Die_is_told⟩
    mt_Told_kept := ⟨mf_Told_kept, mi_Told_kept, mk_Told_kept⟩
    mt_Die_kept := ⟨mf_Die_kept, mi_Die_kept, mk_Die_kept⟩
    mt_Told_sides := ⟨mf_Told_sides, mi_Told_sides, mk_Told_sides⟩
    mt_Die_sides := ⟨mf_Die_sides, mi_Die_sides, mk_Die_sides⟩
    mt_Told_parts := ⟨mf_Told_parts, mi_Told_parts, mk_Told_parts⟩
    mt_Die_parts := ⟨mf_Die_parts, mi_Die_parts, mk_Die_parts⟩
    mt_Told_after := ⟨mf_Told_after, mi_Told_after, mk_Told_after⟩
    mt_Die_after := ⟨mf_Die_after, mi_Die_after, mk_Die_after⟩
    mt_Die_carried := ⟨mf_Die_carried, mi_Die_carried, mk_Die_carried⟩
    mc_Node := PySem.W.mg_of X G ca_Node
    g_Node := ⟨_, PySem.W.mg_of X G ca_Node, rfl⟩
    cl_Node := ⟨pa_Node, pb_Node, pc_Node, pd_Node⟩
    ty_Node := fun H x dx fs e => .ins e ⟨pa_Node, pb_Node, pc_Node, pd_Node⟩ pe_Node pf_Node pg_Node ph_Node
    mc_Told := PySem.W.mg_of X G ca_Told
    g_Told := ⟨_, PySem.W.mg_of X G ca_Told, rfl⟩
    cl_Told := ⟨pa_Told, pb_Told, pc_Told, pd_Told⟩
    ty_Told := fun H x dx fs e => .ins e ⟨pa_Told, pb_Told, pc_Told, pd_Told⟩ pe_Told pf_Told pg_Told ph_Told
    mk_Told := ⟨qa_Told, qb_Told, qc_Told, qd_Told⟩
    na_Told_rising := qn_Told_rising
    Fi_Told := fun_mk (st := s_Told___init__) cl_Told co_Told ck_Told
    Bi_Told := (fun_mk (st := s_Told___init__) cl_Told co_Told ck_Told).binds (ps := ["self", "kept"]) fun _ _ _ _ _ _ us hl => (by obtain ⟨_, _, rfl⟩ := us2 hl; rfl)
    mc_Die := PySem.W.mg_of X G ca_Die
    g_Die := ⟨_, PySem.W.mg_of X G ca_Die, rfl⟩
    cl_Die := ⟨pa_Die, pb_Die, pc_Die, pd_Die⟩
    ty_Die := fun H x dx fs e => .ins e ⟨pa_Die, pb_Die, pc_Die, pd_Die⟩ pe_Die pf_Die pg_Die ph_Die
    mk_Die := ⟨qa_Die, qb_Die, qc_Die, qd_Die⟩
    na_Die_makes := qn_Die_makes
    Fi_Die := fun_mk (st := s_Die___init__) cl_Die co_Die ck_Die
    Bi_Die := (fun_mk (st := s_Die___init__) cl_Die co_Die ck_Die).binds (ps := ["self", "parts"]) fun _ _ _ _ _ _ us hl => (by obtain ⟨_, _, rfl⟩ := us2 hl; rfl)
    mc_SpeakError := PySem.W.mg_of X G ca_SpeakError
    g_SpeakError := ⟨_, PySem.W.mg_of X G ca_SpeakError, rfl⟩
    kc_SpeakError := cb_SpeakError
    xc_SpeakError := xc_of cc_SpeakError
    xh_SpeakError := xh_of cc_SpeakError
    xi_SpeakError := cx_SpeakError
    mc_NoThrow := PySem.W.mg_of X G ca_NoThrow
    g_NoThrow := ⟨_, PySem.W.mg_of X G ca_NoThrow, rfl⟩
    kc_NoThrow := cb_NoThrow
    xc_NoThrow := xc_of cc_NoThrow
    xh_NoThrow := xh_of cc_NoThrow
    xi_NoThrow := cx_NoThrow
    fn_NoThrow := cg_NoThrow
    Fi_NoThrow := fun_mk (st := s_NoThrow___init__) cl_NoThrow co_NoThrow ck_NoThrow
    Bi_NoThrow := (fun_mk (st := s_NoThrow___init__) cl_NoThrow co_NoThrow ck_NoThrow).binds (ps := ["self", "place"]) fun _ _ _ _ _ _ us hl => (by obtain ⟨_, _, rfl⟩ := us2 hl; rfl)
    sx_NoThrow_place := xs_of cs_NoThrow_place
    tn := fact_tn
    ktn := fact_ktn
    kdn := fact_kdn
    ktt := fact_ktt
    ktd := fact_ktd
    kdd := fact_kdd
    z_abs := PySem.W.mg_none_of X G z0
    z_bool := PySem.W.mg_none_of X G z1
    z_int := PySem.W.mg_none_of X G z2
    z_isinstance := PySem.W.mg_none_of X G z3
    z_len := PySem.W.mg_none_of X G z4
    z_list := PySem.W.mg_none_of X G z5
    z_range := PySem.W.mg_none_of X G z6
    z_sorted := PySem.W.mg_none_of X G z7
    z_sum := PySem.W.mg_none_of X G z8
    z_tuple := PySem.W.mg_none_of X G z9
    bl := fun s u => .of_eq rfl }
end My
open PySem PySem.W PyProof.Rows
set_option maxRecDepth 100000 in
set_option maxHeartbeats 0 in
theorem PySem.Challenge.cw_fewspeak_k12_dice_walked_holds : PySem.Challenge.rw_fewspeak_k12_dice_walked.Holds := by
  w_on; o_law; k_head; (case hw => w_witness2)
  k_fill
  refine L2.walk_ofT (l := PySem.Challenge.rw_fewspeak_k12_dice_walked) (n := 63) (k := My.lawK) (x := "_law_script") (CX := L2.CX0) (sp := My.spLaw) rfl (by decide) rfl ⟨rfl, by decide, by decide⟩ (fun w h Y => ⟨PySem.W.km_in_of Y, PySem.W.km_tabs_of Y⟩) ?F ?S ?C
  case F =>
    intro ts' hts w mg fa h KX G hmg
    have T : ∃ a, My.Txt (L2.KOf KX) mg a ∧ (My.tabsA a).map (·.1) = ts' := by
      rw [hts]
      dsimp only [L2.KOf]
      refine' My.txt_mk KX G ?a0 ?l0 ?c0 ?k0 ?a1 ?l1 ?c1 ?k1 ?a2 ?l2 ?c2 ?k2 ?a3 ?l3 ?c3 ?k3 ?a4 ?l4 ?c4 ?k4 ?a5 ?l5 ?c5 ?k5 ?a6 ?l6 ?c6 ?k6 ?a7 ?l7 ?c7 ?k7 ?a8 ?l8 ?c8 ?k8 ?a9 ?l9 ?c9 ?k9 ?a10 ?l10 ?c10 ?k10 ?a11 ?l11 ?c11 ?k11 ?a12 ?l12 ?c12 ?k12 ?a13 ?l13 ?c13 ?k13 ?a14 ?l14 ?c14 ?k14 ?a15 ?l15 ?c15 ?k15 ?a16 ?l16 ?c16 ?k16 ?a17 ?l17 ?c17 ?k17 ?a18 ?l18 ?c18 ?k18 ?a19 ?l19 ?c19 ?k19 ?ca_SpeakError ?cb_SpeakError ?cc_SpeakError ?cx_SpeakError ?ca_NoThrow ?cb_NoThrow ?cc_NoThrow ?cf_NoThrow ?cx_NoThrow ?cg_NoThrow ?cl_NoThrow ?co_NoThrow ?ck_NoThrow ?cs_NoThrow_place ?ca_Node ?pa_Node ?pb_Node ?pc_Node ?pd_Node ?pe_Node ?pf_Node ?pg_Node ?ph_Node ?ca_Told ?pa_Told ?pb_Told ?pc_Told ?pd_Told ?pe_Told ?pf_Told ?pg_Told ?ph_Told ?qa_Told ?qb_Told ?qc_Told ?qd_Told ?qn_Told_rising ?cl_Told ?co_Told ?ck_Told ?ca_Die ?pa_Die ?pb_Die ?pc_Die ?pd_Die ?pe_Die ?pf_Die ?pg_Die ?ph_Die ?qa_Die ?qb_Die ?qc_Die ?qd_Die ?qn_Die_makes ?cl_Die ?co_Die ?ck_Die ?mf_Told_is_told ?ml_Told_is_told ?mo_Told_is_told ?mk_Told_is_told ?mi_Told_is_told ?mf_Die_is_told ?ml_Die_is_told ?mo_Die_is_told ?mk_Die_is_told ?mi_Die_is_told ?mf_Told_kept ?ml_Told_kept ?mo_Told_kept ?mk_Told_kept ?mi_Told_kept ?mf_Die_kept ?ml_Die_kept ?mo_Die_kept ?mk_Die_kept ?mi_Die_kept ?mf_Told_sides ?ml_Told_sides ?mo_Told_sides ?mk_Told_sides ?mi_Told_sides ?mf_Die_sides ?ml_Die_sides ?mo_Die_sides ?mk_Die_sides ?mi_Die_sides ?mf_Told_parts ?ml_Told_parts ?mo_Told_parts ?mk_Told_parts ?mi_Told_parts ?mf_Die_parts ?ml_Die_parts ?mo_Die_parts ?mk_Die_parts ?mi_Die_parts ?mf_Told_after ?ml_Told_after ?mo_Told_after ?mk_Told_after ?mi_Told_after ?mf_Die_after ?ml_Die_after ?mo_Die_after ?mk_Die_after ?mi_Die_after ?mf_Die_carried ?ml_Die_carried ?mo_Die_carried ?mk_Die_carried ?mi_Die_carried ?lca_L_noted ?lct_L_noted ?lcq_L_noted ?lch_L_noted ?lca_behind ?lct_behind ?lcq_behind ?lch_behind ?lca_L_late ?lct_L_late ?lcq_L_late ?lch_L_late ?lca_L_make ?lct_L_make ?lcq_L_make ?lch_L_make ?lca_carried_make ?lct_carried_make ?lcq_carried_make ?lch_carried_make ?ltnd ?fact_tn ?fact_ktn ?fact_kdn ?fact_ktt ?fact_ktd ?fact_kdd ?z0 ?z1 ?z2 ?z3 ?z4 ?z5 ?z6 ?z7 ?z8 ?z9
      (case a0 => k_is)
      (case l0 => k_is)
      (case c0 => k_is)
      (case k0 => k_is)
      (case a1 => k_is)
      (case l1 => k_is)
      (case c1 => k_is)
      (case k1 => k_is)
      (case a2 => k_is)
      (case l2 => k_is)
      (case c2 => k_is)
      (case k2 => k_is)
      (case a3 => k_is)
      (case l3 => k_is)
      (case c3 => k_is)
      (case k3 => k_is)
      (case a4 => k_is)
      (case l4 => k_is)
      (case c4 => k_is)
      (case k4 => k_is)
      (case a5 => k_is)
      (case l5 => k_is)
      (case c5 => k_is)
      (case k5 => k_is)
      (case a6 => k_is)
      (case l6 => k_is)
      (case c6 => k_is)
      (case k6 => k_is)
      (case a7 => k_is)
      (case l7 => k_is)
      (case c7 => k_is)
      (case k7 => k_is)
      (case a8 => k_is)
      (case l8 => k_is)
      (case c8 => k_is)
      (case k8 => k_is)
      (case a9 => k_is)
      (case l9 => k_is)
      (case c9 => k_is)
      (case k9 => k_is)
      (case a10 => k_is)
      (case l10 => k_is)
      (case c10 => k_is)
      (case k10 => k_is)
      (case a11 => k_is)
      (case l11 => k_is)
      (case c11 => k_is)
      (case k11 => k_is)
      (case a12 => k_is)
      (case l12 => k_is)
      (case c12 => k_is)
      (case k12 => k_is)
      (case a13 => k_is)
      (case l13 => k_is)
      (case c13 => k_is)
      (case k13 => k_is)
      (case a14 => k_is)
      (case l14 => k_is)
      (case c14 => k_is)
      (case k14 => k_is)
      (case a15 => k_is)
      (case l15 => k_is)
      (case c15 => k_is)
      (case k15 => k_is)
      (case a16 => k_is)
      (case l16 => k_is)
      (case c16 => k_is)
      (case k16 => k_is)
      (case a17 => k_is)
      (case l17 => k_is)
      (case c17 => k_is)
      (case k17 => k_is)
      (case a18 => k_is)
      (case l18 => k_is)
      (case c18 => k_is)
      (case k18 => k_is)
      (case a19 => k_is)
      (case l19 => k_is)
      (case c19 => k_is)
      (case k19 => k_is)
      (case ca_SpeakError => k_is)
      (case cb_SpeakError => k_is)
      (case cc_SpeakError => kernel_rfl)
      (case cx_SpeakError => kernel_rfl)
      (case ca_NoThrow => k_is)
      (case cb_NoThrow => k_is)
      (case cc_NoThrow => kernel_rfl)
      (case cf_NoThrow => k_is)
      (case cx_NoThrow => kernel_rfl)
      (case cg_NoThrow => k_is)
      (case cl_NoThrow => k_is)
      (case co_NoThrow => k_is)
      (case ck_NoThrow => k_is)
      (case cs_NoThrow_place => kernel_rfl)
      (case ca_Node => k_is)
      (case pa_Node => (first | k_is | kernel_rfl))
      (case pb_Node => (first | k_is | kernel_rfl))
      (case pc_Node => (first | k_is | kernel_rfl))
      (case pd_Node => (first | k_is | kernel_rfl))
      (case pe_Node => (first | k_is | kernel_rfl))
      (case pf_Node => (first | k_is | kernel_rfl))
      (case pg_Node => (first | k_is | kernel_rfl))
      (case ph_Node => (first | k_is | kernel_rfl))
      (case ca_Told => k_is)
      (case pa_Told => (first | k_is | kernel_rfl))
      (case pb_Told => (first | k_is | kernel_rfl))
      (case pc_Told => (first | k_is | kernel_rfl))
      (case pd_Told => (first | k_is | kernel_rfl))
      (case pe_Told => (first | k_is | kernel_rfl))
      (case pf_Told => (first | k_is | kernel_rfl))
      (case pg_Told => (first | k_is | kernel_rfl))
      (case ph_Told => (first | k_is | kernel_rfl))
      (case qa_Told => (first | k_is | kernel_rfl))
      (case qb_Told => (first | k_is | kernel_rfl))
      (case qc_Told => (first | k_is | kernel_rfl))
      (case qd_Told => (first | k_is | kernel_rfl))
      (case qn_Told_rising => (first | k_is | kernel_rfl))
      (case cl_Told => k_is)
      (case co_Told => k_is)
      (case ck_Told => k_is)
      (case ca_Die => k_is)
      (case pa_Die => (first | k_is | kernel_rfl))
      (case pb_Die => (first | k_is | kernel_rfl))
      (case pc_Die => (first | k_is | kernel_rfl))
      (case pd_Die => (first | k_is | kernel_rfl))
      (case pe_Die => (first | k_is | kernel_rfl))
      (case pf_Die => (first | k_is | kernel_rfl))
      (case pg_Die => (first | k_is | kernel_rfl))
      (case ph_Die => (first | k_is | kernel_rfl))
      (case qa_Die => (first | k_is | kernel_rfl))
      (case qb_Die => (first | k_is | kernel_rfl))
      (case qc_Die => (first | k_is | kernel_rfl))
      (case qd_Die => (first | k_is | kernel_rfl))
      (case qn_Die_makes => (first | k_is | kernel_rfl))
      (case cl_Die => k_is)
      (case co_Die => k_is)
      (case ck_Die => k_is)
      (case mf_Told_is_told => (first | k_is | kernel_rfl))
      (case ml_Told_is_told => k_is)
      (case mo_Told_is_told => k_is)
      (case mk_Told_is_told => k_is)
      (case mi_Told_is_told => (first | k_is | kernel_rfl))
      (case mf_Die_is_told => (first | k_is | kernel_rfl))
      (case ml_Die_is_told => k_is)
      (case mo_Die_is_told => k_is)
      (case mk_Die_is_told => k_is)
      (case mi_Die_is_told => (first | k_is | kernel_rfl))
      (case mf_Told_kept => (first | k_is | kernel_rfl))
      (case ml_Told_kept => k_is)
      (case mo_Told_kept => k_is)
      (case mk_Told_kept => k_is)
      (case mi_Told_kept => (first | k_is | kernel_rfl))
      (case mf_Die_kept => (first | k_is | kernel_rfl))
      (case ml_Die_kept => k_is)
      (case mo_Die_kept => k_is)
      (case mk_Die_kept => k_is)
      (case mi_Die_kept => (first | k_is | kernel_rfl))
      (case mf_Told_sides => (first | k_is | kernel_rfl))
      (case ml_Told_sides => k_is)
      (case mo_Told_sides => k_is)
      (case mk_Told_sides => k_is)
      (case mi_Told_sides => (first | k_is | kernel_rfl))
      (case mf_Die_sides => (first | k_is | kernel_rfl))
      (case ml_Die_sides => k_is)
      (case mo_Die_sides => k_is)
      (case mk_Die_sides => k_is)
      (case mi_Die_sides => (first | k_is | kernel_rfl))
      (case mf_Told_parts => (first | k_is | kernel_rfl))
      (case ml_Told_parts => k_is)
      (case mo_Told_parts => k_is)
      (case mk_Told_parts => k_is)
      (case mi_Told_parts => (first | k_is | kernel_rfl))
      (case mf_Die_parts => (first | k_is | kernel_rfl))
      (case ml_Die_parts => k_is)
      (case mo_Die_parts => k_is)
      (case mk_Die_parts => k_is)
      (case mi_Die_parts => (first | k_is | kernel_rfl))
      (case mf_Told_after => (first | k_is | kernel_rfl))
      (case ml_Told_after => k_is)
      (case mo_Told_after => k_is)
      (case mk_Told_after => k_is)
      (case mi_Told_after => (first | k_is | kernel_rfl))
      (case mf_Die_after => (first | k_is | kernel_rfl))
      (case ml_Die_after => k_is)
      (case mo_Die_after => k_is)
      (case mk_Die_after => k_is)
      (case mi_Die_after => (first | k_is | kernel_rfl))
      (case mf_Die_carried => (first | k_is | kernel_rfl))
      (case ml_Die_carried => k_is)
      (case mo_Die_carried => k_is)
      (case mk_Die_carried => k_is)
      (case mi_Die_carried => (first | k_is | kernel_rfl))
      (case lca_L_noted => exact rfl)
      (case lct_L_noted => k_is)
      (case lcq_L_noted => exact rfl)
      (case lch_L_noted => kernel_rfl)
      (case lca_behind => exact rfl)
      (case lct_behind => k_is)
      (case lcq_behind => exact rfl)
      (case lch_behind => kernel_rfl)
      (case lca_L_late => exact rfl)
      (case lct_L_late => k_is)
      (case lcq_L_late => exact rfl)
      (case lch_L_late => kernel_rfl)
      (case lca_L_make => exact rfl)
      (case lct_L_make => k_is)
      (case lcq_L_make => exact rfl)
      (case lch_L_make => kernel_rfl)
      (case lca_carried_make => exact rfl)
      (case lct_carried_make => k_is)
      (case lcq_carried_make => exact rfl)
      (case lch_carried_make => kernel_rfl)
      (case ltnd => decide)
      (case fact_tn => kernel_rfl)
      (case fact_ktn => kernel_rfl)
      (case fact_kdn => kernel_rfl)
      (case fact_ktt => kernel_rfl)
      (case fact_ktd => kernel_rfl)
      (case fact_kdd => kernel_rfl)
      (case z0 => k_is)
      (case z1 => k_is)
      (case z2 => k_is)
      (case z3 => k_is)
      (case z4 => k_is)
      (case z5 => k_is)
      (case z6 => k_is)
      (case z7 => k_is)
      (case z8 => k_is)
      (case z9 => k_is)
    obtain ⟨a, T, e1⟩ := T
    have e1 := e1.trans hts
    have e0 := hmg.symm.trans T.m_law
    cases e0
    refine' ⟨a.d_law, ?b, ?t, ?u, fun base kb nb hB => My.ok_law T hB ?v⟩
    case b => exact T.bl
    case t =>
      intro P hP
      have hP := e1.symm ▸ hP
      simp only [My.tabsA, List.map_cons, List.map_nil, List.mem_cons, List.not_mem_nil, or_false] at hP
      rcases hP with rfl | rfl | rfl | rfl | rfl
      · exact ⟨_, T.lch_L_noted⟩
      · exact ⟨_, T.lch_behind⟩
      · exact ⟨_, T.lch_L_late⟩
      · exact ⟨_, T.lch_L_make⟩
      · exact ⟨_, T.lch_carried_make⟩
    case u =>
      intro P hP
      simp only [List.mem_cons, List.not_mem_nil, or_false] at hP
      rcases hP with rfl | rfl | rfl | rfl | rfl <;> kernel_rfl
    case v =>
      intro q hq
      rw [← e1]
      exact List.mem_map_of_mem hq
  case S => exact fun K H a ns hl hO hS => My.law_start hl hO hS
  case C => exact fun H s e s' z => z
